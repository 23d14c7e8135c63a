import PyProof.Rows.All
import Wide.All
import OpenK.AllK
import Wide.FinOn
import Lean
import PyProof.EqAt
import PyProof.EqKinds
import PyProof.TupleCall
import PyProof.Rows.Range3
import PyProof.ZipIter
import PyProof.Draws
import PyProof.EnumMake
import PyProof.Rows.FactsTup
import PyProof.LayNew
import PyProof.Rows.SeqMore2
import PyProof.Rows.RuleIs
import KE.KRevIter
import PyProof.P3In
import KE.KSortTup
import PyProof.Rows.SortWalk
import PyProof.Rows.SetFrom
import KE.KIntText
import PyProof.StrOps2
import PySem.Challenge.RW_tellsum_k51_solutions_judged
set_option Elab.async false
set_option linter.all false
set_option bootstrap.genMatcherCode false
set_option compiler.extract_closed false
set_option maxRecDepth 100000
local macro_rules | `(tactic| trivial) => `(tactic| first|exact Or.inl rfl|exact Or.inr rfl|exact Or.inr (Or.inl rfl)|exact Or.inr (Or.inr rfl))
theorem xE02 {P Q:Prop}{C:Prop}(h:P∧Q)(k:P→Q→C):C:=by obtain⟨p,q⟩:=h;exact k p q
theorem xE03 {P Q R:Prop}{C:Prop}(h:P∧Q∧R)(k:P→Q→R→C):C:=by obtain⟨p,q,r⟩:=h;exact k p q r
theorem xE04 {P Q R S:Prop}{C:Prop}(h:P∧Q∧R∧S)(k:P→Q→R→S→C):C:=by obtain⟨p,q,r,s⟩:=h;exact k p q r s
theorem xE05 {P Q R S T:Prop}{C:Prop}(h:P∧Q∧R∧S∧T)(k:P→Q→R→S→T→C):C:=by obtain⟨p,q,r,s,t⟩:=h;exact k p q r s t
theorem xE06 {P Q R S T U:Prop}{C:Prop}(h:P∧Q∧R∧S∧T∧U)(k:P→Q→R→S→T→U→C):C:=by obtain⟨p,q,r,s,t,u⟩:=h;exact k p q r s t u
theorem xE11 {α:Sort _}{P:α→Prop}{C:Prop}(h:∃a,P a)(k:∀a,P a→C):C:=by obtain⟨a,p⟩:=h;exact k a p
theorem xE12 {α:Sort _}{P Q:α→Prop}{C:Prop}(h:∃a,P a∧Q a)(k:∀a,P a→Q a→C):C:=by obtain⟨a,p,q⟩:=h;exact k a p q
theorem xE13 {α:Sort _}{P Q R:α→Prop}{C:Prop}(h:∃a,P a∧Q a∧R a)(k:∀a,P a→Q a→R a→C):C:=by obtain⟨a,p,q,r⟩:=h;exact k a p q r
theorem xE14 {α:Sort _}{P Q R S:α→Prop}{C:Prop}(h:∃a,P a∧Q a∧R a∧S a)(k:∀a,P a→Q a→R a→S a→C):C:=by obtain⟨a,p,q,r,s⟩:=h;exact k a p q r s
theorem xE15 {α:Sort _}{P Q R S T:α→Prop}{C:Prop}(h:∃a,P a∧Q a∧R a∧S a∧T a)(k:∀a,P a→Q a→R a→S a→T a→C):C:=by obtain⟨a,p,q,r,s,t⟩:=h;exact k a p q r s t
theorem xE21 {α β:Sort _}{P:α→β→Prop}{C:Prop}(h:∃a b,P a b)(k:∀a b,P a b→C):C:=by obtain⟨a,b,p⟩:=h;exact k a b p
theorem xE22 {α β:Sort _}{P Q:α→β→Prop}{C:Prop}(h:∃a b,P a b∧Q a b)(k:∀a b,P a b→Q a b→C):C:=by obtain⟨a,b,p,q⟩:=h;exact k a b p q
theorem xE23 {α β:Sort _}{P Q R:α→β→Prop}{C:Prop}(h:∃a b,P a b∧Q a b∧R a b)(k:∀a b,P a b→Q a b→R a b→C):C:=by obtain⟨a,b,p,q,r⟩:=h;exact k a b p q r
theorem xE24 {α β:Sort _}{P Q R S:α→β→Prop}{C:Prop}(h:∃a b,P a b∧Q a b∧R a b∧S a b)(k:∀a b,P a b→Q a b→R a b→S a b→C):C:=by obtain⟨a,b,p,q,r,s⟩:=h;exact k a b p q r s
theorem xE31 {α β γ:Sort _}{P:α→β→γ→Prop}{C:Prop}(h:∃a b c,P a b c)(k:∀a b c,P a b c→C):C:=by obtain⟨a,b,c,p⟩:=h;exact k a b c p
theorem xE32 {α β γ:Sort _}{P Q:α→β→γ→Prop}{C:Prop}(h:∃a b c,P a b c∧Q a b c)(k:∀a b c,P a b c→Q a b c→C):C:=by obtain⟨a,b,c,p,q⟩:=h;exact k a b c p q
theorem xE33 {α β γ:Sort _}{P Q R:α→β→γ→Prop}{C:Prop}(h:∃a b c,P a b c∧Q a b c∧R a b c)(k:∀a b c,P a b c→Q a b c→R a b c→C):C:=by obtain⟨a,b,c,p,q,r⟩:=h;exact k a b c p q r
open Lean in
local macro_rules
| `(tactic| obtain ⟨$ps,*⟩ := $h) => do
 let ps:=ps.getElems
 let k:=ps.size
 if k<2||k>6 then Macro.throwUnsupported
 let mut bs:Array Term:= #[]
 let mut post:Array (TSyntax `tactic):= #[]
 let mut i:=0
 for p in ps do
  let q:=p.raw[0][0][0]
  if p.raw[1].getNumArgs != 0||p.raw[0][0].getNumArgs != 1 then Macro.throwUnsupported
  let x:=mkIdent (← Macro.addMacroScope (.mkSimple s!"y{i}"))
  i:=i+1
  if q.isOfKind ``Parser.Tactic.rcasesPat.one then
   let d:Ident:=⟨q[0]⟩
   if d.getId== `rfl then
    bs:=bs.push x
    let pp:TSyntax ``Parser.Tactic.rcasesPatMed:=⟨p.raw[0]⟩
    post:=post.push (← `(tactic| obtain $pp := $x))
   else
    bs:=bs.push d
    if h.raw.isIdent&&h.raw.getId==d.getId then Macro.throwUnsupported
  else if q.isOfKind ``Parser.Tactic.rcasesPat.ignore then bs:=bs.push (← `(_))
  else if q.isOfKind ``Parser.Tactic.rcasesPat.tuple then
   bs:=bs.push x
   let pp:TSyntax ``Parser.Tactic.rcasesPatMed:=⟨p.raw[0]⟩
   post:=post.push (← `(tactic| obtain $pp := $x))
  else Macro.throwUnsupported
 let mut alts:Array (TSyntax ``Parser.Tactic.tacticSeq):= #[]
 for n in [0:min 4 k] do
  let f:=mkIdent (.mkSimple s!"xE{n}{k-n}")
  alts:=alts.push (← `(tacticSeq| refine $f $h λ$bs* => ?_))
 let cl← if h.raw.isIdent then `(tactic| try clear $(⟨h.raw⟩)) else `(tactic| skip)
 `(tactic| ((first $[| $alts]*);$cl;$[$post];*))
local macro_rules | `(∅) => `((by lia))
local macro_rules | `(~~~$t) => `((by simpa using $t))
local macro_rules | `($s⁻¹) => `(($s).heap.objs.size)
set_option hygiene false in
local macro_rules | `(tactic| exists $t) => `(tactic| obtain ⟨rfl,rfl⟩ := $t)
noncomputable section
section
open PySem PySem.Spec PySem.W
abbrev AA:=@List
abbrev AB:=@Option
abbrev AC:=@Value
abbrev AD:=@Addr
abbrev AE:=@Shared
abbrev AF:=@W.Frag
abbrev AG:=@wpAny
abbrev AH:=@absurd
abbrev AI:=@Expr
abbrev AJ:=@Program
abbrev AK:=@Heap
abbrev AL:=@mainGlobals
end
abbrev kB:=@decide_eq_false
abbrev qab:=@beq_eq_false_iff_ne
abbrev cM:=@PySem.Heap.lt_size
abbrev iI:=@Nat.lt_of_lt_of_le
abbrev tV:=@Nat.lt_irrefl
abbrev fY:=@Nat.ne_of_lt
abbrev qag:=@List.mem_filter
abbrev qah:=@List.mem_range
abbrev qai:=@List.mem_filterMap
abbrev gW:=@decide_eq_true
abbrev bE:=@Nat.le_trans
abbrev lW:=@Nat.le_of_lt
abbrev Qf:=@List.filterMap_cons
abbrev gG:=@List.mem_cons_self
abbrev fF:=@List.mem_cons_of_mem
abbrev qap:=@List.mem_cons
abbrev qaq:=@List.mem_append
abbrev kH:=@List.mem_append_left
abbrev qas:=@List.getElem?_eq_some_iff
abbrev tG:=@List.getElem?_set_ne
abbrev lH:=@PySem.wpAny_mono
abbrev Eu:=@PySem.wpAny_truthy_bool
abbrev qaw:=@Array.length_toList
abbrev Zr:=@PySem.wpAny_execs_nil
abbrev aH:=@PySem.wpAny_bind
abbrev fV:=@PySem.wpAny_holding
abbrev Hf:=@PySem.wpAny_standAt
abbrev qaB:=@PySem.wpAny_pure
abbrev lY:=@PySem.wpAny_newObj_type
abbrev bP:=@PySem.Heap.get?_push_of_some
abbrev Dq:=@PySem.wpAny_rule
abbrev Kj:=@PySem.wpAny_passesOwn
abbrev fN:=@Bool.false_ne_true
abbrev eN:=@PySem.Heap.get?_push_size
abbrev bC:=@Nat.le_refl
abbrev Zm:=@PyProof.Rows.callWith_type1
abbrev dQ:=@List.mem_append_right
abbrev Za:=@Int.fdiv_eq_ediv_of_nonneg
abbrev gZ:=@PySem.sizeLine_eq
abbrev bR:=@List.size_toArray
abbrev qaO:=@List.any_eq_false
abbrev qaP:=@Array.mem_toList_iff
abbrev qaQ:=@beq_iff_eq
abbrev eH:=@List.length_cons
abbrev eY:=@List.map_cons
abbrev eI:=@List.length_map
abbrev lM:=@PySem.Heap.size_push
abbrev Ot:=@Nat.lt_succ_self
abbrev gR:=@Nat.zero_le
abbrev pR:=@PySem.W.kia_one
abbrev lE:=@List.append_nil
abbrev qaZ:=@PySem.wpAny_Call_Name_kw
abbrev qa0:=@List.nodup_cons
abbrev qa1:=@Option.isSome_iff_exists
abbrev kA:=@List.length_take
abbrev Td:=@PySem.mem_of_lookup
abbrev uA:=@List.getElem?_append_right
abbrev Dp:=@List.getElem?_replicate
abbrev hG:=@List.getElem?_append_left
abbrev cJ:=@List.getElem?_map
abbrev gI:=@List.mem_of_getElem?
abbrev eS:=@List.length_append
abbrev Wv:=@List.length_replicate
abbrev qbb:=@List.zip_nil_right
abbrev qbc:=@List.zip_cons_cons
abbrev Zu:=@List.length_nil
abbrev qbe:=@PySem.F.slot_tuple_add
abbrev qbf:=@PySem.F.entry_tuple_add
abbrev qbg:=@PySem.F.args_tuple_add_2
abbrev Bf:=@Int.toNat_natCast
abbrev cX:=@if_false
abbrev iD:=@PySem.wpAny_field
abbrev tR:=@List.length_drop
abbrev Yr:=@PySem.wpAny_sequenceKey
abbrev Aw:=@PySem.wpAny_callSpecial?_slot
abbrev qbn:=@PyProof.Rows.slot_tuple_getitem
abbrev oO:=@PySem.wpAny_call_entry
abbrev Ma:=@PySem.wpAny_typeOf
abbrev cV:=@Bool.and_eq_true
abbrev qbr:=@PySem.evalPart_none
abbrev qbs:=@PySem.Heap.IsSliceOf.new
abbrev Xb:=@PySem.Heap.get?_update_self
abbrev Li:=@PySem.Heap.get?_update_other
abbrev kM:=@List.length_set
abbrev qbw:=@Option.getD_none
abbrev yL:=@List.all_cons
abbrev wJ:=@List.any_cons
abbrev Et:=@List.replicate_succ
abbrev Nd:=@List.flatten_cons
abbrev tN:=@List.append_assoc
abbrev qbC:=@List.foldl_cons
abbrev qbD:=@List.length_singleton
abbrev Qm:=@Nat.add_comm
abbrev lN:=@List.take_of_length_le
abbrev qbG:=@PySem.IsL.isList
abbrev Yz:=@PySem.slot_list_setitem
abbrev qbI:=@PySem.wpAny_specialOf
abbrev Oo:=@PySem.W.KFB.if_not
abbrev Nk:=@PySem.wpAny_listPart
abbrev lJ:=@Bool.false_eq_true
abbrev Sk:=@beq_self_eq_true
abbrev kR:=@PySem.wpAny_seqItems
abbrev Um:=@PySem.wpAny_of_eq
abbrev Ql:=@PySem.wpAny_updateSeq
abbrev zW:=@PySem.wpAny_letGo
abbrev Tf:=@Int.eq_ofNat_of_zero_le
abbrev Xa:=@Int.le_trans
abbrev Jf:=@List.find?_cons
abbrev fI:=@Exists.imp
abbrev Dm:=@List.getElem?_set
abbrev qbW:=@Option.ne_none_iff_exists'
abbrev iT:=@Option.bind_some
abbrev Em:=@Option.map_some
abbrev iN:=@decide_eq_true_eq
abbrev Vg:=@Nat.log2_lt
abbrev Ss:=@of_decide_eq_true
abbrev qb2:=@List.eq_nil_of_length_eq_zero
abbrev bI:=@List.getElem?_eq_getElem
abbrev tO:=@Nat.lt_of_le_of_lt
abbrev qb5:=@bne_iff_ne
abbrev Pc:=@Bool.and_true
abbrev qb7:=@PySem.F.plainAttrs_list
abbrev qb8:=@List.drop_eq_getElem_cons
abbrev qb9:=@PySem.wpAny_pyIter_tuple
abbrev Pa:=@List.getElem?_cons_succ
abbrev Qg:=@List.cons_append
abbrev Qz:=@List.forIn_cons
abbrev kX:=@List.lookup_cons
abbrev Sn:=@Option.getD_some
abbrev qcf:=@Nat.lt_succ_of_lt
abbrev Tg:=@List.forIn_nil
abbrev qch:=@List.all_eq_true
abbrev qci:=@List.mem_map
abbrev Zl:=@List.getElem?_zip_eq_some
abbrev qck:=@List.take_succ_eq_append_getElem
abbrev fD:=@List.getElem?_eq_none
abbrev Tr:=@List.map_drop
abbrev Qd:=@List.map_take
abbrev qco:=@List.length_range
abbrev Yn:=@List.range_succ
abbrev iS:=@List.map_append
abbrev gC:=@List.map_map
abbrev qcs:=@Nat.add_left_cancel
abbrev Tp:=@PySem.Obj.data_mapFields
abbrev qcu:=@PySem.wpAny_setField
abbrev Zc:=@PySem.Heap.SameBut.update
abbrev qcw:=@PySem.AutoSeq1.wpAny_loadPart'
abbrev Od:=@List.not_mem_nil
abbrev Vu:=@List.getElem?_zipWith
abbrev Oa:=@List.getElem?_range
abbrev qcA:=@List.mem_or_eq_of_mem_set
abbrev qcB:=@List.mem_singleton
abbrev qcC:=@PySem.Around.under_plainId
abbrev Ks:=@PySem.F.plain_min_loop
abbrev Yw:=@PySem.wpAny_tryCatch
abbrev Zi:=@PySem.plainId_quiet
abbrev qcG:=@List.length_pos_iff
abbrev uY:=@List.getD_eq_getElem?_getD
abbrev Ck:=@List.contains_cons
abbrev Ra:=@List.map_congr_left
abbrev qcK:=@List.take_succ_cons
abbrev Os:=@Nat.zero_add
abbrev qcM:=@List.nodup_append
abbrev Da:=@PySem.wpAny_setField_rec
abbrev qcO:=@PySem.wpAny_onRaise
abbrev qcP:=@PySem.wpAny_updateSeq_pair
abbrev qcQ:=@PySem.wpAny_attempt
abbrev qcR:=@PySem.F.slot_zip_next
abbrev qcS:=@PySem.F.slot_dict_keyiterator_next
abbrev qcT:=@PySem.wpAny_typeNameOfWhole_keyiter
abbrev Zj:=@PySem.wpAny_typeNameOf_keyiter
abbrev Hs:=@List.nodup_nil
abbrev qcW:=@Nat.min_eq_left
abbrev qcX:=@List.contains_iff_mem
abbrev Zq:=@Bool.or_eq_false_iff
abbrev qcZ:=@List.any_eq_true
abbrev qc0:=@List.mem_iff_getElem
abbrev Vm:=@List.getElem_mem
abbrev Cu:=@List.set_cons_succ
abbrev Qi:=@List.set_cons_zero
abbrev Sz:=@List.mem_of_mem_take
abbrev qc5:=@List.set_eq_take_append_cons_drop
abbrev qc6:=@exists_eq_left'
abbrev qc7:=@false_implies
abbrev Yg:=@List.take_add_one
abbrev Vp:=@List.take_length
abbrev Of:=@List.filterMap_eq_map
abbrev pP:=@List.ext_getElem?
abbrev hZ:=@PySem.PassesOwn.never
abbrev jL:=@PySem.W.mg_none_of
abbrev Yl:=@List.filterMap_eq_filter
abbrev Qa:=@List.filterMap_filterMap
abbrev qdg:=@List.Pairwise.filter
abbrev Dl:=@List.length_filter_le
abbrev Ed:=@Nat.pow_succ
abbrev Yq:=@Nat.pow_le_pow_right
abbrev Bj:=@Bool.eq_iff_iff
abbrev qS:=@Int.mul_comm
abbrev Tz:=@Int.natAbs_add_le
abbrev Qc:=@Int.mul_fdiv_add_fmod
abbrev qdo:=@Int.fmod_nonneg_of_pos
abbrev Mj:=@Int.lt_or_gt_of_ne
abbrev jF:=@Int.natAbs_neg
abbrev qJ:=@Int.natAbs_mul
abbrev qds:=@Nat.le_mul_of_pos_left
abbrev qdt:=@Nat.mul_le_mul_right
abbrev Nl:=@Int.lt_or_le
abbrev qdv:=@Int.mul_le_mul_of_nonneg_left
abbrev qdw:=@Int.mul_neg_of_pos_of_neg
abbrev qdx:=@Int.mul_neg_of_neg_of_pos
abbrev qdy:=@Int.mul_nonneg_of_nonpos_of_nonpos
abbrev Ux:=@Int.mul_nonneg
abbrev Ib:=@Nat.lt_or_ge
abbrev Nj:=@Nat.mul_le_mul_left
abbrev Rl:=@Classical.byContradiction
abbrev Vc:=@Nat.two_pow_pos
abbrev sF:=@Nat.pow_add
abbrev Ol:=@Int.mul_pos
abbrev qdG:=@Int.mul_assoc
abbrev Zs:=@Nat.pow_lt_pow_right
abbrev qdI:=@Int.gcd_pos_of_ne_zero_right
namespace L2
open PyProof.Rows PySem PySem.Spec
variable {xs vs:AA V}{us its:AA AC}{x m qual:Str}{u cd:AC}{H:Hp}{a b L it C dx:AD}{o:Obj}{w:World}{h base:AK}{g:Int->Int->Int}{g':Array GenState}{t' i j k n:Nat}{d':Drawn}{ch fp:AA AD}{e c tg:AI}{pins' AM:AA (AD×Obj)}{N ns ps:AA Str}{A:Around}{E Q:AC->AE->Prop}{v y:V}{X:Cx}{t te:TE}{s s':AE}{pos pos':Pos}{σ:St}{op:CmpOp}{K:AF}{f:AC->AC->Sem AC}{tc:TT}{es:AA AI}{ta:TA}{body:AA Stmt}{p:AD×Obj}{pl:Sem Bool}{r:V->Hp->VK->Prop}{mA mg:Str->AB AC}{kw:AA (Str×AC)}{prog:AJ}{outer:AA Env}{fd:FuncData}{kindOf:Str->AB NameKind}{sc scope:Scope}{CX:xR}{params:Arguments}
abbrev cO:=Sum Int Str
def Nn:cO->AC->Bool
 | .inl k,v=>Value.isInt k v
 | .inr x,v=>Value.isStrOf x v
def keyH (w:World):cO->Int
 | .inl k=>hashInt k
 | .inr x=>hashStr w x
theorem tK:∀{k:cO} {v:AC},Nn k v=true->(∃i t,k=Sum.inl i/\v=Value.int i t)\/(∃x t,k=Sum.inr x/\v=Value.str x t)
 | .inl i,v,h=>by
  obtain⟨t,e⟩:=Value.isInt_shape (k:=i) (v:=v) h;exact .inl ⟨i,t,rfl,e⟩
 | .inr x,v,h=>by
  obtain⟨t,e⟩:=Value.isStrOf_shape (x:=x) (v:=v) h;exact .inr ⟨x,t,rfl,e⟩
theorem zpK (i:Int)(t:Tok):Nn (.inl i) (.int i t)=true:=by simp[Nn,Value.isInt]
theorem zql (x:Str)(t:Tok):Nn (.inr x) (.str x t)=true:=by simp[Nn,Value.isStrOf]
theorem Ie (a b:Int):decide ((Sum.inl a:cO)=Sum.inl b)=(a==b):=by
 by_cases e:a=b
 ·subst e;simp
 ·have h:¬(Sum.inl a:cO)=Sum.inl b:=λq=>e (Sum.inl.inj q)
  rw[kB h];exact(qab.mpr e).symm
theorem Gr (a b:Str):decide ((Sum.inr a:cO)=Sum.inr b)=decide (a=b):=by
 by_cases e:a=b
 ·subst e;simp
 ·have h:¬(Sum.inr a:cO)=Sum.inr b:=λq=>e (Sum.inr.inj q)
  rw[kB h,kB e]
theorem Hz (a:Int)(b:Str):decide ((Sum.inl a:cO)=Sum.inr b)=false:=kB (λq=>nomatch q)
theorem Ln (a:Str)(b:Int):decide ((Sum.inr a:cO)=Sum.inl b)=false:=kB (λq=>nomatch q)
def kN (prog:AJ)(w:World):PySem.KeyKind prog w cO where
 is:=Nn
 hash:=keyH w
 inj:=λv a b ha hb=>by
  rcases tK ha with⟨i,t,rfl,rfl⟩|⟨x,t,rfl,rfl⟩
  ·rcases tK hb with⟨j,u,rfl,e⟩|⟨y,u,rfl,e⟩
   ·injection e with e1 _;rw[e1]
   ·exact nomatch e
  ·rcases tK hb with⟨j,u,rfl,e⟩|⟨y,u,rfl,e⟩
   ·exact nomatch e
   ·injection e with e1 _;rw[e1]
 byValue:=λk v h=>by
  rcases tK h with⟨i,t,rfl,rfl⟩|⟨x,t,rfl,rfl⟩<;>rfl
 pyHash:=λhv h=>by
  rcases tK hv with⟨i,t,rfl,rfl⟩|⟨x,t,rfl,rfl⟩
  ·exact wpAny_pyHash_int h
  ·exact wpAny_pyHash_str h
 eqBool:=λhu hv h=>by
  rcases tK hu with⟨i,t,rfl,rfl⟩|⟨x,t,rfl,rfl⟩
  ·rcases tK hv with⟨j,u,rfl,rfl⟩|⟨y,u,rfl,rfl⟩
   ·rw[Ie]at h;exact wpAny_eqBool_int h
   ·rw[Hz]at h;exact SeqAt.EqAt.int_str i t y u _ _ _ _ h
  ·rcases tK hv with⟨j,u,rfl,rfl⟩|⟨y,u,rfl,rfl⟩
   ·rw[Ln]at h;exact SeqAt.EqAt.str_int x t j u _ _ _ _ h
   ·rw[Gr]at h;exact wpAny_eqBool_str h
 «strs»:=λk x t v h=>by
  rcases tK h with⟨i,u,rfl,e⟩|⟨y,u,rfl,e⟩
  ·exact nomatch e
  ·injection e with e1 _
   subst e1;cases v<;>rfl
theorem zmw (prog:AJ)(w:World)(i:Int)(t:Tok):(kN prog w).is (.inl i) (.int i t)=true:=zpK i t
theorem zmD (prog:AJ)(w:World)(x:Str)(t:Tok):(kN prog w).is (.inr x) (.str x t)=true:=zql x t
inductive V where
 |non|bl (b:Bool)|int (i:Int)|str (x:Str)|byt (b:Array UInt8)|flt (b:UInt64)|ref (a:Addr)|ty (n:String)
 deriving DecidableEq
def RelV:V->AC->Prop
 | .non,u=>u=Value.none
 | .bl b,u=>u=Value.bool b
 | .int i,u=>∃t,u=Value.int i t
 | .str x,u=>∃t,u=Value.str x t
 | .byt b,u=>∃t,u=Value.bytes b t
 | .flt b,u=>∃t,u=Value.float b t
 | .ref a,u=>u=Value.ref a
 | .ty n,u=>u=Value.type n
abbrev Vals:AA V->AA AC->Prop:=Paired RelV
theorem Vals.length (r:Vals xs us):xs.length=us.length:=Paired.length r
theorem Vals.get:∀{xs:AA V} {us:AA AC} {i:Nat} {x:V},Vals xs us->xs[i]? =some x->∃u,us[i]? =some u/\RelV x u
 |_,_,_,_,.nil,e=>by simp at e
 |_,_,0,_,.cons r _,e=>by simp at e;subst e;exact⟨_,rfl,r⟩
 |_,_,i+1,x,.cons _ t,e=>by
  obtain⟨u,h1,h2⟩:=Vals.get (i:=i) (x:=x) t (~~~e);exact⟨u,~~~h1,h2⟩
theorem Vals.set {x:V}(r:RelV x u):∀{xs:AA V} {us:AA AC} (i:Nat),Vals xs us->Vals (xs.set i x) (us.set i u)
 |_,_,_,.nil=> .nil
 |_,_,0,.cons _ t=> .cons r t
 |_,_,i+1,.cons q t=> .cons q (Vals.set r i t)
theorem Vals.append:∀{xs ys:AA V} {us ws:AA AC},Vals xs us->Vals ys ws->Vals (xs++ys) (us++ws)
 |_,_,_,_,.nil,s=>s
 |_,_,_,_,.cons r t,s=> .cons r (Vals.append t s)
theorem Vals.take:∀{xs:AA V} {us:AA AC} (n:Nat),Vals xs us->Vals (xs.take n) (us.take n)
 |_,_,0,_=> .nil
 |_,_,_+1,.nil=> .nil
 |_,_,n+1,.cons r t=> .cons r (Vals.take n t)
theorem Vals.drop:∀{xs:AA V} {us:AA AC} (n:Nat),Vals xs us->Vals (xs.drop n) (us.drop n)
 |_,_,0,r=>r
 |_,_,_+1,.nil=> .nil
 |_,_,n+1,.cons _ t=>Vals.drop n t
def RelO:AB V->AB AC->Prop
 |some v,some u=>RelV v u
 |none,none=>True
 |_,_=>False
def KV {κ:Type}:AA (κ×V)->AA (κ×AC)->Prop:=Paired λ(p:κ×V) (q:κ×AC)=>p.1=q.1/\RelV p.2 q.2
def kV:cO->V
 | .inl i=> .int i
 | .inr x=> .str x
inductive HO where
 /-- a list -/
 |lst (xs:List V)
 /-- a tuple (never changes) -/
 |tup (xs:List V)
 /-- a dict whose keys are ints and texts; one whose keys are tuples of ints and texts (the empty one is both) -/
 |dK (kvs:List (cO×V))|dT (kvs:List (List cO×V))
 /-- a set of ints: its members, its size -/
 |set (S:Int->Bool) (n:Nat)
 /-- an instance of the class at C, its dict at dx, its attributes -/
 |ins (C dx:Addr) (fs:List (Str×V))
 /-- the dict of the instance at x -/
 |own (x:Addr)
 /-- the dict of an exception -/
 |xd (fs:List (Str×V))
 /-- a bound method, f of x -/
 |met (f x:Addr)
 /-- a range object lo, lo + 1, .. below hi -/
 |rng (lo hi:Int)
 /-- a thing that is known to the object (the script; a dict while a loop walks it): read, never written while it is so -/
 |frz (o:Obj) (u:HO)
 /-- a code object's table -/
 |tbl (ps:Array Value)
 /-- any other thing, by what is true of its one object (a def of one's own: SetO a S n := HO.ext λh => ..) -/
 |ext (φ:Heap->Prop)
abbrev Hp:=AD->AB HO
def upd (H:Hp)(a:AD)(o:HO):Hp:=λb=>if b=a then some o else H b
theorem cT {o:HO}:upd H a o a=some o:=by unfold upd;rw[if_pos rfl]
theorem aV {o:HO}(h:b≠a):upd H a o b=H b:=by unfold upd;rw[if_neg h]
theorem lF {o:HO}(h:H a=some o)(h':H b=none):a≠b:=by
 intro e;subst e;rw[h]at h';cases h'
section
variable (P:AJ)(w:World)
def ObjOk (H:Hp)(h:AK)(a:AD):HO->Prop
 | .lst xs=>xs.length<=sizeLine/\∃(its:AA AC) (n:Nat),Vals xs its/\h.get? a=some {cls:= .type "list",data:= .seq its.toArray n}
 | .tup xs=>xs.length<=sizeLine/\∃its:AA AC,Vals xs its/\IsTup h a its.toArray
 | .dK kvs=>kvs.length<=sizeLine/\(a==sysModules)=false/\∃vs,KV kvs vs/\h.DictOf (kN P w) a vs
 | .dT kvs=>kvs.length<=sizeLine/\(a==sysModules)=false/\∃xs:AA (AA cO×AD×AC),
   Paired (λ(p:AA cO×V) (q:AA cO×AD×AC)=>p.1=q.1/\H q.2.1=some (.tup (p.1.map kV))/\RelV p.2 q.2.2) kvs xs/\
   ∃o es ep,h.get? a=some o/\o.ExactDict/\o.data= .dict es ep/\es.toList=xs.map (entryOfKey (tupleKind (kN P w)))/\(xs.map (·.1)).Nodup
 | .set S n=>h.SetOf (intKind P w) a S n
 | .ins C dx fs=>H dx=some (.own a)/\fs.length<=1000/\dx≠a/\h.get? a=some (W.instObj C dx)/\
   ∃mA,h.Ns1 dx mA/\(∀f,RelO (fs.lookup f) (mA f))/\PySem.Within mA (fs.map (·.1))
 | .own _=>∃o,h.get? a=some o
 | .xd fs=>∃mA,h.Ns1 a mA/\∀f,RelO (fs.lookup f) (mA f)
 | .rng lo hi=>∃t u v,h.get? a=some {cls:= .type "range",data:= .fields #[.int lo t,.int hi u,.int 1 v]}
 | .frz o u=>h.get? a=some o/\ObjOk H h a u
 | .tbl ps=>h.get? a=some {cls:= .none,data:= .fields ps}
 | .met f x=>h.get? a=some (W.methodObj (.ref f) (.ref x))
 | .ext φ=>φ h/\(∃o,h.get? a=some o)/\∀h1 h2:AK,φ h1->(∀o,h1.get? a=some o->h2.get? a=some o)->φ h2
def HOk (H:Hp)(h:AK):Prop:=∀a o,H a=some o->ObjOk P w H h a o
end
section
variable {P:AJ}{w:World}{H H':Hp}{h h':AK}{a:AD}{o:HO}
theorem ObjOk.lt (x:ObjOk P w H h a o):a<h.objs.size:=by
 cases o with
 |lst xs=>obtain⟨_,_,_,_,e⟩:=x;exact cM e
 |tup xs=>obtain⟨_,_,_,p⟩:=x;exact p.lt
 |dK kvs=>obtain⟨_,_,_,_,o,_,_,e,_⟩:=x;exact cM e
 |dT kvs=>obtain⟨_,_,_,_,o,_,_,e,_⟩:=x;exact cM e
 |set S n=>obtain⟨o,_,_,_,e,_⟩:=x;exact cM e
 |ins C dx fs=>obtain⟨_,_,_,e,_⟩:=x;exact cM e
 |own y=>obtain⟨_,e⟩:=x;exact cM e
 |xd fs=>obtain⟨_,⟨_,_,_,e,_⟩,_⟩:=x;exact cM e
 |rng lo hi=>obtain⟨_,_,_,e⟩:=x;exact cM e
 |frz ob u=>obtain⟨e,_⟩:=x;exact cM e
 |tbl ps=>exact cM (show h.get? a=some _ from x)
 |met f y=>exact cM (show h.get? a=some _ from x)
 |ext φ=>obtain⟨_,⟨_,e⟩,_⟩:=x;exact cM e
theorem Paired.mapP {α β:Type}{F G:α->β->Prop}:∀{l₁:AA α} {l₂:AA β},Paired F l₁ l₂->(∀a b,F a b->G a b)->Paired G l₁ l₂
 |_,_,.nil,_=> .nil
 |_,_,.cons r t,f=> .cons (f _ _ r) (Paired.mapP t f)
theorem ObjOk.stay (x:ObjOk P w H h a o)(k:∀b u,(b=a\/H b=some (.own a))->h.get? b=some u->h'.get? b=some u)(ho:∀b,H b=some (.own a)->H' b=some (.own a))(ht:∀b xs,H b=some (.tup xs)->H' b=some (.tup xs)):ObjOk P w H' h' a o:=by
 induction o with
 |lst xs=>obtain⟨z,its,n,r,e⟩:=x;exact⟨z,its,n,r,k _ _ (.inl rfl) e⟩
 |tup xs=>obtain⟨z,its,r,ob,e,c⟩:=x;exact⟨z,its,r,ob,k _ _ (.inl rfl) e,c⟩
 |dK kvs=>obtain⟨z,y,vs,r,ob,es,ep,e,c⟩:=x;exact⟨z,y,vs,r,ob,es,ep,k _ _ (.inl rfl) e,c⟩
 |dT kvs=>
  obtain⟨z,y,xs,r,ob,es,ep,e,c⟩:=x;exact⟨z,y,xs,Paired.mapP r λp q z=>⟨z.1,ht _ _ z.2.1,z.2.2⟩,ob,es,ep,k _ _ (.inl rfl) e,c⟩
 |set S n=>obtain⟨ob,es,ep,t,e,c⟩:=x;exact⟨ob,es,ep,t,k _ _ (.inl rfl) e,c⟩
 |ins C dx fs=>
  obtain⟨d,z,ne,e,mA,⟨od,es,ep,e2,c⟩,r⟩:=x;exact⟨ho _ d,z,ne,k _ _ (.inl rfl) e,mA,⟨od,es,ep,k _ _ (.inr d) e2,c⟩,r⟩
 |own y=>obtain⟨ob,e⟩:=x;exact⟨ob,k _ _ (.inl rfl) e⟩
 |xd fs=>obtain⟨mA,⟨od,es,ep,e,c⟩,r⟩:=x;exact⟨mA,⟨od,es,ep,k _ _ (.inl rfl) e,c⟩,r⟩
 |rng lo hi=>obtain⟨t,u,v,e⟩:=x;exact⟨t,u,v,k _ _ (.inl rfl) e⟩
 |frz ob u ih=>obtain⟨e,q⟩:=x;exact⟨k _ _ (.inl rfl) e,ih q⟩
 |tbl ps=>
  have e:h.get? a=some {cls:= .none,data:= .fields ps}:=x;show h'.get? a=some {cls:= .none,data:= .fields ps};exact k a _ (.inl rfl) e
 |met f y=>
  have e:h.get? a=some (W.methodObj (.ref f) (.ref y)):=x;show h'.get? a=some (W.methodObj (.ref f) (.ref y));exact k a _ (.inl rfl) e
 |ext φ=>obtain⟨p,⟨o,e⟩,st⟩:=x;exact⟨st _ _ p λo q=>k _ _ (.inl rfl) q,⟨o,k _ _ (.inl rfl) e⟩,st⟩
theorem HOk.lt (x:HOk P w H h)(e:H a=some o):a<h.objs.size:=(x a o e).lt
theorem HOk.fresh (x:HOk P w H h)(e:h.objs.size<=a):H a=none:=by
 cases q:H a with
 |none=>rfl
 |some u=>exact AH (iI (x.lt q) e) (tV _)
theorem HOk.kept (x:HOk P w H h)(k:∀b u,h.get? b=some u->h'.get? b=some u):HOk P w H h':=λa o e=>
 (x a o e).stay (λb u _ q=>k b u q) (λ_ q=>q) λ_ _ q=>q
theorem HOk.laid (x:HOk P w H h)(k:∀b u,h.get? b=some u->h'.get? b=some u)(hp:h.objs.size<=a)(new:ObjOk P w (upd H a o) h' a o):HOk P w (upd H a o) h':=λb u e=>by
 have hn:=x.fresh hp
 by_cases hb:b=a
 ·subst hb;rw[cT]at e;cases e;exact new
 ·rw[aV hb]at e;exact(x b u e).stay (λc v _ q=>k c v q) (λc q=>by rw[aV (lF q hn)];exact q) λc xs q=>by rw[aV (lF q hn)];exact q
end
def Rd (H:Hp)(a:AD)(u:HO):Prop:=H a=some u\/∃o,H a=some (.frz o u)
theorem Rd.ok {P:AJ}{u:HO}(r:Rd H a u)(x:HOk P w H h):ObjOk P w H h a u:=by
 rcases r with r|⟨o,r⟩
 ·exact x a u r
 ·obtain⟨_,q⟩:=x a _ r;exact q
def Wj:AB HO->Prop
 |some (.lst _)=>True
 |some (.dK _)=>True
 |some (.dT _)=>True
 |some (.set _ _)=>True
 |some (.ins _ _ _)=>True
 |some (.ext _)=>True
 |_=>False
section
variable {P:AJ}{w:World}{H:Hp}{h h':AK}{x e:AD}{o':HO}
theorem HOk.write (ok:HOk P w H h)(mu:Wj (H x))(he:e=x\/H e=some (.own x))(k:∀b u,b≠e->h.get? b=some u->h'.get? b=some u)(heo:∃u,h'.get? e=some u)(new:ObjOk P w (upd H x o') h' x o'):HOk P w (upd H x o') h':=λb u q=>by
 have nown:∀c y,H c=some (.own y)->c≠x:=λc y r z=>by subst z;rw[r]at mu;exact mu
 have ntup:∀c xs,H c=some (.tup xs)->c≠x:=λc xs r z=>by subst z;rw[r]at mu;exact mu
 by_cases hb:b=x
 ·subst hb;rw[cT]at q;cases q;exact new
 ·rw[aV hb]at q
  by_cases hbe:b=e
  ·have q':H b=some (.own x):=by
    rcases he with z|z
    ·exact AH (hbe.trans z) hb
    ·rw[hbe];exact z
   rw[q]at q';cases q';obtain⟨v,hv⟩:=heo;exact⟨v,by rw[hbe];exact hv⟩
  ·refine(ok b u q).stay (λc v hc r=>k c v ?_ r) (λc r=>by rw[aV (nown c b r)];exact r) λc xs r=>by rw[aV (ntup c xs r)];exact r
   rcases hc with rfl|hc
   ·exact hbe
   ·rintro rfl;rcases he with z|z
    ·exact nown c b hc z
    ·rw[hc]at z;cases z;exact hb rfl
end
structure Un (fs ex:List Addr)(H H':Hp)(h h':Heap):Prop where
 keep:∀b o,h.get? b=some o->H b=none->b∉fs->b∉ex->h'.get? b=some o
 slot:∀b o,h.get? b=some o->H b=none->b∈fs->b∉ex->∃sl,h'.get? b=some {o with slots:=sl}
 free:∀b o,h.get? b=some o->H b=none->b∉ex->H' b=none
 there:∀b o,h.get? b=some o->b∉ex->∃o',h'.get? b=some o'
 tups:∀b xs,H b=some (.tup xs)->H' b=some (.tup xs)
 frzs:∀b o u,H b=some (.frz o u)->H' b=some (.frz o u)
 tbls:∀b ps,H b=some (.tbl ps)->∃more,H' b=some (.tbl (ps++more))
section
variable {fs fs' ex ex':AA AD}{H H1 H2:Hp}{h h1 h2 h':AK}{a x e:AD}{o:HO}
theorem Un.any (u:Un fs ex H H1 h h1){ob:Obj}(q:h.get? b=some ob)(n:H b=none)(hx:b∉ex):∃sl,h1.get? b=some {ob with slots:=sl}:=by
 by_cases hb:b∈fs
 ·exact u.slot b ob q n hb hx
 ·exact⟨ob.slots,u.keep b ob q n hb hx⟩
theorem Un.kept (k:∀b u,h.get? b=some u->h'.get? b=some u):Un fs ex H H h h':=
 ⟨λb ob q _ _ _=>k b ob q,λb ob q _ _ _=>⟨ob.slots,k b ob q⟩,λ_ _ _ n _=>n,λb ob q _=>⟨ob,k b ob q⟩,λ_ _ q=>q,λ_ _ _ q=>q,λ_ ps q=>⟨#[],by rw[q];simp⟩⟩
theorem Un.refl:Un fs ex H H h h:=Un.kept λ_ _ q=>q
theorem Un.laid (k:∀b u,h.get? b=some u->h'.get? b=some u)(hp:h.objs.size<=a)(hn:H a=none):Un fs ex H (upd H a o) h h' where
 keep:=λb u q _ _ _=>k b u q
 slot:=λb u q _ _ _=>⟨u.slots,k b u q⟩
 free:=λb u q n _=>by rw[aV (fY (iI (cM q) hp))];exact n
 there:=λb u q _=>⟨u,k b u q⟩
 tups:=λb xs q=>by rw[aV (lF q hn)];exact q
 frzs:=λb u xs q=>by rw[aV (lF q hn)];exact q
 tbls:=λb ps q=>⟨#[],by rw[aV (lF q hn),q];simp⟩
theorem Un.write (mu:Wj (H x))(he:e=x\/H e=some (.own x))(k:∀b u,b≠e->h.get? b=some u->h'.get? b=some u)(heo:∃u,h'.get? e=some u):Un fs ex H (upd H x o) h h':=by
 have hx:∀b,H b=none->b≠x:=λb n z=>by subst z;rw[n]at mu;exact mu
 have hb:∀b,H b=none->b≠e:=λb n z=>by
  subst z;rcases he with r|r
  ·exact hx b n r
  ·rw[n]at r;cases r
 have hm:∀b u,H b=some u->¬Wj (some u)->b≠x:=λb u q nm z=>by subst z;rw[q]at mu;exact nm mu
 refine⟨λb u q n _ _=>k b u (hb b n) q,λb u q n _ _=>⟨u.slots,k b u (hb b n) q⟩,λb u q n _=>by rw[aV (hx b n)];exact n,λb u q _=>?_,
  λb xs q=>by rw[aV (hm b _ q λz=>z)];exact q,λb u xs q=>by rw[aV (hm b _ q λz=>z)];exact q,λb ps q=>⟨#[],by rw[aV (hm b _ q λz=>z),q];simp⟩⟩
 by_cases hbe:b=e
 ·subst hbe;exact heo
 ·exact⟨u,k b u hbe q⟩
end
def trk (h:AK)(H:Hp):AA AD:=(List.range h.objs.size).filter λa=>(H a).isSome
def hV (h:AK)(H:Hp):AK:=W.hideAll h (trk h H)
theorem zo5 (h:AK)(H:Hp):(hV h H).objs.size=h.objs.size:=W.hideAll_size _ _
theorem pJ (e:h.get? b=some o)(n:H b=none):(hV h H).get? b=some o:=
 W.hideAll_get _ e λhm=>by
  have q:(H b).isSome=true:=(qag.mp hm).2;rw[n]at q;simp at q
theorem zF (e:(hV h H).get? b=some o):h.get? b=some o/\H b=none:=by
 have e':h.get? b=some o:=W.of_hideAll (trk h H) e;refine⟨e',?_⟩;cases q:H b with
 |none=>rfl
 |some x=>
  have hm:b∈trk h H:=qag.mpr ⟨qah.mpr (cM e'),by simp[q]⟩;have z:(hV h H).get? b=none:=W.hideAll_none (trk h H) hm;rw[z]at e;cases e
def zpZ (g h:AK)(L:AD):AA (AD×Obj):=(List.range h.objs.size).filterMap λa=>if a=L\/(g.get? a).isSome=true then none else(h.get? a).map λo=>(a,o)
theorem zni {g h:AK}(h1:a≠L)(h2:g.get? a=none)(h3:h.get? a=some o):(a,o)∈zpZ g h L:=
 qai.mpr ⟨a,qah.mpr (cM h3),by simp[h1,h2,h3]⟩
def rest (g h:AK)(L d:AD):AA (AD×Obj):=(zpZ g h L).filter λp=>decide (p.1≠d)
theorem mem_rest {g h:AK}{L d a:AD}(h1:a≠L)(h2:g.get? a=none)(h3:h.get? a=some o)(h4:a≠d):(a,o)∈rest g h L d:=
 qag.mpr ⟨zni h1 h2 h3,gW h4⟩
structure Mod (K:W.Frag)(mg:Str->Option Value)(base:Heap):Prop where
 kin:K.In base
 glob:base.Ns mainGlobals mg
 blt:∃mb,base.Ns builtinsNs mb/\∀x:Str,x≠"__name__"->mb x=bootBuiltins x
 nolimit:base.NoLimit
structure Cx where
 prog:Program
 w:World
 K:W.Frag
 mg:Str->Option Value
 base:Heap
 A:Around
 N:List Str
 s₀:Shared
 H₀:Hp
 env:Env
 outer:List Env
 stack:List Env
 ex:List Addr
 fn:Str->Bool
 calm:Bool
 pn:List (Addr×Obj)
 xe:Value->Shared->Prop
def frs (l:AA Env):AA AD:=l.filterMap (·.frame)
abbrev Cx.fs (X:Cx):AA AD:=frs X.outer
def dJ (sc:Scope)(x:Str):Prop:=sc.names.lookup x=some .local\/sc.names.lookup x=some .cell\/sc.names.lookup x=some .free
def jX (sc:Scope)(x:Str):Prop:=sc.names.lookup x=some .local\/sc.names.lookup x=some .cell
def Look (env:Env)(h:AK)(m:Str->AB AC)(x:Str)(u:AC):Prop:=
 (env.kindOf x=some .local/\m x=some u)\/((env.kindOf x=some .cell\/env.kindOf x=some .free)/\∃c,env.cells.lookup x=some c/\h.IsCell c (some u))
structure Cx.Ok (X:Cx):Prop where
 mod:Mod X.K X.mg X.base
 kind:X.env.scope.kind= .function
 glob:X.env.globals=mainGlobals
 blt:X.env.builtins=builtinsNs
 above:X.s₀.heap.objs.size<=X.env.locals
 inj:∀x y c,X.env.cells.lookup x=some c->X.env.cells.lookup y=some c->x=y
 has:∀x,(X.env.kindOf x=some .cell\/X.env.kindOf x=some .free)->∃c,X.env.cells.lookup x=some c
 cab:∀x c,X.fn x=true->X.env.cells.lookup x=some c->X.s₀.heap.objs.size<=c
 hd:X.calm=true->X.A.handled=none
 frames:X.A.frames=some X.stack
 stk:X.stack=X.outer\/(X.stack=X.env::X.outer/\X.env.frame=some X.env.locals)
 exf:∀b∈X.ex,b≠X.env.locals/\∀x c,X.env.cells.lookup x=some c->c≠b
 bs:∀b o,X.base.get? b=some o->X.s₀.heap.get? b=some o/\X.H₀ b=none
 bsz:X.base.objs.size<=X.s₀.heap.objs.size
 noex:∀b o,X.base.get? b=some o->b∉X.ex
 exfs:∀b∈X.ex,b∉X.fs
 funs:X.s₀.heap.FunFrames X.base X.outer
 frf:∀b∈X.fs,X.H₀ b=none
structure Inv (X:Cx)(AM:List (Addr×Obj))(σ:List (Option V))(H:Hp)(s:Shared):Prop where
 ok:X.Ok
 os:s.os=X.s₀.os
 bare:AllBare s.gens
 base:Un X.fs X.ex X.H₀ H X.s₀.heap s.heap
 loc:∃m,s.heap.Ns X.env.locals m/\∀(i:Nat) (x:Str) (v:V),X.N[i]? =some x->σ[i]? =some (some v)->dJ X.env.scope x->∃u,RelV v u/\Look X.env s.heap m x u
 cell:∀x c,X.env.cells.lookup x=some c->∃v,s.heap.IsCell c v
 free:H X.env.locals=none
 freeC:∀x c,X.env.cells.lookup x=some c->H c=none
 pin:∀p∈X.pn++AM,s.heap.get? p.1=some p.2/\H p.1=none/\p.1≠X.env.locals/\p.1∉X.fs/\∀v,p.2.data≠ .cell v
 hok:HOk X.prog X.w H s.heap
 len:σ.length=X.N.length
section
variable {X:Cx}{AM:AA (AD×Obj)}{σ:AA (AB V)}{H H':Hp}{s:AE}{h':AK}
theorem Cx.Ok.nofr (ok:X.Ok)(e:X.base.get? b=some o):b∉X.fs:=λhb=>by
 have:=(ok.funs.mem hb).1;rw[e]at this;cases this
theorem Inv.bs (I:Inv X AM σ H s):∀b o,X.base.get? b=some o->s.heap.get? b=some o/\H b=none:=λb o e=>
 ⟨I.base.keep b o (I.ok.bs b o e).1 (I.ok.bs b o e).2 (I.ok.nofr e) (I.ok.noex b o e),I.base.free b o (I.ok.bs b o e).1 (I.ok.bs b o e).2 (I.ok.noex b o e)⟩
theorem Inv.bk (I:Inv X AM σ H s):∀b o,X.base.get? b=some o->s.heap.get? b=some o:=λb o e=>(I.bs b o e).1
theorem Inv.mod (I:Inv X AM σ H s):Mod X.K X.mg X.base:=I.ok.mod
theorem Inv.kIn (I:Inv X AM σ H s):X.K.In s.heap:=I.ok.mod.kin.keeps I.bk
theorem Inv.lt (I:Inv X AM σ H s):X.env.locals<s⁻¹:=let⟨_,hn,_⟩:=I.loc;hn.lt
theorem Inv.sz (I:Inv X AM σ H s):X.s₀⁻¹<=s⁻¹:=bE I.ok.above (lW I.lt)
theorem Inv.nofs (I:Inv X AM σ H s)(h:s⁻¹<=a):a∉X.fs:=λhb=>by
 obtain⟨_,o,ho,_⟩:=I.ok.funs.mem hb;exact AH (iI (cM ho) (bE I.sz h)) (tV _)
theorem Inv.cne (I:Inv X AM σ H s):∀x c,X.env.cells.lookup x=some c->c≠X.env.locals:=λx c e z=>by
 obtain⟨v,o,ho,hd⟩:=I.cell x c e;obtain⟨m,⟨o',es,ep,ho',hd',_⟩,_⟩:=I.loc;rw[z,ho']at ho;cases ho;rw[hd']at hd;cases hd
theorem Inv.funs (I:Inv X AM σ H s):s.heap.FunFrames X.base X.outer:=by
 have all:∀(l:AA Env),(∀b∈frs l,b∈X.fs)->X.s₀.heap.FunFrames X.base l->s.heap.FunFrames X.base l:=by
  intro l
  induction l with
  |nil=>intro _ _;trivial
  |cons env r ih=>
   intro hs hl;obtain⟨hk,⟨L,o,hf,hn,ho,hd⟩,hr⟩:=hl;have hL:L∈X.fs:=hs L (by unfold frs;rw[Qf,hf];exact gG);obtain⟨sl,e⟩:=I.base.slot L o ho (I.ok.frf L hL) hL λz=>I.ok.exfs L z hL
   exact⟨hk,⟨L,_,hf,hn,e,hd⟩,ih (λb hb=>hs b (by unfold frs;rw[Qf,hf];exact fF _ hb)) hr⟩
 exact all X.outer (λ_ hb=>hb) I.ok.funs
theorem Inv.stack (I:Inv X AM σ H s):s.heap.FunFrames X.base X.stack:=by
 rcases I.ok.stk with e|⟨e,hf⟩
 ·rw[e];exact I.funs
 ·rw[e];obtain⟨m,hn,_⟩:=I.loc;refine .cons (by rw[I.ok.kind];decide) hf hn ?_ I.funs;exact Heap.get?_none_of_le (bE I.ok.bsz I.ok.above)
theorem Inv.stkSub (I:Inv X AM σ H s):∀b∈frs X.stack,b∈X.env.locals::X.fs:=λb hb=>by
 rcases I.ok.stk with e|⟨e,hf⟩
 ·rw[e]at hb;exact fF _ hb
 ·rw[e]at hb;unfold frs at hb;rw[Qf,hf]at hb;exact hb
theorem Inv.stkFree (I:Inv X AM σ H s):∀b∈frs X.stack,H b=none:=λb hb=>by
 rcases qap.mp (I.stkSub b hb)with e|hb
 ·rw[e];exact I.free
 ·obtain⟨_,o,ho,_⟩:=I.ok.funs.mem hb;exact I.base.free b o ho (I.ok.frf b hb) λz=>I.ok.exfs b z hb
theorem Inv.step (I:Inv X AM σ H s)(hch:∀b∈ch,(b∈X.ex\/X.s₀⁻¹<=b)/\b≠X.env.locals/\(∀x c,X.env.cells.lookup x=some c->c≠b)/\∀p∈X.pn++AM,p.1≠b)(keep:∀b o,b≠X.env.locals->b∉X.fs->b∉ch->s.heap.get? b=some o->H b=none->h'.get? b=some o)(slot:∀b o,b≠X.env.locals->b∈X.fs->b∉ch->s.heap.get? b=some o->H b=none->∃sl,h'.get? b=some {o with slots:=sl})(free:∀b o,b∉ch->s.heap.get? b=some o->H b=none->H' b=none)(there:∀b o,b∉ch->s.heap.get? b=some o->∃o',h'.get? b=some o')(tups:∀b xs,H b=some (.tup xs)->H' b=some (.tup xs))(frzs:∀b o u,H b=some (.frz o u)->H' b=some (.frz o u))(tbls:∀b ps,H b=some (.tbl ps)->∃more,H' b=some (.tbl (ps++more)))(ns:∀m,s.heap.Ns X.env.locals m->h'.Ns X.env.locals m)(hok:HOk X.prog X.w H' h')(hg:AllBare g'):
  Inv X AM σ H' {s with heap:=h',gens:=g',drawn:=d',toks:=t'}:=by
 have neL:∀b o,X.s₀.heap.get? b=some o->b≠X.env.locals:=λb o e=>fY (iI (cM e) I.ok.above)
 have neC:∀b o,X.s₀.heap.get? b=some o->b∉X.ex->b∉ch:=λb o e hx hb=>by
  rcases(hch b hb).1 with z|z
  ·exact hx z
  ·exact AH (iI (cM e) z) (tV _)
 have cellK:∀x c,X.env.cells.lookup x=some c->∀v,s.heap.IsCell c v->h'.IsCell c v:=λx c e v ⟨o,ho,hd⟩=>by
  have nch:c∉ch:=λz=>(hch c z).2.2.1 x c e rfl
  by_cases hc:c∈X.fs
  ·obtain⟨sl,q⟩:=slot c o (I.cne x c e) hc nch ho (I.freeC x c e);exact⟨_,q,hd⟩
  ·exact⟨o,keep c o (I.cne x c e) hc nch ho (I.freeC x c e),hd⟩
 refine⟨I.ok,I.os,hg,⟨λb o e n hb hx=>?_,λb o e n hb hx=>?_,λb o e n hx=>?_,λb o e hx=>?_,λb xs e=>tups b xs (I.base.tups b xs e),λb o xs e=>frzs b o xs (I.base.frzs b o xs e),λb ps e=>?_⟩,?_,λx c e=>?_,?_,λx c e=>?_,λp hp=>?_,hok,I.len⟩
 ·exact keep b o (neL b o e) hb (neC b o e hx) (I.base.keep b o e n hb hx) (I.base.free b o e n hx)
 ·obtain⟨sl,e1⟩:=I.base.slot b o e n hb hx;obtain⟨sl',e2⟩:=slot b _ (neL b o e) hb (neC b o e hx) e1 (I.base.free b o e n hx);exact⟨sl',e2⟩
 ·obtain⟨o',e1⟩:=I.base.there b o e hx;exact free b o' (neC b o e hx) e1 (I.base.free b o e n hx)
 ·obtain⟨o',e1⟩:=I.base.there b o e hx;exact there b o' (neC b o e hx) e1
 ·obtain⟨m1,e1⟩:=I.base.tbls b ps e;obtain⟨m2,e2⟩:=tbls b _ e1;exact⟨m1++m2,by rw[e2,Array.append_assoc]⟩
 ·obtain⟨m,hn,hl⟩:=I.loc;refine⟨m,ns m hn,λi x v e1 e2 e3=>?_⟩;obtain⟨u,r,l⟩:=hl i x v e1 e2 e3;refine⟨u,r,?_⟩;rcases l with l|⟨k,c,e,z⟩
  ·exact .inl l
  ·exact .inr ⟨k,c,e,cellK x c e _ z⟩
 ·obtain⟨v,z⟩:=I.cell x c e;exact⟨v,cellK x c e v z⟩
 ·obtain⟨m,⟨o,_,_,ho,_⟩,_⟩:=I.loc;exact free _ o (λz=>(hch _ z).2.1 rfl) ho I.free
 ·obtain⟨v,o,ho,hd⟩:=I.cell x c e;exact free c o (λz=>(hch c z).2.2.1 x c e rfl) ho (I.freeC x c e)
 ·obtain⟨e,n,ne,nf,d⟩:=I.pin p hp;have nch:p.1∉ch:=λz=>(hch p.1 z).2.2.2 p hp rfl
  exact⟨keep p.1 p.2 ne nf nch e n,free p.1 p.2 nch e n,ne,nf,d⟩
theorem Inv.un (I:Inv X AM σ H s)(u:Un X.fs [] H H' s.heap h')(hok:HOk X.prog X.w H' h'):Inv X AM σ H' {s with heap:=h',toks:=t'}:=by
  obtain⟨m,⟨o,es,ep,ho,r⟩,_⟩:=id I.loc;obtain⟨sl,hL⟩:=u.any ho I.free (by simp);exact I.step (g':=s.gens) (d':=s.drawn) (ch:=[]) (λ_ z=>nomatch z) (λb o _ hb _ e n=>u.keep b o e n hb (by simp)) (λb o _ hb _ e n=>u.slot b o e n hb (by simp)) (λb o _ e n=>u.free b o e n (by simp)) (λb o _ e=>u.there b o e (by simp)) u.tups u.frzs u.tbls (λm' hm=>by
    obtain⟨o',es',ep',ho',r'⟩:=hm;rw[ho]at ho';cases ho';exact⟨_,es',ep',hL,r'⟩) hok I.bare
theorem Inv.call {ch:AA AD}(I:Inv X AM σ H s)(u:Un (frs X.stack) ch H H' s.heap h')(hok:HOk X.prog X.w H' h')(hg:AllBare g')(hch:∀b∈ch,(b∈X.ex\/X.s₀⁻¹<=b)/\b≠X.env.locals/\(∀x c,X.env.cells.lookup x=some c->c≠b)/\∀p∈X.pn++AM,p.1≠b):
  Inv X AM σ H' {s with heap:=h',gens:=g',drawn:=d',toks:=t'}:=by
 obtain⟨m,⟨o,es,ep,ho,r⟩,_⟩:=id I.loc;obtain⟨sl,hL⟩:=u.any ho I.free λz=>(hch _ z).2.1 rfl
 exact I.step (ch:=ch) hch (λb o hL hb hc e n=>u.keep b o e n (λz=>(qap.mp (I.stkSub b z)).elim hL hb) hc) (λb o _ _ hc e n=>u.any e n hc) (λb o hc e n=>u.free b o e n hc) (λb o hc e=>u.there b o e hc) u.tups u.frzs u.tbls (λm' hm=>by
  obtain⟨o',es',ep',ho',r'⟩:=hm;rw[ho]at ho';cases ho';exact⟨_,es',ep',hL,r'⟩) hok hg
theorem Inv.turned (I:Inv X AM σ H s)(k:∀b o,b≠it->s.heap.get? b=some o->h'.get? b=some o)(hn:H it=none)(hL:it≠X.env.locals)(h1:it∈X.ex\/X.s₀⁻¹<=it)(h2:∀x c,X.env.cells.lookup x=some c->c≠it)(h3:∀p∈X.pn++AM,p.1≠it):Inv X AM σ H {s with heap:=h',toks:=t'}:=by
 have nit:∀b u,H b=some u->b≠it:=λb u e z=>by rw[z,hn]at e;cases e
 refine I.step (g':=s.gens) (d':=s.drawn) (ch:=[it]) (λb hb=>?_) (λb o _ _ hc e _=>k b o (λz=>hc (by simp[z])) e) (λb o _ _ hc e _=>⟨o.slots,k b o (λz=>hc (by simp[z])) e⟩) (λ_ _ _ _ n=>n)
  (λb o hc e=>⟨o,k b o (λz=>hc (by simp[z])) e⟩) (λ_ _ e=>e) (λ_ _ _ e=>e) (λb ps e=>⟨#[],by rw[e];simp⟩) (λm hm=>?_) (λb u e=>?_) I.bare
 ·have e:b=it:= ~~~hb
  subst e;exact⟨h1,hL,h2,h3⟩
 ·obtain⟨o,es,ep,ho,r⟩:=hm;exact⟨o,es,ep,k _ o (Ne.symm hL) ho,r⟩
 ·refine(I.hok b u e).stay (λc v hc q=>k c v ?_ q) (λ_ q=>q) λ_ _ q=>q
  rcases hc with z|z
  ·rw[z];exact nit b u e
  ·exact nit c _ z
theorem Inv.tok (I:Inv X AM σ H s)(t:Nat):Inv X AM σ H {s with toks:=t}:=I.un (h':=s.heap) (t':=t) Un.refl I.hok
theorem Inv.kept (I:Inv X AM σ H s)(k:∀b u,s.heap.get? b=some u->h'.get? b=some u):Inv X AM σ H {s with heap:=h',toks:=t'}:=I.un (Un.kept k) (I.hok.kept k)
theorem Inv.laid {o:HO}(I:Inv X AM σ H s)(k:∀b u,s.heap.get? b=some u->h'.get? b=some u)(hp:s⁻¹<=a)(new:ObjOk X.prog X.w (upd H a o) h' a o):
  Inv X AM σ (upd H a o) {s with heap:=h',toks:=t'}:=I.un (Un.laid k hp (I.hok.fresh hp)) (I.hok.laid k hp new)
theorem Inv.write {x e:AD}{o:HO}(I:Inv X AM σ H s)(mu:Wj (H x))(he:e=x\/H e=some (.own x))(k:∀b u,b≠e->s.heap.get? b=some u->h'.get? b=some u)(heo:∃u,h'.get? e=some u)(new:ObjOk X.prog X.w (upd H x o) h' x o):Inv X AM σ (upd H x o) {s with heap:=h',toks:=t'}:=I.un (Un.write mu he k heo) (I.hok.write mu he k heo new)
theorem Inv.pins_of (I:Inv X AM σ H s)(h:∀p∈pins',s.heap.get? p.1=some p.2/\H p.1=none/\p.1≠X.env.locals/\p.1∉X.fs/\∀v,p.2.data≠ .cell v):Inv X pins' σ H s:=
 ⟨I.ok,I.os,I.bare,I.base,I.loc,I.cell,I.free,I.freeC,λp hp=>(qaq.mp hp).elim (λz=>I.pin p (kH _ z)) (h p),I.hok,I.len⟩
theorem zn0 (hN:N.Nodup)(a:N[i]? =some x)(b:N[j]? =some x):i=j:=by
 obtain⟨h1,e1⟩:=qas.mp a;obtain⟨h2,e2⟩:=qas.mp b;exact(List.getElem_inj hN).mp (e1.trans e2.symm)
theorem zqE {M:Model}{Q:Unit->AE->Prop}(I:Inv X AM σ H s)(hN:X.N.Nodup)(hi:X.N[i]? =some x)(hx:jX X.env.scope x)(r:RelV v u)(h:∀s',Inv X AM (σ.set i (some v)) H s'->(∃a,Heap.SameBut a s.heap s'.heap/\(a=X.env.locals\/X.env.cells.lookup x=some a))->Q () s')(hf:X.fn x=true\/X.env.scope.names.lookup x=some .local:=by first|exact .inl rfl|exact .inr rfl|assumption):AG M A (storeName X.env x u) Q E s:=by
  obtain⟨m,hn,hl⟩:=id I.loc;have hcls:(X.env.scope.kind== .class||(X.env.scope.kind== .module&&X.env.locals !=X.env.globals))=false:=by rw[I.ok.kind];rfl
  have hiσ:i<σ.length:=by rw[I.len];exact(qas.mp hi).1
  have cne:=I.cne;have tracked:∀{a:AD} {h':AK},(∃o,s.heap.get? a=some o/\H a=none)->Heap.SameBut a s.heap h'->HOk X.prog X.w H h':=λ{a h'} ha hs b ob e=>by
    obtain⟨_,_,hfree⟩:=ha;refine(I.hok b ob e).stay (λc w' hc q=>(hs.2 c ?_).trans q) (λ_ q=>q) λ_ _ q=>q
    rintro rfl;rcases hc with rfl|hc
    . rw[hfree]at e;cases e
    . rw[hfree]at hc;cases hc
  rcases hx with hk|hk
  . refine wpAny_storeName_local hk hn (λh' hn' hs=>?_) hcls
    obtain⟨oL,_,_,hoL,_⟩:=id hn;refine h _ ⟨I.ok,I.os,I.bare,⟨λb o e n hb hx=>?_,λb o e n hb hx=>?_,I.base.free,λb o e hx=>?_,I.base.tups,I.base.frzs,I.base.tbls⟩,⟨_,hn',λj y v' e1 e2 e3=>?_⟩,λy c e=>?_,I.free,I.freeC,λp hp=>?_,tracked ⟨oL,hoL,I.free⟩ hs,~~~I.len⟩ ⟨_,hs,.inl rfl⟩
    . exact(hs.2 b (fY (iI (cM e) I.ok.above))).trans (I.base.keep b o e n hb hx)
    . obtain⟨sl,e1⟩:=I.base.slot b o e n hb hx
      exact⟨sl,(hs.2 b (fY (iI (cM e) I.ok.above))).trans e1⟩
    . obtain⟨o',e1⟩:=I.base.there b o e hx
      exact⟨o',(hs.2 b (fY (iI (cM e) I.ok.above))).trans e1⟩
    . by_cases hj:j=i
      . subst hj
        rw[hi]at e1;cases e1;rw[List.getElem?_set_self hiσ]at e2;cases e2;exact⟨u,r,.inl ⟨hk,by simp⟩⟩
      . rw[tG (Ne.symm hj)]at e2
        obtain⟨u',r',q⟩:=hl j y v' e1 e2 e3;refine⟨u',r',?_⟩;rcases q with⟨k,e⟩|⟨k,c,e,z⟩
        . refine .inl ⟨k,?_⟩
          have:y≠x:=λe=>hj (zn0 hN e1 (e ▸ hi))
          simp[this,e]
        . exact .inr ⟨k,c,e,z.sameBut hs (cne y c e)⟩
    . obtain⟨w',z⟩:=I.cell y c e
      exact⟨w',z.sameBut hs (cne y c e)⟩
    . obtain⟨e,n,ne,nf,d⟩:=I.pin p hp
      exact⟨(hs.2 p.1 ne).trans e,n,ne,nf,d⟩
  . have hfn:X.fn x=true:=by
      rcases hf with z|z
      . exact z
      . rw[z]at hk;cases hk
    obtain⟨c,hc⟩:=I.ok.has x (.inl hk);obtain⟨w',z⟩:=I.cell x c hc;refine wpAny_storeName_cell I.ok.kind hk hc z (λh' hc' hs=>?_);obtain⟨oc,hoc,hocd⟩:=id z;refine h {s with heap:=h'} ⟨I.ok,I.os,I.bare,⟨λb o e n hb hx=>?_,λb o e n hb hx=>?_,I.base.free,λb o e hx=>?_,I.base.tups,I.base.frzs,I.base.tbls⟩,⟨m,hn.sameBut hs (Ne.symm (cne x c hc)),λj y v' e1 e2 e3=>?_⟩,λy c' e=>?_,I.free,I.freeC,λp hp=>?_,tracked ⟨oc,hoc,I.freeC x c hc⟩ hs,~~~I.len⟩ ⟨c,hs,.inr hc⟩
    . exact(hs.2 b (fY (iI (cM e) (I.ok.cab x c hfn hc)))).trans (I.base.keep b o e n hb hx)
    . obtain⟨sl,e1⟩:=I.base.slot b o e n hb hx
      exact⟨sl,(hs.2 b (fY (iI (cM e) (I.ok.cab x c hfn hc)))).trans e1⟩
    . obtain⟨o',e1⟩:=I.base.there b o e hx
      exact⟨o',(hs.2 b (fY (iI (cM e) (I.ok.cab x c hfn hc)))).trans e1⟩
    . by_cases hj:j=i
      . subst hj
        rw[hi]at e1;cases e1;rw[List.getElem?_set_self hiσ]at e2;cases e2;exact⟨u,r,.inr ⟨.inl hk,c,hc,hc'⟩⟩
      . rw[tG (Ne.symm hj)]at e2
        obtain⟨u',r',q⟩:=hl j y v' e1 e2 e3;refine⟨u',r',?_⟩;rcases q with q|⟨k,c',e,z'⟩
        . exact .inl q
        . refine .inr ⟨k,c',e,z'.sameBut hs ?_⟩
          rintro rfl;exact hj (zn0 hN e1 (I.ok.inj _ _ _ e hc ▸ hi))
    . by_cases hcc:c'=c
      . subst hcc;exact⟨_,hc'⟩
      . obtain⟨w2,z2⟩:=I.cell y c' e
        exact⟨w2,z2.sameBut hs hcc⟩
    . obtain⟨e,n,ne,nf,d⟩:=I.pin p hp
      refine⟨(hs.2 p.1 ?_).trans e,n,ne,nf,d⟩;intro q;rw[q,hoc]at e;have q':oc=p.2:=Option.some.inj e;exact d w' (by rw[<-q'];exact hocd)
theorem Pk {M:Model}{Q:Unit->AE->Prop}(I:Inv X AM σ H s)(hN:X.N.Nodup)(hi:X.N[i]? =some x)(hx:jX X.env.scope x)(r:RelV v u)(h:∀s',Inv X AM (σ.set i (some v)) H s'->Q () s')(hf:X.fn x=true\/X.env.scope.names.lookup x=some .local:=by first|exact .inl rfl|exact .inr rfl|assumption):AG M A (storeName X.env x u) Q E s:=
 zqE I hN hi hx r (λs' I' _=>h s' I') hf
end
abbrev XK:=AC->AB AD->Hp->Prop
abbrev St:=AA (AB V)
abbrev VK:=V->Hp->Prop
abbrev TE:=St->Hp->VK->Prop
abbrev TT:=St->Hp->(Bool->Hp->Prop)->Prop
abbrev TA:=St->Hp->(AA V->Hp->Prop)->Prop
structure Ends where
 nx:St->Hp->Prop
 rt:VK
 bk:St->Hp->Prop:=λ_ _=>False
 ct:St->Hp->Prop:=λ_ _=>False
abbrev TS:=Ends->St->Hp->Prop
def EP (X:Cx)(AM:AA (AD×Obj))(σ:St)(Q:VK)(u:AC)(s':AE):Prop:=∃v H',Inv X AM σ H' s'/\RelV v u/\Q v H'
def TP (X:Cx)(AM:AA (AD×Obj))(σ:St)(Q:Bool->Hp->Prop)(b:Bool)(s':AE):Prop:=∃H',Inv X AM σ H' s'/\Q b H'
def AP (X:Cx)(AM:AA (AD×Obj))(σ:St)(Q:AA V->Hp->Prop)(us:AA AC)(s':AE):Prop:=∃vs H',Inv X AM σ H' s'/\Vals vs us/\Q vs H'
def SP (X:Cx)(AM:AA (AD×Obj))(D:Ends)(f:Flow)(s':AE):Prop:=
 match f with
 | .next=>∃σ' H',Inv X AM σ' H' s'/\D.nx σ' H'
 | .brk=>∃σ' H',Inv X AM σ' H' s'/\D.bk σ' H'
 | .cont=>∃σ' H',Inv X AM σ' H' s'/\D.ct σ' H'
 | .ret u=>∃v σ' H',Inv X AM σ' H' s'/\RelV v u/\D.rt v H'
def PE (X:Cx)(e:AI)(t:TE):Prop:=
 ∀(AM:AA (AD×Obj)) (s:AE) (σ:St) (H:Hp) (Q:VK),Inv X AM σ H s->t σ H Q->AG (model X.prog X.w) X.A (eval e X.env) (EP X AM σ Q) X.xe s
def PT (X:Cx)(e:AI)(t:TT):Prop:=
 ∀(AM:AA (AD×Obj)) (s:AE) (σ:St) (H:Hp) (Q:Bool->Hp->Prop),Inv X AM σ H s->t σ H Q->AG (model X.prog X.w) X.A (isTrue e X.env (eval e X.env)) (TP X AM σ Q) X.xe s
def PW (X:Cx)(e:AI)(t:TT):Prop:=
 ∀(whole:Sem AC) (AM:AA (AD×Obj)) (s:AE) (σ:St) (H:Hp) (Q:Bool->Hp->Prop),Inv X AM σ H s->t σ H Q->AG (model X.prog X.w) X.A (isTrue e X.env whole) (TP X AM σ Q) X.xe s
theorem PW.pt {t:TT}(h:PW X e t):PT X e t:=h _
def PA (X:Cx)(es:AA AI)(t:TA):Prop:=
 ∀(pos:Pos) (AM:AA (AD×Obj)) (s:AE) (σ:St) (H:Hp) (Q:AA V->Hp->Prop),Inv X AM σ H s->t σ H Q->AG (model X.prog X.w) X.A (spliced (backTo pos (starEach es X.env))) (AP X AM σ Q) X.xe s
def PS (X:Cx)(st:Stmt)(t:TS):Prop:=
 ∀(AM:AA (AD×Obj)) (s:AE) (σ:St) (H:Hp) (D:Ends),Inv X AM σ H s->t D σ H->AG (model X.prog X.w) X.A (exec st X.env) (SP X AM D) X.xe s
def PSs (X:Cx)(st:AA Stmt)(t:TS):Prop:=
 ∀(AM:AA (AD×Obj)) (s:AE) (σ:St) (H:Hp) (D:Ends),Inv X AM σ H s->t D σ H->AG (model X.prog X.w) X.A (execs st X.env) (SP X AM D) X.xe s
theorem aW {α:Type}{t:Sem α}{Q Q':α->AE->Prop}{M:Model}(h:AG M A t Q E s)(hQ:∀a s,Q a s->Q' a s):AG M A t Q' E s:=lH h hQ λ_ _ x=>x
section
variable {X:Cx}
def Pz (i:Nat):TE:=λσ H Q=>∃v,σ[i]? =some (some v)/\Q v H
def tC (v:V):TE:=λ_ H Q=>Q v H
theorem eB (hN:X.N[i]? =some x)(hv:dJ X.env.scope x)(hd:(x==("__debug__":Str))=false:=by decide)(hcd:(x==("__classdict__":Str))=false:=by decide):PE X (.Name x pos) (Pz i):=by
 intro AM s σ H Q I h;obtain⟨v,e,h⟩:=h;obtain⟨m,hn,hl⟩:=I.loc;obtain⟨u,r,l⟩:=hl i x v hN e hv;have fin:EP X AM σ Q u s:=⟨v,H,I,r,h⟩;rcases l with⟨hk,hm⟩|⟨hk,c,hc,hcell⟩
 ·exact wpAny_Name (wpAny_loadName_local I.ok.kind hk hn hm fin) hd
 ·rcases hk with hk|hk
  ·exact wpAny_Name (wpAny_loadName_cell I.ok.kind hk hc hcell fin) hd
  ·exact wpAny_Name (wpAny_loadName_free I.ok.kind hk hc hcell fin hcd) hd
theorem Ue {i j pos}:PE X (.Constant (.int i) j pos) (tC (.int i)):=λ_ _ _ H _ I h=>wpAny_Constant_int ⟨.int i,H,I.tok _,⟨_,rfl⟩,h⟩
theorem Rh {b j pos}:PE X (.Constant (.bool b) j pos) (tC (.bl b)):=λ_ _ _ H _ I h=>Constant_bool ⟨.bl b,H,I,rfl,h⟩
theorem Hm {j pos}:PE X (.Constant .none j pos) (tC .non):=λ_ _ _ H _ I h=>Constant_none ⟨.non,H,I,rfl,h⟩
theorem Eo {x j pos}:PE X (.Constant (.str x) j pos) (tC (.str x)):=λ_ _ _ H _ I h=>Calls.Constant_str ⟨.str x,H,I.tok _,⟨_,rfl⟩,h⟩
def Gl (X:Cx)(x:Str):Prop:=X.env.kindOf x=some .globalImplicit
theorem zqv (I:Inv X AM σ H s)(hg:Gl X x)(hm:X.mg x=some u)(h:Q u s)(hd:(x==("__debug__":Str))=false:=by decide):AG (model X.prog X.w) X.A (eval (.Name x pos) X.env) Q E s:=
 Calls.Name_function_global I.ok.kind hg (Calls.loadGlobal_global (by rw[I.ok.glob];exact I.mod.glob.keeps I.bk) hm h) hd
theorem Oe (I:Inv X AM σ H s)(hg:Gl X x)(hm:X.mg x=none)(hv:bootBuiltins x=some u)(h:Q u s)(hn:x≠"__name__":=by decide)(hd:(x==("__debug__":Str))=false:=by decide):AG (model X.prog X.w) X.A (eval (.Name x pos) X.env) Q E s:=by
 obtain⟨mb,h1,h2⟩:=I.mod.blt;exact Calls.Name_function_global I.ok.kind hg (Calls.loadGlobal_builtin (by rw[I.ok.glob];exact I.mod.glob.keeps I.bk) hm (by rw[I.ok.blt];exact h1.keeps I.bk) ((h2 x hn).trans hv) h) hd
theorem uZ (hg:Gl X x)(hm:X.mg x=none)(hv:bootBuiltins x=some u)(r:RelV v u)(hn:x≠"__name__":=by decide)(hd:(x==("__debug__":Str))=false:=by decide):PE X (.Name x pos) (tC v):=
 λ_ _ _ H _ I h=>Oe I hg hm hv ⟨v,H,I,r,h⟩ hn hd
variable {a b:AI}{ta tb:TE}{pos:Pos}
def PC (X:Cx)(op:CmpOp)(a b:AI)(t:TE):Prop:=
 ∀(AM:AA (AD×Obj)) (s:AE) (σ:St) (H:Hp) (Q:VK),Inv X AM σ H s->t σ H Q->
  AG (model X.prog X.w) X.A (eval a X.env) (λv s₁=>AG (model X.prog X.w) X.A (eval b X.env) (λu s₂=>AG (model X.prog X.w) X.A (compareOp op v u) (EP X AM σ Q) X.xe s₂) X.xe s₁) X.xe s
theorem nU (b:AI)(h:op≠ .In)(h2:op≠ .NotIn):behindInMarks op b=false:=by
 have e1:(op==CmpOp.In)=false:=by cases op<;>first|rfl|exact AH rfl h
 have e2:(op==CmpOp.NotIn)=false:=by cases op<;>first|rfl|exact AH rfl h2
 cases b<;>simp[behindInMarks,e1,e2]
def tB (t:TE):TT:=λσ H Q=>t σ H λx H1=>∃c,x= .bl c/\Q c H1
theorem nM (h:PC X op a b t)(h1:behindInMarks op b=false:=by first|exact nU _ (by decide) (by decide)|rfl):PT X (.Compare a [op] [b] pos) (tB t):=by
  intro AM s σ H Q I hw;refine wpAny_isTrue_Compare1 (aW (h AM s σ H _ I hw) λv s1 h1=>aW h1 λu s2 h2=>aW h2 λc s3 ⟨x,H1,I1,r1,q1⟩=>?_) h1;obtain⟨d,rfl,q⟩:=q1;cases r1;exact Eu ⟨H1,I1,q⟩
variable {tA tB':TT}{rest:AA AI}
def tAnd (t u:TT):TT:=λσ H Q=>t σ H λc H1=>if c=true then u σ H1 Q else Q false H1
def tOr (t u:TT):TT:=λσ H Q=>t σ H λc H1=>if c=true then Q true H1 else u σ H1 Q
def tNot (t:TT):TT:=λσ H Q=>t σ H λc H1=>Q (!c) H1
theorem wC (ha:PT X a tA):PW X (.BoolOp .And [a] pos) tA:=by
 intro wh AM s σ H Q I h;refine isTrue_and (aW (ha AM s σ H Q I h) λc s1 e=>?_);cases c with
 |true=>exact isTrue_and_nil e
 |false=>exact e
theorem Ls (ha:PT X a tA):PW X (.BoolOp .Or [a] pos) tA:=by
 intro wh AM s σ H Q I h;refine isTrue_or (aW (ha AM s σ H Q I h) λc s1 e=>?_);cases c with
 |false=>exact isTrue_or_nil e
 |true=>exact e
theorem Ir (ha:PT X a tA)(hb:PW X (.BoolOp .And (b::rest) pos) tB'):PW X (.BoolOp .And (a::b::rest) pos) (tAnd tA tB'):=by
 intro wh AM s σ H Q I h;refine isTrue_and (aW (ha AM s σ H _ I h) λc s1 ⟨H1,I1,q1⟩=>?_);cases c with
 |true=>exact hb wh AM s1 σ H1 Q I1 q1
 |false=>exact⟨H1,I1,q1⟩
theorem Ti (ha:PT X a tA)(hb:PW X (.BoolOp .Or (b::rest) pos) tB'):PW X (.BoolOp .Or (a::b::rest) pos) (tOr tA tB'):=by
 intro wh AM s σ H Q I h;refine isTrue_or (aW (ha AM s σ H _ I h) λc s1 ⟨H1,I1,q1⟩=>?_);cases c with
 |true=>exact⟨H1,I1,q1⟩
 |false=>exact hb wh AM s1 σ H1 Q I1 q1
theorem Lz (ha:PT X a tA):PT X (.UnaryOp .Not a pos) (tNot tA):=by
 intro AM s σ H Q I h;exact isTrue_not (ha AM s σ H (λc H1=>Q (!c) H1) I h)
def Xn (ta tb:TE):TE:=λσ H Q=>ta σ H λx H1=>∃c,x= .bl c/\if c=true then tb σ H1 Q else Q (.bl false) H1
def Up (ta:TE):TE:=λσ H Q=>ta σ H λx H1=>∃c,x= .bl c/\Q (.bl (!c)) H1
theorem Hn {op}(h:PE X a t):PE X (.BoolOp op [a] pos) t:=λAM s σ H Q I hw=>BoolOp_one (h AM s σ H Q I hw)
theorem Lw (ha:PE X a ta)(hb:PE X (.BoolOp .And (b::rest) pos) tb):PE X (.BoolOp .And (a::b::rest) pos) (Xn ta tb):=by
 intro AM s σ H Q I h;refine BoolOp_and (aW (ha AM s σ H _ I h) λv s1 ⟨x,H1,I1,r1,q1⟩=>?_);obtain⟨c,rfl,q1⟩:=q1;cases r1;refine Eu ?_;cases c with
 |true=>exact hb AM s1 σ H1 Q I1 q1
 |false=>exact⟨.bl false,H1,I1,rfl,q1⟩
theorem Jy (ha:PE X a ta):PE X (.UnaryOp .Not a pos) (Up ta):=by
 intro AM s σ H Q I h;refine UnaryOp_ (aW (ha AM s σ H _ I h) λv s1 ⟨x,H1,I1,r1,q1⟩=>?_);obtain⟨c,rfl,q1⟩:=q1;cases r1;exact not_of (Eu ⟨.bl (!c),H1,I1,rfl,q1⟩)
def tIf (t:TT)(ta tb:TE):TE:=λσ H Q=>t σ H λc H1=>if c=true then ta σ H1 Q else tb σ H1 Q
theorem nO (hc:PT X c tA)(ha:PE X a ta)(hb:PE X b tb):PE X (.IfExp c a b pos) (tIf tA ta tb):=by
 intro AM s σ H Q I h;refine wpAny_IfExp (aW (hc AM s σ H _ I h) λd s1 ⟨H1,I1,q1⟩=>?_);cases d with
 |true=>exact ha AM s1 σ H1 Q I1 q1
 |false=>exact hb AM s1 σ H1 Q I1 q1
end
def SqL (K:AF)(H:Hp)(a:AD)(xs:AA V):Prop:=
 Rd H a (.lst xs)\/
  ∃(o:Obj) (its:Array AC) (n:Nat),K.lookup a=some o/\o.cls= .type "list"/\o.dict=none/\o.data= .seq its n/\its.size<=sizeLine/\Vals xs its.toList
def SqT (K:AF)(H:Hp)(a:AD)(xs:AA V):Prop:=
 Rd H a (.tup xs)\/
  ∃(o:Obj) (its:Array AC) (n:Nat),K.lookup a=some o/\o.cls= .type "tuple"/\o.data= .seq its n/\its.size<=sizeLine/\Vals xs its.toList
def absV:AC->AB V
 | .none=>some .non
 | .bool b=>some (.bl b)
 | .int i _=>some (.int i)
 | .str x _=>some (.str x)
 | .bytes b _=>some (.byt b)
 | .float b _=>some (.flt b)
 | .ref a=>some (.ref a)
 | .type n=>some (.ty n)
 |_=>none
theorem RelV.abs {x:V}(r:RelV x u):absV u=some x:=by
 cases x with
 |non=>cases r;rfl
 |bl _=>cases r;rfl
 |int _=>obtain⟨t,rfl⟩:=r;rfl
 |str _=>obtain⟨t,rfl⟩:=r;rfl
 |byt _=>obtain⟨t,rfl⟩:=r;rfl
 |flt _=>obtain⟨t,rfl⟩:=r;rfl
 |ref _=>cases r;rfl
 |ty _=>cases r;rfl
theorem RelV.inj {x y:V}(r:RelV x u)(q:RelV y u):x=y:=Option.some.inj (r.abs.symm.trans q.abs)
theorem Vals.inj:∀{xs ys:AA V} {us:AA AC},Vals xs us->Vals ys us->xs=ys
 |_,_,_,.nil,.nil=>rfl
 |_,_,_,.cons r t,.cons r' t'=>by rw[r.inj r',Vals.inj t t']
section
variable {X:Cx}{AM:AA (AD×Obj)}{σ:St}{H:Hp}{s:AE}{a:AD}{xs ys:AA V}
theorem SqL.of (h:H a=some (.lst xs)):SqL K H a xs:= .inl (.inl h)
theorem SqT.of (h:H a=some (.tup xs)):SqT K H a xs:= .inl (.inl h)
theorem Inv.list (I:Inv X AM σ H s)(h:SqL X.K H a xs):∃its:AA AC,Vals xs its/\PlainL s.heap a its.toArray/\xs.length<=sizeLine:=by
 rcases h with h|⟨o,its,n,hk,hc,hd,hs,hz,r⟩
 ·obtain⟨z,its,n,r,e⟩:=h.ok I.hok;exact⟨its,r,⟨_,n,e,rfl,rfl,rfl⟩,z⟩
 ·refine⟨its.toList,r,⟨o,n,I.kIn a o hk,hc,hd,~~~hs⟩,?_⟩;have e:=r.length;simp only[qaw]at e;lia
theorem Inv.tuple (I:Inv X AM σ H s)(h:SqT X.K H a xs):∃its:AA AC,Vals xs its/\IsTup s.heap a its.toArray/\xs.length<=sizeLine:=by
 rcases h with h|⟨o,its,n,hk,hc,hs,hz,r⟩
 ·obtain⟨z,its,r,p⟩:=h.ok I.hok;exact⟨its,r,p,z⟩
 ·refine⟨its.toList,r,⟨o,I.kIn a o hk,hc,n,~~~hs⟩,?_⟩;have e:=r.length;simp only[qaw]at e;lia
theorem Inv.list_inj (I:Inv X AM σ H s)(h:SqL X.K H a xs)(h':SqL X.K H a ys):xs=ys:=by
 obtain⟨its,r,⟨o,n,e,_,_,d⟩,_⟩:=I.list h;obtain⟨its',r',⟨o',n',e',_,_,d'⟩,_⟩:=I.list h';rw[e]at e';cases e';rw[d]at d';injection d' with d1 _
 have:its=its':= ~~~congrArg Array.toList d1
 subst this;exact r.inj r'
theorem Inv.tuple_inj (I:Inv X AM σ H s)(h:SqT X.K H a xs)(h':SqT X.K H a ys):xs=ys:=by
 obtain⟨its,r,⟨o,e,_,n,d⟩,_⟩:=I.tuple h;obtain⟨its',r',⟨o',e',_,n',d'⟩,_⟩:=I.tuple h';rw[e]at e';cases e';rw[d]at d';injection d' with d1 _
 have:its=its':= ~~~congrArg Array.toList d1
 subst this;exact r.inj r'
end
abbrev Cx.wish (X:Cx)(E:AC->AE->Prop):Cx:={X with xe:=E}
abbrev Cx.nox (X:Cx):Cx:=X.wish λ_ _=>False
theorem Cx.Ok.wish (ok:X.Ok)(E:AC->AE->Prop):(X.wish E).Ok:=
 ⟨ok.mod,ok.kind,ok.glob,ok.blt,ok.above,ok.inj,ok.has,ok.cab,ok.hd,ok.frames,ok.stk,ok.exf,ok.bs,ok.bsz,ok.noex,ok.exfs,ok.funs,ok.frf⟩
theorem Cx.Ok.unwish (ok:(X.wish E).Ok):X.Ok:=
 ⟨ok.mod,ok.kind,ok.glob,ok.blt,ok.above,ok.inj,ok.has,ok.cab,ok.hd,ok.frames,ok.stk,ok.exf,ok.bs,ok.bsz,ok.noex,ok.exfs,ok.funs,ok.frf⟩
section
variable {X:Cx}{AM:AA (AD×Obj)}{σ:St}{H:Hp}{s:AE}{E:AC->AE->Prop}
theorem Inv.wish (I:Inv X AM σ H s)(E:AC->AE->Prop):Inv (X.wish E) AM σ H s:=⟨I.ok.wish E,I.os,I.bare,I.base,I.loc,I.cell,I.free,I.freeC,I.pin,I.hok,I.len⟩
theorem Inv.unwish (I:Inv (X.wish E) AM σ H s):Inv X AM σ H s:=⟨I.ok.unwish,I.os,I.bare,I.base,I.loc,I.cell,I.free,I.freeC,I.pin,I.hok,I.len⟩
theorem SP.unwish {D:Ends}{f:Flow}(h:SP (X.wish E) AM D f s'):SP X AM D f s':=by
 cases f with
 |next=>obtain⟨σ',H',I,q⟩:=h;exact⟨σ',H',I.unwish,q⟩
 |brk=>obtain⟨σ',H',I,q⟩:=h;exact⟨σ',H',I.unwish,q⟩
 |cont=>obtain⟨σ',H',I,q⟩:=h;exact⟨σ',H',I.unwish,q⟩
 |ret u=>obtain⟨v,σ',H',I,r,q⟩:=h;exact⟨v,σ',H',I.unwish,r,q⟩
theorem PSs.nox {st:AA Stmt}{t:TS}(h:PSs X.nox st t):PSs X st t:=λAM s σ H D I hw=>
 lH (h AM s σ H D (I.wish _) hw) (λ_ _ q=>q.unwish) λ_ _ z=>False.elim z
end
section
variable {X:Cx}{st:Stmt}{rest:AA Stmt}{t u:TS}{e:AI}{te:TE}{pos:Pos}
def Vh:TS:=λD σ H=>D.nx σ H
def tSeq (t u:TS):TS:=λD σ H=>t {D with nx:=u D} σ H
theorem uO:PSs X [] Vh:=λ_ _ σ H _ I h=>Zr ⟨σ,H,I,h⟩
theorem mE (h1:PS X st t)(h2:PSs X rest u):PSs X (st::rest) (tSeq t u):=by
 intro AM s σ H D I h;refine wpAny_execs_cons (aW (h1 AM s σ H {D with nx:=u D} I h) λf s1 q=>?_);cases f with
 |next=>
  obtain⟨σ',H',I',q⟩:=q;exact h2 AM s1 σ' H' D I' q
 |ret v=>exact q
 |brk=>exact q
 |cont=>exact q
theorem wQ (h1:PS X st t):PSs X [st] t:=by
 intro AM s σ H D I h;refine wpAny_execs_cons (aW (h1 AM s σ H D I h) λf s1 q=>?_);cases f with
 |next=>exact Zr q
 |ret v=>exact q
 |brk=>exact q
 |cont=>exact q
theorem Inv.quiet (I:Inv X AM σ H s):interactive X.env=false:=by simp[interactive,I.ok.kind]
def Oy (te:TE):TS:=λD σ H=>te σ H λ_ H1=>D.nx σ H1
theorem zk3 (he:PE X e te)(hs:swapsWith e none pos.line X.env=pure false:=by rfl):PS X (.Expr e pos) (Oy te):=by
 intro AM s σ H D I h;exact wpAny_Expr_any (aW (he AM s σ H _ I h) λv s1 ⟨x,H1,I1,r1,q1⟩=>⟨σ,H1,I1,q1⟩) I.quiet hs
def tRet (te:TE):TS:=λD σ H=>te σ H D.rt
theorem zo7 (he:PE X e te):PS X (.Return (some e) pos) (tRet te):=by
 intro AM s σ H D I h;exact wpAny_Return_some (aW (he AM s σ H _ I h) λv s1 ⟨x,H1,I1,r1,q1⟩=>⟨x,σ,H1,I1,r1,q1⟩)
def tIfS (c:TT)(t u:TS):TS:=λD σ H=>c σ H λb H1=>if b=true then t D σ H1 else u D σ H1
theorem Vf {a b:AA Stmt}(hc:PT X c tc)(ha:PSs X a t)(hb:PSs X b u):PS X (.If c a b pos) (tIfS tc t u):=by
 intro AM s σ H D I h;refine wpAny_If (aW (hc AM s σ H _ I h) λd s1 ⟨H1,I1,q1⟩=>?_);cases d with
 |true=>exact ha AM s1 σ H1 D I1 q1
 |false=>exact hb AM s1 σ H1 D I1 q1
end
abbrev TG:=V->St->Hp->(St->Hp->Prop)->Prop
abbrev tZ:=AA V->St->Hp->(St->Hp->Prop)->Prop
def PG (X:Cx)(target:AI)(t:TG):Prop:=
 ∀(AM:AA (AD×Obj)) (s:AE) (σ:St) (H:Hp) (v:V) (u:AC) (Q:St->Hp->Prop),Inv X AM σ H s->RelV v u->t v σ H Q->
  AG (model X.prog X.w) X.A (assign target X.env u) (λ_ s'=>∃σ' H',Inv X AM σ' H' s'/\Q σ' H') X.xe s
def Lc (X:Cx)(ts:AA AI)(t:tZ):Prop:=
 ∀(AM:AA (AD×Obj)) (s:AE) (σ:St) (H:Hp) (vs:AA V) (us:AA AC) (Q:St->Hp->Prop),Inv X AM σ H s->Vals vs us->t vs σ H Q->
  AG (model X.prog X.w) X.A (assignInOrder ((assignEach ts X.env).map (·.2)) us) (λ_ s'=>∃σ' H',Inv X AM σ' H' s'/\Q σ' H') X.xe s
abbrev Ku:=V->V->V->Hp->(Hp->Prop)->Prop
def Uw (X:Cx)(t:Ku):Prop:=
 ∀(AM:AA (AD×Obj)) (s:AE) (σ:St) (H:Hp) (o i v:V) (ov iv u:AC) (Q:Hp->Prop),Inv X AM σ H s->RelV o ov->RelV i iv->RelV v u->t o i v H Q->
  AG (model X.prog X.w) X.A (setItem ov iv u) (λ_ s'=>∃H',Inv X AM σ H' s'/\Q H') X.xe s
abbrev Zy:=V->V->Hp->VK->Prop
def PIp (X:Cx)(op:Operator)(t:Zy):Prop:=
 ∀(AM:AA (AD×Obj)) (s:AE) (σ:St) (H:Hp) (x y:V) (v u:AC) (Q:VK),Inv X AM σ H s->RelV x v->RelV y u->t x y H Q->
  AG (model X.prog X.w) X.A (inplaceOp op v u) (EP X AM σ Q) X.xe s
section
variable {X:Cx}{pos:Pos}
def Ee (i:Nat):TG:=λv σ H Q=>Q (σ.set i (some v)) H
theorem zps (hN:X.N.Nodup)(hi:X.N[i]? =some x)(hx:jX X.env.scope x)(hf:X.fn x=true\/X.env.scope.names.lookup x=some .local:=by first|exact .inl rfl|exact .inr rfl|assumption):PG X (.Name x pos) (Ee i):=by
  intro AM s σ H v u Q I r h;exact wpAny_assign_Name (Pk I hN hi hx r (λs' I'=>⟨_,H,I',h⟩) hf)
def gNil:tZ:=λvs σ H Q=>vs=[]/\Q σ H
def Se (t:TG)(u:tZ):tZ:=λvs σ H Q=>∃v r,vs=v::r/\t v σ H λσ' H'=>u r σ' H' Q
theorem xQ:Lc X [] gNil:=by
 intro AM s σ H vs us Q I r h;obtain⟨e,h⟩:=h;subst e;cases r;exact assignInOrder_nil ⟨σ,H,I,h⟩
theorem mG {t:TG}{u:tZ}(h1:PG X e t)(h2:Lc X es u)(hs:(assignEach (e::es) X.env).map (·.2)=assign e X.env::(assignEach es X.env).map (·.2):=by rfl):Lc X (e::es) (Se t u):=by
 intro AM s σ H vs us Q I r h;obtain⟨v,vr,e1,h⟩:=h;subst e1;cases r with
 |cons r rr=>
  rw[hs];refine assignInOrder_cons (aW (h1 AM s σ H _ _ _ I r h) λ_ s1 ⟨σ1,H1,I1,q1⟩=>?_);exact h2 AM s1 σ1 H1 _ _ Q I1 rr q1
def gTup (K:AF)(n:Nat)(t:tZ):TG:=λv σ H Q=>∃a xs,v= .ref a/\SqT K H a xs/\xs.length=n/\t xs σ H Q
theorem Lx {t:tZ}(hc:X.calm=true)(h:Lc X es t)(hn:(assignEach es X.env).length=n:=by rfl)(hst:(assignEach es X.env).findIdx? (·.1)=none:=by rfl):PG X (.Tuple es k pos) (gTup X.K n t):=by
 intro AM s σ H v u Q I r hw;obtain⟨a,xs,e1,hq,hl,hw⟩:=hw;subst e1;cases r;obtain⟨its,rv,ht,hz⟩:=I.tuple hq;refine assign_Tuple_tuple (I.ok.hd hc) ht (by simp[hn,<-hl,rv.length]) hst λh' hx=>?_
 have I1:Inv X AM σ H {s with heap:=h'}:=I.kept (t':=s.toks) λb o e=>hx b o (fY (cM e)) e
 exact h AM _ σ H xs _ Q I1 (~~~rv) hw
def gSub (to ti:TE)(t:Ku):TG:=λv σ H Q=>to σ H λo H1=>ti σ H1 λi H2=>t o i v H2 λH3=>Q σ H3
theorem Sm {o i:AI}{to ti:TE}{t:Ku}(ho:PE X o to)(hi:PE X i ti)(hs:Uw X t)(ha : ∀ v, assign (.Subscript o i pos) X.env v = (do
      let ov<-holding [v] (eval o X.env)
      let iv<-holding [v,ov] (eval i X.env)
      standAt pos
      holding [v,ov,iv] (setItem ov iv v)
      release [v,ov,iv] []):=by intro _;rfl):PG X (.Subscript o i pos) (gSub to ti t):=by
  intro AM s σ H v u Q I r h;rw[ha];refine aH (fV (aW (ho AM s σ H _ I h) λov s1 ⟨x,H1,I1,r1,q1⟩=>?_));refine aH (fV (aW (hi AM s1 σ H1 _ I1 q1) λiv s2 ⟨y,H2,I2,r2,q2⟩=>?_));refine aH (Hf (aH (fV (aW (hs AM s2 σ H2 x y v ov iv u _ I2 r1 r2 r q2) λ_ s3 ⟨H3,I3,q3⟩=>?_))));exact wpAny_release ⟨σ,H3,I3,q3⟩
def Yd (te:TE)(g:TG):TS:=λD σ H=>te σ H λx H1=>g x σ H1 D.nx
theorem Er {g:TG}(he:PE X e te)(hg:PG X tg g)(hs:swapsWithSole [tg] e pos.line X.env=pure false:=by rfl)(hw:swappedStores [tg] e X.env=pure none:=by rfl)(h1:(assignEach [tg] X.env).map (·.2)=[assign tg X.env]:=by rfl):PS X (.Assign [tg] e pos) (Yd te g):=by
 intro AM s σ H D I h;refine wpAny_Assign_stores (aW (he AM s σ H _ I h) λv s1 ⟨x,H1,I1,r1,q1⟩=>?_) hs hw;rw[h1];exact aW (hg AM s1 σ H1 x v _ I1 r1 q1) λ_ s2 q=>q
theorem zqf (hN:X.N.Nodup)(hi:X.N[i]? =some x)(hx:jX X.env.scope x)(he:PE X e te)(hs:swapsWith e (some (.Name x pos')) pos.line X.env=pure false:=by rfl)(hf:X.fn x=true\/X.env.scope.names.lookup x=some .local:=by first|exact .inl rfl|exact .inr rfl|assumption):
  PS X (.Assign [.Name x pos'] e pos) (Yd te (Ee i)):=by
 intro AM s σ H D I h;refine wpAny_Assign_Name (aW (he AM s σ H _ I h) λv s1 ⟨y,H1,I1,r1,q1⟩=>?_) hs;exact Pk I1 hN hi hx r1 (λs2 I2=>⟨_,H1,I2,q1⟩) hf
def tPar (i j:Nat)(ta:TA):TS:=λD σ H=>ta σ H λvs H1=>∃v w,vs=[v,w]/\D.nx ((σ.set i (some v)).set j (some w)) H1
theorem Kw {x y:Str}{a b:AI}{px py pt:Pos}{kt k2 pt2}(hc:X.calm=true)(hN:X.N.Nodup)(hi:X.N[i]? =some x)(hj:X.N[j]? =some y)(hij:i≠j)(hx:X.env.scope.names.lookup x=some .local)(hy:X.env.scope.names.lookup y=some .local)(ha:PA X [a,b] ta)(hw:swappedStores [.Tuple [.Name x px,.Name y py] kt pt] (.Tuple [a,b] k2 pt2) X.env=pure (some [x,y]))(hs:swapsWithSole [.Tuple [.Name x px,.Name y py] kt pt] (.Tuple [a,b] k2 pt2) pos.line X.env=pure false:=by rfl):
  PS X (.Assign [.Tuple [.Name x px,.Name y py] kt pt] (.Tuple [a,b] k2 pt2) pos) (tPar i j ta):=by
 intro AM s σ H D I h;rw[exec_Assign_arm];refine aH (Hf ?_);rw[hs];refine aH (qaB ?_);rw[if_neg (by decide)];refine aH (Tuple_ (aW (ha _ AM s σ H _ I h) λus s1 ⟨vs,H1,I1,r1,q1⟩=>?_));obtain⟨v,w,e1,q1⟩:=q1;subst e1;obtain⟨u1,u2,rfl,rv,rw'⟩:∃u1 u2,us=[u1,u2]/\RelV v u1/\RelV w u2:=by
  cases r1 with
  |cons p q=>
   cases q with
   |cons p' q'=>
    cases q';exact⟨_,_,rfl,p,p'⟩
 refine lY ?_ (by show 2<=sizeLine;decide);have I2:Inv X AM σ H1 {s1 with heap:=s1.heap.push {cls:= .type "tuple",data:= .seq [u1,u2].toArray}}:=I1.kept (t':=s1.toks) λb o e=>bP _ e
 rw[hw];refine aH (qaB ?_);show AG (model X.prog X.w) X.A (do rule "assign.swapped-stores";let items<-unpackItems (.ref s1⁻¹) 2 none;assignInOrder [λv=>bindName X.env y v,λv=>bindName X.env x v] items.reverse;pure Flow.next) _ _ _;refine aH (Dq (aH (unpackItems_tuple (items:= #[u1,u2]) (I.ok.hd hc) (IsTup.new s1.heap _) λh' hx'=>?_)));have I3:=I2.kept (h':=h') (t':=s1.toks) λb o e=>hx' b o (fY (cM e)) e
 show AG _ _ (assignInOrder [λv=>bindName X.env y v,λv=>bindName X.env x v] [u2,u1]>>=λ_=>pure Flow.next) _ _ _;refine aH (assignInOrder_cons (wpAny_bindName (Pk I3 hN hj (.inl hy) rw' (λs2 I4=>?_) (.inr hy))));refine assignInOrder_cons (wpAny_bindName (Pk I4 hN hi (.inl hx) rv (λs3 I5=>assignInOrder_nil (qaB ?_)) (.inr hx)));rw[List.set_comm _ _ (Ne.symm hij)]at I5;exact⟨_,H1,I5,q1⟩
def tAug (i:Nat)(te:TE)(ti:Zy):TS:=λD σ H=>∃x,σ[i]? =some (some x)/\te σ H λy H1=>ti x y H1 λz H2=>D.nx (σ.set i (some z)) H2
theorem Gn {op:Operator}{ti:Zy}(hN:X.N.Nodup)(hi:X.N[i]? =some x)(hx:jX X.env.scope x)(he:PE X e te)(ho:PIp X op ti)(hf:X.fn x=true\/X.env.scope.names.lookup x=some .local:=by first|exact .inl rfl|exact .inr rfl|assumption):
  PS X (.AugAssign (.Name x pos') op e pos) (tAug i te ti):=by
 intro AM s σ H D I h;obtain⟨v,e1,h⟩:=h;obtain⟨m,hn,hl⟩:=I.loc;have vis:dJ X.env.scope x:=by rcases hx with k|k;exact .inl k;exact .inr (.inl k)
 obtain⟨u,r,l⟩:=hl i x v hi e1 vis;refine wpAny_AugAssign_Name ?_;have go:AG (model X.prog X.w) X.A (eval e X.env) (λw s₂=>AG (model X.prog X.w) X.A (inplaceOp op u w) (λr s₃=>AG (model X.prog X.w) X.A (storeName X.env x r) (λ_=>SP X AM D .next) X.xe s₃) X.xe s₂) X.xe s:=by
  refine aW (he AM s σ H _ I h) λw s1 ⟨y,H1,I1,r1,q1⟩=>?_
  refine aW (ho AM s1 σ H1 v y u w _ I1 r r1 q1) λz s2 ⟨zv,H2,I2,r2,q2⟩=>?_
  exact Pk I2 hN hi hx r2 (λs3 I3=>⟨_,H2,I3,q2⟩) hf
 rcases l with⟨hk,hm⟩|⟨hk,c,hc,hcell⟩
 ·exact wpAny_loadName_local I.ok.kind hk hn hm go
 ·rcases hk with hk|hk
  ·exact wpAny_loadName_cell I.ok.kind hk hc hcell go
  ·rcases hx with k|k
   ·have:X.env.scope.names.lookup x=some .free:=hk;rw[k]at this;cases this
   ·have:X.env.scope.names.lookup x=some .free:=hk;rw[k]at this;cases this
def ipI (f:Int->Int->Int):Zy:=λx y H Q=>∃i j,x= .int i/\y= .int j/\Q (.int (f i j)) H
theorem Lv:PIp X .Add (ipI λi j=>i+j):=by
 intro AM s σ H x y v u Q I r1 r2 h;obtain⟨i,j,e1,e2,q⟩:=h;subst e1;subst e2;obtain⟨t,rfl⟩:=r1;obtain⟨t',rfl⟩:=r2;exact iadd_int ⟨.int _,H,I.tok _,⟨_,rfl⟩,q⟩
end
section
variable {X:Cx}{pos:Pos}
def Ge (c:TT)(tb:TS):TS:=λD σ H=>∃W:Nat->St->Hp->Prop,(∃m,W m σ H)/\∀m σ H,W m σ H->
 c σ H λb H1=>if b=true then ∃N:St->Hp->Prop,(∀σ' H',N σ' H'->∃m',m'<m/\W m' σ' H')/\tb {D with nx:=N,ct:=N,bk:=D.nx} σ H1 else D.nx σ H1
theorem qP {tb:TS}(hp:PassesOwn (model X.prog X.w) X.A X.env X.xe)(hc:PT X c tc)(hb:PSs X body tb):PS X (.While c body [] pos) (Ge tc tb):=by
 intro AM s σ H D I h;obtain⟨W,⟨m0,w0⟩,turn⟩:=h;refine wpAny_While (codeAny_whileLoop (λn s'=>∃σ' H',Inv X AM σ' H' s'/\W n σ' H') ?_ m0 ⟨σ,H,I,w0⟩);rintro n s1 ⟨σ1,H1,I1,w1⟩;refine Kj hp (aW (hc AM s1 σ1 H1 _ I1 (turn n σ1 H1 w1)) λb s2 ⟨H2,I2,q2⟩=>?_);cases b with
 |true=>
  obtain⟨N,hN,q2⟩:=q2;rw[if_pos rfl];refine Kj hp (aW (hb AM s2 σ1 H2 _ I2 q2) λf s3 q3=>?_);cases f with
  |next=>
   obtain⟨σ3,H3,I3,n3⟩:=q3;obtain⟨m',hm,w3⟩:=hN σ3 H3 n3;exact⟨m',hm,σ3,H3,I3,w3⟩
  |cont=>
   obtain⟨σ3,H3,I3,n3⟩:=q3;obtain⟨m',hm,w3⟩:=hN σ3 H3 n3;exact⟨m',hm,σ3,H3,I3,w3⟩
  |brk=>exact q3
  |ret v=>exact q3
 |false=>
  rw[if_neg fN];exact Zr ⟨σ1,H2,I2,q2⟩
end
structure It where
 go:Nat->Hp->Prop
 yld:Nat->Hp->V->Hp->Prop
 stop:Nat->Hp->Prop
def dN (X:Cx)(AM:AA (AD×Obj))(H:Hp)(b:AD):Prop:=
 H b=none/\b≠X.env.locals/\b∉X.fs/\(b∈X.ex\/X.s₀⁻¹<=b)/\(∀x c,X.env.cells.lookup x=some c->c≠b)/\∀p∈X.pn++AM,p.1≠b
theorem Inv.fpOk {H H':Hp}(I:Inv X AM σ H s)(hb:s⁻¹<=b)(hn:H' b=none):dN X AM H' b:=by
 refine⟨hn,Nat.ne_of_gt (iI I.lt hb),I.nofs hb,.inr (bE I.sz hb),λx c e z=>?_,λp hp z=>?_⟩
 ·obtain⟨v,q⟩:=I.cell x c e;exact AH (iI q.lt (by rw[z];exact hb)) (tV _)
 ·exact AH (iI (cM (I.pin p hp).1) (by rw[z];exact hb)) (tV _)
structure Turn (P:Program)(w:World)(K:W.Frag)(tg:Expr)(J:It)(fp:List Addr)(it:Addr)(tn:Nat->Heap->Prop):Prop where
 mem:it∈fp
 obj:∀i h,tn i h->∀b∈fp,∃o,h.get? b=some o/\∀v,o.data≠ .cell v
 keep:∀i h h',tn i h->(∀b∈fp,∀o,h.get? b=some o->h'.get? b=some o)->tn i h'
 item:∀(X:Cx),X.prog=P->X.w=w->X.K=K->X.calm=true->∀(i:Nat) (AM:List (Addr×Obj)) (s:Shared) (σ:St) (H:Hp) (E:Value->Shared->Prop),Inv X AM σ H s->(∀b∈fp,dN X AM H b)->tn i s.heap->J.go i H->
  wpAny (model P w) X.A (pyNext (.ref it)) (λr s1=>∃u,r=some u/\
   wpAny (model P w) X.A (letOwnedTupleGo tg (.ref it) u) (λ_ s2=>∃x H',Inv X AM σ H' s2/\RelV x u/\J.yld i H x H'/\tn (i+1) s2.heap/\∀b∈fp,H' b=none) E s1) E s
 done:∀(X:Cx),X.prog=P->X.w=w->X.K=K->X.calm=true->∀(i:Nat) (AM:List (Addr×Obj)) (s:Shared) (σ:St) (H:Hp) (E:Value->Shared->Prop),Inv X AM σ H s->(∀b∈fp,dN X AM H b)->tn i s.heap->J.stop i H->
  wpAny (model P w) X.A (pyNext (.ref it)) (λr s1=>r=none/\Inv X AM σ H s1) E s
 self:∀(A:Around) (i:Nat) (s:Shared) (Q:Value->Shared->Prop) (E:Value->Shared->Prop),tn i s.heap->Q (.ref it) s->wpAny (model P w) A (pyIter (.ref it)) Q E s
abbrev TI:=St->Hp->(It->Hp->Prop)->Prop
def PIE (X:Cx)(AM:AA (AD×Obj))(σ:St)(tg:AI)(R:It->Hp->Prop)(itv:AC)(s2:AE):Prop:=
 ∃(it:AD) (fp:AA AD) (tn:Nat->AK->Prop) (J:It) (H':Hp),itv= .ref it/\Inv X AM σ H' s2/\Turn X.prog X.w X.K tg J fp it tn/\tn 0 s2.heap/\(∀b∈fp,dN X AM H' b)/\R J H'
def PI (X:Cx)(tg iter:AI)(wi:TI):Prop:=
 ∀(AM:AA (AD×Obj)) (s:AE) (σ:St) (H:Hp) (R:It->Hp->Prop),Inv X AM σ H s->wi σ H R->
  AG (model X.prog X.w) X.A (eval iter X.env) (λv s1=>AG (model X.prog X.w) X.A (pyIter v) (PIE X AM σ tg R) X.xe s1) X.xe s
theorem kP {M:Model}{n:String}{vs:Array AC}{Q:Unit->AE->Prop}(ho:s.heap.get? it=some o)(hc:o.cls= .type n)(hd:o.data= .fields vs)(hn:["enumerate","zip","dict_itemiterator","dict_reverseitemiterator","odict_iterator","itertools.zip_longest","itertools.pairwise"].contains n=false)(hQ:Q () s):AG M A (letOwnedTupleGo tg (.ref it) u) Q E s:=by
  unfold letOwnedTupleGo;cases tg<;>first
    |exact qaB hQ
    | (cases u <;> first
        |exact qaB hQ
        | (refine aH (wpAny_load ho ?_)
           rw[hc,hd];show AG M A (if(["enumerate","zip","dict_itemiterator","dict_reverseitemiterator","odict_iterator","itertools.zip_longest","itertools.pairwise"].contains n&&vs[0]? ==some (rawInt _))=true then _ else _) Q E s;rw[if_neg (by intro h;rw[hn,Bool.false_and]at h;cases h)];exact qaB hQ))
def Itl (K:AF)(a:AD):It:=
 ⟨λi H=>∃xs x,SqL K H a xs/\xs[i]? =some x,λi H x H'=>H'=H/\∀xs,SqL K H a xs->xs[i]? =some x,λi H=>∃xs,SqL K H a xs/\xs.length<=i⟩
def Itt (K:AF)(a:AD):It:=
 ⟨λi H=>∃xs x,SqT K H a xs/\xs[i]? =some x,λi H x H'=>H'=H/\∀xs,SqT K H a xs->xs[i]? =some x,λi H=>∃xs,SqT K H a xs/\xs.length<=i⟩
def Zz (lo:Int)(n:Nat):It:=⟨λi _=>i<n,λi H x H'=>H'=H/\x= .int (lo+i),λi _=>n<=i⟩
theorem zpt {P:AJ}(a it:AD):Turn P w K tg (Itl K a) [it] it (λi h=>h.IsListIter it a i) where
 mem:=by simp
 obj:=λi h st b hb=>by
  have e:b=it:= ~~~hb
  subst e;obtain⟨o,e,c,d⟩:=st;exact⟨o,e,λv z=>by rw[d]at z;cases z⟩
 keep:=λi h h' st k=>st.at λo e=>k it (by simp) o e
 item:=by
  intro X hP hw hK hc i AM s σ H E I hf st hg;subst hP hw hK;obtain⟨xs,x,hq,hx⟩:=hg;obtain⟨its,rv,p,hz⟩:=I.list hq;obtain⟨u,hu,ru⟩:=rv.get hx;obtain⟨f0,f1,f2,f3,f4,f5⟩:=hf it (by simp);refine wpAny_pyNext_list_item st p.isList (x:=u) (~~~hu) λh' st' sb=>?_
  have I1:Inv X AM σ H {s with heap:=h'}:=I.turned (t':=s.toks) (λb o hb e=>(sb.2 b hb).trans e) f0 f1 f3 f4 f5;obtain⟨o,e,c,d⟩:=id st';exact⟨u,rfl,kP (s:={s with heap:=h'}) e c d (by decide) ⟨x,H,I1,ru,⟨rfl,λys hy=>by rw[I.list_inj hy hq];exact hx⟩,st',λb hb=>(hf b hb).1⟩⟩
 done:=by
  intro X hP hw hK hc i AM s σ H E I hf st hg;subst hP hw hK;obtain⟨xs,hq,hx⟩:=hg;obtain⟨its,rv,p,hz⟩:=I.list hq;obtain⟨f0,f1,f2,f3,f4,f5⟩:=hf it (by simp);have hl:=rv.length;exact wpAny_pyNext_list_end (I.ok.hd hc) st p.isList (by simp;lia) λh' eb=>⟨rfl,I.turned (t':=s.toks) (λb o hb e=>eb b o hb e) f0 f1 f3 f4 f5⟩
 self:=λ_ _ _ _ _ st h=>wpAny_pyIter_listiter st h
theorem zoK {P:AJ}(a it:AD):Turn P w K tg (Itt K a) [it] it (λi h=>h.IsTupleIter it a i) where
 mem:=by simp
 obj:=λi h st b hb=>by
  have e:b=it:= ~~~hb
  subst e;obtain⟨o,e,c,d⟩:=st;exact⟨o,e,λv z=>by rw[d]at z;cases z⟩
 keep:=λi h h' st k=>st.at λo e=>k it (by simp) o e
 item:=by
  intro X hP hw hK hc i AM s σ H E I hf st hg;subst hP hw hK;obtain⟨xs,x,hq,hx⟩:=hg;obtain⟨its,rv,p,hz⟩:=I.tuple hq;obtain⟨u,hu,ru⟩:=rv.get hx;obtain⟨f0,f1,f2,f3,f4,f5⟩:=hf it (by simp);refine wpAny_pyNext_tuple_item st (show s.heap.IsTuple a its.toArray from p) (x:=u) (~~~hu) λh' st' sb=>?_
  have I1:Inv X AM σ H {s with heap:=h'}:=I.turned (t':=s.toks) (λb o hb e=>(sb.2 b hb).trans e) f0 f1 f3 f4 f5;obtain⟨o,e,c,d⟩:=id st';exact⟨u,rfl,kP (s:={s with heap:=h'}) e c d (by decide) ⟨x,H,I1,ru,⟨rfl,λys hy=>by rw[I.tuple_inj hy hq];exact hx⟩,st',λb hb=>(hf b hb).1⟩⟩
 done:=by
  intro X hP hw hK hc i AM s σ H E I hf st hg;subst hP hw hK;obtain⟨xs,hq,hx⟩:=hg;obtain⟨its,rv,p,hz⟩:=I.tuple hq;obtain⟨f0,f1,f2,f3,f4,f5⟩:=hf it (by simp);have hl:=rv.length;exact wpAny_pyNext_tuple_end (I.ok.hd hc) st (show s.heap.IsTuple a its.toArray from p) (by simp;lia) λh' eb=>⟨rfl,I.turned (t':=s.toks) (λb o hb e=>eb b o hb e) f0 f1 f3 f4 f5⟩
 self:=λ_ _ _ _ _ st h=>wpAny_pyIter_tupleiter st h
theorem zoD {P:AJ}{w:World}(it:AD)(lo:Int)(n:Nat):Turn P w K tg (Zz lo n) [it] it (λi h=>IsRangeIter h it (lo+(i:Nat)*1) ((n:Int)-(i:Nat)) 1) where
 mem:=by simp
 obj:=λi h st b hb=>by
  have e:b=it:= ~~~hb
  subst e;exact⟨_,st,λv z=>by
   have z':Data.fields _=Data.cell v:=z;cases z'⟩
 keep:=λi h h' st k=>k it (by simp) _ st
 item:=by
  intro X hP hw hK hc i AM s σ H E I hf st hg;subst hP hw hK;obtain⟨f0,f1,f2,f3,f4,f5⟩:=hf it (by simp);have W:=Walks.range (prog:=X.prog) (w:=X.w) (I.ok.hd hc) it lo 1 n;refine W.item i s _ _ hg st λv h' tk hv st' kk=>?_
  obtain⟨t,rfl⟩:=hv;have I1:Inv X AM σ H {s with heap:=h',toks:=tk}:=I.turned (λb o hb e=>kk b o (~~~hb) e) f0 f1 f3 f4 f5;refine⟨_,rfl,kP (s:={s with heap:=h',toks:=tk}) (n:="range_iterator") st' rfl rfl (by decide) ⟨.int (lo+i),H,I1,⟨t,?_⟩,⟨rfl,rfl⟩,st',λb hb=>(hf b hb).1⟩⟩;rw[Int.mul_one]
 done:=by
  intro X hP hw hK hc i AM s σ H E I hf st hg;subst hP hw hK;obtain⟨f0,f1,f2,f3,f4,f5⟩:=hf it (by simp);exact wpAny_pyNext_range_end (I.ok.hd hc) st (by have:n<=i:=hg;lia) λh' eb=>⟨rfl,I.turned (t':=s.toks) (λb o hb e=>eb b o hb e) f0 f1 f3 f4 f5⟩
 self:=λ_ _ _ _ _ st h=>wpAny_pyIter_rangeiter st h
section
variable {X:Cx}{tg:AI}
theorem pS {R:It->Hp->Prop}{lo hi:Int}{t u v:Tok}{tk:Nat}(I:Inv X AM σ H s)(h1: -(2^62)<=lo)(h2:lo<2^62)(h3: -(2^62)<=hi)(h4:hi<2^62)(q:R (Zz lo (hi-lo).toNat) H):AG (model X.prog X.w) X.A (pyIter (.ref s⁻¹)) (PIE X AM σ tg R) E {s with heap:=s.heap.push {cls:= .type "range",data:= .fields #[.int lo t,.int hi u,.int 1 v]},toks:=tk}:=by
 refine wpAny_pyIter_range (IsRange.new ..) (small_one h1 h2 h3 h4) ?_;have I1:Inv X AM σ H {s with heap:=s.heap.push {cls:= .type "range",data:= .fields #[.int lo t,.int hi u,.int 1 v]},toks:=tk}:=I.kept λb o e=>bP _ e
 refine⟨(s.heap.push {cls:= .type "range",data:= .fields #[.int lo t,.int hi u,.int 1 v]}).objs.size,[(s.heap.push {cls:= .type "range",data:= .fields #[.int lo t,.int hi u,.int 1 v]}).objs.size],_,_,H,rfl,
  I1.kept (t':=tk) λb o e=>bP _ e,zoD _ lo (hi-lo).toNat,?_,λb hb=>?_,q⟩
 ·have e1:lo+((0:Nat):Int)*1=lo:=by simp
  have e2:(((hi-lo).toNat:Nat):Int)-((0:Nat):Int)=Builtin.Range.rangeSize lo hi 1:=by rw[rangeSize_one];split<;>lia
  show IsRangeIter _ _ (lo+((0:Nat):Int)*1) ((((hi-lo).toNat:Nat):Int)-((0:Nat):Int)) 1;rw[e1,e2];exact eN _ rfl
 ·have e:b=(s.heap.push {cls:= .type "range",data:= .fields #[.int lo t,.int hi u,.int 1 v]}).objs.size:= ~~~hb
  subst e;exact I1.fpOk (bC _) (I1.hok.fresh (bC _))
def Yh (ta:TA):TI:=λσ H R=>ta σ H λvs H1=>∃j:Int,vs=[.int j]/\ -(2^62)<=j/\j<2^62/\R (Zz 0 j.toNat) H1
theorem zpH {a:AI}{p pos:Pos}(hg:Gl X "range")(hm:X.mg "range"=none)(ha:PA X [a] ta)(hs:starEach [a] X.env=[(false,eval a X.env)]:=by rfl):PI X tg (.Call (.Name "range" p) [a] [] pos) (Yh ta):=by
 intro AM s σ H R I h;refine Call_ (Oe I hg hm boot_range (Zm (aW (ha pos AM s σ H _ I h) λus s1 ⟨vs,H1,I1,r1,q1⟩=>?_) hs rfl));obtain⟨j,e,q1,q2,q⟩:=q1;subst e;cases r1 with
 |cons r rr=>
  cases rr;obtain⟨t,rfl⟩:=r;exact call_range_1 (pS I1 ∅ ∅ q1 q2 (~~~q))
def tFor (wi:TI)(g:TG)(tb:TS):TS:=λD σ H=>wi σ H λJ H1=>∃W:Nat->Nat->St->Hp->Prop,(∃m,W 0 m σ H1)/\∀i m σ H,W i m σ H->
 (J.stop i H/\D.nx σ H)\/(J.go i H/\∃N:St->Hp->Prop,(∀σ' H',N σ' H'->∃m',m'<m/\W (i+1) m' σ' H')/\∀x H',J.yld i H x H'->g x σ H' λσ2 H2=>tb {D with nx:=N,ct:=N,bk:=D.nx} σ2 H2)
def Px (fp:AA AD)(h:AK):AA (AD×Obj):=fp.filterMap λb=>(h.get? b).map λo=>(b,o)
theorem zfP (hb:b∈fp)(e:h.get? b=some o):(b,o)∈Px fp h:=qai.mpr ⟨b,hb,by rw[e];rfl⟩
theorem zq7 (hp:p∈Px fp h):p.1∈fp/\h.get? p.1=some p.2:=by
 obtain⟨b,hb,e⟩:=qai.mp hp;cases q:h.get? b with
 |none=>rw[q]at e;cases e
 |some o=>
  rw[q]at e;have e':(b,o)=p:=Option.some.inj e;subst e';exact⟨hb,q⟩
theorem Inv.pinned (I:Inv X AM σ H s)(hf:∀b∈fp,dN X AM H b)(ho:∀b∈fp,∃o,s.heap.get? b=some o/\∀v,o.data≠ .cell v):Inv X (AM++Px fp s.heap) σ H s:=
 I.pins_of λp hp=>(qaq.mp hp).elim (λz=>I.pin p (dQ _ z)) λz=>by
  obtain⟨hb,e⟩:=zq7 z;obtain⟨f0,f1,f2,_⟩:=hf p.1 hb;obtain⟨o,e',d⟩:=ho p.1 hb;rw[e]at e';cases e';exact⟨e,f0,f1,f2,d⟩
theorem Inv.unpinned {AM pl:AA (AD×Obj)}(I:Inv X (AM++pl) σ H s):Inv X AM σ H s:=I.pins_of λp hp=>I.pin p (dQ _ (kH _ hp))
theorem Io {iter:AI}{wi:TI}{g:TG}{tb:TS}(hp:PassesOwn (model X.prog X.w) X.A X.env X.xe)(hc:X.calm=true)(hi:PI X tg iter wi)(hg:PG X tg g)(hb:PSs X body tb)(hs:∀x,foldedSetIterable iter X.env x=pure x:=by intro _;rfl):PS X (.For tg iter body [] pos) (tFor wi g tb):=by
  intro AM s σ H D I h;refine wpAny_For (aW (hi AM s σ H _ I h) λv s1 h1=>aW h1 λitv s2 h2=>?_) hs;obtain⟨it,fp,tn,J,H2,e,I2,T,st2,f2,W,⟨m0,w0⟩,turn⟩:=h2;subst e;have stat:∀{H':Hp},(∀b∈fp,H' b=none)->∀b∈fp,dN X AM H' b:=λhn b hb=>⟨hn b hb,(f2 b hb).2⟩
  refine codeAny_forLoop_any (λn s'=>∃i σ' H',Inv X AM σ' H' s'/\tn i s'.heap/\(∀b∈fp,H' b=none)/\W i n σ' H') ?_ m0 ⟨0,σ,H2,I2,st2,λb hb=>(f2 b hb).1,w0⟩;rintro n s3 ⟨i,σ3,H3,I3,st3,fr3,w3⟩;rcases turn i n σ3 H3 w3 with⟨stop,qn⟩|⟨go,N,hN,step⟩
  . refine Kj hp (aW (T.done X rfl rfl rfl hc i AM s3 σ3 H3 X.xe I3 (stat fr3) st3 stop) λr s4 ⟨hr,I4⟩=>?_)
    subst hr;exact Zr ⟨σ3,H3,I4,qn⟩
  . refine Kj hp (aW (T.item X rfl rfl rfl hc i AM s3 σ3 H3 X.xe I3 (stat fr3) st3 go) λr s4 ⟨u,hr,h4⟩=>?_)
    subst hr;refine Kj hp (aW h4 λ_ s5 ⟨x,H5,I5,r5,y5,st5,fr5⟩=>?_);have I5':=I5.pinned (stat fr5) (T.obj _ _ st5);refine Kj hp (aW (hg _ s5 σ3 H5 x u _ I5' r5 (step x H5 y5)) λ_ s6 ⟨σ6,H6,I6,q6⟩=>?_);refine Kj hp (aW (hb _ s6 σ6 H6 _ I6 q6) λf s7 q7=>?_);have again:∀{σ7:St} {H7:Hp},Inv X (AM++Px fp s5.heap) σ7 H7 s7->N σ7 H7->∃m,m<n/\∃i σ' H',Inv X AM σ' H' s7/\tn i s7.heap/\(∀b∈fp,H' b=none)/\W i m σ' H':=λ{σ7 H7} I7 n7=>by
      obtain⟨m',hm,w7⟩:=hN σ7 H7 n7;refine⟨m',hm,i+1,σ7,H7,I7.unpinned,T.keep _ _ _ st5 λb hb o e=>(I7.pin (b,o) (dQ _ (dQ _ (zfP hb e)))).1,λb hb=>?_,w7⟩;obtain⟨o,e,d⟩:=T.obj _ _ st5 b hb;exact(I7.pin (b,o) (dQ _ (dQ _ (zfP hb e)))).2.1
    cases f with
    |next=>obtain⟨σ7,H7,I7,n7⟩:=q7;exact again I7 n7
    |cont=>obtain⟨σ7,H7,I7,n7⟩:=q7;exact again I7 n7
    |brk=>obtain⟨σ7,H7,I7,q7⟩:=q7;exact⟨σ7,H7,I7.unpinned,q7⟩
    |ret v=>obtain⟨x7,σ7,H7,I7,r7,q7⟩:=q7;exact⟨x7,σ7,H7,I7.unpinned,r7,q7⟩
end
abbrev R2:=V->V->Hp->VK->Prop
def OpR (X:Cx)(f:AC->AC->Sem AC)(r:R2):Prop:=
 ∀(AM:AA (AD×Obj)) (s:AE) (σ:St) (H:Hp) (x y:V) (v u:AC) (Q:VK),Inv X AM σ H s->RelV x v->RelV y u->r x y H Q->
  AG (model X.prog X.w) X.A (f v u) (EP X AM σ Q) X.xe s
def UnR (X:Cx)(f:AC->Sem AC)(r:V->Hp->VK->Prop):Prop:=
 ∀(AM:AA (AD×Obj)) (s:AE) (σ:St) (H:Hp) (x:V) (v:AC) (Q:VK),Inv X AM σ H s->RelV x v->r x H Q->
  AG (model X.prog X.w) X.A (f v) (EP X AM σ Q) X.xe s
def iO (X:Cx)(f:AC)(r:AA V->Hp->VK->Prop):Prop:=
 ∀(AM:AA (AD×Obj)) (s:AE) (σ:St) (H:Hp) (xs:AA V) (us:AA AC) (Q:VK),Inv X AM σ H s->Vals xs us->r xs H Q->
  AG (model X.prog X.w) X.A (call f us) (EP X AM σ Q) X.xe s
def TruR (X:Cx)(r:V->Hp->(Bool->Hp->Prop)->Prop):Prop:=
 ∀(AM:AA (AD×Obj)) (s:AE) (σ:St) (H:Hp) (x:V) (v:AC) (Q:Bool->Hp->Prop),Inv X AM σ H s->RelV x v->r x H Q->
  AG (model X.prog X.w) X.A (truthy v) (TP X AM σ Q) X.xe s
def Xy (r:R2)(ta tb:TE):TE:=λσ H Q=>ta σ H λx H1=>tb σ H1 λy H2=>r x y H2 Q
def tUn (r:V->Hp->VK->Prop)(ta:TE):TE:=λσ H Q=>ta σ H λx H1=>r x H1 Q
def rI (C:Int->Int->Prop)(g:Int->Int->V):R2:=λx y H Q=>∃i j,x= .int i/\y= .int j/\C i j/\Q (g i j) H
def tL (g:Int->Int->V):R2:=λx y H Q=>∃i j,x= .int i/\y= .int j/\Q (g i j) H
def rU (g:Int->V):V->Hp->VK->Prop:=λx H Q=>∃i,x= .int i/\Q (g i) H
section
variable {X:Cx}{a b c:AI}{ta tb tc:TE}{pos:Pos}
theorem Gh (ha:PE X a ta)(hb:PE X b tb){R:V->V->Hp->Prop}(I:Inv X AM σ H s)(h:ta σ H λx H1=>tb σ H1 λy H2=>R x y H2){Q:AC->AE->Prop}{f:AC->AC->Sem AC}(hf:∀v u s2 x y H2,Inv X AM σ H2 s2->RelV x v->RelV y u->R x y H2->AG (model X.prog X.w) X.A (f v u) Q X.xe s2):
  AG (model X.prog X.w) X.A (eval a X.env) (λv s₁=>AG (model X.prog X.w) X.A (eval b X.env) (λu s₂=>AG (model X.prog X.w) X.A (f v u) Q X.xe s₂) X.xe s₁) X.xe s:=by
 refine aW (ha AM s σ H _ I h) λv s1 ⟨x,H1,I1,r1,q1⟩=>?_
 refine aW (hb AM s1 σ H1 _ I1 q1) λu s2 ⟨y,H2,I2,r2,q2⟩=>?_
 exact hf v u s2 x y H2 I2 r1 r2 q2
theorem Ek {op:Operator}{r:R2}(ho:OpR X (binaryOp op) r)(ha:PE X a ta)(hb:PE X b tb):PE X (.BinOp a op b pos) (Xy r ta tb):=by
 intro AM s σ H Q I h;exact wpAny_BinOp (Gh ha hb I h λv u s2 x y H2 I2 rx ry q=>ho AM s2 σ H2 x y v u Q I2 rx ry q)
theorem Wt {op:UnaryOp}(ho:UnR X (unaryOp op) r)(ha:PE X a ta):PE X (.UnaryOp op a pos) (tUn r ta):=by
 intro AM s σ H Q I h;exact UnaryOp_ (aW (ha AM s σ H _ I h) λv s1 ⟨x,H1,I1,r1,q1⟩=>ho AM s1 σ H1 x v Q I1 r1 q1)
theorem Cs {C:Int->Int->Prop}(rule:∀(i j:Int) (t u:Tok) (s:AE) (Q:AC->AE->Prop) (E:AC->AE->Prop),C i j->Q (.int (g i j) s.toks) {s with toks:=s.toks+1}->AG (model X.prog X.w) X.A (f (.int i t) (.int j u)) Q E s):
  OpR X f (rI C λi j=> .int (g i j)):=by
 intro AM s σ H x y v u Q I rx ry h;obtain⟨i,j,rfl,rfl,hc,q⟩:=h;obtain⟨t,rfl⟩:=rx;obtain⟨t',rfl⟩:=ry;exact rule i j t t' s _ _ hc ⟨.int (g i j),H,I.tok _,⟨_,rfl⟩,q⟩
theorem Gq
  (rule:∀(i j:Int) (t u:Tok) (s:AE) (Q:AC->AE->Prop) (E:AC->AE->Prop),Q (.int (g i j) s.toks) {s with toks:=s.toks+1}->AG (model X.prog X.w) X.A (f (.int i t) (.int j u)) Q E s):
  OpR X f (tL λi j=> .int (g i j)):=by
 intro AM s σ H x y v u Q I rx ry h;obtain⟨i,j,rfl,rfl,q⟩:=h;obtain⟨t,rfl⟩:=rx;obtain⟨t',rfl⟩:=ry;exact rule i j t t' s _ _ ⟨.int (g i j),H,I.tok _,⟨_,rfl⟩,q⟩
theorem Jo {g:Int->Int->Bool}(rule:∀(i j:Int) (t u:Tok) (s:AE) (Q:AC->AE->Prop) (E:AC->AE->Prop),Q (.bool (g i j)) s->AG (model X.prog X.w) X.A (f (.int i t) (.int j u)) Q E s):
  OpR X f (tL λi j=> .bl (g i j)):=by
 intro AM s σ H x y v u Q I rx ry h;obtain⟨i,j,rfl,rfl,q⟩:=h;obtain⟨t,rfl⟩:=rx;obtain⟨t',rfl⟩:=ry;exact rule i j t t' s _ _ ⟨.bl (g i j),H,I,rfl,q⟩
def Ym (i j:Int):Prop:=0<=j/\j<=1000000/\i.natAbs<2^64
theorem zoj (k:Nat):(0:Int)<=2^k:=by
 rw[two_pow_cast];exact Int.natCast_nonneg _
theorem op_add:OpR X (binaryOp .Add) (tL λi j=> .int (i+j)):=Gq λ_ _ _ _ _ _ _ q=>add_int q
theorem Kr:OpR X (binaryOp .Sub) (tL λi j=> .int (i-j)):=Gq λ_ _ _ _ _ _ _ q=>sub_int q
theorem Fi:OpR X (binaryOp .Mod) (rI (λ_ j=>0<j) λi j=> .int (i%j)):=Cs λi j _ _ _ _ _ hc q=>by
 have h1:(0:Int)<j:=hc;exact mod_int' ∅ (by rw[Int.fmod_eq_emod_of_nonneg i ∅];exact q)
theorem yS:OpR X (binaryOp .Mod) (rI (λ_ j=>j≠0) λi j=> .int (i.fmod j)):=Cs λ_ _ _ _ _ _ _ hc q=>mod_int' hc q
theorem Jw:OpR X (binaryOp .Pow) (rI Ym λi j=> .int (i^j.toNat)):=Cs λ_ _ _ _ _ _ _ hc q=>pow_int_small hc.1 hc.2.1 hc.2.2 q
theorem Fc:OpR X (binaryOp .LShift) (rI Ym λi j=> .int (i*2^j.toNat)):=Cs λ_ _ _ _ _ _ _ hc q=>lshift_int_small hc.1 hc.2.1 hc.2.2 q
theorem Fd:OpR X (binaryOp .RShift) (rI (λ_ j=>0<=j) λi j=> .int (i/2^j.toNat)):=Cs λi j _ _ _ _ _ hc q=>
 rshift_int hc (by rw[Za i (zoj _)];exact q)
theorem Ht:OpR X (binaryOp .BitAnd) (tL λi j=> .int (Builtin.bitAnd i j)):=Gq λ_ _ _ _ _ _ _ q=>and_int q
theorem unI {f:AC->Sem AC}{g:Int->Int}(rule:∀(i:Int) (t:Tok) (s:AE) (Q:AC->AE->Prop) (E:AC->AE->Prop),Q (.int (g i) s.toks) {s with toks:=s.toks+1}->AG (model X.prog X.w) X.A (f (.int i t)) Q E s):
  UnR X f (rU λi=> .int (g i)):=by
 intro AM s σ H x v Q I rx h;obtain⟨i,rfl,q⟩:=h;obtain⟨t,rfl⟩:=rx;exact rule i t s _ _ ⟨.int (g i),H,I.tok _,⟨_,rfl⟩,q⟩
theorem Jr:UnR X (unaryOp .USub) (rU λi=> .int (-i)):=unI λ_ _ _ _ _ q=>neg_int q
end
section
variable {X:Cx}{a b c:AI}{ta tb tc:TE}{pos:Pos}
theorem Gj {Q:VK}{k k':Bool}(I:Inv X AM σ H s)(q:Q (.bl k) H)(e:k=k'):EP X AM σ Q (.bool k') s:=by
 subst e;exact⟨.bl k,H,I,rfl,q⟩
theorem Tb:OpR X (compareOp .Lt) (tL λi j=> .bl (decide (i<j))):=Jo λ_ _ _ _ _ _ _ q=>lt_int q
theorem Cq:OpR X (compareOp .Gt) (tL λi j=> .bl (decide (j<i))):=Jo λ_ _ _ _ _ _ _ q=>gt_int q
theorem Cj:OpR X (compareOp .GtE) (tL λi j=> .bl (decide (j<=i))):=Jo λ_ _ _ _ _ _ _ q=>ge_int q
theorem wK:OpR X (compareOp .IsNot) (λx y H Q=>y= .non/\Q (.bl (!decide (x= .non))) H):=by
 intro AM s σ H x y v u Q I rx ry h;obtain⟨rfl,q⟩:=h;cases ry;refine isnot_none_gen (Gj I q ?_);cases x<;>first
  |(cases rx;rfl)
  |(obtain⟨t,rfl⟩:=rx;rfl)
def isObj:HO->Bool
 | .lst _=>true
 | .ins _ _ _=>true
 |_=>false
theorem OpR.or {r r':R2}(h:OpR X f r)(h':OpR X f r'):OpR X f (λx y H Q=>r x y H Q\/r' x y H Q):=by
 intro AM s σ H x y v u Q I rx ry q;rcases q with q|q
 ·exact h AM s σ H x y v u Q I rx ry q
 ·exact h' AM s σ H x y v u Q I rx ry q
theorem vS (b:AI)(h:op≠ .In:=by decide)(h2:op≠ .NotIn:=by decide):behindInMarks op b=false:=by
 have e1:(op==CmpOp.In)=false:=by cases op<;>first|rfl|exact AH rfl h
 have e2:(op==CmpOp.NotIn)=false:=by cases op<;>first|rfl|exact AH rfl h2
 cases b<;>simp[behindInMarks,e1,e2]
theorem vM {r:R2}(ho:OpR X (compareOp op) r)(ha:PE X a ta)(hb:PE X b tb)(hm:behindInMarks op b=false):PE X (.Compare a [op] [b] pos) (Xy r ta tb):=by
 intro AM s σ H Q I h;exact wpAny_Compare1 (Gh ha hb I h λv u s2 x y H2 I2 rx ry q=>ho AM s2 σ H2 x y v u Q I2 rx ry q) hm
def Py (t:TE):TT:=λσ H Q=>t σ H λx H'=>∃k,x= .bl k/\Q k H'
theorem zO {r:R2}(ho:OpR X (compareOp op) r)(ha:PE X a ta)(hb:PE X b tb)(hm:behindInMarks op b=false):PT X (.Compare a [op] [b] pos) (Py (Xy r ta tb)):=by
 intro AM s σ H Q I h;refine wpAny_isTrue_Compare1 (aW (ha AM s σ H _ I h) λv s1 ⟨x,H1,I1,r1,q1⟩=>aW (hb AM s1 σ H1 _ I1 q1) λu s2 ⟨y,H2,I2,r2,q2⟩=>
  aW (ho AM s2 σ H2 x y v u _ I2 r1 r2 q2) λc s3 ⟨z,H3,I3,r3,k,e,q3⟩=>?_) hm
 subst e;cases r3;exact Eu ⟨H3,I3,q3⟩
def Wz (K:AF)(x:V)(H:Hp)(k:Bool):Prop:=
 match x with
 | .non=>k=false
 | .bl b=>k=b
 | .int i=>k=(i !=0)
 | .str y=>y.length<=sizeLine/\k=((y.length:Int) !=0)
 | .byt y=>y.size<=sizeLine/\k=((y.size:Int) !=0)
 | .ref p=>(∃xs,SqL K H p xs/\k=!xs.isEmpty)\/(∃xs,SqT K H p xs/\k=!xs.isEmpty)\/∃kvs,H p=some (.dK kvs)/\k=!kvs.isEmpty
 |_=>False
theorem zom {κ:Type}{kvs:AA (κ×V)}{vs:AA (κ×AC)}(r:KV kvs vs):(!vs.isEmpty)=!kvs.isEmpty:=by
 cases r<;>rfl
theorem zke (r:Vals xs its):(!its.toArray.isEmpty)=!xs.isEmpty:=by
 cases r<;>simp
theorem Gd:(sizeLine:Nat)<2^63:=by rw[gZ];decide
theorem Kk:TruR X (λx H Q=>∃k,Wz X.K x H k/\Q k H):=by
 intro AM s σ H x v Q I rx h;obtain⟨k,e,q⟩:=h;have hl:=Gd;have hs:sizeLine=16777216:=gZ;cases x with
 |non=>
  cases rx;have e':k=false:=e;subst e';exact truthy_none ⟨H,I,q⟩
 |bl b=>
  cases rx;have e':k=b:=e;subst e';exact Eu ⟨H,I,q⟩
 |int i=>
  obtain⟨t,rfl⟩:=rx;have e':k=(i !=0):=e;subst e';exact PySem.P.truthy_int ⟨H,I,q⟩
 |str y=>
  obtain⟨t,rfl⟩:=rx;obtain⟨hy,e'⟩:y.length<=sizeLine/\k=((y.length:Int) !=0):=e;subst e';exact PySem.P.truthy_str ∅ ⟨H,I.tok _,q⟩
 |byt y=>
  obtain⟨t,rfl⟩:=rx;obtain⟨hy,e'⟩:y.size<=sizeLine/\k=((y.size:Int) !=0):=e;subst e';exact W.truthy_bytes ∅ ⟨H,I.tok _,q⟩
 |ref p=>
  cases rx;have e':(∃xs,SqL X.K H p xs/\k=!xs.isEmpty)\/(∃xs,SqT X.K H p xs/\k=!xs.isEmpty)\/∃kvs,H p=some (.dK kvs)/\k=!kvs.isEmpty:=e;rcases e' with⟨xs,hx,e'⟩|⟨xs,hx,e'⟩|⟨kvs,hx,e'⟩
  ·subst e';obtain⟨its,r,pl,hz⟩:=I.list hx;have AO:=r.length;exact wpAny_truthy_list pl.isList (by simp only[bR];lia) ⟨H,I.tok _,by rw[zke r];exact q⟩
  ·subst e';obtain⟨its,r,pl,hz⟩:=I.tuple hx;have AO:=r.length;exact truthy_tuple pl (by simp only[bR];lia) ⟨H,I.tok _,by rw[zke r];exact q⟩
  ·subst e';obtain⟨hz,hS,vs,r,m⟩:kvs.length<=sizeLine/\(p==sysModules)=false/\∃vs,KV kvs vs/\s.heap.DictOf (kN X.prog X.w) p vs:=I.hok p _ hx;have AO:kvs.length=vs.length:=Paired.length r;exact wpAny_truthy_dict hS m ∅ ⟨H,I.tok _,by rw[zom r];exact q⟩
 |_=>exact(show False from e).elim
theorem qM (ha:PE X a ta)(he:∀whole,isTrue a X.env whole=(do let v<-whole;standAt a.pos;holding [v] (truthy v))):
  PT X a (λσ H Q=>ta σ H λx H'=>∃k,Wz X.K x H' k/\Q k H'):=by
 intro AM s σ H Q I h;exact isTrue_plain (aW (ha AM s σ H _ I h) λv s1 ⟨x,H1,I1,r1,q1⟩=>Kk AM s1 σ H1 x v Q I1 r1 q1) (he _)
theorem zoM:OpR X (binaryOp .Add) (λx y H Q=>∃i j,x= .str i/\y= .str j/\i.length+j.length<=sizeLine/\Q (.str (i++j)) H):=by
 intro AM s σ H x y v u Q I rx ry h;obtain⟨i,j,rfl,rfl,hz,q⟩:=h;obtain⟨t,rfl⟩:=rx;obtain⟨t',rfl⟩:=ry;exact add_str (λt' tk=>⟨.str (i++j),H,I.tok _,⟨_,rfl⟩,q⟩) hz
theorem qX {x:V}(r:Vals [x] us):∃u,us=[u]/\RelV x u:=by
 cases r with
 |cons r1 r2=>cases r2;exact⟨_,rfl,r1⟩
theorem kD {x y:V}(r:Vals [x,y] us):∃u w',us=[u,w']/\RelV x u/\RelV y w':=by
 cases r with
 |cons r1 r2=>
  cases r2 with
  |cons r3 r4=>cases r4;exact⟨_,_,rfl,r1,r3⟩
theorem rP:iO X (.builtin "abs") (λxs H Q=>∃i,xs=[.int i]/\Q (.int (if i<0 then-i else i)) H):=by
 intro AM s σ H xs us Q I r h;obtain⟨i,rfl,q⟩:=h;obtain⟨u,rfl,t,rfl⟩:=qX r;exact call_abs_int λu tk=>⟨.int (if i<0 then-i else i),H,I.tok _,⟨_,rfl⟩,q⟩
theorem zqo (hc:X.calm=true):iO X (.builtin "max") (λxs H Q=>∃i j,xs=[.int i,.int j]/\Q (.int (if j>i then j else i)) H):=by
 intro AM s σ H xs us Q I r h;obtain⟨i,j,rfl,q⟩:=h;obtain⟨u,w',rfl,⟨t,rfl⟩,⟨t',rfl⟩⟩:=kD r;refine max_two_ints (I.ok.hd hc) λh' tk k=>⟨_,H,I.kept k,?_,q⟩
 by_cases hj:j>i
 ·rw[if_pos hj,if_pos hj];exact⟨_,rfl⟩
 ·rw[if_neg hj,if_neg hj];exact⟨_,rfl⟩
theorem zqe (hc:X.calm=true):iO X (.builtin "min") (λxs H Q=>∃i j,xs=[.int i,.int j]/\Q (.int (if j<i then j else i)) H):=by
 intro AM s σ H xs us Q I r h;obtain⟨i,j,rfl,q⟩:=h;obtain⟨u,w',rfl,⟨t,rfl⟩,⟨t',rfl⟩⟩:=kD r;refine min_two_ints (I.ok.hd hc) λh' tk k=>⟨_,H,I.kept k,?_,q⟩
 by_cases hj:j<i
 ·rw[if_pos hj,if_pos hj];exact⟨_,rfl⟩
 ·rw[if_neg hj,if_neg hj];exact⟨_,rfl⟩
theorem zpj:iO X (.type "int") (λxs H Q=>(∃i,xs=[.int i]/\Q (.int i) H)\/∃k,xs=[.bl k]/\Q (.int (if k then 1 else 0)) H):=by
 intro AM s σ H xs us Q I r h;rcases h with⟨i,rfl,q⟩|⟨k,rfl,q⟩
 ·obtain⟨u,rfl,t,rfl⟩:=qX r;exact call_int_int ⟨.int i,H,I,⟨_,rfl⟩,q⟩
 ·obtain⟨u,rfl,r1⟩:=qX r;cases r1;exact call_int_bool ⟨.int (if k then 1 else 0),H,I.tok _,⟨_,rfl⟩,q⟩
end
structure ObjM (h:Heap)(x dx C:Addr)(mA:Str->Option Value):Prop where
 obj:h.get? x=some (W.instObj C dx)
 ns:h.Ns1 dx mA
 ne:dx≠x
theorem zpq (n:h.Ns1 dx mA):∃od,h.get? dx=some od/\∀name,W.lookIn name od=some (mA name):=by
 obtain⟨o,es,ep,ho,hd,hk,_,hm⟩:=n;refine⟨o,ho,λname=>?_⟩;have e:=hm name;unfold nsFind findBy at e;rw[<-Array.find?_toList]at e;unfold W.lookIn;rw[hd];dsimp only
 split
 ·rename_i y q;rw[q]at e;exact congrArg some e
 ·rename_i q;rw[q]at e;have a:es.toList.any (·.refKey)=false:=by
   rw[qaO];intro y hy;obtain⟨z,t,hkey⟩:=hk y (qaP.mp hy);simp[DictEntry.refKey,hkey]
  have a':¬es.toList.any (·.refKey)=true:=by rw[a];exact fN
  rw[if_neg a'];exact congrArg some e
theorem ObjM.look {x dx C:AD}(I:ObjM h x dx C mA):∃od,W.InstAt h x (W.instObj C dx) C (some od)/\∀name,W.lookIn name od=some (mA name):=
 let⟨od,ho,hl⟩:=zpq I.ns
 ⟨od,⟨I.obj,rfl,rfl,ho⟩,hl⟩
section
variable {prog:AJ}{w:World}{A:Around}{E:AC->AE->Prop}{s:AE}{K:AF}{x dx C f:AD}{mA:Str->AB AC}{name:Str}{v:AC}
theorem vP {expr:Bool}(X:K.In s.heap)(I:ObjM s.heap x dx C mA)(hg:W.plainGet K C name=true)(hh:W.hasDictIn K C=true)(ha:W.findIn K (.ref C) name=some none)(hv:mA name=some v)(hv':W.handedIn v=true)(h:Q v {s with toks:=s.toks+1}):
  AG (model prog w) A (getAttr (.ref x) name expr) Q E s:=by
 obtain⟨od,J,hl⟩:=I.look;exact W.get_value X J (W.plainGet_of hg).1 (W.findObj_own hh ha rfl (by rw[hl,hv])) hv' h
theorem qR {Q:AC×AA AC->AE->Prop}(X:K.In s.heap)(I:ObjM s.heap x dx C mA)(hg:W.plainGet K C name=true)(hf:W.findIn K (.ref C) name=some (some (.ref f)))(ht:W.isFn K (.ref f)=true)(hv:mA name=none)(h:Q (.ref f,[.ref x]) s):
  AG (model prog w) A (getMethod (.ref x) name pl) Q E s:=by
 obtain⟨od,J,hl⟩:=I.look;exact W.method_fn X J (W.plainGet_of hg).1 (W.plainGet_of hg).2 hf (qaQ.mp ht) (by show(W.lookIn name od).map (·.isSome)=some false;rw[hl,hv];rfl) h
theorem vK {Q:Unit->AE->Prop}(X:K.In s.heap)(I:ObjM s.heap x dx C mA)(hs:W.findIn K (.ref C) "__setattr__"=some (some (.builtin "object.__setattr__")))(hp:W.plainOver K C=true)(ht:W.takerIn K C name=some none)(hh:W.hasDictIn K C=true)(hw:PySem.Within mA ns)(hsz:ns.length<=sizeLine)(h:∀h',ObjM h' x dx C (λy=>if y=name then some v else mA y)->Heap.SameBut dx s.heap h'->Q () {s with heap:=h',toks:=s.toks+2}):
  AG (model prog w) A (setAttr (.ref x) name v) Q E s:=by
 obtain⟨od,J,hl⟩:=I.look;refine W.set_plain X J hs (W.osa_open (s:={s with toks:=s.toks+1}) (r:=none) X J hp ht λb=>?_);obtain⟨cd,hc,hd'⟩:=W.any_some hh;have hx:s.heap.get? x=some ⟨.ref C,some dx,.plain,#[]⟩:=I.obj;refine aH (qaB (aH (aH (wpAny_loadPart hx (aH (W.Looks.here (s:={s with toks:=s.toks+1}) (W.looks_clsIn X hc) ?_))))));rw[hd'];refine qaB (a:=some dx) (aH (qaB (aH ?_)));refine wpAny_nsSet1 (s:={s with toks:=s.toks+1}) I.ns λh' hn2 hs2=>?_
 obtain⟨oD,esD,epD,hoD,hdD,hcD⟩:=hn2.count (PySem.Within.cons name v hw);refine aH (wpAny_lookBehind hoD (by rw[hdD];exact pastItsLine_dict (bE hcD (by rw[eH];lia))) ?_);exact qaB (h _ ⟨(hs2.2 _ (Ne.symm I.ne)).trans I.obj,hn2,I.ne⟩ hs2)
theorem nF {R:Result->AE->Prop}{vs:AA AC}(X:K.In s.heap)(hm:W.makesIn K C=true)(hi:W.findIn K (.ref C) "__init__"=some (some (.ref f)))(hf:W.typeIn K (.ref f)=some (.type "function"))(h : codeAny (model prog w) (A.under (.builtin "type.__call__" ⟨.ref C :: vs, kw⟩)) (.call (.ref f) ⟨.ref (s⁻¹ + 1) :: vs, kw⟩) (W.InitBack (s⁻¹ + 1) R)
   {s with heap:=(s.heap.push W.emptyDict).push (W.instObj C s⁻¹)}):
  codeAny (model prog w) A (.call (.ref C) ⟨vs,kw⟩) R s:=by
 obtain⟨hh,g,d,t,os⟩:=s;exact W.make_core (W.makes_of X hm) (W.looks_findIn X hi) (λself=>W.bind_fn X self hf) (.inl rfl) h
end
def bM (f:Str)(v:V):AA (Str×V)->AA (Str×V)
 |[]=>[(f,v)]
 |(g,x)::r=>if g=f then(g,v)::r else(g,x)::bM f v r
theorem zjt (f g:Str)(v:V):∀fs:AA (Str×V),(bM f v fs).lookup g=if g=f then some v else fs.lookup g
 |[]=>by
  show List.lookup g [(f,v)]=_
  by_cases h:g=f
  ·have hb:(g==f)=true:=qaQ.mpr h;simp only[List.lookup,hb,if_pos h]
  ·have hb:(g==f)=false:=qab.mpr h;simp only[List.lookup,hb,if_neg h]
 |(k,x)::r=>by
  have ih:=zjt f g v r;rw[show bM f v ((k,x)::r)=(if k=f then(k,v)::r else(k,x)::bM f v r)from rfl]
  by_cases hk:k=f
  ·rw[if_pos hk]
   by_cases h:g=k
   ·have hb:(g==k)=true:=qaQ.mpr h;simp only[List.lookup,hb,if_pos (h.trans hk)]
   ·have hb:(g==k)=false:=qab.mpr h;simp only[List.lookup,hb,if_neg (λe:g=f=>h (e.trans hk.symm))]
  ·rw[if_neg hk]
   by_cases h:g=k
   ·have hb:(g==k)=true:=qaQ.mpr h;simp only[List.lookup,hb,if_neg (λe:g=f=>hk (h.symm.trans e))]
   ·have hb:(g==k)=false:=qab.mpr h;simp only[List.lookup,hb];exact ih
theorem zjA (f:Str)(v:V):∀fs:AA (Str×V),f∈(bM f v fs).map (·.1)/\∀g,g∈fs.map (·.1)->g∈(bM f v fs).map (·.1)
 |[]=>⟨by simp[bM],λg h=>by simp at h⟩
 |(k,x)::r=>by
  obtain⟨i1,i2⟩:=zjA f v r;rw[show bM f v ((k,x)::r)=(if k=f then(k,v)::r else(k,x)::bM f v r)from rfl]
  by_cases hk:k=f
  ·rw[if_pos hk];subst hk;exact⟨by simp,λg h=> ~~~h⟩
  ·rw[if_neg hk];refine⟨?_,λg h=>?_⟩
   ·rw[eY];exact fF _ i1
   ·rw[eY]at h ⊢;rcases qap.mp h with e|e
    ·exact qap.mpr (.inl e)
    ·exact fF _ (i2 g e)
theorem ziX (f:Str)(v:V):∀fs:AA (Str×V),(bM f v fs).length<=fs.length+1
 |[]=>by simp[bM]
 |(k,x)::r=>by
  have ih:=ziX f v r;rw[show bM f v ((k,x)::r)=(if k=f then(k,v)::r else(k,x)::bM f v r)from rfl]
  by_cases hk:k=f
  ·rw[if_pos hk,eH,eH];lia
  ·rw[if_neg hk,eH,eH];lia
theorem RelO.some_of {o:AB AC}(r:RelO (some v) o):∃u,o=some u/\RelV v u:=by
 cases o with
 |none=>exact(show False from r).elim
 |some u=>exact⟨u,rfl,r⟩
theorem RelO.none_of {o:AB AC}(r:RelO none o):o=none:=by
 cases o with
 |none=>rfl
 |some u=>exact(show False from r).elim
theorem zqC (r:RelV v u):W.handedIn u=true:=by
 cases v with
 |non=>cases(show u=Value.none from r);rfl
 |bl b=>cases(show u=Value.bool b from r);rfl
 |int i=>obtain⟨t,e⟩:=(show ∃t,u=Value.int i t from r);cases e;rfl
 |str x=>obtain⟨t,e⟩:=(show ∃t,u=Value.str x t from r);cases e;rfl
 |byt b=>obtain⟨t,e⟩:=(show ∃t,u=Value.bytes b t from r);cases e;rfl
 |flt b=>obtain⟨t,e⟩:=(show ∃t,u=Value.float b t from r);cases e;rfl
 |ref a=>cases(show u=Value.ref a from r);rfl
 |ty n=>cases(show u=Value.type n from r);rfl
section
variable {P:AJ}{w:World}{H H':Hp}{h h':AK}{a C dx:AD}{fs fs':AA (Str×V)}
theorem zk9 (hok:HOk P w H h)(e:H a=some (.ins C dx fs)):∃mA,ObjM h a dx C mA/\(∀f,RelO (fs.lookup f) (mA f))/\PySem.Within mA (fs.map (·.1))/\fs.length<=1000/\H dx=some (.own a):=by
 obtain⟨d,z,ne,ob,mA,n,r,q⟩:=(show ObjOk P w H h a (.ins C dx fs)from hok a _ e);exact⟨mA,⟨ob,n,ne⟩,r,q,z,d⟩
end
structure Cls (K:W.Frag)(C:Addr):Prop where
 pg:W.plainGet K C Str.empty=true
 hd:W.hasDictIn K C=true
 po:W.plainOver K C=true
 sa:W.findIn K (.ref C) "__setattr__"=some (some (.builtin "object.__setattr__"))
theorem Cls.get (c:Cls K C)(f:Str):W.plainGet K C f=true:=c.pg
def NoAttr (K:AF)(C:AD)(f:Str):Prop:=W.findIn K (.ref C) f=some none
theorem NoAttr.taker {f:Str}(n:NoAttr K C f):W.takerIn K C f=some none:=by
 unfold W.takerIn;rw[show W.findIn K (.ref C) f=some none from n]
 rfl
structure Meth (K:W.Frag)(C:Addr)(m:Str)(f:Addr):Prop where
 at_:W.findIn K (.ref C) m=some (some (.ref f))
 fn:W.isFn K (.ref f)=true
 kp:W.keepIn K (.ref f)=true
section
variable {X:Cx}{AM:AA (AD×Obj)}{σ:St}{H:Hp}{s:AE}{a C dx:AD}{fs:AA (Str×V)}{f:Str}{v:V}{A:Around}{E:AC->AE->Prop}
theorem zoT {b:Bool}(I:Inv X AM σ H s)(e:H a=some (.ins C dx fs))(c:Cls X.K C)(n:NoAttr X.K C f)(l:fs.lookup f=some v)(h:∀u s',Inv X AM σ H s'->RelV v u->Q u s'):AG (model X.prog X.w) A (getAttr (.ref a) f b) Q E s:=by
 obtain⟨mA,O,r,_,_,_⟩:=zk9 I.hok e;obtain⟨u,hu,ru⟩:=RelO.some_of (v:=v) (o:=mA f) (by rw[<-l];exact r f);exact vP I.kIn O (c.get f) c.hd n hu (zqC ru) (h u _ (I.tok _) ru)
theorem zki {g:AD}{Q:AC×AA AC->AE->Prop}(I:Inv X AM σ H s)(e:H a=some (.ins C dx fs))(c:Cls X.K C)(k:Meth X.K C m g)(l:fs.lookup m=none)(h:Q (.ref g,[.ref a]) s):AG (model X.prog X.w) A (getMethod (.ref a) m pl) Q E s:=by
 obtain⟨mA,O,r,_,_,_⟩:=zk9 I.hok e;have hn:mA m=none:=RelO.none_of (by rw[<-l];exact r m);exact qR I.kIn O (c.get m) k.at_ k.fn hn h
theorem zoy {Q:Unit->AE->Prop}(I:Inv X AM σ H s)(e:H a=some (.ins C dx fs))(c:Cls X.K C)(n:NoAttr X.K C f)(hl:fs.length<1000)(ry:RelV y u)(h:∀s',Inv X AM σ (upd H a (.ins C dx (bM f y fs))) s'->Q () s'):AG (model X.prog X.w) A (setAttr (.ref a) f u) Q E s:=by
 obtain⟨mA,O,r,wi,_,ho⟩:=zk9 I.hok e;have hz:(fs.map (·.1)).length<=sizeLine:=by rw[eI,gZ];lia
 refine vK I.kIn O c.sa c.po n.taker c.hd wi hz λh' O' sb=>h _ ?_
 have hd:∃o,h'.get? dx=some o:=let⟨o,_,_,e',_⟩:=O'.ns;⟨o,e'⟩;refine I.write (x:=a) (e:=dx) (by rw[e];exact True.intro) (.inr ho) (λb q hb z=>(sb.2 b hb).trans z) hd ?_;refine⟨by rw[aV O.ne];exact ho,?_,O.ne,O'.obj,_,O'.ns,λg=>?_,λg hg=>?_⟩
 ·have:=ziX f y fs;lia
 ·show RelO ((bM f y fs).lookup g) (if g=f then some u else mA g);rw[zjt]
  by_cases q:g=f
  ·rw[if_pos q,if_pos q];exact ry
  ·rw[if_neg q,if_neg q];exact r g
 ·by_cases q:g=f
  ·rw[q];exact(zjA f y fs).1
  ·refine(zjA f y fs).2 g (wi g λz=>hg ?_);show(if g=f then some u else mA g)=none;rw[if_neg q];exact z
theorem Inv.made (I:Inv X AM σ H s):Inv X AM σ (upd (upd H s⁻¹ (.own (s⁻¹+1))) (s⁻¹+1) (.ins C s⁻¹ []))
  {s with heap:=(s.heap.push W.emptyDict).push (W.instObj C s⁻¹)}:=by
 have e1:(s.heap.push W.emptyDict).get? s⁻¹=some W.emptyDict:=eN s.heap rfl;have e2:((s.heap.push W.emptyDict).push (W.instObj C s⁻¹)).get? (s⁻¹+1)=some (W.instObj C s⁻¹):=by
  have:=eN (s.heap.push W.emptyDict) (o:=W.instObj C s⁻¹) rfl;rwa[lM]at this
 have e3:(s.heap.push W.emptyDict).Ns s⁻¹ (λ_=>none):=⟨W.emptyDict,#[],_,e1,rfl,(λe he=>AH he (by simp)),λ_=>rfl⟩;have I1:=I.laid (a:=s⁻¹) (o:= .own (s⁻¹+1)) (h':=s.heap.push W.emptyDict) (t':=s.toks) (λb u q=>bP _ q) (bC _) ⟨_,e1⟩;refine I1.laid (a:=s⁻¹+1) (o:= .ins C s⁻¹ []) (t':=s.toks) (λb u q=>bP _ q) (Nat.le_of_eq (lM _ _)) ?_;have ne:s⁻¹≠s⁻¹+1:=fY (Ot _);refine⟨by rw[aV ne,cT],gR _,ne,e2,λ_=>none,(Heap.Ns1.of_empty e3).at λo q=>bP _ q,λ_=>True.intro,λy hy=>AH rfl hy⟩
theorem Aj {env:Env}{f:Str}(hb:attributeBase e f env (eval e env)=eval e env)(h:AG (model prog w) A (eval e env) (λo s₁=>AG (model prog w) A (getAttr o f true) Q E s₁) E s):AG (model prog w) A (eval (.Attribute e f pos) env) Q E s:=
 Attribute_any_ h (by rw[arm_eval_Attribute,hb])
end
def tFld (K:AF)(ta:TE)(f:Str):TE:=λσ H Q=>ta σ H λx H1=>∃a C dx fs v,x= .ref a/\H1 a=some (.ins C dx fs)/\Cls K C/\NoAttr K C f/\fs.lookup f=some v/\Q v H1
def sFld (K:AF)(ta tv:TE)(f:Str):TS:=λD σ H=>tv σ H λy H1=>ta σ H1 λx H2=>∃a C dx fs,x= .ref a/\H2 a=some (.ins C dx fs)/\Cls K C/\NoAttr K C f/\fs.length<1000/\
 D.nx σ (upd H2 a (.ins C dx (bM f y fs)))
section
variable {X:Cx}{o e value:AI}{f:Str}{pos pos' tpos:Pos}{ta tv:TE}
theorem znr (he:PE X e ta)(hb:attributeBase e f X.env (eval e X.env)=eval e X.env):PE X (.Attribute e f pos) (tFld X.K ta f):=by
 intro AM s σ H Q I h;refine Aj hb (aW (he AM s σ H _ I h) λu s1 ⟨x,H1,I1,rx,a,C,dx,fs,v,ex,ea,c,n,l,q⟩=>?_);subst ex;obtain rfl:u=Value.ref a:=rx;exact zoT I1 ea c n l λu' s2 I2 ru=>⟨v,H1,I2,ru,q⟩
theorem zqK (ha:PE X o ta)(hv:PE X value tv)(hs:swapsWith value (some (.Attribute o f pos')) pos.line X.env=pure false):PS X (.Assign [.Attribute o f pos'] value pos) (sFld X.K ta tv f):=by
 intro AM s σ H D I h;refine plainObj_wpAny_Assign_Attribute (aW (hv AM s σ H _ I h) λu s1 ⟨y,H1,I1,ry,q⟩=>aW (ha AM s1 σ H1 _ I1 q) λov s2 ⟨x,H2,I2,rx,a,C,dx,fs,ex,ea,c,n,l,q2⟩=>?_) hs;subst ex;obtain rfl:ov=Value.ref a:=rx;exact zoy I2 ea c n l ry λs3 I3=>⟨σ,_,I3,q2⟩
end
section
variable {X:Cx}{AM:AA (AD×Obj)}{σ:St}{H:Hp}{s:AE}{A:Around}{E:AC->AE->Prop}{Q:AC->AE->Prop}{c:AC}{b:Bool}
inductive TyOf (K:W.Frag) (H:Hp):V->Value->Prop where
 |non:TyOf K H .non (.type "NoneType")
 |bl (x:Bool):TyOf K H (.bl x) (.type "bool")
 |int (i:Int):TyOf K H (.int i) (.type "int")
 |str (x:Str):TyOf K H (.str x) (.type "str")
 |flt (x:UInt64):TyOf K H (.flt x) (.type "float")
 |lst {a:Addr} {xs:List V} (e:H a=some (.lst xs)):TyOf K H (.ref a) (.type "list")
 |frz {a:Addr} {o:Obj} {xs:List V} (e:H a=some (.frz o (.lst xs))):TyOf K H (.ref a) (.type "list")
 |tup {a:Addr} {xs:List V} (e:H a=some (.tup xs)):TyOf K H (.ref a) (.type "tuple")
 |dK {a:Addr} {kvs:List (cO×V)} (e:H a=some (.dK kvs)):TyOf K H (.ref a) (.type "dict")
 |dT {a:Addr} {kvs:List (List cO×V)} (e:H a=some (.dT kvs)):TyOf K H (.ref a) (.type "dict")
 |ins {a C dx:Addr} {fs:List (Str×V)} (e:H a=some (.ins C dx fs)) (cl:Cls K C) (ha:W.findIn K (.ref C) "__class__"=some (some (.builtin "object.__class__")))
   (hn:W.specialIn K (.builtin "object.__class__") "__get__"=some (some (.builtin "getset_descriptor.__get__"))) (htk:W.takesIn K (.builtin "object.__class__")=some true)
   (hm:W.mroIn K C (.type "object")=some true):TyOf K H (.ref a) (.ref C)
theorem zpi {x:V}{u t:AC}(I:Inv X AM σ H s)(rx:RelV x u)(ty:TyOf X.K H x t)(e:W.kitOne X.K t c=some b)(h:∀tk,Q (.bool b) {s with toks:=tk}):
  AG (model X.prog X.w) A (call (.builtin "isinstance") [u,c]) Q E s:=by
 cases ty with
 |non=>cases(show u=Value.none from rx);exact pR W.kitx_none I.kIn True.intro e (λz=>nomatch z) h
 |bl y=>cases(show u=Value.bool y from rx);exact pR W.kitx_bool I.kIn True.intro e (λz=>nomatch z) h
 |int i=>obtain⟨t,q⟩:=(show ∃t,u=Value.int i t from rx);cases q;exact pR W.kitx_int I.kIn True.intro e (λz=>nomatch z) h
 |str y=>obtain⟨t,q⟩:=(show ∃t,u=Value.str y t from rx);cases q;exact pR W.kitx_str I.kIn True.intro e (λz=>nomatch z) h
 |flt y=>obtain⟨t,q⟩:=(show ∃t,u=Value.float y t from rx);cases q;exact pR W.kitx_float I.kIn True.intro e (λz=>nomatch z) h
 | @lst a xs ea=>
  cases(show u=Value.ref a from rx);obtain⟨_,_,n,_,h1⟩:=(show ObjOk X.prog X.w H s.heap a (.lst xs)from I.hok a _ ea);exact pR W.kitx_list I.kIn ⟨_,h1,rfl⟩ e (λz=>nomatch z) h
 | @frz a ob xs ea=>
  cases(show u=Value.ref a from rx);obtain⟨_,_,_,n,_,h1⟩:=(show ObjOk X.prog X.w H s.heap a (.frz ob (.lst xs))from I.hok a _ ea);exact pR W.kitx_list I.kIn ⟨_,h1,rfl⟩ e (λz=>nomatch z) h
 | @tup a xs ea=>
  cases(show u=Value.ref a from rx);obtain⟨_,_,_,p⟩:=(show ObjOk X.prog X.w H s.heap a (.tup xs)from I.hok a _ ea);obtain⟨o,h1,h2,_⟩:=p;exact pR W.kitx_tuple I.kIn ⟨o,h1,h2⟩ e (λz=>nomatch z) h
 | @dK a kvs ea=>
  cases(show u=Value.ref a from rx);obtain⟨_,_,vs,_,p⟩:=(show ObjOk X.prog X.w H s.heap a (.dK kvs)from I.hok a _ ea);obtain⟨o,es,ep,h1,h2,_⟩:=p;exact pR W.kitx_dict I.kIn ⟨o,h1,h2.1⟩ e (λz=>nomatch z) h
 | @dT a kvs ea=>
  cases(show u=Value.ref a from rx);obtain⟨_,_,xs,_,o,es,ep,h1,h2,_⟩:=(show ObjOk X.prog X.w H s.heap a (.dT kvs)from I.hok a _ ea);exact pR W.kitx_dict I.kIn ⟨o,h1,h2.1⟩ e (λz=>nomatch z) h
 | @ins a C dx fs ea cl ha hn htk hm=>
  cases(show u=Value.ref a from rx);obtain⟨mA,O,_⟩:=zk9 I.hok ea;obtain⟨od,J,_⟩:=O.look;exact pR (W.kitx_own (cl.get _) cl.hd ha hn htk hm) I.kIn J e (λz=>nomatch z) h
end
structure Room (k:Nat)(A:Around):Prop where
 hd:A.handled=none
 dp:A.depth+3*k+5<recursionLimit
 un:A.units+16*k+200<cLine
 gd:A.guards=some []
theorem Room.mono (r:Room k A)(h:j<=k):Room j A:=⟨r.hd,by have:=r.dp;lia,by have:=r.un;lia,r.gd⟩
theorem Room.deeper (r:Room (k+1) A)(env:Env):Room k (A.deeper env):=
 ⟨r.hd,by have:=r.dp;show A.depth+1+3*k+5<_;lia,by have:=r.un;show A.units+3+16*k+200<_;lia,r.gd⟩
theorem zok {C:AD}:(A.under (.builtin "type.__call__" ⟨.ref C::us,kw⟩)).depth=A.depth+1:=by
 first|rfl|simp[Around.under,Code.weight,Code.isCreation,Code.isGuard,Code.isCaller,Code.frames,Code.isFrame,guardIds]
theorem zoi {C:AD}:(A.under (.builtin "type.__call__" ⟨.ref C::us,kw⟩)).units=A.units+1:=by
 first|rfl|simp[Around.under,Code.cUnits,Code.frames,Code.isFrame]
theorem znl {C:AD}:(A.under (.builtin "type.__call__" ⟨.ref C::us,kw⟩)).guards=A.guards:=by
 first|rfl|simp[Around.under,Code.guards,Code.isGuard,guardIds,pushGuards]
theorem Room.make (r:Room (k+1) A)(C:AD)(us:AA AC)(kw:AA (Str×AC)):Room k (A.under (.builtin "type.__call__" ⟨.ref C::us,kw⟩)):=
 ⟨r.hd,by have:=r.dp;rw[zok];lia,by have:=r.un;rw[zoi];lia,by rw[znl];exact r.gd⟩
theorem Room.depth (r:Room k A):A.depth<recursionLimit:=by have:=r.dp;lia
theorem Room.units (r:Room k A):A.units+64<cLine:=by have:=r.un;lia
def Vq:TA:=λ_ H Q=>Q [] H
def Du (ta:TE)(tr:TA):TA:=λσ H Q=>ta σ H λx H1=>tr σ H1 λxs H2=>Q (x::xs) H2
section
variable {X:Cx}{e:AI}{es:AA AI}{te:TE}{t:TA}{pos:Pos}
theorem mS:PA X [] Vq:=λ_ _ _ _ H Q I h=>Calls.spliced_nil ⟨[],H,I,.nil,h⟩
theorem jJ (ha:PE X e te)(hr:PA X es t)(hs:starEach (e::es) X.env=(false,eval e X.env)::starEach es X.env:=by rfl):PA X (e::es) (Du te t):=by
 intro pos AM s σ H Q I h;rw[hs];show AG _ _ (spliced ((false,eval e X.env)::backTo pos (starEach es X.env))) _ _ s;refine Calls.spliced_cons (aW (ha AM s σ H _ I h) λu s1 ⟨x,H1,I1,r1,q1⟩=>?_);exact aW (hr pos AM s1 σ H1 _ I1 q1) λus s2 ⟨xs,H2,I2,r2,q2⟩=>⟨x::xs,H2,I2,.cons r1 r2,q2⟩
def tTup (t:TA):TE:=λσ H Q=>t σ H λxs H1=>xs.length<=sizeLine/\∀p,H1 p=none->Q (.ref p) (upd H1 p (.tup xs))
def tLst (t:TA):TE:=λσ H Q=>t σ H λxs H1=>xs.length<=sizeLine/\∀p,H1 p=none->Q (.ref p) (upd H1 p (.lst xs))
theorem Iw {x1}(h:PA X es t):PE X (.Tuple es x1 pos) (tTup t):=by
 intro AM s σ H Q I hq;refine wpAny_Tuple_spliced (aW (h pos AM s σ H _ I hq) λus s1 ⟨xs,H1,I1,r,z,q⟩=>⟨by rw[<-r.length];exact z,?_⟩);have hf:H1 s1⁻¹=none:=I1.hok.fresh (bC _);refine⟨.ref s1⁻¹,upd H1 s1⁻¹ (.tup xs),I1.laid (t':=s1.toks) (λb u e=>bP _ e) (bC _) ?_,rfl,q _ hf⟩;exact⟨z,us,r,⟨_,eN _ rfl,rfl,_,rfl⟩⟩
theorem Vl (h:PA X es t):PE X (.List es pos) (tLst t):=by
 intro AM s σ H Q I hq;refine wpAny_List_spliced (aW (h pos AM s σ H _ I hq) λus s1 ⟨xs,H1,I1,r,z,q⟩=>⟨by rw[<-r.length];exact z,?_⟩);have hf:H1 s1⁻¹=none:=I1.hok.fresh (bC _);refine⟨.ref s1⁻¹,upd H1 s1⁻¹ (.lst xs),I1.laid (t':=s1.toks) (λb u e=>bP _ e) (bC _) ?_,rfl,q _ hf⟩;exact⟨z,us,0,r,eN _ rfl⟩
end
abbrev Sp:=AA V->Hp->VK->XK->Prop
abbrev xR:=AA Env->Hp->AE->XK->AC->AE->Prop
structure Env0 (P:Program)(w:World)(K:W.Frag)(mg:Str->Option Value)(base:Heap)(A:Around)(outer:List Env)(s:Shared)(H:Hp):Prop where
 frames:A.frames=some outer
 mod:Mod K mg base
 bs:∀b o,base.get? b=some o->s.heap.get? b=some o/\H b=none
 bsz:base.objs.size<=s.heap.objs.size
 funs:s.heap.FunFrames base outer
 frf:∀b∈frs outer,H b=none
 hok:HOk P w H s.heap
 bare:AllBare s.gens
def CE (outer:AA Env)(P:AJ)(w:World)(H:Hp)(s:AE)(Q:VK)(u:AC)(s':AE):Prop:=
 ∃v H',s'.os=s.os/\AllBare s'.gens/\Un (frs outer) [] H H' s.heap s'.heap/\HOk P w H' s'.heap/\RelV v u/\Q v H'
def CR (CX:xR)(outer:AA Env)(P:AJ)(w:World)(H:Hp)(s:AE)(Q:VK)(E:XK)(r:Result)(s':AE):Prop:=
 match r with
 | .ok (.ret u)=>CE outer P w H s Q u s'
 | .ok _=>False
 | .error e=>CX outer H s E e s'
structure FnOk (P:Program)(w:World)(K:W.Frag)(mg:Str->Option Value)(base:Heap)(CX:xR)(k:Nat)(f:Addr)(fd:FuncData)(ps:List Str)(sp:Sp):Prop where
 len:∀vs H Q E,sp vs H Q E->vs.length=ps.length
 run:∀(A:Around) (outer:List Env) (s:Shared) (H:Hp) (args:Args) (us:List Value) (vs:List V) (Q:VK) (E:XK),Room k A->Env0 P w K mg base A outer s H->BindsTo s fd args (ps.zip us)->Vals vs us->sp vs H Q E->
  codeAny (model P w) A (.call (.ref f) args) (CR CX outer P w H s Q E) s
theorem Env0.make {P:AJ}(e:Env0 P w K mg base A outer s H)(C:AD)(us:AA AC)(kw:AA (Str×AC)):
  Env0 P w K mg base (A.under (.builtin "type.__call__" ⟨.ref C::us,kw⟩)) outer s H:=⟨by first|exact e.frames|(simpa[Around.under,Code.envs,Code.isFrame,pushEnvs]using e.frames),e.mod,e.bs,e.bsz,e.funs,e.frf,e.hok,e.bare⟩
section
variable {X:Cx}{AM:AA (AD×Obj)}{σ:St}{H:Hp}{s s':AE}
theorem Inv.env0 (I:Inv X AM σ H s):Env0 X.prog X.w X.K X.mg X.base X.A X.stack s H:=
 ⟨I.ok.frames,I.ok.mod,I.bs,bE I.ok.bsz I.sz,I.stack,I.stkFree,I.hok,I.bare⟩
theorem Inv.after {Q:VK}(I:Inv X AM σ H s)(h:CE X.stack X.prog X.w H s Q u s'):EP X AM σ Q u s':=by
 obtain⟨v,H',os,bare,un,hok,r,q⟩:=h;obtain⟨hh,g,d,t,os'⟩:=s';obtain rfl:os'=s.os:=os;exact⟨v,H',I.call (h':=hh) (g':=g) (d':=d) (t':=t) (ch:=[]) un hok bare (λb z=>AH z (by simp)),r,q⟩
end
def Bt (sp:Sp)(dvs:AA V)(E:XK)(t:TA):TE:=λσ H Q=>t σ H λvs H1=>sp (vs++dvs) H1 Q E
def Do (C:AD)(m:Str)(sp:Sp)(dvs:AA V)(E:XK)(ta:TE)(t:TA):TE:=λσ H Q=>ta σ H λx H1=>∃a dx fs,x= .ref a/\H1 a=some (.ins C dx fs)/\fs.lookup m=none/\
 t σ H1 λvs H2=>sp (x::(vs++dvs)) H2 Q E
def Xt (C:AD)(sp:Sp)(dvs:AA V)(E:XK)(t:TA):TE:=λσ H Q=>t σ H λvs H1=>∀x dx,H1 x=none->H1 dx=none->dx≠x->
 sp (.ref x::(vs++dvs)) (upd (upd H1 dx (.own x)) x (.ins C dx [])) (λv H2=>v= .non/\Q (.ref x) H2) E
def Binds (K:AF)(fd:FuncData)(ps:AA Str)(ds:AA AC):Prop:=
 ∀(s:AE) (us:AA AC),K.In s.heap->(us++ds).length=ps.length->BindsTo s fd ⟨us,[]⟩ (ps.zip (us++ds))
theorem Binds.all (h:∀us:AA AC,us.length=ps.length->bindArgs fd ⟨us,[]⟩=pure (ps.zip us)):Binds K fd ps []:=λs us _ hl=>by
 rw[lE]at hl ⊢;exact .of_eq (h us hl)
def Gv (CX:xR)(X:Cx)(E:XK):Prop:=∀(AM:AA (AD×Obj)) (σ:St) (H:Hp) (s:AE) (e:AC) (s':AE),Inv X AM σ H s->CX X.stack H s E e s'->X.xe e s'
section
variable {X:Cx}{CX:xR}{k:Nat}{f C:AD}{fd:FuncData}{ps:AA Str}{sp:Sp}{dvs:AA V}{ds:AA AC}{E:XK}{x m:Str}{p pos apos:Pos}{e o:AI}{es:AA AI}{ta:TE}{t:TA}
theorem zp0 {Q:VK}(F:FnOk X.prog X.w X.K X.mg X.base CX k f fd ps sp)(hr:Room k X.A)(hb:Binds X.K fd ps ds)(hd:Vals dvs ds)(hx:Gv CX X E)(I:Inv X AM σ H s)(r:Vals vs us)(h:sp (vs++dvs) H Q E):AG (model X.prog X.w) X.A (call (.ref f) us) (EP X AM σ Q) X.xe s:=by
 have r2:Vals (vs++dvs) (us++ds):=r.append hd;have hl:(us++ds).length=ps.length:=by rw[<-r2.length];exact F.len _ _ _ _ h
 refine wpAny_call (codeAny_mono (F.run X.A X.stack s H ⟨us,[]⟩ (us++ds) (vs++dvs) Q E hr I.env0 (hb s us I.kIn hl) r2 h) λr s' hq=>?_);cases r with
 |error e=>exact hx AM σ H s e s' I hq
 |ok fl=>
  cases fl with
  |ret u=>exact I.after hq
  |next=>exact False.elim hq
  |brk=>exact False.elim hq
  |cont=>exact False.elim hq
theorem Yy (F:FnOk X.prog X.w X.K X.mg X.base CX k f fd ps sp)(hr:Room k X.A)(hg:Gl X x)(hm:X.mg x=some (.ref f))(hk:W.keepIn X.K (.ref f)=true)(hb:Binds X.K fd ps ds)(hd:Vals dvs ds)(hx:Gv CX X E)(ha:PA X (e::es) t)(hdb:(x==("__debug__":Str))=false:=by decide)(he:starEach (e::es) X.env=(false,eval e X.env)::starEach es X.env:=by rfl)(hpl:(backTo pos (starEach es X.env)).any (·.1)=false:=by rfl):
  PE X (.Call (.Name x p) (e::es) [] pos) (Bt sp dvs E t):=by
 intro AM s σ H Q I h;refine qaZ (zqv I hg hm ?_ hdb);refine W.callWith_K (h₀:=X.base) I.ok.mod.kin hk (aW (ha pos AM s σ H _ I h) λus s1 ⟨vs,H1,I1,r,q⟩=>⟨I1.kIn,?_⟩) he hpl;exact zp0 F hr hb hd hx I1 r q
theorem zo1 {pl:Sem Bool}(he:PE X o ta)(c:Cls X.K C)(hm:Meth X.K C m f)(F:FnOk X.prog X.w X.K X.mg X.base CX k f fd ps sp)(hr:Room k X.A)(hb:Binds X.K fd ps ds)(hd:Vals dvs ds)(hx:Gv CX X E)(ha:PA X (e::es) t)(hst:starEach (e::es) X.env=(false,eval e X.env)::starEach es X.env:=by rfl)(hpl:(backTo pos (starEach es X.env)).any (·.1)=false:=by rfl)(ht : eval (.Call (.Attribute o m apos) (e :: es) [] pos) X.env = (do
   let ov<-eval o X.env
   standAt apos.atName
   let(f,first)<-holding [ov] (getMethod ov m pl)
   callWith pos f first (backTo pos (starEach (e::es) X.env)) (backToKw pos (keywordEach [] X.env))):=by rfl):
  PE X (.Call (.Attribute o m apos) (e::es) [] pos) (Do C m sp dvs E ta t):=by
 intro AM s σ H Q I h;refine W.methodCall_KW (pl:=pl) (aW (he AM s σ H _ I h) λu s1 ⟨x,H1,I1,rx,a,dx,fs,ex,ea,l,q⟩=>?_) ht;subst ex;obtain rfl:u=Value.ref a:=rx;refine zki I1 ea c hm l ?_;refine W.callWith_K (first:=[.ref a]) (h₀:=X.base) I.ok.mod.kin hm.kp (aW (ha pos AM s1 σ H1 _ I1 q) λus s2 ⟨vs,H2,I2,r,q2⟩=>⟨I2.kIn,?_⟩) hst hpl;exact zp0 (us:= .ref a::us) (vs:= .ref a::vs) F hr hb hd hx I2 (.cons rfl r) q2
theorem sW {pl:Sem Bool}(he:PE X o ta)(c:Cls X.K C)(hm:Meth X.K C m f)(F:FnOk X.prog X.w X.K X.mg X.base CX k f fd ps sp)(hr:Room k X.A)(hb:Binds X.K fd ps ds)(hd:Vals dvs ds)(hx:Gv CX X E)(ht : eval (.Call (.Attribute o m apos) [] [] pos) X.env = (do
   let ov<-eval o X.env
   standAt apos.atName
   let(f,first)<-holding [ov] (getMethod ov m pl)
   callWith pos f first (backTo pos (starEach [] X.env)) (backToKw pos (keywordEach [] X.env))):=by rfl):
  PE X (.Call (.Attribute o m apos) [] [] pos) (Do C m sp dvs E ta Vq):=by
 intro AM s σ H Q I h;refine W.methodCall_KW (pl:=pl) (aW (he AM s σ H _ I h) λu s1 ⟨x,H1,I1,rx,a,dx,fs,ex,ea,l,q⟩=>?_) ht;subst ex;obtain rfl:u=Value.ref a:=rx;refine zki I1 ea c hm l ?_;exact W.callWith_K0 (first:=[.ref a]) I1.kIn hm.kp (zp0 (us:=[.ref a]) (vs:=[.ref a]) F hr hb hd hx I1 (.cons rfl .nil) q)
structure Mk (K:W.Frag)(C f:Addr):Prop where
 makes:W.makesIn K C=true
 init:W.findIn K (.ref C) "__init__"=some (some (.ref f))
 fn:W.isFn K (.ref f)=true
 kp:W.keepIn K (.ref C)=true
theorem mX {Q:VK}(M:Mk X.K C f)(F:FnOk X.prog X.w X.K X.mg X.base CX k f fd ps sp)(hr:Room (k+1) X.A)(hb:Binds X.K fd ps ds)(hd:Vals dvs ds)(hx:Gv CX X E)(I:Inv X AM σ H s)(r:Vals vs us)(h:∀x dx,H x=none->H dx=none->dx≠x->sp (.ref x::(vs++dvs)) (upd (upd H dx (.own x)) x (.ins C dx [])) (λv H2=>v= .non/\Q (.ref x) H2) E):
  AG (model X.prog X.w) X.A (call (.ref C) us) (EP X AM σ Q) X.xe s:=by
 have hq:=h (s⁻¹+1) s⁻¹ (I.hok.fresh (Nat.le_succ _)) (I.hok.fresh (bC _)) (fY (Ot _));have I2:=Inv.made (C:=C) I;have r2:Vals (V.ref (s⁻¹+1)::(vs++dvs)) (Value.ref (s⁻¹+1)::(us++ds)):= .cons rfl (r.append hd);have hl:(Value.ref (s⁻¹+1)::us++ds).length=ps.length:=by
  have e:=r2.length;rw[F.len _ _ _ _ hq]at e;exact e.symm
 refine wpAny_call (nF (f:=f) I.kIn M.makes M.init (qaQ.mp M.fn) (codeAny_mono (F.run _ X.stack _ _ ⟨Value.ref (s⁻¹+1)::us,[]⟩ (Value.ref (s⁻¹+1)::(us++ds)) _ _ E (hr.make C us [])
  (I2.env0.make C us []) (hb _ (Value.ref (s⁻¹+1)::us) I2.kIn hl) r2 hq) λr s' hq'=>?_))
 cases r with
 |error e=>exact hx AM σ _ _ e s' I2 hq'
 |ok fl=>
  cases fl with
  |ret u=>
   obtain⟨v,H',I3,rv,ev,q3⟩:=I2.after hq';subst ev;exact⟨rv,⟨V.ref (s⁻¹+1),H',I3,rfl,q3⟩⟩
  |next=>exact False.elim hq'
  |brk=>exact False.elim hq'
  |cont=>exact False.elim hq'
theorem xC (M:Mk X.K C f)(F:FnOk X.prog X.w X.K X.mg X.base CX k f fd ps sp)(hr:Room (k+1) X.A)(hg:Gl X x)(hm:X.mg x=some (.ref C))(hb:Binds X.K fd ps ds)(hd:Vals dvs ds)(hx:Gv CX X E)(ha:PA X (e::es) t)(hdb:(x==("__debug__":Str))=false:=by decide)(he:starEach (e::es) X.env=(false,eval e X.env)::starEach es X.env:=by rfl)(hpl:(backTo pos (starEach es X.env)).any (·.1)=false:=by rfl):
  PE X (.Call (.Name x p) (e::es) [] pos) (Xt C sp dvs E t):=by
 intro AM s σ H Q I h;refine qaZ (zqv I hg hm ?_ hdb);refine W.callWith_K (h₀:=X.base) I.ok.mod.kin M.kp (aW (ha pos AM s σ H _ I h) λus s1 ⟨vs,H1,I1,r,q⟩=>⟨I1.kIn,?_⟩) he hpl;exact mX M F hr hb hd hx I1 r q
end
structure FnScope (N P:List Str)(sc:Scope):Prop where
 kind:sc.kind= .function
 co:sc.isCoroutine=false
 gen:sc.isGenerator=false
 nd:N.Nodup
 pre:N.take P.length=P
 par:∀x∈P,sc.names.lookup x=some .local\/sc.names.lookup x=some .cell
 nofree:∀y∈sc.names,y.2≠ .free
theorem zmk:∀{binds:AA (Str×AC)} {m:Str->AB AC},(∀v,(x,v)∉binds)->bindL kindOf binds m x=m x
 |[],_,_=>rfl
 |(n,v)::r,m,h=>by
  unfold bindL;rw[zmk λw hw=>h w (fF _ hw)]
  split
  ·have:x≠n:=by rintro rfl;exact h v gG
   simp[this]
  ·rfl
theorem zln:∀{binds:AA (Str×AC)} {m:Str->AB AC},(∀v,(x,v)∉binds)->bindC kindOf binds m x=m x
 |[],_,_=>rfl
 |(n,v)::r,m,h=>by
  unfold bindC;rw[zln λw hw=>h w (fF _ hw)]
  split
  ·rfl
  ·have:x≠n:=by rintro rfl;exact h v gG
   simp[this]
theorem zlX {v:AC}:∀{P:AA Str} {vs:AA AC} {i:Nat} {m:Str->AB AC},P.Nodup->P[i]? =some x->vs[i]? =some v->kindOf x=some .local->
  bindL kindOf (P.zip vs) m x=some v
 |[],_,_,_,_,h,_,_=>by simp at h
 |_::_,[],_,_,_,_,h,_=>by simp at h
 |p::P,w::vs,0,m,nd,h1,h2,hk=>by
  simp at h1 h2;subst h1;subst h2;show bindL kindOf ((p,w)::P.zip vs) m p=_;unfold bindL;rw[zmk λv hv=>(qa0.mp nd).1 (List.of_mem_zip hv).1,if_pos hk];simp
 |p::P,w::vs,i+1,m,nd,h1,h2,hk=>by
  show bindL kindOf ((p,w)::P.zip vs) m x=_;unfold bindL;exact zlX (i:=i) (qa0.mp nd).2 (~~~h1) (~~~h2) hk
theorem zlP {v:AC}:∀{P:AA Str} {vs:AA AC} {i:Nat} {m:Str->AB AC},P.Nodup->P[i]? =some x->vs[i]? =some v->kindOf x≠some .local->
  bindC kindOf (P.zip vs) m x=some v
 |[],_,_,_,_,h,_,_=>by simp at h
 |_::_,[],_,_,_,_,h,_=>by simp at h
 |p::P,w::vs,0,m,nd,h1,h2,hk=>by
  simp at h1 h2;subst h1;subst h2;show bindC kindOf ((p,w)::P.zip vs) m p=_;unfold bindC;rw[zln λv hv=>(qa0.mp nd).1 (List.of_mem_zip hv).1,if_neg hk];simp
 |p::P,w::vs,i+1,m,nd,h1,h2,hk=>by
  show bindC kindOf ((p,w)::P.zip vs) m x=_;unfold bindC;exact zlP (i:=i) (qa0.mp nd).2 (~~~h1) (~~~h2) hk
def start (N:AA Str)(vs:AA V):St:=vs.map some++List.replicate (N.length-vs.length) none
def gX (CX:xR)(P:AJ)(w:World)(K:AF)(mg:Str->AB AC)(base:AK)(N:AA Str)(qual:Str)(scope:Scope)(f:AD)(cd:AC)(A:Around)(outer:AA Env)(s:AE)(H:Hp)(E:XK):Cx where
 prog:=P
 w:=w
 K:=K
 mg:=mg
 base:=base
 A:=A.deeper (envOfC qual scope s⁻¹ f cd)
 N:=N
 s₀:=s
 H₀:=H
 env:=envOfC qual scope s⁻¹ f cd
 outer:=outer
 stack:=envOfC qual scope s⁻¹ f cd::outer
 ex:=[]
 calm:=true
 fn:=λ_=>true
 pn:=[]
 xe:=λe s'=>AG (model P w) (A.deeper (envOfC qual scope s⁻¹ f cd)) (leaving (envOfC qual scope s⁻¹ f cd) e) (λ_ s''=>CX outer H s E e s'') (λe' s''=>CX outer H s E e' s'') s'
theorem zn6 (h:sc.names.lookup x=some .cell):∃c,(cellsFrom n sc.names []).lookup x=some c:=by
 have q:=W.cellsFrom_some sc.names n [] (.inl h);exact qa1.mp q
theorem zp7 {P:AJ}{f:AD}{s s1:AE}{E:XK}(S:FnScope N ps scope)(hd:A.handled=none)(e0:Env0 P w K mg base A outer s H)(hl:vs.length=ps.length)(r:Vals vs us)(x:InCallC s s⁻¹ (bindL (envOfC qual scope s⁻¹ f cd).kindOf (ps.zip us) λ_=>none) (cellsFrom (s⁻¹+1) scope.names []) (bindC (envOfC qual scope s⁻¹ f cd).kindOf (ps.zip us) λ_=>none) s1):
  Inv (gX CX P w K mg base N qual scope f cd A outer s H E) [] (start N vs) H s1:=by
 have hpl:ps.length<=N.length:=by have:=congrArg List.length S.pre;rw[kA]at this;lia
 obtain⟨h1,tk,rfl,hk⟩:=x.done;have noA:∀b:AD,b∉(gX CX P w K mg base N qual scope f cd A outer s H E).ex:=λb z=>AH (show b∈([]:AA AD)from z) (by simp)
 refine⟨⟨e0.mod,S.kind,rfl,rfl,bC _,λy z c h1 h2=>?_,λy hy=>?_,λy c _ h=>?_,λ_=>hd,Around.frames_deeper e0.frames,.inr ⟨rfl,rfl⟩,λb z=>AH z (noA b),e0.bs,e0.bsz,λb _ _=>noA b,λb z=>AH z (noA b),e0.funs,e0.frf⟩,
  rfl,e0.bare,Un.kept hk,⟨_,x.toInCall.ns,λi y v h1 h2 h3=>?_⟩,λy c h=>⟨_,x.cell y c h⟩,e0.hok.fresh (bC _),λy c h=>?_,λp hp=>AH (show p∈([]:AA (AD×Obj))from hp) (by simp),e0.hok.kept hk,?_⟩
 ·exact name_of_addr x.apart (Td h1) (Td h2)
 ·have hy:scope.names.lookup y=some .cell\/scope.names.lookup y=some .free:=hy;rcases hy with hy|hy
  ·exact zn6 hy
  ·exact AH rfl (S.nofree _ (Td hy))
 ·exact lW (x.above y c (Td h))
 ·have hi:i<vs.length:=by
   unfold start at h2
   by_cases hi:i<vs.length
   ·exact hi
   ·rw[uA (~~~hi)]at h2;rw[Dp]at h2
    split at h2<;>cases h2
  have ha:vs[i]? =some v:=by
   unfold start at h2;rw[hG (~~~hi),cJ]at h2;cases e:vs[i]? with
   |none=>rw[e]at h2;cases h2
   |some a=>rw[e]at h2;cases h2;rfl
  obtain⟨u,hu,rv⟩:=r.get ha;have hp:ps[i]? =some y:=by
   rw[<-S.pre,List.getElem?_take_of_lt ∅];exact h1
  have ndP:ps.Nodup:=by rw[<-S.pre];exact S.nd.sublist (List.take_sublist _ _)
  refine⟨u,rv,?_⟩;rcases S.par y (gI hp)with k|k
  ·exact .inl ⟨k,zlX ndP hp hu k⟩
  ·obtain⟨c,e⟩:=zn6 (n:=s⁻¹+1) k;refine .inr ⟨.inl k,c,e,?_⟩;have q:=x.cell y c e;rw[zlP ndP hp hu (by show scope.names.lookup y≠_;rw[k];decide)]at q;exact q
 ·exact e0.hok.fresh (lW (x.above y c (Td h)))
 ·unfold start;show _=N.length;rw[eS,eI,Wv];lia
theorem Pe {P:AJ}{f:AD}{name qual:Str}{dV kV doc pm cdv ct oc:AC}{an od:AB AD}{osl:Array (AB AC)}{N ps:AA Str}{sp:Sp}(lk:K.lookup f=some ⟨oc,od,.func (W.fnOf name qual params body scope dV kV doc pm an cdv ct),osl⟩)(hcd:W.codeIn K cdv qual=true)(S:FnScope N ps scope)(len:∀vs H Q E,sp vs H Q E->vs.length=ps.length)(hbody : ∀ (A : Around) (outer : AA Env) (s : AE) (H : Hp) (vs : AA V) (Q : VK) (E : XK), Room k (A.deeper (envOfC qual scope s⁻¹ f cdv)) -> sp vs H Q E ->
   ∃t,PSs (gX CX P w K mg base N qual scope f cdv A outer s H E) body t/\t {nx:=λ_ H'=>Q .non H',rt:=Q} (start N vs) H):
  FnOk P w K mg base CX (k+1) f (W.fnOf name qual params body scope dV kV doc pm an cdv ct) ps sp:=by
 refine⟨len,λA outer s H args us vs Q E hr e0 hb r hsp=>?_⟩;have hl:=len _ _ _ _ hsp;have KX:K.In s.heap:=e0.mod.kin.keeps λb o e=>(e0.bs b o e).1
 have lim:s.heap.NoLimit:=e0.mod.nolimit.keeps λb o e=>(e0.bs b o e).1
 have hkind:∀y∈ps.zip us,scope.names.lookup y.1=some .local\/(scope.names.lookup y.1=some .cell/\((cellsFrom (s⁻¹+1) scope.names []).lookup y.1).isSome=true):=λ⟨n,v⟩ hy=>by
  rcases S.par n (List.of_mem_zip hy).1 with q|q
  ·exact .inl q
  ·exact .inr ⟨q,W.cellsFrom_some _ _ _ (.inl q)⟩
 refine codeAny_call_function hr.depth (KX _ _ lk) rfl S.co S.gen rfl (W.codeRec_of KX hcd) (hb _ _ _ _ ?_);refine wpAny_newFunctionEnv_cells S.kind hkind λenv he s1 x=>?_
 subst he;refine⟨lim.keeps x.toInCall.keep,codeAny_func ?_⟩;obtain⟨t,ht,hq⟩:=hbody A outer s H vs Q E (hr.deeper _) hsp;have I:Inv (gX CX P w K mg base N qual scope f cdv A outer s H E) [] (start N vs) H s1:=zp7 S hr.hd e0 hl r x;refine lH (ht [] s1 (start N vs) H _ I hq) (λfl s' hs=>?_) λe s' hs=>hs
 have fin:∀{σ':St} {H':Hp} {v:V} {u:AC},Inv (gX CX P w K mg base N qual scope f cdv A outer s H E) [] σ' H' s'->RelV v u->Q v H'->CE outer P w H s Q u s':=
  λ{σ' H' v u} J rv q=>⟨v,H',J.os,J.bare,J.base,J.hok,rv,q⟩
 cases fl with
 |ret u=>
  obtain⟨v,σ',H',J,rv,q⟩:=hs;exact fin J rv q
 |next=>
  obtain⟨σ',H',J,q⟩:=hs;exact fin (v:=V.non) (u:=Value.none) J rfl q
 |brk=>
  obtain⟨_,_,_,q⟩:=hs;exact False.elim q
 |cont=>
  obtain⟨_,_,_,q⟩:=hs;exact False.elim q
section
variable {X:Cx}{x:Str}{p pos:Pos}{e:AI}{es:AA AI}{t:TA}{id T:String}{r:AA V->Hp->VK->Prop}
def tCB (r:AA V->Hp->VK->Prop)(t:TA):TE:=λσ H Q=>t σ H λvs H1=>r vs H1 Q
theorem zis (hc:iO X (.builtin id) r)(hg:Gl X x)(hm:X.mg x=none)(hv:bootBuiltins x=some (.builtin id))(ha:PA X (e::es) t)(hn:x≠"__name__":=by decide)(hdb:(x==("__debug__":Str))=false:=by decide)(he:starEach (e::es) X.env=(false,eval e X.env)::starEach es X.env:=by rfl)(hpl:(backTo pos (starEach es X.env)).any (·.1)=false:=by rfl):PE X (.Call (.Name x p) (e::es) [] pos) (tCB r t):=by
 intro AM s σ H Q I h;refine qaZ (Oe I hg hm hv ?_ hn hdb);exact PyProof.Rows.callWith_builtin1 (aW (ha pos AM s σ H _ I h) λus s1 ⟨vs,H1,I1,r1,q1⟩=>hc AM s1 σ H1 vs us Q I1 r1 q1) he hpl
theorem Zw (hc:iO X (.type T) r)(hg:Gl X x)(hm:X.mg x=none)(hv:bootBuiltins x=some (.type T))(ha:PA X (e::es) t)(hn:x≠"__name__":=by decide)(hdb:(x==("__debug__":Str))=false:=by decide)(he:starEach (e::es) X.env=(false,eval e X.env)::starEach es X.env:=by rfl)(hpl:(backTo pos (starEach es X.env)).any (·.1)=false:=by rfl):PE X (.Call (.Name x p) (e::es) [] pos) (tCB r t):=by
 intro AM s σ H Q I h;refine qaZ (Oe I hg hm hv ?_ hn hdb);exact Zm (aW (ha pos AM s σ H _ I h) λus s1 ⟨vs,H1,I1,r1,q1⟩=>hc AM s1 σ H1 vs us Q I1 r1 q1) he hpl
end
end L2
namespace HT
open PyProof.Rows PySem
def eR:AA Int->AA Int->Bool
 |[],[]=>false
 |[],_::_=>true
 |_::_,[]=>false
 |x::xs,y::ys=>if x=y then eR xs ys else decide (x<y)
theorem zog (x y:Int)(xs ys:AA Int):eR (x::xs) (y::ys)=if x=y then eR xs ys else decide (x<y):=rfl
theorem zkX:eR [] []=false:=rfl
theorem zjW (y:Int)(ys:AA Int):eR [] (y::ys)=true:=rfl
theorem zjL (x:Int)(xs:AA Int):eR (x::xs) []=false:=rfl
theorem qW (A:Around)(s:AE)(a:Int)(t:Tok)(c:Int)(u:Tok):∃e,SeqAt.EqAt A s (.int a t) (.int c u) e/\(e=true↔a=c):=
 ⟨(a==c),SeqAt.EqAt.int_int a t c u,by simp⟩
theorem pH (A:Around)(s:AE)(a:Int)(t:Tok)(c:Int)(u:Tok)(prog:AJ)(w:World)(E:AC->AE->Prop)(Q:AC->AE->Prop)(h:Q (.bool (decide (a<c))) s):
  AG (model prog w) A (richCompare .Lt (.int a t) (.int c u)) Q E s:=
 (PyProof.Rows.lt_int h:AG (model prog w) A (compareOp .Lt (.int a t) (.int c u)) Q E s)
section
open PySem.SeqAt
open PySem.AutoSeq1 (wpAny_loadPart')
open PySem.MeetsSeq PySem.MeetsSeq2 PySem.MeetsSeq3
theorem zlg (l b:AD)(items items2:Array AC)(n n2:Nat)(dd dd2:AB AD)(sl sl2:Array (AB AC))(ns ms:AA Int)(hi:IntsAre items.toList ns)(hj:IntsAre items2.toList ms):
  Meets (Builtin.«tuple.__lt__» ⟨[.ref l,.ref b],[]⟩)
   (λ_ R s => s.heap.get? l = some { cls := .type "tuple", dict := dd, data := .seq items n, slots := sl } /\ s.heap.get? b = some { cls := .type "tuple", dict := dd2, data := .seq items2 n2, slots := sl2 } /\
    R (.ok (.ret (.bool (eR ns ms)))) s):=
 .of_wp λprog w A R s h=>by
  obtain⟨hp,g,d,tk,os⟩:=s;obtain⟨hl,hb,h⟩:=h;have f2:=AutoSeq1.sub_tuple_tuple;have z1:items.size=ns.length:=by rw[<-hi.length];simp
  have z2:items2.size=ms.length:=by rw[<-hj.length];simp
  wp_walk using wpAny_loadPart' hl,wpAny_loadPart' hb,wpAny_forIn_list _ (λrest b s'=>b.1=none/\s'=⟨hp,g,d,tk,os⟩/\∃(vs ws:AA AC) (ns' ms':AA Int),rest=vs.zip ws/\
   IntsAre vs ns'/\IntsAre ws ms'/\ns'.length+items2.size=ms'.length+items.size/\R (.ok (.ret (.bool (eR ns' ms')))) ⟨hp,g,d,tk,os⟩) _
  case turn=>
   rintro⟨y,x⟩ rest b s' ⟨hb',rfl,vs,ws,ns',ms',hz,hvi,hwi,AO,hR⟩;cases hvi with
   |nil=>rw[List.zip_nil_left]at hz;cases hz
   |cons a t hvi'=>
    cases hwi with
    |nil=>rw[qbb]at hz;cases hz
    |cons c u hwi'=>
     rw[qbc]at hz;injection hz with hyx hrest
     injection hyx with hy hx
     subst hy hx;rw[zog]at hR;simp only[eH]at AO;obtain⟨e,he,hiff⟩:=qW A.in1 ⟨hp,g,d,tk,os⟩ a t c u;refine aH (he prog w _ _ ?_);cases e with
     |true=>
      rw[if_pos (hiff.mp rfl)]at hR
      wp_walk
      exact⟨rfl,rfl,_,_,_,_,hrest,hvi',hwi',∅,hR⟩
     |false=>
      rw[if_neg (λq=>AH (hiff.mpr q) fN)]at hR;have hri:=pH A.in1 ⟨hp,g,d,tk,os⟩ a t c u prog w
      wp_walk using hri
      exact⟨_,rfl,~~~hR⟩
  case fin=>
   rintro⟨b1,b2⟩ s' ⟨hb',rfl,vs,ws,ns',ms',hz,hvi,hwi,AO,hR⟩;simp only at hb';subst hb';have hv:eR ns' ms'=decide (items.size<items2.size):=by
    cases hvi with
    |nil=>
     cases hwi with
     |nil=>
      simp only[Zu]at AO;rw[zkX];exact(kB ∅).symm
     |cons c u hw=>
      simp only[Zu,eH]at AO;rw[zjW];exact(gW ∅).symm
    |cons a t hv=>
     cases hwi with
     |nil=>
      simp only[Zu,eH]at AO;rw[zjL];exact(kB ∅).symm
     |cons c u hw=>
      rw[qbc]at hz;cases hz
   rw[hv]at hR
   wp_walk
   exact⟨_,rfl,by simpa[Builtin.Tuple.tupleCompareSizes]using hR⟩
  case h=>
   exact⟨rfl,rfl,items.toList,items2.toList,ns,ms,rfl,hi,hj,∅,h⟩
end
section
variable {prog:AJ}{w:World}{A:Around}{E:AC->AE->Prop}{s:AE}
theorem zox {l b:AD}{items items2:Array AC}{ns ms:AA Int}{Q:AC->AE->Prop}(hl:IsTup s.heap l items)(hb:IsTup s.heap b items2)(hi:IntsAre items.toList ns)(hj:IntsAre items2.toList ms)(hu:A.units<cLine)(h:Q (.bool (eR ns ms)) s):AG (model prog w) A (compareOp .Lt (.ref l) (.ref b)) Q E s:=by
 obtain⟨⟨cls,dd,data,sl⟩,ho,hc,n,hd⟩:=id hl;obtain⟨⟨cls2,dd2,data2,sl2⟩,ho2,hc2,n2,hd2⟩:=id hb;simp only at hc hd hc2 hd2;subst hc hd hc2 hd2;exact richCompare_meets_room (op:= .Lt) ⟨_,ho,rfl⟩ ⟨_,ho2,rfl⟩ PySem.F.slot_tuple_lt PySem.F.entry_tuple_lt (PySem.F.args_tuple_lt_2 _ _) (zlg l b items items2 n n2 dd dd2 sl sl2 ns ms hi hj)
  ⟨ho,ho2,show Value.bool (eR ns ms)≠Value.notImplemented/\Q (.bool (eR ns ms)) s from⟨(λx=>nomatch x),h⟩⟩ hu
theorem yO {t b:AD}{vs ws:AA AC}{Q:AC->AE->Prop}(ht:IsTup s.heap t vs.toArray)(hb:IsTup s.heap b ws.toArray)(hv:vs≠[])(h1:ws=[]->Q (.ref t) s)(h2:ws≠[]->Q (.ref s⁻¹) {s with heap:=s.heap.push {cls:= .type "tuple",data:= .seq (vs++ws).toArray}})(hsz:vs.length+ws.length<=sizeLine):AG (model prog w) A (binaryOp .Add (.ref t) (.ref b)) Q E s:=by
 obtain⟨⟨cls,dd,data,sl⟩,ho,hc,n,hd⟩:=id ht;obtain⟨⟨cls2,dd2,data2,sl2⟩,ho2,hc2,n2,hd2⟩:=id hb;simp only at hc hd hc2 hd2;subst hc hd hc2 hd2;have e:vs.toArray++ws.toArray=(vs++ws).toArray:=by simp
 by_cases hw:ws=[]
 ·exact concat_meets ⟨_,ho,rfl⟩ ⟨_,ho2,rfl⟩ noFill_tuple_add seq_tuple_add qbe qbf (qbg _ _)
   (tuple_addW1 t b vs.toArray ws.toArray n n2 dd dd2 sl sl2 (~~~hv) (by simp[hw])) ⟨ho,ho2,h1 hw⟩
 ·refine concat_meets ⟨_,ho,rfl⟩ ⟨_,ho2,rfl⟩ noFill_tuple_add seq_tuple_add qbe qbf (qbg _ _)
   (tuple_addW2 t b vs.toArray ws.toArray n n2 dd dd2 sl sl2 (~~~hv) (~~~hw) (by rw[bR,bR];exact hsz)) ⟨ho,ho2,?_⟩
  rw[e];exact h2 hw
def sIx (n d:Nat):AB Int->Nat
 |none=>d
 |some v=>if v<0 then(v+(n:Int)).toNat else min v.toNat n
theorem zoa (n d:Nat):sIx n d none=d:=rfl
theorem zqa (n d k:Nat):sIx n d (some (k:Int))=min k n:=by
 show(if(k:Int)<0 then((k:Int)+(n:Int)).toNat else min (k:Int).toNat n)=min k n;rw[if_neg ∅,Bf]
theorem Mc (n d:Nat)(hd:d<=n)(o:AB Int):sIx n d o<=n:=by
 cases o with
 |none=>exact hd
 |some v=>
  show(if v<0 then(v+(n:Int)).toNat else min v.toNat n)<=n
  by_cases hv:v<0
  ·rw[if_pos hv];lia
  ·rw[if_neg hv];exact Nat.min_le_right _ _
theorem zqb (v:Int)(n d:Nat):(if v<0 then max (v+(n:Int)) 0 else min v (n:Int))=((sIx n d (some v):Nat):Int):=by
 show(if v<0 then max (v+(n:Int)) 0 else min v (n:Int))=(((if v<0 then(v+(n:Int)).toNat else min v.toNat n):Nat):Int)
 by_cases hv:v<0
 ·simp only[if_pos hv];lia
 ·simp only[if_neg hv];lia
theorem zoq (lo hi:AB Int)(n:Nat):Builtin.Slice.sliceAdjust lo hi 1 (n:Int)=(((sIx n 0 lo:Nat):Int),((sIx n n hi:Nat):Int)):=by
 have h1:¬((1:Int)<0):=∅
 unfold Builtin.Slice.sliceAdjust;simp only[h1,cX];refine Prod.ext ?_ ?_
 ·cases lo with
  |none=>rfl
  |some v=>exact zqb v n 0
 ·cases hi with
  |none=>rfl
  |some v=>exact zqb v n n
theorem zoE (i j:Nat):Builtin.Slice.slicePlaces (i:Int) (j:Int) 1=j-i:=by
 unfold Builtin.Slice.slicePlaces;have h1:(1:Int)>0:=∅
 simp only[h1,if_true,Int.ediv_one]
 split<;>lia
theorem zj7 {v:AC}{o:AB Int}{Q:AB Int->AE->Prop}(p:IsPart v o)(h:Q o s):AG (model prog w) A (Builtin.Slice.slicePartIndex v) Q E s:=by
 cases p with
 |none=>exact slicePart_none h
 |int i t=>exact slicePart_int h
theorem zeP {sl:AD}{vl vu:AC}{lo hi:AB Int}{n:Nat}{Q:Int×Int×Nat->AE->Prop}(hs:s.heap.IsSliceOf sl vl vu .none)(pl:IsPart vl lo)(pu:IsPart vu hi)(h:Q (((sIx n 0 lo:Nat):Int),1,sIx n n hi-sIx n 0 lo) s):AG (model prog w) A (Builtin.Slice.sliceApplied (.ref sl) (pure (n:Int))) Q E s:=by
 obtain⟨os,hos,hcs,hds⟩:=id hs;unfold Builtin.Slice.sliceApplied Builtin.Slice.sliceFields;refine aH (aH (iD hos hds (x:=vl) rfl (aH (iD hos hds (x:=vu) rfl (aH (iD hos hds (x:= .none) rfl (qaB ?_)))))));refine aH (slicePart_none ?_);show AG _ _ (if((1:Int)==0)=true then _ else _) _ _ s;rw[if_neg (by decide)];refine aH (zj7 pl (aH (zj7 pu (aH (qaB ?_)))));show AG _ _ (match Builtin.Slice.sliceAdjust lo hi 1 (n:Int)with|(lo,hi)=>pure (lo,(1:Int),Builtin.Slice.slicePlaces lo hi 1)) _ _ s;rw[zoq lo hi n];show AG _ _ (pure (((sIx n 0 lo:Nat):Int),(1:Int),Builtin.Slice.slicePlaces ((sIx n 0 lo:Nat):Int) ((sIx n n hi:Nat):Int) 1)) _ _ s;rw[zoE];exact qaB h
theorem mJ (xs:Array AC)(i k:Nat):((List.range k).filterMap λ(m:Nat)=>xs[((i:Int)+(m:Int)*1).toNat]?).toArray=((xs.toList.drop i).take k).toArray:=by
 have e:(λ(m:Nat)=>xs[((i:Int)+(m:Int)*1).toNat]?)=λm=>xs[i+m]?:=by
  funext m
  have:((i:Int)+(m:Int)*1).toNat=i+m:=∅
  rw[this]
 rw[e];have:=pick_run xs i k;rw[List.filterMap_map]at this;have e2:((λx=>xs[x]?) ∘ λx=>i+x)=λm=>xs[i+m]?:=rfl
 rw[e2]at this;rw[this]
theorem zhG {t sl:AD}{items:Array AC}{vl vu:AC}{lo hi:AB Int}{Q:AC->AE->Prop}(ht:IsTup s.heap t items)(hs:s.heap.IsSliceOf sl vl vu .none)(pl:IsPart vl lo)(pu:IsPart vu hi)(hw:¬(sIx items.size 0 lo=0/\sIx items.size items.size hi=items.size))(h:Q (.ref s⁻¹) {s with heap:=s.heap.push {cls:= .type "tuple",data:= .seq ((items.toList.drop (sIx items.size 0 lo)).take (sIx items.size items.size hi-sIx items.size 0 lo)).toArray}})(hsz:items.size<=sizeLine):AG (model prog w) A (getItem (.ref t) (.ref sl)) Q E s:=by
 have htake:sizeOk (.seq ((items.toList.drop (sIx items.size 0 lo)).take (sIx items.size items.size hi-sIx items.size 0 lo)).toArray):=by
  show((items.toList.drop (sIx items.size 0 lo)).take (sIx items.size items.size hi-sIx items.size 0 lo)).toArray.size<=sizeLine;rw[bR,kA,tR,qaw];lia
 have hj:sIx items.size items.size hi<=items.size:=Mc _ _ (bC _) hi;obtain⟨os,hos,hcs,hds⟩:=id hs;have hTs:s.TypeIs (.ref sl) "slice":=⟨os,hos,hcs⟩;unfold getItem
 try with_reducible refine fV ?_
 first|refine aH (qaB ?_)|skip
 refine aH (Yr ht.typeIs (by decide) ?_);refine aH (Aw (name:=Str.ofString "__getitem__") ht.typeIs qbn
  (oO qbn ht.typeIs entry_tuple_getitem ?_ (args_tuple_getitem _ _)))
 show AG _ _ (Builtin.Tuple.tupleItemsOf (.ref t)>>=_) _ _ s;refine aH (tupleItemsOf_ ht ?_);refine aH (Ma hTs ?_);rw[if_pos (by decide)];refine aH (zeP hs pl pu ?_);have hno:¬((((sIx items.size 0 lo:Nat):Int)==0&&(1:Int)==1&&(sIx items.size items.size hi-sIx items.size 0 lo)==items.size)=true):=by
  intro q;rw[cV,cV]at q;have q1:((sIx items.size 0 lo:Nat):Int)=0:=eq_of_beq q.1.1;have q2:sIx items.size items.size hi-sIx items.size 0 lo=items.size:=eq_of_beq q.2;exact hw ⟨∅,∅⟩
 show AG _ _ (if(((sIx items.size 0 lo:Nat):Int)==0&&(1:Int)==1&&(sIx items.size items.size hi-sIx items.size 0 lo)==items.size)=true then _ else _) _ _ s;rw[if_neg hno,mJ]
 first
  |exact aH (m:=Builtin.Tuple.tupleExact _) (lY (qaB ⟨_,rfl,qaB h⟩) htake)
  |exact aH (m:=Builtin.Tuple.tupleExact _) (lY (aH (qaB (qaB ⟨_,rfl,qaB h⟩))) htake)
  |exact aH (aH (m:=Builtin.Tuple.tupleExact _) (lY (qaB (qaB ⟨_,rfl,qaB h⟩)) htake))
  |exact aH (aH (m:=Builtin.Tuple.tupleExact _) (lY (qaB ⟨_,rfl,qaB h⟩) htake))
end
end HT
namespace L2
open PyProof.Rows PySem PySem.Spec
variable {ns:AA Int}{r r':V->AB Int->AB Int->Hp->VK->Prop}{xs ys:AA V}{us its its':AA AC}{n j t' a c:Nat}{i:Int}{AM:AA (AD×Obj)}{σ:St}{H:Hp}{s:AE}{p:AD}{f:Array AC->Array AC}{A:Around}{y x:V}{u v vl vu:AC}{Q:Unit->AE->Prop}
abbrev TO:=St->Hp->(AB Int->Hp->Prop)->Prop
def PO (X:Cx)(e:AB AI)(t:TO):Prop:=
 ∀(AM:AA (AD×Obj)) (s:AE) (σ:St) (H:Hp) (Q:AB Int->Hp->Prop),Inv X AM σ H s->t σ H Q->
  AG (model X.prog X.w) X.A (evalPart e X.env) (λu s'=>∃o H',Inv X AM σ H' s'/\IsPart u o/\Q o H') X.xe s
def xH:TO:=λ_ H Q=>Q none H
def Us (t:TE):TO:=λσ H Q=>t σ H λx H1=>∃i,x= .int i/\Q (some i) H1
theorem zka:∀{us:AA AC},Vals (ns.map V.int) us->IntsAre us ns:=by
 induction ns with
 |nil=>intro us r;rw[List.map_nil]at r;cases r;exact .nil
 |cons n ns ih=>
  intro us r;rw[eY]at r;cases r with
  |cons r1 r2=>
   obtain⟨t,e⟩:=r1;subst e;exact .cons n t (ih r2)
section
variable {X:Cx}{e:AI}{te:TE}{lo hi:AB AI}{tl th:TO}{pos p2:Pos}
theorem vE:PO X none xH:=by
 intro AM s σ H Q I h;rw[qbr];exact qaB ⟨none,H,I,.none,h⟩
theorem wO (h:PE X e te):PO X (some e) (Us te):=by
 intro AM s σ H Q I hw;rw[evalPart_some];refine aW (h AM s σ H _ I hw) λu s1 ⟨x,H1,I1,r1,q1⟩=>?_
 obtain⟨i,rfl,q⟩:=q1;obtain⟨t,rfl⟩:=r1;exact⟨some i,H1,I1,.int i t,q⟩
def SlR (X:Cx)(r:V->AB Int->AB Int->Hp->VK->Prop):Prop:=
 ∀(AM:AA (AD×Obj)) (s:AE) (σ:St) (H:Hp) (x:V) (v vl vu:AC) (lo hi:AB Int) (sl:AD) (Q:VK),Inv X AM σ H s->RelV x v->s.heap.IsSliceOf sl vl vu .none->IsPart vl lo->IsPart vu hi->r x lo hi H Q->
  ∃T id,typeLookup (.type T) "__getitem__"=pure (some (.builtin id))/\s.TypeIs v T/\AG (model X.prog X.w) X.A (getItem v (.ref sl)) (EP X AM σ Q) X.xe s
theorem SlR.or (h:SlR X r)(h':SlR X r'):SlR X (λx lo hi H Q=>r x lo hi H Q\/r' x lo hi H Q):=by
 intro AM s σ H x v vl vu lo hi sl Q I rx hs pl pu q;rcases q with q|q
 ·exact h AM s σ H x v vl vu lo hi sl Q I rx hs pl pu q
 ·exact h' AM s σ H x v vl vu lo hi sl Q I rx hs pl pu q
def tSl (r:V->AB Int->AB Int->Hp->VK->Prop)(te:TE)(tl th:TO):TE:=λσ H Q=>te σ H λx H1=>tl σ H1 λl H2=>th σ H2 λu H3=>r x l u H3 Q
theorem qF (hr:SlR X r)(he:PE X e te)(hl:PO X lo tl)(hu:PO X hi th):PE X (.Subscript e (.Slice lo hi none p2) pos) (tSl r te tl th):=by
 intro AM s σ H Q I h;refine Subscript_ (aW (he AM s σ H _ I h) λv s1 ⟨x,H1,I1,r1,q1⟩=>?_);refine wpAny_Slice (aW (hl AM s1 σ H1 _ I1 q1) λvl s2 ⟨l,H2,I2,pl,q2⟩=>aW (hu AM s2 σ H2 _ I2 q2) λvu s3 ⟨u,H3,I3,pu,q3⟩=>?_);rw[qbr];refine qaB ?_;have I4:Inv X AM σ H3 {s3 with heap:=s3.heap.push {cls:= .type "slice",data:= .fields #[vl,vu,.none]}}:=I3.kept (t':=s3.toks) λb ob q=>bP _ q
 obtain⟨T,id,hT,ht,hg⟩:=hr AM {s3 with heap:=s3.heap.push {cls:= .type "slice",data:= .fields #[vl,vu,.none]}} σ H3 x v vl vu l u s3⁻¹ Q I4 r1 (qbs ..) pl pu q3;show AG (model X.prog X.w) X.A (subscriptTail e (.Slice lo hi none p2) v (.ref s3⁻¹)) (EP X AM σ Q) X.xe {s3 with heap:=s3.heap.push {cls:= .type "slice",data:= .fields #[vl,vu,.none]}};exact tail_any (ops:=[.ref s3⁻¹,v]) ht hT hg (by with_unfolding_all rfl)
def gV (xs:AA V)(lo hi:AB Int):AA V:=(xs.drop (HT.sIx xs.length 0 lo)).take (HT.sIx xs.length xs.length hi-HT.sIx xs.length 0 lo)
theorem ziP (xs:AA V)(lo hi:AB Int):(gV xs lo hi).length<=xs.length:=by
 unfold gV;rw[kA,tR];lia
def rSlT (K:AF):V->AB Int->AB Int->Hp->VK->Prop:=λx lo hi H Q=>∃a xs,x= .ref a/\SqT K H a xs/\
 ¬(HT.sIx xs.length 0 lo=0/\HT.sIx xs.length xs.length hi=xs.length)/\∀p,H p=none->Q (.ref p) (upd H p (.tup (gV xs lo hi)))
theorem sl_tup:SlR X (rSlT X.K):=by
 intro AM s σ H x v vl vu lo hi sl Q I rx hs pl pu h;obtain⟨a,xs,rfl,hx,hw,q⟩:=h;cases rx;obtain⟨its,r,ht,hz⟩:=I.tuple hx;have AO:its.toArray.size=xs.length:=by rw[bR];exact r.length.symm
 refine⟨"tuple",_,PyProof.Rows.slot_tuple_getitem.lookup,ht.typeIs,?_⟩;refine HT.zhG ht hs pl pu (by rw[AO];exact hw) ?_ (by rw[AO];exact hz);rw[AO];refine⟨.ref s⁻¹,_,I.laid (t':=s.toks) (o:= .tup (gV xs lo hi)) (λb ob q=>bP _ q) (bC _) ?_,rfl,q _ (I.hok.fresh (bC _))⟩;exact⟨bE (ziP xs lo hi) hz,_,(r.drop (HT.sIx xs.length 0 lo)).take (HT.sIx xs.length xs.length hi-HT.sIx xs.length 0 lo),IsTup.new _ _⟩
def Qb (K:AF):R2:=λx y H Q=>∃a b xs ys,x= .ref a/\y= .ref b/\SqT K H a xs/\SqT K H b ys/\xs≠[]/\xs.length+ys.length<=sizeLine/\
 (ys=[]->Q (.ref a) H)/\(ys≠[]->∀p,H p=none->Q (.ref p) (upd H p (.tup (xs++ys))))
theorem Vals.nil_iff (r:Vals xs us):us=[]↔xs=[]:=by
 cases r with
 |nil=>simp
 |cons _ _=>simp
theorem op_catT:OpR X (binaryOp .Add) (Qb X.K):=by
 intro AM s σ H x y v u Q I rx ry h;obtain⟨a,b,xs,ys,rfl,rfl,ha,hb,hx,hz,q1,q2⟩:=h;cases rx;cases ry;obtain⟨its,r1,p1,_⟩:=I.tuple ha;obtain⟨its2,r2,p2,_⟩:=I.tuple hb;refine HT.yO p1 p2 (λz=>hx (r1.nil_iff.mp z)) (λz=>⟨.ref a,H,I,rfl,q1 (r2.nil_iff.mp z)⟩) (λz=>?_) (by rw[<-r1.length,<-r2.length];exact hz);refine⟨.ref s⁻¹,_,I.laid (t':=s.toks) (o:= .tup (xs++ys)) (λb ob q=>bP _ q) (bC _) ?_,rfl,q2 (λw=>z (r2.nil_iff.mpr w)) _ (I.hok.fresh (bC _))⟩;exact⟨by rw[eS];exact hz,_,r1.append r2,IsTup.new _ _⟩
end
def eU (n:Nat)(i:Int):AB Nat:=if 0<=i then(if i<n then some i.toNat else none)else if-(n:Int)<=i then some (i+n).toNat else none
def atI {α:Type}(xs:AA α)(i:Int):AB α:=(eU xs.length i).bind λj=>xs[j]?
theorem zmY {n:Nat}(h:eU n i=some j):seqIndex? i n=some j/\j<n/\ -(n:Int)<=i/\i<n:=by
 unfold eU at h
 by_cases h0:0<=i
 ·rw[if_pos h0]at h
  by_cases h1:i<n
  ·rw[if_pos h1]at h;have e:i.toNat=j:=Option.some.inj h;exact⟨by rw[seqIndex_of h0 h1,e],∅,∅,h1⟩
  ·rw[if_neg h1]at h;cases h
 ·rw[if_neg h0]at h
  by_cases h1: -(n:Int)<=i
  ·rw[if_pos h1]at h;have e:(i+n).toNat=j:=Option.some.inj h;exact⟨by rw[seqIndex_neg ∅ h1,e],∅,h1,∅⟩
  ·rw[if_neg h1]at h;cases h
theorem zm8 {α:Type}{xs:AA α}{v:α}(h:atI xs i=some v):∃j,seqIndex? i xs.length=some j/\xs[j]? =some v/\j<xs.length/\ -(xs.length:Int)<=i/\i<xs.length:=by
 unfold atI at h;cases e:eU xs.length i with
 |none=>rw[e]at h;cases h
 |some j=>
  rw[e]at h;obtain⟨h1,h2,h3,h4⟩:=zmY e;exact⟨j,h1,h,h2,h3,h4⟩
def wF (b:AI):Prop:=∀o i,subscripted b false o i=operate [o,i] (getItem o i)
def IxR (X:Cx)(r:R2):Prop:=
 ∀(value slice:AI) (AM:AA (AD×Obj)) (s:AE) (σ:St) (H:Hp) (x y:V) (v u:AC) (Q:VK),Inv X AM σ H s->RelV x v->RelV y u->r x y H Q->
  subscripted slice false v u=operate [v,u] (getItem v u)->AG (model X.prog X.w) X.A (subscriptTail value slice v u) (EP X AM σ Q) X.xe s
def MtR (X:Cx)(id:String)(r:V->AA V->Hp->VK->Prop):Prop:=
 ∀(AM:AA (AD×Obj)) (s:AE) (σ:St) (H:Hp) (x:V) (xs:AA V) (v:AC) (us:AA AC) (Q:VK),Inv X AM σ H s->RelV x v->Vals xs us->r x xs H Q->
  AG (model X.prog X.w) X.A (call (.builtin id) (v::us)) (EP X AM σ Q) X.xe s
section
variable {X:Cx}{a b:AI}{ta tb:TE}{pos:Pos}
theorem IxR.or {r r':R2}(h:IxR X r)(h':IxR X r'):IxR X (λx y H Q=>r x y H Q\/r' x y H Q):=by
 intro value slice AM s σ H x y v u Q I rx ry q hs;rcases q with q|q
 ·exact h value slice AM s σ H x y v u Q I rx ry q hs
 ·exact h' value slice AM s σ H x y v u Q I rx ry q hs
theorem Mn {r:R2}(hr:IxR X r)(ha:PE X a ta)(hb:PE X b tb)(hs:wF b):PE X (.Subscript a b pos) (Xy r ta tb):=by
 intro AM s σ H Q I h;exact Subscript_ (Gh ha hb I h λv u s2 x y H2 I2 rx ry q=>hr a b AM s2 σ H2 x y v u Q I2 rx ry q (hs _ _))
def Te (K:AF):R2:=λx y H Q=>∃p xs i v,x= .ref p/\y= .int i/\SqL K H p xs/\atI xs i=some v/\Q v H
def Qk (K:AF):R2:=λx y H Q=>∃p xs i v,x= .ref p/\y= .int i/\SqT K H p xs/\atI xs i=some v/\Q v H
def Su:R2:=λx y H Q=>∃z i c,x= .str z/\y= .int i/\z.length<=sizeLine/\atI z.cps.toList i=some c/\Q (.str ⟨#[c]⟩) H
theorem ix_list:IxR X (Te X.K):=by
 intro value slice AM s σ H x y v u Q I rx ry h hs;obtain⟨p,xs,i,z,rfl,rfl,hq,he,q⟩:=h;cases rx;obtain⟨t,rfl⟩:=ry;obtain⟨its,r,pl,hz⟩:=I.list hq;obtain⟨j,h1,h2,h3,h4,h5⟩:=zm8 he;obtain⟨w,ew,rw'⟩:=r.get h2;have hl:=r.length;have hn:=Gd;have fin:EP X AM σ Q w s:=⟨z,H,I,rw',q⟩
 by_cases h0:0<=i
 ·have hj:i.toNat=j:=by
   rw[seqIndex_of h0 h5]at h1;exact Option.some.inj h1
  exact item_listR pl.isList h0 ∅ (by rw[hj];simpa using ew) fin hs
 ·have hj:(i+(its.toArray.size:Int)).toNat=j:=by
   rw[seqIndex_neg ∅ h4]at h1;rw[bR,<-hl];exact Option.some.inj h1
  exact subscriptTail_builtinR (x:=w) pl.isList.typeIs slot_list_getitem.lookup
   (wpAny_getItem_list_neg (Q:=λr s'=>r=w/\EP X AM σ Q r s') pl.isList ∅ (by rw[bR]<;>lia) ∅ (by rw[hj];simpa using ew) ⟨rfl,fin⟩) hs
theorem ix_tup:IxR X (Qk X.K):=by
 intro value slice AM s σ H x y v u Q I rx ry h hs;obtain⟨p,xs,i,z,rfl,rfl,hq,he,q⟩:=h;cases rx;obtain⟨t,rfl⟩:=ry;obtain⟨its,r,pl,hz⟩:=I.tuple hq;obtain⟨j,h1,h2,h3,h4,h5⟩:=zm8 he;obtain⟨w,ew,rw'⟩:=r.get h2;have hl:=r.length;have hn:=Gd;have fin:EP X AM σ Q w s:=⟨z,H,I,rw',q⟩;exact subscriptTail_builtinR (x:=w) pl.typeIs slot_tuple_getitem.lookup
  (getItem_tuple (j:=j) (Q:=λr s'=>r=w/\EP X AM σ Q r s') pl ∅ ∅ (by rw[bR,<-hl];exact h1) (~~~ew) ⟨rfl,fin⟩) hs
theorem Kg:IxR X Su:=by
 intro value slice AM s σ H x y v u Q I rx ry h hs;obtain⟨z,i,c,rfl,rfl,hz,he,q⟩:=h;obtain⟨t,rfl⟩:=rx;obtain⟨t',rfl⟩:=ry;obtain⟨j,h1,h2,h3,h4,h5⟩:=zm8 he;have hl:z.cps.toList.length=z.length:=by simp[Str.length]
 rw[hl]at h1 h4 h5;have hn:=Gd;exact tail_any (typeIs_str s z t) slot_str_getitem.lookup (getItem_str (c:=c) (by
  have e1:decide (i< -(2^63:Int))=false:=kB ∅;have e2:decide (i>=2^63)=false:=kB ∅;rw[e1,e2,Bool.or_false]) (by rw[h1];simpa using h2) ⟨.str ⟨#[c]⟩,H,I.tok _,⟨_,rfl⟩,q⟩) hs
def rIx (K:AF):R2:=λx y H Q=>Te K x y H Q\/Qk K x y H Q\/Su x y H Q
theorem sD:IxR X (rIx X.K):=ix_list.or (ix_tup.or Kg)
theorem zoP (its:AA AC)(n j:Nat)(u:AC):Obj.mapSeq (·.setIfInBounds j u) {cls:= .type "list",data:= .seq its.toArray n}={cls:= .type "list",data:= .seq (its.set j u).toArray n}:=by
 simp[Obj.mapSeq]
theorem Inv.lst (I:Inv X AM σ H s)(h:H p=some (.lst xs)):
  ∃(its:AA AC) (n:Nat),Vals xs its/\s.heap.get? p=some {cls:= .type "list",data:= .seq its.toArray n}/\xs.length<=sizeLine:=by
 obtain⟨z,its,n,r,e⟩:=I.hok p _ h;exact⟨its,n,r,e,z⟩
theorem Inv.lstUpd {n n':Nat}{f:Obj->Obj}(I:Inv X AM σ H s)(h:H p=some (.lst xs))(ho:s.heap.get? p=some {cls:= .type "list",data:= .seq its.toArray n})(hf:f {cls:= .type "list",data:= .seq its.toArray n}={cls:= .type "list",data:= .seq its'.toArray n'})(r:Vals ys its')(hz:ys.length<=sizeLine)(t:Nat):
  Inv X AM σ (upd H p (.lst ys)) {s with heap:=s.heap.update p f,toks:=t}:=by
 have e:(s.heap.update p f).get? p=some {cls:= .type "list",data:= .seq its'.toArray n'}:=by
  rw[Xb f ho (by rw[hf]<;>rfl),hf]
 refine I.write (x:=p) (e:=p) (by rw[h];trivial) (.inl rfl) (λb u hb q=>(Li _ _ (Ne.symm hb)).trans q) ⟨_,e⟩ ?_;exact⟨hz,its',n',r,e⟩
def Wl:V->V->V->Hp->(Hp->Prop)->Prop:=λo i v H Q=>∃p xs k j,o= .ref p/\i= .int k/\H p=some (.lst xs)/\eU xs.length k=some j/\Q (upd H p (.lst (xs.set j v)))
theorem Qe:Uw X Wl:=by
 intro AM s σ H o i v ov iv u Q I ro ri rv h;obtain⟨p,xs,k,j,rfl,rfl,hp,hj,q⟩:=h;cases ro;obtain⟨t,rfl⟩:=ri;obtain⟨its,n,r,ho,hz⟩:=I.lst hp;obtain⟨h1,h2,h3,h4⟩:=zmY hj;have hl:=r.length;have hn:=Gd;have I':Inv X AM σ (upd H p (.lst (xs.set j v))) {s with heap:=s.heap.update p (Obj.mapSeq (·.setIfInBounds j u))}:=
  I.lstUpd hp ho (zoP its n j u) (r.set rv j) (by rw[kM];exact hz) s.toks
 by_cases h0:0<=k
 ·have hk:k.toNat=j:=by
   rw[seqIndex_of h0 h4]at h1;exact Option.some.inj h1
  exact W.ki_setAt ho h0 ∅ (by rw[bR,<-hl];exact h4) (by rw[hk];exact⟨_,I',q⟩)
 ·have hk:(k+(its.toArray.size:Int)).toNat=j:=by
   rw[seqIndex_neg ∅ h3]at h1;rw[bR,<-hl];exact Option.some.inj h1
  exact W.ki_setBack ho ∅ (by rw[bR,<-hl];exact h3) ∅ (by rw[hk];exact⟨_,I',q⟩)
theorem zlQ (lo hi:AB Int)(n:Nat):(sliceBounds lo hi none n).1=((HT.sIx n 0 lo:Nat):Int)/\(sliceBounds lo hi none n).2.1=((HT.sIx n n hi:Nat):Int)/\(sliceBounds lo hi none n).2.2=1:=by
 refine⟨?_,?_,rfl⟩
 ·cases lo with
  |none=>simp[sliceBounds,HT.sIx]
  |some i=>
   simp only[sliceBounds,HT.sIx,qbw,show(1:Int)>0 by decide,if_true]
   by_cases h:i<0
   ·simp only[h,if_true]<;>lia
   ·simp only[h,cX]<;>lia
 ·cases hi with
  |none=>simp[sliceBounds,HT.sIx]
  |some i=>
   simp only[sliceBounds,HT.sIx,qbw,show(1:Int)>0 by decide,if_true]
   by_cases h:i<0
   ·simp only[h,if_true]<;>lia
   ·simp only[h,cX]<;>lia
theorem zld (its:AA AC)(lo hi:AB Int):slicePick its.toArray lo hi none=((its.drop (HT.sIx its.length 0 lo)).take (HT.sIx its.length its.length hi-HT.sIx its.length 0 lo)).toArray:=by
 obtain⟨h1,h2,h3⟩:=zlQ lo hi its.toArray.size;unfold slicePick;rw[h1,h2,h3];simp only[sliceRange_one,pick_run,bR]<;>rfl
def rSlL (K:AF):V->AB Int->AB Int->Hp->VK->Prop:=λx lo hi H Q=>∃a xs,x= .ref a/\SqL K H a xs/\∀p,H p=none->Q (.ref p) (upd H p (.lst (gV xs lo hi)))
theorem sl_list:SlR X (rSlL X.K):=by
 intro AM s σ H x v vl vu lo hi sl Q I rx hs pl pu h;obtain⟨a,xs,rfl,hx,q⟩:=h;cases rx;obtain⟨its,r,ht,hz⟩:=I.list hx;have AO:=r.length;refine⟨"list",_,slot_list_getitem.lookup,ht.isList.typeIs,?_⟩;refine wpAny_getItem_list_slice ht.isList hs pl pu .none (by simp) ?_ (by rw[bR]<;>lia)
 rw[zld,<-AO];refine⟨.ref s⁻¹,_,I.laid (t':=s.toks) (o:= .lst (gV xs lo hi)) (λb ob q=>bP _ q) (bC _) ?_,rfl,q _ (I.hok.fresh (bC _))⟩;exact⟨bE (ziP xs lo hi) hz,_,0,(r.drop (HT.sIx xs.length 0 lo)).take (HT.sIx xs.length xs.length hi-HT.sIx xs.length 0 lo),eN _ rfl⟩
def tH:V->Bool
 | .non=>true
 | .bl _=>true
 | .int _=>true
 | .str _=>true
 |_=>false
def wW:V->V->Bool
 | .non,.non=>true
 | .bl a,.bl b=>a==b
 | .bl a,.int b=>(if a then 1 else 0)==b
 | .int a,.bl b=>a==(if b then 1 else 0)
 | .int a,.int b=>a==b
 | .str a,.str b=>a==b
 |_,_=>false
theorem Kt (ry:RelV y u)(rx:RelV x v)(fy:tH y=true)(fx:tH x=true):SeqAt.EqAt A s u v (wW y x):=by
 cases y with
 |non=>
  cases ry;cases x with
  |non=>cases rx;exact SeqAt.EqAt.same _
  |bl b=>cases rx;exact SeqAt.EqAt.none_bool b
  |int b=>obtain⟨t,rfl⟩:=rx;exact SeqAt.EqAt.none_int b t
  |str b=>obtain⟨t,rfl⟩:=rx;exact SeqAt.EqAt.none_str b t
  |_=>exact AH (show false=true from fx) fN
 |bl a=>
  cases ry;cases x with
  |non=>cases rx;exact SeqAt.EqAt.bool_none a
  |bl b=>cases rx;exact SeqAt.EqAt.bool_bool a b
  |int b=>obtain⟨t,rfl⟩:=rx;exact SeqAt.EqAt.bool_int a b t
  |str b=>obtain⟨t,rfl⟩:=rx;exact SeqAt.EqAt.bool_str a b t
  |_=>exact AH (show false=true from fx) fN
 |int a=>
  obtain⟨t',rfl⟩:=ry;cases x with
  |non=>cases rx;exact SeqAt.EqAt.int_none a t'
  |bl b=>cases rx;exact SeqAt.EqAt.int_bool a t' b
  |int b=>obtain⟨t,rfl⟩:=rx;exact SeqAt.EqAt.int_int a t' b t
  |str b=>obtain⟨t,rfl⟩:=rx;exact SeqAt.EqAt.int_str a t' b t
  |_=>exact AH (show false=true from fx) fN
 |str a=>
  obtain⟨t',rfl⟩:=ry;cases x with
  |non=>cases rx;exact SeqAt.EqAt.str_none a t'
  |bl b=>cases rx;exact SeqAt.EqAt.str_bool a t' b
  |int b=>obtain⟨t,rfl⟩:=rx;exact SeqAt.EqAt.str_int a t' b t
  |str b=>obtain⟨t,rfl⟩:=rx;exact SeqAt.EqAt.str_str a t' b t
  |_=>exact AH (show false=true from fx) fN
 |_=>exact AH (show false=true from fy) fN
def jT (x:V)(u:AC):Bool:=match u with
 | .none=>wW .non x
 | .bool b=>wW (.bl b) x
 | .int i _=>wW (.int i) x
 | .str z _=>wW (.str z) x
 |_=>false
theorem oK (r:RelV y u)(f:tH y=true):jT x u=wW y x:=by
 cases y with
 |non=>cases r;rfl
 |bl b=>cases r;rfl
 |int i=>obtain⟨t,rfl⟩:=r;rfl
 |str z=>obtain⟨t,rfl⟩:=r;rfl
 |_=>exact AH (show false=true from f) fN
theorem Ye:∀{xs:AA V} {us:AA AC},Vals xs us->xs.all tH=true->us.any (jT x)=xs.any λy=>wW y x
 |_,_,.nil,_=>rfl
 |y::xs,u::us,.cons r t,f=>by
  rw[yL,cV]at f;rw[wJ,wJ,oK r f.1,Ye t f.2]
theorem Wb (rx:RelV x v)(fx:tH x=true):∀{xs:AA V} {us:AA AC},Vals xs us->xs.all tH=true->∀u∈us,SeqAt.EqAt A s u v (jT x u)
 |_,_,.nil,_=>λu hu=>by cases hu
 |y::xs,u::us,.cons r t,f=>λu' hu=>by
  rw[yL,cV]at f;rcases qap.mp hu with rfl|hu
  ·rw[oK r f.1];exact Kt r rx f.1 fx
  ·exact Wb rx fx t f.2 u' hu
def lQ (x:V)(xs:AA V):Bool:=xs.any λy=>wW y x
def rIn (K:AF)(neg:Bool):R2:=λx y H Q=>∃p xs,y= .ref p/\(SqL K H p xs\/SqT K H p xs)/\tH x=true/\xs.all tH=true/\Q (.bl (if neg then !lQ x xs else lQ x xs)) H
theorem zl7:OpR X (compareOp .In) (rIn X.K false):=by
 intro AM s σ H x y v u Q I rx ry h;obtain⟨p,xs,rfl,hq,fx,fs,q⟩:=h;cases ry;rcases hq with hq|hq
 ·obtain⟨its,r,pl,hz⟩:=I.list hq;refine SeqAt.in_listAt (jT x) pl.isList (λw hw=>Wb rx fx r fs w (~~~hw)) ⟨.bl _,H,I,rfl,?_⟩;rw[show its.toArray.any (jT x)=its.any (jT x) by simp,Ye r fs];exact q
 ·obtain⟨its,r,pl,hz⟩:=I.tuple hq;refine SeqAt.in_tupleAt (jT x) pl (λw hw=>Wb rx fx r fs w (~~~hw)) ⟨.bl _,H,I,rfl,?_⟩;rw[show its.toArray.any (jT x)=its.any (jT x) by simp,Ye r fs];exact q
theorem zlD:OpR X (compareOp .NotIn) (rIn X.K true):=by
 intro AM s σ H x y v u Q I rx ry h;obtain⟨p,xs,rfl,hq,fx,fs,q⟩:=h;cases ry;rcases hq with hq|hq
 ·obtain⟨its,r,pl,hz⟩:=I.list hq;refine SeqAt.notIn_listAt (jT x) pl.isList (λw hw=>Wb rx fx r fs w (~~~hw)) ⟨.bl _,H,I,rfl,?_⟩;rw[show its.toArray.any (jT x)=its.any (jT x) by simp,Ye r fs];exact q
 ·obtain⟨its,r,pl,hz⟩:=I.tuple hq;refine SeqAt.notIn_tupleAt (jT x) pl (λw hw=>Wb rx fx r fs w (~~~hw)) ⟨.bl _,H,I,rfl,?_⟩;rw[show its.toArray.any (jT x)=its.any (jT x) by simp,Ye r fs];exact q
theorem zfs:iO X (.builtin "len") (λxs H Q=>∃p ys,xs=[.ref p]/\(SqL X.K H p ys\/SqT X.K H p ys)/\Q (.int ys.length) H):=by
 intro AM s σ H xs us Q I r h;obtain⟨p,ys,rfl,hq,q⟩:=h;obtain⟨u,rfl,rx⟩:=qX r;cases rx;have hn:=Gd;rcases hq with hq|hq
 ·obtain⟨its,r',pl,hz⟩:=I.list hq;have AO:=r'.length;exact Calls.call_len_list pl.isList (by simp only[bR]<;>lia) ⟨.int ys.length,H,I.tok _,⟨s.toks+1,by rw[bR,AO]⟩,q⟩
 ·obtain⟨its,r',pl,hz⟩:=I.tuple hq;have AO:=r'.length;exact len_tuple pl (by simp only[bR]<;>lia) ⟨.int ys.length,H,I.tok _,⟨s.toks+1,by rw[bR,AO]⟩,q⟩
theorem zmm:iO X (.type "list") (λxs H Q=>∃p ys,xs=[.ref p]/\(SqL X.K H p ys\/SqT X.K H p ys)/\∀l,H l=none->Q (.ref l) (upd H l (.lst ys))):=by
 intro AM s σ H xs us Q I r h;obtain⟨p,ys,rfl,hq,q⟩:=h;obtain⟨u,rfl,rx⟩:=qX r;cases rx;have fin:∀(its:AA AC),Vals ys its->ys.length<=sizeLine->∀(h':AK) (c':Nat),(∀b o',s.heap.get? b=some o'->h'.get? b=some o')->
   h'.get? s⁻¹=some {cls:= .type "list",dict:=none,data:= .seq its.toArray c',slots:= #[]}->EP X AM σ Q (.ref s⁻¹) {s with heap:=h'}:=λits r' hz h' c' kp e=>
  ⟨.ref s⁻¹,_,I.laid (t':=s.toks) kp (bC _) (show ObjOk X.prog X.w _ h' _ (.lst ys)from⟨hz,its,c',r',e⟩),rfl,q _ (I.hok.fresh (bC _))⟩
 rcases hq with hq|hq
 ·obtain⟨its,r',pl,hz⟩:=I.list hq;have AO:=r'.length;obtain⟨o,ho,hc,n,hd⟩:=pl.isList;exact call_list_seq p (.inl rfl) ho hc hd (λh' c' kp e=>fin its r' hz h' c' kp e) (by simp only[bR]<;>lia)
 ·obtain⟨its,r',pl,hz⟩:=I.tuple hq;have AO:=r'.length;obtain⟨o,ho,hc,n,hd⟩:=pl;exact call_list_seq p (.inr rfl) ho hc hd (λh' c' kp e=>fin its r' hz h' c' kp e) (by simp only[bR]<;>lia)
theorem zk8:iO X (.type "tuple") (λxs H Q=>∃p ys,xs=[.ref p]/\((SqL X.K H p ys/\∀l,H l=none->Q (.ref l) (upd H l (.tup ys)))\/(SqT X.K H p ys/\Q (.ref p) H))):=by
 intro AM s σ H xs us Q I r h;obtain⟨p,ys,rfl,h⟩:=h;obtain⟨u,rfl,rx⟩:=qX r;cases rx;rcases h with⟨hq,q⟩|⟨hq,q⟩
 ·obtain⟨its,r',pl,hz⟩:=I.list hq;have AO:=r'.length;refine call_tuple_list pl.isList (λh' kp=>?_) (by simp only[bR]<;>lia)
  have I1:Inv X AM σ H {s with heap:=h'}:=I.kept (t':=s.toks) kp;have I2:Inv X AM σ (upd H h'.objs.size (.tup ys)) {s with heap:=h'.push {cls:= .type "tuple",data:= .seq its.toArray}}:=
   I1.laid (t':=s.toks) (λb o e=>bP _ e) (bC _) (show ObjOk X.prog X.w _ _ _ (.tup ys)from⟨hz,its,r',IsTup.new _ _⟩)
  exact⟨.ref h'.objs.size,_,I2,rfl,q _ (I1.hok.fresh (bC _))⟩
 ·obtain⟨its,r',pl,hz⟩:=I.tuple hq;exact call_tuple_same pl ⟨.ref p,H,I,rfl,q⟩
def tyV (K:AF)(T:String)(x:V)(H:Hp):Prop:=match x with
 | .str _=>T="str"
 | .int _=>T="int"
 | .ref p=>(T="list"/\∃xs,SqL K H p xs)\/(T="tuple"/\∃o,K.lookup p=some o/\o.cls= .type "tuple"/\o.dict=none)\/
   (T="dict"/\((∃kvs,H p=some (.dK kvs))\/∃kvs,H p=some (.dT kvs)))\/(T="set"/\∃S n,H p=some (.set S n))
 |_=>False
theorem Hy {T:String}(I:Inv X AM σ H s)(r:RelV x v)(ty:tyV X.K T x H):
  s.TypeIs v T/\∀a,v= .ref a->∃ob,s.heap.get? a=some ob/\ob.dict=none:=by
 cases x with
 |str z=>
  obtain⟨t,rfl⟩:=r;cases(show T="str" from ty);exact⟨typeIs_str s z t,λ_ e=>nomatch e⟩
 |int i=>
  obtain⟨t,rfl⟩:=r;cases(show T="int" from ty);exact⟨typeIs_int s i t,λ_ e=>nomatch e⟩
 |ref p=>
  cases r;rcases ty with⟨rfl,xs,hq⟩|⟨rfl,o,hk,hc,hd⟩|⟨rfl,hk⟩|⟨rfl,S,n,hk⟩
  ·obtain⟨its,_,pl,_⟩:=I.list hq;refine⟨pl.isList.typeIs,λa e=>?_⟩;cases e;obtain⟨o,n,e,c,hd,_⟩:=pl;exact⟨o,e,hd⟩
  ·refine⟨⟨o,I.kIn p o hk,hc⟩,λa e=>?_⟩;cases e;exact⟨o,I.kIn _ o hk,hd⟩
  ·have z:∃o,s.heap.get? p=some o/\o.ExactDict:=by
    rcases hk with⟨kvs,hk⟩|⟨kvs,hk⟩
    ·obtain⟨_,_,_,_,o,_,_,e,ex,_⟩:=I.hok p _ hk;exact⟨o,e,ex⟩
    ·obtain⟨_,_,_,_,o,_,_,e,ex,_⟩:=I.hok p _ hk;exact⟨o,e,ex⟩
   obtain⟨o,e,ex⟩:=z;refine⟨⟨o,e,ex.1⟩,λa e2=>?_⟩;cases e2;exact⟨o,e,ex.2.1⟩
  ·obtain⟨o,_,_,_,e,ex,_⟩:=I.hok p _ hk;refine⟨⟨o,e,ex.1⟩,λa e2=>?_⟩;cases e2;exact⟨o,e,ex.2.1⟩
 |_=>exact False.elim ty
def tBM (K:AF)(T:String)(r:V->AA V->Hp->VK->Prop)(to:TE)(t:TA):TE:=λσ H Q=>to σ H λx H1=>tyV K T x H1/\t σ H1 λxs H2=>r x xs H2 Q
variable {o e:AI}{es:AA AI}{to:TE}{t:TA}{name:Str}{apos cpos:Pos}{T id:String}{r:V->AA V->Hp->VK->Prop}
theorem sV (pa:PlainAttrs T)(slot:Slot T name id)(hty:typeOf (.builtin id)=pure (.type "method_descriptor"))(hm:MtR X id r)(ho:PE X o to)(ha:PA X (e::es) t)(hbase:attributeBase o name X.env (eval o X.env)=eval o X.env:=by rfl)(hfew : ((backTo cpos (starEach (e :: es) X.env)).all (λx => !x.1) && (backToKw cpos (keywordEach [] X.env)).all (λx => x.1.isSome)
   &&decide ((e::es).length+([]:AA Keyword).length+(if([]:AA Keyword).isEmpty then 0 else 1)<30))=true:=by rfl)(hline:(apos.endLine==cpos.line)=true:=by rfl)(hs:starEach (e::es) X.env=(false,eval e X.env)::starEach es X.env:=by rfl)(hplain:(backTo cpos (starEach es X.env)).any (·.1)=false:=by rfl):
  PE X (.Call (.Attribute o name apos) (e::es) [] cpos) (tBM X.K T r to t):=by
 intro AM s σ H Q I h;refine wpAny_Call_method_late hbase hfew hline rfl (aW (ho AM s σ H _ I h) λv s1 ⟨x,H1,I1,r1,ty,q1⟩=>?_);obtain⟨h1,h2⟩:=Hy I1 r1 ty;refine⟨T,id,pa,slot,hty,h1,h2,?_⟩;have hA:=ha cpos AM s1 σ H1 _ I1 q1;rw[hs]at hA ⊢;refine Calls.callWith_builtin (by show(false||(backTo cpos (starEach es X.env)).any (·.1))=false;rw[hplain]<;>rfl) (Calls.evalArgs_plain ?_)
 exact aW hA λus s2 ⟨vs,H2,I2,r2,q2⟩=>hm AM s2 σ H2 x vs v us Q I2 r1 r2 q2
end
def MtM (X:Cx)(id:String)(r:V->AA V->Hp->VK->Prop):Prop:=
 ∀(AM:AA (AD×Obj)) (s:AE) (σ:St) (H:Hp) (x:V) (xs:AA V) (v:AC) (us:AA AC) (Q:VK),Inv X AM σ H s->RelV x v->Vals xs us->r x xs H Q->
  AG (model X.prog X.w) X.A (call (.builtin id) (v::us)) (EP X AM σ Q) X.xe s
theorem Vals.one:∀{x:V} {us:AA AC},Vals [x] us->∃u,us=[u]/\RelV x u
 |_,_,.cons r .nil=>⟨_,rfl,r⟩
theorem Vals.two:∀{x y:V} {us:AA AC},Vals [x,y] us->∃u v,us=[u,v]/\RelV x u/\RelV y v
 |_,_,_,.cons r (.cons q .nil)=>⟨_,_,rfl,r,q⟩
theorem Vals.rep (h:Vals xs us):∀k:Nat,Vals (List.replicate k xs).flatten (List.replicate k us).flatten
 |0=> .nil
 |k+1=>by
  rw[Et,Et,Nd,Nd];exact Vals.append h (Vals.rep h k)
theorem zls (its:AA AC):∀(k:Nat) (acc:AA AC),
  List.foldl (λx1 x2=>x1++x2) acc.toArray (List.replicate k its.toArray)=(acc++(List.replicate k its).flatten).toArray
 |0,acc=>by simp
 |k+1,acc=>by
  have e:acc.toArray++its.toArray=(acc++its).toArray:=by simp
  have e2:(acc++its)++(List.replicate k its).flatten=acc++(List.replicate (k+1) its).flatten:=by
   rw[Et,Nd,tN]
  rw[<-e2,<-zls its k (acc++its),<-e,Et,qbC]
section
variable {X:Cx}{AM:AA (AD×Obj)}{σ:St}{H:Hp}{s:AE}{l b:AD}{xs ys zs:AA V}
theorem Inv.lset (I:Inv X AM σ H s)(hH:H l=some (.lst xs))(e:s.heap.get? l=some {cls:= .type "list",data:= .seq its.toArray n})(hf:f its.toArray=its'.toArray)(hv:Vals ys its')(hz:ys.length<=sizeLine):
  Inv X AM σ (upd H l (.lst ys)) {s with heap:=s.heap.update l (Obj.mapSeq f),toks:=t'}:=by
 have q:=PySem.IsL.update e f;rw[hf]at q;refine I.write (x:=l) (e:=l) (by rw[hH];exact trivial) (.inl rfl) (λb' u hb hu=>(Li s.heap (Obj.mapSeq f) (Ne.symm hb)).trans hu) ⟨_,q⟩ ?_;exact⟨hz,its',_,hv,q⟩
theorem Inv.lnew (I:Inv X AM σ H s)(hv:Vals ys its)(hz:ys.length<=sizeLine):
  Inv X AM σ (upd H s⁻¹ (.lst ys)) {s with heap:=s.heap.push {cls:= .type "list",data:= .seq its.toArray},toks:=t'}:=
 I.laid (λ_ _ q=>bP _ q) (bC _) ⟨hz,its,0,hv,eN _ rfl⟩
theorem Inv.fresh (I:Inv X AM σ H s):H s⁻¹=none:=I.hok.fresh (bC _)
theorem Inv.lstM (I:Inv X AM σ H s)(hH:H l=some (.lst xs)):xs.length<=sizeLine/\∃(its:AA AC) (n:Nat),Vals xs its/\xs.length=its.length/\s.heap.get? l=some {cls:= .type "list",data:= .seq its.toArray n}:=by
 obtain⟨z,its,n,r,e⟩:=I.hok l _ hH;exact⟨z,its,n,r,r.length,e⟩
theorem Nf (h:n<=sizeLine):Builtin.List.listTooLong n=false:=by
 unfold Builtin.List.listTooLong;exact kB ∅
end
section
variable {X:Cx}
def vA:V->AA V->Hp->VK->Prop:=λx vs H Q=>∃l xs y,x= .ref l/\vs=[y]/\H l=some (.lst xs)/\xs.length<sizeLine/\Q .non (upd H l (.lst (xs++[y])))
theorem zlI:MtM X "list.append" vA:=by
 intro AM s σ H x vs v us Q I rx rv h;obtain⟨l,xs,y,rfl,rfl,hH,hz,q⟩:=h;cases rx;obtain⟨u,rfl,ru⟩:=rv.one;obtain⟨z,its,n,r,hl,e⟩:=I.lstM hH;refine call_meets F.slot_list_append ⟨_,e,rfl⟩ F.entry_list_append (F.args_list_append_2 _ _) (PySem.list_append l its.toArray n u (by rw[bR];lia)) ⟨e,?_⟩;refine⟨.non,_,I.lset (its':=its++[u]) hH e (by simp) (r.append (.cons ru .nil)) ?_,rfl,q⟩;rw[eS,qbD];lia
def yR:V->AA V->Hp->VK->Prop:=λx vs H Q=>∃l b xs zs,x= .ref l/\vs=[.ref b]/\H l=some (.lst xs)/\H b=some (.lst zs)/\xs.length+zs.length<=sizeLine/\Q .non (upd H l (.lst (xs++zs)))
theorem zpn:MtM X "list.extend" yR:=by
 intro AM s σ H x vs v us Q I rx rv h;obtain⟨l,b,xs,zs,rfl,rfl,hH,hB,hz,q⟩:=h;cases rx;obtain⟨u,rfl,ru⟩:=rv.one;cases ru;obtain⟨z,its,n,r,hl,e⟩:=I.lstM hH;obtain⟨z2,its2,n2,r2,hl2,e2⟩:=I.lstM hB;have hsz:its.toArray.size+its2.toArray.size<=sizeLine:=by rw[bR,bR];lia
 have hlong:¬(!its.toArray.isEmpty&&Builtin.List.listTooLong (its.toArray.size+its2.toArray.size))=true:=by
  rw[Nf hsz,Bool.and_false];exact fN
 refine call_meets F.slot_list_extend ⟨_,e,rfl⟩ F.entry_list_extend (F.args_list_extend_2 _ _)
  (AutoSeq1.list_extend_list_list_0 l its.toArray n b its2.toArray n2 hlong (by rw[bR];lia) ∅) ⟨e,e2,?_⟩
 refine⟨.non,_,I.lset (its':=its++its2) hH e (by simp) (r.append r2) ?_,rfl,q⟩;rw[eS];lia
def rCat:R2:=λx y H Q=>∃l b xs zs,x= .ref l/\y= .ref b/\H l=some (.lst xs)/\H b=some (.lst zs)/\xs.length+zs.length<=sizeLine/\∀p,H p=none->Q (.ref p) (upd H p (.lst (xs++zs)))
theorem op_cat:OpR X (binaryOp .Add) rCat:=by
 intro AM s σ H x y v u Q I rx ry h;obtain⟨l,b,xs,zs,rfl,rfl,hH,hB,hz,q⟩:=h;cases rx;cases ry;obtain⟨z,its,n,r,hl,e⟩:=I.lstM hH;obtain⟨z2,its2,n2,r2,hl2,e2⟩:=I.lstM hB;refine PySem.P.add_list e e2 ?_ (by rw[bR,bR];lia);have ea:its.toArray++its2.toArray=(its++its2).toArray:=by simp
 rw[ea];exact⟨.ref _,_,I.lnew (t':=s.toks) (r.append r2) (by rw[eS];lia),rfl,q _ I.fresh⟩
def rRep:R2:=λx y H Q=>∃l k xs,x= .ref l/\y= .int k/\H l=some (.lst xs)/\ -(2^63)<=k/\k<2^63/\xs.length*k.toNat<=sizeLine/\
 ∀p,H p=none->Q (.ref p) (upd H p (.lst (List.replicate k.toNat xs).flatten))
theorem vV {α:Type}(xs:AA α)(k:Nat):(List.replicate k xs).flatten.length=k*xs.length:=by
 induction k with
 |zero=>simp
 |succ k ih=>rw[Et,Nd,eS,ih,Nat.succ_mul,Qm]
theorem Gi:OpR X (binaryOp .Mult) rRep:=by
 intro AM s σ H x y v u Q I rx ry h;obtain⟨l,k,xs,rfl,rfl,hH,h1,h2,hz,q⟩:=h;cases rx;obtain⟨t,rfl⟩:=ry;obtain⟨z,its,n,r,hl,e⟩:=I.lstM hH;have AO:its.toArray.size*k.toNat<=sizeLine:=by rw[bR,<-hl];exact hz
 have hcap:¬its.toArray.size*k.toNat>(2^63-1)/8:=by
  have:(sizeLine:Nat)<=(2^63-1)/8:=by decide
  lia
 have hfit:¬(!Builtin.List.listFitsIndex k)=true:=by
  rw[fitsIndex_both h1 h2];exact fN
 have hlong:¬Builtin.List.listTooLong (its.toArray.size*k.toNat)=true:=by
  rw[Nf AO];exact fN
 have hnew:List.foldl (λx1 x2=>x1++x2) #[] (List.replicate (if its.toArray.isEmpty=true then 0 else k.toNat) its.toArray)=(List.replicate k.toNat its).flatten.toArray:=by
  have f0:∀m:Nat,List.foldl (λx1 x2=>x1++x2) #[] (List.replicate m its.toArray)=(List.replicate m its).flatten.toArray:=λm=>by
   have:=zls its m [];rw[List.nil_append]at this;exact this
  rw[f0];cases its with
  |nil=>simp
  |cons a r'=>rw[if_neg (by simp)]
 refine wpAny_binaryOp_repeat_ref (T:="list") (U:="int") (by decide) ⟨_,e,rfl⟩ (λs'=>typeIs_int s' k t) noFill_list_mul F.fills_int_mul F.slot_int_rmul repeat_list F.slot_int_index.lookup
  (call_meets F.slot_int_rmul (typeIs_int s k t) F.entry_int_rmul (F.args_int_rmul_2 _ _) (int___rmul___int_list k t l its.toArray n)
   ⟨e,rfl,⟨_,e,rfl⟩,call_meets F.slot_list_mul ⟨_,e,rfl⟩ F.entry_list_mul (F.args_list_mul_2 _ _) (AutoListH.list___mul___list_int_3 l its.toArray n k t hfit hcap hlong) ⟨e,?_⟩⟩)
 rw[hnew];exact⟨.ref _,_,I.lnew (t':=s.toks) (r.rep k.toNat) (by rw[vV,Nat.mul_comm];exact hz),rfl,q _ I.fresh⟩
end
section
variable {prog:AJ}{w:World}{A:Around}{E:AC->AE->Prop}{s:AE}
theorem zmn (its its2:AA AC)(a c:Nat):its.toArray.extract 0 a++its2.toArray++its.toArray.extract c its.toArray.size=(its.take a++its2++its.drop c).toArray:=by
  apply Array.toList_inj.mp
  first
    | (simp
       exact lN (by simp))
    |simp[lN]
    |simp
theorem zoY {a c n:Nat}(hac:a<=c)(hc:c<=n):sliceBounds (some (a:Int)) (some (c:Int)) none n=((a:Int),(c:Int),1):=by
 simp only[sliceBounds,qbw];have h1:¬((a:Int)<0):=∅
 have h2:¬((c:Int)<0):=∅
 simp only[h1,h2,cX,show(1:Int)>0 by decide,if_true];congr 1
 ·lia
 ·congr 1;lia
set_option maxRecDepth 100000 in
theorem zkm {l b sl:AD}{items new:Array AC}{n n2:Nat}(e:s.heap.get? l=some {cls:= .type "list",data:= .seq items n})(e2:s.heap.get? b=some {cls:= .type "list",data:= .seq new n2})(hne:l≠b)(hs:s.heap.IsSliceOf sl vl vu .none)(pl:IsPart vl (some (a:Int)))(pu:IsPart vu (some (c:Int)))(hac:a<=c)(hc:c<=items.size)(hsz:items.size+new.size<=sizeLine)(h:Q () {s with heap:=s.heap.update l (Obj.mapSeq λxs=>xs.extract 0 a++new++xs.extract c xs.size)}):
    AG (model prog w) A (setItem (.ref l) (.ref sl) (.ref b)) Q E s:=by
  have hl:s.heap.IsList l items:=qbG e;have hb:s.heap.IsList b new:=qbG e2;obtain⟨os,hos,hcs,hds⟩:=id hs;have hTs:s.TypeIs (.ref sl) "slice":=⟨os,hos,hcs⟩;have hstep:¬((rawPart none==rawInt 0)=true):=fN;have hsame:Builtin.List.listSameRef (.ref l) (.ref b)=false:=by
    unfold Builtin.List.listSameRef;exact qab.mpr hne
  have hmax:(max (a:Int) (c:Int)).toNat=c:=∅
  have hz':((λxs:Array AC=>xs.extract 0 a++new++xs.extract c xs.size) items).size<=sizeLine+1:=by
    simp only[Array.size_append,Array.size_extract];lia
  unfold setItem
  try with_reducible refine fV ?_
  first|refine aH (qaB ?_)|skip
  refine aH (Yr hl.typeIs (by decide) ?_);refine aH (Aw (name:=Str.ofString "__setitem__") hl.typeIs Yz
    (oO Yz hl.typeIs entry_list_setitem ?_ (args_list_setitem _ _ _)))
  show AG _ _ (Builtin.List.listSubscript? (.ref sl)>>=_) _ _ s;refine aH ?_;unfold Builtin.List.listSubscript?;refine aH (qbI hTs slice_no_index ?_);simp only[Option.isNone_none,if_true];refine qaB ?_;show AG _ _ (typeOf (.ref sl)>>=_) _ _ s;refine aH (Ma hTs ?_)
  first
    |rw[if_neg (by decide)]
    |refine Oo (by decide) ?_
  rw[listSliceParts_eq];refine aH (aH (iD hos hds (x:= .none) rfl (aH (Nk .none ?_))));rw[if_neg hstep];refine aH (iD hos hds (x:=vl) rfl (aH (Nk pl ?_)));refine aH (iD hos hds (x:=vu) rfl (aH (Nk pu (qaB ?_))))
  first
    |simp only[hsame,lJ,cX]
    |refine Oo hsame ?_
    | (dsimp only
       rw[if_neg (by rw[hsame];exact fN)])
  refine aH (m:=Builtin.List.listAllItems (.ref b) "must assign iterable to extended slice") ?_;unfold Builtin.List.listAllItems;refine aH (Ma hb.typeIs ?_)
  first
    |refine W.KFB.if_so (by decide) ?_
    |rw[if_pos (by decide)]
    |simp only[Sk,Bool.true_or,if_true]
  unfold Builtin.List.listItems;refine aH (kR e2 rfl (qaB ?_));refine aH (aH (kR e rfl (qaB ?_)));refine aH (Um ((sliceIndices_raw (some (a:Int)) (some (c:Int)) none items.size (by simp)).trans (congrArg (pure:Int×Int×Int->Sem (Int×Int×Int)) (zoY hac hc))) ?_);show AG _ _ (if((1:Int)==1)=true then _ else _) _ _ s;rw[if_pos (by decide)];refine aH (Dq ?_)
  first
    |simp only[Nf hsz,lJ,cX]
    |refine Oo (Nf hsz) ?_
  first|refine aH (qaB ?_)|skip
  show AG _ _ (updateSeq l (λxs=>xs.extract 0 ((a:Int)).toNat++new++xs.extract (max (a:Int) (c:Int)).toNat xs.size)>>=_) _ _ s;rw[hmax,Bf];refine aH (Ql (hz:=bE (Nat.le_add_right _ _) hsz) (_hz':=hz') e rfl ?_);refine aH (zW ?_)
  first
    |exact aH (qaB (qaB ⟨.none,rfl,qaB h⟩))
    |exact qaB ⟨.none,rfl,qaB h⟩
end
section
variable {X:Cx}
theorem zqG {l b sl:AD}{a c:Int}(I:Inv X AM σ H s)(hH:H l=some (.lst xs))(hB:H b=some (.lst ys))(hne:l≠b)(hs:s.heap.IsSliceOf sl vl vu .none)(ra:RelV (.int a) vl)(rc:RelV (.int c) vu)(h0:0<=a)(hac:a<=c)(hc:c<=xs.length)(hz:xs.length+ys.length<=sizeLine)(h:∀s',Inv X AM σ (upd H l (.lst (xs.take a.toNat++ys++xs.drop c.toNat))) s'->Q () s'):
  AG (model X.prog X.w) X.A (setItem (.ref l) (.ref sl) (.ref b)) Q X.xe s:=by
 obtain⟨ta,rfl⟩:=ra;obtain⟨tc,rfl⟩:=rc;obtain⟨z,its,n,r,hl,e⟩:=I.lstM hH;obtain⟨z2,its2,n2,r2,hl2,e2⟩:=I.lstM hB;obtain⟨a',rfl⟩:=Tf h0;obtain⟨c',rfl⟩:=Tf (Xa h0 hac);simp only[Bf]at h;refine zkm (a:=a') (c:=c') e e2 hne hs (.int _ _) (.int _ _) ∅ (by rw[bR];lia) (by rw[bR,bR];lia) (h _ ?_);refine I.lset (its':=its.take a'++its2++its.drop c') (t':=s.toks) hH e ?_ (Vals.append (Vals.append (r.take _) r2) (r.drop _)) ?_
 ·exact zmn its its2 a' c'
 ·rw[eS,eS,kA,tR];lia
end
end L2
namespace Att
open PyProof.Rows PySem PySem.Calls PySem.W
theorem ziI {P:Params}{h:AK}:∀(ns:AA Int) (vs:AA AC),WellAll P h vs (ns.map WData.int)->IntsAre vs ns:=by
 intro ns
 induction ns with
 |nil=>
  intro vs w;rw[List.map_nil]at w;cases w;exact .nil
 |cons n ns ih=>
  intro vs w;rw[eY]at w;cases w with
  |cons a b=>
   cases a;exact .cons _ _ (ih _ b)
theorem zp9 {l:OpenLaw}{n:Nat}(hn:l.most=some n){P:Params}{h:AK}{args:AA WData}{vals:AA AC}(hpre:l.row.toRowW.claim.pre args=true)(hwl:WellAll P h vals args):
  ∃a vs ns,vals=[Value.ref a]/\args=[WData.list (ns.map WData.int)]/\h.get? a=some {cls:= .type "list",data:= .seq vs.toArray}/\IntsAre vs ns/\ns.length<=n:=by
 have hsh:WShape.hasAll [] args [.list .int]=true:=(pre_splitW hpre).1;have hc:l.pre.holds [] {args:=args}=true:=(pre_splitW hpre).2;obtain⟨d,r,rfl,h1,h2⟩:=hasAllW_cons hsh;obtain rfl:=hasAllW_nil h2;obtain⟨xs,rfl,h3⟩:=hasW_list h1;obtain⟨ns,rfl⟩:=items_int h3;have AO:ns.length<=n:=by
  unfold OpenLaw.pre at hc;have h4:(WTm.not (.lt (.lit (.int (n:Int))) (.len (.arg 0)))).holds [] {args:=[.list (ns.map .int)]}=true:=by
   have h4:=(holds_andW hc).1;rw[hn]at h4;exact h4
  have h5:=condW_of h4 (w_not (w_lt w_lit (w_len_list (w_arg rfl))));rw[eI]at h5;refine Nat.le_of_not_lt λq=>?_
  have q':(n:Int)<((ns.length:Nat):Int):=∅
  first
   |(rw[gW q']at h5;exact AH h5 (by decide))
   |(simp at h5;lia)
 cases hwl with
 |cons w1 w2=>
  cases w2;cases w1 with
  |list ho hall=>exact⟨_,_,ns,rfl,rfl,ho,ziI ns _ hall,AO⟩
theorem zqw (l:OpenLaw)(args:AA WData):l.row.toRowW.claim.post args (.bool true) args=true:=
 postW_of (r:=l.row.toRowW) (X:=(true==true))
  (show WShape.has [] (.bool true) .bool=true by first|rfl|decide|simp[WShape.has,WShape.arms,WShape.armsAll])
  (show(WTm.eq .res (.lit (.bool true))).value [] {args:=args,res:=some (.bool true),after:=args}=some (.bool (true==true))from w_eq_bool (w_res rfl) w_lit) rfl
theorem attach_call {l:OpenLaw}{n:Nat}{q:AJ}{loose:AA Str}{XP:(Str->AB AC)->AK->Prop}{YP:World->AK->Prop}{d:DefRec}(hn:l.most=some n)(hdf:d.params.defaults=[])(call : ∀ (w : World) (s₀ s₁ : AE) (mg mb : Str -> AB AC) (fa : AD) (o : Obj) (pm cd doc : AC) (a : AD) (vs : AA AC) (ns : AA Int),
   Ground q loose [] XP w s₀ mg mb s₁.heap->YP w s₁.heap->
   s₁.heap.get? fa=some o->o.data= .func (docDef d.name d.params d.body d.scope pm cd doc)->s₁.heap.CodeRec cd d.name->mg d.name=some (.ref fa)->
   s₁.heap.get? a=some {cls:= .type "list",data:= .seq vs.toArray}->IntsAre vs ns->ns.length<=n->s₁.gens= #[]->
   codeAny (model l.prog w) callerA (.call (.ref fa) ⟨[.ref a],[]⟩) (λr s'=>r= .ok (.ret (.bool true))/\OldK s₁.heap s'.heap/\s'.os=s₁.os/\AllBare s'.gens) s₁):
  WalkO q loose XP YP l.row.toRowW d [] (λf vs=>PySem.call f vs):=by
 intro w s₀ s₁ mg mb G Y fa o pm cd doc dV kV ho hd hcd hD hmg hg args vals as hpre hlay hrd hwl hlo;obtain rfl:dV= .none:=Dflts.none hD hdf;obtain rfl:kV= .none:=Dflts.noKw hD;obtain⟨a,vs,ns,rfl,rfl,hobj,hints,AO⟩:=zp9 hn hpre hwl;refine enter_call (codeAny_mono (call w s₀ s₁ mg mb fa o pm cd doc a vs ns G Y ho (fd_plain hd) hcd hmg hobj hints AO hg) λr s' hq=>?_);obtain⟨rfl,h2,h3,h4⟩:=hq;exact⟨.inl ⟨.bool true,.bool true,[],rfl,λ_=>rfl,.bool true,zqw l _,λ_=>⟨List.Pairwise.nil,λ_ hm=>(nomatch hm)⟩⟩,h2,h3,h4⟩
end Att
namespace L2
open PyProof.Rows PySem PySem.Spec
variable {w:World}{K:AF}{CX:World->xR}{k n:Nat}{a f:AD}{fd:FuncData}{x qual:Str}{sp:Sp}{vs:AA AC}{ns:AA Int}{l:W.OpenLaw}{q prog:AJ}{loose ps:AA Str}{XP:(Str->AB AC)->AK->Prop}{YP:World->AK->Prop}{d:DefRec}{oc u:AC}{osl:Array (AB AC)}{xs:AA V}{o:AB V}{y:V}{h':AK}{A:Around}{E Q:AC->AE->Prop}{s:AE}
theorem zhj:∀{vs:AA AC} {ns:AA Int},IntsAre vs ns->Vals (ns.map V.int) vs
 |_,_,.nil=> .nil
 |_,_,.cons n t h=> .cons ⟨t,rfl⟩ (zhj h)
def Iz (H:Hp):Prop:=∀b,H b=none\/∃o xs,H b=some (.frz o (.lst xs))
theorem rT {P:AJ}{mg mb:Str->AB AC}{CX:xR}{fa a:AD}{s₁:AE}(KX:K.In s₁.heap)(hns:s₁.heap.Ns AL mg)(hb:s₁.heap.Ns builtinsNs mb)(hbb:∀x:Str,x≠"__name__"->mb x=bootBuiltins x)(hlim:s₁.heap.NoLimit)(hg:s₁.gens= #[])(ha:s₁.heap.get? a=some {cls:= .type "list",data:= .seq vs.toArray})(hi:IntsAre vs ns)(hl:ns.length<=sizeLine)(hr:Room k callerA)(F:∀base:AK,K.In base->base.Ns AL mg->FnOk P w K mg base CX k fa fd [x] sp)(hbind:∀(s:AE) (u:AC),BindsTo s fd ⟨[u],[]⟩ [(x,u)])(hsp:∀H:Hp,Iz H->SqL K H a (ns.map V.int)->sp [.ref a] H (λv _=>v= .bl true) λ_ _ _=>False)(hCX:∀H e s',CX [] H s₁ (λ_ _ _=>False) e s'->False):
  codeAny (model P w) callerA (.call (.ref fa) ⟨[.ref a],[]⟩) (λr s'=>r= .ok (.ret (.bool true))/\OldK s₁.heap s'.heap/\s'.os=s₁.os/\AllBare s'.gens) s₁:=by
 have rv:=zhj hi;have lenV:=hi.length;have core:∀H:Hp,Iz H->SqL K H a (ns.map V.int)->HOk P w H s₁.heap->(∀b,H b≠none->b=a)->(H a≠none->K.lookup a=none)->
   codeAny (model P w) callerA (.call (.ref fa) ⟨[.ref a],[]⟩) (λr s'=>r= .ok (.ret (.bool true))/\OldK s₁.heap s'.heap/\s'.os=s₁.os/\AllBare s'.gens) s₁:=by
  intro H hO hS hok hA hK;have base_of:∀{b:AD} {o:Obj},s₁.heap.get? b=some o->H b=none->(hV s₁.heap H).get? b=some o:=λe n=>pJ e n
  have noA:∀{b:AD} {o:Obj} {es:Array DictEntry} {ep:Nat},s₁.heap.get? b=some o->o.data= .dict es ep->H b=none:=λ{b o es ep} e d=>by
   cases q:H b with
   |none=>rfl
   |some u=>
    have e':b=a:=hA b (by rw[q];simp);subst e';rw[ha]at e;cases e;have d':Data.seq vs.toArray _=Data.dict es ep:=d;cases d'
  have nsK:∀{b:AD} {m:Str->AB AC},s₁.heap.Ns b m->(hV s₁.heap H).Ns b m:=λ{b m} ⟨o,es,ep,e,d,r⟩=>⟨o,es,ep,base_of e (noA e d),d,r⟩
  have hKb:K.In (hV s₁.heap H):=λb o e=>base_of (KX b o e) (by
   cases q:H b with
   |none=>rfl
   |some u=>
    have e':b=a:=hA b (by rw[q];simp);subst e';rw[hK (by rw[q];simp)]at e;cases e)
  have hM:Mod K mg (hV s₁.heap H):=⟨hKb,nsK hns,⟨mb,nsK hb,hbb⟩,let⟨mc,h1,h2⟩:=hlim;⟨mc,nsK h1,h2⟩⟩;have e0:Env0 P w K mg (hV s₁.heap H) callerA [] s₁ H:=⟨rfl,hM,λb o e=>zF e,Nat.le_of_eq (zo5 _ _),trivial,λb hb=>AH (show b∈([]:AA AD)from hb) (by simp),hok,.of_eq hg⟩;refine codeAny_mono ((F _ hKb (nsK hns)).run callerA [] s₁ H ⟨[.ref a],[]⟩ [.ref a] [.ref a] _ _ hr e0 (hbind s₁ (.ref a)) (.cons rfl .nil) (hsp H hO hS)) λr s' h=>?_
  cases r with
  |error e=>exact(hCX H e s' h).elim
  |ok fl=>
   cases fl with
   |next=>exact False.elim h
   |brk=>exact False.elim h
   |cont=>exact False.elim h
   |ret u=>
    obtain⟨v,H',os,bare,un,hok',r',q⟩:=h;have q':v= .bl true:=q;subst q';obtain rfl:u=Value.bool true:=r';refine⟨rfl,OldK.of_keep λb o e=>?_,os,bare⟩;cases q:H b with
    |none=>exact un.keep b o e q (by intro z;exact AH (show b∈([]:AA AD)from z) (by simp)) (by simp)
    |some u=>
     rcases hO b with z|⟨ob,xs,z⟩
     ·rw[q]at z;cases z
     ·have z2:=un.frzs b ob _ z;obtain⟨e1,_⟩:=hok b _ z;obtain⟨e2,_⟩:=hok' b _ z2;rw[e]at e1;cases e1;exact e2
 cases hk:K.lookup a with
 |some o=>
  have e:=KX a o hk;rw[ha]at e;cases e;refine core (λ_=>none) (λ_=> .inl rfl) (.inr ⟨_,vs.toArray,_,hk,rfl,rfl,rfl,by rw[bR,lenV];exact hl,~~~rv⟩) (λb u z=>by have z':(none:AB HO)=some u:=z;cases z') (λb z=>AH rfl z) λz=>AH rfl z
 |none=>
  refine core (λb=>if b=a then some (.frz {cls:= .type "list",data:= .seq vs.toArray} (.lst (ns.map V.int)))else none) (λb=>?_) (.inl (.inr ⟨{cls:= .type "list",data:= .seq vs.toArray},if_pos rfl⟩)) (λb u z=>?_) (λb z=>?_) λ_=>hk
  ·by_cases hb:b=a
   ·exact .inr ⟨_,_,if_pos hb⟩
   ·exact .inl (if_neg hb)
  ·by_cases hb:b=a
   ·have z':=(if_pos hb).symm.trans z;cases z';subst hb;exact⟨ha,by rw[eI];exact hl,vs,_,rv,ha⟩
   ·have z':=(if_neg hb).symm.trans z;cases z'
  ·by_cases hb:b=a
   ·exact hb
   ·exact AH (if_neg hb) z
theorem vX {K:Params->AF}{sp:World->Sp}(hn:l.most=some n)(hn2:n<=sizeLine)(hdf:d.params.defaults=[])(hr:Room k callerA)(hY:∀(w:World) (h:AK),YP w h->(K w.params).In h)(F : ∀ (w : World) (mg : Str -> AB AC) (fa : AD) (h : AK), (K w.params).In h -> h.Ns AL mg -> mg d.name = some (.ref fa) ->
   ∃fd:FuncData,(∀(s:AE) (u:AC),BindsTo s fd ⟨[u],[]⟩ [(x,u)])/\
    ∀base:AK,(K w.params).In base->base.Ns AL mg->FnOk l.prog w (K w.params) mg base (CX w) k fa fd [x] (sp w))(hsp:∀(w:World) (H:Hp) (a:AD) (ns:AA Int),ns.length<=n->Iz H->SqL (K w.params) H a (ns.map V.int)->sp w [.ref a] H (λv _=>v= .bl true) λ_ _ _=>False)(hCX:∀(w:World) (H:Hp) (s:AE) (e:AC) (s':AE),CX w [] H s (λ_ _ _=>False) e s'->False):
  W.WalkO q loose XP YP l.row.toRowW d [] (λf vs=>PySem.call f vs):=by
 refine Att.attach_call hn hdf λw s₀ s₁ mg mb fa o pm cd doc a vs ns G Y ho hd hcd hmg hobj hints AO hg=>?_
 have KX:=hY w _ Y;obtain⟨fd,hb,hF⟩:=F w mg fa _ KX G.T.g hmg;exact rT KX G.T.g G.T.b G.T.builtins G.T.nolimit hg hobj hints (bE AO hn2) hr hF hb (λH hO hS=>hsp w H a ns AO hO hS) λH e s'=>hCX w H s₁ e s'
def Cp (s:Stmt)(j:Nat):Stmt:=match s with
 | .ClassDef _ _ _ body _ _ _ _ _ _ _=>body.getD j (.Pass ⟨0,0,0,0⟩)
 |_=> .Pass ⟨0,0,0,0⟩
def zbf (s:Stmt):Arguments:=match s with
 | .FunctionDef _ a _ _ _ _ _ _ _ _=>a
 |_=>{posonlyargs:=[],args:=[],vararg:=none,kwonlyargs:=[],kw_defaults:=[],kwarg:=none,defaults:=[]}
def zaS (s:Stmt):AA Stmt:=match s with
 | .FunctionDef _ _ b _ _ _ _ _ _ _=>b
 |_=>[]
def zaq (s:Stmt):Scope:=match s with
 | .FunctionDef _ _ _ _ _ _ sc _ _ _=>sc
 |_=>{kind:= .function,names:=[],isGenerator:=false,isCoroutine:=false}
abbrev iJ:xR:=λ_ _ _ _ _ _=>False
abbrev E0:XK:=λ_ _ _=>False
theorem Bw {X:Cx}:Gv iJ X E0:=λ_ _ _ _ _ _ _ h=>h.elim
structure Fun (K:W.Frag)(x qual:Str)(st:Stmt)(f:Addr)(fd:FuncData):Prop where
 ex:∃(oc:Value) (od:Option Addr) (kV doc pm:Value) (an:Option Addr) (cdv ct:Value) (osl:Array (Option Value)),
  fd=W.fnOf x qual (zbf st) (zaS st) (zaq st) .none kV doc pm an cdv ct/\K.lookup f=some ⟨oc,od,.func fd,osl⟩/\W.codeIn K cdv qual=true
 kp:W.keepIn K (.ref f)=true
section
variable {P:AJ}{w:World}{K:AF}{mg:Str->AB AC}{base:AK}
theorem Fun.ok {st:Stmt}{N ps:AA Str}(F:Fun K x qual st f fd)(S:FnScope N ps (zaq st))(len:∀vs H Q E,sp vs H Q E->vs.length=ps.length)(hbody : ∀ (cdv : AC) (A : Around) (outer : AA Env) (s : AE) (H : Hp) (vs : AA V) (Q : VK) (E : XK), Room k (A.deeper (envOfC qual (zaq st) s⁻¹ f cdv)) -> sp vs H Q E ->
   ∃t,PSs (gX iJ P w K mg base N qual (zaq st) f cdv A outer s H E).nox (zaS st) t/\t {nx:=λ_ H'=>Q .non H',rt:=Q} (start N vs) H):FnOk P w K mg base iJ (k+1) f fd ps sp:=by
 obtain⟨oc,od,kV,doc,pm,an,cdv,ct,osl,rfl,lk,hcd⟩:=F.ex;refine Pe lk hcd S len λA outer s H vs Q E hr hsp=>?_
 obtain⟨t,h,q⟩:=hbody cdv A outer s H vs Q E hr hsp;exact⟨t,h.nox,q⟩
theorem Fun.binds {st:Stmt}(F:Fun K x qual st f fd)(h:∀(kV doc pm:AC) (an:AB AD) (cdv ct:AC) (us:AA AC),us.length=ps.length->bindArgs (W.fnOf x qual (zbf st) (zaS st) (zaq st) .none kV doc pm an cdv ct) ⟨us,[]⟩=pure (ps.zip us)):Binds K fd ps []:=by
 obtain⟨oc,od,kV,doc,pm,an,cdv,ct,osl,rfl,lk,hcd⟩:=F.ex;exact .all (h kV doc pm an cdv ct)
theorem zpw {st:Stmt}{od an:AB AD}{kV doc pm cdv ct:AC}(l:K.lookup f=some ⟨oc,od,.func (W.fnOf x qual (zbf st) (zaS st) (zaq st) .none kV doc pm an cdv ct),osl⟩)(c:W.codeIn K cdv qual=true)(k:W.keepIn K (.ref f)=true):Fun K x qual st f (W.fnOf x qual (zbf st) (zaS st) (zaq st) .none kV doc pm an cdv ct):=⟨⟨oc,od,kV,doc,pm,an,cdv,ct,osl,rfl,l,c⟩,k⟩
end
def Same (H H':Hp):Prop:=∀b o,H b=some o->H' b=some o
theorem Same.seq {H H':Hp}(e:Same H H')(h:SqL K H a xs):SqL K H' a xs:=by
 rcases h with(h|⟨o,h⟩)|h
 ·exact .inl (.inl (e _ _ h))
 ·exact .inl (.inr ⟨o,e _ _ h⟩)
 ·exact .inr h
section
variable {κ:Type}[DecidableEq κ]
def fJ (kvs:AA (κ×V))(k:κ):AB V:=(kvs.find? λkv=>decide (kv.1=k)).map (·.2)
def fR (kvs:AA (κ×V))(k:κ)(v:V):AA (κ×V):=
 if(kvs.any λkv=>decide (kv.1=k))=true then kvs.map (λkv=>if kv.1=k then(kv.1,v)else kv)else kvs++[(k,v)]
theorem znx {p:κ×V}{r:AA (κ×V)}{k:κ}(e:p.1=k):fJ (p::r) k=some p.2:=by simp[fJ,Jf,e]
theorem zkM {p:κ×V}{r:AA (κ×V)}{k:κ}(e:¬p.1=k):fJ (p::r) k=fJ r k:=by simp[fJ,Jf,e]
theorem zna (kvs:AA (κ×V))(k:κ)(v:V):(fR kvs k v).length<=kvs.length+1:=by
 unfold fR
 split
 ·rw[eI];lia
 ·rw[eS,eH,Zu];lia
theorem RelO.isSome_eq {u:AB AC}(r:RelO o u):o.isSome=u.isSome:=by
 cases o with
 |none=>cases u with
  |none=>rfl
  |some _=>exact(show False from r).elim
 |some _=>cases u with
  |none=>exact(show False from r).elim
  |some _=>rfl
theorem KV.val {kvs:AA (κ×V)}{vs:AA (κ×AC)}(r:KV kvs vs)(k:κ):RelO (fJ kvs k) (valueAt vs k):=by
 unfold KV at r
 induction r with
 |nil=>exact True.intro
 | @cons p q ps qs h t ih=>
  obtain⟨h1,h2⟩:=h
  by_cases e:p.1=k
  ·have e':q.1=k:=h1.symm.trans e;have b:valueAt (q::qs) k=some q.2:=by simp[valueAt,Jf,e']
   rw[znx e,b];exact h2
  ·have e':¬q.1=k:=λz=>e (h1.trans z)
   have b:valueAt (q::qs) k=valueAt qs k:=by simp[valueAt,Jf,e']
   rw[zkM e,b];exact ih
theorem KV.any {kvs:AA (κ×V)}{vs:AA (κ×AC)}(r:KV kvs vs)(k:κ):(kvs.any λkv=>decide (kv.1=k))=vs.any λkv=>decide (kv.1=k):=by
 unfold KV at r
 induction r with
 |nil=>rfl
 |cons h t ih=>rw[wJ,wJ,ih,h.1]
theorem KV.repl {kvs:AA (κ×V)}{vs:AA (κ×AC)}(r:KV kvs vs)(k:κ)(ry:RelV y u):
  KV (kvs.map λkv=>if kv.1=k then(kv.1,y)else kv) (vs.map λkv=>if kv.1=k then(kv.1,u)else kv):=by
 unfold KV at r ⊢
 induction r with
 |nil=>exact .nil
 | @cons p q ps qs h t ih=>
  rw[eY,eY];refine .cons ?_ ih;obtain⟨h1,h2⟩:=h
  by_cases e:p.1=k
  ·rw[if_pos e,if_pos (h1.symm.trans e)];exact⟨h1,ry⟩
  ·rw[if_neg e,if_neg (λz=>e (h1.trans z))];exact⟨h1,h2⟩
theorem KV.put {kvs:AA (κ×V)}{vs:AA (κ×AC)}(r:KV kvs vs)(k:κ)(ry:RelV y u):KV (fR kvs k y) (stored vs k u):=by
 unfold fR stored;rw[r.any k]
 by_cases e:(vs.any λkv=>decide (kv.1=k))=true
 ·rw[if_pos e,if_pos e];exact r.repl k ry
 ·rw[if_neg e,if_neg e];exact Paired.snoc r ⟨rfl,ry⟩
theorem KV.keys {kvs:AA (κ×V)}{vs:AA (κ×AC)}(r:KV kvs vs):kvs.map (·.1)=vs.map (·.1):=by
 unfold KV at r
 induction r with
 |nil=>rfl
 |cons h t ih=>rw[eY,eY,ih,h.1]
theorem KV.length {kvs:AA (κ×V)}{vs:AA (κ×AC)}(r:KV kvs vs):kvs.length=vs.length:=Paired.length r
end
theorem Ya {P:AJ}{k:cO}(r:RelV (kV k) u):(kN P w).is k u=true:=by
 cases k with
 |inl i=>obtain⟨t,e⟩:=(show ∃t,u=Value.int i t from r);subst e;exact zmw P w i t
 |inr x=>obtain⟨t,e⟩:=(show ∃t,u=Value.str x t from r);subst e;exact zmD P w x t
section
variable {X:Cx}{AM:AA (AD×Obj)}{σ:St}{H:Hp}{s:AE}{a:AD}{y v:V}{u r:AC}{o:AB V}{A:Around}{E:AC->AE->Prop}
theorem Inv.big (I:Inv X AM σ H s):sysModules<s⁻¹:=by
 have h:AL<s⁻¹:=(I.mod.glob.keeps I.bk).lt;exact Nat.lt_trans (by decide) h
theorem yI {t':Nat}{ob:HO}(I:Inv X AM σ H s)(mu:Wj (H a))(hs:Heap.SameBut a s.heap h')(he:∃q,h'.get? a=some q)(new:ObjOk X.prog X.w (upd H a ob) h' a ob):
  Inv X AM σ (upd H a ob) {s with heap:=h',toks:=t'}:=
 I.write (x:=a) (e:=a) mu (.inl rfl) (λb q hb z=>(hs.2 b hb).trans z) he new
end
def Mo (i:AI):Prop:=∀ov iv,subscripted i false ov iv=operate [ov,iv] (getItem ov iv)
theorem Ai {env:Env}{value slice:AI}{pos:Pos}{T id:String}(hl:typeLookup (.type T) "__getitem__"=pure (some (.builtin id)))(hs:Mo slice)(h:AG (model prog w) A (eval value env) (λo s₁=>AG (model prog w) A (eval slice env) (λi s₂=>s₂.TypeIs o T/\AG (model prog w) A (getItem o i) Q E s₂) E s₁) E s):
  AG (model prog w) A (eval (.Subscript value slice pos) env) Q E s:=by
 refine Subscript_ (lH h (λo s₁ h₁=>lH h₁ (λi s₂ h₂=>?_) λ_ _ x=>x) λ_ _ x=>x);obtain⟨hT,h₂⟩:=h₂;unfold subscriptTail;refine aH ?_;rw[getitemInPython_of_ne hT.not_modules];refine aH (qbI hT hl ?_);have fin:AG (model prog w) A (subscripted slice false o i) (λr s₃=>AG (model prog w) A (letTemporaryGo value o r>>=λ_=>pure r) Q E s₃) E s₂:=by
  rw[hs o i];exact wpAny_operating (lH h₂ (λr s₃ h₃=>aH (wpAny_letTemporaryGo (qaB h₃))) λ_ _ x=>x)
 first
  |exact qaB (aH fin)
  |exact aH (qaB (aH fin))
  |exact aH fin
section
variable {prog:AJ}{w:World}{A:Around}{E:AC->AE->Prop}{s:AE}
theorem zmI {a c n:Nat}(hac:a<=c)(hc:a<=n):sliceBounds (some (a:Int)) (some (c:Int)) none n=((a:Int),((min c n:Nat):Int),1):=by
 simp only[sliceBounds,qbw];have h1:¬((a:Int)<0):=∅
 have h2:¬((c:Int)<0):=∅
 simp only[h1,h2,cX,show(1:Int)>0 by decide,if_true];congr 1
 ·lia
 ·congr 1;lia
theorem zjR {l b sl:AD}{items new:Array AC}{n n2:Nat}{vl vu:AC}{a c:Nat}{Q:Unit->AE->Prop}(e:s.heap.get? l=some {cls:= .type "list",data:= .seq items n})(e2:s.heap.get? b=some {cls:= .type "list",data:= .seq new n2})(hne:l≠b)(hs:s.heap.IsSliceOf sl vl vu .none)(pl:IsPart vl (some (a:Int)))(pu:IsPart vu (some (c:Int)))(hac:a<=c)(hc:a<=items.size)(hsz:items.size+new.size<=sizeLine)(h:Q () {s with heap:=s.heap.update l (Obj.mapSeq λxs=>xs.extract 0 a++new++xs.extract (min c items.size) xs.size)}):
    AG (model prog w) A (setItem (.ref l) (.ref sl) (.ref b)) Q E s:=by
  have hl:s.heap.IsList l items:=qbG e;have hb:s.heap.IsList b new:=qbG e2;obtain⟨os,hos,hcs,hds⟩:=id hs;have hTs:s.TypeIs (.ref sl) "slice":=⟨os,hos,hcs⟩;have hstep:¬((rawPart none==rawInt 0)=true):=fN;have hsame:Builtin.List.listSameRef (.ref l) (.ref b)=false:=by
    unfold Builtin.List.listSameRef;exact qab.mpr hne
  have hmax:(max (a:Int) ((min c items.size:Nat):Int)).toNat=min c items.size:=∅
  have hz':((λxs:Array AC=>xs.extract 0 a++new++xs.extract (min c items.size) xs.size) items).size<=sizeLine+1:=by
    simp only[Array.size_append,Array.size_extract];lia
  unfold setItem
  try with_reducible refine fV ?_
  first|refine aH (qaB ?_)|skip
  refine aH (Yr hl.typeIs (by decide) ?_);refine aH (Aw (name:=Str.ofString "__setitem__") hl.typeIs Yz
    (oO Yz hl.typeIs entry_list_setitem ?_ (args_list_setitem _ _ _)))
  show AG _ _ (Builtin.List.listSubscript? (.ref sl)>>=_) _ _ s;refine aH ?_;unfold Builtin.List.listSubscript?;refine aH (qbI hTs slice_no_index ?_);simp only[Option.isNone_none,if_true];refine qaB ?_;show AG _ _ (typeOf (.ref sl)>>=_) _ _ s;refine aH (Ma hTs ?_)
  first
    |rw[if_neg (by decide)]
    |refine Oo (by decide) ?_
  rw[listSliceParts_eq];refine aH (aH (iD hos hds (x:= .none) rfl (aH (Nk .none ?_))));rw[if_neg hstep];refine aH (iD hos hds (x:=vl) rfl (aH (Nk pl ?_)));refine aH (iD hos hds (x:=vu) rfl (aH (Nk pu (qaB ?_))))
  first
    |simp only[hsame,lJ,cX]
    |refine Oo hsame ?_
    | (dsimp only
       rw[if_neg (by rw[hsame];exact fN)])
  refine aH (m:=Builtin.List.listAllItems (.ref b) "must assign iterable to extended slice") ?_;unfold Builtin.List.listAllItems;refine aH (Ma hb.typeIs ?_)
  first
    |refine W.KFB.if_so (by decide) ?_
    |rw[if_pos (by decide)]
    |simp only[Sk,Bool.true_or,if_true]
  unfold Builtin.List.listItems;refine aH (kR e2 rfl (qaB ?_));refine aH (aH (kR e rfl (qaB ?_)));refine aH (Um ((sliceIndices_raw (some (a:Int)) (some (c:Int)) none items.size (by simp)).trans (congrArg (pure:Int×Int×Int->Sem (Int×Int×Int)) (zmI hac hc))) ?_);show AG _ _ (if((1:Int)==1)=true then _ else _) _ _ s;rw[if_pos (by decide)];refine aH (Dq ?_)
  first
    |simp only[Nf hsz,lJ,cX]
    |refine Oo (Nf hsz) ?_
  first|refine aH (qaB ?_)|skip
  show AG _ _ (updateSeq l (λxs=>xs.extract 0 ((a:Int)).toNat++new++xs.extract (max (a:Int) ((min c items.size:Nat):Int)).toNat xs.size)>>=_) _ _ s;rw[hmax,Bf];refine aH (Ql (hz:=bE (Nat.le_add_right _ _) hsz) (_hz':=hz') e rfl ?_);refine aH (zW ?_)
  first
    |exact aH (qaB (qaB ⟨.none,rfl,qaB h⟩))
    |exact qaB ⟨.none,rfl,qaB h⟩
end
end L2
namespace M
open L2 PySem
variable {C:Prop}{c:Ch}{G G' H:Hp}{a p l:AD}{o:Obj}{xs ys:AA V}{ks:AA (AA Int)}{A A':AA AD}{K:AF}{x v:V}{d:D}{ds es:AA D}{i:Nat}{ls:AA (AA D)}{dk:AB (AA Int×AA D)}{t:T}{ov:AB (AB V)}{s:Sl}{X:Cx}{e:AI}{m:MO}{ρ ρ':R}{b:Bool}{f:D->D->AB D}{ma:ME}{op:Operator}{r:V->Hp->VK->Prop}{g:D->AB D}
theorem aP {α β:Type}{o:AB α}{f:α->AB β}{b:β}(h:o.bind f=some b)(k:∀a,o=some a->f a=some b->C):C:=by
 cases o with
 |none=>cases h
 |some a=>exact k a rfl h
theorem bD {α α' β:Type}{o:AB (α×α')}{f:α×α'->AB β}{b:β}(h:o.bind f=some b)(k:∀x y,o=some (x,y)->f (x,y)=some b->C):C:=aP h λa=>k a.1 a.2
theorem bQ {α β:Type}{o:AB α}{f:α->β}{b:β}(h:o.map f=some b)(k:∀a,o=some a->f a=b->C):C:=by
 cases o with
 |none=>cases h
 |some a=>exact k a rfl (Option.some.inj h)
theorem jA {α α' β:Type}{o:AB (α×α')}{f:α×α'->β}{b:β}(h:o.map f=some b)(k:∀x y,o=some (x,y)->f (x,y)=b->C):C:=bQ h λa=>k a.1 a.2
theorem aI {α:Type}{a:α}(h:none=some a):C:=by cases h
theorem bK {α β:Type}{a c:α}{b d:β}(h:some (a,b)=some (c,d)):a=c/\b=d:=by cases h;exact⟨rfl,rfl⟩
theorem aY {α:Type}{c:Prop}[Decidable c]{a:AB α}{b:α}(h:(if c then a else none)=some b)(k:c->a=some b->C):C:=by
 by_cases z:c
 ·rw[if_pos z]at h;exact k z h
 ·rw[if_neg z]at h;exact aI h
inductive D where
 |non|bl (b:Bool)|int (i:Int)|str (x:Str)|lst (ds:List D)|tup (ds:List D)|scr (ns:List Int)|exc (c:Str)|dic (ks:List Int) (ds:List D)|dit (ks:List (List Int)) (ds:List D)|obj (c:Str) (ns:List Str) (ls:List D) (ks:List Int) (ds:List D)
def We (a C:AD)(h:AK):Prop:=∃o,h.get? a=some o/\o.cls= .ref C
def kI (n:Int):cO:=Sum.inl n
def kn (a:AD)(o:Obj):HO:= .ext (λh=>h.get? a=some o)
def hI:cO->Int
 | .inl k=>hashInt k
 | .inr _=>0
def DtN (o:Obj)(xs:AA (AA cO×AD×AC)):Prop:=o.ExactDict/\(∃es ep,o.data= .dict es ep/\es.toList=xs.map λx=>⟨reduceHash (Builtin.Tuple.tupleHashOf (x.1.map hI)),.ref x.2.1,x.2.2⟩)/\(xs.map (·.1)).Nodup
structure DtI (G:Hp)(a:Addr)(o:Obj)(xs:List (List cO×Addr×Value))(ks:List (List Int))(ys:List (List cO×V)):Prop where
 sys:(a==sysModules)=false
 dn:DtN o xs
 len:ys.length<=sizeLine
 key:ys.map (·.1)=ks.map (·.map kI)
 kt:Paired (λ(p:List cO×V) (q:List cO×Addr×Value)=>p.1=q.1/\G q.2.1=some (.tup (p.1.map kV))/\RelV p.2 q.2.2) ys xs
structure DkN (a:Addr)(o:Obj)(zs:List (Int×Tok×Value))(ks:List Int)(ys:List (cO×V)):Prop where
 sys:(a==sysModules)=false
 ex:o.ExactDict
 dat:∃es ep,o.data= .dict es ep/\es.toList=zs.map λz=>⟨hashInt z.1,.int z.1 z.2.1,z.2.2⟩
 nd:ks.Nodup
 len:ys.length<=sizeLine
 zk:zs.map (·.1)=ks
 key:ys.map (·.1)=ks.map kI
 kv:Paired (λ(p:cO×V) (q:Int×Tok×Value)=>p.1=kI q.1/\RelV p.2 q.2.2) ys zs
mutual
def RepD (K:W.Frag)(G:Hp)(v:V):D->Prop
 | .non=>v= .non
 | .bl b=>v= .bl b
 | .int i=>v= .int i
 | .str x=>v= .str x
 | .lst ds=>∃a xs,v= .ref a/\G a=some (.lst xs)/\RepL K G xs ds
 | .tup ds=>∃a xs,v= .ref a/\G a=some (.tup xs)/\RepL K G xs ds
 | .scr ns=>∃a,v= .ref a/\SqL K G a (ns.map V.int)
 | .exc c=>∃a C,v= .ref a/\W.nsIn K mainGlobals c=some (some (.ref C))/\G a=some (.ext (We a C))
 | .dic ks ds=>∃a ys,v= .ref a/\Rd G a (.dK ys)/\ys.map (·.1)=ks.map kI/\RepL K G (ys.map (·.2)) ds
 | .dit ks ds=>∃a ys o xs,v= .ref a/\G a=some (kn a o)/\DtI G a o xs ks ys/\RepL K G (ys.map (·.2)) ds
 | .obj c ns ls ks ds=>∃a C dx vs ws p o zs ys,v= .ref a/\W.nsIn K mainGlobals c=some (some (.ref C))/\G a=some (.ins C dx vs)/\vs.map (·.1)=ns/\vs.map (·.2)=ws++[.ref p]/\RepL K G ws ls/\G p=some (kn p o)/\DkN p o zs ks ys/\RepL K G (ys.map (·.2)) ds
def RepL (K:W.Frag)(G:Hp)(xs:List V):List D->Prop
 |[]=>xs=[]
 |d::ds=>∃x ys,xs=x::ys/\RepD K G x d/\RepL K G ys ds
end
def Fz (G H:Hp):Prop:=∀a o,G a=some o->H a=some o
theorem DtI.mono {xs:AA (AA cO×AD×AC)}{ys:AA (AA cO×V)}(d:DtI G a o xs ks ys)(h:Fz G G'):DtI G' a o xs ks ys:={d with kt:=Paired.mapP d.kt λ_ _ z=>⟨z.1,h _ _ z.2.1,z.2.2⟩}
theorem Fz.refl (G:Hp):Fz G G:=λ_ _ h=>h
theorem Fz.trans {A B C:Hp}(h:Fz A B)(k:Fz B C):Fz A C:=λa o e=>k a o (h a o e)
theorem Fz.free (h:Fz G H)(e:H p=none):G p=none:=by
 cases q:G p with
 |none=>rfl
 |some o=>rw[h p o q]at e;cases e
theorem Fz.new (e:G p=none)(o:HO):Fz G (upd G p o):=λa u q=>by
 rw[aV (lF q e)];exact q
theorem Fz.upd2 (h:Fz G H)(p:AD)(o:HO):Fz (upd G p o) (upd H p o):=λa u q=>by
 by_cases e:a=p
 ·subst e;rw[cT]at q ⊢;exact q
 ·rw[aV e]at q ⊢;exact h a u q
theorem Fz.right (h:Fz G H)(e:G p=none)(o:HO):Fz G (upd H p o):=λa u q=>by
 rw[aV (lF q e)];exact h a u q
theorem Fz.sql {G H:Hp}(h:Fz G H)(q:SqL K G a xs):SqL K H a xs:=Same.seq (H:=G) (H':=H) h q
mutual
theorem RepD.mono (h:Fz G G'):∀{v:V} {d:D},RepD K G v d->RepD K G' v d:=by
 intro v d r;cases d with
 |lst _=>exact fI (λa=>fI λxs=>And.imp id (And.imp (h a _) (RepL.mono h))) r
 |tup _=>exact fI (λa=>fI λxs=>And.imp id (And.imp (h a _) (RepL.mono h))) r
 |scr _=>exact fI (λa=>And.imp id h.sql) r
 |exc _=>exact fI (λa=>fI λC=>And.imp id (And.imp id (h a _))) r
 |dic _ _=>exact fI (λa=>fI λys=>And.imp id (And.imp (Or.imp (h a _) (fI λo=>h a _)) (And.imp id (RepL.mono h)))) r
 |dit _ _=>exact fI (λa=>fI λys=>fI λo=>fI λxs=>And.imp id (And.imp (h a _) (And.imp (λf=>f.mono h) (RepL.mono h)))) r
 |obj _ _ _ _ _=>exact fI (λa=>fI λC=>fI λdx=>fI λvs=>fI λws=>fI λp=>fI λo=>fI λzs=>fI λys=>And.imp id (And.imp id (And.imp (h a _) (And.imp id (And.imp id (And.imp (RepL.mono h) (And.imp (h p _) (And.imp id (RepL.mono h))))))))) r
 |_=>exact r
theorem RepL.mono (h:Fz G G'):∀{xs:List V} {ds:List D},RepL K G xs ds->RepL K G' xs ds:=by
 intro xs ds r;cases ds with
 |nil=>exact r
 |cons _ _=>exact fI (λx=>fI λys=>And.imp id (And.imp (RepD.mono h) (RepL.mono h))) r
end
section
variable {K:AF}{G:Hp}
theorem RepL.nil:RepL K G [] []:=rfl
theorem RepL.cons {x:V}{d:D}(h:RepD K G x d)(t:RepL K G xs ds):RepL K G (x::xs) (d::ds):=⟨x,xs,rfl,h,t⟩
theorem RepL.length:∀{xs:AA V} {ds:AA D},RepL K G xs ds->xs.length=ds.length
 |_,[],e=>by cases e;rfl
 |_,_::_,⟨x,ys,e,_,r⟩=>by subst e;rw[eH,eH,RepL.length r]
theorem RepL.get:∀{xs:AA V} {ds:AA D} {i:Nat} {d:D},RepL K G xs ds->ds[i]? =some d->∃x,xs[i]? =some x/\RepD K G x d
 |_,[],_,_,_,h=>by simp at h
 |_,_::_,0,_,⟨x,ys,e,q,r⟩,h=>by subst e;simp at h;subst h;exact⟨x,rfl,q⟩
 |_,_::_,i+1,_,⟨x,ys,e,q,r⟩,h=>by
  subst e;obtain⟨y,h1,h2⟩:=RepL.get (i:=i) r (~~~h);exact⟨y,~~~h1,h2⟩
theorem RepL.append:∀{xs ys:AA V} {ds es:AA D},RepL K G xs ds->RepL K G ys es->RepL K G (xs++ys) (ds++es)
 |_,_,[],_,e,r=>by cases e;exact r
 |_,_,_::_,_,⟨x,zs,e,q,r⟩,s=>by subst e;exact⟨x,zs++_,rfl,q,RepL.append r s⟩
theorem RepL.snoc (h:RepL K G xs ds)(q:RepD K G x d):RepL K G (xs++[x]) (ds++[d]):=h.append (.cons q .nil)
theorem RepL.take:∀{xs:AA V} {ds:AA D} (n:Nat),RepL K G xs ds->RepL K G (xs.take n) (ds.take n)
 |_,_,0,_=>by simp;exact .nil
 |_,[],n+1,e=>by cases e;exact .nil
 |_,_::_,n+1,⟨x,zs,e,q,r⟩=>by subst e;exact⟨x,zs.take n,rfl,q,RepL.take n r⟩
theorem RepL.drop:∀{xs:AA V} {ds:AA D} (n:Nat),RepL K G xs ds->RepL K G (xs.drop n) (ds.drop n)
 |_,_,0,r=> ~~~r
 |_,[],n+1,e=>by cases e;exact .nil
 |_,_::_,n+1,⟨x,zs,e,q,r⟩=>by subst e;exact RepL.drop n r
theorem RepL.set:∀{xs:AA V} {ds:AA D} (i:Nat) {x:V} {d:D},RepL K G xs ds->RepD K G x d->RepL K G (xs.set i x) (ds.set i d)
 |_,[],_,_,_,e,_=>by cases e;exact .nil
 |_,_::_,0,_,_,⟨x,zs,e,q,r⟩,h=>by subst e;exact⟨_,zs,rfl,h,r⟩
 |_,_::_,i+1,_,_,⟨x,zs,e,q,r⟩,h=>by subst e;exact⟨x,_,rfl,q,RepL.set i r h⟩
theorem RepL.rep (h:RepL K G xs ds):∀k:Nat,RepL K G (List.replicate k xs).flatten (List.replicate k ds).flatten
 |0=> .nil
 |k+1=>by rw[Et,Et,Nd,Nd];exact h.append (RepL.rep h k)
theorem RepL.ints:∀(ns:AA Int),RepL K G (ns.map V.int) (ns.map D.int)
 |[]=> .nil
 |n::ns=>⟨.int n,ns.map V.int,rfl,rfl,RepL.ints ns⟩
theorem RepL.ints_eq:∀{ns:AA Int} {xs:AA V},RepL K G xs (ns.map D.int)->xs=ns.map V.int
 |[],_,e=>e
 |n::ns,_,⟨x,ys,e,q,r⟩=>by subst e;cases(show x=V.int n from q);rw[RepL.ints_eq r];rfl
theorem RepL.at {i:Int}(h:RepL K G xs ds)(e:atI ds i=some d):∃x,atI xs i=some x/\RepD K G x d:=by
 unfold atI at e ⊢;rw[h.length];cases q:eU ds.length i with
 |none=>rw[q]at e;exact aI e
 |some j=>rw[q]at e;exact h.get e
end
inductive Ch where
 |d (x:D)|l (xs:List D)|t (xss:List (List D))
inductive T where
 |lst (cs:List Ch)|tup (cs:List Ch)|ins (c:Str) (fs:List (Str×Ch))|dic (ks:List Int) (ds:List D)|dit (ks:List (List Int)) (ds:List D)|obj (c:Str) (ns:List Str) (ls:List (List D)) (dk:Option (List Int×List D))
inductive Sl where
 |emp|val (d:D)|own (ds:List D)|par (ds:List D)|two (ds es:List D)|tre (t:T)|ptr (t:T)
abbrev R:=AA Sl
def Sl.items:Sl->AB (AA D)
 | .own ds=>some ds
 | .par ds=>some ds
 |_=>none
structure Bs where
 G:Hp
 H:Hp
 O:List (Nat×Addr)
def RepTb (K:AF)(G H:Hp):AA V->AA (AA D)->AA AD->Prop
 |[],[],A=>A=[]
 |x::xs,ds::dss,A=>∃r ys A2,x= .ref r/\H r=some (.lst ys)/\RepL K G ys ds/\RepTb K G H xs dss A2/\A=r::A2
 |_,_,_=>False
def RepC (K:AF)(G H:Hp)(x:V):Ch->AA AD->Prop
 | .d y,A=>RepD K G x y/\A=[]
 | .l ds,A=>∃l xs,x= .ref l/\H l=some (.lst xs)/\RepL K G xs ds/\A=[l]
 | .t xss,A=>∃p xs A',x= .ref p/\H p=some (.lst xs)/\RepTb K G H xs xss A'/\A=p::A'
def RepCs (K:AF)(G H:Hp):AA V->AA Ch->AA AD->Prop
 |[],[],A=>A=[]
 |x::xs,c::cs,A=>∃A1 A2,RepC K G H x c A1/\RepCs K G H xs cs A2/\A=A1++A2
 |_,_,_=>False
def RepO (K:AF)(G H:Hp)(xs:AA V)(ls:AA (AA D)):AB (AA Int×AA D)->AA AD->Prop
 |none,A=>RepTb K G H xs ls A
 |some q,A=>∃ws p o zs ys A',xs=ws++[.ref p]/\RepTb K G H ws ls A'/\H p=some (kn p o)/\DkN p o zs q.1 ys/\RepL K G (ys.map (·.2)) q.2/\A=A'++[p]
def RepT (K:AF)(G H:Hp)(v:V):T->AA AD->Prop
 | .lst cs,A=>∃p xs A',v= .ref p/\H p=some (.lst xs)/\RepCs K G H xs cs A'/\A=p::A'
 | .tup cs,A=>∃p xs A',v= .ref p/\H p=some (.tup xs)/\RepCs K G H xs cs A'/\A=p::A'
 | .ins c fs,A=>∃p C dx vs A',v= .ref p/\W.nsIn K AL c=some (some (.ref C))/\H p=some (.ins C dx vs)/\H dx=some (.own p)/\vs.map (·.1)=fs.map (·.1)/\RepCs K G H (vs.map (·.2)) (fs.map (·.2)) A'/\A=p::dx::A'
 | .dic ks ds,A=>∃p ys,v= .ref p/\H p=some (.dK ys)/\ys.map (·.1)=ks.map kI/\RepL K G (ys.map (·.2)) ds/\A=[p]
 | .dit ks ds,A=>∃p ys o xs,v= .ref p/\H p=some (kn p o)/\DtI G p o xs ks ys/\RepL K G (ys.map (·.2)) ds/\A=[p]
 | .obj c ns ls dk,A=>∃p C dx vs A',v= .ref p/\W.nsIn K AL c=some (some (.ref C))/\H p=some (.ins C dx vs)/\H dx=some (.own p)/\vs.map (·.1)=ns/\RepO K G H (vs.map (·.2)) ls dk A'/\A=p::dx::A'
section
variable {K:AF}{G G' H H':Hp}
theorem RepTb.move:∀{xs:AA V} {dss:AA (AA D)} {A:AA AD},RepTb K G H xs dss A->Fz G G'->(∀a∈A,H' a=H a)->RepTb K G' H' xs dss A
 |[],[],_,h,_,_=>h
 |x::xs,ds::dss,A,⟨r,ys,A2,e1,e2,e3,e4,e5⟩,hg,hh=>⟨r,ys,A2,e1,by rw[hh r (by rw[e5];simp)];exact e2,e3.mono hg,e4.move hg λa m=>hh a (by rw[e5];simp[m]),e5⟩
 |[],_::_,_,h,_,_=>h.elim
 |_::_,[],_,h,_,_=>h.elim
theorem RepTb.det:∀{xs:AA V} {dss:AA (AA D)} {A A':AA AD},RepTb K G H xs dss A->RepTb K G' H' xs dss A'->A=A'
 |[],[],_,_,h,h'=>by rw[show _=[]from h,show _=[]from h']
 |x::xs,ds::dss,_,_,⟨r,ys,A2,e1,_,_,e4,e5⟩,⟨r',ys',A2',e1',_,_,e4',e5'⟩=>by
  rw[e1]at e1';cases e1';rw[e5,e5',e4.det e4']
 |[],_::_,_,_,h,_=>h.elim
 |_::_,[],_,_,h,_=>h.elim
theorem RepTb.here:∀{xs:AA V} {dss:AA (AA D)} {A:AA AD},RepTb K G H xs dss A->∀{a:AD},a∈A->∃xs,H a=some (.lst xs)
 |[],[],_,h,a,m=>by rw[show _=[]from h]at m;cases m
 |x::xs,ds::dss,_,⟨r,ys,A2,e1,e2,_,e4,e5⟩,a,m=>by
  rw[e5]at m;rcases qap.mp m with rfl|m
  ·exact⟨ys,e2⟩
  ·exact e4.here m
 |[],_::_,_,h,_,_=>h.elim
 |_::_,[],_,h,_,_=>h.elim
theorem RepO.move (h:RepO K G H xs ls dk A)(hg:Fz G G')(hh:∀a∈A,H' a=H a):RepO K G' H' xs ls dk A:=by
 cases dk with
 |none=>exact RepTb.move h hg hh
 |some q=>
  obtain⟨ws,p,o,zs,ys,A',e,r,q1,q2,q3,rfl⟩:=h;exact⟨ws,p,o,zs,ys,A',e,r.move hg λa m=>hh a (by simp[m]),by rw[hh p (by simp)];exact q1,q2,q3.mono hg,rfl⟩
theorem RepO.det (h:RepO K G H xs ls dk A)(h':RepO K G' H' xs ls dk A'):A=A':=by
 cases dk with
 |none=>exact RepTb.det h h'
 |some q=>
  obtain⟨ws,p,_,_,ys,B,e,r,_,_,_,rfl⟩:=h;obtain⟨ws',p',_,_,ys',B',e',r',_,_,_,rfl⟩:=h';rw[e]at e';obtain⟨rfl,q2⟩:=List.append_inj' e' rfl;cases q2;rw[r.det r']
theorem RepO.here (h:RepO K G H xs ls dk A)(m:a∈A):(∃xs,H a=some (.lst xs))\/∃o,H a=some (kn a o):=by
 cases dk with
 |none=>exact .inl (RepTb.here h m)
 |some q=>
  obtain⟨ws,p,o,zs,ys,B,e,r,q1,_,_,rfl⟩:=h;rcases qaq.mp m with m|m
  ·exact .inl (r.here m)
  ·simp at m;subst m;exact .inr ⟨o,q1⟩
theorem RepC.move (h:RepC K G H x c A)(hg:Fz G G')(hh:∀a∈A,H' a=H a):RepC K G' H' x c A:=by
 cases c with
 |d y=>exact⟨h.1.mono hg,h.2⟩
 |l ds=>obtain⟨l,xs,e,q,r,rfl⟩:=h;exact⟨l,xs,e,by rw[hh l (by simp)];exact q,r.mono hg,rfl⟩
 |t xss=>obtain⟨p,xs,A',e,q,r,rfl⟩:=h;exact⟨p,xs,A',e,by rw[hh p (by simp)];exact q,r.move hg λa m=>hh a (by simp[m]),rfl⟩
theorem RepCs.move:∀{xs:AA V} {cs:AA Ch} {A:AA AD},RepCs K G H xs cs A->Fz G G'->(∀a∈A,H' a=H a)->RepCs K G' H' xs cs A
 |[],[],_,h,_,_=>h
 |x::xs,c::cs,A,⟨A1,A2,h1,h2,e⟩,hg,hh=>⟨A1,A2,h1.move hg λa m=>hh a (by rw[e];exact kH _ m),h2.move hg λa m=>hh a (by rw[e];exact dQ _ m),e⟩
 |[],_::_,_,h,_,_=>h.elim
 |_::_,[],_,h,_,_=>h.elim
theorem RepT.move (h:RepT K G H v t A)(hg:Fz G G')(hh:∀a∈A,H' a=H a):RepT K G' H' v t A:=by
 cases t with
 |lst cs=>obtain⟨p,xs,A',e,q,r,rfl⟩:=h;exact⟨p,xs,A',e,by rw[hh p (by simp)];exact q,r.move hg λa m=>hh a (by simp[m]),rfl⟩
 |tup cs=>obtain⟨p,xs,A',e,q,r,rfl⟩:=h;exact⟨p,xs,A',e,by rw[hh p (by simp)];exact q,r.move hg λa m=>hh a (by simp[m]),rfl⟩
 |ins c fs=>obtain⟨p,C,dx,vs,A',e,n,q,q2,f,r,rfl⟩:=h;exact⟨p,C,dx,vs,A',e,n,by rw[hh p (by simp)];exact q,by rw[hh dx (by simp)];exact q2,f,r.move hg λa m=>hh a (by simp[m]),rfl⟩
 |dic ks ds=>obtain⟨p,ys,e,q,f,r,rfl⟩:=h;exact⟨p,ys,e,by rw[hh p (by simp)];exact q,f,r.mono hg,rfl⟩
 |dit ks ds=>obtain⟨p,ys,o,xs,e,q,f,r,rfl⟩:=h;exact⟨p,ys,o,xs,e,by rw[hh p (by simp)];exact q,f.mono hg,r.mono hg,rfl⟩
 |obj c ns ls dk=>obtain⟨p,C,dx,vs,A',e,n,q,q2,f,r,rfl⟩:=h;exact⟨p,C,dx,vs,A',e,n,by rw[hh p (by simp)];exact q,by rw[hh dx (by simp)];exact q2,f,r.move hg λa m=>hh a (by simp[m]),rfl⟩
theorem RepC.det (h:RepC K G H x c A)(h':RepC K G' H' x c A')(hh:∀a∈A,H' a=H a):A=A':=by
 cases c with
 |d y=>rw[h.2,h'.2]
 |l ds=>obtain⟨l,xs,e,_,_,rfl⟩:=h;obtain⟨l',xs',e',_,_,rfl⟩:=h';rw[e]at e';cases e';rfl
 |t xss=>
  obtain⟨p,xs,B,e,q,r,rfl⟩:=h;obtain⟨p',xs',B',e',q',r',rfl⟩:=h';rw[e]at e';cases e';rw[hh p (by simp),q]at q';cases q';rw[r.det r']
theorem RepCs.det:∀{xs:AA V} {cs:AA Ch} {A A':AA AD},RepCs K G H xs cs A->RepCs K G' H' xs cs A'->(∀a∈A,H' a=H a)->A=A'
 |[],[],_,_,h,h',_=>by rw[show _=[]from h,show _=[]from h']
 |x::xs,c::cs,_,_,⟨A1,A2,h1,h2,e⟩,⟨B1,B2,k1,k2,e'⟩,hh=>by rw[e,e',h1.det k1 λa m=>hh a (by rw[e];exact kH _ m),h2.det k2 λa m=>hh a (by rw[e];exact dQ _ m)]
 |[],_::_,_,_,h,_,_=>h.elim
 |_::_,[],_,_,h,_,_=>h.elim
theorem RepT.det (h:RepT K G H v t A)(h':RepT K G' H' v t A')(hh:∀a∈A,H' a=H a):A=A':=by
 cases t with
 |lst cs=>
  obtain⟨p,xs,B,e,q,r,rfl⟩:=h;obtain⟨p',xs',B',e',q',r',rfl⟩:=h';rw[e]at e';cases e';rw[hh p (by simp),q]at q';cases q';rw[r.det r' λa m=>hh a (by simp[m])]
 |tup cs=>
  obtain⟨p,xs,B,e,q,r,rfl⟩:=h;obtain⟨p',xs',B',e',q',r',rfl⟩:=h';rw[e]at e';cases e';rw[hh p (by simp),q]at q';cases q';rw[r.det r' λa m=>hh a (by simp[m])]
 |ins c fs=>
  obtain⟨p,C,dx,vs,B,e,n,q,q2,f,r,rfl⟩:=h;obtain⟨p',C',dx',vs',B',e',n',q',q2',f',r',rfl⟩:=h';rw[e]at e';cases e';rw[hh p (by simp),q]at q';cases q';rw[r.det r' λa m=>hh a (by simp[m])]
 |dic ks ds=>obtain⟨p,ys,e,q,f,r,rfl⟩:=h;obtain⟨p',ys',e',q',f',r',rfl⟩:=h';rw[e]at e';cases e';rfl
 |dit ks ds=>obtain⟨p,ys,o,xs,e,q,f,r,rfl⟩:=h;obtain⟨p',ys',o',xs',e',q',f',r',rfl⟩:=h';rw[e]at e';cases e';rfl
 |obj c ns ls dk=>
  obtain⟨p,C,dx,vs,B,e,n,q,q2,f,r,rfl⟩:=h;obtain⟨p',C',dx',vs',B',e',n',q',q2',f',r',rfl⟩:=h';rw[e]at e';cases e';rw[hh p (by simp),q]at q';cases q';rw[r.det r']
theorem RepC.here (h:RepC K G H x c A)(m:a∈A):∃xs,H a=some (.lst xs):=by
 cases c with
 |d y=>rw[h.2]at m;cases m
 |l ds=>obtain⟨l,xs,_,q,_,rfl⟩:=h;simp at m;subst m;exact⟨xs,q⟩
 |t xss=>
  obtain⟨p,xs,A',_,q,r,rfl⟩:=h;rcases qap.mp m with rfl|m
  ·exact⟨xs,q⟩
  ·exact r.here m
theorem RepCs.here:∀{xs:AA V} {cs:AA Ch} {A:AA AD},RepCs K G H xs cs A->∀{a:AD},a∈A->∃xs,H a=some (.lst xs)
 |[],[],_,h,a,m=>by rw[show _=[]from h]at m;cases m
 |x::xs,c::cs,_,⟨A1,A2,h1,h2,e⟩,a,m=>by
  rw[e]at m;rcases qaq.mp m with m|m
  ·exact h1.here m
  ·exact h2.here m
 |[],_::_,_,h,_,_=>h.elim
 |_::_,[],_,h,_,_=>h.elim
theorem RepT.here (h:RepT K G H v t A)(m:a∈A):H a≠none:=by
 cases t with
 |lst cs=>
  obtain⟨p,xs,B,e,q,r,rfl⟩:=h;rcases qap.mp m with rfl|m
  ·rw[q];simp
  ·obtain⟨ys,z⟩:=r.here m;rw[z];simp
 |tup cs=>
  obtain⟨p,xs,B,e,q,r,rfl⟩:=h;rcases qap.mp m with rfl|m
  ·rw[q];simp
  ·obtain⟨ys,z⟩:=r.here m;rw[z];simp
 |ins c fs=>
  obtain⟨p,C,dx,vs,B,e,n,q,q2,f,r,rfl⟩:=h;rcases qap.mp m with rfl|m
  ·rw[q];simp
  rcases qap.mp m with rfl|m
  ·rw[q2];simp
  ·obtain⟨ys,z⟩:=r.here m;rw[z];simp
 |dic ks ds=>obtain⟨p,ys,e,q,f,r,rfl⟩:=h;simp at m;subst m;rw[q];simp
 |dit ks ds=>obtain⟨p,ys,o,xs,e,q,f,r,rfl⟩:=h;simp at m;subst m;rw[q];simp
 |obj c ns ls dk=>
  obtain⟨p,C,dx,vs,B,e,n,q,q2,f,r,rfl⟩:=h;rcases qap.mp m with rfl|m
  ·rw[q];simp
  rcases qap.mp m with rfl|m
  ·rw[q2];simp
  ·rcases r.here m with⟨ys,z⟩|⟨ys,z⟩<;>(rw[z];simp)
end
def T.isObj:T->Bool
 | .obj _ _ _ _=>true
 |_=>false
def SlotOk (K:AF)(B:Bs)(G H:Hp)(i:Nat)(ov:AB (AB V)):Sl->Prop
 | .emp=>True
 | .two _ _=>True
 | .val d=>∃v,ov=some (some v)/\RepD K G v d
 | .own ds=>∃l xs,ov=some (some (.ref l))/\G l=none/\H l=some (.lst xs)/\RepL K G xs ds/\B.H l=none
 | .par ds=>∃l xs,ov=some (some (.ref l))/\G l=none/\H l=some (.lst xs)/\RepL K G xs ds/\(i,l)∈B.O
 | .tre t=>∃v A,ov=some (some v)/\RepT K G H v t A/\A.Nodup/\∀a∈A,G a=none/\B.H a=none
 | .ptr t=>∃v A,ov=some (some v)/\RepT K G H v t A/\(A.Nodup/\∃p,v= .ref p/\(i+4096,p)∈B.O/\(t.isObj=true->(i+8192,p)∈B.O))/\∀a∈A,G a=none/\((i,a)∈B.O\/(B.H a=none/\∃p,v= .ref p/\(i+8192,p)∈B.O))
def Wr (ρ:R)(i:Nat):Prop:=∃s ds,ρ[i]? =some s/\s.items=some ds
def cU (K:AF)(G H:Hp)(ov:AB (AB V))(a:AD):Sl->Prop
 | .own _=>ov=some (some (.ref a))
 | .par _=>ov=some (some (.ref a))
 | .tre t=>∃v A,ov=some (some v)/\RepT K G H v t A/\a∈A
 | .ptr t=>∃v A,ov=some (some v)/\RepT K G H v t A/\a∈A
 |_=>False
def Nw (K:AF)(G H:Hp)(σ:St)(ρ:R)(a:AD):Prop:=∀(i:Nat) (s:Sl),ρ[i]? =some s->¬cU K G H σ[i]? a s
structure SI (K:W.Frag)(B:Bs)(G H:Hp)(σ:St)(ρ:R):Prop where
 fz:Fz G H
 g0:Fz B.G G
 new:∀b o,G b=some o->B.G b≠none\/B.H b=none
 keep:∀b o,B.H b=some o->(∀i,(i,b)∉B.O)->H b=some o
 there:∀b,H b=none->B.H b=none
 len:σ.length=ρ.length
 ob:∀i b,(i,b)∈B.O->B.H b≠none
 slot:∀i s,ρ[i]? =some s->SlotOk K B G H i σ[i]? s
 dis:∀(i j:Nat) (s t:Sl) (a:Addr),i≠j->ρ[i]? =some s->ρ[j]? =some t->cU K G H σ[i]? a s->¬cU K G H σ[j]? a t
section
variable {K:AF}{B:Bs}{G G' H H':Hp}{σ:St}{ρ:R}
theorem SlotOk.own (h:SlotOk K B G H i ov s)(w:cU K G H ov a s):G a=none/\H a≠none/\(B.H a=none\/(i,a)∈B.O):=by
 cases s with
 |emp=>exact w.elim
 |two _ _=>exact w.elim
 |val d=>exact w.elim
 |own ds=>obtain⟨l,xs,e,g,k,r,n⟩:=h;rw[show ov=_ from w]at e;cases e;exact⟨g,by rw[k];simp,.inl n⟩
 |par ds=>obtain⟨l,xs,e,g,k,r,n⟩:=h;rw[show ov=_ from w]at e;cases e;exact⟨g,by rw[k];simp,.inr n⟩
 |tre t=>
  obtain⟨v,A,e,r,nd,f⟩:=h;obtain⟨v',A',e',r',m⟩:=w;rw[e]at e';cases e';rw[<-r.det r' λ_ _=>rfl]at m;exact⟨(f a m).1,r.here m,.inl (f a m).2⟩
 |ptr t=>
  obtain⟨v,A,e,r,nd,f⟩:=h;obtain⟨v',A',e',r',m⟩:=w;rw[e]at e';cases e';rw[<-r.det r' λ_ _=>rfl]at m;exact⟨(f a m).1,r.here m,(f a m).2.elim .inr λz=> .inl z.1⟩
theorem SlotOk.mono (h:SlotOk K B G H i ov s)(hg:Fz G G')(hw:∀a,cU K G H ov a s->G a=none->H a≠none->G' a=none/\H' a=H a):SlotOk K B G' H' i ov s:=by
 have ow:=λa (w:cU K G H ov a s)=>h.own w
 cases s with
 |emp=>trivial
 |two _ _=>trivial
 |val d=>obtain⟨v,e,r⟩:=h;exact⟨v,e,r.mono hg⟩
 |own ds=>
  obtain⟨l,xs,e,g,k,r,n⟩:=h;obtain⟨h1,h2⟩:=hw l e g (by rw[k];simp);exact⟨l,xs,e,h1,h2.trans k,r.mono hg,n⟩
 |par ds=>
  obtain⟨l,xs,e,g,k,r,n⟩:=h;obtain⟨h1,h2⟩:=hw l e g (by rw[k];simp);exact⟨l,xs,e,h1,h2.trans k,r.mono hg,n⟩
 |tre t=>
  obtain⟨v,A,e,r,nd,f⟩:=h;have w:=λa m=>hw a ⟨v,A,e,r,m⟩ (f a m).1 (r.here m)
  exact⟨v,A,e,r.move hg λa m=>(w a m).2,nd,λa m=>⟨(w a m).1,(f a m).2⟩⟩
 |ptr t=>
  obtain⟨v,A,e,r,nd,f⟩:=h;have w:=λa m=>hw a ⟨v,A,e,r,m⟩ (f a m).1 (r.here m)
  exact⟨v,A,e,r.move hg λa m=>(w a m).2,nd,λa m=>⟨(w a m).1,(f a m).2⟩⟩
theorem SlotOk.back (h:SlotOk K B G H i ov s)(hw:∀a,cU K G H ov a s->G a=none->H a≠none->G' a=none/\H' a=H a)(w:cU K G' H' ov a s):cU K G H ov a s:=by
 cases s with
 |emp=>exact w
 |two _ _=>exact w
 |val d=>exact w
 |own ds=>exact w
 |par ds=>exact w
 |tre t=>
  obtain⟨v,A,e,r,nd,f⟩:=h;obtain⟨v',A',e',r',m⟩:=w;rw[e]at e';cases e';have q:=r.det r' λa m=>(hw a ⟨v,A,e,r,m⟩ (f a m).1 (r.here m)).2
  subst q;exact⟨v,A,e,r,m⟩
 |ptr t=>
  obtain⟨v,A,e,r,nd,f⟩:=h;obtain⟨v',A',e',r',m⟩:=w;rw[e]at e';cases e';have q:=r.det r' λa m=>(hw a ⟨v,A,e,r,m⟩ (f a m).1 (r.here m)).2
  subst q;exact⟨v,A,e,r,m⟩
theorem SI.move (I:SI K B G H σ ρ)(fz:Fz G' H')(fg:Fz G G')(new:∀b o,G' b=some o->B.G b≠none\/B.H b=none)(keep:∀b o,B.H b=some o->(∀i,(i,b)∉B.O)->H' b=some o)(there:∀b,H' b=none->B.H b=none)(ow:∀(i:Nat) (s:Sl) (a:AD),ρ[i]? =some s->cU K G H σ[i]? a s->G a=none->H a≠none->G' a=none/\H' a=H a):SI K B G' H' σ ρ where
 fz:=fz
 g0:=I.g0.trans fg
 new:=new
 keep:=keep
 there:=there
 len:=I.len
 ob:=I.ob
 slot:=λi s e=>(I.slot i s e).mono fg λa w g h=>ow i s a e w g h
 dis:=λi j s t a n e1 e2 w1 w2=>I.dis i j s t a n e1 e2 ((I.slot i s e1).back (λa w g h=>ow i s a e1 w g h) w1) ((I.slot j t e2).back (λa w g h=>ow j t a e2 w g h) w2)
theorem SI.chg (I:SI K B G H σ ρ){ov:AB V}{s':Sl}(fz:Fz G' H')(fg:Fz G G')(new:∀b o,G' b=some o->B.G b≠none\/B.H b=none)(keep:∀b o,B.H b=some o->(∀i,(i,b)∉B.O)->H' b=some o)(there:∀b,H' b=none->B.H b=none)(ow:∀(j:Nat) (s:Sl) (a:AD),j≠i->ρ[j]? =some s->cU K G H σ[j]? a s->G a=none->H a≠none->G' a=none/\H' a=H a/\¬cU K G' H' (some ov) a s')(sl:SlotOk K B G' H' i (some ov) s'):SI K B G' H' (σ.set i ov) (ρ.set i s'):=by
 have atI:∀{s},(ρ.set i s')[i]? =some s->s=s'/\(σ.set i ov)[i]? =some ov:=λ{s} e=>by
  rw[Dm,if_pos rfl]at e ⊢
  split at e
  ·rename_i h;cases e;rw[if_pos (by rw[I.len];exact h)];exact⟨rfl,rfl⟩
  ·exact aI e
 have atJ:∀{j s},j≠i->(ρ.set i s')[j]? =some s->ρ[j]? =some s/\(σ.set i ov)[j]? =σ[j]?:=λ{j s} n e=>by
  rw[tG (Ne.symm n)]at e ⊢;exact⟨e,rfl⟩
 refine⟨fz,I.g0.trans fg,new,keep,there,by rw[kM,kM];exact I.len,I.ob,λj s e=>?_,λj k s t a n e1 e2 w1 w2=>?_⟩
 ·by_cases z:j=i
  ·subst z;obtain⟨rfl,q⟩:=atI e;rw[q];exact sl
  ·obtain⟨e1,q⟩:=atJ z e;rw[q];exact(I.slot j s e1).mono fg λa w g h=>⟨(ow j s a z e1 w g h).1,(ow j s a z e1 w g h).2.1⟩
 ·have one:∀j s,j≠i->(ρ.set i s')[j]? =some s->cU K G' H' (σ.set i ov)[j]? a s->ρ[j]? =some s/\cU K G H σ[j]? a s:=λj s z e w=>by
   obtain⟨e1,q⟩:=atJ z e;rw[q]at w;exact⟨e1,(I.slot j s e1).back (λa w g h=>⟨(ow j s a z e1 w g h).1,(ow j s a z e1 w g h).2.1⟩) w⟩
  by_cases z1:j=i
  ·subst z1;obtain⟨rfl,q1⟩:=atI e1;obtain⟨f2,w2⟩:=one k t (Ne.symm n) e2 w2;obtain⟨o1,o2,_⟩:=(I.slot k t f2).own w2;rw[q1]at w1;exact(ow k t a (Ne.symm n) f2 w2 o1 o2).2.2 w1
  ·have p1:=one j s z1 e1 w1
   by_cases z2:k=i
   ·subst z2;obtain⟨rfl,q2⟩:=atI e2;obtain⟨o1,o2,_⟩:=(I.slot j s p1.1).own p1.2;rw[q2]at w2;exact(ow j s a z1 p1.1 p1.2 o1 o2).2.2 w2
   ·have p2:=one k t z2 e2 w2;exact I.dis j k s t a n p1.1 p2.1 p1.2 p2.2
theorem SI.nw (I:SI K B G H σ ρ)(hp:H p=none):Nw K G H σ ρ p:=λi s e w=>((I.slot i s e).own w).2.1 hp
theorem SI.nw_move (I:SI K B G H σ ρ)(n:Nw K G H σ ρ p)(ow:∀(i:Nat) (s:Sl) (a:AD),ρ[i]? =some s->cU K G H σ[i]? a s->G a=none->H a≠none->G' a=none/\H' a=H a):Nw K G' H' σ ρ p:=
 λi s e w=>n i s e ((I.slot i s e).back (λa w g h=>ow i s a e w g h) w)
theorem SI.allocF (I:SI K B G H σ ρ)(hp:H p=none)(o:HO):SI K B (upd G p o) (upd H p o) σ ρ:=
 I.move (I.fz.upd2 p o) (Fz.new (I.fz.free hp) o) (λb u e=>by
  by_cases q:b=p
  ·subst q;exact .inr (I.there b hp)
  ·rw[aV q]at e;exact I.new b u e) (λb u e n=>by
  have q:=I.keep b u e n;rw[aV (lF q hp)];exact q) (λb e=>by
  by_cases q:b=p
  ·subst q;rw[cT]at e;cases e
  ·rw[aV q]at e;exact I.there b e) (λi s a _ _ g h=>by
  have q:a≠p:=λz=>h (by rw[z];exact hp)
  rw[aV q,aV q];exact⟨g,rfl⟩)
theorem SI.allocO (I:SI K B G H σ ρ)(hp:H p=none)(o:HO):SI K B G (upd H p o) σ ρ:=
 I.move (I.fz.right (I.fz.free hp) o) (Fz.refl G) I.new (λb u e n=>by
  have q:=I.keep b u e n;rw[aV (lF q hp)];exact q) (λb e=>by
  by_cases q:b=p
  ·subst q;rw[cT]at e;cases e
  ·rw[aV q]at e;exact I.there b e) (λi s a _ _ g h=>by
  have q:a≠p:=λz=>h (by rw[z];exact hp)
  rw[aV q];exact⟨g,rfl⟩)
theorem SI.frz (I:SI K B G H σ ρ){o:HO}(hl:H l=some o)(hB:B.H l=none)(hn:Nw K G H σ ρ l)(hg:G l=none):SI K B (upd G l o) H σ ρ:=
 I.move (λa u q=>by
  by_cases e:a=l
  ·subst e;rw[cT]at q;cases q;exact hl
  ·rw[aV e]at q;exact I.fz a u q) (Fz.new hg o) (λb u e=>by
  by_cases q:b=l
  ·subst q;exact .inr hB
  ·rw[aV q]at e;exact I.new b u e) I.keep I.there (λi s a e w g _=>by
  refine⟨?_,rfl⟩;rw[aV (λz=>?_)]
  ·exact g
  ·subst z;exact hn i s e w)
theorem SI.set (I:SI K B G H σ ρ)(h:RepD K G v d):SI K B G H (σ.set i (some v)) (ρ.set i (.val d)):=
 I.chg I.fz (Fz.refl G) I.new I.keep I.there (λ_ _ _ _ _ _ g _=>⟨g,rfl,id⟩) ⟨v,rfl,h⟩
theorem SI.setO (I:SI K B G H σ ρ)(hg:G l=none)(hl:H l=some (.lst xs))(h:RepL K G xs ds)(hB:B.H l=none)(hn:Nw K G H σ ρ l):
  SI K B G H (σ.set i (some (.ref l))) (ρ.set i (.own ds)):=
 I.chg I.fz (Fz.refl G) I.new I.keep I.there (λj s a _ e w g _=>⟨g,rfl,λz=>by cases(show some (some (V.ref l))=some (some (.ref a))from z);exact hn j s e w⟩) ⟨l,xs,rfl,hg,hl,h,hB⟩
theorem SI.wr (I:SI K B G H σ ρ)(e:ρ[i]? =some s)(q:s.items=some ds):∃l xs,σ[i]? =some (some (.ref l))/\G l=none/\H l=some (.lst xs)/\RepL K G xs ds:=by
 have h:=I.slot i s e;cases s with
 |emp=>exact aI q
 |two _ _=>exact aI q
 |val d=>exact aI q
 |tre _=>exact aI q
 |ptr _=>exact aI q
 |own es=>cases q;obtain⟨l,xs,h1,h2,h3,h4,_⟩:=h;exact⟨l,xs,h1,h2,h3,h4⟩
 |par es=>cases q;obtain⟨l,xs,h1,h2,h3,h4,_⟩:=h;exact⟨l,xs,h1,h2,h3,h4⟩
def Sl.put (s:Sl)(ds:AA D):Sl:=match s with
 | .own _=> .own ds
 | .par _=> .par ds
 |s=>s
theorem Xw (q:s.items=some ds):cU K G H ov a s↔ov=some (some (.ref a)):=by
 cases s with
 |own _=>exact Iff.rfl
 |par _=>exact Iff.rfl
 |_=>exact aI q
theorem zlo (q:s.items=some ds)(es:AA D):(s.put es).items=some es:=by
 cases s with
 |own _=>rfl
 |par _=>rfl
 |_=>exact aI q
theorem pA {α:Type}{l:AA α}{x:α}(e:l[i]? =some x):l.set i x=l:=by
 obtain⟨h,rfl⟩:=qas.mp e;exact List.set_getElem_self h
theorem SI.chgW (I:SI K B G H σ ρ){i:Nat}(e:ρ[i]? =some s)(q:s.items=some ds)(hl:σ[i]? =some (some (.ref l)))(fz:Fz G' H')(fg:Fz G G')(nw:∀b o,G' b=some o->G b≠none\/H b=none)(kp:∀b o,b≠l->H b=some o->H' b=some o)(gl:G' l=none)(hl':H' l=some (.lst ys))(r:RepL K G' ys es):SI K B G' H' σ (ρ.set i (s.put es)):=by
 obtain⟨l',xs,e1,e2,e3,e4⟩:=I.wr e q;rw[hl]at e1;cases e1;have sl:=I.slot i s e;have nb:∀b o,B.H b=some o->(∀i,(i,b)∉B.O)->b≠l:=λb o h1 h2 z=>by
  subst z;rcases(sl.own ((Xw q).mpr hl)).2.2 with z|z
  ·rw[h1]at z;cases z
  ·exact h2 i z
 have h:=I.chg (i:=i) (ov:=some (.ref l)) (s':=s.put es) (G':=G') (H':=H') fz fg (λb o k=>?_) (λb o k1 k2=>kp b o (nb b o k1 k2) (I.keep b o k1 k2)) (λb k=>?_) (λj t a z ej w g ha=>?_) ?_
 ·rwa[pA hl]at h
 ·rcases nw b o k with h|h
  ·cases q2:G b with
   |none=>exact AH q2 h
   |some u=>exact I.new b u q2
  ·exact .inr (I.there b h)
 ·refine I.there b ?_;cases q2:H b with
  |none=>rfl
  |some u=>
   by_cases z:b=l
   ·subst z;rw[hl']at k;cases k
   ·rw[kp b u z q2]at k;cases k
 ·have na:a≠l:=λw'=>by subst w';exact I.dis j i t s a z ej e w ((Xw q).mpr hl)
  obtain⟨u,hu⟩:=qbW.mp ha;refine⟨?_,(kp a u na hu).trans hu.symm,λz=>na ?_⟩
  ·cases q2:G' a with
   |none=>rfl
   |some u=>
    rcases nw a u q2 with z|z
    ·exact AH g z
    ·exact AH z ha
  ·cases(Xw (zlo q es)).mp z;rfl
 ·cases s with
  |own es'=>obtain⟨l',xs',k1,k2,k3,k4,k5⟩:=sl;rw[hl]at k1;cases k1;exact⟨_,ys,rfl,gl,hl',r,k5⟩
  |par es'=>obtain⟨l',xs',k1,k2,k3,k4,k5⟩:=sl;rw[hl]at k1;cases k1;exact⟨_,ys,rfl,gl,hl',r,k5⟩
  |_=>cases q
theorem SI.write (I:SI K B G H σ ρ)(e:ρ[i]? =some s)(q:s.items=some ds)(hl:σ[i]? =some (some (.ref l)))(h:RepL K G ys es):
  SI K B G (upd H l (.lst ys)) σ (ρ.set i (s.put es)):=by
 obtain⟨l',xs,e1,e2,e3,e4⟩:=I.wr e q;rw[hl]at e1;cases e1;exact I.chgW e q hl (I.fz.right e2 _) (Fz.refl G) (λb o k=> .inl (by rw[k];simp)) (λb o z k=>by rw[aV z];exact k) e2 cT h
theorem SI.freeze (I:SI K B G H σ ρ){i:Nat}(e:ρ[i]? =some (.own ds)):∃l xs,σ[i]? =some (some (.ref l))/\Fz G (upd G l (.lst xs))/\RepD K (upd G l (.lst xs)) (.ref l) (.lst ds)/\
  SI K B (upd G l (.lst xs)) H σ (ρ.set i (.val (.lst ds))):=by
 obtain⟨l,xs,h1,h2,h3,h4,h5⟩:=I.slot i _ e;have fz:=Fz.new h2 (.lst xs);have rep:RepD K (upd G l (.lst xs)) (.ref l) (.lst ds):=⟨l,xs,rfl,cT,h4.mono fz⟩;refine⟨l,xs,h1,fz,rep,?_⟩;have h:=I.chg (i:=i) (ov:=some (.ref l)) (s':= .val (.lst ds)) (G':=upd G l (.lst xs)) (H':=H) (λa u q=>?_) fz (λb u q=>?_) I.keep I.there (λj t a z ej w g _=>⟨?_,rfl,id⟩) ⟨.ref l,rfl,rep⟩
 ·rwa[pA h1]at h
 ·by_cases z:a=l
  ·subst z;rw[cT]at q;cases q;exact h3
  ·rw[aV z]at q;exact I.fz a u q
 ·by_cases z:b=l
  ·subst z;exact .inr h5
  ·rw[aV z]at q;exact I.new b u q
 ·rw[aV (λq=>by subst q;exact I.dis j i t _ a z ej e w h1)];exact g
end
abbrev ME:=R->AB (D×R)
abbrev MO:=R->AB (AA D×R)
abbrev MT:=R->AB (Bool×R)
abbrev MA:=R->AB (AA D×R)
def SEb (X:Cx)(e:AI)(m:ME)(t:TE):Prop:=∀B G H σ ρ d ρ' (Q:VK),SI X.K B G H σ ρ->m ρ=some (d,ρ')->(∀G' H' v,SI X.K B G' H' σ ρ'->Fz G G'->RepD X.K G' v d->Q v H')->t σ H Q
def SE (X:Cx)(e:AI)(m:ME):Prop:=∃t,PE X e t/\SEb X e m t
theorem SE.el {m:ME}(h:SE X e m)(k:∀t,PE X e t->SEb X e m t->C):C:=h.elim λt q=>k t q.1 q.2
def SOb (X:Cx)(e:AI)(m:MO)(t:TE):Prop:=∀B G H σ ρ ds ρ' (Q:VK),SI X.K B G H σ ρ->m ρ=some (ds,ρ')->
  (∀G' H' l xs,SI X.K B G' H' σ ρ'->Fz G G'->G' l=none->H' l=some (.lst xs)->RepL X.K G' xs ds->B.H l=none->Nw X.K G' H' σ ρ' l->Q (.ref l) H')->t σ H Q
def SO (X:Cx)(e:AI)(m:MO):Prop:=∃t,PE X e t/\SOb X e m t
theorem SO.el (h:SO X e m)(k:∀t,PE X e t->SOb X e m t->C):C:=h.elim λt q=>k t q.1 q.2
def Wm (X:Cx)(e:AI)(m:MT)(t:TT):Prop:=∀B G H σ ρ d ρ' (Q:Bool->Hp->Prop),SI X.K B G H σ ρ->m ρ=some (d,ρ')->(∀G' H',SI X.K B G' H' σ ρ'->Fz G G'->Q d H')->t σ H Q
def STt (X:Cx)(e:AI)(m:MT):Prop:=∃t,PT X e t/\Wm X e m t
theorem STt.el {m:MT}(h:STt X e m)(k:∀t,PT X e t->Wm X e m t->C):C:=h.elim λt q=>k t q.1 q.2
def SAb (X:Cx)(es:AA AI)(m:MA)(t:TA):Prop:=∀B G H σ ρ ds ρ' (Q:AA V->Hp->Prop),SI X.K B G H σ ρ->m ρ=some (ds,ρ')->(∀G' H' vs,SI X.K B G' H' σ ρ'->Fz G G'->RepL X.K G' vs ds->Q vs H')->t σ H Q
def SA (X:Cx)(es:AA AI)(m:MA):Prop:=∃t,PA X es t/\SAb X es m t
theorem SA.el {es:AA AI}{m:MA}(h:SA X es m)(k:∀t,PA X es t->SAb X es m t->C):C:=h.elim λt q=>k t q.1 q.2
theorem Ff {B:Bs}{σ:St}(I:SI K B G H σ ρ)(hg:G l=none)(hl:H l=some (.lst xs))(h:RepL K G xs ds)(hB:B.H l=none)(hn:Nw K G H σ ρ l):
  SI K B (upd G l (.lst xs)) H σ ρ/\Fz G (upd G l (.lst xs))/\RepD K (upd G l (.lst xs)) (.ref l) (.lst ds):=
 ⟨I.frz hl hB hn hg,Fz.new hg _,⟨l,xs,rfl,cT,h.mono (Fz.new hg _)⟩⟩
def dZ (m:MO):ME:=λρ=>(m ρ).map λp=>(.lst p.1,p.2)
theorem SO.se (h:SO X e m):SE X e (dZ m):=by
 refine h.el λt p s=>?_
 refine⟨t,p,λB G H σ ρ d ρ' Q I hm k=>?_⟩;unfold dZ at hm;cases q:m ρ with
 |none=>rw[q]at hm;exact aI hm
 |some r=>
  obtain⟨ds,ρ1⟩:=r;rw[q]at hm;exists bK hm;refine s B G H σ ρ ds _ Q I q λG' H' l xs I' fz hg hl hr hB hn=>?_
  obtain⟨I2,f2,r2⟩:=Ff I' hg hl hr hB hn;exact k _ _ _ I2 (fz.trans f2) r2
def eC (d:D):ME:=λρ=>some (d,ρ)
def aA (i:Nat):ME:=λρ=>match ρ[i]? with
 |some (.val d)=>some (d,ρ)
 |some (.own ds)=>some (.lst ds,ρ.set i (.val (.lst ds)))
 |_=>none
section
variable {X:Cx}{pos:Pos}
theorem aD (i:Nat){x:Str}(hN:X.N[i]? =some x:=by rfl)(hv:dJ X.env.scope x:=by trivial)(hd:(x==("__debug__":Str))=false:=by decide)(hcd:(x==("__classdict__":Str))=false:=by decide):SE X (.Name x pos) (aA i):=by
 refine⟨_,eB hN hv hd hcd,λB G H σ ρ d ρ' Q I hm k=>?_⟩;unfold aA at hm;cases e:ρ[i]? with
 |none=>rw[e]at hm;exact aI hm
 |some s=>
  rw[e]at hm;cases s with
  |emp=>exact aI hm
  |two _ _=>exact aI hm
  |tre _=>exact aI hm
  |ptr _=>exact aI hm
  |par ds=>exact aI hm
  |val d'=>
   exists bK hm;obtain⟨v,h1,h2⟩:=I.slot i _ e;exact⟨v,h1,k G H v I (Fz.refl G) h2⟩
  |own ds=>
   exists bK hm;obtain⟨l,xs,h1,f,r,I'⟩:=I.freeze e;exact⟨.ref l,h1,k _ H _ I' f r⟩
theorem aK {i:Int}{j}:SE X (.Constant (.int i) j pos) (eC (.int i)):=⟨_,Ue,λB G H σ ρ d ρ' Q I hm k=>by exists bK hm;exact k G H _ I (Fz.refl G) rfl⟩
theorem Hi {j}:SE X (.Constant (.bool b) j pos) (eC (.bl b)):=⟨_,Rh,λB G H σ ρ d ρ' Q I hm k=>by exists bK hm;exact k G H _ I (Fz.refl G) rfl⟩
theorem qB {j}:SE X (.Constant .none j pos) (eC .non):=⟨_,Hm,λB G H σ ρ d ρ' Q I hm k=>by exists bK hm;exact k G H _ I (Fz.refl G) rfl⟩
theorem sC {x:Str}{j}:SE X (.Constant (.str x) j pos) (eC (.str x)):=⟨_,Eo,λB G H σ ρ d ρ' Q I hm k=>by exists bK hm;exact k G H _ I (Fz.refl G) rfl⟩
end
def aB:MA:=λρ=>some ([],ρ)
def aF (m:ME)(r:MA):MA:=λρ=>(m ρ).bind λp=>(r p.2).map λq=>(p.1::q.1,q.2)
section
variable {X:Cx}{e:AI}{es:AA AI}{m:ME}{r:MA}
theorem aL:SA X [] aB:=⟨_,mS,λB G H σ ρ ds ρ' Q I hm k=>by exists bK hm;exact k G H [] I (Fz.refl G) .nil⟩
theorem aG (h:SE X e m)(hr:SA X es r)(hs:starEach (e::es) X.env=(false,eval e X.env)::starEach es X.env:=by rfl):SA X (e::es) (aF m r):=by
 refine h.el λt p s=>?_
 refine hr.el λu q z=>?_
 refine⟨_,jJ p q hs,λB G H σ ρ ds ρ' Q I hm k=>?_⟩;unfold aF at hm;cases e1:m ρ with
 |none=>rw[e1]at hm;exact aI hm
 |some a=>
  obtain⟨d,ρ1⟩:=a;rw[e1]at hm;cases e2:r ρ1 with
  |none=>simp[e2]at hm
  |some b=>
   obtain⟨es',ρ2⟩:=b;simp only[iT,e2,Em,Option.some.injEq,Prod.mk.injEq]at hm;exists hm;exact s B G H σ ρ d ρ1 _ I e1 λG1 H1 v I1 f1 r1=>z B G1 H1 σ ρ1 es' ρ2 _ I1 e2 λG2 H2 vs I2 f2 r2=>k G2 H2 (v::vs) I2 (f1.trans f2) (.cons (r1.mono f2) r2)
end
def V2 (X:Cx)(r:R2)(f:D->D->AB D):Prop:=∀B G H σ ρ x y a b d (Q:VK),SI X.K B G H σ ρ->RepD X.K G x a->RepD X.K G y b->f a b=some d->(∀G' H' v,SI X.K B G' H' σ ρ->Fz G G'->RepD X.K G' v d->Q v H')->r x y H Q
def V1 (X:Cx)(r:V->Hp->VK->Prop)(f:D->AB D):Prop:=∀B G H σ ρ x a d (Q:VK),SI X.K B G H σ ρ->RepD X.K G x a->f a=some d->(∀G' H' v,SI X.K B G' H' σ ρ->Fz G G'->RepD X.K G' v d->Q v H')->r x H Q
def VC (X:Cx)(r:AA V->Hp->VK->Prop)(f:AA D->AB D):Prop:=∀B G H σ ρ xs ds d (Q:VK),SI X.K B G H σ ρ->RepL X.K G xs ds->f ds=some d->(∀G' H' v,SI X.K B G' H' σ ρ->Fz G G'->RepD X.K G' v d->Q v H')->r xs H Q
def m2 (f:D->D->AB D)(ma mb:ME):ME:=λρ=>(ma ρ).bind λp=>(mb p.2).bind λq=>(f p.1 q.1).map λd=>(d,q.2)
def m1 (f:D->AB D)(ma:ME):ME:=λρ=>(ma ρ).bind λp=>(f p.1).map λd=>(d,p.2)
def mC (f:AA D->AB D)(ma:MA):ME:=λρ=>(ma ρ).bind λp=>(f p.1).map λd=>(d,p.2)
theorem qH {ma mb:ME}(h:m2 f ma mb ρ=some (d,ρ')):∃a ρ1 b,ma ρ=some (a,ρ1)/\mb ρ1=some (b,ρ')/\f a b=some d:=by
 unfold m2 at h;cases e1:ma ρ with
 |none=>rw[e1]at h;exact aI h
 |some p=>
  obtain⟨a,ρ1⟩:=p;rw[e1]at h;cases e2:mb ρ1 with
  |none=>simp[e2]at h
  |some q=>
   obtain⟨b,ρ2⟩:=q;simp only[iT,e2]at h;cases e3:f a b with
   |none=>rw[e3]at h;exact aI h
   |some c=>rw[e3]at h;exists bK h;exact⟨a,ρ1,b,rfl,e2,e3⟩
theorem sH {f:D->AB D}(h:m1 f ma ρ=some (d,ρ')):∃a,ma ρ=some (a,ρ')/\f a=some d:=by
 unfold m1 at h;cases e1:ma ρ with
 |none=>rw[e1]at h;exact aI h
 |some p=>
  obtain⟨a,ρ1⟩:=p;rw[e1]at h;simp only[iT]at h;cases e3:f a with
  |none=>rw[e3]at h;exact aI h
  |some c=>rw[e3]at h;exists bK h;exact⟨a,rfl,e3⟩
theorem Hg {f:AA D->AB D}{ma:MA}(h:mC f ma ρ=some (d,ρ')):∃a,ma ρ=some (a,ρ')/\f a=some d:=by
 unfold mC at h;cases e1:ma ρ with
 |none=>rw[e1]at h;exact aI h
 |some p=>
  obtain⟨a,ρ1⟩:=p;rw[e1]at h;simp only[iT]at h;cases e3:f a with
  |none=>rw[e3]at h;exact aI h
  |some c=>rw[e3]at h;exists bK h;exact⟨a,rfl,e3⟩
section
variable {X:Cx}{a b:AI}{ma mb:ME}{pos:Pos}{f:D->D->AB D}
theorem Ys {r:R2}{ta tb:TE}(hv:V2 X r f)(sa:∀B G H σ ρ d ρ' (Q:VK),SI X.K B G H σ ρ->ma ρ=some (d,ρ')->(∀G' H' v,SI X.K B G' H' σ ρ'->Fz G G'->RepD X.K G' v d->Q v H')->ta σ H Q)(sb:∀B G H σ ρ d ρ' (Q:VK),SI X.K B G H σ ρ->mb ρ=some (d,ρ')->(∀G' H' v,SI X.K B G' H' σ ρ'->Fz G G'->RepD X.K G' v d->Q v H')->tb σ H Q):
  ∀B G H σ ρ d ρ' (Q:VK),SI X.K B G H σ ρ->m2 f ma mb ρ=some (d,ρ')->(∀G' H' v,SI X.K B G' H' σ ρ'->Fz G G'->RepD X.K G' v d->Q v H')->Xy r ta tb σ H Q:=by
 intro B G H σ ρ d ρ' Q I hm k;obtain⟨x,ρ1,y,e1,e2,e3⟩:=qH hm;exact sa B G H σ ρ x ρ1 _ I e1 λG1 H1 v I1 f1 r1=>sb B G1 H1 σ ρ1 y ρ' _ I1 e2 λG2 H2 u I2 f2 r2=>
  hv B G2 H2 σ ρ' v u x y d Q I2 (r1.mono f2) r2 e3 λG3 H3 z I3 f3 r3=>k G3 H3 z I3 (f1.trans (f2.trans f3)) r3
theorem lP {r:R2}(ho:OpR X (binaryOp op) r)(hv:V2 X r f)(ha:SE X a ma)(hb:SE X b mb):SE X (.BinOp a op b pos) (m2 f ma mb):=by
 refine ha.el λta pa sa=>?_
 refine hb.el λtb pb sb=>?_
 exact⟨_,Ek ho pa pb,Ys hv sa sb⟩
theorem Xc {op:CmpOp}{r:R2}(ho:OpR X (compareOp op) r)(hv:V2 X r f)(ha:SE X a ma)(hb:SE X b mb)(hm:behindInMarks op b=false):SE X (.Compare a [op] [b] pos) (m2 f ma mb):=by
 refine ha.el λta pa sa=>?_
 refine hb.el λtb pb sb=>?_
 exact⟨_,vM ho pa pb hm,Ys hv sa sb⟩
theorem Uy {op:UnaryOp}(ho:UnR X (unaryOp op) r)(hv:V1 X r g)(ha:SE X a ma):SE X (.UnaryOp op a pos) (m1 g ma):=by
 refine ha.el λta pa sa=>?_
 refine⟨_,Wt ho pa,λB G H σ ρ d ρ' Q I hm k=>?_⟩;obtain⟨x,e1,e2⟩:=sH hm;exact sa B G H σ ρ x ρ' _ I e1 λG1 H1 v I1 f1 r1=>hv B G1 H1 σ ρ' v x d Q I1 r1 e2 λG2 H2 z I2 f2 r2=>k G2 H2 z I2 (f1.trans f2) r2
theorem Sx {r:R2}(hr:IxR X r)(hv:V2 X r f)(ha:SE X a ma)(hb:SE X b mb)(hs:wF b):SE X (.Subscript a b pos) (m2 f ma mb):=by
 refine ha.el λta pa sa=>?_
 refine hb.el λtb pb sb=>?_
 exact⟨_,Mn hr pa pb hs,Ys hv sa sb⟩
end
section
variable {X:Cx}{x:Str}{p pos:Pos}{e:AI}{es:AA AI}{ma:MA}{id T:String}{r:AA V->Hp->VK->Prop}{f:AA D->AB D}
theorem rA {t:TA}(hv:VC X r f)(sa:∀B G H σ ρ ds ρ' (Q:AA V->Hp->Prop),SI X.K B G H σ ρ->ma ρ=some (ds,ρ')->(∀G' H' vs,SI X.K B G' H' σ ρ'->Fz G G'->RepL X.K G' vs ds->Q vs H')->t σ H Q):
  ∀B G H σ ρ d ρ' (Q:VK),SI X.K B G H σ ρ->mC f ma ρ=some (d,ρ')->(∀G' H' v,SI X.K B G' H' σ ρ'->Fz G G'->RepD X.K G' v d->Q v H')->tCB r t σ H Q:=by
 intro B G H σ ρ d ρ' Q I hm k;obtain⟨ds,e1,e2⟩:=Hg hm;exact sa B G H σ ρ ds ρ' _ I e1 λG1 H1 vs I1 f1 r1=>hv B G1 H1 σ ρ' vs ds d Q I1 r1 e2 λG2 H2 z I2 f2 r2=>k G2 H2 z I2 (f1.trans f2) r2
theorem Bk (hc:iO X (.builtin id) r)(hv:VC X r f)(hb:bootBuiltins x=some (.builtin id))(hm:X.mg x=none)(ha:SA X (e::es) ma)(hg:Gl X x:=by rfl)(hn:x≠"__name__":=by decide)(hdb:(x==("__debug__":Str))=false:=by decide)(he:starEach (e::es) X.env=(false,eval e X.env)::starEach es X.env:=by rfl)(hpl:(backTo pos (starEach es X.env)).any (·.1)=false:=by rfl):SE X (.Call (.Name x p) (e::es) [] pos) (mC f ma):=by
 refine ha.el λt pa sa=>?_
 exact⟨_,zis hc hg hm hb pa hn hdb he hpl,rA hv sa⟩
theorem zlY (hc:iO X (.type T) r)(hv:VC X r f)(hb:bootBuiltins x=some (.type T))(hm:X.mg x=none)(ha:SA X (e::es) ma)(hg:Gl X x:=by rfl)(hn:x≠"__name__":=by decide)(hdb:(x==("__debug__":Str))=false:=by decide)(he:starEach (e::es) X.env=(false,eval e X.env)::starEach es X.env:=by rfl)(hpl:(backTo pos (starEach es X.env)).any (·.1)=false:=by rfl):SE X (.Call (.Name x p) (e::es) [] pos) (mC f ma):=by
 refine ha.el λt pa sa=>?_
 exact⟨_,Zw hc hg hm hb pa hn hdb he hpl,rA hv sa⟩
end
end M
namespace M
open L2 PySem PySem.Spec
open PyProof.Rows hiding St
variable {v:V}{ds cs out:AA D}{p pos pos' q:Pos}{xs vs ys:AA V}{c:Int->Int->Bool}{g:D->R->AB R}{x qual:Str}{d:D}{C:Prop}{X:Cx}{a b e tg it:AI}{ma:MA}{k i j n t:Nat}{K:AF}{G H H' G' Hc Gc:Hp}{us its:AA AC}{u:AC}{A:Around}{B:Bs}{σ σc:St}{ρ ρ':R}{s:Sl}{Q E:AC->AE->Prop}{f:D->R->AB (AB D×R)}{op:CmpOp}{m:MS}{mc:MT}{tgs es ifs:AA AI}{h:AA D->R->AB R}{body:AA Stmt}{l DD:AD}{N ps:AA Str}{fd:FuncData}{env:Env}{scope:Scope}{cl:AA (Str×AD)}{h':AK}{prog:AJ}{w:World}{use:AB (AC->Sem Unit)}{ov:AB (AB V)}{cap:AA Nat}{o:AB D}{O:AA (Nat×AD)}{tg':AD->AE->Hp->AA AD->TG}{tt:AD->AE->Hp->AA AD->TT}{te:AD->AE->Hp->AA AD->TE}{JJ:Hp->Hp->St->R->Prop}{wi:TI}{ns:AA Int}
section
variable {X:Cx}{K:AF}{B:Bs}{G H:Hp}{σ:St}{ρ:R}
theorem SI.lst (I:SI K B G H σ ρ)(h:RepD K G v (.lst ds)):∃a xs,v= .ref a/\H a=some (.lst xs)/\RepL K G xs ds:=by
 obtain⟨a,xs,e,q,r⟩:=h;exact⟨a,xs,e,I.fz a _ q,r⟩
theorem SI.tup (I:SI K B G H σ ρ)(h:RepD K G v (.tup ds)):∃a xs,v= .ref a/\H a=some (.tup xs)/\RepL K G xs ds:=by
 obtain⟨a,xs,e,q,r⟩:=h;exact⟨a,xs,e,I.fz a _ q,r⟩
theorem SI.newT (I:SI K B G H σ ρ){p:AD}(hp:H p=none)(h:RepL K G xs ds):SI K B (upd G p (.tup xs)) (upd H p (.tup xs)) σ ρ/\Fz G (upd G p (.tup xs))/\RepD K (upd G p (.tup xs)) (.ref p) (.tup ds):=
 ⟨I.allocF hp _,Fz.new (I.fz.free hp) _,⟨p,xs,rfl,cT,h.mono (Fz.new (I.fz.free hp) _)⟩⟩
theorem SI.newL (I:SI K B G H σ ρ){p:AD}(hp:H p=none)(h:RepL K G xs ds):SI K B (upd G p (.lst xs)) (upd H p (.lst xs)) σ ρ/\Fz G (upd G p (.lst xs))/\RepD K (upd G p (.lst xs)) (.ref p) (.lst ds):=
 ⟨I.allocF hp _,Fz.new (I.fz.free hp) _,⟨p,xs,rfl,cT,h.mono (Fz.new (I.fz.free hp) _)⟩⟩
end
def hJ (c:Int->Int->Bool)(g:Int->Int->D):D->D->AB D
 | .int i,.int j=>if c i j then some (g i j)else none
 |_,_=>none
theorem znL {g:Int->Int->D}{x y d:D}(h:hJ c g x y=some d)(k:∀i j,x= .int i->y= .int j->c i j=true->g i j=d->C):C:=by
 cases x with
 |int i=>cases y with
  |int j=>exact aY h λz h=>k i j rfl rfl z (Option.some.inj h)
  |_=>exact aI h
 |_=>exact aI h
theorem Bx {C:Int->Int->Prop}{g:Int->Int->Int}(hc:∀i j,c i j=true->C i j):V2 X (rI C λi j=> .int (g i j)) (hJ c λi j=> .int (g i j)):=λB G H σ ρ x y a b d Q I ra rb hf k=>znL hf λi j ea eb h ed=>by
 subst ea eb ed;exact⟨i,j,ra,rb,hc i j h,k G H _ I (Fz.refl G) rfl⟩
theorem zpo {g:Int->Int->Int}:V2 X (tL λi j=> .int (g i j)) (hJ (λ_ _=>true) λi j=> .int (g i j)):=λB G H σ ρ x y a b d Q I ra rb hf k=>znL hf λi j ea eb h ed=>by
 subst ea eb ed;exact⟨i,j,ra,rb,k G H _ I (Fz.refl G) rfl⟩
theorem Ud {g:Int->Int->Bool}:V2 X (tL λi j=> .bl (g i j)) (hJ (λ_ _=>true) λi j=> .bl (g i j)):=λB G H σ ρ x y a b d Q I ra rb hf k=>znL hf λi j ea eb h ed=>by
 subst ea eb ed;exact⟨i,j,ra,rb,k G H _ I (Fz.refl G) rfl⟩
def gE:D->D->AB D:=hJ (λ_ _=>true) λi j=> .int (i-j)
def kJ (j:Int):Bool:=decide (0<j)&&decide (j.natAbs.log2<9000)
theorem oN:OpR X (binaryOp .FloorDiv) (rI (λ_ j=>0<j/\j.natAbs.log2<9000) λi j=> .int (i/j)):=Cs λi j _ _ _ _ _ hc q=>by
 have h1:(0:Int)<j:=hc.1;exact PyProof.Rows.floordiv_int ∅ (by rw[Za i ∅];exact q) (.inl (PyProof.noPylong_of_log2 hc.2))
def uW:D->D->AB D:=hJ (λ_ j=>kJ j) λi j=> .int (i/j)
def dY:D->D->AB D:=hJ (λ_ j=>decide (0<j)) λi j=> .int (i%j)
def eL:D->D->AB D:=hJ (λi j=>decide (0<=j)&&decide (j<=1000000)&&decide (i.natAbs<2^64)) λi j=> .int (i^j.toNat)
def Jc:D->D->AB D:=hJ (λi j=>decide (0<=j)&&decide (j<=1000000)&&decide (i.natAbs<2^64)) λi j=> .int (i*2^j.toNat)
def He:D->D->AB D:=hJ (λ_ j=>decide (0<=j)) λi j=> .int (i/2^j.toNat)
def uJ:D->D->AB D:=hJ (λ_ _=>true) λi j=> .int (Builtin.bitAnd i j)
def pV:D->D->AB D:=hJ (λ_ _=>true) λi j=> .bl (decide (i<j))
def Tt:D->D->AB D:=hJ (λ_ _=>true) λi j=> .bl (decide (j<i))
def Qo:D->D->AB D:=hJ (λ_ _=>true) λi j=> .bl (decide (j<=i))
section
variable {X:Cx}{a b:AI}{ma mb:ME}{pos:Pos}
theorem wU (ha:SE X a ma)(hb:SE X b mb):SE X (.BinOp a .Sub b pos) (m2 gE ma mb):=lP Kr zpo ha hb
theorem mL (ha:SE X a ma)(hb:SE X b mb):SE X (.BinOp a .FloorDiv b pos) (m2 uW ma mb):=lP oN (Bx λi j h=>by simpa[kJ]using h) ha hb
theorem lI (ha:SE X a ma)(hb:SE X b mb):SE X (.BinOp a .Mod b pos) (m2 dY ma mb):=lP Fi (Bx λi j h=> ~~~h) ha hb
theorem lO (ha:SE X a ma)(hb:SE X b mb):SE X (.BinOp a .Pow b pos) (m2 eL ma mb):=lP Jw (Bx λi j h=>by simp only[cV,iN]at h;exact⟨h.1.1,h.1.2,h.2⟩) ha hb
theorem Hd (ha:SE X a ma)(hb:SE X b mb):SE X (.BinOp a .LShift b pos) (m2 Jc ma mb):=lP Fc (Bx λi j h=>by simp only[cV,iN]at h;exact⟨h.1.1,h.1.2,h.2⟩) ha hb
theorem Kb (ha:SE X a ma)(hb:SE X b mb):SE X (.BinOp a .RShift b pos) (m2 He ma mb):=lP Fd (Bx λi j h=> ~~~h) ha hb
theorem zot (ha:SE X a ma)(hb:SE X b mb):SE X (.BinOp a .BitAnd b pos) (m2 uJ ma mb):=lP Ht zpo ha hb
theorem Rk (ha:SE X a ma)(hb:SE X b mb):SE X (.Compare a [.Gt] [b] pos) (m2 Tt ma mb):=Xc Cq Ud ha hb (vS _)
theorem Uh (ha:SE X a ma)(hb:SE X b mb):SE X (.Compare a [.GtE] [b] pos) (m2 Qo ma mb):=Xc Cj Ud ha hb (vS _)
end
def fE:D->AB D
 | .int i=>some (.int (-i))
 |_=>none
theorem uQ {ma:ME}(ha:SE X a ma):SE X (.UnaryOp .USub a pos) (m1 fE ma):=
 Uy Jr (λB G H σ ρ x a d Q I ra hf k=>by
  cases a<;>simp only[fE]at hf<;>try cases hf
  exact⟨_,ra,k G H _ I (Fz.refl G) rfl⟩) ha
def Jv (i j:Int):Bool:=(decide (i.natAbs<2^64)||decide (j.natAbs<2^64))||(decide (i.natAbs<2^4000)&&decide (j.natAbs<2^4000))
def fU:D->D->AB D
 | .int i,.int j=>if Jv i j then some (.int (i*j))else none
 | .lst ds,.int k=>if decide (-1000000<=k)&&decide (k<=1000000)&&decide (ds.length*k.toNat<=1000000)then some (.lst (List.replicate k.toNat ds).flatten)else none
 |_,_=>none
theorem zkg {k:Int}(h:k.natAbs<2^4000):Builtin.Int.intBits k<=4000:=by
 unfold Builtin.Int.intBits
 split
 ·exact gR _
 ·have:k.natAbs.log2<4000:=by
   rcases Nat.eq_zero_or_pos k.natAbs with h0|hp
   ·rw[h0];decide
   ·exact(Vg (Nat.ne_of_gt hp)).mpr h
  lia
theorem pQ {i j:Int}(h:Jv i j=true):IntMulOk i j:=by
 unfold Jv at h;simp only[Bool.or_eq_true,cV,iN]at h;rcases h with(h|h)|⟨h1,h2⟩
 ·exact .of_left (intBits_le_64 ∅ ∅)
 ·exact .of_right (intBits_le_64 ∅ ∅)
 ·have b1:=zkg h1;have b2:=zkg h2;unfold IntMulOk;intro z;simp only[cV]at z;have z2:=z.2;unfold Builtin.Int.intTooBig at z2
  revert z2
  generalize Builtin.Int.intBits i=p at*
  generalize Builtin.Int.intBits j=q at*
  intro z2;have z3:=Ss z2;have hb:=bitsLine_eq;lia
theorem op_mulG:OpR X (binaryOp .Mult) (rI IntMulOk λi j=> .int (i*j)):=Cs λ_ _ _ _ _ _ _ hc q=>mul_int q hc
theorem tT {ma mb:ME}(ha:SE X a ma)(hb:SE X b mb):SE X (.BinOp a .Mult b pos) (m2 fU ma mb):=by
 refine lP (op_mulG.or Gi) (λB G H σ ρ x y a b d Q I ra rb hf k=>?_) ha hb;cases a with
 |int i=>cases b with
  |int j=>
   refine aY hf λh hf=>?_
   obtain rfl:=Option.some.inj hf;exact .inl ⟨i,j,ra,rb,pQ h,k G H _ I (Fz.refl G) rfl⟩
  |_=>exact aI hf
 |lst ds=>cases b with
  |int j=>
   refine aY hf λh hf=>?_
   obtain rfl:=Option.some.inj hf;simp only[cV,iN]at h;obtain⟨a,xs,rfl,ha,r⟩:=I.lst ra;have hl:=r.length;refine .inr ⟨a,j,xs,rfl,rb,ha,∅,∅,by rw[hl,gZ];lia,λp hp=>?_⟩;obtain⟨I2,f2,r2⟩:=I.newL hp (r.rep j.toNat);exact k _ _ _ I2 f2 r2
  |_=>exact aI hf
 |_=>exact aI hf
def bO:D->D->AB D
 | .int i,.int j=>some (.int (i+j))
 | .tup a,.tup b=>if a.length+b.length<=16777216 then some (.tup (a++b))else none
 | .lst a,.lst b=>if a.length+b.length<=16777216 then some (.lst (a++b))else none
 | .str a,.str b=>if a.length+b.length<=16777216 then some (.str (a++b))else none
 |_,_=>none
theorem op_catT0:OpR X (binaryOp .Add) (λx y H Q=>∃a b ys,x= .ref a/\y= .ref b/\SqT X.K H a []/\SqT X.K H b ys/\Q (.ref b) H):=by
 intro AM s σ H x y v u Q I rx ry h;obtain⟨a,b,ys,rfl,rfl,ha,hb,q⟩:=h;cases rx;cases ry;obtain⟨its,r1,p1,_⟩:=I.tuple ha;obtain⟨its2,r2,p2,_⟩:=I.tuple hb;obtain rfl:its=[]:=by cases r1;rfl
 obtain⟨⟨cls,dd,data,sl⟩,ho,hc,n,hd⟩:=id p1;obtain⟨⟨cls2,dd2,data2,sl2⟩,ho2,hc2,n2,hd2⟩:=id p2;simp only at hc hd hc2 hd2;subst hc hd hc2 hd2;exact concat_meets ⟨_,ho,rfl⟩ ⟨_,ho2,rfl⟩ noFill_tuple_add seq_tuple_add qbe qbf (qbg _ _)
   (tuple_addW0 a b _ _ n n2 dd dd2 sl sl2 (by simp)) ⟨ho,ho2,⟨.ref b,H,I,rfl,q⟩⟩
theorem fB {ma mb:ME}(ha:SE X a ma)(hb:SE X b mb):SE X (.BinOp a .Add b pos) (m2 bO ma mb):=by
 refine lP (op_add.or (op_catT.or (op_catT0.or (op_cat.or zoM)))) (λB G H σ ρ x y a b d Q I ra rb hf k=>?_) ha hb;cases a with
 |int i=>cases b with
  |int j=>obtain rfl:=Option.some.inj hf;exact .inl ⟨_,_,ra,rb,k G H _ I (Fz.refl G) rfl⟩
  |_=>exact aI hf
 |str i=>cases b with
  |str j=>
   refine aY hf λh hf=>?_
   obtain rfl:=Option.some.inj hf;exact .inr (.inr (.inr (.inr ⟨i,j,ra,rb,by rw[gZ];exact h,k G H _ I (Fz.refl G) rfl⟩)))
  |_=>exact aI hf
 |lst as=>cases b with
  |lst bs=>
   refine aY hf λh hf=>?_
   obtain rfl:=Option.some.inj hf;obtain⟨a,xs,rfl,ha,r⟩:=I.lst ra;obtain⟨b,ys,rfl,hb,r2⟩:=I.lst rb;refine .inr (.inr (.inr (.inl ⟨a,b,xs,ys,rfl,rfl,ha,hb,by rw[r.length,r2.length,gZ];exact h,λp hp=>?_⟩)));obtain⟨I2,f2,r2⟩:=I.newL hp (r.append r2);exact k _ _ _ I2 f2 r2
  |_=>exact aI hf
 |tup as=>cases b with
  |tup bs=>
   refine aY hf λh hf=>?_
   obtain rfl:=Option.some.inj hf;obtain⟨a,xs,rfl,ha,r⟩:=I.tup ra;obtain⟨b,ys,rfl,hb,r2⟩:=I.tup rb
   by_cases z:xs=[]
   ·subst z;have z':as=[]:=qb2 r.length.symm;subst z';exact .inr (.inr (.inl ⟨a,b,ys,rfl,rfl,SqT.of ha,SqT.of hb,k G H _ I (Fz.refl G) rb⟩))
   ·refine .inr (.inl ⟨a,b,xs,ys,rfl,rfl,SqT.of ha,SqT.of hb,z,by rw[r.length,r2.length,gZ];exact h,λw=>?_,λw p hp=>?_⟩)
    ·subst w;have w':bs=[]:=qb2 r2.length.symm;subst w';rw[lE]at k;exact k G H _ I (Fz.refl G) ra
    ·obtain⟨I2,f2,r2⟩:=I.newT hp (r.append r2);exact k _ _ _ I2 f2 r2
  |_=>exact aI hf
 |_=>exact aI hf
mutual
def bH:D->Bool
 | .scr _=>false
 | .exc _=>false
 | .dic _ _=>false
 | .dit _ _=>false
 | .obj _ _ _ _ _=>false
 | .lst ds=>dH ds
 | .tup ds=>dH ds
 |_=>true
def dH:List D->Bool
 |[]=>true
 |d::ds=>bH d&&dH ds
end
mutual
def fW:D->D->Bool
 | .non,.non=>true
 | .bl a,.bl b=>a==b
 | .int a,.int b=>a==b
 | .str a,.str b=>a==b
 | .bl a,.int b=>(if a then 1 else 0)==b
 | .int a,.bl b=>a==(if b then 1 else 0)
 | .lst a,.lst b=>dD a b
 | .tup a,.tup b=>dD a b
 |_,_=>false
def dD:List D->List D->Bool
 |[],[]=>true
 |a::as,b::bs=>fW a b&&dD as bs
 |_,_=>false
end
theorem Qh:∀{as bs:AA D},as.length≠bs.length->dD as bs=false
 |[],[],h=>AH rfl h
 |[],_::_,_=>rfl
 |_::_,[],_=>rfl
 |a::as,b::bs,h=>by
  have:=Qh (as:=as) (bs:=bs) (λe=>h (by simp[e]));simp[dD,this]
mutual
theorem zkN:∀d,bH d=true->fW d d=true
 | .non,_=>rfl
 | .bl b,_=>by simp[fW]
 | .int b,_=>by simp[fW]
 | .str b,_=>by simp[fW]
 | .lst ds,h=>by simp only[bH]at h;simp only[fW];exact ziy ds h
 | .tup ds,h=>by simp only[bH]at h;simp only[fW];exact ziy ds h
 | .scr _,h=>by simp[bH]at h
 | .exc _,h=>by simp[bH]at h
 |(.dic _ _),h=>by simp[bH]at h
 |(.dit _ _),h=>by simp[bH]at h
 |(.obj _ _ _ _ _),h=>by simp[bH]at h
theorem ziy:∀ds,dH ds=true->dD ds ds=true
 |[],_=>rfl
 |d::ds,h=>by
  simp only[dH,cV]at h;simp only[dD,cV];exact⟨zkN d h.1,ziy ds h.2⟩
end
mutual
def depth:D->Nat
 | .lst ds=>tI ds+1
 | .tup ds=>tI ds+1
 |_=>0
def tI:List D->Nat
 |[]=>0
 |d::ds=>max (depth d) (tI ds)
end
theorem zkf:∀{l:AA D} {i:Nat} {d:D},l[i]? =some d->depth d<=tI l
 |[],_,_,h=>by simp at h
 |c::l,0,d,h=>by simp at h;subst h;simp only[tI];lia
 |c::l,i+1,d,h=>by
  have:=zkf (l:=l) (i:=i) (d:=d) (~~~h);simp only[tI];lia
theorem Sw:∀{l:AA D} {i:Nat} {d:D},l[i]? =some d->dH l=true->bH d=true
 |[],_,_,h,_=>by simp at h
 |c::l,0,d,h,z=>by simp at h;subst h;simp only[dH,cV]at z;exact z.1
 |c::l,i+1,d,h,z=>by simp only[dH,cV]at z;exact Sw (l:=l) (i:=i) (~~~h) z.2
mutual
theorem RepD.inj:∀{a b:D} {x:V},bH a=true->bH b=true->RepD K G x a->RepD K G x b->a=b
 | .non,b,x,_,nb,ra,rb=>by
  cases(show x=V.non from ra);cases b<;>simp_all [RepD,bH]
 | .bl c,b,x,_,nb,ra,rb=>by
  cases(show x=V.bl c from ra);cases b<;>simp_all [RepD,bH]
 | .int c,b,x,_,nb,ra,rb=>by
  cases(show x=V.int c from ra);cases b<;>simp_all [RepD,bH]
 | .str c,b,x,_,nb,ra,rb=>by
  cases(show x=V.str c from ra);cases b<;>simp_all [RepD,bH]
 | .lst ds,b,x,na,nb,ra,rb=>by
  obtain⟨p,xs,rfl,q,r⟩:=ra;cases b with
  |lst es=>
   obtain⟨p2,ys,e,q2,r2⟩:=rb;cases e;rw[q]at q2;cases q2;simp only[bH]at na nb;rw[RepL.inj na nb r r2]
  |tup es=>
   obtain⟨p2,ys,e,q2,r2⟩:=rb;cases e;rw[q]at q2;cases q2
  |scr _=>simp[bH]at nb
  |exc _=>simp[bH]at nb
  |dic _ _=>simp[bH]at nb
  |dit _ _=>simp[bH]at nb
  |obj _ _ _ _ _=>simp[bH]at nb
  |non=>simp[RepD]at rb
  |bl _=>simp[RepD]at rb
  |int _=>simp[RepD]at rb
  |str _=>simp[RepD]at rb
 | .tup ds,b,x,na,nb,ra,rb=>by
  obtain⟨p,xs,rfl,q,r⟩:=ra;cases b with
  |tup es=>
   obtain⟨p2,ys,e,q2,r2⟩:=rb;cases e;rw[q]at q2;cases q2;simp only[bH]at na nb;rw[RepL.inj na nb r r2]
  |lst es=>
   obtain⟨p2,ys,e,q2,r2⟩:=rb;cases e;rw[q]at q2;cases q2
  |scr _=>simp[bH]at nb
  |exc _=>simp[bH]at nb
  |dic _ _=>simp[bH]at nb
  |dit _ _=>simp[bH]at nb
  |obj _ _ _ _ _=>simp[bH]at nb
  |non=>simp[RepD]at rb
  |bl _=>simp[RepD]at rb
  |int _=>simp[RepD]at rb
  |str _=>simp[RepD]at rb
 | .scr _,_,_,na,_,_,_=>by simp[bH]at na
 | .exc _,_,_,na,_,_,_=>by simp[bH]at na
 |(.dic _ _),_,_,na,_,_,_=>by simp[bH]at na
 |(.dit _ _),_,_,na,_,_,_=>by simp[bH]at na
 |(.obj _ _ _ _ _),_,_,na,_,_,_=>by simp[bH]at na
theorem RepL.inj:∀{as bs:List D} {xs:List V},dH as=true->dH bs=true->RepL K G xs as->RepL K G xs bs->as=bs
 |[],[],_,_,_,_,_=>rfl
 |[],_::_,xs,_,_,e,h=>by
  obtain⟨_,_,e2,_⟩:=h;cases(show xs=[]from e);cases e2
 |_::_,[],xs,_,_,h,e=>by
  obtain⟨_,_,e2,_⟩:=h;cases(show xs=[]from e);cases e2
 |a::as,b::bs,xs,na,nb,h,h2=>by
  obtain⟨x,ys,e,q,r⟩:=h;obtain⟨x2,ys2,e2,q2,r2⟩:=h2;subst e;cases e2;simp only[dH,cV]at na nb;rw[RepD.inj na.1 nb.1 q q2,RepL.inj na.2 nb.2 r r2]
end
def Cr (ds es:AA D)(j:Nat):Bool:=match ds[j]?,es[j]? with
 |some a,some b=>fW a b
 |_,_=>false
theorem Tx:∀(as bs:AA D),as.length=bs.length->(List.range as.length).all (Cr as bs)=dD as bs
 |[],[],_=>by simp[dD]
 |a::as,b::bs,h=>by
  have ih:=Tx as bs (~~~h);rw[eH,List.range_succ_eq_map,yL,List.all_map];simp only[dD,<-ih];congr 1
 |[],_::_,h=>by simp at h
 |_::_,[],h=>by simp at h
section
variable {X:Cx}{AM:AA (AD×Obj)}{σ:St}{H G:Hp}{s:AE}
theorem zp8 (r:Vals xs us)(h:RepL X.K G xs ds)(e:us[j]? =some u):∃x d,ds[j]? =some d/\RelV x u/\RepD X.K G x d:=by
 have hl:=r.length;have hl2:=h.length;have hj:j<us.length:=(qas.mp e).1;have ej:ds[j]? =some ds[j]:=bI ∅;obtain⟨x,q1,q2⟩:=h.get ej;obtain⟨u',h1,h2⟩:=r.get q1;have:u'=u:=by rw[h1]at e;exact Option.some.inj e
 subst this;exact⟨x,_,ej,h2,q2⟩
inductive Sh (K:W.Frag) (G:Hp) (s:Shared):D->Value->Prop
 |non:Sh K G s .non .none
 |bl (c:Bool):Sh K G s (.bl c) (.bool c)
 |int (c:Int) (t:Tok):Sh K G s (.int c) (.int c t)
 |str (c:Str) (t:Tok):Sh K G s (.str c) (.str c t)
 |lst {ds:List D} {p:Addr} {xs:List V} {its:List Value} (q:G p=some (.lst xs)) (r:RepL K G xs ds) (rv:Vals xs its) (pl:PlainL s.heap p its.toArray):Sh K G s (.lst ds) (.ref p)
 |tup {ds:List D} {p:Addr} {xs:List V} {its:List Value} (q:G p=some (.tup xs)) (r:RepL K G xs ds) (rv:Vals xs its) (pl:IsTup s.heap p its.toArray):Sh K G s (.tup ds) (.ref p)
theorem Nh (I:Inv X AM σ H s)(fz:Fz G H){x:V}(na:bH d=true)(ra:RepD X.K G x d)(rx:RelV x u):Sh X.K G s d u:=by
 cases d with
 |non=>rw[show x=V.non from ra]at rx;rw[show u=Value.none from rx];exact .non
 |bl c=>rw[show x=V.bl c from ra]at rx;rw[show u=Value.bool c from rx];exact .bl c
 |int c=>rw[show x=V.int c from ra]at rx;exact Exists.elim rx λt e=>by rw[e];exact .int c t
 |str c=>rw[show x=V.str c from ra]at rx;exact Exists.elim rx λt e=>by rw[e];exact .str c t
 |lst ds=>
  obtain⟨p,xs,e,q,r⟩:=ra;rw[e]at rx;rw[show u=Value.ref p from rx];exact(I.list (SqL.of (fz _ _ q))).elim λits h=> .lst q r h.1 h.2.1
 |tup ds=>
  obtain⟨p,xs,e,q,r⟩:=ra;rw[e]at rx;rw[show u=Value.ref p from rx];exact(I.tuple (SqT.of (fz _ _ q))).elim λits h=> .tup q r h.1 h.2.1
 |_=>exact nomatch (show false=true from na)
theorem zk0 (I:Inv X AM σ H s)(fz:Fz G H)(ih:∀(a b:D) (u v:AC),depth a<n->bH a=true->bH b=true->Sh X.K G s a u->Sh X.K G s b v->SeqAt.EqAt A s u v (fW a b)){ds es:AA D}{xs ys:AA V}{its its2:AA AC}(hd:tI ds<n)(nd:dH ds=true)(ne:dH es=true)(r:RepL X.K G xs ds)(r2:RepL X.K G ys es)(rv:Vals xs its)(rv2:Vals ys its2)(j:Nat)(h1:j<its.toArray.size)(h2:j<its2.toArray.size):SeqAt.EqAt A s its.toArray[j] its2.toArray[j] (Cr ds es j):=by
 rw[bR]at h1 h2;obtain⟨x1,d1,e1,k1,m1⟩:=zp8 rv r (j:=j) (u:=its[j]) (bI h1);obtain⟨x2,d2,e2,k2,m2⟩:=zp8 rv2 r2 (j:=j) (u:=its2[j]) (bI h2);rw[show Cr ds es j=fW d1 d2 by unfold Cr;rw[e1,e2]];exact ih d1 d2 _ _ (tO (zkf e1) hd) (Sw e1 nd) (Sw e2 ne) (Nh I fz (Sw e1 nd) m1 k1) (Nh I fz (Sw e2 ne) m2 k2)
theorem zq3 (I:Inv X AM σ H s)(fz:Fz G H)(n:Nat):∀(A:Around) (a b:D) (u v:AC),depth a<n->bH a=true->bH b=true->A.units+n<cLine->Sh X.K G s a u->Sh X.K G s b v->
  SeqAt.EqAt A s u v (fW a b)/\SeqAt.RcAt A s u v (fW a b):=by
 induction n with
 |zero=>intro A a b u v hd;exact AH hd (Nat.not_lt_zero _)
 |succ n ih=>
  intro A a b u v hd na nb hu ha hb;have hu':A.units<cLine:=∅
  cases ha with
  |non=>cases hb with
   |non=>exact⟨.same _,.none_none⟩
   |bl c=>exact⟨.none_bool _,.none_bool _⟩
   |int c t=>exact⟨.none_int _ _,.none_int _ _⟩
   |str c t=>exact⟨.none_str _ _,.none_str _ _⟩
   |lst _ _ _ pl=>exact⟨.none_list pl.isList hu',.none_list pl.isList hu'⟩
   |tup _ _ _ pl=>exact⟨.none_tuple pl hu',.none_tuple pl hu'⟩
  |bl c0=>cases hb with
   |non=>exact⟨.bool_none _,.bool_none _⟩
   |bl c=>exact⟨.bool_bool _ _,.bool_bool _ _⟩
   |int c t=>exact⟨.bool_int _ _ _,.bool_int _ _ _⟩
   |str c t=>exact⟨.bool_str _ _ _,.bool_str _ _ _⟩
   |lst _ _ _ pl=>exact⟨.bool_list _ pl.isList hu',.bool_list _ pl.isList hu'⟩
   |tup _ _ _ pl=>exact⟨.bool_tuple _ pl hu',.bool_tuple _ pl hu'⟩
  |int c0 t0=>cases hb with
   |non=>exact⟨.int_none _ _,.int_none _ _⟩
   |bl c=>exact⟨.int_bool _ _ _,.int_bool _ _ _⟩
   |int c t=>exact⟨.int_int _ _ _ _,.int_int _ _ _ _⟩
   |str c t=>exact⟨.int_str _ _ _ _,.int_str _ _ _ _⟩
   |lst _ _ _ pl=>exact⟨.int_list _ _ pl.isList hu',.int_list _ _ pl.isList hu'⟩
   |tup _ _ _ pl=>exact⟨.int_tuple _ _ pl hu',.int_tuple _ _ pl hu'⟩
  |str c0 t0=>cases hb with
   |non=>exact⟨.str_none _ _,.str_none _ _⟩
   |bl c=>exact⟨.str_bool _ _ _,.str_bool _ _ _⟩
   |int c t=>exact⟨.str_int _ _ _ _,.str_int _ _ _ _⟩
   |str c t=>exact⟨.str_str _ _ _ _,.str_str _ _ _ _⟩
   |lst _ _ _ pl=>exact⟨.str_list _ _ pl.isList hu',.str_list _ _ pl.isList hu'⟩
   |tup _ _ _ pl=>exact⟨.str_tuple _ _ pl hu',.str_tuple _ _ pl hu'⟩
  | @lst ds p xs its q r rv pl=>cases hb with
   |non=>exact⟨.list_none pl.isList hu',.list_none pl.isList hu'⟩
   |bl c=>exact⟨.list_bool _ pl.isList hu',.list_bool _ pl.isList hu'⟩
   |int c t=>exact⟨.list_int _ _ pl.isList hu',.list_int _ _ pl.isList hu'⟩
   |str c t=>exact⟨.list_str _ _ pl.isList hu',.list_str _ _ pl.isList hu'⟩
   |tup _ _ _ pl2=>exact⟨.list_tuple pl.isList pl2 hu',.list_tuple pl.isList pl2 hu'⟩
   | @lst es p2 ys its2 q2 r2 rv2 pl2=>
    have l1:=rv.length;have l2:=r.length;have l3:=rv2.length;have l4:=r2.length;have rc:SeqAt.RcAt A s (.ref p) (.ref p2) (dD ds es):=by
     by_cases hl:ds.length=es.length
     ·have z:=SeqAt.RcAt.lists (A:=A) (s:=s) (e:=Cr ds es) pl.isList pl2.isList (by rw[bR,bR];lia) hu' (zk0 I fz (λa b u v h1 h2 h3 h4 h5=>(ih A.in1 a b u v h1 h2 h3 (by show A.units+1+n<cLine;lia) h4 h5).1) (Nat.lt_of_succ_lt_succ hd) na nb r r2 rv rv2);rw[bR,<-l1,l2,Tx ds es hl]at z;exact z
     ·rw[Qh hl];refine .lists_lengths pl.isList pl2.isList ?_ hu';rw[bR,bR,qb5];lia
    refine⟨?_,rc⟩
    by_cases hp:p=p2
    ·subst hp;rw[show D.lst ds= .lst es from RepD.inj na nb ⟨p,xs,rfl,q,r⟩ ⟨p,ys,rfl,q2,r2⟩,zkN _ nb];exact .same _
    ·exact .of_refs hp rc
  | @tup ds p xs its q r rv pl=>cases hb with
   |non=>exact⟨.tuple_none pl hu',.tuple_none pl hu'⟩
   |bl c=>exact⟨.tuple_bool _ pl hu',.tuple_bool _ pl hu'⟩
   |int c t=>exact⟨.tuple_int _ _ pl hu',.tuple_int _ _ pl hu'⟩
   |str c t=>exact⟨.tuple_str _ _ pl hu',.tuple_str _ _ pl hu'⟩
   |lst _ _ _ pl2=>exact⟨.tuple_list pl pl2.isList hu',.tuple_list pl pl2.isList hu'⟩
   | @tup es p2 ys its2 q2 r2 rv2 pl2=>
    have l1:=rv.length;have l2:=r.length;have l3:=rv2.length;have l4:=r2.length;have rc:SeqAt.RcAt A s (.ref p) (.ref p2) (dD ds es):=by
     have z:=SeqAt.RcAt.tuples (A:=A) (s:=s) (e:=Cr ds es) pl pl2 hu' (zk0 I fz (λa b u v h1 h2 h3 h4 h5=>(ih A.in1 a b u v h1 h2 h3 (by show A.units+1+n<cLine;lia) h4 h5).1) (Nat.lt_of_succ_lt_succ hd) na nb r r2 rv rv2);rw[bR,bR]at z
     by_cases hl:ds.length=es.length
     ·rw[show min its.length its2.length=ds.length by lia,show(its.length==its2.length)=true from qaQ.mpr ∅,Pc,Tx ds es hl]at z;exact z
     ·rw[show(its.length==its2.length)=false from qab.mpr ∅,Bool.and_false]at z;rw[Qh hl];exact z
    refine⟨?_,rc⟩
    by_cases hp:p=p2
    ·subst hp;rw[show D.tup ds= .tup es from RepD.inj na nb ⟨p,xs,rfl,q,r⟩ ⟨p,ys,rfl,q2,r2⟩,zkN _ nb];exact .same _
    ·exact .of_refs hp rc
theorem Lb (I:Inv X AM σ H s)(fz:Fz G H)(n:Nat)(A:Around)(a b:D)(x y:V)(u v:AC)(hd:depth a<=n)(na:bH a=true)(nb:bH b=true)(hu:A.units+n+1<cLine)(ra:RepD X.K G x a)(rb:RepD X.K G y b)(rx:RelV x u)(ry:RelV y v):
  SeqAt.EqAt A s u v (fW a b)/\SeqAt.RcAt A s u v (fW a b):=zq3 I fz (n+1) A a b u v (Nat.lt_succ_of_le hd) na nb hu (Nh I fz na ra rx) (Nh I fz nb rb ry)
end
def bU (a b:D):AB D:=if bH a&&bH b&&decide (depth a<=50)then some (.bl (fW a b))else none
def iE (a b:D):AB D:=if bH a&&bH b&&decide (depth a<=50)then some (.bl (!fW a b))else none
def uR (K:AF)(c:Bool->Bool):R2:=λx y H Q=>∃G a b,Fz G H/\RepD K G x a/\RepD K G y b/\bH a=true/\bH b=true/\depth a<=50/\Q (.bl (c (fW a b))) H
theorem rH (hu:X.A.units+64<cLine):OpR X (compareOp .Eq) (uR X.K id):=by
 intro AM s σ H x y v u Q I rx ry h;obtain⟨G,a,b,fz,ra,rb,na,nb,hd,q⟩:=h;exact(Lb I fz 50 X.A a b x y v u hd na nb ∅ ra rb rx ry).2 _ _ _ _ ⟨.bl _,H,I,rfl,q⟩
theorem uN {ma mb:ME}(hu:X.A.units+64<cLine)(ha:SE X a ma)(hb:SE X b mb):SE X (.Compare a [.Eq] [b] pos) (m2 bU ma mb):=by
 refine Xc (rH hu) (λB G H σ ρ x y a b d Q I ra rb hf k=>?_) ha hb (vS _);unfold bU at hf;refine aY hf λh hf=>?_
 ·skip
  simp only[cV,iN]at h;cases hf;exact⟨G,a,b,I.fz,ra,rb,h.1.1,h.1.2,h.2,k G H _ I (Fz.refl G) rfl⟩
section
variable {X:Cx}{AM:AA (AD×Obj)}{σ:St}{H G:Hp}{s:AE}
theorem wA (I:Inv X AM σ H s)(fz:Fz G H)(A:Around)(a b:D)(u v:AC)(hd:depth a<=50)(na:bH a=true)(nb:bH b=true)(hu:A.units+64<cLine)(ha:Sh X.K G s a u)(hb:Sh X.K G s b v):SeqAt.RcNeAt A s u v (!fW a b):=by
 have hu':A.units<cLine:=∅
 have ih:∀(a b:D) (u v:AC),depth a<50->bH a=true->bH b=true->Sh X.K G s a u->Sh X.K G s b v->SeqAt.EqAt A.in1 s u v (fW a b):=λa b u v h1 h2 h3 h4 h5=>(zq3 I fz 50 A.in1 a b u v h1 h2 h3 (by show A.units+1+50<cLine;lia) h4 h5).1
 cases ha with
 |non=>cases hb with
  |non=>exact .none_none
  |bl c=>exact .none_bool _
  |int c t=>exact .none_int _ _
  |str c t=>exact .none_str _ _
  |lst _ _ _ pl=>exact .none_list pl.isList hu'
  |tup _ _ _ pl=>exact .none_tuple pl hu'
 |bl c0=>cases hb with
  |non=>exact .bool_none _
  |bl c=>exact .bool_bool _ _
  |int c t=>exact .bool_int _ _ _
  |str c t=>exact .bool_str _ _ _
  |lst _ _ _ pl=>exact .bool_list _ pl.isList hu'
  |tup _ _ _ pl=>exact .bool_tuple _ pl hu'
 |int c0 t0=>cases hb with
  |non=>exact .int_none _ _
  |bl c=>exact .int_bool _ _ _
  |int c t=>exact .int_int _ _ _ _
  |str c t=>exact .int_str _ _ _ _
  |lst _ _ _ pl=>exact .int_list _ _ pl.isList hu'
  |tup _ _ _ pl=>exact .int_tuple _ _ pl hu'
 |str c0 t0=>cases hb with
  |non=>exact .str_none _ _
  |bl c=>exact .str_bool _ _ _
  |int c t=>exact .str_int _ _ _ _
  |str c t=>exact .str_str _ _ _ _
  |lst _ _ _ pl=>exact .str_list _ _ pl.isList hu'
  |tup _ _ _ pl=>exact .str_tuple _ _ pl hu'
 | @lst ds p xs its q r rv pl=>cases hb with
  |non=>exact .list_none pl.isList hu'
  |bl c=>exact .list_bool _ pl.isList hu'
  |int c t=>exact .list_int _ _ pl.isList hu'
  |str c t=>exact .list_str _ _ pl.isList hu'
  |tup _ _ _ pl2=>exact .list_tuple pl.isList pl2 hu'
  | @lst es p2 ys its2 q2 r2 rv2 pl2=>
   have l1:=rv.length;have l2:=r.length;have l3:=rv2.length;have l4:=r2.length;show SeqAt.RcNeAt A s (.ref p) (.ref p2) (!dD ds es)
   by_cases hl:ds.length=es.length
   ·have z:=SeqAt.RcNeAt.lists (A:=A) (s:=s) (e:=Cr ds es) pl.isList pl2.isList (by rw[bR,bR];lia) hu' (zk0 I fz ih (Nat.lt_of_succ_le hd) na nb r r2 rv rv2);rw[bR,<-l1,l2,Tx ds es hl]at z;exact z
   ·rw[Qh hl];refine .lists_lengths pl.isList pl2.isList ?_ hu';rw[bR,bR,qb5];lia
 | @tup ds p xs its q r rv pl=>cases hb with
  |non=>exact .tuple_none pl hu'
  |bl c=>exact .tuple_bool _ pl hu'
  |int c t=>exact .tuple_int _ _ pl hu'
  |str c t=>exact .tuple_str _ _ pl hu'
  |lst _ _ _ pl2=>exact .tuple_list pl pl2.isList hu'
  | @tup es p2 ys its2 q2 r2 rv2 pl2=>
   have l1:=rv.length;have l2:=r.length;have l3:=rv2.length;have l4:=r2.length;show SeqAt.RcNeAt A s (.ref p) (.ref p2) (!dD ds es);have z:=SeqAt.RcNeAt.tuples (A:=A) (s:=s) (e:=Cr ds es) pl pl2 hu' (zk0 I fz ih (Nat.lt_of_succ_le hd) na nb r r2 rv rv2);rw[bR,bR]at z
   by_cases hl:ds.length=es.length
   ·rw[show min its.length its2.length=ds.length by lia,show(its.length==its2.length)=true from qaQ.mpr ∅,Pc,Tx ds es hl]at z;exact z
   ·rw[show(its.length==its2.length)=false from qab.mpr ∅,Bool.and_false]at z;rw[Qh hl];exact z
theorem Lu (I:Inv X AM σ H s)(fz:Fz G H)(A:Around)(a b:D)(x y:V)(u v:AC)(hd:depth a<=50)(na:bH a=true)(nb:bH b=true)(hu:A.units+64<cLine)(ra:RepD X.K G x a)(rb:RepD X.K G y b)(rx:RelV x u)(ry:RelV y v):
  SeqAt.RcNeAt A s u v (!fW a b):=wA I fz A a b u v hd na nb hu (Nh I fz na ra rx) (Nh I fz nb rb ry)
end
theorem pK (hu:X.A.units+64<cLine):OpR X (compareOp .NotEq) (uR X.K not):=by
 intro AM s σ H x y v u Q I rx ry h;obtain⟨G,a,b,fz,ra,rb,na,nb,hd,q⟩:=h;exact Lu I fz X.A a b x y v u hd na nb hu ra rb rx ry _ _ _ _ ⟨.bl _,H,I,rfl,q⟩
theorem Dh:V2 X (uR X.K not) iE:=by
 intro B G H σ ρ x y a b d Q I ra rb hf k;unfold iE at hf;refine aY hf λh hf=>?_
 ·skip
  simp only[cV,iN]at h;cases hf;exact⟨G,a,b,I.fz,ra,rb,h.1.1,h.1.2,h.2,k G H _ I (Fz.refl G) rfl⟩
theorem Vn:V2 X (uR X.K id) bU:=by
 intro B G H σ ρ x y a b d Q I ra rb hf k;unfold bU at hf;refine aY hf λh hf=>?_
 ·skip
  simp only[cV,iN]at h;cases hf;exact⟨G,a,b,I.fz,ra,rb,h.1.1,h.1.2,h.2,k G H _ I (Fz.refl G) rfl⟩
theorem Rw {ma mb:ME}(hu:X.A.units+64<cLine)(ha:SE X a ma)(hb:SE X b mb):SE X (.Compare a [.NotEq] [b] pos) (m2 iE ma mb):=
 Xc (pK hu) Dh ha hb (vS _)
def bF:D->D->AB D
 | .lst ds,.int i=>atI ds i
 | .tup ds,.int i=>atI ds i
 | .scr ns,.int i=>(atI ns i).map .int
 |_,_=>none
theorem yW {α β:Type}(f:α->β){xs:AA α}{i:Int}{v:α}(h:atI xs i=some v):atI (xs.map f) i=some (f v):=by
 unfold atI at h ⊢;rw[eI];cases q:eU xs.length i with
 |none=>rw[q]at h;exact aI h
 |some j=>
  rw[q]at h;show(xs.map f)[j]? =_;rw[cJ,show xs[j]? =some v from h]
  rfl
def ReadD (K:AF)(G H:Hp)(v:V):D->Prop
 | .lst ds=>∃a xs,v= .ref a/\H a=some (.lst xs)/\RepL K G xs ds
 |d=>RepD K G v d
theorem ReadD.of (fz:Fz G H)(h:RepD K G v d):ReadD K G H v d:=by
 cases d with
 |lst ds=>obtain⟨a,xs,e,q,r⟩:=h;exact⟨a,xs,e,fz a _ q,r⟩
 |_=>exact h
def Sl.read:Sl->AB D
 | .emp=>none
 | .two _ _=>none
 | .tre _=>none
 | .ptr _=>none
 | .val d=>some d
 | .own ds=>some (.lst ds)
 | .par ds=>some (.lst ds)
def eJ (ρ:R)(j:Nat):Bool:=match ρ[j]? with
 |some (.val _)=>true
 |some (.own _)=>true
 |some (.par _)=>true
 |_=>false
theorem SI.has (I:SI K B G H σ ρ)(h:eJ ρ j=true):∃v,σ[j]? =some (some v):=by
 unfold eJ at h;cases e:ρ[j]? with
 |none=>rw[e]at h;cases h
 |some s=>
  rw[e]at h;have q:=I.slot j s e;cases s with
  |emp=>cases h
  |two _ _=>cases h
  |tre _=>cases h
  |ptr _=>cases h
  |val d=>obtain⟨v,e,_⟩:=q;exact⟨v,e⟩
  |own d=>obtain⟨l,_,e,_⟩:=q;exact⟨_,e⟩
  |par d=>obtain⟨l,_,e,_⟩:=q;exact⟨_,e⟩
theorem SI.read (I:SI K B G H σ ρ)(hv:σ[j]? =some (some v))(e:ρ[j]? =some s)(q:s.read=some d):ReadD K G H v d:=by
 have h:=I.slot j s e;cases s with
 |emp=>exact aI q
 |two _ _=>exact aI q
 |tre _=>exact aI q
 |ptr _=>exact aI q
 |val d'=>
  cases q;obtain⟨w,e1,r⟩:=h;rw[hv]at e1;cases e1;exact .of I.fz r
 |own ds=>
  cases q;obtain⟨l,xs,e1,_,h3,h4,_⟩:=h;rw[hv]at e1;cases e1;exact⟨l,xs,rfl,h3,h4⟩
 |par ds=>
  cases q;obtain⟨l,xs,e1,_,h3,h4,_⟩:=h;rw[hv]at e1;cases e1;exact⟨l,xs,rfl,h3,h4⟩
theorem zqR {x y:V}{a b d:D}{Q:VK}(I:SI K B G H σ ρ)(ra:ReadD K G H x a)(rb:RepD K G y b)(hf:bF a b=some d)(k:∀v,RepD K G v d->Q v H):rIx K x y H Q:=by
 cases a<;>cases b<;>simp only[bF]at hf<;>try exact aI hf
 ·rename_i ds i;obtain⟨p,xs,rfl,hp,r⟩:=ra;obtain⟨v,e,q⟩:=r.at hf;exact .inl ⟨p,xs,i,v,rfl,rb,SqL.of hp,e,k _ q⟩
 ·rename_i ds i;obtain⟨p,xs,rfl,hp,r⟩:=I.tup ra;obtain⟨v,e,q⟩:=r.at hf;exact .inr (.inl ⟨p,xs,i,v,rfl,rb,SqT.of hp,e,k _ q⟩)
 ·rename_i ns i;obtain⟨p,rfl,hp⟩:=ra;cases e:atI ns i with
  |none=>rw[e]at hf;exact aI hf
  |some n=>
   rw[e]at hf;cases hf;exact .inl ⟨p,_,i,.int n,rfl,rb,I.fz.sql hp,yW V.int e,k _ rfl⟩
theorem Xv:V2 X (rIx X.K) bF:=λB G H σ ρ x y a b d Q I ra rb hf k=>zqR I (.of I.fz ra) rb hf λv q=>k G H v I (Fz.refl G) q
theorem cW {ma mb:ME}(ha:SE X a ma)(hb:SE X b mb)(hs:wF b:=by exactλ_ _=>rfl):SE X (.Subscript a b pos) (m2 bF ma mb):=Sx sD Xv ha hb hs
def aR (j:Nat)(mi:ME):ME:=λρ=>if eJ ρ j then(mi ρ).bind λp=>(p.2[j]?.bind Sl.read).bind λd=>(bF d p.1).map λe=>(e,p.2)else none
theorem bS {mb:ME}(j:Nat)(hb:SE X b mb)(hN:X.N[j]? =some x:=by rfl)(hv:dJ X.env.scope x:=by trivial)(hd:(x==("__debug__":Str))=false:=by decide)(hcd:(x==("__classdict__":Str))=false:=by decide)(hs:wF b:=by exactλ_ _=>rfl):SE X (.Subscript (.Name x pos') b pos) (aR j mb):=by
  refine hb.el λtb pb sb=>?_
  refine⟨_,Mn sD (eB hN hv hd hcd) pb hs,λB G H σ ρ d ρ' Q I hm k=>?_⟩;unfold aR at hm;refine aY hm λhh hm=>?_
  . skip
    obtain⟨v,ev⟩:=I.has hh;cases e1:mb ρ with
    |none=>rw[e1]at hm;exact aI hm
    |some q=>
      obtain⟨i,ρ1⟩:=q;rw[e1]at hm;simp only[iT]at hm;cases e2:ρ1[j]? with
      |none=>rw[e2]at hm;exact aI hm
      |some s=>
        rw[e2]at hm;simp only[iT]at hm;cases e3:s.read with
        |none=>rw[e3]at hm;exact aI hm
        |some a=>
          rw[e3]at hm;simp only[iT]at hm;cases e4:bF a i with
          |none=>rw[e4]at hm;exact aI hm
          |some c=>
            rw[e4]at hm;cases hm;exact⟨v,ev,sb B G H σ ρ i ρ' _ I e1 λG1 H1 y I1 f1 r1=>zqR I1 (I1.read ev e2 e3) r1 e4 λw q=>k G1 H1 w I1 f1 q⟩
def cY:AA D->AB D
 |[.lst ds]=>some (.int ds.length)
 |[.tup ds]=>some (.int ds.length)
 |[.scr ns]=>some (.int ns.length)
 |_=>none
theorem zob {x:V}{a d:D}{Q:VK}(I:SI K B G H σ ρ)(ra:ReadD K G H x a)(hf:cY [a]=some d)(k:∀v,RepD K G v d->Q v H):
  ∃p ys,[x]=[V.ref p]/\(SqL K H p ys\/SqT K H p ys)/\Q (.int ys.length) H:=by
 cases a<;>simp only[cY]at hf<;>try cases hf
 ·obtain⟨p,xs,rfl,hp,r⟩:=ra;exact⟨p,xs,rfl,.inl (SqL.of hp),by rw[r.length];exact k _ rfl⟩
 ·obtain⟨p,xs,rfl,hp,r⟩:=I.tup ra;exact⟨p,xs,rfl,.inr (SqT.of hp),by rw[r.length];exact k _ rfl⟩
 ·obtain⟨p,rfl,hp⟩:=ra;exact⟨p,_,rfl,.inl (I.fz.sql hp),by rw[eI];exact k _ rfl⟩
theorem RepL.one (h:RepL K G xs [d]):∃x,xs=[x]/\RepD K G x d:=by
 obtain⟨x,ys,e,q,r⟩:=h;cases(show ys=[]from r);exact⟨x,e,q⟩
theorem RepL.two {a b:D}(h:RepL K G xs [a,b]):∃x y,xs=[x,y]/\RepD K G x a/\RepD K G y b:=by
 obtain⟨x,ys,e,q,r⟩:=h;obtain⟨y,e2,q2⟩:=r.one;subst e2;exact⟨x,y,e,q,q2⟩
theorem sI (h:cY ds=some d):∃a,ds=[a]:=by
 match ds,h with
 |[a],_=>exact⟨a,rfl⟩
 |[],h=>exact aI h
 |_::_::_,h=>simp[cY]at h
theorem Hv:VC X (λxs H Q=>∃p ys,xs=[.ref p]/\(SqL X.K H p ys\/SqT X.K H p ys)/\Q (.int ys.length) H) cY:=by
 intro B G H σ ρ xs ds d Q I r hf k;obtain⟨a,rfl⟩:=sI hf;obtain⟨x,rfl,ra⟩:=r.one;exact zob I (.of I.fz ra) hf λv q=>k G H v I (Fz.refl G) q
theorem znJ (ml:X.mg "len"=none)(ha:SA X [e] ma)(hg:Gl X "len":=by rfl)(he:starEach [e] X.env=(false,eval e X.env)::starEach [] X.env:=by rfl):SE X (.Call (.Name "len" p) [e] [] pos) (mC cY ma):=
 Bk zfs Hv PySem.boot_len ml ha hg (by decide) (by decide) he rfl
def hW (j:Nat):ME:=λρ=>(ρ[j]?.bind Sl.read).bind λd=>(cY [d]).map λe=>(e,ρ)
theorem jE (j:Nat)(ml:X.mg "len"=none)(hN:X.N[j]? =some x:=by rfl)(hv:dJ X.env.scope x:=by trivial)(hd:(x==("__debug__":Str))=false:=by decide)(hcd:(x==("__classdict__":Str))=false:=by decide)(hg:Gl X "len":=by rfl)(he:starEach [.Name x pos'] X.env=(false,eval (.Name x pos') X.env)::starEach [] X.env:=by rfl):SE X (.Call (.Name "len" p) [.Name x pos'] [] pos) (hW j):=by
 refine⟨_,zis zfs hg ml PySem.boot_len (jJ (eB hN hv hd hcd) mS he) (by decide) (by decide) he rfl,λB G H σ ρ d ρ' Q I hm k=>?_⟩;unfold hW at hm;cases e2:ρ[j]? with
 |none=>rw[e2]at hm;exact aI hm
 |some s=>
  rw[e2]at hm;simp only[iT]at hm;cases e3:s.read with
  |none=>rw[e3]at hm;exact aI hm
  |some a=>
   rw[e3]at hm;simp only[iT]at hm;cases e4:cY [a]with
   |none=>rw[e4]at hm;exact aI hm
   |some c=>
    rw[e4]at hm;exists bK hm;have hh:eJ ρ j=true:=by
     unfold eJ;rw[e2];cases s<;>first|rfl|exact aI e3
    obtain⟨v,ev⟩:=I.has hh;exact⟨v,ev,zob I (I.read ev e2 e3) e4 λw q=>k G H w I (Fz.refl G) q⟩
def iC:AA D->AB D
 |[.lst ds]=>some (.tup ds)
 |[.tup ds]=>some (.tup ds)
 |[.scr ns]=>some (.tup (ns.map .int))
 |_=>none
theorem qZ:VC X (λxs H Q=>∃p ys,xs=[.ref p]/\((SqL X.K H p ys/\∀l,H l=none->Q (.ref l) (upd H l (.tup ys)))\/(SqT X.K H p ys/\Q (.ref p) H))) iC:=by
 intro B G H σ ρ xs ds d Q I r hf k
 match ds,hf with
 |[a],hf=>
  obtain⟨x,rfl,ra⟩:=r.one;cases a<;>simp only[iC]at hf<;>try cases hf
  ·obtain⟨p,ys,rfl,hp,q⟩:=I.lst ra;refine⟨p,ys,rfl,.inl ⟨SqL.of hp,λl hl=>?_⟩⟩;obtain⟨I2,f2,r2⟩:=I.newT hl q;exact k _ _ _ I2 f2 r2
  ·obtain⟨p,ys,e,hp,q⟩:=I.tup ra;subst e;exact⟨p,ys,rfl,.inr ⟨SqT.of hp,k G H _ I (Fz.refl G) ra⟩⟩
  ·obtain⟨p,rfl,hp⟩:=ra;refine⟨p,_,rfl,.inl ⟨I.fz.sql hp,λl hl=>?_⟩⟩;obtain⟨I2,f2,r2⟩:=I.newT hl (RepL.ints _);exact k _ _ _ I2 f2 r2
 |[],hf=>exact aI hf
 |_::_::_,hf=>simp[iC]at hf
theorem qU (ml:X.mg "tuple"=none)(ha:SA X [e] ma)(hg:Gl X "tuple":=by rfl)(he:starEach [e] X.env=(false,eval e X.env)::starEach [] X.env:=by rfl)(hb:bootBuiltins "tuple"=some (.type "tuple"):=by decide+kernel):
  SE X (.Call (.Name "tuple" p) [e] [] pos) (mC iC ma):=
 zlY zk8 qZ hb ml ha hg (by decide) (by decide) he rfl
def eE:AA D->AB (AA D)
 |[.lst ds]=>some ds
 |[.tup ds]=>some ds
 |[.scr ns]=>some (ns.map .int)
 |_=>none
def oC (f:AA D->AB (AA D))(ma:MA):MO:=λρ=>(ma ρ).bind λp=>(f p.1).map λd=>(d,p.2)
theorem Jh {f:AA D->AB (AA D)}{d:AA D}(h:oC f ma ρ=some (d,ρ')):∃a,ma ρ=some (a,ρ')/\f a=some d:=by
 unfold oC at h;cases e1:ma ρ with
 |none=>rw[e1]at h;exact aI h
 |some p=>
  obtain⟨a,ρ1⟩:=p;rw[e1]at h;simp only[iT]at h;cases e3:f a with
  |none=>rw[e3]at h;exact aI h
  |some c=>rw[e3]at h;exists bK h;exact⟨a,rfl,e3⟩
theorem SI.newO (I:SI K B G H σ ρ){p:AD}(hp:H p=none)(xs:AA V):SI K B G (upd H p (.lst xs)) σ ρ/\G p=none/\(upd H p (.lst xs)) p=some (.lst xs)/\B.H p=none/\Nw K G (upd H p (.lst xs)) σ ρ p:=
 ⟨I.allocO hp _,I.fz.free hp,cT,I.there p hp,I.nw_move (I.nw hp) λi s a _ _ g h=>⟨g,aV λz=>h (by rw[z];exact hp)⟩⟩
theorem znj (ml:X.mg "list"=none)(ha:SA X [e] ma)(hg:Gl X "list":=by rfl)(he:starEach [e] X.env=(false,eval e X.env)::starEach [] X.env:=by rfl)(hb:bootBuiltins "list"=some (.type "list"):=by decide+kernel):
  SO X (.Call (.Name "list" p) [e] [] pos) (oC eE ma):=by
 refine ha.el λt pa sa=>?_
 refine⟨_,Zw zmm hg ml hb pa (by decide) (by decide) he rfl,λB G H σ ρ ds ρ' Q I hm k=>?_⟩;obtain⟨as,e1,e2⟩:=Jh hm;refine sa B G H σ ρ as ρ' _ I e1 λG1 H1 vs I1 f1 r1=>?_
 match as,e2 with
 |[a],e2=>
  obtain⟨x,rfl,ra⟩:=r1.one;have fin:∀(q:AD) (ys:AA V) (sq:SqL X.K H1 q ys\/SqT X.K H1 q ys),x= .ref q->RepL X.K G1 ys ds->∃p ys,[x]=[V.ref p]/\(SqL X.K H1 p ys\/SqT X.K H1 p ys)/\∀l,H1 l=none->Q (.ref l) (upd H1 l (.lst ys)):=λq ys sq ex r=>by
   refine⟨q,ys,by rw[ex],sq,λl hl=>?_⟩;obtain⟨I2,g2,h2,b2,n2⟩:=I1.newO hl ys;exact k G1 _ l ys I2 f1 g2 h2 r b2 n2
  cases a<;>simp only[eE]at e2<;>try cases e2
  ·obtain⟨p,ys,ex,hp,q⟩:=I1.lst ra;exact fin p ys (.inl (SqL.of hp)) ex q
  ·obtain⟨p,ys,ex,hp,q⟩:=I1.tup ra;exact fin p ys (.inr (SqT.of hp)) ex q
  ·obtain⟨p,ex,hp⟩:=ra;exact fin p _ (.inl (I1.fz.sql hp)) ex (RepL.ints _)
 |[],e2=>exact aI e2
 |_::_::_,e2=>simp[eE]at e2
section
variable {X:Cx}{es:AA AI}{ma:MA}{pos:Pos}
def bN (ma:MA):ME:=λρ=>(ma ρ).bind λp=>if p.1.length<=16777216 then some (.tup p.1,p.2)else none
theorem fS {x1}(h:SA X es ma):SE X (.Tuple es x1 pos) (bN ma):=by
 refine h.el λt pa sa=>?_
 refine⟨_,Iw pa,λB G H σ ρ d ρ' Q I hm k=>?_⟩;unfold bN at hm;cases e1:ma ρ with
 |none=>rw[e1]at hm;exact aI hm
 |some q=>
  obtain⟨ds,ρ1⟩:=q;rw[e1]at hm;simp only[iT]at hm;refine aY hm λhl hm=>?_
  ·skip
   cases hm;refine sa B G H σ ρ ds ρ' _ I e1 λG1 H1 vs I1 f1 r1=>⟨by rw[r1.length,gZ];exact hl,λp hp=>?_⟩
   obtain⟨I2,f2,r2⟩:=I1.newT hp r1;exact k _ _ _ I2 (f1.trans f2) r2
def dM (ma:MA):MO:=λρ=>(ma ρ).bind λp=>if p.1.length<=16777216 then some (p.1,p.2)else none
theorem lL (h:SA X es ma):SO X (.List es pos) (dM ma):=by
 refine h.el λt pa sa=>?_
 refine⟨_,Vl pa,λB G H σ ρ d ρ' Q I hm k=>?_⟩;unfold dM at hm;cases e1:ma ρ with
 |none=>rw[e1]at hm;exact aI hm
 |some q=>
  obtain⟨ds,ρ1⟩:=q;rw[e1]at hm;simp only[iT]at hm;refine aY hm λhl hm=>?_
  ·skip
   cases hm;refine sa B G H σ ρ _ ρ' _ I e1 λG1 H1 vs I1 f1 r1=>⟨by rw[r1.length,gZ];exact hl,λp hp=>?_⟩
   obtain⟨I2,g2,h2,b2,n2⟩:=I1.newO hp vs;exact k G1 _ p vs I2 f1 g2 h2 r1 b2 n2
end
theorem Fu {α β:Type}{o:AB α}{f:α->AB β}{b:β}(h:o.bind f=some b):∃a,o=some a/\f a=some b:=by
 cases o with
 |none=>exact aI h
 |some a=>exact⟨a,rfl,h⟩
theorem Tc {α β:Type}{o:AB α}{f:α->β}{b:β}(h:o.map f=some b):∃a,o=some a/\f a=b:=by
 cases o with
 |none=>exact aI h
 |some a=>cases h;exact⟨a,rfl,rfl⟩
def uG:D->AB Bool
 | .bl b=>some b
 | .int i=>some (i !=0)
 | .non=>some false
 | .lst ds=>some (!ds.isEmpty)
 | .tup ds=>some (!ds.isEmpty)
 |_=>none
def aQ (ma:ME):MT:=λρ=>(ma ρ).bind λp=>(uG p.1).map λb=>(b,p.2)
section
variable {X:Cx}{a b c:AI}{ma mb mc:ME}{pos:Pos}
theorem zo4 (h:RepL K G xs ds):(!xs.isEmpty)=!ds.isEmpty:=by
 have:=h.length;cases xs<;>cases ds<;>simp_all
theorem Dj (ha:SE X a ma)(he:∀whole,isTrue a X.env whole=(do let v<-whole;standAt a.pos;holding [v] (truthy v)):=by exactλ_=>rfl):STt X a (aQ ma):=by
  refine ha.el λta pa sa=>?_
  refine⟨_,qM pa he,λB G H σ ρ d ρ' Q I hm k=>?_⟩;refine bD hm λx ρ1 e1 e2=>?_
  refine bQ e2 λt e3 e4=>?_
  exists Prod.mk.inj e4;refine sa B G H σ ρ x ρ1 _ I e1 λG1 H1 v I1 f1 r1=>⟨t,?_,k G1 H1 I1 f1⟩
  cases x<;>simp only[uG]at e3<;>try cases e3
  . cases r1;exact rfl
  . cases r1;exact rfl
  . cases r1;exact rfl
  . obtain⟨p,xs,rfl,hp,r⟩:=I1.lst r1
    exact .inl ⟨xs,SqL.of hp,(zo4 r).symm⟩
  . obtain⟨p,xs,rfl,hp,r⟩:=I1.tup r1
    exact .inr (.inl ⟨xs,SqT.of hp,(zo4 r).symm⟩)
theorem Dy {r:R2}{f:D->D->AB D}(ho:OpR X (compareOp op) r)(hv:V2 X r f)(hB:∀x y d,f x y=some d->∃t,d= .bl t)(ha:SE X a ma)(hb:SE X b mb)(hm:behindInMarks op b=false):STt X (.Compare a [op] [b] pos) (aQ (m2 f ma mb)):=by
 refine ha.el λta pa sa=>?_
 refine hb.el λtb pb sb=>?_
 refine⟨_,zO ho pa pb hm,λB G H σ ρ d ρ' Q I hm k=>?_⟩;refine bD hm λx ρ1 e1 e2=>?_
 refine bQ e2 λt e3 e4=>?_
 exists Prod.mk.inj e4;obtain⟨_,_,_,_,_,e5⟩:=qH e1;obtain⟨t',rfl⟩:=hB _ _ _ e5;obtain rfl:t'=t:=Option.some.inj e3;refine Ys hv sa sb B G H σ ρ (.bl t') ρ1 _ I e1 λG1 H1 v I1 f1 r1=>?_
 cases(show v=V.bl t' from r1);exact⟨t',rfl,k G1 H1 I1 f1⟩
theorem zpz {g:Int->Int->Bool}(x y d:D)(h:hJ (λ_ _=>true) (λi j=> .bl (g i j)) x y=some d):∃t,d= .bl t:=znL h λ_ _ _ _ _ e=>⟨_,e.symm⟩
theorem rO (x y d:D)(h:bU x y=some d):∃t,d= .bl t:=by
 unfold bU at h
 split at h
 ·cases h;exact⟨_,rfl⟩
 ·exact aI h
theorem Ru (x y d:D)(h:iE x y=some d):∃t,d= .bl t:=by
 unfold iE at h
 split at h
 ·cases h;exact⟨_,rfl⟩
 ·exact aI h
theorem zL (ha:SE X a ma)(hb:SE X b mb):STt X (.Compare a [.Lt] [b] pos) (aQ (m2 pV ma mb)):=Dy Tb Ud zpz ha hb (vS _)
theorem Yi (ha:SE X a ma)(hb:SE X b mb):STt X (.Compare a [.Gt] [b] pos) (aQ (m2 Tt ma mb)):=Dy Cq Ud zpz ha hb (vS _)
theorem Xq (ha:SE X a ma)(hb:SE X b mb):STt X (.Compare a [.GtE] [b] pos) (aQ (m2 Qo ma mb)):=Dy Cj Ud zpz ha hb (vS _)
theorem iQ (hu:X.A.units+64<cLine)(ha:SE X a ma)(hb:SE X b mb):STt X (.Compare a [.Eq] [b] pos) (aQ (m2 bU ma mb)):=Dy (rH hu) Vn rO ha hb (vS _)
theorem tF (hu:X.A.units+64<cLine)(ha:SE X a ma)(hb:SE X b mb):STt X (.Compare a [.NotEq] [b] pos) (aQ (m2 iE ma mb)):=Dy (pK hu) Dh Ru ha hb (vS _)
end
def Vd (X:Cx)(e:AI)(m:MT)(t:TT):Prop:=∀B G H σ ρ d ρ' (Q:Bool->Hp->Prop),SI X.K B G H σ ρ->m ρ=some (d,ρ')->(∀G' H',SI X.K B G' H' σ ρ'->Fz G G'->Q d H')->t σ H Q
def STw (X:Cx)(e:AI)(m:MT):Prop:=∃t,PW X e t/\Vd X e m t
theorem STw.el {m:MT}(h:STw X e m)(k:∀t,PW X e t->Vd X e m t->C):C:=h.elim λt q=>k t q.1 q.2
theorem STw.st {m:MT}(h:STw X e m):STt X e m:=h.el λt p s=>⟨t,p.pt,s⟩
def Hh (a b:MT):MT:=λρ=>(a ρ).bind λp=>if p.1 then b p.2 else some (false,p.2)
def jV (a b:MT):MT:=λρ=>(a ρ).bind λp=>if p.1 then some (true,p.2)else b p.2
def tQ (a:MT):MT:=λρ=>(a ρ).map λp=>(!p.1,p.2)
section
variable {X:Cx}{a b c:AI}{ma mb:MT}{pos:Pos}{rest:AA AI}
theorem zmO (h:STt X a ma):STw X (.BoolOp .And [a] pos) ma:=h.el λt p s=>⟨t,wC p,s⟩
theorem zpD (h:STt X a ma):STw X (.BoolOp .Or [a] pos) ma:=h.el λt p s=>⟨t,Ls p,s⟩
theorem Zt (ha:STt X a ma)(hb:STw X (.BoolOp .And (b::rest) pos) mb):STw X (.BoolOp .And (a::b::rest) pos) (Hh ma mb):=by
 refine ha.el λta pa sa=>?_
 refine hb.el λtb pb sb=>?_
 refine⟨_,Ir pa pb,λB G H σ ρ d ρ' Q I hm k=>?_⟩;refine bD hm λx ρ1 e1 e2=>?_
 refine sa B G H σ ρ x ρ1 _ I e1 λG1 H1 I1 f1=>?_
 cases x with
 |true=>exact sb B G1 H1 σ ρ1 d ρ' Q I1 e2 λG2 H2 I2 f2=>k G2 H2 I2 (f1.trans f2)
 |false=>exists bK e2;exact k G1 H1 I1 f1
theorem kC (ha:STt X a ma)(hb:STw X (.BoolOp .Or (b::rest) pos) mb):STw X (.BoolOp .Or (a::b::rest) pos) (jV ma mb):=by
 refine ha.el λta pa sa=>?_
 refine hb.el λtb pb sb=>?_
 refine⟨_,Ti pa pb,λB G H σ ρ d ρ' Q I hm k=>?_⟩;refine bD hm λx ρ1 e1 e2=>?_
 refine sa B G H σ ρ x ρ1 _ I e1 λG1 H1 I1 f1=>?_
 cases x with
 |false=>exact sb B G1 H1 σ ρ1 d ρ' Q I1 e2 λG2 H2 I2 f2=>k G2 H2 I2 (f1.trans f2)
 |true=>exists bK e2;exact k G1 H1 I1 f1
theorem Dv (ha:STt X a ma):STt X (.UnaryOp .Not a pos) (tQ ma):=by
 refine ha.el λta pa sa=>?_
 refine⟨_,Lz pa,λB G H σ ρ d ρ' Q I hm k=>?_⟩;refine jA hm λx ρ1 e1 e2=>?_
 cases e2;exact sa B G H σ ρ x ρ1 _ I e1 λG1 H1 I1 f1=>k G1 H1 I1 f1
end
def gU (a b:ME):ME:=λρ=>(a ρ).bind λp=>match p.1 with
 | .bl true=>b p.2
 | .bl false=>some (.bl false,p.2)
 |_=>none
def eOr (a b:ME):ME:=λρ=>(a ρ).bind λp=>match p.1 with
 | .bl true=>some (.bl true,p.2)
 | .bl false=>b p.2
 |_=>none
def nJ:D->AB D
 | .bl b=>some (.bl (!b))
 |_=>none
section
variable {X:Cx}{a b c:AI}{ma mb:ME}{pos:Pos}{rest:AA AI}{op:BoolOp}
theorem Je (h:SE X a ma):SE X (.BoolOp op [a] pos) ma:=h.el λt p s=>⟨t,Hn p,s⟩
theorem Fh (ha:SE X a ma)(hb:SE X (.BoolOp .And (b::rest) pos) mb):SE X (.BoolOp .And (a::b::rest) pos) (gU ma mb):=by
 refine ha.el λta pa sa=>?_
 refine hb.el λtb pb sb=>?_
 refine⟨_,Lw pa pb,λB G H σ ρ d ρ' Q I hm k=>?_⟩;refine bD hm λx ρ1 e1 e2=>?_
 refine sa B G H σ ρ x ρ1 _ I e1 λG1 H1 v I1 f1 r1=>?_
 cases x<;>try exact aI e2
 rename_i y;refine⟨y,r1,?_⟩;cases y with
 |true=>exact sb B G1 H1 σ ρ1 d ρ' Q I1 e2 λG2 H2 v I2 f2 r2=>k G2 H2 v I2 (f1.trans f2) r2
 |false=>exists bK e2;exact k G1 H1 _ I1 f1 rfl
theorem sE (ha:SE X a ma):SE X (.UnaryOp .Not a pos) (m1 nJ ma):=by
 refine ha.el λta pa sa=>?_
 refine⟨_,Jy pa,λB G H σ ρ d ρ' Q I hm k=>?_⟩;obtain⟨x,e1,e2⟩:=sH hm;refine sa B G H σ ρ x ρ' _ I e1 λG1 H1 v I1 f1 r1=>?_
 cases x<;>simp only[nJ]at e2<;>try cases e2
 exact⟨_,r1,k G1 H1 _ I1 f1 rfl⟩
def Sa (c:MT)(a b:ME):ME:=λρ=>(c ρ).bind λp=>if p.1 then a p.2 else b p.2
theorem znw (hc:STt X c mc)(ha:SE X a ma)(hb:SE X b mb):SE X (.IfExp c a b pos) (Sa mc ma mb):=by
 refine hc.el λtc pc sc=>?_
 refine ha.el λta pa sa=>?_
 refine hb.el λtb pb sb=>?_
 refine⟨_,nO pc pa pb,λB G H σ ρ d ρ' Q I hm k=>?_⟩;refine bD hm λx ρ1 e1 e2=>?_
 refine sc B G H σ ρ x ρ1 _ I e1 λG1 H1 I1 f1=>?_
 cases x with
 |true=>exact sa B G1 H1 σ ρ1 d ρ' Q I1 e2 λG2 H2 v I2 f2 r2=>k G2 H2 v I2 (f1.trans f2) r2
 |false=>exact sb B G1 H1 σ ρ1 d ρ' Q I1 e2 λG2 H2 v I2 f2 r2=>k G2 H2 v I2 (f1.trans f2) r2
end
def rN (f g:D->D->AB D)(a b c:ME):ME:=λρ=>(a ρ).bind λp=>(b p.2).bind λq=>(f p.1 q.1).bind λt=>match t with
 | .bl true=>(c q.2).bind λr=>(g q.1 r.1).map λd=>(d,r.2)
 | .bl false=>some (.bl false,q.2)
 |_=>none
inductive Fl where
 |next|brk|cont|ret (r:Sl)
abbrev MS:=R->AB (Fl×R)
def Vy (K:AF)(B:Bs)(G H:Hp)(v:V):Sl->Prop
 | .val d=>RepD K G v d
 | .own ds=>∃l xs,v= .ref l/\G l=none/\H l=some (.lst xs)/\RepL K G xs ds/\B.H l=none
 | .tre t=>∃A,RepT K G H v t A/\A.Nodup/\∀a∈A,G a=none/\B.H a=none
 | .two ds es=>∃t l xs m ys,v= .ref t/\H t=some (.tup [.ref l,.ref m])/\l≠m/\G l=none/\H l=some (.lst xs)/\RepL K G xs ds/\B.H l=none/\G m=none/\H m=some (.lst ys)/\RepL K G ys es/\B.H m=none
 |_=>False
def Post (K:AF)(B:Bs)(G:Hp)(E:Ends)(fl:Fl)(ρ':R):Prop:=match fl with
 | .next=>∀G' H' σ',SI K B G' H' σ' ρ'->Fz G G'->E.nx σ' H'
 | .brk=>∀G' H' σ',SI K B G' H' σ' ρ'->Fz G G'->E.bk σ' H'
 | .cont=>∀G' H' σ',SI K B G' H' σ' ρ'->Fz G G'->E.ct σ' H'
 | .ret r=>∀G' H' σ' v,SI K B G' H' σ' ρ'->Fz G G'->Vy K B G' H' v r->E.rt v H'
theorem Post.mono {G G1:Hp}{E:Ends}{fl:Fl}(h:Post K B G E fl ρ')(f:Fz G G1):Post K B G1 E fl ρ':=by
 cases fl with
 |next=>exactλG' H' σ' I g=>h G' H' σ' I (f.trans g)
 |brk=>exactλG' H' σ' I g=>h G' H' σ' I (f.trans g)
 |cont=>exactλG' H' σ' I g=>h G' H' σ' I (f.trans g)
 |ret r=>exactλG' H' σ' v I g=>h G' H' σ' v I (f.trans g)
def SSb (X:Cx)(st:Stmt)(m:MS)(t:TS):Prop:=∀B G H σ ρ fl ρ' (E:Ends),SI X.K B G H σ ρ->m ρ=some (fl,ρ')->Post X.K B G E fl ρ'->t E σ H
def SS (X:Cx)(st:Stmt)(m:MS):Prop:=∃t,PS X st t/\SSb X st m t
theorem SS.el {st:Stmt}(h:SS X st m)(k:∀t,PS X st t->SSb X st m t->C):C:=h.elim λt q=>k t q.1 q.2
def Ul (X:Cx)(st:AA Stmt)(m:MS)(t:TS):Prop:=∀B G H σ ρ fl ρ' (E:Ends),SI X.K B G H σ ρ->m ρ=some (fl,ρ')->Post X.K B G E fl ρ'->t E σ H
def SSs (X:Cx)(st:AA Stmt)(m:MS):Prop:=∃t,PSs X st t/\Ul X st m t
theorem SSs.el {st:AA Stmt}(h:SSs X st m)(k:∀t,PSs X st t->Ul X st m t->C):C:=h.elim λt q=>k t q.1 q.2
def eG:MS:=λρ=>some (.next,ρ)
def aJ (a b:MS):MS:=λρ=>(a ρ).bind λp=>match p.1 with
 | .next=>b p.2
 |f=>some (f,p.2)
section
variable {X:Cx}{st:Stmt}{rest:AA Stmt}{m n:MS}{e:AI}{me:ME}{pos:Pos}
theorem eM:SSs X [] eG:=⟨_,uO,λB G H σ ρ fl ρ' E I hm k=>by exists bK hm;exact k G H σ I (Fz.refl G)⟩
theorem aU (h:SS X st m):SSs X [st] m:=h.el λt p s=>⟨t,wQ p,s⟩
theorem aT (h:SS X st m)(hr:SSs X rest n):SSs X (st::rest) (aJ m n):=by
 refine h.el λt p s=>?_
 refine hr.el λu q z=>?_
 refine⟨_,mE p q,λB G H σ ρ fl ρ' E I hm k=>?_⟩;refine bD hm λf ρ1 e1 e2=>?_
 refine s B G H σ ρ f ρ1 _ I e1 ?_;cases f with
 |next=>exactλG1 H1 σ1 I1 f1=>z B G1 H1 σ1 ρ1 fl ρ' E I1 e2 (k.mono f1)
 |brk=>exists bK e2;exact k
 |cont=>exists bK e2;exact k
 |ret r=>exists bK e2;exact k
def Qn (m:ME):MS:=λρ=>(m ρ).map λp=>(.next,p.2)
theorem znd (h:SE X e me)(hs:swapsWith e none pos.line X.env=pure false:=by rfl):SS X (.Expr e pos) (Qn me):=by
 refine h.el λt p s=>?_
 refine⟨_,zk3 p hs,λB G H σ ρ fl ρ' E I hm k=>?_⟩;refine jA hm λd ρ1 e1 e2=>?_
 cases e2;exact s B G H σ ρ d ρ1 _ I e1 λG1 H1 v I1 f1 _=>k G1 H1 σ I1 f1
def bA (m:ME):MS:=λρ=>(m ρ).map λp=>(.ret (.val p.1),p.2)
theorem cQ (h:SE X e me):SS X (.Return (some e) pos) (bA me):=by
 refine h.el λt p s=>?_
 refine⟨_,zo7 p,λB G H σ ρ fl ρ' E I hm k=>?_⟩;refine jA hm λd ρ1 e1 e2=>?_
 cases e2;exact s B G H σ ρ d ρ1 _ I e1 λG1 H1 v I1 f1 r1=>k G1 H1 σ v I1 f1 r1
def lS (m:MO):MS:=λρ=>(m ρ).map λp=>(.ret (.own p.1),p.2)
theorem tU {mo:MO}(h:SO X e mo):SS X (.Return (some e) pos) (lS mo):=by
 refine h.el λt p s=>?_
 refine⟨_,zo7 p,λB G H σ ρ fl ρ' E I hm k=>?_⟩;refine jA hm λd ρ1 e1 e2=>?_
 cases e2;exact s B G H σ ρ d ρ1 _ I e1 λG1 H1 l xs I1 f1 g1 h1 r1 b1 _=>k G1 H1 σ _ I1 f1 ⟨l,xs,rfl,g1,h1,r1,b1⟩
theorem SI.emp (I:SI K B G H σ ρ)(i:Nat):SI K B G H σ (ρ.set i .emp):=by
 by_cases hi:i<ρ.length
 ·have hs:σ[i]? =some (σ[i]'(by rw[I.len];exact hi)):=bI _;have h:=I.chg (i:=i) (ov:=σ[i]'(by rw[I.len];exact hi)) (s':= .emp) I.fz (Fz.refl G) I.new I.keep I.there (λ_ _ _ _ _ _ g _=>⟨g,rfl,id⟩) trivial;rwa[pA hs]at h
 ·rw[List.set_eq_of_length_le ∅];exact I
def tP (i:Nat):MS:=λρ=>match ρ[i]? with
 |some (.val d)=>some (.ret (.val d),ρ)
 |some (.own ds)=>some (.ret (.own ds),ρ.set i .emp)
 |_=>none
theorem Js (i:Nat)(hN:X.N[i]? =some x:=by rfl)(hv:dJ X.env.scope x:=by trivial)(hd:(x==("__debug__":Str))=false:=by decide)(hcd:(x==("__classdict__":Str))=false:=by decide):SS X (.Return (some (.Name x pos')) pos) (tP i):=by
 refine⟨_,zo7 (eB hN hv hd hcd),λB G H σ ρ fl ρ' E I hm k=>?_⟩;unfold tP at hm;cases e:ρ[i]? with
 |none=>rw[e]at hm;exact aI hm
 |some s=>
  rw[e]at hm;have h:=I.slot i s e;cases s with
  |emp=>exact aI hm
  |two _ _=>exact aI hm
  |tre _=>exact aI hm
  |ptr _=>exact aI hm
  |par ds=>exact aI hm
  |val d=>exists bK hm;obtain⟨v,h1,h2⟩:=h;exact⟨v,h1,k G H σ v I (Fz.refl G) h2⟩
  |own ds=>
   exists bK hm;obtain⟨l,xs,h1,h2,h3,h4,h5⟩:=h;exact⟨.ref l,h1,k G H σ _ (I.emp i) (Fz.refl G) ⟨l,xs,rfl,h2,h3,h4,h5⟩⟩
def dF (c:MT)(a b:MS):MS:=λρ=>(c ρ).bind λp=>if p.1 then a p.2 else b p.2
theorem dX {c:AI}{a b:AA Stmt}{ma mb:MS}(hc:STt X c mc)(ha:SSs X a ma)(hb:SSs X b mb):SS X (.If c a b pos) (dF mc ma mb):=by
 refine hc.el λtc pc sc=>?_
 refine ha.el λta pa sa=>?_
 refine hb.el λtb pb sb=>?_
 refine⟨_,Vf pc pa pb,λB G H σ ρ fl ρ' E I hm k=>?_⟩;refine bD hm λx ρ1 e1 e2=>?_
 refine sc B G H σ ρ x ρ1 _ I e1 λG1 H1 I1 f1=>?_
 cases x with
 |true=>exact sa B G1 H1 σ ρ1 fl ρ' E I1 e2 (k.mono f1)
 |false=>exact sb B G1 H1 σ ρ1 fl ρ' E I1 e2 (k.mono f1)
end
def SGb (X:Cx)(tg:AI)(g:D->R->AB R)(t:TG):Prop:=∀B G H σ ρ v d ρ' (Q:St->Hp->Prop),SI X.K B G H σ ρ->RepD X.K G v d->g d ρ=some ρ'->(∀G' H' σ',SI X.K B G' H' σ' ρ'->Fz G G'->Q σ' H')->t v σ H Q
def SG (X:Cx)(tg:AI)(g:D->R->AB R):Prop:=∃t,PG X tg t/\SGb X tg g t
theorem SG.el (h:SG X tg g)(k:∀t,PG X tg t->SGb X tg g t->C):C:=h.elim λt q=>k t q.1 q.2
def Ve (X:Cx)(tgs:AA AI)(g:AA D->R->AB R)(t:tZ):Prop:=∀B G H σ ρ vs ds ρ' (Q:St->Hp->Prop),SI X.K B G H σ ρ->RepL X.K G vs ds->g ds ρ=some ρ'->(∀G' H' σ',SI X.K B G' H' σ' ρ'->Fz G G'->Q σ' H')->t vs σ H Q
def SGs (X:Cx)(tgs:AA AI)(g:AA D->R->AB R):Prop:=∃t,Lc X tgs t/\Ve X tgs g t
theorem SGs.el {g:AA D->R->AB R}(h:SGs X tgs g)(k:∀t,Lc X tgs t->Ve X tgs g t->C):C:=h.elim λt q=>k t q.1 q.2
def gN (i:Nat):D->R->AB R:=λd ρ=>some (ρ.set i (.val d))
def iR:AA D->R->AB R:=λds ρ=>match ds with
 |[]=>some ρ
 |_=>none
def dB (g:D->R->AB R)(h:AA D->R->AB R):AA D->R->AB R:=λds ρ=>match ds with
 |d::ds=>(g d ρ).bind λρ1=>h ds ρ1
 |[]=>none
def gT (n:Nat)(g:AA D->R->AB R):D->R->AB R:=λd ρ=>match d with
 | .tup ds=>if ds.length=n then g ds ρ else none
 |_=>none
section
variable {X:Cx}{pos:Pos}
theorem bG (i:Nat)(hN:X.N.Nodup)(hi:X.N[i]? =some x:=by rfl)(hx:jX X.env.scope x:=by trivial)(hf:X.fn x=true\/X.env.scope.names.lookup x=some .local:=by trivial):SG X (.Name x pos) (gN i):=
 ⟨_,zps hN hi hx hf,λB G H σ ρ v d ρ' Q I r hm k=>by cases hm;exact k G H _ (I.set r) (Fz.refl G)⟩
theorem jK:SGs X [] iR:=⟨_,xQ,λB G H σ ρ vs ds ρ' Q I r hm k=>by
 cases ds with
 |nil=>cases hm;exact⟨r,k G H σ I (Fz.refl G)⟩
 |cons=>exact aI hm⟩
theorem dU {e:AI}(h1:SG X e g)(h2:SGs X es h)(hs:(assignEach (e::es) X.env).map (·.2)=assign e X.env::(assignEach es X.env).map (·.2):=by rfl):SGs X (e::es) (dB g h):=by
 refine h1.el λt p s=>?_
 refine h2.el λu q z=>?_
 refine⟨_,mG p q hs,λB G H σ ρ vs ds ρ' Q I r hm k=>?_⟩;cases ds with
 |nil=>exact aI hm
 |cons d ds=>
  obtain⟨x,ys,rfl,rx,ry⟩:=r;refine aP hm λρ1 e1 e2=>?_
  exact⟨x,ys,rfl,s B G H σ ρ x d ρ1 _ I rx e1 λG1 H1 σ1 I1 f1=>z B G1 H1 σ1 ρ1 ys ds ρ' Q I1 (ry.mono f1) e2 λG2 H2 σ2 I2 f2=>k G2 H2 σ2 I2 (f1.trans f2)⟩
theorem lG {g:AA D->R->AB R}(hc:X.calm=true)(h:SGs X es g)(hn:(assignEach es X.env).length=n:=by rfl)(hst:(assignEach es X.env).findIdx? (·.1)=none:=by rfl):SG X (.Tuple es k pos) (gT n g):=by
 refine h.el λt p s=>?_
 refine⟨_,Lx hc p hn hst,λB G H σ ρ v d ρ' Q I r hm k=>?_⟩;cases d<;>try exact aI hm
 rename_i ds;simp only[gT]at hm;refine aY hm λhl hm=>?_
 ·skip
  obtain⟨a,xs,e,ha,rx⟩:=I.tup r;exact⟨a,xs,e,SqT.of ha,by rw[rx.length];exact hl,s B G H σ ρ xs ds ρ' Q I rx hm k⟩
variable {e tg:AI}{me:ME}{mo:MO}
def jZ (m:ME)(g:D->R->AB R):MS:=λρ=>(m ρ).bind λp=>(g p.1 p.2).map λρ'=>(.next,ρ')
theorem Yj (he:SE X e me)(hg:SG X tg g)(hs:swapsWithSole [tg] e pos.line X.env=pure false:=by rfl)(hw:swappedStores [tg] e X.env=pure none:=by rfl)(h1:(assignEach [tg] X.env).map (·.2)=[assign tg X.env]:=by rfl):SS X (.Assign [tg] e pos) (jZ me g):=by
 refine he.el λt p s=>?_
 refine hg.el λu q z=>?_
 refine⟨_,Er p q hs hw h1,λB G H σ ρ fl ρ' E I hm k=>?_⟩;refine bD hm λd ρ1 e1 h2=>?_
 refine bQ h2 λρ2 e2 e3=>?_
 exists Prod.mk.inj e3;exact s B G H σ ρ d ρ1 _ I e1 λG1 H1 v I1 f1 r1=>z B G1 H1 σ ρ1 v d ρ2 _ I1 r1 e2 λG2 H2 σ2 I2 f2=>k G2 H2 σ2 I2 (f1.trans f2)
def aS (i:Nat)(m:ME):MS:=λρ=>(m ρ).map λp=>(.next,p.2.set i (.val p.1))
theorem bV (i:Nat)(he:SE X e me)(hN:X.N.Nodup)(hi:X.N[i]? =some x:=by rfl)(hx:jX X.env.scope x:=by trivial)(hs:swapsWith e (some (.Name x pos')) pos.line X.env=pure false:=by rfl)(hf:X.fn x=true\/X.env.scope.names.lookup x=some .local:=by trivial):SS X (.Assign [.Name x pos'] e pos) (aS i me):=by
  refine he.el λt p s=>?_
  refine⟨_,zqf hN hi hx p hs hf,λB G H σ ρ fl ρ' E I hm k=>?_⟩;refine jA hm λd ρ1 e1 e3=>?_
  cases e3;exact s B G H σ ρ d ρ1 _ I e1 λG1 H1 v I1 f1 r1=>k G1 H1 _ (I1.set r1) f1
def rZ (i:Nat)(m:MO):MS:=λρ=>(m ρ).map λp=>(.next,p.2.set i (.own p.1))
theorem vG (i:Nat)(he:SO X e mo)(hN:X.N.Nodup)(hi:X.N[i]? =some x:=by rfl)(hx:jX X.env.scope x:=by trivial)(hs:swapsWith e (some (.Name x pos')) pos.line X.env=pure false:=by rfl)(hf:X.fn x=true\/X.env.scope.names.lookup x=some .local:=by trivial):SS X (.Assign [.Name x pos'] e pos) (rZ i mo):=by
  refine he.el λt p s=>?_
  refine⟨_,zqf hN hi hx p hs hf,λB G H σ ρ fl ρ' E I hm k=>?_⟩;refine jA hm λd ρ1 e1 e3=>?_
  cases e3;exact s B G H σ ρ d ρ1 _ I e1 λG1 H1 l xs I1 f1 g1 h1 r1 b1 n1=>k G1 H1 _ (I1.setO g1 h1 r1 b1 n1) f1
def gB (i:Nat)(m:ME):MS:=λρ=>if(ρ[i]?.bind Sl.items).isSome then(m ρ).bind λp=>p.2[i]?.bind λs=>s.items.bind λds=>if ds.length<16777216 then some (.next,p.2.set i (s.put (ds++[p.1])))else none else none
theorem De (i:Nat){pos' apos cpos:Pos}(he:SE X e me)(hN:X.N[i]? =some x:=by rfl)(hv:dJ X.env.scope x:=by trivial)(hd:(x==("__debug__":Str))=false:=by decide)(hcd:(x==("__classdict__":Str))=false:=by decide)(hbase:attributeBase (.Name x pos') "append" X.env (eval (.Name x pos') X.env)=eval (.Name x pos') X.env:=by rfl)(hfew : ((backTo cpos (starEach [e] X.env)).all (λx => !x.1) && (backToKw cpos (keywordEach [] X.env)).all (λx => x.1.isSome)
   &&decide ([e].length+([]:AA Keyword).length+(if([]:AA Keyword).isEmpty then 0 else 1)<30))=true:=by rfl)(hline:(apos.endLine==cpos.line)=true:=by rfl)(hs:starEach [e] X.env=(false,eval e X.env)::starEach [] X.env:=by rfl):SS X (.Expr (.Call (.Attribute (.Name x pos') "append" apos) [e] [] cpos) pos) (gB i me):=by
 refine he.el λt p s=>?_
 refine⟨_,zk3 (sV qb7 PySem.F.slot_list_append PySem.F.type_list_append zlI (eB hN hv hd hcd) (jJ p mS hs) hbase hfew hline hs rfl) (by rfl),λB G H σ ρ fl ρ' E I hm k=>?_⟩;unfold gB at hm;refine aY hm λhso hm=>?_
 ·skip
  obtain⟨ds0,hso⟩:=qa1.mp hso;refine aP hso λs0 e0 q0=>?_
  obtain⟨l,xs0,h1,h2,h3,h4⟩:=I.wr e0 q0;refine bD hm λd ρ1 e1 hm=>?_
  refine aP hm λs1 e2 hm=>?_
  refine aP hm λds e3 hm=>?_
  refine aY hm λhl hm=>?_
  ·skip
   exists bK hm;refine⟨.ref l,h1,.inl ⟨rfl,_,SqL.of h3⟩,s B G H σ ρ d ρ1 _ I e1 λG1 H1 v I1 f1 r1=>?_⟩;obtain⟨l',xs,k1,k2,k3,k4⟩:=I1.wr e2 e3;rw[h1]at k1;cases k1;refine⟨l,xs,v,rfl,rfl,k3,by rw[k4.length,gZ];exact hl,?_⟩;exact k G1 _ σ (I1.write e2 e3 h1 (k4.snoc r1)) f1
def nN (j:Nat)(mi me:ME):MS:=λρ=>(me ρ).bind λp=>if eJ p.2 j then(mi p.2).bind λq=>match q.1 with
 | .int k=>q.2[j]?.bind λs=>s.items.bind λds=>(eU ds.length k).bind λn=>some (.next,q.2.set j (s.put (ds.set n p.1)))
 |_=>none else none
theorem zqr (j:Nat){i:AI}{mi:ME}{pos' tpos:Pos}(he:SE X e me)(hi:SE X i mi)(hN:X.N[j]? =some x:=by rfl)(hv:dJ X.env.scope x:=by trivial)(hd:(x==("__debug__":Str))=false:=by decide)(hcd:(x==("__classdict__":Str))=false:=by decide)(ha : ∀ v, assign (.Subscript (.Name x pos') i tpos) X.env v = (do
   let ov<-holding [v] (eval (.Name x pos') X.env)
   let iv<-holding [v,ov] (eval i X.env)
   standAt tpos
   holding [v,ov,iv] (setItem ov iv v)
   release [v,ov,iv] []):=by exactλ_=>rfl)(hs:swapsWithSole [.Subscript (.Name x pos') i tpos] e pos.line X.env=pure false:=by rfl)(hw:swappedStores [.Subscript (.Name x pos') i tpos] e X.env=pure none:=by rfl)(h1:(assignEach [.Subscript (.Name x pos') i tpos] X.env).map (·.2)=[assign (.Subscript (.Name x pos') i tpos) X.env]:=by rfl):SS X (.Assign [.Subscript (.Name x pos') i tpos] e pos) (nN j mi me):=by
 refine he.el λt p s=>?_
 refine hi.el λu q z=>?_
 refine⟨_,Er p (Sm (eB hN hv hd hcd) q Qe ha) hs hw h1,λB G H σ ρ fl ρ' E I hm k=>?_⟩;refine bD hm λd ρ1 e1 hm=>?_
 refine s B G H σ ρ d ρ1 _ I e1 λG1 H1 v I1 f1 r1=>?_
 refine aY hm λhh hm=>?_
 ·skip
  obtain⟨w,ew⟩:=I1.has hh;refine bD hm λkd ρ2 e2 hm=>?_
  cases kd<;>try exact aI hm
  rename_i kk;refine aP hm λs2 e3 hm=>?_
  refine aP hm λds e4 hm=>?_
  refine aP hm λn e5 hm=>?_
  exists bK hm;refine⟨w,ew,z B G1 H1 σ ρ1 (.int kk) ρ2 _ I1 e2 λG2 H2 y I2 f2 r2=>?_⟩;obtain⟨l,xs,k1,k2,k3,k4⟩:=I2.wr e3 e4;rw[ew]at k1;cases k1;refine⟨l,xs,kk,n,rfl,r2,k3,by rw[k4.length];exact e5,?_⟩;exact k G2 _ σ (I2.write e3 e4 ew (k4.set n (r1.mono f2))) (f1.trans f2)
end
structure Itm (K:W.Frag)(J:It)(G:Hp)(items:List D):Prop where
 go:∀H i,Fz G H->i<items.length->J.go i H
 yld:∀H i x H',Fz G H->J.yld i H x H'->∀d,items[i]? =some d->(H'=H/\RepD K G x d)\/∃p xs ds,H p=none/\H'=upd H p (.tup xs)/\x= .ref p/\d= .tup ds/\RepL K G xs ds
 stop:∀H i,Fz G H->items.length<=i->J.stop i H
def nD (X:Cx)(tg it:AI)(m:MA)(wi:TI):Prop:=∀B G H σ ρ ds ρ' (Q:It->Hp->Prop),SI X.K B G H σ ρ->m ρ=some (ds,ρ')->(∀J G' H',SI X.K B G' H' σ ρ'->Fz G G'->Itm X.K J G' ds->Q J H')->wi σ H Q
def SIt (X:Cx)(tg it:AI)(m:MA):Prop:=∃wi,PI X tg it wi/\nD X tg it m wi
theorem SIt.el {m:MA}(h:SIt X tg it m)(k:∀wi,PI X tg it wi->nD X tg it m wi->C):C:=h.elim λwi q=>k wi q.1 q.2
def eQ (f:D->R->AB (Fl×R)):AA D->R->AB (Fl×R)
 |[],ρ=>some (.next,ρ)
 |d::ds,ρ=>(f d ρ).bind λp=>match p.1 with
  | .next=>eQ f ds p.2
  | .cont=>eQ f ds p.2
  | .brk=>some (.next,p.2)
  | .ret r=>some (.ret r,p.2)
def dA (mi:MA)(g:D->R->AB R)(mb:MS):MS:=λρ=>(mi ρ).bind λp=>eQ (λd ρ=>(g d ρ).bind λρ'=>mb ρ') p.1 p.2
theorem SI.yld {x:V}(I:SI K B G H σ ρ)(h:(H'=H/\RepD K G x d)\/∃p xs ds,H p=none/\H'=upd H p (.tup xs)/\x= .ref p/\d= .tup ds/\RepL K G xs ds):∃G',SI K B G' H' σ ρ/\Fz G G'/\RepD K G' x d:=by
 rcases h with⟨rfl,r⟩|⟨p,xs,ds,hp,rfl,rfl,rfl,r⟩
 ·exact⟨G,I,Fz.refl G,r⟩
 ·obtain⟨I2,f2,r2⟩:=I.newT hp r;exact⟨_,I2,f2,r2⟩
theorem jS {mi:MA}{mb:MS}(hp:PassesOwn (model X.prog X.w) X.A X.env X.xe)(hc:X.calm=true)(hi:SIt X tg it mi)(hg:SG X tg g)(hb:SSs X body mb)(hs:∀x,foldedSetIterable it X.env x=pure x:=by exactλ_=>rfl):SS X (.For tg it body [] pos) (dA mi g mb):=by
  refine hi.el λwi pi si=>?_
  refine hg.el λtg' pg sg=>?_
  refine hb.el λtb pb sb=>?_
  refine⟨_,Io hp hc pi pg pb hs,λB G H σ ρ fl ρ' E I hm k=>?_⟩;refine bD hm λds ρ1 e1 hm=>?_
  refine si B G H σ ρ ds ρ1 _ I e1 λJ G1 H1 I1 f1 IT=>?_
  refine⟨λi m σ H=>m=ds.length-i/\i<=ds.length/\∃G2 ρ2,SI X.K B G2 H σ ρ2/\Fz G1 G2/\eQ (λd ρ=>(g d ρ).bind λρ'=>mb ρ') (ds.drop i) ρ2=some (fl,ρ'),⟨ds.length,by simp,gR _,G1,ρ1,I1,Fz.refl _,~~~hm⟩,?_⟩;rintro i m σ2 H2 ⟨rfl,hi,G2,ρ2,I2,f2,e2⟩
  by_cases hlt:i<ds.length
  . rw[qb8 hlt]at e2
    simp only[eQ]at e2;refine bD e2 λf ρ3 e3 e4=>?_
    refine aP e3 λρ2' e5 e6=>?_
    have fz2:Fz G1 H2:=f2.trans I2.fz;refine .inr ⟨IT.go H2 i fz2 hlt,λσ' H'=>(∃G3,SI X.K B G3 H' σ' ρ3/\Fz G1 G3)/\(f= .next\/f= .cont),?_,λx H' y=>?_⟩
    . rintro σ' H' ⟨⟨G3,I3,f3⟩,hf⟩
      refine⟨ds.length-(i+1),∅,rfl,hlt,G3,ρ3,I3,f3,?_⟩;rcases hf with rfl|rfl<;>exact e4
    . have yy:=IT.yld H2 i x H' fz2 y ds[i] (bI hlt)
      have yy2:(H'=H2/\RepD X.K G2 x ds[i])\/∃p xs es,H2 p=none/\H'=upd H2 p (.tup xs)/\x= .ref p/\ds[i]= .tup es/\RepL X.K G2 xs es:=by
        rcases yy with⟨a,b⟩|⟨p,xs,es,a,b,c,d,e⟩
        . exact .inl ⟨a,b.mono f2⟩
        . exact .inr ⟨p,xs,es,a,b,c,d,e.mono f2⟩
      obtain⟨G3,I3,f3,r3⟩:=I2.yld yy2;refine sg B G3 H' σ2 ρ2 x ds[i] ρ2' _ I3 r3 e5 λG4 H4 σ4 I4 f4=>sb B G4 H4 σ4 ρ2' f ρ3 _ I4 e6 ?_
      have ff:Fz G1 G4:=f2.trans (f3.trans f4);cases f with
      |next=>exactλG5 H5 σ5 I5 f5=>⟨⟨G5,I5,ff.trans f5⟩,.inl rfl⟩
      |cont=>exactλG5 H5 σ5 I5 f5=>⟨⟨G5,I5,ff.trans f5⟩,.inr rfl⟩
      |brk=>exists bK e4;exactλG5 H5 σ5 I5 f5=>k G5 H5 σ5 I5 (f1.trans (ff.trans f5))
      |ret r=>exists bK e4;exactλG5 H5 σ5 v I5 f5=>k G5 H5 σ5 v I5 (f1.trans (ff.trans f5))
  . have e:i=ds.length:=∅
    subst e;rw[List.drop_length]at e2;exists bK e2;exact .inl ⟨IT.stop H2 _ (f2.trans I2.fz) (bC _),k G2 H2 σ2 I2 (f1.trans f2)⟩
section
variable {X:Cx}{tg it:AI}{me:ME}
def bL (m:ME):MA:=λρ=>(m ρ).bind λp=>(eE [p.1]).map λds=>(ds,p.2)
theorem Rg {l:AI}{tl:TE}(hl:PE X l tl):PI X tg l (λσ H R=>tl σ H λx H1=>∃a,x= .ref a/\(((∃xs,SqL X.K H1 a xs)/\R (Itl X.K a) H1)\/((∃xs,SqT X.K H1 a xs)/\R (Itt X.K a) H1))):=by
 intro AM s σ H R I h;refine aW (hl AM s σ H _ I h) λv s1 ⟨x,H1,I1,r1,q1⟩=>?_
 obtain⟨a,e,q⟩:=q1;subst e;cases r1;rcases q with⟨⟨xs,hq⟩,q⟩|⟨⟨xs,hq⟩,q⟩
 ·obtain⟨its,rv,p,hz⟩:=I1.list hq;refine wpAny_pyIter_list p.isList ?_;refine⟨s1⁻¹,[s1⁻¹],_,_,H1,rfl,I1.kept (t':=s1.toks) λb o e=>bP _ e,zpt a _,⟨_,eN _ rfl,rfl,rfl⟩,λb hb=>?_,q⟩;have e:b=s1⁻¹:= ~~~hb
  subst e;exact I1.fpOk (bC _) (I1.hok.fresh (bC _))
 ·obtain⟨its,rv,p,hz⟩:=I1.tuple hq;refine qb9 (show s1.heap.IsTuple a its.toArray from p) ?_;refine⟨s1⁻¹,[s1⁻¹],_,_,H1,rfl,I1.kept (t':=s1.toks) λb o e=>bP _ e,zoK a _,⟨_,eN _ rfl,rfl,rfl⟩,λb hb=>?_,q⟩;have e:b=s1⁻¹:= ~~~hb
  subst e;exact I1.fpOk (bC _) (I1.hok.fresh (bC _))
theorem znF {a:AD}(hg:SqL K G a xs)(r:RepL K G xs ds):Itm K (Itl K a) G ds where
 go:=λH i f hi=>by
  have hl:=r.length;exact⟨xs,xs[i],f.sql hg,bI ∅⟩
 yld:=λH i x H' f y d e=>by
  obtain⟨rfl,y⟩:=y;have hx:=y xs (f.sql hg);obtain⟨x',h1,h2⟩:=r.get e;rw[hx]at h1;cases h1;exact .inl ⟨rfl,h2⟩
 stop:=λH i f hi=>⟨xs,f.sql hg,by rw[r.length];exact hi⟩
theorem Av {a:AD}(hg:G a=some (.tup xs))(r:RepL K G xs ds):Itm K (Itt K a) G ds where
 go:=λH i f hi=>by
  have hl:=r.length;exact⟨xs,xs[i],SqT.of (f _ _ hg),bI ∅⟩
 yld:=λH i x H' f y d e=>by
  obtain⟨rfl,y⟩:=y;have hx:=y xs (SqT.of (f _ _ hg));obtain⟨x',h1,h2⟩:=r.get e;rw[hx]at h1;cases h1;exact .inl ⟨rfl,h2⟩
 stop:=λH i f hi=>⟨xs,SqT.of (f _ _ hg),by rw[r.length];exact hi⟩
theorem eP (h:SE X it me):SIt X tg it (bL me):=by
 refine h.el λt p s=>?_
 refine⟨_,Rg p,λB G H σ ρ ds ρ' Q I hm k=>?_⟩;refine bD hm λd ρ1 e1 hm=>?_
 refine bQ hm λes e2 e3=>?_
 cases e3;refine s B G H σ ρ d ρ1 _ I e1 λG1 H1 v I1 f1 r1=>?_
 cases d<;>simp only[eE]at e2<;>try cases e2
 ·obtain⟨a,xs,rfl,ha,r⟩:=r1;exact⟨a,rfl,.inl ⟨⟨xs,SqL.of (I1.fz _ _ ha)⟩,k _ G1 H1 I1 f1 (znF (SqL.of ha) r)⟩⟩
 ·obtain⟨a,xs,rfl,ha,r⟩:=r1;exact⟨a,rfl,.inr ⟨⟨xs,SqT.of (I1.fz _ _ ha)⟩,k _ G1 H1 I1 f1 (Av ha r)⟩⟩
 ·obtain⟨a,rfl,ha⟩:=r1;exact⟨a,rfl,.inl ⟨⟨_,I1.fz.sql ha⟩,k _ G1 H1 I1 f1 (znF ha (RepL.ints _))⟩⟩
end
def iX (lo:Int)(n:Nat):AA D:=(List.range n).map λ(i:Nat)=>D.int (lo+(i:Int))
theorem zqu (lo:Int)(n:Nat):Itm K (Zz lo n) G (iX lo n) where
 go:=λH i f hi=>by show i<n;simpa[iX]using hi
 yld:=λH i x H' f y d e=>by
  exists y;unfold iX at e;rw[cJ]at e;cases q:(List.range n)[i]? with
  |none=>rw[q]at e;exact aI e
  |some j=>
   rw[q]at e;have hj:j=i:=by
    have:=qas.mp q;obtain⟨h1,h2⟩:=this;simpa using h2.symm
   subst hj;cases e;exact .inl ⟨rfl,rfl⟩
 stop:=λH i f hi=>by show n<=i;simpa[iX]using hi
def mB (j:Int):Bool:=decide (-1000000000000<=j)&&decide (j<=1000000000000)
theorem My {j:Int}(h:mB j=true): -(2^62)<=j/\j<2^62:=by
 unfold mB at h;simp only[cV,iN]at h;lia
def jB (ma:MA):MA:=λρ=>(ma ρ).bind λp=>match p.1 with
 |[.int j]=>if mB j then some (iX 0 j.toNat,p.2)else none
 |_=>none
def iR2 (ma:MA):MA:=λρ=>(ma ρ).bind λp=>match p.1 with
 |[.int i,.int j]=>if mB i&&mB j then some (iX i (j-i).toNat,p.2)else none
 |_=>none
section
variable {X:Cx}{tg a b:AI}{ma:MA}{p pos:Pos}
theorem jR (hm:X.mg "range"=none)(ha:SA X [a] ma)(hg:Gl X "range":=by rfl)(hs:starEach [a] X.env=[(false,eval a X.env)]:=by rfl):SIt X tg (.Call (.Name "range" p) [a] [] pos) (jB ma):=by
 obtain⟨t,pa,sa⟩:=ha;refine⟨_,zpH hg hm pa hs,λB G H σ ρ ds ρ' Q I hm k=>?_⟩;obtain⟨⟨es,ρ1⟩,e1,h2⟩:=Fu hm;dsimp only at h2;refine sa B G H σ ρ es ρ1 _ I e1 λG1 H1 vs I1 f1 r1=>?_
 split at h2
 ·rename_i j
  split at h2
  ·rename_i hj;cases h2;obtain⟨x,rfl,rx⟩:=r1.one;cases(show x=V.int j from rx);exact⟨j,rfl,(My hj).1,(My hj).2,k _ G1 H1 I1 f1 (zqu 0 _)⟩
  ·exact aI h2
 ·exact aI h2
end
def jO (K:AF)(G' H' H:Hp)(v:V):Sl->Prop
 | .val d=>RepD K G' v d
 | .own ds=>∃l xs,v= .ref l/\G' l=none/\H' l=some (.lst xs)/\RepL K G' xs ds/\H l=none
 | .tre t=>∃A,RepT K G' H' v t A/\A.Nodup/\∀a∈A,G' a=none/\H a=none
 | .two ds es=>∃t l xs m ys,v= .ref t/\H' t=some (.tup [.ref l,.ref m])/\l≠m/\G' l=none/\H' l=some (.lst xs)/\RepL K G' xs ds/\H l=none/\G' m=none/\H' m=some (.lst ys)/\RepL K G' ys es/\H m=none
 |_=>False
def aX (K:AF)(n:Nat)(F:AA D->AB Sl):Sp:=λvs H Q _=>∃G ds r,F ds=some r/\ds.length=n/\Fz G H/\RepL K G vs ds/\
 ∀G' H' v,Fz G G'->Fz G' H'->(∀b o,G' b=some o->G b≠none\/H b=none)->Fz H H'->jO K G' H' H v r->Q v H'
def fX (K:AF)(n:Nat)(F:AA D->AA D->AB (Sl×AA D)):Sp:=λvs H Q _=>∃G l xs cs ws ds r out,vs= .ref l::ws/\F cs ds=some (r,out)/\ds.length+1=n/\Fz G H/\G l=none/\H l=some (.lst xs)/\RepL K G xs cs/\RepL K G ws ds/\
 ∀G' H' v ys,Fz G G'->Fz G' H'->(∀b o,G' b=some o->G b≠none\/H b=none)->(∀b o,b≠l->H b=some o->H' b=some o)->G' l=none->H' l=some (.lst ys)->RepL K G' ys out->jO K G' H' H v r->Q v H'
def fP (N:Nat)(m:MS):AA D->AB Sl:=λds=>(m (ds.map .val++List.replicate (N-ds.length) .emp)).bind λp=>match p.1 with
 | .ret r=>some r
 | .next=>some (.val .non)
 |_=>none
def fM (N:Nat)(m:MS):AA D->AA D->AB (Sl×AA D):=λcs ds=>(m (.par cs::(ds.map .val++List.replicate (N-(ds.length+1)) .emp))).bind λp=>match p.1,(p.2[0]?:AB Sl)with
 |Fl.ret r,some (Sl.par out)=>some (r,out)
 |Fl.next,some (Sl.par out)=>some (.val .non,out)
 |_,_=>none
theorem ziL (h:vs.length<=N.length):(L2.start N vs).length=N.length:=by
 unfold L2.start;rw[eS,eI,Wv];lia
theorem SI.start (fz:Fz G H)(r:RepL K G vs ds)(h:ds.length<=N.length):
  SI K ⟨G,H,[]⟩ G H (L2.start N vs) (ds.map .val++List.replicate (N.length-ds.length) .emp) where
 fz:=fz
 g0:=Fz.refl G
 new:=λb o e=> .inl (by show G b≠none;rw[e];simp)
 keep:=λb o e _=>e
 there:=λb e=>e
 ob:=λi b m=>by cases m
 len:=by rw[ziL (by rw[r.length];exact h),eS,eI,Wv];lia
 slot:=λi s e=>by
  by_cases hi:i<ds.length
  ·rw[hG (~~~hi),cJ,bI hi]at e;cases e;obtain⟨x,h1,h2⟩:=r.get (bI hi);refine⟨x,?_,h2⟩;unfold L2.start;rw[hG (by rw[eI,r.length];exact hi),cJ,h1]
   rfl
  ·rw[uA (~~~hi),Dp]at e
   split at e
   ·cases e;trivial
   ·exact aI e
 dis:=λi j s _ a _ e _ w=>by
  exfalso
  by_cases hi:i<ds.length
  ·rw[hG (~~~hi),cJ,bI hi]at e;cases e;exact w
  ·rw[uA (~~~hi),Dp]at e
   split at e
   ·cases e;exact w
   ·exact aI e
theorem SI.startM (fz:Fz G H)(hg:G l=none)(hl:H l=some (.lst xs))(rc:RepL K G xs cs)(r:RepL K G vs ds)(h:ds.length+1<=N.length):
  SI K ⟨G,H,[(0,l)]⟩ G H (L2.start N (.ref l::vs)) (.par cs::(ds.map .val++List.replicate (N.length-(ds.length+1)) .emp)) where
 fz:=fz
 g0:=Fz.refl G
 new:=λb o e=> .inl (by show G b≠none;rw[e];simp)
 keep:=λb o e _=>e
 there:=λb e=>e
 ob:=λi b m=>by
  have:b=l:=((~~~m):i=0/\b=l).2;subst this;show H b≠none;rw[hl];simp
 len:=by
  have:=r.length;rw[ziL (by rw[eH,r.length];exact h),eH,eS,eI,Wv];lia
 slot:=λi s e=>by
  cases i with
  |zero=>simp at e;subst e;exact⟨l,xs,rfl,hg,hl,rc,by simp⟩
  |succ i=>
   rw[Pa]at e
   by_cases hi:i<ds.length
   ·rw[hG (~~~hi),cJ,bI hi]at e;cases e;obtain⟨x,h1,h2⟩:=r.get (bI hi);refine⟨x,?_,h2⟩;unfold L2.start;rw[eY,Qg,Pa,hG (by rw[eI,r.length];exact hi),cJ,h1]
    rfl
   ·rw[uA (~~~hi),Dp]at e
    split at e
    ·cases e;trivial
    ·exact aI e
 dis:=λi j s t a hij hi hj w1 w2=>by
  have z:∀(i:Nat) (s:Sl),(Sl.par cs::(ds.map .val++List.replicate (N.length-(ds.length+1)) .emp))[i]? =some s->cU K G H (L2.start N (.ref l::vs))[i]? a s->i=0:=λi s e q=>by
   cases i with
   |zero=>rfl
   |succ i=>
    exfalso;rw[Pa]at e
    by_cases hi:i<ds.length
    ·rw[hG (~~~hi),cJ,bI hi]at e;cases e;exact q
    ·rw[uA (~~~hi),Dp]at e
     split at e
     ·cases e;exact q
     ·exact aI e
  exact hij ((z i s hi w1).trans (z j t hj w2).symm)
section
variable {P:AJ}{w:World}{K:AF}{mg:Str->AB AC}{base:AK}
theorem zpp {st:Stmt}{f:AD}(F:Fun K x qual st f fd)(S:FnScope N ps (zaq st))(hn:ps.length=n)(hN:n<=N.length)(body:∀(cdv:AC) (A:Around) (outer:AA Env) (s:AE) (H:Hp) (E:XK),Room k (A.deeper (envOfC qual (zaq st) s⁻¹ f cdv))->SSs (gX iJ P w K mg base N qual (zaq st) f cdv A outer s H E).nox (zaS st) m):
  FnOk P w K mg base iJ (k+1) f fd ps (aX K n (fP N.length m)):=by
 refine F.ok S (λvs H Q E h=>?_) (λcdv A outer s H vs Q E hr h=>?_)
 ·obtain⟨G,ds,r,_,h2,_,h4,_⟩:=h;rw[h4.length,h2,hn]
 ·obtain⟨G,ds,r,e1,h2,fz,h4,kk⟩:=h;obtain⟨t,pt,so⟩:=body cdv A outer s H E hr;refine⟨t,pt,?_⟩;refine bD e1 λfl ρ' e2 e3=>?_
  refine so ⟨G,H,[]⟩ G H (L2.start N vs) _ fl ρ' _ (SI.start fz h4 ∅) e2 ?_;have fin:∀G' H' σ' v,SI K ⟨G,H,[]⟩ G' H' σ' ρ'->Fz G G'->jO K G' H' H v r->Q v H':=λG' H' σ' v I f rr=>kk G' H' v f I.fz I.new (λb o e=>I.keep b o e (by simp)) rr
  cases fl with
  |next=>cases e3;exactλG' H' σ' I f=>fin G' H' σ' .non I f rfl
  |brk=>exact aI e3
  |cont=>exact aI e3
  |ret r'=>
   cases e3;refineλG' H' σ' v I f rr=>fin G' H' σ' v I f ?_
   cases r with
   |val d=>exact rr
   |own ds=>exact rr
   |emp=>exact rr
   |two _ _=>exact rr
   |tre _=>exact rr
   |ptr _=>exact rr
   |par ds=>exact rr
theorem Fk {st:Stmt}{f:AD}(F:Fun K x qual st f fd)(S:FnScope N ps (zaq st))(hn:ps.length=n)(hN:n<=N.length)(body:∀(cdv:AC) (A:Around) (outer:AA Env) (s:AE) (H:Hp) (E:XK),Room k (A.deeper (envOfC qual (zaq st) s⁻¹ f cdv))->SSs (gX iJ P w K mg base N qual (zaq st) f cdv A outer s H E).nox (zaS st) m):
  FnOk P w K mg base iJ (k+1) f fd ps (fX K n (fM N.length m)):=by
 refine F.ok S (λvs H Q E h=>?_) (λcdv A outer s H vs Q E hr h=>?_)
 ·obtain⟨G,l,xs,cs,ws,ds,r,out,rfl,_,h2,_,_,_,_,h4,_⟩:=h;rw[eH,h4.length,h2,hn]
 ·obtain⟨G,l,xs,cs,ws,ds,r,out,rfl,e1,h2,fz,hg,hl,rc,h4,kk⟩:=h;obtain⟨t,pt,so⟩:=body cdv A outer s H E hr;refine⟨t,pt,?_⟩;refine bD e1 λfl ρ' e2 e3=>?_
  refine so ⟨G,H,[(0,l)]⟩ G H _ _ fl ρ' _ (SI.startM fz hg hl rc h4 ∅) e2 ?_;have fin:∀G' H' σ' v,ρ'[0]? =some (.par out)->SI K ⟨G,H,[(0,l)]⟩ G' H' σ' ρ'->Fz G G'->jO K G' H' H v r->Q v H':=λG' H' σ' v e0 I f rr=>by
   obtain⟨l',ys,k1,k2,k3,k4,k5⟩:=I.slot 0 _ e0;have:l'=l:= ~~~k5
   subst this;exact kk G' H' v ys f I.fz I.new (λb o hb e=>I.keep b o e (λi hm=>by simp at hm;exact hb hm.2)) k2 k3 k4 rr
  cases e0:ρ'[0]? with
  |none=>rw[e0]at e3;cases fl<;>exact aI e3
  |some s0=>
   rw[e0]at e3;cases s0 with
   |emp=>cases fl<;>exact aI e3
   |two _ _=>cases fl<;>exact aI e3
   |tre _=>cases fl<;>exact aI e3
   |ptr _=>cases fl<;>exact aI e3
   |val d=>cases fl<;>exact aI e3
   |own d=>cases fl<;>exact aI e3
   |par o2=>
    cases fl with
    |next=>exists bK e3;exactλG' H' σ' I f=>fin G' H' σ' .non e0 I f rfl
    |brk=>exact aI e3
    |cont=>exact aI e3
    |ret r'=>
     cases e3;refineλG' H' σ' v I f rr=>fin G' H' σ' v e0 I f ?_
     cases r with
     |val d=>exact rr
     |own ds=>exact rr
     |emp=>exact rr
     |two _ _=>exact rr
     |tre _=>exact rr
     |ptr _=>exact rr
     |par ds=>exact rr
end
structure FD (P:Program)(w:World)(K:W.Frag)(mg:Str->Option Value)(base:Heap)(k:Nat)(x:Str)(sp:Sp):Prop where
 ex:∃f fd ps,FnOk P w K mg base iJ k f fd ps sp/\mg x=some (.ref f)/\W.keepIn K (.ref f)=true/\Binds K fd ps []
theorem zqd (nw:∀b o,G' b=some o->G b≠none\/H b=none)(kp:Fz H H'):∀(i:Nat) (s:Sl) (a:AD),ρ[i]? =some s->cU K G H σ[i]? a s->G a=none->H a≠none->G' a=none/\H' a=H a:=λi s a _ _ g h=>by
 obtain⟨u,hu⟩:=qbW.mp h;refine⟨?_,(kp a u hu).trans hu.symm⟩;cases q:G' a with
 |none=>rfl
 |some u=>
  rcases nw a u q with z|z
  ·exact AH g z
  ·exact AH z h
theorem SI.grow (I:SI K B G H σ ρ)(f:Fz G G')(fz:Fz G' H')(nw:∀b o,G' b=some o->G b≠none\/H b=none)(kp:Fz H H'):SI K B G' H' σ ρ:=
 I.move fz f (λb o e=>by
  rcases nw b o e with h|h
  ·cases q:G b with
   |none=>exact AH q h
   |some u=>exact I.new b u q
  ·exact .inr (I.there b h)) (λb o e n=>kp b o (I.keep b o e n)) (λb e=>I.there b (kp.free e)) (zqd nw kp)
theorem SI.own_ne (I:SI K B G H σ ρ){p:AD}(hp:H p=none)(nw:∀b o,G' b=some o->G b≠none\/H b=none)(kp:Fz H H'):Nw K G' H' σ ρ p:=I.nw_move (I.nw hp) (zqd nw kp)
def cG (F:AA D->AB Sl)(ma:MA):ME:=λρ=>(ma ρ).bind λp=>(F p.1).bind λr=>match r with
 | .val d=>some (d,p.2)
 | .own ds=>some (.lst ds,p.2)
 |_=>none
def Kh (F:AA D->AB Sl)(ma:MA):MO:=λρ=>(ma ρ).bind λp=>(F p.1).bind λr=>match r with
 | .own ds=>some (ds,p.2)
 |_=>none
section
variable {X:Cx}{x:Str}{p pos:Pos}{e:AI}{es:AA AI}{ma:MA}{k k' n:Nat}{F:AA D->AB Sl}
theorem cK (fd:FD X.prog X.w X.K X.mg X.base k x (aX X.K n F))(hr:Room k' X.A)(ha:SA X (e::es) ma)(hn:(e::es).length=n:=by rfl)(hk:k<=k':=by decide)(hg:Gl X x:=by rfl)(hdb:(x==("__debug__":Str))=false:=by decide)(he:starEach (e::es) X.env=(false,eval e X.env)::starEach es X.env:=by rfl)(hpl:(backTo pos (starEach es X.env)).any (·.1)=false:=by rfl)(AO:∀ρ as ρ',ma ρ=some (as,ρ')->as.length=n):SE X (.Call (.Name x p) (e::es) [] pos) (cG F ma):=by
 obtain⟨f,fdd,ps,G0,h1,h2,h3⟩:=fd.ex;refine ha.el λt pa sa=>?_
 refine⟨_,Yy G0 (hr.mono hk) hg h1 h2 h3 .nil Bw pa hdb he hpl,λB G H σ ρ d ρ' Q I hm kk=>?_⟩;refine bD hm λas ρ1 e1 hm=>?_
 refine aP hm λr e2 hm=>?_
 refine sa B G H σ ρ as ρ1 _ I e1 λG1 H1 vs I1 f1 r1=>?_
 show aX X.K n F (vs++[]) H1 Q E0;rw[lE];refine⟨G1,as,r,e2,AO ρ as ρ1 e1,I1.fz,r1,λG2 H2 v f2 fz2 nw kp rr=>?_⟩;have I2:=I1.grow f2 fz2 nw kp;cases r with
 |val d'=>exists bK hm;exact kk G2 H2 v I2 (f1.trans f2) rr
 |own ds=>
  exists bK hm;obtain⟨l,xs,rfl,g3,h3,r3,b3⟩:=rr;obtain⟨I3,f3,r4⟩:=Ff I2 g3 h3 r3 (I1.there l b3) (I1.own_ne b3 nw kp);exact kk _ H2 _ I3 (f1.trans (f2.trans f3)) r4
 |emp=>exact aI hm
 |two _ _=>exact aI hm
 |tre _=>exact aI hm
 |ptr _=>exact aI hm
 |par _=>exact aI hm
theorem Pb (fd:FD X.prog X.w X.K X.mg X.base k x (aX X.K n F))(hr:Room k' X.A)(ha:SA X (e::es) ma)(hn:(e::es).length=n:=by rfl)(hk:k<=k':=by decide)(hg:Gl X x:=by rfl)(hdb:(x==("__debug__":Str))=false:=by decide)(he:starEach (e::es) X.env=(false,eval e X.env)::starEach es X.env:=by rfl)(hpl:(backTo pos (starEach es X.env)).any (·.1)=false:=by rfl)(AO:∀ρ as ρ',ma ρ=some (as,ρ')->as.length=n):SO X (.Call (.Name x p) (e::es) [] pos) (Kh F ma):=by
 obtain⟨f,fdd,ps,G0,h1,h2,h3⟩:=fd.ex;refine ha.el λt pa sa=>?_
 refine⟨_,Yy G0 (hr.mono hk) hg h1 h2 h3 .nil Bw pa hdb he hpl,λB G H σ ρ d ρ' Q I hm kk=>?_⟩;refine bD hm λas ρ1 e1 hm=>?_
 refine aP hm λr e2 hm=>?_
 refine sa B G H σ ρ as ρ1 _ I e1 λG1 H1 vs I1 f1 r1=>?_
 show aX X.K n F (vs++[]) H1 Q E0;rw[lE];refine⟨G1,as,r,e2,AO ρ as ρ1 e1,I1.fz,r1,λG2 H2 v f2 fz2 nw kp rr=>?_⟩;have I2:=I1.grow f2 fz2 nw kp;cases r with
 |val d'=>exact aI hm
 |own ds=>
  exists bK hm;obtain⟨l,xs,rfl,g3,h3,r3,b3⟩:=rr;exact kk G2 H2 l xs I2 (f1.trans f2) g3 h3 r3 (I1.there l b3) (I1.own_ne b3 nw kp)
 |emp=>exact aI hm
 |two _ _=>exact aI hm
 |tre _=>exact aI hm
 |ptr _=>exact aI hm
 |par _=>exact aI hm
end
def zT (ma:MA)(n:Nat):Prop:=∀ρ as ρ',ma ρ=some (as,ρ')->as.length=n
theorem aZ:zT aB 0:=λρ as ρ' h=>by exists bK h;rfl
theorem aO {m:ME}{r:MA}(h:zT r n):zT (aF m r) (n+1):=λρ as ρ' e=>by
 refine bD e λd ρ1 _ h2=>?_
 refine jA h2 λds ρ2 e3 e4=>?_
 cases e4;rw[eH,h ρ1 ds ρ2 e3]
def dC (F:AA D->AA D->AB (Sl×AA D))(j:Nat)(ma:MA):ME:=λρ=>if(ρ[j]?.bind Sl.items).isSome then(ma ρ).bind λp=>p.2[j]?.bind λs=>s.items.bind λcs=>(F cs p.1).bind λr=>match r.1 with
 | .val d=>some (d,p.2.set j (s.put r.2))
 | .own ds=>some (.lst ds,p.2.set j (s.put r.2))
 |_=>none else none
def znH (F:AA D->AA D->AB (Sl×AA D))(j:Nat)(ma:MA):MO:=λρ=>if(ρ[j]?.bind Sl.items).isSome then(ma ρ).bind λp=>p.2[j]?.bind λs=>s.items.bind λcs=>(F cs p.1).bind λr=>match r.1 with
 | .own ds=>some (ds,p.2.set j (s.put r.2))
 |_=>none else none
theorem SI.growW (I:SI K B G H σ ρ)(e:ρ[j]? =some s)(q:s.items=some cs)(hl:σ[j]? =some (some (.ref l)))(f:Fz G G')(fz:Fz G' H')(nw:∀b o,G' b=some o->G b≠none\/H b=none)(kp:∀b o,b≠l->H b=some o->H' b=some o)(gl:G' l=none)(hl':H' l=some (.lst ys))(r:RepL K G' ys out):SI K B G' H' σ (ρ.set j (s.put out)):=
 I.chgW e q hl fz f nw kp gl hl' r
theorem SI.own_neW {l p:AD}(I:SI K B G H σ ρ)(e:ρ[j]? =some s)(q:s.items=some cs)(hl:σ[j]? =some (some (.ref l)))(hp:H p=none)(nw:∀b o,G' b=some o->G b≠none\/H b=none)(kp:∀b o,b≠l->H b=some o->H' b=some o):Nw K G' H' σ (ρ.set j (s.put out)) p:=λi t et w=>by
 obtain⟨l',xs,e1,e2,e3,e4⟩:=I.wr e q;rw[hl]at e1;cases e1;have hpl:p≠l:=λz=>by rw[z,e3]at hp;cases hp
 by_cases z:i=j
 ·subst z;rw[Dm,if_pos rfl]at et
  split at et
  ·cases et;have:=(Xw (zlo q out)).mp w;rw[hl]at this;exact hpl (V.ref.inj (Option.some.inj (Option.some.inj this))).symm
  ·cases et
 ·rw[tG (Ne.symm z)]at et;have sl:=I.slot i t et;refine(sl.own (sl.back (λa w g h=>?_) w)).2.1 hp;have na:a≠l:=λw'=>by subst w';exact I.dis i j t s a z et e w ((Xw q).mpr hl)
  obtain⟨u,hu⟩:=qbW.mp h;refine⟨?_,(kp a u na hu).trans hu.symm⟩;cases q2:G' a with
  |none=>rfl
  |some u=>
   rcases nw a u q2 with z|z
   ·exact AH g z
   ·exact AH z h
section
variable {X:Cx}{x y:Str}{p py pos:Pos}{es:AA AI}{ma:MA}{k k' n:Nat}{F:AA D->AA D->AB (Sl×AA D)}
theorem pI {t:TA}{Q:VK}(sa:∀B G H σ ρ ds ρ' (Q:AA V->Hp->Prop),SI X.K B G H σ ρ->ma ρ=some (ds,ρ')->(∀G' H' vs,SI X.K B G' H' σ ρ'->Fz G G'->RepL X.K G' vs ds->Q vs H')->t σ H Q)(AO:∀ρ as ρ',ma ρ=some (as,ρ')->as.length+1=n)(I:SI X.K B G H σ ρ){ds0:AA D}(h0:ρ[j]?.bind Sl.items=some ds0){as:AA D}{ρ1:R}(e1:ma ρ=some (as,ρ1)){s:Sl}(e2:ρ1[j]? =some s){cs:AA D}(e3:s.items=some cs){r:Sl}{out:AA D}(e4:F cs as=some (r,out))(kk:∀G' H' v,SI X.K B G' H' σ (ρ1.set j (s.put out))->Fz G G'->True->(∃H1,jO X.K G' H' H1 v r/\(∀b,H1 b=none->B.H b=none)/\∀b,H1 b=none->Nw X.K G' H' σ (ρ1.set j (s.put out)) b)->Q v H'):
  Bt (fX X.K n F) [] E0 (Du (Pz j) t) σ H Q:=by
 obtain⟨s0,k0,q0⟩:=Fu h0;obtain⟨l,xs0,h1,h2,h3,h4⟩:=I.wr k0 q0;refine⟨.ref l,h1,sa B G H σ ρ as ρ1 _ I e1 λG1 H1 vs I1 f1 r1=>?_⟩;show fX X.K n F ((.ref l::vs)++[]) H1 Q E0;rw[lE];obtain⟨l',xs,m1,m2,m3,m4⟩:=I1.wr e2 e3;rw[h1]at m1;cases m1;refine⟨G1,l,xs,cs,vs,as,r,out,rfl,e4,AO ρ as ρ1 e1,I1.fz,m2,m3,m4,r1,λG2 H2 v ys f2 fz2 nw kp gl hl r2 rr=>?_⟩;exact kk G2 H2 v (I1.growW e2 e3 h1 f2 fz2 nw kp gl hl r2) (f1.trans f2) trivial ⟨H1,rr,λb hb=>I1.there b hb,λb hb=>I1.own_neW e2 e3 h1 hb nw kp⟩
theorem dR (j:Nat)(fd:FD X.prog X.w X.K X.mg X.base k x (fX X.K n F))(hr:Room k' X.A)(ha:SA X es ma)(AO:∀ρ as ρ',ma ρ=some (as,ρ')->as.length+1=n)(hN:X.N[j]? =some y:=by rfl)(hv:dJ X.env.scope y:=by trivial)(hd:(y==("__debug__":Str))=false:=by decide)(hcd:(y==("__classdict__":Str))=false:=by decide)(hk:k<=k':=by decide)(hg:Gl X x:=by rfl)(hdb:(x==("__debug__":Str))=false:=by decide)(he:starEach (.Name y py::es) X.env=(false,eval (.Name y py) X.env)::starEach es X.env:=by rfl)(hpl:(backTo pos (starEach es X.env)).any (·.1)=false:=by rfl):SE X (.Call (.Name x p) (.Name y py::es) [] pos) (dC F j ma):=by
 obtain⟨f,fdd,ps,G0,h1,h2,h3⟩:=fd.ex;refine ha.el λt pa sa=>?_
 refine⟨_,Yy G0 (hr.mono hk) hg h1 h2 h3 .nil Bw (jJ (eB hN hv hd hcd) pa he) hdb he hpl,λB G H σ ρ d ρ' Q I hm kk=>?_⟩;unfold dC at hm;refine aY hm λhso hm=>?_
 ·skip
  obtain⟨ds0,hso⟩:=qa1.mp hso;refine bD hm λas ρ1 e1 hm=>?_
  refine aP hm λs e2 hm=>?_
  refine aP hm λcs e3 hm=>?_
  refine bD hm λr out e4 hm=>?_
  refine pI sa AO I hso e1 e2 e3 e4 λG' H' v I' f' _ ⟨H1,rr,bb,nn⟩=>?_
  cases r with
  |val d'=>exists bK hm;exact kk G' H' v I' f' rr
  |own ds=>
   exists bK hm;obtain⟨l,xs,rfl,g3,h3,r3,b3⟩:=rr;obtain⟨I3,f3,r4⟩:=Ff I' g3 h3 r3 (bb l b3) (nn l b3);exact kk _ H' _ I3 (f'.trans f3) r4
  |emp=>exact aI hm
  |two _ _=>exact aI hm
  |tre _=>exact aI hm
  |ptr _=>exact aI hm
  |par _=>exact aI hm
theorem sR (j:Nat)(fd:FD X.prog X.w X.K X.mg X.base k x (fX X.K n F))(hr:Room k' X.A)(ha:SA X es ma)(AO:∀ρ as ρ',ma ρ=some (as,ρ')->as.length+1=n)(hN:X.N[j]? =some y:=by rfl)(hv:dJ X.env.scope y:=by trivial)(hd:(y==("__debug__":Str))=false:=by decide)(hcd:(y==("__classdict__":Str))=false:=by decide)(hk:k<=k':=by decide)(hg:Gl X x:=by rfl)(hdb:(x==("__debug__":Str))=false:=by decide)(he:starEach (.Name y py::es) X.env=(false,eval (.Name y py) X.env)::starEach es X.env:=by rfl)(hpl:(backTo pos (starEach es X.env)).any (·.1)=false:=by rfl):SO X (.Call (.Name x p) (.Name y py::es) [] pos) (znH F j ma):=by
 obtain⟨f,fdd,ps,G0,h1,h2,h3⟩:=fd.ex;refine ha.el λt pa sa=>?_
 refine⟨_,Yy G0 (hr.mono hk) hg h1 h2 h3 .nil Bw (jJ (eB hN hv hd hcd) pa he) hdb he hpl,λB G H σ ρ d ρ' Q I hm kk=>?_⟩;unfold znH at hm;refine aY hm λhso hm=>?_
 ·skip
  obtain⟨ds0,hso⟩:=qa1.mp hso;refine bD hm λas ρ1 e1 hm=>?_
  refine aP hm λs e2 hm=>?_
  refine aP hm λcs e3 hm=>?_
  refine bD hm λr out e4 hm=>?_
  refine pI sa AO I hso e1 e2 e3 e4 λG' H' v I' f' _ ⟨H1,rr,bb,nn⟩=>?_
  cases r with
  |val d'=>exact aI hm
  |own ds=>
   exists bK hm;obtain⟨l,xs,rfl,g3,h3,r3,b3⟩:=rr;exact kk G' H' l xs I' f' g3 h3 r3 (bb l b3) (nn l b3)
  |emp=>exact aI hm
  |two _ _=>exact aI hm
  |tre _=>exact aI hm
  |ptr _=>exact aI hm
  |par _=>exact aI hm
end
def pZ (env:Env)(cs:AA (Str×AD))(x:Str×NameKind):AA (Str×AD):=if x.2== .free then(x.1,(env.cells.lookup x.1).getD 0)::cs else cs
def gM (scope:Scope)(env:Env):AA (Str×AD):=scope.names.foldl (pZ env) []
theorem zhR:∀(names:AA (Str×NameKind)) (cs:AA (Str×AD)),(∀y∈names,y.2= .free->∃c,env.cells.lookup y.1=some c)->
  (forIn names cs (λx r=>if x.2==NameKind.free then do let a<-cellOf env x.1;pure (ForInStep.yield ((x.1,a)::r))else pure (ForInStep.yield r)):Sem (AA (Str×AD)))=pure (names.foldl (pZ env) cs)
 |[],cs,_=>rfl
 |(n,k)::r,cs,h=>by
  have ih:=λcs'=>zhR r cs' (λy hy=>h y (fF _ hy))
  rw[Qz,qbC]
  by_cases hk:(k==NameKind.free)=true
  ·obtain⟨c,hc⟩:=h (n,k) gG (~~~hk);have e:pZ env cs (n,k)=(n,c)::cs:=by unfold pZ;simp[hk,hc]
   rw[e,<-ih];simp only[hk,if_true];unfold cellOf;simp only at hc;rw[hc]
   rfl
  ·have e:pZ env cs (n,k)=cs:=by unfold pZ;simp[hk]
   rw[e,<-ih];simp only[hk]
   rfl
theorem zoS {env:Env}(h:∀y∈scope.names,y.2= .free->∃c,env.cells.lookup y.1=some c):closureFor scope env=pure (gM scope env):=by
 unfold closureFor gM;have e:=zhR (env:=env) scope.names [] h;simp only[bind_pure];exact e
theorem zdB {c:AD}:∀{names:AA (Str×NameKind)} {cs:AA (Str×AD)},(∀y∈names,y.2= .free->∃c,env.cells.lookup y.1=some c)->(cs.lookup x=some c->env.cells.lookup x=some c)->
  (names.foldl (pZ env) cs).lookup x=some c->env.cells.lookup x=some c
 |[],cs,_,h0,h=>h0 h
 |(n,k)::r,cs,hn,h0,h=>by
  rw[qbC]at h;refine zdB (names:=r) (λy hy=>hn y (fF _ hy)) ?_ h;intro q;unfold pZ at q
  split at q
  ·rename_i hk;obtain⟨c',hc⟩:=hn (n,k) gG (~~~hk);rw[kX]at q;simp only at hc
   by_cases z:(x==n)=true
   ·rw[z]at q;have zz:x=n:= ~~~z
    subst zz;simp only[hc,Sn]at q;rw[hc];exact q
   ·have z':(x==n)=false:= ~~~z
    rw[z']at q;exact h0 q
  ·exact h0 q
theorem zfd:∀{names:AA (Str×NameKind)} {cs:AA (Str×AD)},((x,NameKind.free)∈names\/(cs.lookup x).isSome=true)->((names.foldl (pZ env) cs).lookup x).isSome=true
 |[],cs,h=>by
  rcases h with h|h
  ·simp at h
  ·exact h
 |(n,k)::r,cs,h=>by
  rw[qbC];refine zfd (names:=r) ?_;rcases h with h|h
  ·rcases qap.mp h with h|h
   ·cases h;refine .inr ?_;unfold pZ;simp
   ·exact .inl h
  ·refine .inr ?_;unfold pZ
   split
   ·rw[kX]
    by_cases z:(x==n)=true
    ·rw[z];rfl
    ·have z':(x==n)=false:= ~~~z
     rw[z'];exact h
   ·exact h
theorem ziV {c:AD}:∀{names:AA (Str×NameKind)} {n:Nat} {acc:AA (Str×AD)},(cellsFrom n names acc).lookup x=some c->(n<=c/\(x,NameKind.cell)∈names)\/acc.lookup x=some c
 |[],n,acc,h=> .inr h
 |(m,k)::r,n,acc,h=>by
  unfold cellsFrom at h
  split at h
  ·rename_i hk;have hk':k= .cell:= ~~~hk
   subst hk';rcases ziV h with⟨h1,h2⟩|h1
   ·exact .inl ⟨Nat.le_of_succ_le h1,fF _ h2⟩
   ·rw[kX]at h1;cases q:x==m with
    |true=>
     rw[q]at h1;cases h1;rw[qaQ.mp q];exact .inl ⟨bC _,gG⟩
    |false=>rw[q]at h1;exact .inr h1
  ·rcases ziV h with⟨h1,h2⟩|h1
   ·exact .inl ⟨h1,fF _ h2⟩
   ·exact .inr h1
theorem zny:∀{names:AA (Str×NameKind)} {n:Nat} {acc:AA (Str×AD)},(x,NameKind.cell)∉names->(cellsFrom n names acc).lookup x=acc.lookup x
 |[],n,acc,_=>rfl
 |(m,k)::r,n,acc,h=>by
  unfold cellsFrom
  split
  ·rename_i hk;have hk':k= .cell:= ~~~hk
   subst hk';rw[zny λz=>h (fF _ z),kX];cases q:x==m with
   |true=>exact AH (by rw[qaQ.mp q];exact gG) h
   |false=>rfl
  ·exact zny λz=>h (fF _ z)
theorem znI:∀{names:AA (Str×NameKind)} {n:Nat} {acc:AA (Str×AD)},(x,NameKind.cell)∈names->∃c,(cellsFrom n names acc).lookup x=some c/\n<=c
 |(m,k)::r,n,acc,h=>by
  unfold cellsFrom
  by_cases hr:(x,NameKind.cell)∈r
  ·split
   ·obtain⟨c,h1,h2⟩:=znI (n:=n+1) (acc:=(m,n)::acc) hr;exact⟨c,h1,Nat.le_of_succ_le h2⟩
   ·exact znI hr
  ·rcases qap.mp h with e|e
   ·cases e;rw[if_pos (Sk _),zny hr,kX,Sk];exact⟨n,rfl,bC _⟩
   ·exact AH e hr
theorem zqS:∀{names:AA (Str×NameKind)} {n:Nat} {acc:AA (Str×AD)},(∀x c,acc.lookup x=some c->c<n)->(∀x y c,acc.lookup x=some c->acc.lookup y=some c->x=y)->
  ∀x y c,(cellsFrom n names acc).lookup x=some c->(cellsFrom n names acc).lookup y=some c->x=y
 |[],n,acc,_,hi=>hi
 |(m,k)::r,n,acc,hl,hi=>by
  unfold cellsFrom
  split
  ·refine zqS (λx c h=>?_) (λx y c h1 h2=>?_)
   ·rw[kX]at h;cases q:x==m with
    |true=>rw[q]at h;cases h;exact Ot _
    |false=>rw[q]at h;exact qcf (hl x c h)
   ·rw[kX]at h1 h2;cases q:x==m with
    |true=>
     rw[q]at h1;cases h1;cases q2:y==m with
     |true=>rw[qaQ.mp q,qaQ.mp q2]
     |false=>rw[q2]at h2;exact AH (hl y n h2) (tV _)
    |false=>
     rw[q]at h1;cases q2:y==m with
     |true=>rw[q2]at h2;cases h2;exact AH (hl x n h1) (tV _)
     |false=>rw[q2]at h2;exact hi x y c h1 h2
  ·exact zqS hl hi
theorem zmt:∀{names:AA (Str×NameKind)} {h:AK} {acc:AA (Str×AD)},(∀x c,acc.lookup x=some c->∃v,h.IsCell c v)->∀x c,(cellsFrom h.objs.size names acc).lookup x=some c->∃v,(pushCells h names).IsCell c v
 |[],h,acc,ha=>ha
 |(m,k)::r,h,acc,ha=>by
  unfold cellsFrom pushCells
  split
  ·intro x c e;rw[<-lM h {cls:= .type "cell",data:= .cell none}]at e;refine zmt (λy d q=>?_) x c e;rw[kX]at q;cases z:y==m with
   |true=>rw[z]at q;cases q;exact⟨none,_,eN _ rfl,rfl⟩
   |false=>
    rw[z]at q;obtain⟨v,hv⟩:=ha y d q;exact⟨v,hv.keeps λb o e=>bP _ e⟩
  ·exact zmt ha
theorem zmG {M:Model}{s:AE}{globals:AD}{Q:Env->AE->Prop}(hQ : ∀ h' : AK, h'.Ns s⁻¹ (λ_ => none) -> (∀ a o, s.heap.get? a = some o -> h'.get? a = some o) ->
   ((∀x c,cl.lookup x=some c->∃v,s.heap.IsCell c v)->∀x c,(cellsFrom (s⁻¹+1) scope.names cl).lookup x=some c->∃v,h'.IsCell c v)->
   Q (newEnv scope s⁻¹ globals (cellsFrom (s⁻¹+1) scope.names cl) qual none .none (some env) builtinsNs) {s with heap:=h'}):
  AG M A (newFunctionEnv scope globals cl [] qual none .none (some env)) Q E s:=by
 simp only[newFunctionEnv,Option.isSome_some,if_true];refine aH (wpAny_alloc ?_);refine aH (wpAny_layCells _ (λname kind cells=>by cases hkc:kind==NameKind.cell<;>simp[hkc]) _ _ _ _ ?_)
 rw[show({s with heap:=s.heap.push {cls:= .type "dict",data:= .dict #[]}}:AE)⁻¹=s⁻¹+1 from lM ..];refine aH ?_;rw[Tg];refine qaB (qaB (hQ _ ((Heap.Ns.new s.heap (.type "dict")).keeps (pushCells_keeps _ _)) (λa o e=>pushCells_keeps _ _ a o (bP _ e)) λhc x c e=>?_));rw[<-lM s.heap {cls:= .type "dict",data:= .dict #[]}]at e;refine zmt (λy d q=>?_) x c e;obtain⟨v,hv⟩:=hc y d q;exact⟨v,hv.keeps λb o e=>bP _ e⟩
def Nv (scope:Scope)(env:Env)(C:AD):AA (Str×AD):=cellsFrom (C+1) scope.names (gM scope env)
def Kq (scope:Scope)(x:Str):Bool:=match scope.names.lookup x with
 |some .cell=>true
 |_=>false
def cB (X:Cx)(N:AA Str)(scope:Scope)(C:AD)(s:AE)(H:Hp)(fp:AA AD):Cx:=
 {X with N:=N,s₀:=s,H₀:=H,env:=compEnvC scope (Nv scope X.env C) C X.env,outer:=X.stack,ex:=fp,fn:=Kq scope,pn:=[],xe:=λ_ _=>False}
structure BlkOk (X:Cx)(scope:Scope):Prop where
 kind:scope.kind= .function
 uniq:∀y∈scope.names,scope.names.lookup y.1=some y.2
 free:∀y∈scope.names,y.2= .free->X.env.kindOf y.1=some .cell\/X.env.kindOf y.1=some .free
theorem zfM {α:Type}{v:α}:∀{l:AA (Str×α)},l.lookup x=some v->(x,v)∈l
 |[],h=>by simp at h
 |(n,w)::r,h=>by
  rw[kX]at h
  by_cases z:(x==n)=true
  ·rw[z]at h;have zz:x=n:= ~~~z
   subst zz;cases h;exact gG
  ·have z':(x==n)=false:= ~~~z
   rw[z']at h;exact fF _ (zfM h)
theorem zdD {env:Env}{x:Str}:∀{names:AA (Str×NameKind)},(names.map λ(n,k)=>if(k==NameKind.free&&env.scope.kind== .function&&env.kindOf n==some .cell)then(n,NameKind.cell)else(n,k)).lookup x=
  (names.lookup x).map λk=>if(k==NameKind.free&&env.scope.kind== .function&&env.kindOf x==some .cell)then NameKind.cell else k
 |[]=>rfl
 |(n,k)::r=>by
  have ih:=zdD (env:=env) (x:=x) (names:=r);show List.lookup x ((if(k==NameKind.free&&env.scope.kind== .function&&env.kindOf n==some .cell)=true then(n,NameKind.cell)else(n,k))::_)=_;cases hx:x==n with
  |true=>
   have zz:x=n:= ~~~hx
   by_cases hc:(k==NameKind.free&&env.scope.kind== .function&&env.kindOf n==some .cell)=true
   ·rw[if_pos hc];simp only[kX,hx,Em];rw[zz,if_pos hc]
   ·rw[if_neg hc];simp only[kX,hx,Em];rw[zz,if_neg hc]
  |false=>
   by_cases hc:(k==NameKind.free&&env.scope.kind== .function&&env.kindOf n==some .cell)=true
   ·rw[if_pos hc];simp only[kX,hx];exact ih
   ·rw[if_neg hc];simp only[kX,hx];exact ih
section
variable {X:Cx}{AM:AA (AD×Obj)}{σ:St}{H:Hp}{s:AE}{scope:Scope}{N:AA Str}{fp:AA AD}{C:AD}
theorem ziw (I:Inv X AM σ H s)(b:BlkOk X scope):∀y∈scope.names,y.2= .free->∃c,X.env.cells.lookup y.1=some c:=λy hy hf=>I.ok.has y.1 (b.free y hy hf)
theorem wN (h:(relabel scope X.env).names.lookup x=some .cell\/(relabel scope X.env).names.lookup x=some .free):(x,NameKind.free)∈scope.names\/(x,NameKind.cell)∈scope.names:=by
 have e:(relabel scope X.env).names.lookup x=(scope.names.lookup x).map λk=>if(k==NameKind.free&&X.env.scope.kind== .function&&X.env.kindOf x==some .cell)then NameKind.cell else k:=zdD
 rw[e]at h;cases q:scope.names.lookup x with
 |none=>rw[q]at h;simp at h
 |some k=>
  have hm:=zfM q
  by_cases hk:k= .free
  ·subst hk;exact .inl hm
  ·rw[q]at h;have hkf:(k==NameKind.free)=false:= ~~~hk
   simp only[Em,hkf,Bool.false_and,lJ,cX,Option.some.injEq]at h;rcases h with h|h
   ·subst h;exact .inr hm
   ·exact AH h hk
theorem Pj (I:Inv X AM σ H s)(b:BlkOk X scope){c:AD}(h:(gM scope X.env).lookup x=some c):X.env.cells.lookup x=some c:=zdB (ziw I b) (by simp) h
theorem zhv (I:Inv X AM σ H s)(b:BlkOk X scope){c:AD}(h:(Nv scope X.env C).lookup x=some c):C<c\/X.env.cells.lookup x=some c:=by
 rcases ziV h with⟨h1,_⟩|h1
 ·exact .inl h1
 ·exact .inr (Pj I b h1)
theorem zoe (b:BlkOk X scope)(h:(x,NameKind.free)∈scope.names):(Nv scope X.env C).lookup x=(gM scope X.env).lookup x:=zny λz=>by
 have h1:=b.uniq _ h;have h2:=b.uniq _ z;simp only at h1 h2;rw[h1]at h2;cases h2
theorem Mr (I:Inv X AM σ H s)(b:BlkOk X scope)(hC:s⁻¹<=C)(hf:∀b∈fp,dN X AM H b)(hfC:∀b∈fp,b<C):(cB X N scope C s H fp).Ok where
 mod:=I.ok.mod
 kind:=b.kind
 glob:=I.ok.glob
 blt:=I.ok.blt
 above:=hC
 inj:=zqS (λx c h=>by
  obtain⟨v,hv⟩:=I.cell x c (Pj I b h);exact qcf (iI hv.lt hC)) λx y c h1 h2=>I.ok.inj x y c (Pj I b h1) (Pj I b h2)
 has:=λx hx=>by
  rcases wN (x:=x) hx with hm|hm
  ·show ∃c,(Nv scope X.env C).lookup x=some c;rw[zoe b hm];exact qa1.mp (zfd (.inl hm))
  ·obtain⟨c,h,_⟩:=znI (n:=C+1) (acc:=gM scope X.env) hm;exact⟨c,h⟩
 cab:=λx c h e=>by
  have h':Kq scope x=true:=h;unfold Kq at h'
  split at h'
  ·rename_i q;obtain⟨c',h1,h2⟩:=znI (n:=C+1) (acc:=gM scope X.env) (zfM q);have e':some c'=some c:=h1.symm.trans e;cases e';exact bE hC (Nat.le_of_succ_le h2)
  ·cases h'
 hd:=I.ok.hd
 frames:=I.ok.frames
 stk:= .inl rfl
 exf:=λa ha=>⟨fY (hfC a ha),λx c e z=>by
  rcases zhv I b e with q|q
  ·exact Nat.lt_asymm q (z ▸ hfC a ha)
  ·exact(hf a ha).2.2.2.2.1 x c q z⟩
 bs:=I.bs
 bsz:=bE I.ok.bsz I.sz
 noex:=λa o e ha=>by
  rcases(hf a ha).2.2.2.1 with z|z
  ·exact I.ok.noex a o e z
  ·exact AH (iI (cM e) (bE I.ok.bsz z)) (tV _)
 exfs:=λa ha hs=>by
  rcases qap.mp (I.stkSub a hs)with z|z
  ·exact(hf a ha).2.1 z
  ·exact(hf a ha).2.2.1 z
 funs:=I.stack
 frf:=I.stkFree
theorem zqi {tk:Nat}(I:Inv X AM σ H s)(b:BlkOk X scope)(hf:∀b∈fp,dN X AM H b)(hfs:∀b∈fp,b<s⁻¹)(hns:h'.Ns s⁻¹ (λ_=>none))(hk:∀a o,s.heap.get? a=some o->h'.get? a=some o)(hcl:∀x c,(Nv scope X.env s⁻¹).lookup x=some c->∃v,h'.IsCell c v)(hl:σc.length=N.length)(hσ:∀(i:Nat) (x:Str) (v:V),N[i]? =some x->σc[i]? =some (some v)->(x,NameKind.free)∈scope.names/\∃j:Nat,X.N[j]? =some x/\σ[j]? =some (some v))(hloc:∀(i:Nat) (x:Str) (v:V),N[i]? =some x->σc[i]? =some (some v)->¬(relabel scope X.env).names.lookup x=some .local):
  Inv (cB X N scope s⁻¹ s H fp) [] σc H {s with heap:=h',toks:=tk}:=by
 have ok:=Mr (N:=N) I b (bC _) hf hfs;refine⟨ok,rfl,I.bare,Un.kept hk,⟨_,hns,λi x v h1 h2 h3=>?_⟩,λx c e=>?_,I.hok.fresh (bC _),λx c e=>?_,λp hp=>AH (show p∈([]:AA (AD×Obj))from hp) (by simp),I.hok.kept hk,hl⟩
 ·obtain⟨hm,j,hj,hv⟩:=hσ i x v h1 h2;have hkind:=b.free _ hm rfl;obtain⟨m,hn,hloc'⟩:=I.loc;have hvis:dJ X.env.scope x:=by
   rcases hkind with z|z
   ·exact .inr (.inl z)
   ·exact .inr (.inr z)
  obtain⟨u,ru,lk⟩:=hloc' j x v hj hv hvis;refine⟨u,ru,?_⟩;rcases lk with⟨z,_⟩|⟨_,c,ec,hc⟩
  ·exfalso;rcases hkind with w|w<;>simp only at w<;>rw[z]at w<;>cases w
  ·refine .inr ⟨?_,c,?_,?_⟩
   ·rcases h3 with z|z|z
    ·exact AH z (hloc i x v h1 h2)
    ·exact .inl z
    ·exact .inr z
   ·have hs:((gM scope X.env).lookup x).isSome=true:=zfd (.inl hm);obtain⟨c',ec'⟩:=qa1.mp hs;have:=zdB (ziw I b) (by simp) ec';rw[ec]at this;cases this;exact(zoe b hm).trans ec'
   ·obtain⟨o,ho,hd⟩:=hc;exact⟨o,hk _ _ ho,hd⟩
 ·exact hcl x c e
 ·rcases zhv I b e with q|q
  ·exact I.hok.fresh (lW q)
  ·exact I.freeC x c q
theorem zra {h':AK}{s1:AE}(I:Inv X AM σ H s)(hf:∀b∈fp,dN X AM H b)(J:Inv (cB X N scope s⁻¹ s H fp) [] σc H' s1)(hs:Heap.SameBut s⁻¹ s1.heap h'):Inv X AM σ H' {s1 with heap:=h'}:=by
 have kp:∀a o,a≠s⁻¹->s1.heap.get? a=some o->h'.get? a=some o:=λa o ha e=>hs.extBut a o ha e
 have free:H' s⁻¹=none:=J.free;have ntr:∀a u,H' a=some u->a≠s⁻¹:=λa u e z=>by rw[z,free]at e;exact aI e
 have lt:∀a o,s.heap.get? a=some o->a≠s⁻¹:=λa o e=>fY (cM e)
 have u:Un (frs X.stack) fp H H' s.heap s1.heap:=J.base;have u':Un (frs X.stack) fp H H' s.heap h':=by
  refine⟨λa o e n hb hx=>kp a o (lt a o e) (u.keep a o e n hb hx),λa o e n hb hx=>?_,u.free,λa o e hx=>?_,u.tups,u.frzs,u.tbls⟩
  ·obtain⟨sl,q⟩:=u.slot a o e n hb hx;exact⟨sl,kp a _ (lt a o e) q⟩
  ·obtain⟨o',q⟩:=u.there a o e hx;exact⟨o',kp a _ (lt a o e) q⟩
 have hok:HOk X.prog X.w H' h':=λa o e=>(J.hok a o e).stay (λc v hc q=>by
  refine kp c v ?_ q;rcases hc with rfl|hc
  ·exact ntr _ _ e
  ·exact ntr _ _ hc) (λ_ q=>q) λ_ _ q=>q
 obtain⟨hh,g,d,t,os'⟩:=s1;have os:os'=s.os:=J.os;subst os;have z:=I.call (h':=h') (g':=g) (d':=d) (t':=t) (ch:=fp) u' hok J.bare (λa ha=>⟨(hf a ha).2.2.2.1,(hf a ha).2.1,(hf a ha).2.2.2.2.1,(hf a ha).2.2.2.2.2⟩);exact z
end
def Mu (X:Cx)(ifs:AA AI)(t:TT):Prop:=∀(AM:AA (AD×Obj)) (s:AE) (σ:St) (H:Hp) (Q:Bool->Hp->Prop),Inv X AM σ H s->t σ H Q->
 AG (model X.prog X.w) X.A (forIn ifs true λc r=>if r=true then do let ok<-isTrue c X.env (eval c X.env);pure (ForInStep.yield ok)else pure (ForInStep.yield r)) (TP X AM σ Q) X.xe s
theorem xJ:Mu X [] (λ_ H Q=>Q true H):=λAM s σ H Q I h=>wpAny_tests_nil ⟨H,I,h⟩
theorem zZ {c:AI}{t:TT}(h:PT X c t):Mu X [c] t:=λAM s σ H Q I hw=>wpAny_tests_one (h AM s σ H Q I hw)
theorem zms {R:Result->AE->Prop}{s:AE}{elt target iter:AI}{it acc:AC}(I:Nat->AE->Prop)(turn : ∀ n s, I n s -> AG (model prog w) A (pyNext it) (λr s₁ => match r with
   |none=>R (.ok .next) s₁
   | some v => AG (model prog w) A (letOwnedTupleGo target it v) (λ_ s₁' => AG (model prog w) A (assign target env v) (λ_ s₂ =>
     AG (model prog w) A (forIn ifs true λc r=>if r=true then do let ok<-isTrue c env (eval c env);pure (ForInStep.yield ok)else pure (ForInStep.yield r)) (λok s₃=>
      if ok=true then AG (model prog w) A (eval elt env) (λx s₄=>
       AG (model prog w) A (call (.builtin "list.append") [acc,x]) (λ_ s₅=>∃m,m<n/\I m s₅) (λ_ _=>False) s₄) (λ_ _=>False) s₃
      else ∃m,m<n/\I m s₃) (λ_ _=>False) s₂) (λ_ _=>False) s₁') (λ_ _=>False) s₁) (λ_ _=>False) s)(n:Nat)(h:I n s):codeAny (model prog w) A (.compLoop (.ListComp elt [⟨target,iter,ifs,0⟩] scope pos) 0 it acc env) R s:=by
 refine codeAny_loop rfl I (λn s hI=>?_) n h;show AG _ A ((compTurn (.ListComp elt [⟨target,iter,ifs,0⟩] scope pos) 0 it acc env).onRaise (λx=>do noteFrame x env;theTreesLotGoes x)) _ _ s;refine wpAny_noted ?_;rw[compTurn_list];have no:∀{E:AC->AE->Prop},∀x s',(λ(_:AC) (_:AE)=>False) x s'->E x s':=λ_ _ z=>z.elim
 refine aH (Hf (aH (lH (turn n s hI) (λr s₁ h₁=>?_) no)));cases r with
 |none=>exact qaB h₁
 |some v=>
  refine aH (lH h₁ (λ_ s₁' h₁'=>?_) no);refine aH (lH h₁' (λ_ s₂ h₂=>aH (lH h₂ (λok s₃ h₃=>?_) no)) no);cases ok with
  |false=>exact qaB ⟨rfl,h₃⟩
  |true=>
   exact aH (aH (lH h₃ (λx s₄ h₄=>aH (lH h₄ (λ_ s₅ h₅=>qaB (qaB ⟨rfl,h₅⟩)) no)) no))
def Nt (σ0:St->St)(wi:TI)(g:AD->AE->Hp->AA AD->TG)(tt:AD->AE->Hp->AA AD->TT)(te:AD->AE->Hp->AA AD->TE):TE:=λσ H Q=>wi σ H λJ H1=>∀D,H1 D=none->∃W:Nat->Nat->St->Hp->Prop,(∃m,W 0 m (σ0 σ) (upd H1 D (.lst [])))/\∀i m σ H,W i m σ H->
 (J.stop i H /\ Q (.ref D) H) \/ (J.go i H /\ ∀ C s₀ H₀ fp x H', J.yld i H x H' -> g C s₀ H₀ fp x σ H' λσ2 H2 => tt C s₀ H₀ fp σ2 H2 λok H3 => if ok = true then te C s₀ H₀ fp σ2 H3 λv H4 => ∃ xs, H4 D = some (.lst xs) /\ xs.length < sizeLine /\ ∃ m', m' < m /\ W (i + 1) m' σ2 (upd H4 D (.lst (xs ++ [v])))
  else ∃m',m'<m/\W (i+1) m' σ2 H3)
section
variable {X:Cx}{elt iter tg:AI}{ifs:AA AI}{scope:Scope}{pos:Pos}{N:AA Str}{σ0:St->St}{wi:TI}{g:AD->AE->Hp->AA AD->TG}{tt:AD->AE->Hp->AA AD->TT}{te:AD->AE->Hp->AA AD->TE}
structure Cap (X:Cx)(scope:Scope)(N:List Str)(σ0:St->St):Prop where
 len:∀σ,(σ0 σ).length=N.length
 src:∀(σ:St) (i:Nat) (x:Str) (v:V),N[i]? =some x->(σ0 σ)[i]? =some (some v)->(x,NameKind.free)∈scope.names/\∃j:Nat,X.N[j]? =some x/\σ[j]? =some (some v)
 loc:∀(σ:St) (i:Nat) (x:Str) (v:V),N[i]? =some x->(σ0 σ)[i]? =some (some v)->¬(relabel scope X.env).names.lookup x=some .local
theorem zqH {E:AC->AE->Prop}(hc:X.calm=true)(b:BlkOk X scope)(cap:Cap X scope N σ0)(hi:PI X tg iter wi)(hg:∀C s H fp,PG (cB X N scope C s H fp) tg (g C s H fp))(ht:∀C s H fp,Mu (cB X N scope C s H fp) ifs (tt C s H fp))(he:∀C s H fp,PE (cB X N scope C s H fp) elt (te C s H fp)){AM:AA (AD×Obj)}{s:AE}{σ:St}{H:Hp}{Q:VK}(I:Inv X AM σ H s)(h:Nt σ0 wi g tt te σ H Q){QQ:AC->AE->Prop}{p0:Pos}(hs:∀x,foldedSetIterable iter X.env x=pure x)(fin : match use with
   |none=>∀u s',EP X AM σ Q u s'->QQ u s'
   |some f=>∀(D:AD) (fp:AA AD) (C:AD) (H1 H':Hp) (σc:St) (s1 s':AE),Inv X AM σ H1 s1->(∀b∈fp,dN X AM H1 b)->C=s1⁻¹->Inv (cB X N scope C s1 H1 fp) [] σc H' s'->Q (.ref D) H'->
     AG (model X.prog X.w) X.A (f (.ref D)) (λ_ s''=>∃m,s''.heap.Ns C m/\∀h',Heap.SameBut C s''.heap h'->QQ .none {s'' with heap:=h'}) X.xe s'):
  AG (model X.prog X.w) X.A (comprehension (.ListComp elt [⟨tg,iter,ifs,0⟩] scope pos) scope X.env p0 (newList []) false (eval iter X.env) use) QQ X.xe s:=by
 refine wpAny_comprehension_free (cl:=gM scope X.env) (g:=⟨tg,iter,ifs,0⟩) (gs:=[]) rfl hs (zoS (ziw I b)) b.kind (λx hx hl=>hl ▸ b.uniq x hx) ?_;refine aW (hi AM s σ H _ I h) λv s1 h1=>aW h1 λitv s2 h2=>?_
 obtain⟨it,fp,tn,J,H2,e,I2,T,st2,f2,h3⟩:=h2;subst e;refine lY ?_ (by show(0:Nat)<=sizeLine;exact gR _);have hD:H2 s2⁻¹=none:=I2.fresh;obtain⟨W,⟨m0,w0⟩,turn⟩:=h3 _ hD;have I3:Inv X AM σ (upd H2 s2⁻¹ (.lst [])) {s2 with heap:=s2.heap.push {cls:= .type "list",data:= .seq ([]:AA AC).toArray}}:=I2.lnew (t':=s2.toks) .nil (gR _);have f3:∀b∈fp,dN X AM (upd H2 s2⁻¹ (.lst [])) b:=λb hb=>by
  obtain⟨a1,a2⟩:=f2 b hb;obtain⟨o,ho,_⟩:=T.obj _ _ st2 b hb;exact⟨by rw[aV (fY (cM ho))];exact a1,a2⟩
 have st3:tn 0 (s2.heap.push {cls:= .type "list",data:= .seq ([]:AA AC).toArray}):=T.keep _ _ _ st2 λb hb o e=>bP _ e
 generalize hs3:({s2 with heap:=s2.heap.push {cls:= .type "list",data:= .seq ([]:AA AC).toArray}}:AE)=s3 at I3
 have hs3':s3.heap=s2.heap.push {cls:= .type "list",data:= .seq ([]:AA AC).toArray}:=by rw[<-hs3]
 rw[<-hs3']at st3;have hfs:∀b∈fp,b<s3⁻¹:=λb hb=>by
  obtain⟨o,ho,_⟩:=T.obj _ _ st3 b hb;exact cM ho
 show AG _ _ (newFunctionEnv scope X.env.globals (gM scope X.env) [] X.env.qual none .none (some X.env)) _ _ s3;refine zmG λh' hns hk hcl=>?_
 have hcl:=hcl λx c e=>I3.cell x c (Pj I3 b e)
 generalize hDD:s2⁻¹=DD at*
 have B0:Inv (cB X N scope s3⁻¹ s3 (upd H2 DD (.lst [])) fp) [] (σ0 σ) (upd H2 DD (.lst [])) {s3 with heap:=h'}:=
  zqi (tk:=s3.toks) I3 b f3 hfs hns hk hcl (cap.len σ) (cap.src σ) (cap.loc σ)
 have stat:∀{H':Hp},(∀b∈fp,H' b=none)->∀b∈fp,dN (cB X N scope s3⁻¹ s3 (upd H2 DD (.lst [])) fp) [] H' b:=λhn b' hb=>by
  refine⟨hn b' hb,fY (hfs b' hb),λz=>?_,.inl hb,λx c e=>?_,λp hp=>AH (show p∈([]:AA (AD×Obj))from hp) (by simp)⟩
  ·rcases qap.mp (I3.stkSub b' z)with w|w
   ·exact(f3 b' hb).2.1 w
   ·exact(f3 b' hb).2.2.1 w
  ·intro z;rcases zhv I3 b e with q|q
   ·exact Nat.lt_asymm q (z ▸ hfs b' hb)
   ·exact(f3 b' hb).2.2.2.2.1 x c q z
 have tn0:tn 0 h':=T.keep _ _ _ st3 λb' hb o e=>hk b' o e
 have post:∀(s':AE) (σc:St) (H':Hp),Inv (cB X N scope s3⁻¹ s3 (upd H2 DD (.lst [])) fp) [] σc H' s'->Q (.ref DD) H'->compPost (model X.prog X.w) X.A X.xe use QQ (.ref DD) s3⁻¹ (.ok .next) s':=λs' σc H' J' q=>by
  cases use with
  |none=>
   obtain⟨m,hn,_⟩:=J'.loc;exact⟨m,hn,λh'' hs''=>fin _ _ ⟨.ref DD,H',zra I3 f3 J' hs'',rfl,q⟩⟩
  |some f=>exact fin DD fp _ _ H' σc s3 s' I3 f3 rfl J' q
 have loop:codeAny (model X.prog X.w) X.A (.compLoop (.ListComp elt [⟨tg,iter,ifs,0⟩] scope pos) 0 (.ref it) (.ref DD) (compEnvC scope (Nv scope X.env s3⁻¹) s3⁻¹ X.env)) (compPost (model X.prog X.w) X.A X.xe use QQ (.ref DD) s3⁻¹) {s3 with heap:=h'}:=by
  refine zms (λn s'=>∃i σ' H',Inv (cB X N scope s3⁻¹ s3 (upd H2 DD (.lst [])) fp) [] σ' H' s'/\tn i s'.heap/\(∀b∈fp,H' b=none)/\W i n σ' H') ?_ m0 ⟨0,σ0 σ,_,B0,tn0,λb' hb=>(f3 b' hb).1,w0⟩;rintro n s5 ⟨i,σ5,H5,I5,st5,fr5,w5⟩;rcases turn i n σ5 H5 w5 with⟨stop,qn⟩|⟨go,step⟩
  ·refine aW (T.done (cB X N scope s3⁻¹ s3 (upd H2 DD (.lst [])) fp) rfl rfl rfl hc i [] s5 σ5 H5 (λ_ _=>False) I5 (stat fr5) st5 stop) λr s6 ⟨hr,I6⟩=>?_
   subst hr;exact post s6 σ5 H5 I6 qn
  ·refine aW (T.item (cB X N scope s3⁻¹ s3 (upd H2 DD (.lst [])) fp) rfl rfl rfl hc i [] s5 σ5 H5 (λ_ _=>False) I5 (stat fr5) st5 go) λr s6 ⟨u,hr,h6⟩=>?_
   subst hr;refine aW h6 λ_ s7 ⟨x,H7,I7,r7,y7,st7,fr7⟩=>?_
   have I7':=I7.pinned (stat fr7) (T.obj _ _ st7);have again:∀{σ8:St} {H8:Hp} {s8:AE} {m':Nat},Inv (cB X N scope s3⁻¹ s3 (upd H2 DD (.lst [])) fp) ([]++Px fp s7.heap) σ8 H8 s8->m'<n->W (i+1) m' σ8 H8->
     ∃m,m<n/\∃i σ' H',Inv (cB X N scope s3⁻¹ s3 (upd H2 DD (.lst [])) fp) [] σ' H' s8/\tn i s8.heap/\(∀b∈fp,H' b=none)/\W i m σ' H':=λ{σ8 H8 s8 m'} I8 hm w8=>by
    refine⟨m',hm,i+1,σ8,H8,I8.unpinned,T.keep _ _ _ st7 λb' hb o e=>(I8.pin (b',o) (dQ _ (dQ _ (zfP hb e)))).1,λb' hb=>?_,w8⟩;obtain⟨o,e,d⟩:=T.obj _ _ st7 b' hb;exact(I8.pin (b',o) (dQ _ (dQ _ (zfP hb e)))).2.1
   refine aW (hg _ _ _ _ _ s7 σ5 H7 x u _ I7' r7 (step _ _ _ _ x H7 y7)) λ_ s8 ⟨σ8,H8,I8,q8⟩=>?_
   refine aW (ht _ _ _ _ _ s8 σ8 H8 _ I8 q8) λok s9 ⟨H9,I9,q9⟩=>?_
   cases ok with
   |false=>
    obtain⟨m',hm,w9⟩:=q9;exact again I9 hm w9
   |true=>
    refine aW (he _ _ _ _ _ s9 σ8 H9 _ I9 q9) λu10 s10 ⟨v10,H10,I10,r10,xs,hx,hz,m',hm,w10⟩=>?_
    refine aW (zlI _ s10 σ8 H10 (.ref DD) [v10] (.ref DD) [u10] (λv H'=>v= .non/\H'=upd H10 DD (.lst (xs++[v10]))) I10 rfl (.cons r10 .nil) ⟨DD,xs,v10,rfl,rfl,hx,hz,rfl,rfl⟩) λ_ s11 ⟨_,H11,I11,_,_,e11⟩=>?_
    subst e11;exact again I11 hm w10
 exact codeAny_compStart_list loop (T.self _ _ _ _ _ tn0 loop)
theorem Bo (hc:X.calm=true)(b:BlkOk X scope)(cap:Cap X scope N σ0)(hi:PI X tg iter wi)(hg:∀C s H fp,PG (cB X N scope C s H fp) tg (g C s H fp))(ht:∀C s H fp,Mu (cB X N scope C s H fp) ifs (tt C s H fp))(he:∀C s H fp,PE (cB X N scope C s H fp) elt (te C s H fp))(hs:∀x,foldedSetIterable iter X.env x=pure x:=by exactλ_=>rfl):PE X (.ListComp elt [⟨tg,iter,ifs,0⟩] scope pos) (Nt σ0 wi g tt te):=by
  intro AM s σ H Q I h;rw[eval_ListComp];exact zqH (use:=none) (E:=X.xe) hc b cap hi hg ht he I h hs (λu s' q=>q)
end
def gJ (ρ:R):Bool:=ρ.all λs=>match s with
 | .own _=>false
 | .par _=>false
 | .tre _=>false
 | .ptr _=>false
 |_=>true
theorem znC (h:gJ ρ=true){a:AD}(e:ρ[i]? =some s):¬cU K G H ov a s:=λw=>by
 unfold gJ at h;rw[qch]at h;have:=h s (gI e);cases s with
 |emp=>exact w
 |two _ _=>exact w
 |val d=>exact w
 |_=>exact AH (show false=true from this) fN
theorem Zh (h:gJ ρ=true)(e:ρ[i]? =some s):(∀t,s≠ .tre t)/\∀t,s≠ .ptr t:=by
 unfold gJ at h;rw[qch]at h;have:=h s (gI e)
 constructor
 ·rintro t rfl;exact AH (show false=true from this) fN
 ·rintro t rfl;exact AH (show false=true from this) fN
theorem zij (h:gJ ρ=true):¬Wr ρ i:=λ⟨s,ds,e,q⟩=>by
 unfold gJ at h;rw[qch]at h;have:=h s (gI e);cases s with
 |emp=>exact aI q
 |two _ _=>exact aI q
 |tre _=>exact aI q
 |ptr _=>exact aI q
 |val d=>exact aI q
 |own d=>exact AH (show false=true from this) fN
 |par d=>exact AH (show false=true from this) fN
structure VS (K:W.Frag)(G:Hp)(σ:St)(ρ:R):Prop where
 len:σ.length=ρ.length
 no:gJ ρ=true
 val:∀(i:Nat) d,ρ[i]? =some (.val d)->∃v,σ[i]? =some (some v)/\RepD K G v d
theorem VS.si (h:VS K G σ ρ)(fz:Fz G H):SI K ⟨G,H,[]⟩ G H σ ρ where
 fz:=fz
 g0:=Fz.refl G
 new:=λb o e=> .inl (by show G b≠none;rw[e];simp)
 keep:=λb o e _=>e
 there:=λb e=>e
 ob:=λi b m=>by cases m
 len:=h.len
 slot:=λi s e=>by
  cases s with
  |emp=>trivial
  |two _ _=>trivial
  |tre t=>exact AH rfl ((Zh h.no e).1 t)
  |ptr t=>exact AH rfl ((Zh h.no e).2 t)
  |val d=>exact h.val i d e
  |own ds=>exact AH ⟨_,ds,e,rfl⟩ (zij h.no (i:=i))
  |par ds=>exact AH ⟨_,ds,e,rfl⟩ (zij h.no (i:=i))
 dis:=λi j s _ a _ e _ w=>AH w (znC h.no e)
theorem VS.of (I:SI K B G H σ ρ)(h:gJ ρ=true):VS K G σ ρ:=⟨I.len,h,λi d e=>I.slot i _ e⟩
def fz1 (i:Nat)(ρ:R):R:=match ρ[i]? with
 |some (.own ds)=>ρ.set i (.val (.lst ds))
 |_=>ρ
def fzL:AA Nat->R->R
 |[],ρ=>ρ
 |i::is,ρ=>fzL is (fz1 i ρ)
theorem SI.fz1 (I:SI K B G H σ ρ)(i:Nat):∃G',SI K B G' H σ (M.fz1 i ρ)/\Fz G G':=by
 unfold M.fz1;cases e:ρ[i]? with
 |none=>exact⟨G,I,Fz.refl G⟩
 |some s=>
  cases s with
  |own ds=>obtain⟨l,xs,_,f,_,I'⟩:=I.freeze e;exact⟨_,I',f⟩
  |emp=>exact⟨G,I,Fz.refl G⟩
  |two _ _=>exact⟨G,I,Fz.refl G⟩
  |tre _=>exact⟨G,I,Fz.refl G⟩
  |ptr _=>exact⟨G,I,Fz.refl G⟩
  |val _=>exact⟨G,I,Fz.refl G⟩
  |par _=>exact⟨G,I,Fz.refl G⟩
theorem SI.fzL:∀(is:AA Nat) {G:Hp} {ρ:R},SI K B G H σ ρ->∃G',SI K B G' H σ (M.fzL is ρ)/\Fz G G'
 |[],G,ρ,I=>⟨G,I,Fz.refl G⟩
 |i::is,G,ρ,I=>by
  obtain⟨G1,I1,f1⟩:=I.fz1 i;obtain⟨G2,I2,f2⟩:=SI.fzL is I1;exact⟨G2,I2,f1.trans f2⟩
def jQ (ρ:R)(i:Nat):Sl:=match ρ[i]? with
 |some (.val d)=> .val d
 |_=> .emp
theorem zoW (ρ:R)(i:Nat):jQ ρ i= .emp\/∃d,jQ ρ i= .val d:=by
 unfold jQ
 split
 ·exact .inr ⟨_,rfl⟩
 ·exact .inl rfl
def eV (cap:AA Nat)(t:Nat)(ρ:R):R:=cap.map (jQ ρ)++List.replicate t .emp
def cP (cap:AA Nat)(t:Nat)(σ:St):St:=cap.map (λi=>(σ[i]?).join)++List.replicate t none
theorem zqL (I:SI K B G H σ ρ)(cap:AA Nat)(t:Nat):VS K G (cP cap t σ) (eV cap t ρ) where
 len:=by unfold cP eV;simp
 no:=by
  unfold gJ eV;rw[qch];intro s hs;rcases qaq.mp hs with h|h
  ·obtain⟨i,_,rfl⟩:=qci.mp h;rcases zoW ρ i with e|⟨d,e⟩
   ·rw[e]
   ·rw[e]
  ·rw[List.eq_of_mem_replicate h]
 val:=λi d e=>by
  unfold eV at e
  by_cases hi:i<cap.length
  ·rw[hG (~~~hi),cJ,bI hi]at e;have e':jQ ρ cap[i]= .val d:= ~~~e
   unfold jQ at e'
   split at e'
   ·rename_i d' q;cases e';obtain⟨v,h1,h2⟩:=I.slot _ _ q;refine⟨v,?_,h2⟩;unfold cP;rw[hG (~~~hi),cJ,bI hi];simp[h1]
   ·cases e'
  ·rw[uA (~~~hi),Dp]at e
   split at e
   ·cases e
   ·exact aI e
def iG (f:D->R->AB (AB D×R)):AA D->R->AB (AA D×R)
 |[],ρ=>some ([],ρ)
 |d::ds,ρ=>(f d ρ).bind λp=>(iG f ds p.2).map λq=>(p.1.toList++q.1,q.2)
def kL (g:D->R->AB R)(mt:MT)(me:ME):D->R->AB (AB D×R):=λd ρ=>(g d ρ).bind λρ1=>(mt ρ1).bind λp=>if p.1 then(me p.2).bind λq=>if gJ q.2 then some (some q.1,q.2)else none else if gJ p.2 then some (none,p.2)else none
def cZ (cap:AA Nat)(t:Nat)(mi:MA)(g:D->R->AB R)(mt:MT)(me:ME):MO:=λρ=>(mi ρ).bind λp=>if p.1.length<=16777216 then(iG (kL g mt me) p.1 (eV cap t (fzL cap p.2))).map λq=>(q.1,fzL cap p.2)else none
def Km (X:Cx)(ifs:AA AI)(m:MT)(t:TT):Prop:=∀B G H σ ρ d ρ' (Q:Bool->Hp->Prop),SI X.K B G H σ ρ->m ρ=some (d,ρ')->(∀G' H',SI X.K B G' H' σ ρ'->Fz G G'->Q d H')->t σ H Q
def Cw (X:Cx)(ifs:AA AI)(m:MT):Prop:=∃t,Mu X ifs t/\Km X ifs m t
def eK:MT:=λρ=>some (true,ρ)
theorem fC:Cw X [] eK:=⟨_,xJ,λB G H σ ρ d ρ' Q I hm k=>by exists bK hm;exact k G H I (Fz.refl G)⟩
theorem Dr {c:AI}{m:MT}(h:STt X c m):Cw X [c] m:=h.el λt p s=>⟨t,zZ p,s⟩
def jW (env:Env)(scope:Scope):Bool:=(scope.names.all λx=>scope.names.lookup x.1==some x.2&&(x.2 != .free||(env.kindOf x.1==some .cell||env.kindOf x.1==some .free)))
theorem Xf (hk:scope.kind= .function)(h:jW X.env scope=true):BlkOk X scope:=by
 unfold jW at h;rw[qch]at h;refine⟨hk,λx hx=>?_,λx hx hf=>?_⟩
 ·have:=h x hx;simp only[cV,Bool.or_eq_true,qb5,qaQ]at this;exact this.1
 ·have:=h x hx;simp only[cV,Bool.or_eq_true,qb5,qaQ]at this;exact(this.2).resolve_left (λz=>z hf)
def jN (names:AA (Str×NameKind))(N XN:AA Str)(cap:AA Nat)(t:Nat):Bool:=N.length==cap.length+t&&(cap.zip N).all λp=>XN[p.1]? ==some p.2&&names.lookup p.2==some .free
theorem Qw (h:jN scope.names N X.N cap t=true):Cap X scope N (cP cap t):=by
 unfold jN at h;rw[cV,qch]at h;obtain⟨hl,h⟩:=h;have hl:N.length=cap.length+t:= ~~~hl
 have key:∀(σ:St) (i:Nat) (x:Str) (v:V),N[i]? =some x->(cP cap t σ)[i]? =some (some v)->∃j,cap[i]? =some j/\σ[j]? =some (some v)/\X.N[j]? =some x/\scope.names.lookup x=some .free:=λσ i x v h1 h2=>by
  unfold cP at h2
  by_cases hi:i<cap.length
  ·rw[hG (~~~hi),cJ,bI hi]at h2;have h3:(σ[cap[i]]?).join=some v:= ~~~h2
   have hz:(cap[i],x)∈cap.zip N:=by
    refine gI (i:=i) ?_;rw[Zl];exact⟨bI hi,h1⟩
   have:=h _ hz;simp only[cV,qaQ]at this;refine⟨cap[i],bI hi,?_,this.1,this.2⟩;cases q:σ[cap[i]]? with
   |none=>rw[q]at h3;exact aI h3
   |some o=>rw[q]at h3;rw[show o=some v from h3]
  ·rw[uA (~~~hi),Dp]at h2
   split at h2<;>cases h2
 refine⟨λσ=>by unfold cP;simp[hl],λσ i x v h1 h2=>?_,λσ i x v h1 h2 z=>?_⟩
 ·obtain⟨j,_,a,b,c⟩:=key σ i x v h1 h2;exact⟨zfM c,j,b,a⟩
 ·obtain⟨j,_,a,b,c⟩:=key σ i x v h1 h2;have e:(relabel scope X.env).names.lookup x=(scope.names.lookup x).map λk=>if(k==NameKind.free&&X.env.scope.kind== .function&&X.env.kindOf x==some .cell)then NameKind.cell else k:=zdD
  rw[e,c]at z;simp only[Em,Option.some.injEq]at z
  split at z<;>cases z
def kK (ok:R->Bool)(g:D->R->AB R)(mt:MT)(me:ME):D->R->AB (AB D×R):=λd ρ=>(g d ρ).bind λρ1=>(mt ρ1).bind λp=>if p.1 then(me p.2).bind λq=>if ok q.2 then some (some q.1,q.2)else none else if ok p.2 then some (none,p.2)else none
theorem uX {α β:Type}{a c:α}{b d:β}(h:some (a,b)=some (c,d))(k:a=c->b=d->C):C:=k (bK h).1 (bK h).2
theorem oX {ok:R->Bool}{mt:MT}{me:ME}(h:kK ok g mt me d ρ=some (o,ρ'))(k:∀ρ1 b ρ2,g d ρ=some ρ1->mt ρ1=some (b,ρ2)->((b=true/\∃dv,me ρ2=some (dv,ρ')/\o=some dv)\/(b=false/\o=none/\ρ2=ρ'))->ok ρ'=true->C):C:=by
 unfold kK at h;refine aP h λρ1 e1 h=>bD h λb ρ2 e2 h=>?_
 cases b with
 |true=>exact bD h λdv ρ3 e3 h=>aY h λz h=>uX h λq1 q2=>by subst q2;exact k ρ1 _ ρ2 e1 e2 (.inl ⟨rfl,dv,e3,q1.symm⟩) z
 |false=>exact aY h λz h=>uX h λq1 q2=>by subst q2;exact k ρ1 _ ρ2 e1 e2 (.inr ⟨rfl,q1.symm,rfl⟩) z
theorem zop {d:D}(h:iG f (d::ds) ρ=some (out,ρ'))(k:∀o ρ1 rest,f d ρ=some (o,ρ1)->iG f ds ρ1=some (rest,ρ')->out=o.toList++rest->C):C:=by
 simp only[iG]at h;exact bD h λo ρ1 e1 h=>jA h λrest ρ2 e2 h=>by
  exists Prod.mk.inj h;exact k o ρ1 rest e1 e2 rfl
structure LcG (K:W.Frag)(O:List (Nat×Addr))(G2 H1:Hp)(DD:Addr)(Hc Gc:Hp)(xs:List V):Prop where
 fc:Fz G2 Gc
 fcH:Fz Gc Hc
 nw:∀b o,Gc b=some o->G2 b≠none\/H1 b=none
 kp:∀b o,(∀i,(i,b)∉O)->H1 b=some o->Hc b=some o
 gD:Gc DD=none
 hDc:Hc DD=some (.lst xs)
theorem none_of {b:AD}(h:∀o,H b=some o->False):H b=none:=by
 cases q:H b with
 |none=>rfl
 |some u=>exact(h u q).elim
theorem LcG.next {G2 H1:Hp}(J:LcG K O G2 H1 DD Hc Gc xs)(hO:∀i,(i,DD)∉O){σ':St}(I:SI K ⟨Gc,Hc,O⟩ G' H' σ' ρ'):LcG K O G2 H1 DD H' G' xs where
 fc:=J.fc.trans I.g0
 fcH:=I.fz
 nw:=λb o e=>(I.new b o e).elim (λh=>by
  cases q:Gc b with
  |none=>exact AH q h
  |some u=>exact J.nw b u q) λh=> .inr (none_of λu q=>Classical.byCases (p:=∀i,(i,b)∉O) (λn=>aI ((show Hc b=none from h).symm.trans (J.kp b u n q))) λn=>n λi m=>I.ob i b m h)
 kp:=λb o n e=>I.keep b o (J.kp b o n e) n
 gD:=none_of λu q=>(I.new DD u q).elim (λh=>h J.gD) λh=>aI ((show Hc DD=none from h).symm.trans J.hDc)
 hDc:=I.keep DD _ J.hDc hO
theorem LcG.put {G2 H1:Hp}(J:LcG K O G2 H1 DD Hc Gc xs)(hD:H1 DD=none)(ys:AA V):LcG K O G2 H1 DD (upd Hc DD (.lst ys)) Gc ys where
 fc:=J.fc
 fcH:=J.fcH.right J.gD _
 nw:=J.nw
 kp:=λb o n e=>(aV (lF e hD)).trans (J.kp b o n e)
 gD:=J.gD
 hDc:=cT
section
variable {X:Cx}{elt iter tg:AI}{ifs:AA AI}{scope:Scope}{pos:Pos}{N:AA Str}{cap:AA Nat}{t:Nat}{mi:MA}{g:D->R->AB R}{mt:MT}{me:ME}
structure LcB (X:Cx)(scope:Scope)(N:List Str)(elt tg:Expr)(ifs:List Expr)(g:D->R->Option R)(mt:MT)(me:ME)(tg':Addr->Shared->Hp->List Addr->TG)(tt:Addr->Shared->Hp->List Addr->TT)(te:Addr->Shared->Hp->List Addr->TE):Prop where
 sg:∀C s H fp,SGb (cB X N scope C s H fp) tg g (tg' C s H fp)
 st:∀C s H fp,Km (cB X N scope C s H fp) ifs mt (tt C s H fp)
 se:∀C s H fp,SEb (cB X N scope C s H fp) elt me (te C s H fp)
def LcW (σs:St)(J:It)(DD:AD)(H1:Hp)(tg':AD->AE->Hp->AA AD->TG)(tt:AD->AE->Hp->AA AD->TT)(te:AD->AE->Hp->AA AD->TE)(Q:VK):Prop:=∃W:Nat->Nat->St->Hp->Prop,(∃m,W 0 m σs (upd H1 DD (.lst [])))/\∀i m σ H,W i m σ H->
 (J.stop i H /\ Q (.ref DD) H) \/ (J.go i H /\ ∀ C s₀ H₀ fp x H', J.yld i H x H' -> tg' C s₀ H₀ fp x σ H' λσ2 H2 => tt C s₀ H₀ fp σ2 H2 λok H3 => if ok = true then te C s₀ H₀ fp σ2 H3 λv H4 => ∃ xs, H4 DD = some (.lst xs) /\ xs.length < sizeLine /\ ∃ m', m' < m /\ W (i + 1) m' σ2 (upd H4 DD (.lst (xs ++ [v])))
  else ∃m',m'<m/\W (i+1) m' σ2 H3)
theorem zlJ (blk:LcB X scope N elt tg ifs g mt me tg' tt te){ok:R->Bool}{items all:AA D}{ρs ρf:R}{G1 G2 H1:Hp}{σs:St}{J:It}{Q:VK}(IT:Itm X.K J G1 items)(f2:Fz G1 G2)(fH:Fz G2 H1)(hD:H1 DD=none)(AO:items.length<=16777216)(hO:∀i,(i,DD)∉O)(jsi:∀G H σ ρ,JJ G H σ ρ->Fz G H->SI X.K ⟨G,H,O⟩ G H σ ρ)(joi:∀Gb Hb G H σ ρ,SI X.K ⟨Gb,Hb,O⟩ G H σ ρ->ok ρ=true->JJ G H σ ρ)(jup:∀G H σ ρ xs,JJ G H σ ρ->JJ G (upd H DD (.lst xs)) σ ρ)(j0:JJ G2 H1 σs ρs)(e2:iG (kK ok g mt me) items ρs=some (all,ρf))(k:∀Gc Hc σc xs,LcG X.K O G2 H1 DD Hc Gc xs->RepL X.K Gc xs all->JJ Gc Hc σc ρf->Q (.ref DD) Hc):LcW σs J DD H1 tg' tt te Q:=by
 refine⟨λi m σc Hc=>m=items.length-i/\i<=items.length/\∃Gc ρc acc xs rest,LcG X.K O G2 H1 DD Hc Gc xs/\RepL X.K Gc xs acc/\xs.length<=i/\JJ Gc Hc σc ρc/\iG (kK ok g mt me) (items.drop i) ρc=some (rest,ρf)/\all=acc++rest,
  ⟨items.length,rfl,gR _,G2,ρs,[],[],all,⟨Fz.refl _,fH.right (fH.free hD) _,λb o e=> .inl (by rw[e];exact nofun),λb o _ e=>(aV (lF e hD)).trans e,fH.free hD,cT⟩,.nil,bC _,jup _ _ _ _ _ j0,e2,rfl⟩,?_⟩
 rintro i m σc Hc ⟨rfl,hi,Gc,ρc,acc,xs,rest,J0,ra,hx,jj,ec,eall⟩
 by_cases hlt:i<items.length
 ·refine .inr ⟨IT.go Hc i (f2.trans (J0.fc.trans J0.fcH)) hlt,λC s₀ H₀ fp x H' y=>?_⟩;rw[qb8 hlt]at ec;refine zop ec λo ρ3 rest2 h3 h4 er=>oX h3 λρ5 b ρ6 h5 h6 hb hok=>?_
  have f3':Fz G1 Gc:=f2.trans J0.fc;have yy2:(H'=Hc/\RepD X.K Gc x items[i])\/∃p xs es,Hc p=none/\H'=upd Hc p (.tup xs)/\x= .ref p/\items[i]= .tup es/\RepL X.K Gc xs es:=(IT.yld Hc i x H' (f3'.trans J0.fcH) y items[i] (bI hlt)).imp (λq=>⟨q.1,q.2.mono f3'⟩) λ⟨p,xs,es,a,b,c,d,e⟩=>⟨p,xs,es,a,b,c,d,e.mono f3'⟩
  obtain⟨G3,I3,f3,r3⟩:=(jsi _ _ _ _ jj J0.fcH).yld yy2;refine blk.sg C s₀ H₀ fp _ G3 H' σc ρc x items[i] ρ5 _ I3 r3 h5 λG4 H4 σ4 I4 f4=>blk.st C s₀ H₀ fp _ G4 H4 σ4 ρ5 b ρ6 _ I4 h6 λG5 H5 I5 f5=>?_
  have hlt2:items.length-(i+1)<items.length-i:=∅
  rcases hb with⟨rfl,dv,h7,rfl⟩|⟨rfl,rfl,rfl⟩
  ·refine blk.se C s₀ H₀ fp _ G5 H5 σ4 ρ6 dv _ _ I5 h7 λG6 H6 v I6 f6 r6=>?_
   have J1:=J0.next hO I6;exact⟨xs,J1.hDc,by rw[gZ];lia,_,hlt2,rfl,hlt,G6,_,acc++[dv],xs++[v],rest2,J1.put hD _,(ra.mono I6.g0).snoc r6,by rw[eS,qbD];lia,jup _ _ _ _ _ (joi _ _ _ _ _ _ I6 hok),h4,by rw[eall,er,tN];rfl⟩
  ·exact⟨_,hlt2,rfl,hlt,G5,_,acc,xs,rest2,J0.next hO I5,ra.mono I5.g0,∅,joi _ _ _ _ _ _ I5 hok,h4,by rw[eall,er];rfl⟩
 ·have e:i=items.length:=∅
  subst e;rw[List.drop_length]at ec;have hr:=bK ec;obtain⟨q1,q2⟩:=hr;subst q1 q2;rw[lE]at eall;subst eall;exact .inl ⟨IT.stop Hc _ (f2.trans (J0.fc.trans J0.fcH)) (bC _),k Gc Hc σc xs J0 ra jj⟩
theorem zkL (si:nD X tg iter mi wi)(blk:LcB X scope N elt tg ifs g mt me tg' tt te):
  ∀B G H σ ρ ds ρ' (Q:VK),SI X.K B G H σ ρ->cZ cap t mi g mt me ρ=some (ds,ρ')->
   (∀G' H' l xs,SI X.K B G' H' σ ρ'->Fz G G'->G' l=none->H' l=some (.lst xs)->RepL X.K G' xs ds->B.H l=none->Nw X.K G' H' σ ρ' l->Q (.ref l) H')->Nt (cP cap t) wi tg' tt te σ H Q:=λB G H σ ρ ds ρ' Q I hm k=>
 bD hm λitems ρ1 e1 hm=>si B G H σ ρ items ρ1 _ I e1 λJ G1 H1 I1 f1 IT DD hD=>aY hm λAO hm=>jA hm λall ρf e2 e3=>by
  exists Prod.mk.inj e3;obtain⟨G2,I2,f2⟩:=SI.fzL cap I1;exact zlJ blk (O:=[]) (JJ:=λG _ σ ρ=>VS X.K G σ ρ) IT f2 I2.fz hD AO (λi m=>nomatch m) (λG H σ ρ h f=>h.si f) (λ_ _ _ _ _ _ I h=>VS.of I h) (λ_ _ _ _ _ h=>h) (zqL I2 cap t) e2
   λGc Hc σc xs J ra _=>k Gc Hc DD xs (I2.grow J.fc J.fcH J.nw λb o e=>J.kp b o nofun e) (f1.trans (f2.trans J.fc)) J.gD J.hDc ra (I2.there DD hD) (I2.own_ne hD J.nw λb o e=>J.kp b o nofun e)
theorem LcB.mk' (hg:∀C s H fp,SG (cB X N scope C s H fp) tg g)(ht:∀C s H fp,Cw (cB X N scope C s H fp) ifs mt)(he:∀C s H fp,SE (cB X N scope C s H fp) elt me):LcB X scope N elt tg ifs g mt me (λC s H fp=>(hg C s H fp).choose) (λC s H fp=>(ht C s H fp).choose) (λC s H fp=>(he C s H fp).choose):=⟨λC s H fp=>(hg C s H fp).choose_spec.2,λC s H fp=>(ht C s H fp).choose_spec.2,λC s H fp=>(he C s H fp).choose_spec.2⟩
theorem fK (cap:AA Nat)(t:Nat)(N:AA Str)(hc:X.calm=true)(hi:SIt X tg iter mi)(hg:∀C s H fp,SG (cB X N scope C s H fp) tg g)(ht:∀C s H fp,Cw (cB X N scope C s H fp) ifs mt)(he:∀C s H fp,SE (cB X N scope C s H fp) elt me)(hk:scope.kind= .function:=by rfl)(hb:jW X.env scope=true:=by kernel_rfl)(hcap:jN scope.names N X.N cap t=true:=by kernel_rfl)(hs:∀x,foldedSetIterable iter X.env x=pure x:=by exactλ_=>rfl):SO X (.ListComp elt [⟨tg,iter,ifs,0⟩] scope pos) (cZ cap t mi g mt me):=by
  refine hi.el λwi pi si=>?_
  exact⟨_,Bo hc (Xf hk hb) (Qw hcap) pi (λC s H fp=>(hg C s H fp).choose_spec.1) (λC s H fp=>(ht C s H fp).choose_spec.1) (λC s H fp=>(he C s H fp).choose_spec.1) hs,
    zkL si (.mk' hg ht he)⟩
end
section
variable {X:Cx}{elt iter tg:AI}{ifs:AA AI}{scope:Scope}{pos lpos pos':Pos}{N:AA Str}{cap:AA Nat}{t:Nat}{mi:MA}{g:D->R->AB R}{mt:MT}{me:ME}
theorem zk2 {σ0:St->St}(hN:X.N.Nodup)(hxi:X.N[i]? =some x)(hx:jX X.env.scope x)(hf:X.fn x=true\/X.env.scope.names.lookup x=some .local)(hsw:swapsWith (.ListComp elt [⟨tg,iter,ifs,0⟩] scope lpos) (some (.Name x pos')) pos.line X.env=pure true)(hc:X.calm=true)(b:BlkOk X scope)(cap:Cap X scope N σ0)(hi:PI X tg iter wi)(hg:∀C s H fp,PG (cB X N scope C s H fp) tg (tg' C s H fp))(ht:∀C s H fp,Mu (cB X N scope C s H fp) ifs (tt C s H fp))(he:∀C s H fp,PE (cB X N scope C s H fp) elt (te C s H fp))(hs:∀x,foldedSetIterable iter X.env x=pure x):PS X (.Assign [.Name x pos'] (.ListComp elt [⟨tg,iter,ifs,0⟩] scope lpos) pos) (λE σ H=>Nt σ0 wi tg' tt te σ H λv H'=>E.nx (σ.set i (some v)) H'):=by
 intro AM s σ H E I h;rw[exec_Assign_Name_used _ _ _ _ hsw];refine aH (Hf (aH ?_));show AG _ _ (do let _<-comprehension (.ListComp elt [⟨tg,iter,ifs,0⟩] scope lpos) scope X.env _ (newList []) false (eval iter X.env) (some (assign (.Name x pos') X.env))) _ _ s;refine aH (aW (zqH (use:=some (assign (.Name x pos') X.env)) (QQ:=λ_ s'=>SP X AM E .next s') (E:=X.xe) hc b cap hi hg ht he I h hs ?_) λ_ s' hq=>qaB (qaB hq));intro D fp C H1 H' σc s1 s' I1 f1 eC J q;subst eC;have I2:Inv X AM σ H' s':=by
  have z:=zra (h':=s'.heap) I1 f1 J (Heap.SameBut.refl _ _);exact z
 obtain⟨m,⟨o,es,ep,ho,hd,hrest⟩,_⟩:=J.loc;have fpk:dN X AM H' s1⁻¹:=I1.fpOk (bC _) J.free;have I3:Inv X (AM++[(s1⁻¹,o)]) σ H' s':=I2.pins_of λp hp=>by
  rcases qaq.mp hp with hp|hp
  ·exact I2.pin p (dQ _ hp)
  ·have e:p=(s1⁻¹,o):= ~~~hp
   subst e;exact⟨ho,fpk.1,fpk.2.1,fpk.2.2.1,λv z=>by rw[hd]at z;cases z⟩
 refine aW (zps hN hxi hx hf (AM++[(s1⁻¹,o)]) s' σ H' (.ref D) (.ref D) (λσ2 H2=>E.nx σ2 H2) I3 rfl q) λ_ s'' ⟨σ2,H2,I4,q4⟩=>?_
 have pC:=I4.pin (s1⁻¹,o) (dQ _ (dQ _ (by simp)));refine⟨m,⟨o,es,ep,pC.1,hd,hrest⟩,λh' hs'=>?_⟩;have I5:Inv X AM σ2 H2 s'':=I4.unpinned;have fp2:dN X AM H2 s1⁻¹:=I1.fpOk (bC _) pC.2.1;have I6:=I5.turned (t':=s''.toks) (h':=h') (it:=s1⁻¹) (λb' o' hb e=>hs'.extBut b' o' hb e) fp2.1 fp2.2.1 fp2.2.2.2.1 fp2.2.2.2.2.1 fp2.2.2.2.2.2;exact⟨σ2,H2,I6,q4⟩
end
section
variable {X:Cx}{AM:AA (AD×Obj)}{σ:St}{H:Hp}{s:AE}
theorem Wf {A:Around}{p:AD}(hh:A.handled=none)(I:Inv X AM σ H s)(hq:SqL X.K H p ys\/SqT X.K H p ys)(k : ∀ (its : AA AC) (s₂ : AE) (St : Nat -> AK -> Prop), Vals ys its -> Walks X.prog X.w A s⁻¹ [s⁻¹, p] [s⁻¹] its.length (λi v => its[i]? = some v) St -> St 0 s₂.heap -> (∀ b ∈ [s⁻¹, p], b < s₂⁻¹) ->
   (∀h' tk,(∀b o,b∉[s⁻¹]->s₂.heap.get? b=some o->h'.get? b=some o)->Inv X AM σ H {s₂ with heap:=h',toks:=tk})->Q (.ref s⁻¹) s₂):AG (model X.prog X.w) A (pyIter (.ref p)) Q E s:=by
 have fin:∀(o:Obj),∀h' tk,(∀b o',b∉[s⁻¹]->(s.heap.push o).get? b=some o'->h'.get? b=some o')->Inv X AM σ H {({s with heap:=s.heap.push o}:AE)with heap:=h',toks:=tk}:=λo h' tk hk=>by
  have z:=I.kept (h':=h') (t':=tk) λb o' e=>hk b o' (~~~fY (cM e)) (bP _ e)
  exact z
 rcases hq with hq|hq
 ·obtain⟨its,r,pl,hz⟩:=I.list hq;have hlt:p<s⁻¹:=by obtain⟨_,_,e,_⟩:=pl;exact cM e
  refine wpAny_pyIter_list pl.isList (k its _ (λi h=>h.IsListIter s⁻¹ p i/\h.IsList p its.toArray) r ?_ ⟨⟨_,eN _ rfl,rfl,rfl⟩,pl.isList.push _⟩ (λb hb=>?_) (fin _))
  ·have w:=Walks.list (prog:=X.prog) (w:=X.w) (A:=A) hh s⁻¹ p (fY hlt) its.toArray;simpa using w
  ·show b<(s.heap.push _).objs.size;rw[lM];simp at hb;rcases hb with z|z
   ·rw[z];exact Ot _
   ·rw[z];exact qcf hlt
 ·obtain⟨its,r,pl,hz⟩:=I.tuple hq;have hlt:p<s⁻¹:=pl.lt;refine qb9 (show s.heap.IsTuple p its.toArray from pl) (k its _ (λi h=>h.IsTupleIter s⁻¹ p i/\h.IsTuple p its.toArray) r ?_ ⟨⟨_,eN _ rfl,rfl,rfl⟩,(show s.heap.IsTuple p its.toArray from pl).push _⟩ (λb hb=>?_) (fin _))
  ·have w:=Walks.tuple (prog:=X.prog) (w:=X.w) (A:=A) hh s⁻¹ p (fY hlt) its.toArray;simpa using w
  ·show b<(s.heap.push _).objs.size;rw[lM];simp at hb;rcases hb with z|z
   ·rw[z];exact Ot _
   ·rw[z];exact qcf hlt
end
theorem zj4 (ns:AA Int):∀j,preSum (λi=>ns.getD i 0) j=(ns.take j).sum
 |0=>by simp[preSum]
 |j+1=>by
  rw[preSum,zj4 ns j]
  by_cases h:j<ns.length
  ·rw[qck h,List.sum_append];simp[h]
  ·rw[lN ∅,lN ∅];simp[fD (by lia:ns.length<=j)]
theorem qD (r:Vals (ns.map V.int) its){v:AC}(e:its[i]? =some v):∃t,v= .int (ns.getD i 0) t:=by
 have hl:=r.length;have hi:i<its.length:=(qas.mp e).1;rw[eI]at hl;have e2:(ns.map V.int)[i]? =some (.int ns[i]):=by rw[cJ,bI ∅];rfl
 obtain⟨u,h1,t,h2⟩:=r.get e2;rw[e]at h1;cases h1;exact⟨t,by rw[h2];simp[show i<ns.length by lia]⟩
def Xu (K:AF):AA V->Hp->VK->Prop:=λxs H Q=>∃(p:AD) (ns:AA Int),xs=[.ref p]/\(SqL K H p (ns.map V.int)\/SqT K H p (ns.map V.int))/\Q (.int ns.sum) H
theorem zo0 (hc:X.calm=true):iO X (.builtin "sum") (Xu X.K):=by
 intro AM s σ H xs us Q I r h;obtain⟨p,ns,rfl,hq,q⟩:=h;obtain⟨u,rfl,ru⟩:=qX r;cases ru;refine call_sum_walkG (Wf (A:=X.A.in1) (I.ok.hd hc) I hq λits s₂ St rv W st hfp fin=>?_);refine⟨_,_,_,_,_,_,λi=>ns.getD i 0,rfl,W,st,hfp,λi v e=>qD rv e,λh' tk t' hk=>⟨.int ns.sum,H,fin h' tk hk,⟨t',?_⟩,q⟩⟩;have hl:=rv.length;rw[eI]at hl;rw[zj4,<-hl,lN (bC _)]
def fL:AA D->AB (AA Int)
 |[]=>some []
 | .int i::ds=>(fL ds).map (i:: ·)
 |_=>none
theorem Yv:∀{ds:AA D} {ns:AA Int},fL ds=some ns->ds=ns.map .int
 |[],ns,h=>by cases h;rfl
 |d::ds,ns,h=>by
  cases d<;>simp only[fL]at h<;>try exact aI h
  refine bQ h λms e1 e2=>?_
  subst e2;rw[Yv e1];rfl
@[simp] theorem intsOf_map:∀(ns:AA Int),fL (ns.map .int)=some ns
 |[]=>rfl
 |n::ns=>by simp[fL,intsOf_map ns]
def oF:AA D->AB D
 |[d]=>(eE [d]).bind λds=>(fL ds).map λns=> .int ns.sum
 |_=>none
theorem zik (I:SI K B G H σ ρ){x:V}(r:RepD K G x d)(e:eE [d]=some ds):∃p ys,x= .ref p/\(SqL K H p ys\/SqT K H p ys)/\RepL K G ys ds:=by
 cases d<;>simp only[eE]at e<;>try cases e
 ·obtain⟨p,ys,ex,hp,q⟩:=I.lst r;exact⟨p,ys,ex,.inl (SqL.of hp),q⟩
 ·obtain⟨p,ys,ex,hp,q⟩:=I.tup r;exact⟨p,ys,ex,.inr (SqT.of hp),q⟩
 ·obtain⟨p,ex,hp⟩:=r;exact⟨p,_,ex,.inl (I.fz.sql hp),RepL.ints _⟩
theorem Ft:VC X (Xu X.K) oF:=by
 intro B G H σ ρ xs ds d Q I r hf k
 match ds,hf with
 |[a],hf=>
  refine aP hf λes e1 hf=>?_
  refine bQ hf λns e2 e3=>?_
  subst e3;obtain⟨x,rfl,ra⟩:=r.one;obtain⟨p,ys,rfl,hq,ry⟩:=zik I ra e1;rw[Yv e2]at ry;rw[RepL.ints_eq ry]at hq;exact⟨p,ns,rfl,hq,k G H _ I (Fz.refl G) rfl⟩
 |[],hf=>exact aI hf
 |_::_::_,hf=>exact aI hf
theorem nH (hc:X.calm=true)(ml:X.mg "sum"=none)(ha:SA X [e] ma)(hg:Gl X "sum":=by rfl)(he:starEach [e] X.env=(false,eval e X.env)::starEach [] X.env:=by rfl):SE X (.Call (.Name "sum" p) [e] [] pos) (mC oF ma):=
 Bk (zo0 hc) Ft (by decide+kernel) ml ha hg (by decide) (by decide) he rfl
def zA:AA D->AB (AA Bool)
 |[]=>some []
 | .bl b::ds=>(zA ds).map (b:: ·)
 |_=>none
theorem zjZ:∀{ds:AA D} {bs:AA Bool},zA ds=some bs->ds=bs.map .bl
 |[],ns,h=>by cases h;rfl
 |d::ds,ns,h=>by
  cases d<;>simp only[zA]at h<;>try exact aI h
  refine bQ h λms e1 e2=>?_
  subst e2;rw[zjZ e1];rfl
@[simp] theorem boolsOf_map:∀(bs:AA Bool),zA (bs.map .bl)=some bs
 |[]=>rfl
 |n::ns=>by simp[zA,boolsOf_map ns]
theorem RepL.bools_eq:∀{bs:AA Bool} {xs:AA V},RepL K G xs (bs.map D.bl)->xs=bs.map V.bl
 |[],_,e=>e
 |n::ns,_,⟨x,ys,e,q,r⟩=>by subst e;cases(show x=V.bl n from q);rw[RepL.bools_eq r];rfl
theorem zqk {bs:AA Bool}(r:Vals (bs.map V.bl) its){v:AC}(e:its[i]? =some v):∃b,bs[i]? =some b/\v= .bool b:=by
 have hl:=r.length;have hi:i<its.length:=(qas.mp e).1;rw[eI]at hl;have e2:(bs.map V.bl)[i]? =some (.bl bs[i]):=by rw[cJ,bI ∅];rfl
 obtain⟨u,h1,h2⟩:=r.get e2;rw[e]at h1;cases h1;exact⟨bs[i],bI ∅,h2⟩
def Xp (K:AF)(f:AA Bool->Bool):AA V->Hp->VK->Prop:=λxs H Q=>∃(p:AD) (bs:AA Bool),xs=[.ref p]/\(SqL K H p (bs.map V.bl)\/SqT K H p (bs.map V.bl))/\Q (.bl (f bs)) H
theorem zo2 (hc:X.calm=true):iO X (.builtin "all") (Xp X.K λbs=>bs.all id):=by
 intro AM s σ H xs us Q I r h;obtain⟨p,bs,rfl,hq,q⟩:=h;obtain⟨u,rfl,ru⟩:=qX r;cases ru;refine call_all_walk (Wf (A:=X.A.in1) (I.ok.hd hc) I hq λits s₂ St rv W st hfp fin=>?_);have hl:=rv.length;rw[eI]at hl;refine⟨_,_,_,_,_,_,λi=>(bs[i]?).getD true,rfl,W,st,λi v s' Q' E' hP hQ=>?_,λh' tk hk=>⟨.bl (bs.all id),H,fin h' tk hk,?_,q⟩⟩
 ·obtain⟨b,e,rfl⟩:=zqk rv hP;simp only[e,Sn]at hQ;exact Eu hQ
 ·rw[<-hl,LSm.range_all];rfl
def iY (f:AA Bool->Bool):AA D->AB D
 |[d]=>(eE [d]).bind λds=>(zA ds).map λbs=> .bl (f bs)
 |_=>none
theorem Gf (f:AA Bool->Bool):VC X (Xp X.K f) (iY f):=by
 intro B G H σ ρ xs ds d Q I r hf k
 match ds,hf with
 |[a],hf=>
  refine aP hf λes e1 hf=>?_
  refine bQ hf λns e2 e3=>?_
  subst e3;obtain⟨x,rfl,ra⟩:=r.one;obtain⟨p,ys,rfl,hq,ry⟩:=zik I ra e1;rw[zjZ e2]at ry;rw[RepL.bools_eq ry]at hq;exact⟨p,ns,rfl,hq,k G H _ I (Fz.refl G) rfl⟩
 |[],hf=>exact aI hf
 |_::_::_,hf=>exact aI hf
theorem Qx (hc:X.calm=true)(ml:X.mg "all"=none)(ha:SA X [e] ma)(hg:Gl X "all":=by rfl)(he:starEach [e] X.env=(false,eval e X.env)::starEach [] X.env:=by rfl):SE X (.Call (.Name "all" p) [e] [] pos) (mC (iY λbs=>bs.all id) ma):=
 Bk (zo2 hc) (Gf _) (by decide+kernel) ml ha hg (by decide) (by decide) he rfl
def Cg (g:Int->Int->Int):AA D->AB D
 |[.int i,.int j]=>some (.int (g i j))
 |_=>none
theorem Di (g:Int->Int->Int):VC X (λxs H Q=>∃i j,xs=[.int i,.int j]/\Q (.int (g i j)) H) (Cg g):=by
 intro B G H σ ρ xs ds d Q I r hf k;unfold Cg at hf
 split at hf
 ·rename_i i j;cases hf;obtain⟨x,y,rfl,rx,ry⟩:=r.two;cases(show x=V.int i from rx);cases(show y=V.int j from ry);exact⟨i,j,rfl,k G H _ I (Fz.refl G) rfl⟩
 ·exact aI hf
def oM (i j:Int):Int:=if j>i then j else i
def iW (i j:Int):Int:=if j<i then j else i
theorem yA (hc:X.calm=true)(ml:X.mg "max"=none)(ha:SA X [a,b] ma)(hg:Gl X "max":=by rfl)(he:starEach [a,b] X.env=(false,eval a X.env)::starEach [b] X.env:=by rfl)(hpl:(backTo pos (starEach [b] X.env)).any (·.1)=false:=by rfl):SE X (.Call (.Name "max" p) [a,b] [] pos) (mC (Cg oM) ma):=
 Bk (zqo hc) (Di oM) (by decide+kernel) ml ha hg (by decide) (by decide) he hpl
theorem zq9 (hc:X.calm=true)(ml:X.mg "min"=none)(ha:SA X [a,b] ma)(hg:Gl X "min":=by rfl)(he:starEach [a,b] X.env=(false,eval a X.env)::starEach [b] X.env:=by rfl)(hpl:(backTo pos (starEach [b] X.env)).any (·.1)=false:=by rfl):SE X (.Call (.Name "min" p) [a,b] [] pos) (mC (Cg iW) ma):=
 Bk (zqe hc) (Di iW) (by decide+kernel) ml ha hg (by decide) (by decide) he hpl
def iA (i:Int):Int:=if i<0 then-i else i
def iU:AA D->AB D
 |[.int i]=>some (.int (iA i))
 |_=>none
theorem Uj (ml:X.mg "abs"=none)(ha:SA X [a] ma)(hg:Gl X "abs":=by rfl)(he:starEach [a] X.env=(false,eval a X.env)::starEach [] X.env:=by rfl):SE X (.Call (.Name "abs" p) [a] [] pos) (mC iU ma):=
 Bk rP (λB G H σ ρ xs ds d Q I r hf k=>by
  unfold iU at hf
  split at hf
  ·rename_i i;cases hf;obtain⟨x,rfl,rx⟩:=r.one;cases(show x=V.int i from rx);exact⟨i,rfl,k G H _ I (Fz.refl G) rfl⟩
  ·exact aI hf) (by decide+kernel) ml ha hg (by decide) (by decide) he rfl
def yD:AA D->AB D
 |[.int i]=>some (.int i)
 |[.bl b]=>some (.int (if b then 1 else 0))
 |_=>none
theorem pM (ml:X.mg "int"=none)(ha:SA X [a] ma)(hg:Gl X "int":=by rfl)(he:starEach [a] X.env=(false,eval a X.env)::starEach [] X.env:=by rfl):SE X (.Call (.Name "int" p) [a] [] pos) (mC yD ma):=
 zlY zpj (λB G H σ ρ xs ds d Q I r hf k=>by
  unfold yD at hf
  split at hf
  ·rename_i i;cases hf;obtain⟨x,rfl,rx⟩:=r.one;cases(show x=V.int i from rx);exact .inl ⟨i,rfl,k G H _ I (Fz.refl G) rfl⟩
  ·rename_i b;cases hf;obtain⟨x,rfl,rx⟩:=r.one;cases(show x=V.bl b from rx);exact .inr ⟨b,rfl,k G H _ I (Fz.refl G) rfl⟩
  ·exact aI hf) (by decide+kernel) ml ha hg (by decide) (by decide) he rfl
theorem zia (K:AF):W.kitOne K (.type "NoneType") (.type "int")=some false:=by kernel_rfl
theorem zhP (K:AF):W.kitOne K (.type "NoneType") (.type "bool")=some false:=by kernel_rfl
theorem zgV (K:AF):W.kitOne K (.type "NoneType") (.type "tuple")=some false:=by kernel_rfl
theorem zhN (K:AF):W.kitOne K (.type "NoneType") (.type "list")=some false:=by kernel_rfl
theorem zh9 (K:AF):W.kitOne K (.type "NoneType") (.type "str")=some false:=by kernel_rfl
theorem zlr (K:AF):W.kitOne K (.type "bool") (.type "int")=some true:=by kernel_rfl
theorem zle (K:AF):W.kitOne K (.type "bool") (.type "bool")=some true:=by kernel_rfl
theorem zjG (K:AF):W.kitOne K (.type "bool") (.type "tuple")=some false:=by kernel_rfl
theorem zkB (K:AF):W.kitOne K (.type "bool") (.type "list")=some false:=by kernel_rfl
theorem zlN (K:AF):W.kitOne K (.type "bool") (.type "str")=some false:=by kernel_rfl
theorem zmr (K:AF):W.kitOne K (.type "int") (.type "int")=some true:=by kernel_rfl
theorem zl4 (K:AF):W.kitOne K (.type "int") (.type "bool")=some false:=by kernel_rfl
theorem zkW (K:AF):W.kitOne K (.type "int") (.type "tuple")=some false:=by kernel_rfl
theorem zll (K:AF):W.kitOne K (.type "int") (.type "list")=some false:=by kernel_rfl
theorem zmZ (K:AF):W.kitOne K (.type "int") (.type "str")=some false:=by kernel_rfl
theorem zmz (K:AF):W.kitOne K (.type "str") (.type "int")=some false:=by kernel_rfl
theorem zlL (K:AF):W.kitOne K (.type "str") (.type "bool")=some false:=by kernel_rfl
theorem zk4 (K:AF):W.kitOne K (.type "str") (.type "tuple")=some false:=by kernel_rfl
theorem zlZ (K:AF):W.kitOne K (.type "str") (.type "list")=some false:=by kernel_rfl
theorem znh (K:AF):W.kitOne K (.type "str") (.type "str")=some true:=by kernel_rfl
theorem zl1 (K:AF):W.kitOne K (.type "list") (.type "int")=some false:=by kernel_rfl
theorem zk6 (K:AF):W.kitOne K (.type "list") (.type "bool")=some false:=by kernel_rfl
theorem zjU (K:AF):W.kitOne K (.type "list") (.type "tuple")=some false:=by kernel_rfl
theorem zkt (K:AF):W.kitOne K (.type "list") (.type "list")=some true:=by kernel_rfl
theorem zl5 (K:AF):W.kitOne K (.type "list") (.type "str")=some false:=by kernel_rfl
theorem zkQ (K:AF):W.kitOne K (.type "tuple") (.type "int")=some false:=by kernel_rfl
theorem zjO (K:AF):W.kitOne K (.type "tuple") (.type "bool")=some false:=by kernel_rfl
theorem zjv (K:AF):W.kitOne K (.type "tuple") (.type "tuple")=some true:=by kernel_rfl
theorem zjN (K:AF):W.kitOne K (.type "tuple") (.type "list")=some false:=by kernel_rfl
theorem zkp (K:AF):W.kitOne K (.type "tuple") (.type "str")=some false:=by kernel_rfl
def Uz (T:String):D->Bool
 | .non=>false
 | .bl _=>T=="bool"||T=="int"
 | .int _=>T=="int"
 | .str _=>T=="str"
 | .lst _=>T=="list"
 | .tup _=>T=="tuple"
 | .scr _=>T=="list"
 | .exc _=>false
 | .dic _ _=>false
 | .dit _ _=>false
 | .obj _ _ _ _ _=>false
def Vk (T:String):Bool:=["int","bool","tuple","list","str"].contains T
def To (K:AF)(T:String):AA V->Hp->VK->Prop:=λxs H Q=>∃x t b,xs=[x,.ty T]/\TyOf K H x t/\W.kitOne K t (.type T)=some b/\Q (.bl b) H
theorem rB (T:String):iO X (.builtin "isinstance") (To X.K T):=by
 intro AM s σ H xs us Q I r h;obtain⟨x,t,b,rfl,ty,e,q⟩:=h;obtain⟨u,w',rfl,r1,r2⟩:=kD r;cases(show w'=Value.type T from r2);exact zpi I r1 ty e λtk=>⟨.bl b,H,I.tok _,rfl,q⟩
def eIsI (T:String)(ma:ME):ME:=λρ=>(ma ρ).bind λp=>if Vk T&&noS1 p.1 then some (.bl (Uz T p.1),p.2)else none
where noS1:D->Bool
 | .scr _=>false
 | .exc _=>false
 | .dic _ _=>false
 | .dit _ _=>false
 | .obj _ _ _ _ _=>false
 |_=>true
theorem yG (K:AF){T:String}(hT:Vk T=true):W.kitOne K (.type "NoneType") (.type T)=some false/\W.kitOne K (.type "bool") (.type T)=some (T=="bool"||T=="int")/\W.kitOne K (.type "int") (.type T)=some (T=="int")/\
  W.kitOne K (.type "str") (.type T)=some (T=="str")/\W.kitOne K (.type "list") (.type T)=some (T=="list")/\W.kitOne K (.type "tuple") (.type T)=some (T=="tuple"):=by
 have h:T="int"\/T="bool"\/T="tuple"\/T="list"\/T="str":=by simpa[Vk]using hT
 rcases h with rfl|rfl|rfl|rfl|rfl
 ·exact⟨zia K,zlr K,zmr K,zmz K,zl1 K,zkQ K⟩
 ·exact⟨zhP K,zle K,zl4 K,zlL K,zk6 K,zjO K⟩
 ·exact⟨zgV K,zjG K,zkW K,zk4 K,zjU K,zjv K⟩
 ·exact⟨zhN K,zkB K,zll K,zlZ K,zkt K,zjN K⟩
 ·exact⟨zh9 K,zlN K,zmZ K,znh K,zl5 K,zkp K⟩
theorem zod {ma:ME}(T:String)(ml:X.mg "isinstance"=none)(mT:X.mg x=none)(hbT:bootBuiltins x=some (.type T))(ha:SE X a ma)(hg:Gl X "isinstance":=by rfl)(hgT:Gl X x:=by rfl)(hn:x≠"__name__":=by decide)(hd:(x==("__debug__":Str))=false:=by decide)(he:starEach [a,.Name x q] X.env=(false,eval a X.env)::starEach [.Name x q] X.env:=by rfl)(he2:starEach [.Name x q] X.env=(false,eval (.Name x q) X.env)::starEach [] X.env:=by rfl)(hpl:(backTo pos (starEach [.Name x q] X.env)).any (·.1)=false:=by rfl):
  SE X (.Call (.Name "isinstance" p) [a,.Name x q] [] pos) (eIsI T ma):=by
 refine ha.el λta pa sa=>?_
 refine⟨_,zis (rB T) hg ml boot_isinstance (jJ pa (jJ (uZ (v:= .ty T) hgT mT hbT rfl hn hd) mS he2) he) (by decide) (by decide) he hpl,λB G H σ ρ d ρ' Q I hm k=>?_⟩;refine bD hm λy ρ1 e1 hm=>?_
 dsimp only at hm;refine aY hm λhT hm=>?_
 ·skip
  exists Prod.mk.inj (Option.some.inj hm);rw[cV]at hT;obtain⟨hT,hS⟩:=hT;refine sa B G H σ ρ y ρ1 _ I e1 λG1 H1 v I1 f1 r1=>?_
  obtain⟨k0,k1,k2,k3,k4,k5⟩:=yG X.K hT;have fin:∀t,TyOf X.K H1 v t->W.kitOne X.K t (.type T)=some (Uz T y)->To X.K T [v,.ty T] H1 Q:=λt ty e=>⟨v,t,Uz T y,rfl,ty,e,k G1 H1 _ I1 f1 rfl⟩
  cases y with
  |non=>cases(show v=V.non from r1);exact fin _ .non k0
  |bl c=>cases(show v=V.bl c from r1);exact fin _ (.bl c) k1
  |int c=>cases(show v=V.int c from r1);exact fin _ (.int c) k2
  |str c=>cases(show v=V.str c from r1);exact fin _ (.str c) k3
  |lst ds=>obtain⟨a,xs,e,hp,r⟩:=I1.lst r1;subst e;exact fin _ (.lst hp) k4
  |tup ds=>obtain⟨a,xs,e,hp,r⟩:=I1.tup r1;subst e;exact fin _ (.tup hp) k5
  |scr _=>cases hS
  |exc _=>cases hS
  |dic _ _=>cases hS
  |dit _ _=>cases hS
  |obj _ _ _ _ _=>cases hS
def bZ {α:Type}(xs:AA α)(lo hi:AB Int):AA α:=(xs.drop (HT.sIx xs.length 0 lo)).take (HT.sIx xs.length xs.length hi-HT.sIx xs.length 0 lo)
theorem RepL.cut (h:RepL K G xs ds)(lo hi:AB Int):RepL K G (gV xs lo hi) (bZ ds lo hi):=by
 unfold gV bZ;rw[h.length];exact(h.drop _).take _
section
variable {prog:AJ}{w:World}{A:Around}{E:AC->AE->Prop}{s:AE}
theorem zgj {t sl:AD}{items:Array AC}{vl vu:AC}{lo hi:AB Int}(ht:IsTup s.heap t items)(hs:s.heap.IsSliceOf sl vl vu .none)(pl:IsPart vl lo)(pu:IsPart vu hi)(hw:HT.sIx items.size 0 lo=0/\HT.sIx items.size items.size hi=items.size)(h:Q (.ref t) s):AG (model prog w) A (getItem (.ref t) (.ref sl)) Q E s:=by
 obtain⟨os,hos,hcs,hds⟩:=id hs;have hTs:s.TypeIs (.ref sl) "slice":=⟨os,hos,hcs⟩;unfold getItem
 try with_reducible refine fV ?_
 first|refine aH (qaB ?_)|skip
 refine aH (Yr ht.typeIs (by decide) ?_);refine aH (Aw (name:=Str.ofString "__getitem__") ht.typeIs qbn
  (oO qbn ht.typeIs entry_tuple_getitem ?_ (args_tuple_getitem _ _)))
 show AG _ _ (Builtin.Tuple.tupleItemsOf (.ref t)>>=_) _ _ s;refine aH (tupleItemsOf_ ht ?_);refine aH (Ma hTs ?_);rw[if_pos (by decide)];refine aH (HT.zeP hs pl pu ?_);have hyes:(((HT.sIx items.size 0 lo:Nat):Int)==0&&(1:Int)==1&&(HT.sIx items.size items.size hi-HT.sIx items.size 0 lo)==items.size)=true:=by
  rw[hw.1,hw.2];simp
 show AG _ _ (if(((HT.sIx items.size 0 lo:Nat):Int)==0&&(1:Int)==1&&(HT.sIx items.size items.size hi-HT.sIx items.size 0 lo)==items.size)=true then _ else _) _ _ s;rw[if_pos hyes];refine aH (m:=Builtin.Tuple.tupleIsExact _) ?_;unfold Builtin.Tuple.tupleIsExact;refine aH (Ma ht.typeIs (qaB ?_));rw[if_pos (by decide)];refine aH (Dq ?_);exact qaB ⟨_,rfl,qaB h⟩
end
def Th (K:AF):V->AB Int->AB Int->Hp->VK->Prop:=λx lo hi H Q=>∃a xs,x= .ref a/\SqT K H a xs/\(HT.sIx xs.length 0 lo=0/\HT.sIx xs.length xs.length hi=xs.length)/\Q (.ref a) H
theorem Ap:SlR X (Th X.K):=by
 intro AM s σ H x v vl vu lo hi sl Q I rx hs pl pu h;obtain⟨a,xs,rfl,hx,hw,q⟩:=h;cases rx;obtain⟨its,r,ht,hz⟩:=I.tuple hx;have AO:its.toArray.size=xs.length:=by rw[bR];exact r.length.symm
 refine⟨"tuple",_,PyProof.Rows.slot_tuple_getitem.lookup,ht.typeIs,?_⟩;exact zgj ht hs pl pu (by rw[AO];exact hw) ⟨.ref a,H,I,rfl,q⟩
abbrev MP:=R->AB (AB Int×R)
def Xh (X:Cx)(e:AB AI)(m:MP)(t:TO):Prop:=∀B G H σ ρ o ρ' (Q:AB Int->Hp->Prop),SI X.K B G H σ ρ->m ρ=some (o,ρ')->(∀G' H',SI X.K B G' H' σ ρ'->Fz G G'->Q o H')->t σ H Q
def SPt (X:Cx)(e:AB AI)(m:MP):Prop:=∃t,PO X e t/\Xh X e m t
theorem SPt.el {e:AB AI}{m:MP}(h:SPt X e m)(k:∀t,PO X e t->Xh X e m t->C):C:=h.elim λt q=>k t q.1 q.2
def Xs:MP:=λρ=>some (none,ρ)
def Ta (m:ME):MP:=λρ=>(m ρ).bind λp=>match p.1 with
 | .int i=>some (some i,p.2)
 |_=>none
theorem oS:SPt X none Xs:=⟨_,vE,λB G H σ ρ o ρ' Q I hm k=>by exists bK hm;exact k G H I (Fz.refl G)⟩
theorem zmx {m:ME}(h:SE X e m):SPt X (some e) (Ta m):=by
 refine h.el λt p s=>?_
 refine⟨_,wO p,λB G H σ ρ o ρ' Q I hm k=>?_⟩;refine bD hm λd ρ1 e1 hm=>?_
 refine s B G H σ ρ d ρ1 _ I e1 λG1 H1 v I1 f1 r1=>?_
 cases d<;>try cases hm
 rename_i i;exact⟨i,r1,k G1 H1 I1 f1⟩
def lB (d:D)(lo hi:AB Int):AB D:=match d with
 | .lst ds=>some (.lst (bZ ds lo hi))
 | .tup ds=>some (.tup (bZ ds lo hi))
 | .scr ns=>some (.lst ((bZ ns lo hi).map .int))
 |_=>none
def qQ (ma:ME)(ml mh:MP):ME:=λρ=>(ma ρ).bind λp=>(ml p.2).bind λq=>(mh q.2).bind λr=>(lB p.1 q.1 r.1).map λd=>(d,r.2)
theorem zqI (ns:AA Int)(lo hi:AB Int):gV (ns.map V.int) lo hi=(bZ ns lo hi).map V.int:=by
 unfold gV bZ;rw[eI,<-Tr,<-Qd]
theorem zpG {lo hi:AB AI}{ma:ME}{ml mh:MP}{pos p2:Pos}(he:SE X e ma)(hl:SPt X lo ml)(hu:SPt X hi mh):SE X (.Subscript e (.Slice lo hi none p2) pos) (qQ ma ml mh):=by
 refine he.el λta pa sa=>?_
 refine hl.el λtl pl sl=>?_
 refine hu.el λth ph sh=>?_
 refine⟨_,qF (sl_list.or (sl_tup.or Ap)) pa pl ph,λB G H σ ρ d ρ' Q I hm k=>?_⟩;refine bD hm λx ρ1 e1 hm=>?_
 refine bD hm λl ρ2 e2 hm=>?_
 refine bD hm λu ρ3 e3 hm=>?_
 refine bQ hm λc e4 e5=>?_
 exists Prod.mk.inj e5;refine sa B G H σ ρ x ρ1 _ I e1 λG1 H1 v I1 f1 r1=>sl B G1 H1 σ ρ1 l ρ2 _ I1 e2 λG2 H2 I2 f2=>sh B G2 H2 σ ρ2 u ρ3 _ I2 e3 λG3 H3 I3 f3=>?_
 have r3:=r1.mono (f2.trans f3);dsimp only at e4;cases x with
 |exc _=>exact aI e4
 |dic _ _=>exact aI e4
 |dit _ _=>exact aI e4
 |obj _ _ _ _ _=>exact aI e4
 |non=>exact aI e4
 |bl _=>exact aI e4
 |int _=>exact aI e4
 |str _=>exact aI e4
 |lst ds=>
  cases e4;obtain⟨a,xs,rfl,ha,r⟩:=I3.lst r3;refine .inl ⟨a,xs,rfl,SqL.of ha,λp hp=>?_⟩;obtain⟨I4,f4,r4⟩:=I3.newL hp (r.cut l u);exact k _ _ _ I4 (f1.trans (f2.trans (f3.trans f4))) r4
 |tup ds=>
  cases e4;obtain⟨a,xs,rfl,ha,r⟩:=I3.tup r3
  by_cases hw:HT.sIx xs.length 0 l=0/\HT.sIx xs.length xs.length u=xs.length
  ·refine .inr (.inr ⟨a,xs,rfl,SqT.of ha,hw,?_⟩);have e:bZ ds l u=ds:=by
    unfold bZ;rw[<-r.length,hw.1,hw.2,List.drop_zero,Nat.sub_zero,lN (by rw[r.length];exact bC _)]
   rw[e]at k;exact k G3 H3 _ I3 (f1.trans (f2.trans f3)) r3
  ·refine .inr (.inl ⟨a,xs,rfl,SqT.of ha,hw,λp hp=>?_⟩);obtain⟨I4,f4,r4⟩:=I3.newT hp (r.cut l u);exact k _ _ _ I4 (f1.trans (f2.trans (f3.trans f4))) r4
 |scr ns=>
  cases e4;obtain⟨a,rfl,ha⟩:=r3;refine .inl ⟨a,_,rfl,I3.fz.sql ha,λp hp=>?_⟩;rw[zqI];obtain⟨I4,f4,r4⟩:=I3.newL hp (RepL.ints (bZ ns l u));exact k _ _ _ I4 (f1.trans (f2.trans (f3.trans f4))) r4
theorem cN (h:zT ma n):∀ρ as ρ',ma ρ=some (as,ρ')->as.length+1=n+1:=λρ as ρ' e=>congrArg (· +1) (h ρ as ρ' e)
section
variable {X:Cx}{elt iter tg:AI}{ifs:AA AI}{scope:Scope}{pos lpos pos':Pos}{N:AA Str}{cap:AA Nat}{t:Nat}{mi:MA}{g:D->R->AB R}{mt:MT}{me:ME}
theorem ziJ (i:Nat)(cap:AA Nat)(t:Nat)(N:AA Str)(hc:X.calm=true)(hi:SIt X tg iter mi)(hg:∀C s H fp,SG (cB X N scope C s H fp) tg g)(ht:∀C s H fp,Cw (cB X N scope C s H fp) ifs mt)(he:∀C s H fp,SE (cB X N scope C s H fp) elt me)(hN:X.N.Nodup)(hxi:X.N[i]? =some x:=by rfl)(hx:jX X.env.scope x:=by trivial)(hf:X.fn x=true\/X.env.scope.names.lookup x=some .local:=by trivial)(hsw:swapsWith (.ListComp elt [⟨tg,iter,ifs,0⟩] scope lpos) (some (.Name x pos')) pos.line X.env=pure true:=by rfl)(hk:scope.kind= .function:=by rfl)(hb:jW X.env scope=true:=by kernel_rfl)(hcap:jN scope.names N X.N cap t=true:=by kernel_rfl)(hs:∀x,foldedSetIterable iter X.env x=pure x:=by exactλ_=>rfl):SS X (.Assign [.Name x pos'] (.ListComp elt [⟨tg,iter,ifs,0⟩] scope lpos) pos) (aS i (dZ (cZ cap t mi g mt me))):=by
  refine hi.el λwi pi si=>?_
  refine⟨_,zk2 hN hxi hx hf hsw hc (Xf hk hb) (Qw hcap) pi (λC s H fp=>(hg C s H fp).choose_spec.1) (λC s H fp=>(ht C s H fp).choose_spec.1) (λC s H fp=>(he C s H fp).choose_spec.1) hs,λB G H σ ρ fl ρ' E I hm k=>?_⟩;refine jA hm λd ρ1 e1 e3=>?_
  refine jA e1 λds ρ2 e4 e5=>?_
  exists Prod.mk.inj e5;exists Prod.mk.inj e3;refine zkL si (.mk' hg ht he) B G H σ ρ ds ρ2 _ I e4 λG1 H1 l xs I1 f1 g1 h1 r1 b1 n1=>?_
  obtain⟨I2,f2,r2⟩:=Ff I1 g1 h1 r1 b1 n1;exact k _ H1 _ (I2.set r2) (f1.trans f2)
end
def Wn:AA V->Hp->VK->Prop:=λxs H Q=>∃i j,xs=[.int i,.int j]/\∀p,H p=none->Q (.ref p) (upd H p (.rng i j))
theorem zpe:iO X (.type "range") Wn:=by
 intro AM s σ H xs us Q I r h;obtain⟨i,j,rfl,q⟩:=h;obtain⟨u,w',rfl,⟨t,rfl⟩,⟨t',rfl⟩⟩:=kD r;refine call_range_2 ⟨.ref s⁻¹,_,I.laid (o:= .rng i j) (λb o e=>bP _ e) (bC _) ⟨t,t',s.toks,eN _ rfl⟩,rfl,q _ I.fresh⟩
def Ep:AA V->Hp->VK->Prop:=λxs H Q=>∃p i j,xs=[.ref p]/\H p=some (.rng i j)/\(-(2^62)<=i/\i<2^62/\ -(2^62)<=j/\j<2^62)/\(j-i).toNat<=16777216/\∀l,H l=none->Q (.ref l) (upd H l (.lst ((List.range (j-i).toNat).map λ(k:Nat)=>V.int (i+k))))
theorem zoB (hc:X.calm=true):iO X (.type "list") Ep:=by
 intro AM s σ H xs us Q I r h;obtain⟨p,i,j,rfl,hp,⟨h1,h2,h3,h4⟩,hz,q⟩:=h;obtain⟨u,rfl,ru⟩:=qX r;cases ru;obtain⟨t,t',t'',e⟩:=I.hok p _ hp;refine call_list_range (a:=i) (b:=j) (c:=1) (t:=t) (u:=t') (v:=t'') (n:=(j-i).toNat) (I.ok.hd hc) e (small_one h1 h2 h3 h4) (by rw[rangeSize_one];split<;>lia) ∅ λh' tk acc' c' hk hl ⟨hs1,hs2⟩=>?_
 refine⟨.ref s⁻¹,_,I.laid (h':=h') (t':=tk) (o:= .lst ((List.range (j-i).toNat).map λ(k:Nat)=>V.int (i+k))) hk (bC _) ⟨by rw[eI,qco,gZ];exact hz,acc'.toList,c',?_,~~~hl⟩,rfl,q _ I.fresh⟩;have key:∀(n:Nat) (l:AA AC),l.length=n->(∀k v,l[k]? =some v->∃t,v=Value.int (i+(k:Nat)*1) t)->Vals ((List.range n).map λ(k:Nat)=>V.int (i+k)) l:=by
  intro n
  induction n with
  |zero=>intro l hl _;have:l=[]:=qb2 hl;subst this;exact .nil
  |succ n ih=>
   intro l hl hv;have e:l=l.take n++[l[n]'∅]:=by
    rw[<-qck ∅,lN ∅]
   rw[Yn,iS,e];refine Vals.append (ih (l.take n) (by rw[kA];lia) λk v hk=>?_) (.cons ?_ .nil)
   ·have hkn:k<n:=by
     have:=(qas.mp hk).1;rw[kA]at this;lia
    rw[List.getElem?_take_of_lt hkn]at hk;exact hv k v hk
   ·obtain⟨t,ht⟩:=hv n _ (bI ∅);exact⟨t,by rw[ht,Int.mul_one]⟩
 exact key _ acc'.toList (by rw[qaw];exact hs1) λk v hk=>hs2 k v (~~~hk)
theorem zoF (i:Int)(n:Nat):RepL K G ((List.range n).map λ(k:Nat)=>V.int (i+k)) (iX i n):=by
 have e1:((List.range n).map λ(k:Nat)=>V.int (i+k))=((List.range n).map λ(k:Nat)=>i+(k:Int)).map V.int:=by rw[gC];rfl
 have e2:iX i n=((List.range n).map λ(k:Nat)=>i+(k:Int)).map D.int:=by unfold iX;rw[gC];rfl
 rw[e1,e2];exact RepL.ints _
def oR (m:MA):MO:=λρ=>(m ρ).bind λp=>if p.1.length<=16777216 then some p else none
theorem zqs (ml:X.mg "list"=none)(mr:X.mg "range"=none)(ha:SA X [a,b] ma)(hc:X.calm=true:=by rfl)(hg:Gl X "list":=by rfl)(hgr:Gl X "range":=by rfl)(he:starEach [a,b] X.env=(false,eval a X.env)::starEach [b] X.env:=by rfl)(hpl:(backTo pos' (starEach [b] X.env)).any (·.1)=false:=by rfl)(he2:starEach [.Call (.Name "range" q) [a,b] [] pos'] X.env=(false,eval (.Call (.Name "range" q) [a,b] [] pos') X.env)::starEach [] X.env:=by rfl):
  SO X (.Call (.Name "list" p) [.Call (.Name "range" q) [a,b] [] pos'] [] pos) (oR (iR2 ma)):=by
 refine ha.el λt pa sa=>?_
 refine⟨_,Zw (zoB hc) hg ml (by decide+kernel) (jJ (Zw zpe hgr mr (by decide+kernel) pa (by decide) (by decide) he hpl) mS he2) (by decide) (by decide) he2 rfl,λB G H σ ρ ds ρ' Q I hm k=>?_⟩;refine bD hm λitems ρ1 e1 hm=>?_
 refine bD e1 λes ρ2 e2 h2=>?_
 dsimp only at hm h2;refine aY hm λAO hm=>?_
 ·skip
  exists Prod.mk.inj (Option.some.inj hm);refine sa B G H σ ρ es ρ2 _ I e2 λG1 H1 vs I1 f1 r1=>?_
  split at h2
  ·rename_i i j;refine aY h2 λhj h2=>?_
   ·skip
    simp only[cV]at hj;exists Prod.mk.inj (Option.some.inj h2);obtain⟨x,y,rfl,rx,ry⟩:=r1.two;cases(show x=V.int i from rx);cases(show y=V.int j from ry);refine⟨i,j,rfl,λp hp=>⟨p,i,j,rfl,cT,⟨(My hj.1).1,(My hj.1).2,(My hj.2).1,(My hj.2).2⟩,by simpa[iX]using AO,λl hl=>?_⟩⟩;have I2:=I1.allocO hp (.rng i j);obtain⟨I3,g3,h3,b3,n3⟩:=I2.newO hl ((List.range (j-i).toNat).map λ(k:Nat)=>V.int (i+k));exact k G1 _ l _ I3 f1 g3 h3 (zoF i _) b3 n3
  ·exact aI h2
end M
namespace M
open L2 PySem
@[simp] theorem atI_nat' {α:Type}(xs:AA α)(i:Nat):atI xs (i:Int)=xs[i]?:=by
 unfold atI eU;rw[if_pos (by lia)]
 by_cases h:i<xs.length
 ·rw[if_pos (by lia)];simp
 ·rw[if_neg (by lia)];simp[fD (by lia:xs.length<=i)]
end M
namespace M
open L2 PyProof.Rows PySem PySem.Spec
def Qy (i:Nat)(g:Int->Int->Int)(me:ME):MS:=λρ=>match ρ[i]? with
 |some (.val (.int a))=>(me ρ).bind λp=>match p.1 with
  | .int b=>some (.next,p.2.set i (.val (.int (g a b))))
  |_=>none
 |_=>none
section
variable {X:Cx}{e:AI}{me:ME}{pos:Pos}
theorem wD (i:Nat){x:Str}{pos':Pos}{op:Operator}{g:Int->Int->Int}(ho:PIp X op (ipI g))(he:SE X e me)(hN:X.N.Nodup)(hi:X.N[i]? =some x:=by rfl)(hx:jX X.env.scope x:=by trivial)(hf:X.fn x=true\/X.env.scope.names.lookup x=some .local:=by trivial):SS X (.AugAssign (.Name x pos') op e pos) (Qy i g me):=by
  refine he.el λt p s=>?_
  refine⟨_,Gn hN hi hx p ho hf,λB G H σ ρ fl ρ' E I hm k=>?_⟩;unfold Qy at hm
  split at hm
  . rename_i a e0
    refine bD hm λd ρ1 e1 h2=>?_
    dsimp only at h2
    split at h2
    . rename_i b
      exists bK h2;obtain⟨v,h1,hv⟩:=I.slot i _ e0;cases(show v=V.int a from hv);refine⟨_,h1,s B G H σ ρ (.int b) ρ1 _ I e1 λG1 H1 w I1 f1 r1=>?_⟩;cases(show w=V.int b from r1);exact⟨a,b,rfl,rfl,k G1 H1 _ (I1.set (d:= .int (g a b)) rfl) f1⟩
    . exact aI h2
  . exact aI hm
theorem zpy (i:Nat){x:Str}{pos':Pos}(he:SE X e me)(hN:X.N.Nodup)(hi:X.N[i]? =some x:=by rfl)(hx:jX X.env.scope x:=by trivial)(hf:X.fn x=true\/X.env.scope.names.lookup x=some .local:=by trivial):SS X (.AugAssign (.Name x pos') .Add e pos) (Qy i (λi j=>i+j) me):=wD i Lv he hN hi hx hf
end
end M
namespace M
open L2 PySem PySem.Spec
open PyProof.Rows hiding St
def oRep (ma mb:ME):MO:=λρ=>(ma ρ).bind λp=>(mb p.2).bind λq=>match p.1,q.1 with
 | .lst xs,.int k=>if mB k&&decide (xs.length*k.toNat<=16777216)then some ((List.replicate k.toNat xs).flatten,q.2)else none
 |_,_=>none
def Ri:D->AB V
 | .non=>some .non
 | .bl b=>some (.bl b)
 | .int i=>some (.int i)
 | .str x=>some (.str x)
 |_=>none
def Ig:AA D->AB (AA V)
 |[]=>some []
 |d::ds=>(Ri d).bind λv=>(Ig ds).map (v:: ·)
theorem tD {K:AF}{G:Hp}{x v:V}{d:D}(r:RepD K G x d)(e:Ri d=some v):x=v/\tH v=true:=by
 cases d<;>simp only[Ri]at e<;>cases e<;>exact⟨r,rfl⟩
theorem znU {K:AF}{G:Hp}:∀{ys xs:AA V} {ds:AA D},RepL K G ys ds->Ig ds=some xs->ys=xs/\xs.all tH=true
 |ys,xs,[],r,e=>by cases e;cases(show ys=[]from r);exact⟨rfl,rfl⟩
 |ys,xs,d::ds,r,e=>by
  obtain⟨y,zs,rfl,ry,rz⟩:=r;refine aP e λv e1 e=>?_
  obtain⟨vs,e2,rfl⟩:=Tc e;obtain⟨rfl,f1⟩:=tD ry e1;obtain⟨rfl,f2⟩:=znU rz e2;exact⟨rfl,by rw[yL,f1,f2];rfl⟩
def wM (neg:Bool)(a b:D):AB D:=(Ri a).bind λx=>(eE [b]).bind λds=>(Ig ds).map λxs=> .bl (if neg then !lQ x xs else lQ x xs)
def lU:D->D->AB D:=wM false
def zpv:D->D->AB D:=wM true
theorem nT {X:Cx}(neg:Bool):V2 X (rIn X.K neg) (wM neg):=by
 intro B G H σ ρ x y a b d Q I ra rb hf k;refine aP hf λv e1 hf=>?_
 refine aP hf λds e2 hf=>?_
 obtain⟨xs,e3,rfl⟩:=Tc hf;obtain⟨rfl,f1⟩:=tD ra e1;obtain⟨p,ys,rfl,hq,ry⟩:=zik I rb e2;obtain⟨rfl,f2⟩:=znU ry e3;exact⟨p,ys,rfl,hq,f1,f2,k G H _ I (Fz.refl G) rfl⟩
theorem Vr {X:Cx}{a b:AI}{ma mb:ME}{pos:Pos}(ha:SE X a ma)(hb:SE X b mb)(hm:behindInMarks .In b=false:=by rfl):SE X (.Compare a [.In] [b] pos) (m2 lU ma mb):=Xc zl7 (nT false) ha hb hm
theorem Ds (neg:Bool):∀x y d,wM neg x y=some d->∃t,d= .bl t:=by
 intro x y d hf;refine aP hf λv e1 hf=>?_
 refine aP hf λds e2 hf=>?_
 obtain⟨xs,e3,rfl⟩:=Tc hf;exact⟨_,rfl⟩
theorem Cf {X:Cx}{a b:AI}{ma mb:ME}{pos:Pos}(ha:SE X a ma)(hb:SE X b mb)(hm:behindInMarks .In b=false:=by rfl):STt X (.Compare a [.In] [b] pos) (aQ (m2 lU ma mb)):=Dy zl7 (nT false) (Ds false) ha hb hm
theorem pT {X:Cx}{a b:AI}{ma mb:ME}{pos:Pos}(ha:SE X a ma)(hb:SE X b mb)(hm:behindInMarks .NotIn b=false:=by rfl):STt X (.Compare a [.NotIn] [b] pos) (aQ (m2 zpv ma mb)):=Dy zlD (nT true) (Ds true) ha hb hm
end M
namespace M
open L2 PySem PySem.Spec
open PyProof.Rows hiding St
open Sem (wp)
variable {b N i:Nat}{a it l:AD}{t:Bool}{h h':AK}{is xs:Array AC}{Q:AC->AE->Prop}
theorem bW {b x y z:Nat}(h:b∈[x,y])(h1:x≠z)(h2:y≠z):b≠z:=by
 simp at h;rcases h with rfl|rfl<;>assumption
theorem nA {N a b:Nat}(h:a≠b):N+a≠N+b:=λe=>h (qcs e)
theorem nB (h:0≠b):N≠N+b:=λe=>h (qcs (show N+0=N+b from e))
theorem nC (h:b≠0):N+b≠N:=λe=>h (qcs (show N+b=N+0 from e))
theorem nL {a N b:Nat}(h:a<N):a≠N+b:=fY (iI h (Nat.le_add_right _ _))
theorem cH {a b:Nat}(h:a≠b):a≠b:=h
def SrcIt:Bool->AK->AD->AD->Nat->Prop
 |true,h,it,a,i=>h.IsTupleIter it a i
 |false,h,it,a,i=>h.IsListIter it a i
def SrcH:Bool->AK->AD->Array AC->Prop
 |true,h,a,its=>h.IsTuple a its
 |false,h,a,its=>h.IsList a its
theorem SrcIt.at (x:SrcIt t h it a i)(e:∀o,h.get? it=some o->h'.get? it=some o):SrcIt t h' it a i:=by
 cases t
 ·exact Heap.IsListIter.at x e
 ·exact Heap.IsTupleIter.at x e
theorem SrcH.at (x:SrcH t h a is)(e:∀o,h.get? a=some o->h'.get? a=some o):SrcH t h' a is:=by
 cases t
 ·exact Heap.IsList.at x e
 ·obtain⟨o,ho,r⟩:=x;exact⟨o,e _ ho,r⟩
theorem SrcIt.obj (x:SrcIt t h it a i):∃o,h.get? it=some o/\∀v,o.data≠ .cell v:=by
 cases t<;>(obtain⟨o,e,c,d⟩:=x;exact⟨o,e,λv z=>by rw[d]at z;cases z⟩)
theorem SrcH.lt (x:SrcH t h a is):a<h.objs.size:=by
 cases t<;>(obtain⟨o,e,_⟩:=x;exact cM e)
section
variable {prog:AJ}{w:World}{A:Around}{E:AC->AE->Prop}{s:AE}
theorem znV {items}(hit:s.heap.IsTupleIter it l i)(hl:s.heap.IsTuple l items)(k : (∃ x, items[i]? = some x /\ ∀ h', h'.IsTupleIter it l (i + 1) -> Heap.SameBut it s.heap h' -> Q x { s with heap := h' }) \/
   (items[i]? =none/\A.handled=none/\∀h' e,Heap.ExtBut it s.heap h'->(∃o,h'.get? e=some o/\o.cls= .type "StopIteration")->E (.ref e) {s with heap:=h'})):
  AG (model prog w) A (Builtin.SmallTypes.nextOf (.ref it)) Q E s:=by
 obtain⟨o,ho,hc,hd⟩:=id hit;obtain⟨ol,hol,-,nl,hdl⟩:=hl;have ne:¬((Value.ref l==Value.none)=true):=fN;unfold Builtin.SmallTypes.nextOf;refine aH (Aw (name:=Str.ofString "__next__") hit.typeIs slot_tupleiter_next (oO slot_tupleiter_next hit.typeIs entry_tupleiter_next ?_ (args_tupleiter_next _)));refine(?_:AG _ _ (field (.ref it) 0>>=_) _ _ s);refine aH (iD ho hd (x:= .ref l) rfl (?_:AG _ _ (if(Value.ref l==Value.none)=true then _ else _) _ _ s));rw[if_neg ne];refine(?_:AG _ _ (field (.ref it) 1>>=_) _ _ s);refine aH (iD ho hd (x:= .int i 0) rfl (?_:AG _ _ (seqItems? (.ref l)>>=_) _ _ s));refine aH (kR hol hdl ?_);rcases k with⟨x,hx,k⟩|⟨hx,hh,k⟩<;>simp only[Bf,hx]
 ·have upd:∀h':AK,h'.get? it=some (o.mapFields λa=>a.setIfInBounds 1 (rawInt (((i:Nat):Int)+1)))->h'.IsTupleIter it l (i+1):=λh' e=>⟨_,e,(Obj.cls_mapFields ..).trans hc,by rw[Tp hd];simp[rawInt]⟩
  refine aH (qcu ho hd (by simp) (qaB ⟨x,rfl,qaB (k _ ?_ (Zc ..))⟩));refine⟨_,Xb _ ho (Obj.isFreed_of_fields (Tp hd _)),(Obj.cls_mapFields ..).trans hc,?_⟩;rw[Tp hd];simp[rawInt]
 ·refine aH (Dq (aH (qcu ho hd (by simp) (?_:AG _ _ (newExc (.type "StopIteration") []>>=_) _ _ _))));refine aH ?_;simp only[newExc,newTuple];refine aH (lY (aH (m:=firstArgMember _ _) (Um (a:=Value.none) (by first|rfl|(simp only[firstArgMember];rfl)) (lY ?_ (by size_fits)))) (by size_fits));simp only[raiseNew];refine aH (wpAny_handled ?_)
  first|rw[show A.in1.handled=none from hh]|rw[hh]
  exact aH (qaB (wpAny_throw (k _ _ (((Zc ..).extBut.push _).push _) ⟨_,eN _ rfl,rfl⟩)))
theorem Og (hh:A.handled=none)(it l:AD)(hne:l≠it)(items:Array AC):Draws prog w A it [it,l] items.size (λi v=>items[i]? =some v) (λi h=>SrcIt t h it l i/\SrcH t h l items):=by
 cases t
 ·exact Draws.list hh it l hne items
 ·refine⟨λ_ _ st=>?_,λ_ _ _ st hk=>⟨SrcIt.at st.1 λo e=>hk it (by simp) o e,SrcH.at st.2 λo e=>hk l (by simp) o e⟩,λi s Q E hi st hQ=>?_,λs Q E st hE=>znV st.1 st.2 (.inr ⟨by simp,hh,hE⟩)⟩
  ·obtain⟨o,e,-⟩:=SrcIt.obj st.1;exact⟨o,e⟩
  ·exact znV st.1 st.2 (.inl ⟨items[i],by simp[hi],λh' a b=>hQ _ h' s.toks (by simp[hi]) ⟨a,SrcH.at st.2 λo e=>(b.2 l hne).trans e⟩ b⟩)
def cR (t:Bool)(a:AD):Obj:={cls:= .type (if t then "tuple_iterator" else "list_iterator"),data:= .fields #[.ref a,.int 0 0]}
theorem zmM (e:h.get? it=some (cR t a)):SrcIt t h it a 0:=by
 cases t<;>exact⟨_,e,rfl,rfl⟩
theorem ziT (t:Bool)(a:AD):(cR t a).isFreed=false:=by cases t<;>rfl
theorem Zn {items}(hl:SrcH t s.heap a items)(hQ:Q (.ref s⁻¹) {s with heap:=s.heap.push (cR t a)}):
  AG (model prog w) A (pyIter (.ref a)) Q E s:=by
 cases t
 ·exact wpAny_pyIter_list hl hQ
 ·exact qb9 hl hQ
end
abbrev kW (vs:Array AC):Obj:={cls:= .type "tuple",data:= .seq vs}
abbrev zip_ (ti to:AD):Obj:={cls:= .type "zip",data:= .fields #[.none,.bool false,.bool false,.ref ti,.ref to]}
abbrev Zk (h:AK)(t1 t2:Bool)(l1 l2:AD):AK:=(h.push (cR t1 l1)).push (cR t2 l2)
abbrev Zp (h:AK)(t1 t2:Bool)(l1 l2:AD):AK:=(Zk h t1 t2 l1 l2).push (kW #[.ref h.objs.size,.ref (h.push (cR t1 l1)).objs.size])
abbrev z2c (h:AK)(t1 t2:Bool)(l1 l2:AD):AK:=(Zp h t1 t2 l1 l2).push (kW #[.none,.none])
abbrev Nc (h:AK)(t1 t2:Bool)(l1 l2:AD):AK:=(z2c h t1 t2 l1 l2).push (zip_ (Zk h t1 t2 l1 l2).objs.size (Zp h t1 t2 l1 l2).objs.size)
theorem zoQ (t1 t2:Bool)(l1 l2:AD)(xs ys:Array AC):Meets (Builtin.«zip.__new__» ⟨[.type "zip",.ref l1,.ref l2],[]⟩) (λ_ R s=>SrcH t1 s.heap l1 xs/\SrcH t2 s.heap l2 ys/\
   R (.ok (.ret (.ref (z2c s.heap t1 t2 l1 l2).objs.size))) {s with heap:=Nc s.heap t1 t2 l1 l2}):=
 .of_wp λprog w A R s h=>by
  obtain⟨hp,g,d,tk,os⟩:=s;obtain⟨b1,b2,h⟩:=h;have hsub:=sub_zip;have L1:SrcH t1 (Shared.heap ⟨hp,g,d,tk,os⟩) l1 xs:=b1;have L2:SrcH t2 (Shared.heap ⟨hp.push (cR t1 l1),g,d,tk,os⟩) l2 ys:=SrcH.at b2 λo e=>bP _ e
  wp_walk using Zn L1,Zn L2
  exact⟨_,rfl,h⟩
section
variable {prog:AJ}{w:World}{A:Around}{E:AC->AE->Prop}{s:AE}
theorem zqT {t1 t2:Bool}{l1 l2:AD}{xs ys:Array AC}(h1:SrcH t1 s.heap l1 xs)(h2:SrcH t2 s.heap l2 ys)(k : ∀ h', IsZip h' (s⁻¹ + 4) (s⁻¹ + 2) (s⁻¹ + 3) .none -> IsPair h' (s⁻¹ + 2) (.ref s⁻¹) (.ref (s⁻¹ + 1)) ->
   IsPair h' (s⁻¹+3) .none .none->SrcIt t1 h' s⁻¹ l1 0->SrcIt t2 h' (s⁻¹+1) l2 0->
   (∀c o,s.heap.get? c=some o->h'.get? c=some o)->Q (.ref (s⁻¹+4)) {s with heap:=h'}):AG (model prog w) A (call (.type "zip") [.ref l1,.ref l2]) Q E s:=by
 refine callType_new F.called_zip (by decide) (F.typeCall_zip_2 _ _) (F.newCall_zip_2 _ _) (λobj=>F.args_object_init_3 obj _ _) F.entry_zip_new (zoQ t1 t2 l1 l2 xs ys) ⟨h1,h2,(?_:_/\_)⟩;have y1:(s.heap.push (cR t1 l1)).objs.size=s⁻¹+1:=lM ..;have y2:(Zk s.heap t1 t2 l1 l2).objs.size=s⁻¹+2:=by rw[lM,y1]
 have y3:(Zp s.heap t1 t2 l1 l2).objs.size=s⁻¹+3:=by rw[lM,y2]
 have y4:(z2c s.heap t1 t2 l1 l2).objs.size=s⁻¹+4:=by rw[lM,y3]
 have g5:(Nc s.heap t1 t2 l1 l2).get? (z2c s.heap t1 t2 l1 l2).objs.size=some _:=eN _ rfl;have g4:(Nc s.heap t1 t2 l1 l2).get? (Zp s.heap t1 t2 l1 l2).objs.size=some _:=bP _ (eN _ rfl);have g3:(Nc s.heap t1 t2 l1 l2).get? (Zk s.heap t1 t2 l1 l2).objs.size=some _:=bP _ (bP _ (eN _ rfl));have g2:(Nc s.heap t1 t2 l1 l2).get? (s.heap.push (cR t1 l1)).objs.size=some (cR t2 l2):=bP _ (bP _ (bP _ (eN _ (ziT ..))));have g1:(Nc s.heap t1 t2 l1 l2).get? s⁻¹=some (cR t1 l1):=bP _ (bP _ (bP _ (bP _ (eN _ (ziT ..)))));rw[y2,y3,y4]at g5;rw[y1,y2]at g3;rw[y3]at g4;rw[y1]at g2;rw[y4];exact⟨⟨_,g5,rfl⟩,k _ g5 g3 g4 (zmM g1) (zmM g2) λc o x=>bP _ (bP _ (bP _ (bP _ (bP _ x))))⟩
abbrev en_ (it:AD):Obj:={cls:= .type "enumerate",data:= .fields #[.none,.bool false,.ref it,rawInt 0,.none,.none]}
theorem zoo (t:Bool)(l:AD)(o:Obj)(xs:Array AC):Meets (Builtin.«enumerate.__new__» ⟨[.type "enumerate",.ref l],[]⟩) (λ_ R s=>s.heap.get? l=some o/\SrcH t s.heap l xs/\
   R (.ok (.ret (.ref (s.heap.push (cR t l)).objs.size))) {s with heap:=(s.heap.push (cR t l)).push (en_ s⁻¹)}):=
 .of_wp λprog w A R s h=>by
  obtain⟨hp,g,d,tk,os⟩:=s;obtain⟨hl,b,h⟩:=h;have hsub:=sub_enumerate;have hL:SrcH t (Shared.heap ⟨hp,g,d,tk,os⟩) l xs:=b
  wp_walk using qcw hl
  refine wpAny_stack_any λst=>qaB ?_
  split
  ·rename_i c _ _ _ _ _;cases(c==Value.type "enumerate")<;>(wp_walk using qcw hl,Zn hL;exact⟨_,rfl,h⟩)
  ·wp_walk using qcw hl,Zn hL
   exact⟨_,rfl,h⟩
theorem zqN (h1:SrcH t s.heap l xs)(k:∀h',IsEnum h' (s⁻¹+1) s⁻¹ 0 .none->SrcIt t h' s⁻¹ l 0->(∀b o,s.heap.get? b=some o->h'.get? b=some o)->Q (.ref (s⁻¹+1)) {s with heap:=h'}):
  AG (model prog w) A (call (.type "enumerate") [.ref l]) Q E s:=by
 have⟨o,ho⟩:∃o,s.heap.get? l=some o:=by cases t<;>(obtain⟨o,e,-⟩:=h1;exact⟨o,e⟩)
 refine callType_new F.called_enumerate (by decide) (F.typeCall_enumerate_1 _) (F.newCall_enumerate_1 _) (λobj=>F.args_object_init_2 obj _) F.entry_enumerate_new (zoo t l o xs) ⟨ho,h1,(?_:_/\_)⟩;have y1:(s.heap.push (cR t l)).objs.size=s⁻¹+1:=lM ..;have g2:((s.heap.push (cR t l)).push (en_ s⁻¹)).get? (s.heap.push (cR t l)).objs.size=some _:=eN _ rfl;have g1:((s.heap.push (cR t l)).push (en_ s⁻¹)).get? s⁻¹=some (cR t l):=bP _ (eN _ (ziT ..));rw[y1]at g2;rw[y1];exact⟨⟨_,g2,rfl⟩,k _ g2 (zmM g1) λb o x=>bP _ (bP _ x)⟩
end
end M
namespace M
local macro_rules | `(tactic| ac_rfl) => `(tactic| first | exact M.nA (by decide) | exact M.nB (by decide) | exact M.nC (by decide) | exact M.nL (by assumption) | exact Nat.ne_of_lt (by assumption) | lia)
open L2 PySem PySem.Spec
open PyProof.Rows hiding St
open Sem (wp)
variable {t' ek:Nat}{h':AK}{fp:AA AD}{vs xs:AA V}{its:AA AC}{t:Bool}{X:Cx}{AM:AA (AD×Obj)}{σ:St}{H:Hp}{s:AE}{a:AD}{K:AF}{elts:AA AI}{ep p pos:Pos}{es:AA D}
section
variable {X:Cx}{AM:AA (AD×Obj)}{σ:St}{H:Hp}{s:AE}
theorem zmC (I:Inv X AM σ H s)(k:∀b o,b∉fp->s.heap.get? b=some o->h'.get? b=some o)(hf:∀b∈fp,dN X AM H b):Inv X AM σ H {s with heap:=h',toks:=t'}:=by
 have nit:∀b u,H b=some u->b∉fp:=λb u e z=>by rw[(hf b z).1]at e;exact aI e
 refine I.step (g':=s.gens) (d':=s.drawn) (ch:=fp) (λb hb=>?_) (λb o _ _ hc e _=>k b o hc e) (λb o _ _ hc e _=>⟨o.slots,k b o hc e⟩) (λ_ _ _ _ n=>n)
  (λb o hc e=>⟨o,k b o hc e⟩) (λ_ _ e=>e) (λ_ _ _ e=>e) (λb ps e=>⟨#[],by rw[e];simp⟩) (λm hm=>?_) (λb u e=>?_) I.bare
 ·obtain⟨f0,f1,f2,f3,f4,f5⟩:=hf b hb;exact⟨f3,f1,f4,f5⟩
 ·obtain⟨o,es,ep,ho,r⟩:=hm;exact⟨o,es,ep,k _ o (λz=>(hf _ z).2.1 rfl) ho,r⟩
 ·refine(I.hok b u e).stay (λc v hc q=>k c v ?_ q) (λ_ q=>q) λ_ _ q=>q
  rcases hc with z|z
  ·rw[z];exact nit b u e
  ·exact nit c _ z
theorem zpV {t':Nat}{h':AK}{fp:AA AD}(I:Inv X AM σ H s)(k:∀b o,b∉fp->s.heap.get? b=some o->h'.get? b=some o)(hf:∀b∈fp,dN X AM H b)(hl:∀b∈fp,b<s⁻¹)(hT:h'.get? s⁻¹=some (kW its.toArray))(hz:vs.length<=sizeLine)(r:Vals vs its):Inv X AM σ (upd H s⁻¹ (.tup vs)) {s with heap:=h',toks:=t'}:=by
 have I1:=I.laid (t':=s.toks) (a:=s⁻¹) (o:= .tup vs) (h':=s.heap.push (kW its.toArray)) (λb u q=>bP _ q) (bC _) ⟨hz,its,r,IsTup.new _ _⟩;refine zmC (s:={s with heap:=s.heap.push (kW its.toArray),toks:=s.toks}) (t':=t') (fp:=fp) I1 (λb o hb e=>?_) λb hb=>?_
 ·have e':(s.heap.push (kW its.toArray)).get? b=some o:=e;rcases Heap.get?_push_cases e' with⟨rfl,rfl⟩|q
  ·exact hT
  ·exact k b o hb q
 ·obtain⟨f0,fr⟩:=hf b hb;refine⟨?_,fr⟩;rw[aV (fY (hl b hb))];exact f0
end
def SrcSq (t:Bool)(K:AF)(H:Hp)(a:AD)(xs:AA V):Prop:=match t with
 |true=>SqT K H a xs
 |false=>SqL K H a xs
theorem SrcSq.heap (I:Inv X AM σ H s)(h:SrcSq t X.K H a xs):∃its:AA AC,Vals xs its/\SrcH t s.heap a its.toArray/\xs.length<=sizeLine:=by
 cases t
 ·obtain⟨its,r,p,z⟩:=I.list h;exact⟨its,r,p.isList,z⟩
 ·obtain⟨its,r,p,z⟩:=I.tuple h;exact⟨its,r,p,z⟩
theorem SrcSq.inj {xs ys:AA V}(I:Inv X AM σ H s)(h:SrcSq t X.K H a xs)(h':SrcSq t X.K H a ys):xs=ys:=by
 cases t
 ·exact I.list_inj h h'
 ·exact I.tuple_inj h h'
def Ho (K:AF)(t1:Bool)(a1:AD)(t2:Bool)(a2:AD)(n:Nat):It where
 go:=λi H=>i<n/\∃xs ys,SrcSq t1 K H a1 xs/\SrcSq t2 K H a2 ys/\n=min xs.length ys.length
 yld:=λi H x H'=>∃p x1 x2,H p=none/\H'=upd H p (.tup [x1,x2])/\x= .ref p/\∀xs ys,SrcSq t1 K H a1 xs->SrcSq t2 K H a2 ys->xs[i]? =some x1/\ys[i]? =some x2
 stop:=λi H=>n<=i/\∃xs ys,SrcSq t1 K H a1 xs/\SrcSq t2 K H a2 ys/\n=min xs.length ys.length
theorem Pr {c N:Nat}(h:c∉([N,N+1,N+2,N+3,N+4]:AA Nat)):c≠N/\c≠N+1/\c≠N+3/\c≠N+4:=
 ⟨λe=>h (e ▸ .head _),λe=>h (e ▸ .tail _ (.head _)),λe=>h (e ▸ .tail _ (.tail _ (.tail _ (.head _)))),λe=>h (e ▸ .tail _ (.tail _ (.tail _ (.tail _ (.head _)))))⟩
def Ite (K:AF)(t1:Bool)(a1:AD)(n:Nat):It where
 go:=λi H=>i<n/\∃xs,SrcSq t1 K H a1 xs/\n=xs.length
 yld:=λi H x H'=>∃p x1,H p=none/\H'=upd H p (.tup [.int i,x1])/\x= .ref p/\∀xs,SrcSq t1 K H a1 xs->xs[i]? =some x1
 stop:=λi H=>n<=i/\∃xs,SrcSq t1 K H a1 xs/\n=xs.length
theorem zpc {P:AJ}{w:World}(t1:Bool)(a1:Nat)(n N:Nat)(l1:a1<N):
  Turn P w K (.Tuple elts ek ep) (Ite K t1 a1 n) ([N+1,N]:AA Nat) (N+1:Nat) (λi h=>i<=n/\(∃old,IsEnum h (N+1:Nat) N i old)/\SrcIt t1 h N a1 i) where
 mem:=by simp
 obj:=λi h st b hb=>by
  obtain⟨-,⟨old,h1⟩,h0⟩:=st;simp only[qap,Od,or_false]at hb;rcases hb with rfl|rfl
  ·exact⟨_,h1,λv z=>by cases z⟩
  ·exact h0.obj
 keep:=λi h h' st k=>by
  obtain⟨hi,⟨old,h1⟩,h0⟩:=st;exact⟨hi,⟨old,k _ (by simp) _ h1⟩,h0.at λo e=>k _ (by simp) o e⟩
 item:=by
  intro X hP hw hK hc i AM s σ H E I hf st hg;subst hP hw hK;obtain⟨hi,⟨old,h1⟩,h0⟩:=st;obtain⟨hn,xs,q1,en⟩:=hg;obtain⟨us,ru,hu,zu⟩:=q1.heap I;have lu:=ru.length;have D1:=Og (prog:=X.prog) (w:=X.w) (A:=X.A.in1) (t:=t1) (I.ok.hd hc) N a1 (cH (by ac_rfl)) us.toArray;refine wpAny_pyNext_enum_itemD D1 h1 ⟨h0,hu⟩ (by simp;lia) (cH (by ac_rfl)) (λz=>bW (z:=N+1) z ∅ ∅ rfl) λx h' tk p1 ho g0 gT gz kk=>?_
  obtain⟨x1,hx1⟩:∃x1,xs[i]? =some x1:=⟨xs[i]'∅,bI _⟩;obtain⟨u1,hu1,r1⟩:=ru.get hx1;have e1:u1=x:=by
   have:us[i]? =some x:= ~~~p1
   rw[hu1]at this;cases this;rfl
  subst e1;refine⟨_,rfl,wpAny_letOwnedTupleGo_enum (s:={s with heap:=h',toks:=tk+1}) ho λh'' he' sb=>?_⟩
  replace sb:Heap.SameBut (N+1:Nat) h' h'':=sb
  have lz:N+1<s⁻¹:=cM h1;have kk':∀b o,b∉([N+1,N]:AA Nat)->s.heap.get? b=some o->h''.get? b=some o:=λb o hb e=>
   (sb.2 b λz=>hb (by simp[z])).trans (kk b o (λz=>hb (by simp[z])) (λz=>hb (by simp[z])) e)
  have I1:=zpV (t':=tk+1) (vs:=[.int i,x1]) (its:=[.int i tk,u1]) I kk' hf (λb hb=>by
   have:b=N+1\/b=N:= ~~~hb
   exact tO (show(b:Nat)<=N+1 by rcases this with h|h<;>rw[h]<;>simp) lz) ((sb.2 _ (cH (by ac_rfl))).trans gT) (by simp;rw[gZ];decide) (.cons ⟨_,rfl⟩ (.cons r1 .nil))
  refine⟨.ref s⁻¹,_,I1,rfl,⟨_,x1,I.hok.fresh (bC _),rfl,rfl,λxs' b1=>?_⟩,⟨hn,⟨_,~~~he'⟩,SrcIt.at g0.1 λo e=>(sb.2 _ (cH (by ac_rfl))).trans e⟩,λb hb=>?_⟩
  ·rw[SrcSq.inj I b1 q1];exact hx1
  ·have:b=N+1\/b=N:= ~~~hb
   rw[aV (fY (tO (show(b:Nat)<=N+1 by rcases this with h|h<;>rw[h]<;>simp) lz))]
   exact(hf b hb).1
 done:=by
  intro X hP hw hK hc i AM s σ H E I hf st hg;subst hP hw hK;obtain⟨hi,⟨old,h1⟩,h0⟩:=st;obtain⟨hn,xs,q1,en⟩:=hg;obtain⟨us,ru,hu,zu⟩:=q1.heap I;have lu:=ru.length;have D1:=Og (prog:=X.prog) (w:=X.w) (A:=X.A.in1) (t:=t1) (I.ok.hd hc) N a1 (cH (by ac_rfl)) us.toArray;have W:=WalksT.enumerateD D1 (N+1:Nat) (cH (by ac_rfl)) (λz=>bW (z:=N+1) z ∅ ∅ rfl) (by simp);have ei:i=us.toArray.size:=by simp;lia
  subst ei;exact W.done s _ _ ⟨⟨old,h1⟩,h0,hu⟩ λh' tk kk=>⟨rfl,zmC I kk hf⟩
 self:=λ_ _ _ _ _ st h=>by
  obtain⟨hi,⟨old,h1⟩,h0⟩:=st;exact wpAny_pyIter_enum h1 h
theorem nW:bootBuiltins "zip"=some (.type "zip"):=by decide+kernel
theorem zjK:bootBuiltins "enumerate"=some (.type "enumerate"):=by decide+kernel
section
variable {X:Cx}{elts:AA AI}{ek:Nat}{ep:Pos}
theorem xY {a:AI}{ta:TA}(hg:Gl X "enumerate")(hm:X.mg "enumerate"=none)(ha:PA X [a] ta)(hs:starEach [a] X.env=(false,eval a X.env)::starEach [] X.env:=by rfl)(hs2:(backTo pos (starEach [] X.env)).any (·.1)=false:=by rfl):
  PI X (.Tuple elts ek ep) (.Call (.Name "enumerate" p) [a] [] pos) (λσ H R=>ta σ H λvs H1=>∃t1 a1 xs,vs=[.ref a1]/\SrcSq t1 X.K H1 a1 xs/\R (Ite X.K t1 a1 xs.length) H1):=by
 intro AM s σ H R I h;refine Call_ (Oe I hg hm zjK (Zm (aW (ha pos AM s σ H _ I h) λus s1 ⟨vs,H1,I1,r1,q1⟩=>?_) hs hs2));obtain⟨t1,a1,xs,e,q1,q⟩:=q1;subst e;cases r1 with
 |cons r rr=>
  cases rr;cases r;obtain⟨us,ru,hu,-⟩:=q1.heap I1;refine zqN hu λh' g1 g0 kk=>wpAny_pyIter_enum g1 ⟨_,_,_,_,H1,rfl,I1.kept (t':=s1.toks) kk,zpc t1 a1 xs.length s1⁻¹ hu.lt,⟨gR _,⟨_,g1⟩,g0⟩,λb hb=>?_,q⟩
  have:b=s1⁻¹+1\/b=s1⁻¹:= ~~~hb
  have le:s1⁻¹<=b:=by rcases this with h|h<;>rw[h]<;>simp
  exact I1.fpOk le (I1.hok.fresh le)
end
theorem zqM {G:Hp}{x:V}{d:D}(r:RepD K G x d)(e:eE [d]=some es):∃t a xs,x= .ref a/\(∀H,Fz G H->SrcSq t K H a xs)/\RepL K G xs es:=by
 cases d<;>simp only[eE]at e<;>try cases e
 ·obtain⟨a,xs,rfl,ha,r⟩:=r;exact⟨false,a,xs,rfl,λH f=>SqL.of (f _ _ ha),r⟩
 ·obtain⟨a,xs,rfl,ha,r⟩:=r;exact⟨true,a,xs,rfl,λH f=>SqT.of (f _ _ ha),r⟩
 ·obtain⟨a,rfl,ha⟩:=r;exact⟨false,a,_,rfl,λH f=>f.sql ha,RepL.ints _⟩
def Mh (xs ys:AA D):AA D:=List.zipWith (λx y=>D.tup [x,y]) xs ys
def Dd (xs ys zs:AA D):AA D:=List.zipWith (λx (p:D×D)=>D.tup [x,p.1,p.2]) xs (List.zip ys zs)
def Fv (xs:AA D):AA D:=List.zipWith (λx (i:Nat)=>D.tup [.int i,x]) xs (List.range xs.length)
def Hk (ma:MA):MA:=λρ=>(ma ρ).bind λp=>match p.1 with
 |[a,b]=>(eE [a]).bind λxs=>(eE [b]).bind λys=>some (Mh xs ys,p.2)
 |_=>none
def iEn (ma:MA):MA:=λρ=>(ma ρ).bind λp=>(eE p.1).map λxs=>(Fv xs,p.2)
theorem zkT {a:AI}{ma:MA}(hm:X.mg "enumerate"=none)(ha:SA X [a] ma)(hg:Gl X "enumerate":=by rfl)(hs:starEach [a] X.env=(false,eval a X.env)::starEach [] X.env:=by rfl)(hs2:(backTo pos (starEach [] X.env)).any (·.1)=false:=by rfl):
  SIt X (.Tuple elts ek ep) (.Call (.Name "enumerate" p) [a] [] pos) (iEn ma):=by
 refine ha.el λt pa sa=>?_
 refine⟨_,xY hg hm pa hs hs2,λB G H σ ρ ds ρ' Q I hm k=>?_⟩;refine bD hm λes ρ1 e1 h2=>?_
 refine bQ h2 λxs ex h2=>?_
 cases h2;refine sa B G H σ ρ es ρ1 _ I e1 λG1 H1 vs I1 f1 r1=>?_
 match es,ex,r1 with
 |[],ex,_=>exact aI ex
 |_::_::_,ex,_=>exact AH ex (by simp[eE])
 |[d],ex,r1=>
  obtain⟨x,rfl,rx⟩:=r1.one;obtain⟨t1,a1,us,rfl,s1,c1⟩:=zqM rx ex;have n1:=c1.length;refine⟨t1,a1,us,rfl,s1 _ I1.fz,k _ G1 H1 I1 f1 ⟨λH i f hi=>?_,λH i x H' f y d e=>?_,λH i f hi=>?_⟩⟩
  ·exact⟨by simp[Fv]at hi;lia,us,s1 _ f,rfl⟩
  ·obtain⟨p,x1,hp,eh,ex',q⟩:=y;have q1:=q us (s1 _ f);have hi:i<us.length:=(qas.mp q1).1;have g1:xs[i]? =some (xs[i]'∅):=bI _;simp only[Fv,Vu]at e;rw[g1,show(List.range xs.length)[i]? =some i from by rw[Oa ∅]]at e;cases e;obtain⟨v1,b1,r1⟩:=c1.get g1;rw[q1]at b1;cases b1;exact .inr ⟨p,_,_,hp,eh,ex',rfl,⟨_,_,rfl,rfl,_,_,rfl,r1,rfl⟩⟩
  ·exact⟨by simp[Fv]at hi;lia,us,s1 _ f,rfl⟩
end M
namespace M
open L2 PySem PySem.Spec
open PyProof.Rows hiding St
variable {K:AF}{G H:Hp}{σ:St}{ρ:R}{b:Nat}{cs:AA D}{l:AD}{ys:AA V}{cap:AA Nat}{tg':AD->AE->Hp->AA AD->TG}{tt:AD->AE->Hp->AA AD->TT}{te:AD->AE->Hp->AA AD->TE}
def Dg:D->Bool
 | .non=>true
 |_=>false
theorem Im {x:V}{d:D}(r:RepD K G x d):decide (x= .non)=Dg d:=by
 cases d with
 |non=>cases(show x=V.non from r);rfl
 |bl b=>cases(show x=V.bl b from r);rfl
 |int i=>cases(show x=V.int i from r);rfl
 |str s=>cases(show x=V.str s from r);rfl
 |lst ds=>obtain⟨a,xs,rfl,-⟩:=r;rfl
 |tup ds=>obtain⟨a,xs,rfl,-⟩:=r;rfl
 |scr ns=>obtain⟨a,rfl,-⟩:=r;rfl
 |exc c=>obtain⟨a,C,rfl,-⟩:=r;rfl
 |dic _ _=>obtain⟨a,ys,rfl,-⟩:=r;rfl
 |dit _ _=>obtain⟨a,ys,o,xs,rfl,-⟩:=r;rfl
 |obj _ _ _ _ _=>obtain⟨_,_,_,_,_,_,_,_,_,rfl,-⟩:=r;rfl
def Ju:D->D->AB D
 |a,.non=>some (.bl (!Dg a))
 |_,_=>none
theorem zK {X:Cx}:V2 X (λx y H Q=>y= .non/\Q (.bl (!decide (x= .non))) H) Ju:=by
 intro B G H σ ρ x y a b d Q I ra rb hf k;cases b<;>simp only[Ju]at hf<;>cases hf
 exact⟨rb,k G H _ I (Fz.refl G) (by rw[Im ra];rfl)⟩
theorem Ah:∀x y d,Ju x y=some d->∃t,d= .bl t:=by
 intro x y d hf;cases y<;>simp only[Ju]at hf<;>cases hf
 exact⟨_,rfl⟩
section
variable {X:Cx}{a b:AI}{ma mb:ME}{pos:Pos}
theorem mQ (ha:SE X a ma)(hb:SE X b mb)(hm:behindInMarks .IsNot b=false:=by rfl):STt X (.Compare a [.IsNot] [b] pos) (aQ (m2 Ju ma mb)):=Dy wK zK Ah ha hb hm
end
def Iu (b:Nat)(ρ:R):Bool:=match ρ[b]? with
 |some (.par _)=>gJ (ρ.set b .emp)
 |_=>false
def Qp (b:Nat)(ρ:R):AA D:=match ρ[b]? with
 |some (.par cs)=>cs
 |_=>[]
def kO (b:Nat)(g:D->R->AB R)(mt:MT)(me:ME):D->R->AB (AB D×R):=λd ρ=>(g d ρ).bind λρ1=>(mt ρ1).bind λp=>if p.1 then(me p.2).bind λq=>if Iu b q.2 then some (some q.1,q.2)else none else if Iu b p.2 then some (none,p.2)else none
def Ae (cap:AA Nat)(t b w:Nat)(mi:MA)(g:D->R->AB R)(mt:MT)(me:ME):MO:=λρ=>(mi ρ).bind λp=>if p.1.length<=16777216 then
    ((fzL (cap.filter (· !=w)) p.2)[w]?).bind λs=>s.items.bind λcs=>(iG (kO b g mt me) p.1 ((eV cap t (fzL (cap.filter (· !=w)) p.2)).set b (.par cs))).map λq=>(q.1,(fzL (cap.filter (· !=w)) p.2).set w (s.put (Qp b q.2)))
  else none
theorem VS.setEmp (h:VS K G σ ρ)(b:Nat):VS K G σ (ρ.set b .emp) where
 len:=by rw[kM];exact h.len
 no:=by
  have h0:=h.no;unfold gJ at*;rw[qch]at*;intro s hs;rcases qcA hs with z|z
  ·exact h0 s z
  ·rw[z]
 val:=λi d e=>by
  rw[Dm]at e
  split at e
  ·split at e
   ·cases e
   ·exact aI e
  ·exact h.val i d e
theorem VS.siP (h:VS K G σ (ρ.set b .emp))(fz:Fz G H)(hb:ρ[b]? =some (.par cs))(hs:σ[b]? =some (some (.ref l)))(gl:G l=none)(hl:H l=some (.lst ys))(r:RepL K G ys cs):SI K ⟨G,H,[(b,l)]⟩ G H σ ρ where
 fz:=fz
 g0:=Fz.refl G
 new:=λb o e=> .inl (by show G b≠none;rw[e];simp)
 keep:=λb o e _=>e
 there:=λb e=>e
 ob:=λi c m=>by
  have:i=b/\c=l:= ~~~m
  rw[this.2];show H l≠none;rw[hl];simp
 len:=by rw[h.len,kM]
 slot:=λi s e=>by
  by_cases z:i=b
  ·subst z;rw[hb]at e;cases e;exact⟨l,ys,hs,gl,hl,r,by simp⟩
  ·have e':(ρ.set b .emp)[i]? =some s:=by rw[tG (Ne.symm z)];exact e
   cases s with
   |emp=>trivial
   |two _ _=>trivial
   |tre t=>exact AH rfl ((Zh h.no e').1 t)
   |ptr t=>exact AH rfl ((Zh h.no e').2 t)
   |val d=>exact h.val i d e'
   |own ds=>exact AH ⟨_,ds,e',rfl⟩ (zij h.no (i:=i))
   |par ds=>exact AH ⟨_,ds,e',rfl⟩ (zij h.no (i:=i))
 dis:=λi j s t a hij e1 e2 w1 w2=>by
  have key:∀(i:Nat) (s:Sl) ov,ρ[i]? =some s->cU K G H ov a s->i=b:=λi s ov e w=>by
   by_cases z:i=b
   ·exact z
   ·exact AH w (znC h.no (show(ρ.set b .emp)[i]? =some s by rw[tG (Ne.symm z)];exact e))
  exact hij ((key i s _ e1 w1).trans (key j t _ e2 w2).symm)
theorem VS.ofP {B:Bs}(I:SI K B G H σ ρ)(hO:B.O=[(b,l)])(h:Iu b ρ=true):∃cs ys,ρ[b]? =some (.par cs)/\σ[b]? =some (some (.ref l))/\G l=none/\H l=some (.lst ys)/\RepL K G ys cs/\VS K G σ (ρ.set b .emp):=by
 unfold Iu at h
 split at h
 ·rename_i cs e;obtain⟨l',ys,h1,h2,h3,h4,h5⟩:=I.slot b _ e;have hl:l'=l:=by rw[hO]at h5;simpa using h5
  subst hl;refine⟨cs,ys,e,h1,h2,h3,h4,⟨by rw[kM];exact I.len,h,λi d e'=>?_⟩⟩;rw[Dm]at e'
  split at e'
  ·split at e'
   ·cases e'
   ·exact aI e'
  ·exact I.slot i _ e'
 ·cases h
def PaAt (K:AF)(b:Nat)(l:AD)(G H:Hp)(σ:St)(ρ:R):Prop:=∃cs ys,ρ[b]? =some (.par cs)/\σ[b]? =some (some (.ref l))/\G l=none/\H l=some (.lst ys)/\RepL K G ys cs
theorem PaAt.upd {l DD:AD}(h:PaAt K b l G H σ ρ)(n:l≠DD)(xs:AA V):PaAt K b l G (L2.upd H DD (.lst xs)) σ ρ:=h.imp λ_ h=>h.imp λ_ h=>⟨h.1,h.2.1,h.2.2.1,(aV n).trans h.2.2.2.1,h.2.2.2.2⟩
theorem sY {b w t:Nat}(h1:cap[b]? =some w)(h2:σ[w]? =some (some (.ref l))):b<cap.length/\(cP cap t σ)[b]? =some (some (.ref l)):=by
 have hb:b<cap.length:=(qas.mp h1).1;have hbe:cap[b]=w:=(qas.mp h1).2;refine⟨hb,?_⟩;unfold cP;rw[hG (by rw[eI];exact hb),cJ,bI hb,hbe,Em,h2]
 rfl
theorem znb (cap:AA Nat)(t:Nat)(ρ:R):(eV cap t ρ).length=cap.length+t:=by unfold eV;simp
section
variable {X:Cx}{elt iter tg:AI}{ifs:AA AI}{scope:Scope}{pos:Pos}{N:AA Str}{cap:AA Nat}{t bk wk:Nat}{mi:MA}{g:D->R->AB R}{mt:MT}{me:ME}
theorem zoZ (hbw:cap[bk]? =some wk){wi:TI}(si:nD X tg iter mi wi)(blk:LcB X scope N elt tg ifs g mt me tg' tt te):
    ∀B G H σ ρ ds ρ' (Q:VK),SI X.K B G H σ ρ->Ae cap t bk wk mi g mt me ρ=some (ds,ρ')->
      (∀G' H' l xs,SI X.K B G' H' σ ρ'->Fz G G'->G' l=none->H' l=some (.lst xs)->RepL X.K G' xs ds->B.H l=none->Nw X.K G' H' σ ρ' l->Q (.ref l) H')->Nt (cP cap t) wi tg' tt te σ H Q:=λB G H σ ρ ds ρ' Q I hm k=>
  bD hm λitems ρ1 e1 hm=>si B G H σ ρ items ρ1 _ I e1 λJ G1 H1 I1 f1 IT DD hD=>aY hm λAO hm=>aP hm λsw ew hm=>aP hm λcs0 qw hm=>jA hm λall ρf e2 e3=>by
    exists Prod.mk.inj e3;obtain⟨G2,I2,f2⟩:=SI.fzL (cap.filter (· !=wk)) I1
    obtain⟨l,ys0,hσ,gl0,hl0,rl0⟩:=I2.wr ew qw;have hlD:l≠DD:=lF hl0 hD;have hb:=sY (t:=t) hbw hσ;refine zlJ blk (O:=[(bk,l)]) (JJ:=λG H σ ρ=>PaAt X.K bk l G H σ ρ/\VS X.K G σ (ρ.set bk .emp)) IT f2 I2.fz hD AO (λi m=>?_) (λG H σ ρ h f=>?_) (λ_ _ _ _ _ _ I h=>?_) (λ_ _ _ _ xs h=>⟨h.1.upd hlD xs,h.2⟩) ⟨⟨cs0,ys0,?_,hb.2,gl0,hl0,rl0⟩,?_⟩ e2 λGc Hc σc xs J ra jj=>?_
    . rw[qcB]at m;exact hlD (Prod.mk.inj m).2.symm
    . obtain⟨⟨cs,ys,a1,a2,a3,a4,a5⟩,vs⟩:=h
      exact vs.siP f a1 a2 a3 a4 a5
    . obtain⟨cs',ys',w1,w2,w3,w4,w5,w6⟩:=VS.ofP I rfl h
      exact⟨⟨cs',ys',w1,w2,w3,w4,w5⟩,w6⟩
    . rw[Dm,if_pos rfl,if_pos (by rw[znb];lia)]
    . rw[List.set_set];exact(zqL I2 cap t).setEmp bk
    . obtain⟨⟨cs,ys,a1,a2,a3,a4,a5⟩,vs⟩:=jj
      have hp:Qp bk ρf=cs:=by unfold Qp;rw[a1]
      rw[hp]at k;have kp:∀b o,b≠l->H1 b=some o->Hc b=some o:=λb o n e=>J.kp b o (λi m=>n (Prod.mk.inj (qcB.mp m)).2) e
      exact k Gc Hc DD xs (I2.growW ew qw hσ J.fc J.fcH J.nw kp a3 a4 a5) (f1.trans (f2.trans J.fc)) J.gD J.hDc ra (I2.there DD hD) (I2.own_neW ew qw hσ hD J.nw kp)
theorem Hl (cap:AA Nat)(t bk wk:Nat)(N:AA Str)(hc:X.calm=true)(hi:SIt X tg iter mi)(hg:∀C s H fp,SG (cB X N scope C s H fp) tg g)(ht:∀C s H fp,Cw (cB X N scope C s H fp) ifs mt)(he:∀C s H fp,SE (cB X N scope C s H fp) elt me)(hbw:cap[bk]? =some wk:=by rfl)(hk:scope.kind= .function:=by rfl)(hb:jW X.env scope=true:=by kernel_rfl)(hcap:jN scope.names N X.N cap t=true:=by kernel_rfl)(hs:∀x,foldedSetIterable iter X.env x=pure x:=by exactλ_=>rfl):SO X (.ListComp elt [⟨tg,iter,ifs,0⟩] scope pos) (Ae cap t bk wk mi g mt me):=by
  refine hi.el λwi pi si=>?_
  exact⟨_,Bo hc (Xf hk hb) (Qw hcap) pi (λC s H fp=>(hg C s H fp).choose_spec.1) (λC s H fp=>(ht C s H fp).choose_spec.1) (λC s H fp=>(he C s H fp).choose_spec.1) hs,
    zoZ hbw si (.mk' hg ht he)⟩
end
end M
namespace M
open L2 PySem
theorem zhF:∀{ds:AA D} {ns:AA Int},fL ds=some ns->ds=ns.map .int
 |[],_,h=>by cases h;rfl
 | .int i::ds,_,h=>by
  refine bQ h λms e1 e2=>?_
  cases e2;rw[zhF e1];rfl
 | .non::_,_,h=>by exact aI h
 | .bl _::_,_,h=>by exact aI h
 | .str _::_,_,h=>by exact aI h
 | .lst _::_,_,h=>by exact aI h
 | .tup _::_,_,h=>by exact aI h
 | .scr _::_,_,h=>by exact aI h
 | .exc _::_,_,h=>by exact aI h
 |(.dic _ _)::_,_,h=>by exact aI h
 |(.dit _ _)::_,_,h=>by exact aI h
 |(.obj _ _ _ _ _)::_,_,h=>by exact aI h
def xF (i:Nat)(m:ME):MS:=λρ=>if(ρ[i]?.bind Sl.items).isSome then(m ρ).bind λp=>p.2[i]?.bind λs=>s.items.bind λds=>match p.1 with
 | .lst es=>if ds.length+es.length<=16777216 then some (.next,p.2.set i (s.put (ds++es)))else none
 |_=>none else none
section
variable {X:Cx}{e:AI}{me:ME}{pos:Pos}
theorem Mg (i:Nat){x:Str}{pos' apos cpos:Pos}(he:SE X e me)(hN:X.N[i]? =some x:=by rfl)(hv:dJ X.env.scope x:=by trivial)(hd:(x==("__debug__":Str))=false:=by decide)(hcd:(x==("__classdict__":Str))=false:=by decide)(hbase:attributeBase (.Name x pos') "extend" X.env (eval (.Name x pos') X.env)=eval (.Name x pos') X.env:=by rfl)(hfew : ((backTo cpos (starEach [e] X.env)).all (λx => !x.1) && (backToKw cpos (keywordEach [] X.env)).all (λx => x.1.isSome)
   &&decide ([e].length+([]:AA Keyword).length+(if([]:AA Keyword).isEmpty then 0 else 1)<30))=true:=by rfl)(hline:(apos.endLine==cpos.line)=true:=by rfl)(hs:starEach [e] X.env=(false,eval e X.env)::starEach [] X.env:=by rfl):SS X (.Expr (.Call (.Attribute (.Name x pos') "extend" apos) [e] [] cpos) pos) (xF i me):=by
 refine he.el λt p s=>?_
 refine⟨_,zk3 (sV qb7 PySem.F.slot_list_extend PySem.F.type_list_extend zpn (eB hN hv hd hcd) (jJ p mS hs) hbase hfew hline hs rfl) (by rfl),λB G H σ ρ fl ρ' E I hm k=>?_⟩;unfold xF at hm;refine aY hm λhso hm=>?_
 ·skip
  obtain⟨ds0,hso⟩:=qa1.mp hso;refine aP hso λs0 e0 q0=>?_
  obtain⟨l,xs0,h1,h2,h3,h4⟩:=I.wr e0 q0;refine bD hm λd ρ1 e1 hm=>?_
  refine aP hm λs1 e2 hm=>?_
  refine aP hm λds e3 hm=>?_
  cases d with
  |lst es=>
   dsimp only at hm;refine aY hm λhl hm=>?_
   ·skip
    exists bK hm;refine⟨.ref l,h1,.inl ⟨rfl,_,SqL.of h3⟩,s B G H σ ρ (.lst es) ρ1 _ I e1 λG1 H1 v I1 f1 r1=>?_⟩;obtain⟨l',xs,k1,k2,k3,k4⟩:=I1.wr e2 e3;rw[h1]at k1;cases k1;obtain⟨b,zs,rfl,hb,rb⟩:=r1;refine⟨l,b,xs,zs,rfl,rfl,k3,I1.fz _ _ hb,by rw[k4.length,rb.length,gZ];exact hl,?_⟩;exact k G1 _ σ (I1.write e2 e3 h1 (k4.append rb)) f1
  |_=>exact aI hm
end
end M
namespace M
open L2 PySem PySem.Spec
open PyProof.Rows hiding St
def iR2L (ma:MA):MA:=λρ=>(ma ρ).bind λp=>match p.1 with
 |[.int i,.int j]=>some (iX i (j-i).toNat,p.2)
 |_=>none
end M
namespace HT
open PySem PySem.Spec
def Rr (prog:AJ)(w:World)(A:Around)(P:Nat->AC->Prop)(bt:Nat->Nat->Bool)(s₂:AE)(wr:AA AD):Prop:=
 ∀i j vi vj h' tk (Q E:AC->AE->Prop),P i vi->P j vj->(∀b o,b∉wr->s₂.heap.get? b=some o->h'.get? b=some o)->Q (.bool (bt i j)) {s₂ with heap:=h',toks:=tk}->
  AG (model prog w) A (richCompare .Lt vi vj) Q E {s₂ with heap:=h',toks:=tk}
theorem zir:(toString "min"++toString ".loop":String)="min.loop":=by decide
section
variable {prog:AJ}{w:World}{A:Around}{R:Result->AE->Prop}{I:AD}{fp wr:AA AD}{n:Nat}{P:Nat->AC->Prop}{St:Nat->AK->Prop}
theorem zqF (W:Walks prog w A.in1 I fp wr n P St)(bt:Nat->Nat->Bool)(s₂:AE)(lt:Rr prog w A.in1 P bt s₂ wr)(S:AD)(hSf:S∉fp)(hS0:s₂.heap.get? S=none)(hR:∀v h' tk,P (argBest bt (n-1)) v->(∀b o,b∉wr->s₂.heap.get? b=some o->h'.get? b=some o)->R (.ok (.ret v)) {s₂ with heap:=h',toks:=tk}):
  ∀(k j:Nat) (h:AK) (tk:Nat) (vb:AC) (c:Nat),n-(j+1)=k->j+1<=n->St (j+1) h->P (argBest bt j) vb->
  h.get? S=some {cls:= .type "list",dict:=none,data:= .seq #[vb,vb] c,slots:= #[]}->(∀b o,b∉wr->s₂.heap.get? b=some o->h.get? b=some o)->
  codeAny (model prog w) A (.builtin "min.loop" ⟨[.ref I,.none,.ref S],[]⟩) R {s₂ with heap:=h,toks:=tk}:=by
 have hSw:S∉wr:=λz=>hSf (W.sub _ z)
 have neS:∀b o,s₂.heap.get? b=some o->S≠b:=λb o e z=>by rw[<-z,hS0]at e;cases e
 intro k
 induction k with
 |zero=>
  intro j h tk vb c hk hj hst hPb hS hkp;have hin:j+1=n:=∅
  refine codeAny_builtin F.entry_min_loop ?_;rw[qcC Ks _];show AG _ A.in1 (seqItems? (.ref S)>>=_) _ _ _;refine aH (kR hS rfl ?_);show AG _ A.in1 (tryCatch (pyNext (.ref I)) _>>=_) _ _ _;refine aH (Yw (W.done _ _ _ (hin ▸ hst) λh' tk' hk'=>?_));have hS':=hk' S _ hSw hS;show AG _ A.in1 (updateSeq S (λ_=> #[])>>=_) _ _ _;refine aH ?_;refine Ql hS' rfl (aH (zW (qaB ?_)));exact hR vb _ tk' (by rw[<-hin];exact hPb) λb o hbw e=>(Li _ _ (neS b o e)).trans (hk' b o hbw (hkp b o hbw e))
 |succ k ih=>
  intro j h tk vb c hk hj hst hPb hS hkp;have hlt:j+1<n:=∅
  refine codeAny_builtin F.entry_min_loop ?_;rw[qcC Ks _];show AG _ A.in1 (seqItems? (.ref S)>>=_) _ _ _;refine aH (kR hS rfl ?_);show AG _ A.in1 (tryCatch (pyNext (.ref I)) _>>=_) _ _ _;refine aH (Yw (W.item (j+1) _ _ _ hlt hst λv h' tk' hP hst' hk'=>?_));have hS':=hk' S _ hSw hS;have hkp':∀b o,b∉wr->s₂.heap.get? b=some o->h'.get? b=some o:=λb o hb e=>hk' b o hb (hkp b o hb e)
  show AG _ A.in1 (tryCatch (holding [v,v] (richCompare .Lt v vb>>=_)) _>>=_) _ _ _;refine aH (Yw (fV (aH (lt (j+1) (argBest bt j) v vb h' tk' _ _ hP hPb hkp' ?_))));refine aH (fV (Eu ?_));refine aH (zW (qaB ?_));cases hb:bt (j+1) (argBest bt j)with
  |true=>
   simp only[if_true];refine aH ?_;refine Ql hS' rfl (aH (zW ?_));rw[zir];refine qaB ⟨Zi Ks _,ih (j+1) _ tk' v _ ∅ hlt (W.frame _ _ _ hst' λb hbf o e=>?_) (by simp only[argBest,hb,if_true];exact hP) (Xb _ hS' rfl) λb o hbw e=>?_⟩
   ·exact(Li _ _ (λz:S=b=>hSf (by rw[z];exact hbf))).trans e
   ·exact(Li _ _ (neS b o e)).trans (hkp' b o hbw e)
  |false=>
   simp only[lJ,cX];refine aH (zW ?_);rw[zir];exact qaB ⟨Zi Ks _,ih (j+1) _ tk' vb c ∅ hlt hst' (by simp only[argBest,hb,lJ,cX];exact hPb) hS' hkp'⟩
end
section
variable {prog:AJ}{w:World}{A:Around}{E:AC->AE->Prop}{s:AE}
theorem zpL {x:AC}{Q:AC->AE->Prop}(h : AG (model prog w) A.in1 (pyIter x) (λit s₂ => ∃ I fp wr n P St bt, it = .ref I /\ Walks prog w A.in1 I fp wr n P St /\ St 0 s₂.heap /\ (∀ b ∈ fp, b < s₂⁻¹) /\ 0 < n /\ Rr prog w A.in1 P bt s₂ wr /\
   ∀v h' tk,P (argBest bt (n-1)) v->(∀b o,b∉wr->s₂.heap.get? b=some o->h'.get? b=some o)->Q v {s₂ with heap:=h',toks:=tk}) E s):
  AG (model prog w) A (call (.builtin "min") [x]) Q E s:=by
 refine call_function_tree F.kind_min F.plain_min F.entry_min (F.args_min1 _) ?_;show AG _ A.in1 (Builtin.Builtins.bindParams "min" ["key","default"] 0 ⟨[],[]⟩>>=_) _ _ s;refine aH (Um (show Builtin.Builtins.bindParams "min" ["key","default"] 0 ⟨[],[]⟩=pure [none,none]from rfl) ?_);refine aH (qaB ?_);refine aH (lH h (λit s₂ h₂=>?_) λ_ _ e=>e);obtain⟨I,fp,wr,n,P,St,bt,rfl,W,hst,hfp,hn,lt,hQ⟩:=h₂;refine aH (lY ?_);have hSf:s₂⁻¹∉fp:=λhm=>tV _ (hfp _ hm)
 have hSw:s₂⁻¹∉wr:=λz=>hSf (W.sub _ z)
 have hS0:s₂.heap.get? s₂⁻¹=none:=by
  cases q:s₂.heap.get? s₂⁻¹ with
  |none=>rfl
  |some o=>exact AH (cM q) (tV _)
 have neS:∀b o,s₂.heap.get? b=some o->s₂⁻¹≠b:=λb o e z=>by rw[<-z,hS0]at e;cases e
 rw[zir];refine qaB ⟨Zi Ks _,codeAny_builtin F.entry_min_loop ?_⟩;rw[qcC Ks _];have hS:(s₂.heap.push {cls:= .type "list",data:= .seq #[]}).get? s₂⁻¹=some {cls:= .type "list",data:= .seq #[]}:=eN _ rfl;show AG _ A.in1 (seqItems? (.ref s₂⁻¹)>>=_) _ _ _;refine aH (kR hS rfl ?_);show AG _ A.in1 (tryCatch (pyNext (.ref I)) _>>=_) _ _ _;refine aH (Yw (W.item 0 _ _ _ hn (W.frame _ _ _ hst λb _ o e=>bP _ e) λv h' tk hP hst' hk'=>?_));have hS':=hk' _ _ hSw hS;show AG _ A.in1 (updateSeq s₂⁻¹ (λ_=> #[v,v])>>=_) _ _ _;refine aH ?_;refine Ql hS' rfl ?_;rw[zir];refine qaB ⟨Zi Ks _,zqF W bt s₂ lt s₂⁻¹ hSf hS0 hQ _ 0 _ tk v _ rfl hn (W.frame _ _ _ hst' λb hbf o e=>?_) hP (Xb _ hS' rfl) λb o hbw e=>?_⟩
 ·exact(Li _ _ (λz:s₂⁻¹=b=>hSf (by rw[z];exact hbf))).trans e
 ·exact(Li _ _ (neS b o e)).trans (hk' b o hbw (bP _ e))
end
end HT
namespace M
open L2 PySem PySem.Spec
open PyProof.Rows hiding St
def Nr:AA D->AB (AA (AA Int))
 |[]=>some []
 | .tup ds::r=>(fL ds).bind λns=>(Nr r).map λnss=>ns::nss
 |_::_=>none
def Bp (nss:AA (AA Int)):Nat:=argBest (λi j=>HT.eR (nss.getD i []) (nss.getD j [])) (nss.length-1)
def Wa:AA D->AB D
 |[.lst ds]=>(Nr ds).bind λnss=>if nss.isEmpty then none else ds[Bp nss]?
 |_=>none
theorem zk5 {as:AA AD}{its:AA AC}(r:Vals (as.map V.ref) its){i:Nat}{v:AC}(e:its[i]? =some v):∃a,as[i]? =some a/\v= .ref a:=by
 have hl:=r.length;have hi:i<its.length:=(qas.mp e).1;rw[eI]at hl;have e2:(as.map V.ref)[i]? =some (.ref as[i]):=by rw[cJ,bI ∅];rfl
 obtain⟨u,h1,h2⟩:=r.get e2;rw[e]at h1;cases h1;exact⟨_,bI ∅,h2⟩
theorem zlW {K:AF}{G:Hp}:∀{ys:AA V} {ds:AA D} {nss:AA (AA Int)},RepL K G ys ds->Nr ds=some nss->∃as:AA AD,ys=as.map V.ref/\as.length=nss.length/\∀(i:Nat) a ns,as[i]? =some a->nss[i]? =some ns->G a=some (.tup (ns.map V.int))
 |_,[],nss,r,e=>by cases e;cases r;exact⟨[],rfl,rfl,λi a ns h=>by simp at h⟩
 |_,d::ds,nss,⟨x,ys,e0,q,r⟩,e=>by
  subst e0;cases d with
  |tup es=>
   refine aP e λns e1 e=>?_
   refine bQ e λms e2 e3=>?_
   subst e3;obtain⟨as,rfl,hl,h⟩:=zlW r e2;obtain⟨a,zs,rfl,ha,rz⟩:=q;rw[Yv e1]at rz;rw[RepL.ints_eq rz]at ha;refine⟨a::as,rfl,by rw[eH,eH,hl],λi b ns' h1 h2=>?_⟩;cases i with
   |zero=>simp at h1 h2;subst h1 h2;exact ha
   |succ i=>exact h i b ns' (~~~h1) (~~~h2)
  |non=>exact aI e
  |bl _=>exact aI e
  |int _=>exact aI e
  |str _=>exact aI e
  |lst _=>exact aI e
  |scr _=>exact aI e
  |exc _=>exact aI e
  |dic _ _=>exact aI e
  |dit _ _=>exact aI e
  |obj _ _ _ _ _=>exact aI e
def Bz (K:AF):AA V->Hp->VK->Prop:=λxs H Q=>∃(p:AD) (as:AA AD) (nss:AA (AA Int)),xs=[.ref p]/\nss≠[]/\as.length=nss.length/\SqL K H p (as.map V.ref)/\(∀(i:Nat) a ns,as[i]? =some a->nss[i]? =some ns->SqT K H a (ns.map V.int))/\∀a,as[Bp nss]? =some a->Q (.ref a) H
theorem zpI {A:Around}(h:A.units+64<cLine):A.in1.units<cLine:=by
 have:A.in1.units=A.units+1\/A.in1.units=A.units:=by first|exact .inr rfl|exact .inl rfl|(simp[Around.in1,Around.units])
 lia
theorem zoJ {X:Cx}(hc:X.calm=true)(hu:X.A.units+64<cLine):iO X (.builtin "min") (Bz X.K):=by
 intro AM s σ H xs us Q I r h;obtain⟨p,as,nss,rfl,ne,hl,hq,ht,q⟩:=h;obtain⟨u,rfl,ru⟩:=qX r;cases ru;refine HT.zpL (Wf (A:=X.A.in1) (I.ok.hd hc) I (.inl hq) λits s₂ St rv W st hfp fin=>?_);have hl2:=rv.length;rw[eI]at hl2;have hp:0<its.length:=by rw[<-hl2,hl];exact qcG.mpr ne
 have hu':X.A.in1.units<cLine:=zpI hu;have get:∀i a,as[i]? =some a->SqT X.K H a ((nss.getD i []).map V.int):=λi a e=>by
  have hi:i<nss.length:=by rw[<-hl];exact(qas.mp e).1
  rw[uY,bI hi];exact ht i a _ e (bI hi)
 refine⟨_,_,_,_,_,_,λi j=>HT.eR (nss.getD i []) (nss.getD j []),rfl,W,st,hfp,hp,λi j vi vj h' tk Q' E' hi hj hk qq=>?_,λv h' tk hP hk=>?_⟩
 ·obtain⟨a,ea,rfl⟩:=zk5 rv hi;obtain⟨b,eb,rfl⟩:=zk5 rv hj;have I':=fin h' tk hk;obtain⟨its1,r1,p1,_⟩:=I'.tuple (get i a ea);obtain⟨its2,r2,p2,_⟩:=I'.tuple (get j b eb);exact HT.zox p1 p2 (zka r1) (zka r2) hu' qq
 ·obtain⟨a,ea,rfl⟩:=zk5 rv hP;refine⟨.ref a,H,fin h' tk hk,rfl,q a ?_⟩;unfold Bp;rw[<-hl,hl2];exact ea
theorem uP {X:Cx}:VC X (Bz X.K) Wa:=by
 intro B G H σ ρ xs ds d Q I r hf k
 match ds,hf with
 |[.lst es],hf=>
  refine aP hf λnss e1 hf=>?_
  split at hf
  ·exact aI hf
  ·rename_i ne;obtain⟨x,rfl,ra⟩:=r.one;obtain⟨p,ys,rfl,hp,ry⟩:=I.lst ra;obtain⟨as,rfl,hl,h⟩:=zlW ry e1;refine⟨p,as,nss,rfl,λz=>ne (by rw[z];rfl),hl,SqL.of hp,λi a ns h1 h2=>SqT.of (I.fz _ _ (h i a ns h1 h2)),λa ea=>?_⟩;obtain⟨y,e2,ry2⟩:=ry.get hf;rw[cJ,ea]at e2;cases e2;exact k G H _ I (Fz.refl G) ry2
 |[],hf=>exact aI hf
 |[.non],hf=>exact aI hf
 |[.bl _],hf=>exact aI hf
 |[.int _],hf=>exact aI hf
 |[.str _],hf=>exact aI hf
 |[.tup _],hf=>exact aI hf
 |[.scr _],hf=>exact aI hf
 |[.exc _],hf=>exact aI hf
 |[.dic _ _],hf=>exact aI hf
 |[.dit _ _],hf=>exact aI hf
 |[.obj _ _ _ _ _],hf=>exact aI hf
 |a::b::c,hf=>exact AH hf (by unfold Wa;simp)
theorem zB {X:Cx}{e:AI}{ma:MA}{p pos:Pos}(hc:X.calm=true)(hu:X.A.units+64<cLine)(ml:X.mg "min"=none)(ha:SA X [e] ma)(hg:Gl X "min":=by rfl)(he:starEach [e] X.env=(false,eval e X.env)::starEach [] X.env:=by rfl):SE X (.Call (.Name "min" p) [e] [] pos) (mC Wa ma):=
 Bk (zoJ hc hu) uP (by decide+kernel) ml ha hg (by decide) (by decide) he rfl
theorem nn {α:Type}{o:AB α}{x:α}(e:o=some x):o≠none:=by rw[e];exactλz=>by cases z
abbrev MX:=R->AB Str
def pU (mc:MT)(mb:MS):Nat->MS
 |0,_=>none
 |n+1,ρ=>(mc ρ).bind λp=>if p.1 then(mb p.2).bind λq=>match q.1 with
  | .next=>pU mc mb n q.2
  | .cont=>pU mc mb n q.2
  | .brk=>some (.next,q.2)
  | .ret r=>some (.ret r,q.2)
  else some (.next,p.2)
theorem Zg {X:Cx}{c:AI}{body:AA Stmt}{mc:MT}{mb:MS}{pos:Pos}(fuel:Nat)(hp:PassesOwn (model X.prog X.w) X.A X.env X.xe)(hc:STt X c mc)(hb:SSs X body mb):SS X (.While c body [] pos) (pU mc mb fuel):=by
 refine hc.el λtc pc sc=>?_
 refine hb.el λtb pb sb=>?_
 refine⟨_,qP hp pc pb,λB G H σ ρ fl ρ' E I hm k=>?_⟩;refine⟨λm σ' H'=>∃G' ρ1,SI X.K B G' H' σ' ρ1/\Fz G G'/\pU mc mb m ρ1=some (fl,ρ'),⟨fuel,G,ρ,I,Fz.refl G,hm⟩,λm σ1 H1 w=>?_⟩;obtain⟨G1,ρ1,I1,f1,e1⟩:=w;cases m with
 |zero=>exact aI e1
 |succ m=>
  refine bD e1 λb ρ2 e2 e1=>?_
  refine sc B G1 H1 σ1 ρ1 b ρ2 _ I1 e2 λG2 H2 I2 f2=>?_
  dsimp only at e1;cases b with
  |false=>
   rw[if_neg (by simp)]at e1 ⊢;exists bK e1;exact k G2 H2 σ1 I2 (f1.trans f2)
  |true=>
   rw[if_pos rfl]at e1 ⊢;refine bD e1 λf ρ3 e3 e1=>?_
   refine⟨λσ' H'=>∃G' ρ1,SI X.K B G' H' σ' ρ1/\Fz G G'/\pU mc mb m ρ1=some (fl,ρ'),λσ' H' h=>⟨m,Ot m,h⟩,?_⟩;refine sb B G2 H2 σ1 ρ2 f ρ3 _ I2 e3 ?_;have ff:=f1.trans f2;cases f with
   |next=>exactλG' H' σ' I3 f3=>⟨G',ρ3,I3,ff.trans f3,e1⟩
   |cont=>exactλG' H' σ' I3 f3=>⟨G',ρ3,I3,ff.trans f3,e1⟩
   |brk=>exists bK e1;exactλG' H' σ' I3 f3=>k G' H' σ' I3 (ff.trans f3)
   |ret r=>exists bK e1;exactλG' H' σ' v I3 f3 rr=>k G' H' σ' v I3 (ff.trans f3) rr
def gS (j:Nat)(mi:ME):D->R->AB R:=λd ρ=>if eJ ρ j then(mi ρ).bind λq=>match q.1 with
 | .int k=>q.2[j]?.bind λs=>s.items.bind λds=>(eU ds.length k).bind λn=>some (q.2.set j (s.put (ds.set n d)))
 |_=>none else none
section
variable {X:Cx}
theorem oP (j:Nat){x:Str}{i:AI}{mi:ME}{pos' tpos:Pos}(hi:SE X i mi)(hN:X.N[j]? =some x:=by rfl)(hv:dJ X.env.scope x:=by trivial)(hd:(x==("__debug__":Str))=false:=by decide)(hcd:(x==("__classdict__":Str))=false:=by decide)(ha : ∀ v, assign (.Subscript (.Name x pos') i tpos) X.env v = (do
      let ov<-holding [v] (eval (.Name x pos') X.env)
      let iv<-holding [v,ov] (eval i X.env)
      standAt tpos
      holding [v,ov,iv] (setItem ov iv v)
      release [v,ov,iv] []):=by exactλ_=>rfl):SG X (.Subscript (.Name x pos') i tpos) (gS j mi):=by
  refine hi.el λu q z=>?_
  refine⟨_,Sm (eB hN hv hd hcd) q Qe ha,λB G H σ ρ v d ρ' Q I r1 hm k=>?_⟩;unfold gS at hm;refine aY hm λhh hm=>?_
  . skip
    obtain⟨w,ew⟩:=I.has hh;refine bD hm λkd ρ2 e2 hm=>?_
    cases kd<;>try exact aI hm
    rename_i kk;refine aP hm λs2 e3 hm=>?_
    refine aP hm λds e4 hm=>?_
    refine aP hm λn e5 hm=>?_
    cases hm;refine⟨w,ew,z B G H σ ρ (.int kk) ρ2 _ I e2 λG2 H2 y I2 f2 r2=>?_⟩;obtain⟨l,xs,k1,k2,k3,k4⟩:=I2.wr e3 e4;rw[ew]at k1;cases k1;refine⟨l,xs,kk,n,rfl,r2,k3,by rw[k4.length];exact e5,?_⟩;exact k G2 _ σ (I2.write e3 e4 ew (k4.set n (r1.mono f2))) f2
end
end M
namespace M
open L2 PySem
def lT:Sl->Sl->Bool
 | .own ds,.own es=>match fL ds,fL es with
  |some a,some b=>a==b
  |_,_=>false
 | .par ds,.par es=>match fL ds,fL es with
  |some a,some b=>a==b
  |_,_=>false
 | .own _,_=>false
 | .par _,_=>false
 | .tre _,_=>false
 | .ptr _,_=>false
 |_,_=>true
theorem zma {ds es:AA D}(h:(match fL ds,fL es with
  |some a,some b=>a==b
  |_,_=>false)=true):∃ns:AA Int,ds=ns.map .int/\es=ns.map .int:=by
 cases a:fL ds with
 |none=>rw[a]at h;cases h
 |some x=>
  cases b:fL es with
  |none=>rw[a,b]at h;cases h
  |some y=>
   rw[a,b]at h;have e:x=y:= ~~~h
   subst e;exact⟨x,zhF a,zhF b⟩
end M
namespace M
open L2 PySem PySem.Spec
open PyProof.Rows hiding St
def Sl.putT (s:Sl)(t:T):Sl:=match s with
 | .tre _=> .tre t
 | .ptr _=> .ptr t
 |s=>s
def Sl.tree:Sl->AB T
 | .tre t=>some t
 |_=>none
section
variable {K:AF}{B:Bs}{G G' H H':Hp}{σ:St}{ρ:R}
theorem SI.setT (I:SI K B G H σ ρ){i:Nat}{v:V}{t:T}{A:AA AD}(r:RepT K G H v t A)(nd:A.Nodup)(hA:∀a∈A,G a=none/\B.H a=none/\Nw K G H σ ρ a):SI K B G H (σ.set i (some v)) (ρ.set i (.tre t)):=
 I.chg I.fz (Fz.refl G) I.new I.keep I.there (λj s a _ e w g _=>⟨g,rfl,λ⟨v2,A2,k1,k2,k3⟩=>by
  cases k1;rw[k2.det r λ_ _=>rfl]at k3;exact(hA a k3).2.2 j s e w⟩) ⟨v,A,rfl,r,nd,λa m=>⟨(hA a m).1,(hA a m).2.1⟩⟩
open Classical in
def Bs.re (B:Bs)(K:AF)(G H:Hp)(σ:St)(ρ:R):Bs:=⟨G,λb=>if(∃(i:Nat) (s:Sl),ρ[i]? =some s/\cU K G H σ[i]? b s)/\B.H b=none then none else H b,B.O⟩
theorem Wk (I:SI K B G H σ ρ){b:AD}(h:(B.re K G H σ ρ).H b=none):B.H b=none:=by
 unfold Bs.re at h;dsimp only at h
 split at h
 ·rename_i w;exact w.2
 ·exact I.there b h
theorem zo8 {b:AD}{i:Nat}{s:Sl}(e:ρ[i]? =some s)(w:cU K G H σ[i]? b s)(n:B.H b=none):(B.re K G H σ ρ).H b=none:=by
 unfold Bs.re;dsimp only;rw[if_pos ⟨⟨i,s,e,w⟩,n⟩]
theorem uU {b:AD}{o:HO}(h:H b=some o)(n:Nw K G H σ ρ b):(B.re K G H σ ρ).H b=some o:=by
 unfold Bs.re;dsimp only;rw[if_neg λw=>by obtain⟨⟨i,s,e,w⟩,_⟩:=w;exact n i s e w];exact h
theorem SI.re (I:SI K B G H σ ρ):SI K (B.re K G H σ ρ) G H σ ρ where
 fz:=I.fz
 g0:=Fz.refl G
 new:=λb o e=> .inl (by show G b≠none;rw[e];simp)
 keep:=λb o e _=>by
  unfold Bs.re at e;dsimp only at e
  split at e
  ·exact aI e
  ·exact e
 there:=λb e=>by
  unfold Bs.re;dsimp only
  split
  ·rfl
  ·exact e
 ob:=λi b m=>by
  have hb:=I.ob i b m;unfold Bs.re;dsimp only;rw[if_neg λw=>hb w.2];exactλz=>hb (I.there b z)
 len:=I.len
 slot:=λi s e=>by
  have h:=I.slot i s e;cases s with
  |emp=>trivial
  |two _ _=>trivial
  |val d=>exact h
  |own ds=>obtain⟨l,xs,k1,k2,k3,k4,k5⟩:=h;exact⟨l,xs,k1,k2,k3,k4,zo8 e k1 k5⟩
  |par ds=>exact h
  |tre t=>obtain⟨v,A,k1,k2,k3,k4⟩:=h;exact⟨v,A,k1,k2,k3,λa m=>⟨(k4 a m).1,zo8 e ⟨v,A,k1,k2,m⟩ (k4 a m).2⟩⟩
  |ptr t=>
   obtain⟨v,A,k1,k2,k3,k4⟩:=h;exact⟨v,A,k1,k2,k3,λa m=>⟨(k4 a m).1,(k4 a m).2.imp id λz=>⟨zo8 e ⟨v,A,k1,k2,m⟩ z.1,z.2⟩⟩⟩
 dis:=I.dis
theorem SI.unre {σ':St}{ρ':R}(I:SI K B G H σ ρ)(J:SI K (B.re K G H σ ρ) G' H' σ' ρ'):SI K B G' H' σ' ρ' where
 fz:=J.fz
 g0:=I.g0.trans J.g0
 new:=λb o e=>by
  rcases J.new b o e with z|z
  ·cases q:G b with
   |none=>exact AH q z
   |some u=>exact I.new b u q
  ·exact .inr (Wk I z)
 keep:=λb o e n=>J.keep b o (by
  unfold Bs.re;dsimp only;rw[if_neg λw=>by rw[w.2]at e;cases e];exact I.keep b o e n) n
 there:=λb e=>Wk I (J.there b e)
 ob:=I.ob
 len:=J.len
 slot:=λi s e=>by
  have h:=J.slot i s e;cases s with
  |emp=>trivial
  |two _ _=>trivial
  |val d=>exact h
  |own ds=>obtain⟨l,xs,k1,k2,k3,k4,k5⟩:=h;exact⟨l,xs,k1,k2,k3,k4,Wk I k5⟩
  |par ds=>exact h
  |tre t=>obtain⟨v,A,k1,k2,k3,k4⟩:=h;exact⟨v,A,k1,k2,k3,λa m=>⟨(k4 a m).1,Wk I (k4 a m).2⟩⟩
  |ptr t=>
   obtain⟨v,A,k1,k2,k3,k4⟩:=h;exact⟨v,A,k1,k2,k3,λa m=>⟨(k4 a m).1,(k4 a m).2.imp id λz=>⟨Wk I z.1,z.2⟩⟩⟩
 dis:=J.dis
theorem SI.re_stays {σ':St}{ρ':R}(I:SI K B G H σ ρ)(J:SI K (B.re K G H σ ρ) G' H' σ' ρ'){b:AD}{o:HO}(h:H b=some o)(n:Nw K G H σ ρ b)(hg:G b=none)(hB:B.H b=none):H' b=some o/\G' b=none/\Nw K G' H' σ' ρ' b:=by
 have hb:(B.re K G H σ ρ).H b=some o:=uU h n;have hO:∀i,(i,b)∉B.O:=λi m=>I.ob i b m hB
 refine⟨J.keep b o hb hO,?_,λi s e w=>?_⟩
 ·cases q:G' b with
  |none=>rfl
  |some u=>
   rcases J.new b u q with z|z
   ·exact AH hg z
   ·rw[hb]at z;cases z
 ·rcases((J.slot i s e).own w).2.2 with z|z
  ·rw[hb]at z;cases z
  ·exact hO i z
end
section
variable {J κ:Type}[DecidableEq J][DecidableEq κ]
def jD:AA J->AA D->J->AB D
 |k::ks,d::ds,j=>if k=j then some d else jD ks ds j
 |_,_,_=>none
def gY (ks:AA J)(ds:AA D)(j:J)(d:D):AA J×AA D:=if ks.contains j then(ks,List.zipWith (λk x=>if k=j then d else x) ks ds)else(ks++[j],ds++[d])
variable {K:AF}{G:Hp}{em:J->κ}
theorem zmy (inj:∀a b,em a=em b->a=b):∀{ks:AA J} {ds:AA D} {ys:AA (κ×V)} {j:J} {d:D},ys.map (·.1)=ks.map em->RepL K G (ys.map (·.2)) ds->jD ks ds j=some d->∃v,fJ ys (em j)=some v/\RepD K G v d
 |[],_,_,_,_,_,_,h=>by exact aI h
 |_::_,[],_,_,_,_,_,h=>by exact aI h
 |k::ks,x::ds,[],j,d,e,_,_=>by cases e
 |k::ks,x::ds,y::ys,j,d,e,⟨z,zs,e1,r1,r2⟩,h=>by
  cases e1;have e2:=List.cons.inj e;unfold jD at h
  by_cases q:k=j
  ·rw[if_pos q]at h;cases h;subst q;exact⟨y.2,znx e2.1,r1⟩
  ·rw[if_neg q]at h;obtain⟨v,h1,h2⟩:=zmy inj e2.2 r2 h;refine⟨v,?_,h2⟩;rw[zkM λz=>q (inj _ _ (e2.1.symm.trans z)),h1]
theorem Yc (inj:∀a b,em a=em b->a=b):∀{ks:AA J} {ds:AA D} {ys:AA (κ×V)} {j:J},ys.map (·.1)=ks.map em->RepL K G (ys.map (·.2)) ds->jD ks ds j=none->fJ ys (em j)=none
 |[],_,[],_,_,_,_=>rfl
 |[],_,_::_,_,e,_,_=>by cases e
 |_::_,_,[],_,e,_,_=>by cases e
 |k::ks,[],y::ys,_,_,r,_=>by cases r
 |k::ks,x::ds,y::ys,j,e,⟨z,zs,e1,r1,r2⟩,h=>by
  cases e1;have e2:=List.cons.inj e;unfold jD at h
  by_cases q:k=j
  ·rw[if_pos q]at h;cases h
  ·rw[if_neg q]at h;rw[zkM λz=>q (inj _ _ (e2.1.symm.trans z)),Yc inj e2.2 r2 h]
theorem zmg (inj:∀a b,em a=em b->a=b){ks:AA J}{ds:AA D}{ys:AA (κ×V)}{j:J}(e:ys.map (·.1)=ks.map em)(r:RepL K G (ys.map (·.2)) ds):(fJ ys (em j)).isSome=(jD ks ds j).isSome:=by
 cases h:jD ks ds j with
 |none=>rw[Yc inj e r h];rfl
 |some d=>obtain⟨v,h1,_⟩:=zmy inj e r h;rw[h1];rfl
theorem Hr (inj:∀a b,em a=em b->a=b){ks:AA J}{ds:AA D}{ys:AA (κ×V)}{j:J}{v:V}{d:D}(e:ys.map (·.1)=ks.map em)(r:RepL K G (ys.map (·.2)) ds)(rv:RepD K G v d):
  (fR ys (em j) v).map (·.1)=(gY ks ds j d).1.map em/\RepL K G ((fR ys (em j) v).map (·.2)) (gY ks ds j d).2:=by
 have any:(ys.any λkv=>decide (kv.1=em j))=ks.contains j:=by
  clear r
  induction ys generalizing ks with
  |nil=>cases ks with
   |nil=>rfl
   |cons _ _=>cases e
  |cons y ys ih=>cases ks with
   |nil=>cases e
   |cons k ks=>
    have e2:=List.cons.inj e;rw[wJ,ih e2.2,Ck];congr 1
    by_cases q:j=k
    ·subst q;simp[e2.1]
    ·rw[kB (λz=>q (inj _ _ (e2.1.symm.trans z)).symm)];simp[q]
 unfold fR gY;rw[any]
 by_cases q:ks.contains j=true
 ·rw[if_pos q,if_pos q]
  constructor
  ·rw[gC,<-e];apply Ra;intro a _;simp only[Function.comp]
   split<;>rfl
  ·clear any q;rw[gC]
   induction ys generalizing ks ds with
   |nil=>cases ks with
    |nil=>exact RepL.nil
    |cons _ _=>cases e
   |cons y ys ih=>cases ks with
    |nil=>cases e
    |cons k ks=>
     have e2:=List.cons.inj e;cases ds with
     |nil=>cases r
     |cons x ds=>
      obtain⟨z,zs,e1,r1,r2⟩:=r;cases e1;refine RepL.cons ?_ (ih e2.2 r2);simp only[Function.comp]
      by_cases q:k=j
      ·rw[if_pos q,if_pos (by rw[<-q];exact e2.1)];exact rv
      ·rw[if_neg q,if_neg λz=>q (inj _ _ (e2.1.symm.trans z))];exact r1
 ·rw[if_neg q,if_neg q];rw[iS,iS,iS,e];exact⟨rfl,r.append (.cons rv .nil)⟩
end
theorem Ms (a b:Int)(h:kI a=kI b):a=b:=by cases h;rfl
def Sl.dic:Sl->AB (AA Int×AA D)
 | .tre (.dic ks ds)=>some (ks,ds)
 | .val (.dic ks ds)=>some (ks,ds)
 |_=>none
def tDI (j:Nat)(neg:Bool)(mk:ME):MT:=λρ=>(mk ρ).bind λp=>match p.1 with
 | .int k=>(p.2[j]?.bind Sl.dic).map λq=>(((jD q.1 q.2 k).isSome !=neg),p.2)
 |_=>none
def fzD (j:Nat)(ρ:R):R:=match ρ[j]? with
 |some (.tre (.dic ks ds))=>ρ.set j (.val (.dic ks ds))
 |_=>ρ
def xM (F:AA D->AA D->AB (Sl×AA D))(mo:MO)(ma:MA):ME:=λρ=>(mo ρ).bind λp=>(ma p.2).bind λq=>(F p.1 q.1).bind λr=>match r.1 with
 | .val d=>some (d,q.2)
 | .own ds=>some (.lst ds,q.2)
 |_=>none
end M
namespace HT
open L2 PyProof.Rows PySem PySem.Spec
section
variable {prog:AJ}{w:World}{A:Around}{E:AC->AE->Prop}{I:AD}{fp wr:AA AD}{n:Nat}{St:Nat->AK->Prop}
theorem zlT {its:AA AC}(W:Walks prog w A I fp wr n (λi v=>its[i]? =some v) St):∀(m i:Nat) (s:AE) (Q:AA AC->AE->Prop),i+m<=n->St i s.heap->
  (∀h' tk,St (i+m) h'->(∀b o,b∉wr->s.heap.get? b=some o->h'.get? b=some o)->Q ((its.drop i).take m) {s with heap:=h',toks:=tk})->AG (model prog w) A (draw (.ref I) m) Q E s
 |0,i,s,Q,_,st,hq=>qaB (~~~hq s.heap s.toks st λ_ _ _ e=>e)
 |m+1,i,s,Q,hi,st,hq=>by
  show AG _ _ (pyNext (.ref I)>>=_) Q E s;refine aH (W.item i s _ _ ∅ st λv h1 tk1 hv st1 k1=>?_);refine aH (fV (zlT W m (i+1) _ _ ∅ st1 λh2 tk2 st2 k2=>qaB ?_));have:=hq h2 tk2 (by rw[show i+(m+1)=i+1+m by lia];exact st2) λb o nb e=>k2 b o nb (k1 b o nb e)
  obtain⟨hl,ev⟩:=qas.mp hv;rw[qb8 hl,qcK,ev]at this;exact this
end
end HT
namespace L2
open PyProof.Rows PySem PySem.Spec
variable {X:Cx}{pos:Pos}
def Wo (K:AF)(n:Nat)(t:tZ):TG:=λv σ H Q=>∃a xs,v= .ref a/\SqL K H a xs/\xs.length=n/\t xs σ H Q
theorem yM {es:AA AI}{k:Nat}{t:tZ}{n:Nat}(hc:X.calm=true)(h:Lc X es t)(hn:(assignEach es X.env).length=n:=by rfl)(hst:(assignEach es X.env).findIdx? (·.1)=none:=by rfl):PG X (.Tuple es k pos) (Wo X.K n t):=by
 intro AM s σ H v u Q I r hw;obtain⟨a,xs,e1,hq,hl,hw⟩:=hw;subst e1;cases r;obtain⟨its0,rv0,pl,hz⟩:=I.list hq;rw[assign_Tuple];refine aH (Hf ?_);unfold unpack;rw[hst,hn];refine aH (fV ?_);unfold unpackItems;refine aH ?_;unfold notIterableAtAll;refine aH (qbI pl.isList.typeIs PySem.F.slot_list_iter.lookup ?_);refine qaB ?_;simp only[lJ,cX];refine aH (fV (M.Wf (A:=X.A) (I.ok.hd hc) I (.inl hq) λits s₂ St rv W st hfp fin=>?_));have ln:its.length=n:=by rw[<-rv.length,hl]
 refine aH (fV (HT.zlT W n 0 s₂ _ ∅ st λh1 tk1 st1 k1=>?_));have hall:List.take n (List.drop 0 its)=its:=by rw[List.drop_zero];exact lN ∅
 rw[hall,if_neg ∅];refine aH (fV (W.done _ _ _ (by rw[ln,<-Os n];exact st1) λh2 tk2 k2=>?_));simp only[Option.isSome_none,lJ,cX];refine qaB ?_;exact h AM _ σ H xs _ Q (fin h2 tk2 λb o nb e=>k2 b o nb (k1 b o nb e)) rv hw
end L2
namespace M
open L2 PySem PySem.Spec
open PyProof.Rows hiding St
def Ch.sl:Ch->Sl
 | .d x=> .val x
 | .l ds=> .own ds
 | .t xss=> .tre (.lst (xss.map .l))
theorem By {K:AF}{G H:Hp}:∀{xs:AA V} {dss:AA (AA D)} {A:AA AD},RepTb K G H xs dss A->RepCs K G H xs (dss.map .l) A
 |[],[],_,h=>h
 |x::xs,ds::dss,_,⟨r,ys,A2,e1,e2,e3,e4,e5⟩=>⟨[r],A2,⟨r,ys,e1,e2,e3,rfl⟩,By e4,e5⟩
 |[],_::_,_,h=>h.elim
 |_::_,[],_,h=>h.elim
def kT:AA Nat->AA Ch->R->R
 |i::is,c::cs,ρ=>kT is cs (ρ.set i c.sl)
 |_,_,ρ=>ρ
def sUnT (j:Nat)(is:AA Nat):MS:=λρ=>match ρ[j]? with
 |some (.tre (.lst cs))=>if cs.length=is.length then some (.next,kT is cs (ρ.set j .emp))else none
 |_=>none
end M
namespace M
open L2 PySem PySem.Spec
open PyProof.Rows hiding St
open Classical in
def fMT (N:Nat)(m:MS):AA D->T->AA D->AB (Sl×AA D):=λcs t ds=>(m (.par cs:: .tre t::(ds.map .val++List.replicate (N-(ds.length+2)) .emp))).bind λp=>match p.1,(p.2[0]?:AB Sl)with
 |Fl.ret r,some (Sl.par out)=>some (r,out)
 |Fl.next,some (Sl.par out)=>some (.val .non,out)
 |_,_=>none
abbrev MP':=R->AB (AA Ch×R)
end M
namespace M
open L2 PySem PySem.Spec
open PyProof.Rows hiding St
def Ch.D:Ch->M.D
 | .d x=>x
 | .l ds=> .lst ds
 | .t xss=> .lst (xss.map .lst)
section
variable {K:AF}{B:Bs}{G G' H H':Hp}{σ:St}{ρ:R}
theorem Dn:∀{xs:AA V} {cs:AA Ch} {A:AA AD},RepCs K G H xs cs A->xs.length=cs.length
 |[],[],_,_=>rfl
 |_::_,_::_,_,⟨_,_,_,r,_⟩=>by rw[eH,eH,Dn r]
 |[],_::_,_,h=>h.elim
 |_::_,[],_,h=>h.elim
theorem Zb:∀{xs:AA V} {cs:AA Ch} {A:AA AD} {n:Nat} {c:Ch},RepCs K G H xs cs A->cs[n]? =some c->∃x A1,xs[n]? =some x/\RepC K G H x c A1/\∀a∈A1,a∈A
 |[],[],_,_,_,_,h=>by simp at h
 |x::xs,d::cs,_,0,c,⟨A1,A2,r1,r2,e⟩,h=>by simp at h;subst h;exact⟨x,A1,rfl,r1,λa m=>by rw[e];exact kH _ m⟩
 |x::xs,d::cs,_,n+1,c,⟨A1,A2,r1,r2,e⟩,h=>by
  obtain⟨y,B1,h1,h2,h3⟩:=Zb (n:=n) r2 (~~~h);exact⟨y,B1,~~~h1,h2,λa m=>by rw[e];exact dQ _ (h3 a m)⟩
 |[],_::_,_,_,_,h,_=>h.elim
 |_::_,[],_,_,_,h,_=>h.elim
theorem zlB:∀{xs:AA V} {cs:AA Ch} {A:AA AD} {n:Nat} {ds es:AA D} {l:AD} {ys:AA V},RepCs K G H xs cs A->A.Nodup->cs[n]? =some (.l ds)->xs[n]? =some (.ref l)->RepL K G ys es->RepCs K G (upd H l (.lst ys)) xs (cs.set n (.l es)) A
 |[],[],_,_,_,_,_,_,_,_,h,_,_=>by simp at h
 |x::xs,d::cs,A,0,ds,es,l,ys,⟨A1,A2,r1,r2,e⟩,nd,h,hx,r=>by
  simp at h hx;subst h hx;obtain⟨l',zs,e1,e2,e3,rfl⟩:=r1;cases e1;rw[e]at nd;refine⟨[l],A2,⟨l,ys,rfl,cT,r,rfl⟩,r2.move (Fz.refl G) λa m=>aV λz=>?_,e⟩;subst z;exact(qcM.mp nd).2.2 a (by simp) a m rfl
 |x::xs,d::cs,A,n+1,ds,es,l,ys,⟨A1,A2,r1,r2,e⟩,nd,h,hx,r=>by
  rw[e]at nd;have nd':=qcM.mp nd;have h':cs[n]? =some (.l ds):= ~~~h
  have hx':xs[n]? =some (.ref l):= ~~~hx
  obtain⟨y,B1,h1,⟨l',zs,e1,e2,e3,e4⟩,h3⟩:=Zb r2 h';rw[hx']at h1;cases h1;cases e1;have lA:l∈A2:=h3 l (by rw[e4];simp);exact⟨A1,A2,r1.move (Fz.refl G) λa m=>aV λz=>by subst z;exact nd'.2.2 a m a lA rfl,zlB r2 nd'.2.1 h' hx' r,e⟩
 |[],_::_,_,_,_,_,_,_,h,_,_,_,_=>h.elim
 |_::_,[],_,_,_,_,_,_,h,_,_,_,_=>h.elim
theorem zkI {Gz:Hp}(fg:Fz G Gz):∀{xs:AA V} {dss:AA (AA D)} {A:AA AD},RepTb K G H xs dss A->(∀a∈A,Gz a=H a)->RepL K Gz xs (dss.map .lst)
 |[],[],_,_,_=>rfl
 |x::xs,ds::dss,_,⟨r,ys,A2,e1,e2,e3,e4,e5⟩,h=>⟨x,xs,rfl,⟨r,ys,e1,by rw[h r (by rw[e5];simp)];exact e2,e3.mono fg⟩,zkI fg e4 λa m=>h a (by rw[e5];simp[m])⟩
 |[],_::_,_,h,_=>h.elim
 |_::_,[],_,h,_=>h.elim
theorem zit {Gz:Hp}(fg:Fz G Gz):∀{xs:AA V} {cs:AA Ch} {A:AA AD},RepCs K G H xs cs A->(∀a∈A,Gz a=H a)->RepL K Gz xs (cs.map Ch.D)
 |[],[],_,_,_=>rfl
 |x::xs,.d y::cs,_,⟨A1,A2,r1,r2,e⟩,h=>⟨x,xs,rfl,r1.1.mono fg,zit fg r2 λa m=>h a (by rw[e];exact dQ _ m)⟩
 |x::xs,.l ds::cs,_,⟨A1,A2,⟨l,ys,e1,e2,e3,e4⟩,r2,e⟩,h=>⟨x,xs,rfl,⟨l,ys,e1,by rw[h l (by rw[e,e4];simp)];exact e2,e3.mono fg⟩,zit fg r2 λa m=>h a (by rw[e];exact dQ _ m)⟩
 |x::xs,.t xss::cs,_,⟨A1,A2,⟨p,ys,A3,e1,e2,e3,e4⟩,r2,e⟩,h=>⟨x,xs,rfl,⟨p,ys,e1,by rw[h p (by rw[e,e4];simp)];exact e2,zkI fg e3 λa m=>h a (by rw[e,e4];simp[m])⟩,zit fg r2 λa m=>h a (by rw[e];exact dQ _ m)⟩
 |[],_::_,_,h,_=>h.elim
 |_::_,[],_,h,_=>h.elim
theorem SI.chT2 (I:SI K B G H σ ρ){i:Nat}{t t':T}{v:V}{A A':AA AD}(e:ρ[i]? =some (.tre t))(hv:σ[i]? =some (some v))(r:RepT K G H v t A)(fz:Fz G H')(kp:∀b o,b∉A->H b=some o->H' b=some o)(th:∀b,H' b=none->H b=none)(r':RepT K G H' v t' A')(nd:A'.Nodup)(sub:∀a∈A',a∈A\/(G a=none/\B.H a=none/\Nw K G H σ ρ a)):SI K B G H' σ (ρ.set i (.tre t')):=by
 obtain⟨v1,A1,h1,h2,h3,h4⟩:=I.slot i _ e;rw[hv]at h1;cases h1;have:A1=A:=h2.det r λ_ _=>rfl
 subst this;have h:=I.chg (i:=i) (ov:=some v) (s':= .tre t') (G':=G) (H':=H') fz (Fz.refl G) I.new (λb o k1 k2=>kp b o (λm=>by rw[(h4 b m).2]at k1;cases k1) (I.keep b o k1 k2)) (λb k=>I.there b (th b k)) (λj u a z ej w g ha=>?_) ⟨v,A',rfl,r',nd,λa m=>?_⟩
 ·rwa[pA hv]at h
 ·have na:a∉A1:=λm=>I.dis j i u _ a z ej e w ⟨v,A1,hv,h2,m⟩
  obtain⟨x,hx⟩:=qbW.mp ha;refine⟨g,(kp a x na hx).trans hx.symm,λw'=>?_⟩;obtain⟨v2,A2,k1,k2,k3⟩:=w';cases k1;rw[k2.det r' λ_ _=>rfl]at k3;rcases sub a k3 with z|z
  ·exact na z
  ·exact z.2.2 j u ej w
 ·rcases sub a m with z|z
  ·exact h4 a z
  ·exact⟨z.1,z.2.1⟩
theorem Ua (I:SI K B G H σ ρ){i:Nat}{s:Sl}{a:AD}(e:ρ[i]? =some s)(w:cU K G H σ[i]? a s):Nw K G H σ (ρ.set i .emp) a:=λj t ej w'=>by
 by_cases z:j=i
 ·subst z;rw[Dm,if_pos rfl]at ej
  split at ej
  ·cases ej;exact w'
  ·exact aI ej
 ·rw[tG (Ne.symm z)]at ej;exact I.dis j i t s a z ej e w' w
open Classical in
def jG (G H:Hp)(A:AA AD):Hp:=λb=>if b∈A then H b else G b
theorem tJ {G H:Hp}{A:AA AD}{b:AD}(h:b∈A):jG G H A b=H b:=by unfold jG;rw[if_pos h]
theorem xK {G H:Hp}{A:AA AD}{b:AD}(h:b∉A):jG G H A b=G b:=by unfold jG;rw[if_neg h]
theorem znY {G H:Hp}{A:AA AD}(hA:∀a∈A,G a=none):Fz G (jG G H A):=λb o e=>by
 rw[xK λm=>by rw[hA b m]at e;cases e];exact e
theorem SI.frzA (I:SI K B G H σ ρ){A:AA AD}(hA:∀a∈A,G a=none/\B.H a=none/\Nw K G H σ ρ a):SI K B (jG G H A) H σ ρ:=
 I.move (λa u q=>by
  by_cases m:a∈A
  ·rw[tJ m]at q;exact q
  ·rw[xK m]at q;exact I.fz a u q) (znY λa m=>(hA a m).1) (λb u q=>by
  by_cases m:b∈A
  ·exact .inr (hA b m).2.1
  ·rw[xK m]at q;exact I.new b u q) I.keep I.there (λi s a e w g _=>⟨by rw[xK λm=>(hA a m).2.2 i s e w];exact g,rfl⟩)
end
def sTA (i j:Nat):MS:=λρ=>match ρ[i]?,ρ[j]? with
 |some (.tre (.lst cs)),some (.own ds)=>if cs.length<16777216 then some (.next,(ρ.set j .emp).set i (.tre (.lst (cs++[.l ds]))))else none
 |_,_=>none
def Yt (j:Nat):ME:=λρ=>match ρ[j]? with
 |some (.tre (.lst cs))=>some (.int cs.length,ρ)
 |_=>none
abbrev MQ:=R->AB D
def SQb (X:Cx)(e:AI)(m:MQ)(t:TE):Prop:=∀B G H σ ρ d (Q:VK),SI X.K B G H σ ρ->m ρ=some d->(∀v,RepD X.K G v d->Q v H)->t σ H Q
def SQ (X:Cx)(e:AI)(m:MQ):Prop:=∃t,PE X e t/\SQb X e m t
theorem SQ.el {X:Cx}{e:AI}{m:MQ}{C:Prop}(h:SQ X e m)(k:∀t,PE X e t->SQb X e m t->C):C:=h.elim λt q=>k t q.1 q.2
def qC (d:D):MQ:=λ_=>some d
def qV (i:Nat):MQ:=λρ=>match ρ[i]? with
 |some (.val d)=>some d
 |_=>none
def xD (j:Nat)(mi mk:MQ):ME:=λρ=>(mi ρ).bind λa=>(mk ρ).bind λb=>match a,b,ρ[j]? with
 | .int n,.int m,some (.tre (.lst cs))=>(atI cs n).bind λc=>match c with
  | .l ds=>(atI ds m).map λd=>(d,ρ)
  |_=>none
 |_,_,_=>none
def Yp (j:Nat)(mi mk:MQ)(me:ME):MS:=λρ=>(me ρ).bind λp=>(mi p.2).bind λa=>(mk p.2).bind λb=>match a,b,p.2[j]? with
 | .int n,.int m,some (.tre (.lst cs))=>(eU cs.length n).bind λu=>match cs[u]? with
  |some (.l ds)=>(eU ds.length m).bind λw=>some (.next,p.2.set j (.tre (.lst (cs.set u (.l (ds.set w p.1))))))
  |_=>none
 |_,_,_=>none
def fzT (j:Nat)(ρ:R):R:=match ρ[j]? with
 |some (.tre (.lst cs))=>ρ.set j (.val (.lst (cs.map Ch.D)))
 |_=>ρ
def mW (j:Nat)(m:MS):MS:=λρ=>m (fzT j ρ)
section
variable {X:Cx}{x y:Str}{pos p' q' tpos:Pos}
variable {e:AI}{es:AA AI}{ma:MA}{k k' n:Nat}{F:AA D->AB Sl}
theorem SI.fzT {K:AF}{B:Bs}{G H:Hp}{σ:St}{ρ:R}(I:SI K B G H σ ρ)(j:Nat):∃G',SI K B G' H σ (fzT j ρ)/\Fz G G':=by
 unfold M.fzT
 split
 ·rename_i cs e;obtain⟨v,A,h1,h2,h3,h4⟩:=I.slot j _ e;have h2':=h2;obtain⟨p,xs,A',rfl,g1,g2,rfl⟩:=h2;have I1:=I.emp j;have hA:∀a∈p::A',G a=none/\B.H a=none/\Nw K G H σ (ρ.set j .emp) a:=λa m=>⟨(h4 a m).1,(h4 a m).2,Ua I e ⟨_,_,h1,h2',m⟩⟩
  have fg:=znY (H:=H) λa m=>(hA a m).1
  have I2:=(I1.frzA hA).set (i:=j) (v:= .ref p) (d:= .lst (cs.map Ch.D)) ⟨p,xs,rfl,by rw[tJ (by simp)];exact g1,zit fg g2 λa m=>tJ (by simp[m])⟩;rw[pA h1,List.set_set]at I2;exact⟨_,I2,fg⟩
 ·exact⟨G,I,Fz.refl G⟩
theorem zpr {st:Stmt}{m:MS}(j:Nat)(h:SS X st m):SS X st (mW j m):=by
 refine h.el λt p s=>?_
 refine⟨t,p,λB G H σ ρ fl ρ' E I hm k=>?_⟩;obtain⟨G',I',f⟩:=I.fzT j;exact s B G' H σ _ fl ρ' E I' hm (k.mono f)
theorem xO (j:Nat)(ml:X.mg "len"=none)(hN:X.N[j]? =some x:=by rfl)(hv:dJ X.env.scope x:=by trivial)(hd:(x==("__debug__":Str))=false:=by decide)(hcd:(x==("__classdict__":Str))=false:=by decide)(hg:Gl X "len":=by rfl)(he:starEach [.Name x p'] X.env=(false,eval (.Name x p') X.env)::starEach [] X.env:=by rfl):SE X (.Call (.Name "len" q') [.Name x p'] [] pos) (Yt j):=by
 refine⟨_,zis zfs hg ml PySem.boot_len (jJ (eB hN hv hd hcd) mS he) (by decide) (by decide) he rfl,λB G H σ ρ d ρ' Q I hm k=>?_⟩;unfold Yt at hm
 split at hm
 ·rename_i cs e;exists bK hm;obtain⟨v,A,h1,⟨p,xs,A',rfl,g1,g2,rfl⟩,h3,h4⟩:=I.slot j _ e;refine⟨.ref p,h1,p,xs,rfl,.inl (SqL.of g1),?_⟩;rw[Dn g2];exact k G H _ I (Fz.refl G) rfl
 ·exact aI hm
theorem vD {i:Int}{j}:SQ X (.Constant (.int i) j pos) (qC (.int i)):=⟨_,Ue,λB G H σ ρ d Q I hm k=>by cases hm;exact k _ rfl⟩
theorem tM (i:Nat)(hN:X.N[i]? =some x:=by rfl)(hv:dJ X.env.scope x:=by trivial)(hd:(x==("__debug__":Str))=false:=by decide)(hcd:(x==("__classdict__":Str))=false:=by decide):SQ X (.Name x pos) (qV i):=by
 refine⟨_,eB hN hv hd hcd,λB G H σ ρ d Q I hm k=>?_⟩;unfold qV at hm
 split at hm
 ·rename_i d' e;cases hm;obtain⟨v,h1,h2⟩:=I.slot i _ e;exact⟨v,h1,k v h2⟩
 ·exact aI hm
theorem Mq {α:Type}{xs:AA α}{n:Int}{c:α}(h:atI xs n=some c):∃u,eU xs.length n=some u/\xs[u]? =some c:=by
 unfold atI at h;refine aP h λu h1 h2=>?_
 exact⟨u,h1,h2⟩
theorem zpX {α:Type}{xs:AA α}{n:Int}{c:α}{u:Nat}(h:eU xs.length n=some u)(h2:xs[u]? =some c):atI xs n=some c:=by
 unfold atI;rw[h];exact h2
variable {a b:AI}{mi mk:MQ}
theorem Hj (j:Nat)(ha:SQ X a mi)(hb:SQ X b mk)(hN:X.N[j]? =some x:=by rfl)(hv:dJ X.env.scope x:=by trivial)(hd:(x==("__debug__":Str))=false:=by decide)(hcd:(x==("__classdict__":Str))=false:=by decide)(hs:wF a:=by exactλ_ _=>rfl)(hs2:wF b:=by exactλ_ _=>rfl):SE X (.Subscript (.Subscript (.Name x p') a q') b pos) (xD j mi mk):=by
  refine ha.el λta pa sa=>?_
  refine hb.el λtb pb sb=>?_
  refine⟨_,Mn ix_list (Mn ix_list (eB hN hv hd hcd) pa hs) pb hs2,λB G H σ ρ d ρ' Q I hm k=>?_⟩;refine aP hm λva e1 hm=>?_
  refine aP hm λvb e2 hm=>?_
  obtain⟨n,rfl⟩:∃n,va= .int n:=by cases va<;>first|exact⟨_,rfl⟩|exact aI hm
  obtain⟨m,rfl⟩:∃m,vb= .int m:=by cases vb<;>first|exact⟨_,rfl⟩|exact aI hm
  obtain⟨cs,e⟩:∃cs,ρ[j]? =some (.tre (.lst cs)):=by
    cases e:ρ[j]? with
    |none=>rw[e]at hm;exact aI hm
    |some s=>
      rw[e]at hm;cases s with
      |tre t=>cases t with
        |lst cs=>exact⟨cs,rfl⟩
        |_=>exact aI hm
      |_=>exact aI hm
  rw[e]at hm;refine aP hm λc e3 hm=>?_
  obtain⟨ds,rfl⟩:∃ds,c= .l ds:=by cases c<;>first|exact⟨_,rfl⟩|exact aI hm
  refine bQ hm λd' e4 e5=>?_
  cases e5;obtain⟨v,A,h1,⟨p,xs,A',rfl,g1,g2,rfl⟩,h3,h4⟩:=I.slot j _ e;obtain⟨u,i1,i2⟩:=Mq e3;obtain⟨y,A1,j1,⟨l,ys,rfl,j2,j3,-⟩,-⟩:=Zb g2 i2;obtain⟨w,k1,k2⟩:=j3.at e4;refine⟨.ref p,h1,sa B G H σ ρ _ _ I e1 λv1 r1=>?_⟩;refine⟨p,xs,n,.ref l,rfl,r1,SqL.of g1,zpX (by rw[Dn g2];exact i1) j1,sb B G H σ ρ _ _ I e2 λv2 r2=>?_⟩;exact⟨l,ys,m,w,rfl,r2,SqL.of j2,k1,k G H w I (Fz.refl G) k2⟩
theorem zrb (j:Nat){me:ME}(he:SE X e me)(ha:SQ X a mi)(hb:SQ X b mk)(hN:X.N[j]? =some x:=by rfl)(hv:dJ X.env.scope x:=by trivial)(hd:(x==("__debug__":Str))=false:=by decide)(hcd:(x==("__classdict__":Str))=false:=by decide)(hsa:wF a:=by exactλ_ _=>rfl)(hq : ∀ v, assign (.Subscript (.Subscript (.Name x p') a q') b tpos) X.env v = (do
   let ov<-holding [v] (eval (.Subscript (.Name x p') a q') X.env)
   let iv<-holding [v,ov] (eval b X.env)
   standAt tpos
   holding [v,ov,iv] (setItem ov iv v)
   release [v,ov,iv] []):=by exactλ_=>rfl)(hs:swapsWithSole [.Subscript (.Subscript (.Name x p') a q') b tpos] e pos.line X.env=pure false:=by rfl)(hw:swappedStores [.Subscript (.Subscript (.Name x p') a q') b tpos] e X.env=pure none:=by rfl)(h1:(assignEach [.Subscript (.Subscript (.Name x p') a q') b tpos] X.env).map (·.2)=[assign (.Subscript (.Subscript (.Name x p') a q') b tpos) X.env]:=by rfl):SS X (.Assign [.Subscript (.Subscript (.Name x p') a q') b tpos] e pos) (Yp j mi mk me):=by
 refine he.el λt p s=>?_
 refine ha.el λta pa sa=>?_
 refine hb.el λtb pb sb=>?_
 refine⟨_,Er p (Sm (Mn ix_list (eB hN hv hd hcd) pa hsa) pb Qe hq) hs hw h1,λB G H σ ρ fl ρ' E I hm k=>?_⟩;refine bD hm λd ρ1 e1 hm=>?_
 refine aP hm λva e2 hm=>?_
 refine aP hm λvb e3 hm=>?_
 refine s B G H σ ρ d ρ1 _ I e1 λG1 H1 v I1 f1 r1=>?_
 dsimp only at hm e2 e3;obtain⟨n,rfl⟩:∃n,va= .int n:=by cases va<;>first|exact⟨_,rfl⟩|exact aI hm
 obtain⟨m,rfl⟩:∃m,vb= .int m:=by cases vb<;>first|exact⟨_,rfl⟩|exact aI hm
 obtain⟨cs,e4⟩:∃cs,ρ1[j]? =some (.tre (.lst cs)):=by
  cases e:ρ1[j]? with
  |none=>rw[e]at hm;exact aI hm
  |some s=>
   rw[e]at hm;cases s with
   |tre t=>cases t with
    |lst cs=>exact⟨cs,rfl⟩
    |_=>exact aI hm
   |_=>exact aI hm
 rw[e4]at hm;refine aP hm λu e5 hm=>?_
 obtain⟨ds,e6⟩:∃ds,cs[u]? =some (.l ds):=by
  cases e:cs[u]? with
  |none=>rw[e]at hm;exact aI hm
  |some c=>
   rw[e]at hm;cases c with
   |l ds=>exact⟨ds,rfl⟩
   |_=>exact aI hm
 rw[e6]at hm;refine aP hm λw e7 hm=>?_
 exists bK hm;obtain⟨v0,A,q1,q2,q3,q4⟩:=I1.slot j _ e4;have q2':=q2;obtain⟨p,xs,A',rfl,g1,g2,rfl⟩:=q2;obtain⟨y,A1,j1,⟨l,ys,rfl,j2,j3,j4⟩,j5⟩:=Zb g2 e6;have lA:l∈A':=j5 l (by rw[j4];simp);have nd:=qa0.mp q3;refine⟨.ref p,q1,sa B G1 H1 σ ρ1 _ _ I1 e2 λv1 w1=>?_⟩;refine⟨p,xs,n,.ref l,rfl,w1,SqL.of g1,zpX (by rw[Dn g2];exact e5) j1,sb B G1 H1 σ ρ1 _ _ I1 e3 λv2 w2=>?_⟩;refine⟨l,ys,m,w,rfl,w2,j2,by rw[j3.length];exact e7,?_⟩;have rep:RepT X.K G1 (upd H1 l (.lst (ys.set w v))) (.ref p) (.lst (cs.set u (.l (ds.set w d)))) (p::A'):=
  ⟨p,xs,A',rfl,by rw[aV λz=>nd.1 (by rw[z];exact lA)];exact g1,zlB g2 nd.2 e6 j1 (j3.set w r1),rfl⟩
 refine k G1 _ σ (I1.chT2 e4 q1 q2' (I1.fz.right (q4 l (by simp[lA])).1 _) (λb o nb h=>by rw[aV (λz=>nb (by rw[z];simp[lA]))];exact h) (λb h=>?_) rep q3 λa m=> .inl m) f1
 by_cases z:b=l
 ·subst z;rw[cT]at h;cases h
 ·rw[aV z]at h;exact h
def oH (i j:Nat)(ma:MA):MS:=λρ=>(ma ρ).bind λp=>match p.1 with
 |[c,d]=>some (.next,(p.2.set i (.val c)).set j (.val d))
 |_=>none
theorem zqm (i j:Nat){kt k2:Nat}{pt pt2:Pos}(hij:i≠j)(hc:X.calm=true)(ha:SA X [a,b] ma)(hN:X.N.Nodup)(hi:X.N[i]? =some x:=by rfl)(hj:X.N[j]? =some y:=by rfl)(hx:X.env.scope.names.lookup x=some .local:=by rfl)(hy:X.env.scope.names.lookup y=some .local:=by rfl)(hw:swappedStores [.Tuple [.Name x p',.Name y q'] kt pt] (.Tuple [a,b] k2 pt2) X.env=pure (some [x,y]):=by rfl)(hs:swapsWithSole [.Tuple [.Name x p',.Name y q'] kt pt] (.Tuple [a,b] k2 pt2) pos.line X.env=pure false:=by rfl):
  SS X (.Assign [.Tuple [.Name x p',.Name y q'] kt pt] (.Tuple [a,b] k2 pt2) pos) (oH i j ma):=by
 refine ha.el λt pa sa=>?_
 refine⟨_,Kw hc hN hi hj hij hx hy pa hw hs,λB G H σ ρ fl ρ' E I hm k=>?_⟩;refine bD hm λas ρ1 e1 hm=>?_
 refine sa B G H σ ρ as ρ1 _ I e1 λG1 H1 vs I1 f1 r1=>?_
 dsimp only at hm
 split at hm
 ·rename_i c d;exists bK hm;obtain⟨v,w,rfl,rv,rw'⟩:=r1.two;exact⟨v,w,rfl,k G1 H1 _ ((I1.set rv).set rw') f1⟩
 ·exact aI hm
end
end M
namespace M
local macro_rules | `(tactic| ac_rfl) => `(tactic| first | exact M.nA (by decide) | exact M.nB (by decide) | exact M.nC (by decide) | exact M.nL (by assumption) | exact Nat.ne_of_lt (by assumption) | lia)
open L2 PySem PySem.Spec
open PyProof.Rows hiding St
open Sem (wp)
variable {a b u:AC}{Q E:AC->AE->Prop}{i:Nat}{prog:AJ}{w:World}{A:Around}{s:AE}{tg:AI}{K:AF}{X:Cx}{p pos:Pos}
abbrev lK (h:AK)(z TI TO:AD)(f0:AC)(b:Bool):Prop:=h.get? z=some {cls:= .type "zip",data:= .fields #[f0,.bool b,.bool false,.ref TI,.ref TO]}
def ZipAt (h:AK)(z TI TO:AD):Prop:=∃f0 b,lK h z TI TO f0 b/\(f0= .none\/∃T:Nat,f0=rawInt T)
section
variable {prog:AJ}{w:World}{A:Around}{E:AC->AE->Prop}{s:AE}
theorem zqj {a:AD}{Q:AB Obj->AE->Prop}(h:Q (s.heap.get? a) s):AG (model prog w) A (loadIfAlive a) Q E s:=λΓ p hΓ=>by
 show Sem.wp _ _ (Sem.loadIfAlive a Sem.pure) _ _ p s;rw[Sem.wp_loadIfAlive];exact(qaB (M:=model prog w) (A:=A) (E:=E) h) Γ p hΓ
theorem zq4 {z TI TO:AD}{f0:AC}{b:Bool}(hz:lK s.heap z TI TO f0 b)(hf:f0= .none\/∃T:Nat,f0=rawInt T){Q:Bool->AE->Prop}(h1:Q true s)(h2:∀h',lK h' z TI TO f0 true->Heap.SameBut z s.heap h'->Q false {s with heap:=h'}):AG (model prog w) A (Builtin.SmallTypes.ownedTupleIsFree (.ref z)) Q E s:=by
 unfold Builtin.SmallTypes.ownedTupleIsFree;refine aH (iD hz rfl (x:=f0) rfl ?_);rcases hf with rfl|⟨T,rfl⟩
 ·exact qaB h1
 ·refine(?_:AG _ _ (loadIfAlive _>>=_) _ _ _);refine aH (zqj ?_);cases e:s.heap.get? (T:Int).toNat with
  |none=>exact qaB h1
  |some o=>
   refine(?_:AG _ _ (field (.ref z) 1>>=_) _ _ _);refine aH (iD hz rfl (x:= .bool b) rfl ?_);cases b
   ·refine(?_:AG _ _ (setField (.ref z) 1 (.bool true)>>=_) _ _ _);exact aH (Da hz (by simp) λg1 z1 s1=>qaB (h2 g1 z1 s1))
   ·exact qaB (h2 s.heap hz ⟨rfl,λ_ _=>rfl⟩)
variable {N a1 a2:Nat}{n1 n2:Nat}{P1 P2:Nat->AC->Prop}{S1 S2:Nat->AK->Prop}
theorem zor (D1:Draws prog w A N [N,a1] n1 P1 S1)(D2:Draws prog w A (N+1) [N+1,a2] n2 P2 S2)(l1:a1<N)(l2:a2<N)(hz':ZipAt s.heap (N+4) (N+2) (N+3))(hTI:IsPair s.heap (N+2) (.ref N) (.ref (N+1)))(hTO:IsPair s.heap (N+3) a b)(h1:S1 i s.heap)(h2:S2 i s.heap)(i1:i<n1)(i2:i<n2)(k : ∀ x y h' tk, P1 i x -> P2 i y -> ZipAt h' (N + 4) (N + 2) (N + 3) -> (∃ a b, IsPair h' (N + 3) a b) -> S1 (i + 1) h' -> S2 (i + 1) h' -> IsPair h' s⁻¹ x y ->
   (∀c o,c≠N->c≠N+1->c≠N+3->c≠N+4->s.heap.get? c=some o->h'.get? c=some o)->Q (.ref s⁻¹) {s with heap:=h',toks:=tk}):
  AG (model prog w) A (Builtin.«zip.__next__» ⟨[.ref (N+4)],[]⟩) (λfin s'=>∃v,fin= .done (.ret v)/\Q v s') E s:=by
 obtain⟨f0,bb,hz,hf⟩:=hz';refine(?_:AG _ _ (field (.ref (N+4)) 2>>=_) _ _ _);refine aH (iD hz rfl (x:= .bool false) rfl (?_:AG _ _ (field (.ref (N+4)) 3>>=_) _ _ _));refine aH (iD hz rfl (x:= .ref (N+2)) rfl (aH (kR hTI rfl (?_:AG _ _ (Builtin.SmallTypes.ownedTupleIsFree (.ref (N+4))>>=_) _ _ _))));refine aH (zq4 hz hf ?_ λg0 z0 s0=>?_)
 ·simp only[if_true];refine aH (Dq (aH (iD hz rfl (x:= .ref (N+3)) rfl (aH (Da hz (by simp) λg1 z1 s1=>aH ?_)))))
  replace z1:lK g1 (N+4) (N+2) (N+3) .ellipsis bb:=z1
  simp only[List.zipIdx_cons,List.zipIdx_nil,Qz,Tg];refine aH (aH (qcO (?_:AG _ _ (Builtin.SmallTypes.nextOf (.ref N)>>=_) _ _ _)));have e1:S1 i g1:=D1.frame _ _ _ h1 λb hb o e=>(s1.2 b (bW hb (by ac_rfl) (by ac_rfl))).trans e
  refine aH (D1.item i _ _ _ i1 e1 λx g2 t2 p1 f2 s2=>qaB ?_);have q2:IsPair g2 (N+3) a b:=(s2.2 _ (cH (by ac_rfl))).trans ((s1.2 _ (cH (by ac_rfl))).trans hTO);refine aH (kR q2 rfl (aH (qcP q2 λg3 q3 s3=>aH (zW (qaB ?_)))))
  replace q3:IsPair g3 (N+3) x b:=q3
  refine aH (aH (qcO (?_:AG _ _ (Builtin.SmallTypes.nextOf (.ref (N+1))>>=_) _ _ _)));have e3:S2 i g3:=D2.frame _ _ _ h2 λb hb o e=>(s3.2 b (bW hb (by ac_rfl) (by ac_rfl))).trans ((s2.2 b (bW hb (by ac_rfl) (by ac_rfl))).trans ((s1.2 b (bW hb (by ac_rfl) (by ac_rfl))).trans e))
  refine aH (D2.item i _ _ _ i2 e3 λy g4 t4 p2 f4 s4=>qaB ?_);have q4:IsPair g4 (N+3) x b:=(s4.2 _ (cH (by ac_rfl))).trans q3;refine aH (kR q4 rfl (aH (qcP q4 λg5 q5 s5=>aH (zW (qaB (qaB ?_))))))
  replace q5:IsPair g5 (N+3) x y:=q5
  have sz:g5.objs.size=s⁻¹:=by rw[s5.1,s4.1,s3.1,s2.1,s1.1]
  have z5:lK g5 (N+4) (N+2) (N+3) .ellipsis bb:=(s5.2 _ (cH (by ac_rfl))).trans ((s4.2 _ (cH (by ac_rfl))).trans ((s3.2 _ (cH (by ac_rfl))).trans ((s2.2 _ (cH (by ac_rfl))).trans z1)));have zl:(N+4:Nat)<g5.objs.size:=cM z5;have k5:∀c o,c≠N->c≠N+1->c≠N+3->c≠N+4->s.heap.get? c=some o->g5.get? c=some o:=λc o c1 c2 c3 c4 e=>(s5.2 c c3).trans ((s4.2 c c2).trans ((s3.2 c c3).trans ((s2.2 c c1).trans ((s1.2 c c4).trans e))))
  have f5:S1 (i+1) g5:=D1.frame _ _ _ f2 λb hb o e=>(s5.2 b (bW hb (by ac_rfl) (by ac_rfl))).trans ((s4.2 b (bW hb (by ac_rfl) (by ac_rfl))).trans ((s3.2 b (bW hb (by ac_rfl) (by ac_rfl))).trans e))
  have f5':S2 (i+1) g5:=D2.frame _ _ _ f4 λb hb o e=>(s5.2 b (bW hb (by ac_rfl) (by ac_rfl))).trans e
  refine aH (kR q5 rfl (aH (wpAny_newTuple (?_:AG _ _ (Builtin.SmallTypes.ownedTupleHandOut (.ref (N+4)) (.ref g5.objs.size)>>=_) _ _ _))));refine aH ?_;unfold Builtin.SmallTypes.ownedTupleHandOut;refine aH (Da (show lK (g5.push {cls:= .type "tuple",data:= .seq #[x,y]}) (N+4) (N+2) (N+3) .ellipsis bb from bP _ z5) (by simp) λg7 z7 s7=>?_)
  replace z7:lK g7 (N+4) (N+2) (N+3) (rawInt g5.objs.size) bb:=z7
  refine Da z7 (by simp) λg8 z8 s8=>qaB ⟨_,rfl,?_⟩
  replace z8:lK g8 (N+4) (N+2) (N+3) (rawInt g5.objs.size) false:=z8
  have up:∀c o,c≠N+4->g5.get? c=some o->g8.get? c=some o:=λc o c1 e=>(s8.2 c c1).trans ((s7.2 c c1).trans (bP _ e))
  have T8:IsPair g8 g5.objs.size x y:=(s8.2 _ (cH (by ac_rfl))).trans ((s7.2 _ (cH (by ac_rfl))).trans (eN _ rfl));rw[sz]at z8 T8;refine(?_:Q (.ref g5.objs.size) _);rw[sz];exact k x y g8 _ p1 p2 ⟨_,_,z8,.inr ⟨_,rfl⟩⟩ ⟨_,_,up _ _ (cH (by ac_rfl)) q5⟩ (D1.frame _ _ _ f5 λb hb o e=>up b o (bW hb (by ac_rfl) (by ac_rfl)) e) (D2.frame _ _ _ f5' λb hb o e=>up b o (bW hb (by ac_rfl) (by ac_rfl)) e) T8 λc o c1 c2 c3 c4 e=>up c o c4 (k5 c o c1 c2 c3 c4 e)
 ·simp only[lJ,cX];simp only[List.forIn_toArray,Qz,Tg];have e0:S1 i g0:=D1.frame _ _ _ h1 λb hb o e=>(s0.2 b (bW hb (by ac_rfl) (by ac_rfl))).trans e
  refine aH (aH (aH (fV (?_:AG _ _ (Builtin.SmallTypes.nextOf (.ref N)>>=_) _ _ _))));refine aH (D1.item i _ _ _ i1 e0 λx g2 t2 p1 f2 s2=>qaB (qaB ?_));refine aH (aH (fV (?_:AG _ _ (Builtin.SmallTypes.nextOf (.ref (N+1))>>=_) _ _ _)));have e3:S2 i g2:=D2.frame _ _ _ h2 λb hb o e=>(s2.2 b (bW hb (by ac_rfl) (by ac_rfl))).trans ((s0.2 b (bW hb (by ac_rfl) (by ac_rfl))).trans e)
  refine aH (D2.item i _ _ _ i2 e3 λy g4 t4 p2 f4 s4=>qaB (qaB (qaB ?_)));have sz:g4.objs.size=s⁻¹:=by rw[s4.1,s2.1,s0.1]
  have z4:lK g4 (N+4) (N+2) (N+3) f0 true:=(s4.2 _ (cH (by ac_rfl))).trans ((s2.2 _ (cH (by ac_rfl))).trans z0);have f4':S1 (i+1) g4:=D1.frame _ _ _ f2 λb hb o e=>(s4.2 b (bW hb (by ac_rfl) (by ac_rfl))).trans e
  refine(?_:AG _ _ (newTuple [x,y]>>=_) _ _ _);refine aH (wpAny_newTuple (qaB ⟨_,rfl,?_⟩));have k5:∀c o,c≠N->c≠N+1->c≠N+3->c≠N+4->s.heap.get? c=some o->g4.get? c=some o:=λc o c1 c2 c3 c4 e=>(s4.2 c c2).trans ((s2.2 c c1).trans ((s0.2 c c4).trans e))
  have q4:IsPair g4 (N+3) a b:=(s4.2 _ (cH (by ac_rfl))).trans ((s2.2 _ (cH (by ac_rfl))).trans ((s0.2 _ (cH (by ac_rfl))).trans hTO));have T8:IsPair (g4.push {cls:= .type "tuple",data:= .seq #[x,y]}) g4.objs.size x y:=eN _ rfl;rw[sz]at T8;refine(?_:Q (.ref g4.objs.size) _);rw[sz];exact k x y _ _ p1 p2 ⟨_,_,bP _ z4,hf⟩ ⟨_,_,bP _ q4⟩ (D1.frame _ _ _ f4' λb hb o e=>bP _ e) (D2.frame _ _ _ f4 λb hb o e=>bP _ e) T8 λc o c1 c2 c3 c4 e=>bP _ (k5 c o c1 c2 c3 c4 e)
theorem zpa {Q:Fin->AE->Prop}(D1:Draws prog w A N [N,a1] n1 P1 S1)(D2:Draws prog w A (N+1) [N+1,a2] n2 P2 S2)(l1:a1<N)(l2:a2<N)(hz':ZipAt s.heap (N+4) (N+2) (N+3))(hTI:IsPair s.heap (N+2) (.ref N) (.ref (N+1)))(hTO:IsPair s.heap (N+3) a b)(h1:S1 i s.heap)(h2:S2 i s.heap)(hi:i=n1\/(i<n1/\i=n2))(k:∀h' e tk,(∀c o,c≠N->c≠N+1->c≠N+3->c≠N+4->s.heap.get? c=some o->h'.get? c=some o)->(∃o,h'.get? e=some o/\o.cls= .type "StopIteration")->E (.ref e) {s with heap:=h',toks:=tk}):
  AG (model prog w) A (Builtin.«zip.__next__» ⟨[.ref (N+4)],[]⟩) Q E s:=by
 obtain⟨f0,bb,hz,hf⟩:=hz';refine(?_:AG _ _ (field (.ref (N+4)) 2>>=_) _ _ _);refine aH (iD hz rfl (x:= .bool false) rfl (?_:AG _ _ (field (.ref (N+4)) 3>>=_) _ _ _));refine aH (iD hz rfl (x:= .ref (N+2)) rfl (aH (kR hTI rfl (?_:AG _ _ (Builtin.SmallTypes.ownedTupleIsFree (.ref (N+4))>>=_) _ _ _))));refine aH (zq4 hz hf ?_ λg0 z0 s0=>?_)
 ·simp only[if_true];refine aH (Dq (aH (iD hz rfl (x:= .ref (N+3)) rfl (aH (Da hz (by simp) λg1 z1 s1=>aH ?_)))))
  replace z1:lK g1 (N+4) (N+2) (N+3) .ellipsis bb:=z1
  simp only[List.zipIdx_cons,List.zipIdx_nil,Qz,Tg];refine aH (aH (qcO (?_:AG _ _ (Builtin.SmallTypes.nextOf (.ref N)>>=_) _ _ _)));have e1:S1 i g1:=D1.frame _ _ _ h1 λb hb o e=>(s1.2 b (bW hb (by ac_rfl) (by ac_rfl))).trans e
  rcases hi with rfl|⟨i1,rfl⟩
  ·refine aH (D1.done _ _ _ e1 λg2 e x2 he=>?_);obtain⟨oe,hoe,hce⟩:=he;have z2:lK g2 (N+4) (N+2) (N+3) .ellipsis bb:=x2 _ _ (cH (by ac_rfl)) z1;have hez:e≠N+4:=λx=>by subst x;rw[z2]at hoe;cases hoe;simp at hce
   exact Da z2 (by simp) λg3 _ s3=>k g3 e _ (λc o c1 c2 c3 c4 x=>(s3.2 c c4).trans (x2 c o c1 ((s1.2 c c4).trans x))) ⟨oe,(s3.2 _ hez).trans hoe,hce⟩
  ·refine aH (D1.item i _ _ _ i1 e1 λx g2 t2 p1 f2 s2=>qaB ?_);have q2:IsPair g2 (N+3) a b:=(s2.2 _ (cH (by ac_rfl))).trans ((s1.2 _ (cH (by ac_rfl))).trans hTO);refine aH (kR q2 rfl (aH (qcP q2 λg3 q3 s3=>aH (zW (qaB ?_)))))
   replace q3:IsPair g3 (N+3) x b:=q3
   refine aH (aH (qcO (?_:AG _ _ (Builtin.SmallTypes.nextOf (.ref (N+1))>>=_) _ _ _)));have e3:S2 i g3:=D2.frame _ _ _ h2 λb hb o e=>(s3.2 b (bW hb (by ac_rfl) (by ac_rfl))).trans ((s2.2 b (bW hb (by ac_rfl) (by ac_rfl))).trans ((s1.2 b (bW hb (by ac_rfl) (by ac_rfl))).trans e))
   refine aH (D2.done _ _ _ e3 λg4 e x4 he=>?_);obtain⟨oe,hoe,hce⟩:=he;have z3:lK g3 (N+4) (N+2) (N+3) .ellipsis bb:=(s3.2 _ (cH (by ac_rfl))).trans ((s2.2 _ (cH (by ac_rfl))).trans z1);have z4:lK g4 (N+4) (N+2) (N+3) .ellipsis bb:=x4 _ _ (cH (by ac_rfl)) z3;have hez:e≠N+4:=λx=>by subst x;rw[z4]at hoe;cases hoe;simp at hce
   exact Da z4 (by simp) λg5 _ s5=>k g5 e _ (λc o c1 c2 c3 c4 x=>(s5.2 c c4).trans (x4 c o c2 ((s3.2 c c3).trans ((s2.2 c c1).trans ((s1.2 c c4).trans x))))) ⟨oe,(s5.2 _ hez).trans hoe,hce⟩
 ·simp only[lJ,cX,List.forIn_toArray,Qz,Tg];have e0:S1 i g0:=D1.frame _ _ _ h1 λb hb o e=>(s0.2 b (bW hb (by ac_rfl) (by ac_rfl))).trans e
  refine aH (aH (aH (fV (?_:AG _ _ (Builtin.SmallTypes.nextOf (.ref N)>>=_) _ _ _))));rcases hi with rfl|⟨i1,rfl⟩
  ·refine aH (D1.done _ _ _ e0 λg2 e x2 he=>?_);exact k g2 e _ (λc o c1 c2 c3 c4 x=>x2 c o c1 ((s0.2 c c4).trans x)) he
  ·refine aH (D1.item i _ _ _ i1 e0 λx g2 t2 p1 f2 s2=>qaB (qaB ?_));refine aH (aH (fV (?_:AG _ _ (Builtin.SmallTypes.nextOf (.ref (N+1))>>=_) _ _ _)));have e3:S2 i g2:=D2.frame _ _ _ h2 λb hb o e=>(s2.2 b (bW hb (by ac_rfl) (by ac_rfl))).trans ((s0.2 b (bW hb (by ac_rfl) (by ac_rfl))).trans e)
   refine aH (D2.done _ _ _ e3 λg4 e x4 he=>?_);exact k g4 e _ (λc o c1 c2 c3 c4 x=>x4 c o c2 ((s2.2 c c1).trans ((s0.2 c c4).trans x))) he
end
theorem ZipAt.at {h h':AK}{z TI TO:AD}(x:ZipAt h z TI TO)(e:∀o,h.get? z=some o->h'.get? z=some o):ZipAt h' z TI TO:=by
 obtain⟨f0,b,q,r⟩:=x;exact⟨f0,b,e _ q,r⟩
theorem zmX {z TI TO:AD}(hz:ZipAt s.heap z TI TO)(h:Q (.ref z) s):AG (model prog w) A (pyIter (.ref z)) Q E s:=by
 obtain⟨f0,b,q,r⟩:=hz;have hT:s.TypeIs (.ref z) "zip":=⟨_,q,rfl⟩;exact wpAny_pyIter_slot hT F.slot_zip_iter (oO F.slot_zip_iter hT F.entry_zip_iter (qaB ⟨.ref z,rfl,"zip",.builtin "zip.__next__",hT,F.slot_zip_next.lookup,h⟩) (F.args_zip_iter_1 (.ref z)))
theorem Iq {z TI TO:AD}{Q:Unit->AE->Prop}(hz:ZipAt s.heap z TI TO)(h1:Q () s)(h2:∀h',ZipAt h' z TI TO->Heap.SameBut z s.heap h'->Q () {s with heap:=h'}):AG (model prog w) A (letOwnedTupleGo tg (.ref z) u) Q E s:=by
 obtain⟨f0,b,q,r⟩:=hz;have core:∀a:AD,AG (model prog w) A (do
   let o<-load z
   match o.cls,o.data with
    |Value.type n,Data.fields vs=>
     if(["enumerate","zip","dict_itemiterator","dict_reverseitemiterator","odict_iterator","itertools.zip_longest","itertools.pairwise"].contains n&&vs[0]? ==some (rawInt ↑a))=true then do
      rule "for.unpacks-the-owned-tuple"
      updateField z 0 Value.none
     else pure ()
    |x,x_1=>pure ()) Q E s:=λa=>by
  refine aH (wpAny_load q ?_);dsimp only
  split
  ·refine aH (Dq ?_);refine(?_:AG _ _ (setField (.ref z) 0 .none) _ _ _);exact Da q (by simp) λg1 z1 s1=>h2 g1 ⟨_,_,z1,.inl rfl⟩ s1
  ·exact qaB h1
 unfold letOwnedTupleGo;cases tg<;>first|exact qaB h1|(cases u<;>first|exact qaB h1|exact core _)
theorem zoO {P:AJ}{w:World}(t1:Bool)(a1:Nat)(t2:Bool)(a2:Nat)(n N:Nat)(l1:a1<N)(l2:a2<N):
  Turn P w K tg (Ho K t1 a1 t2 a2 n) ([N,N+1,N+2,N+3,N+4]:AA Nat) (N+4:Nat)
   (λi h=>i<=n/\ZipAt h (N+4:Nat) (N+2:Nat) (N+3:Nat)/\IsPair h (N+2:Nat) (.ref N) (.ref (N+1:Nat))/\(∃a b,IsPair h (N+3:Nat) a b)/\SrcIt t1 h N a1 i/\SrcIt t2 h (N+1:Nat) a2 i) where
 mem:=by simp
 obj:=λi h st b hb=>by
  obtain⟨-,h4,h2,⟨a,c,h3⟩,h0,h1⟩:=st;simp only[qap,Od,or_false]at hb;rcases hb with rfl|rfl|rfl|rfl|rfl
  ·exact h0.obj
  ·exact h1.obj
  ·exact⟨_,h2,λv z=>by cases z⟩
  ·exact⟨_,h3,λv z=>by cases z⟩
  ·obtain⟨f0,bb,z4,-⟩:=h4;exact⟨_,z4,λv z=>by cases z⟩
 keep:=λi h h' st k=>by
  obtain⟨hi,h4,h2,⟨a,c,h3⟩,h0,h1⟩:=st;exact⟨hi,h4.at λo e=>k _ (by simp) o e,k _ (by simp) _ h2,⟨a,c,k _ (by simp) _ h3⟩,h0.at λo e=>k _ (by simp) o e,h1.at λo e=>k _ (by simp) o e⟩
 item:=by
  intro X hP hw hK hc i AM s σ H E I hf st hg;subst hP hw hK;obtain⟨hi,h4,h2,⟨a,c,h3⟩,h0,h1⟩:=st;obtain⟨hn,xs,ys,q1,q2,en⟩:=hg;obtain⟨us,ru,hu,zu⟩:=q1.heap I;obtain⟨ws,rw',hw',zw⟩:=q2.heap I;have lu:=ru.length;have lw:=rw'.length;have D1:=Og (prog:=X.prog) (w:=X.w) (A:=X.A.in1) (t:=t1) (I.ok.hd hc) N a1 (cH (by ac_rfl)) us.toArray;have D2:=Og (prog:=X.prog) (w:=X.w) (A:=X.A.in1) (t:=t2) (I.ok.hd hc) (N+1) a2 (cH (by ac_rfl)) ws.toArray;have z4:=h4;obtain⟨f0,bb,z4,-⟩:=z4;have hT:s.TypeIs (.ref (N+4:Nat)) "zip":=⟨_,z4,rfl⟩;unfold pyNext;refine aH (qcQ (Aw (name:=Str.ofString "__next__") hT qcR (oO qcR hT F.entry_zip_next
   (zor D1 D2 l1 l2 h4 h2 h3 ⟨h0,hu⟩ ⟨h1,hw'⟩ (by simp;lia) (by simp;lia) λx y h' tk p1 p2 g4 g3 g0 g1 gT kk=>qaB ?_) (F.args_zip_next_1 _))))
  obtain⟨x1,hx1⟩:∃x1,xs[i]? =some x1:=⟨xs[i]'∅,bI _⟩;obtain⟨x2,hx2⟩:∃x2,ys[i]? =some x2:=⟨ys[i]'∅,bI _⟩;obtain⟨u1,hu1,r1⟩:=ru.get hx1;obtain⟨u2,hu2,r2⟩:=rw'.get hx2;have e1:u1=x:=by
   have:us[i]? =some x:= ~~~p1
   rw[hu1]at this;cases this;rfl
  have e2:u2=y:=by
   have:ws[i]? =some y:= ~~~p2
   rw[hu2]at this;cases this;rfl
  subst e1 e2;refine⟨_,rfl,?_⟩;have fin:∀h'',ZipAt h'' (N+4:Nat) (N+2:Nat) (N+3:Nat)->Heap.SameBut (N+4:Nat) h' h''->∃x H',L2.Inv X AM σ H' {s with heap:=h'',toks:=tk}/\RelV x (.ref s⁻¹)/\(Ho X.K t1 a1 t2 a2 n).yld i H x H'/\(i+1<=n/\ZipAt h'' (N+4:Nat) (N+2:Nat) (N+3:Nat)/\IsPair h'' (N+2:Nat) (.ref N) (.ref (N+1:Nat))/\(∃a b,IsPair h'' (N+3:Nat) a b)/\SrcIt t1 h'' N a1 (i+1)/\SrcIt t2 h'' (N+1:Nat) a2 (i+1))/\∀b∈([N,N+1,N+2,N+3,N+4]:AA Nat),H' b=none:=λh'' z'' sb=>by
   have lz:N+4<s⁻¹:=cM z4;have kk':∀b o,b∉([N,N+1,N+2,N+3,N+4]:AA Nat)->s.heap.get? b=some o->h''.get? b=some o:=λb o hb e=>by
    obtain⟨c1,c2,c3,c4⟩:=Pr hb;exact(sb.2 b c4).trans (kk b o c1 c2 c3 c4 e)
   have I1:=zpV (t':=tk) (vs:=[x1,x2]) (its:=[u1,u2]) I kk' hf (λb hb=>by
    have:b=N\/b=N+1\/b=N+2\/b=N+3\/b=N+4:= ~~~hb
    exact tO (show(b:Nat)<=N+4 by rcases this with h|h|h|h|h<;>rw[h]<;>simp) lz) ((sb.2 _ (cH (by ac_rfl))).trans gT) (by simp;rw[gZ];decide) (.cons r1 (.cons r2 .nil))
   refine⟨.ref s⁻¹,_,I1,rfl,⟨_,x1,x2,I.hok.fresh (bC _),rfl,rfl,λxs' ys' b1 b2=>?_⟩,⟨hn,z'',(sb.2 _ (cH (by ac_rfl))).trans (kk _ _ (cH (by ac_rfl)) (cH (by ac_rfl)) (cH (by ac_rfl)) (cH (by ac_rfl)) h2),(let⟨a',b',e'⟩:=g3;⟨a',b',(sb.2 _ (cH (by ac_rfl))).trans e'⟩),SrcIt.at g0.1 λo e=>(sb.2 _ (cH (by ac_rfl))).trans e,SrcIt.at g1.1 λo e=>(sb.2 _ (cH (by ac_rfl))).trans e⟩,λb hb=>?_⟩
   ·rw[SrcSq.inj I b1 q1,SrcSq.inj I b2 q2];exact⟨hx1,hx2⟩
   ·have:b=N\/b=N+1\/b=N+2\/b=N+3\/b=N+4:= ~~~hb
    rw[aV (fY (tO (show(b:Nat)<=N+4 by rcases this with h|h|h|h|h<;>rw[h]<;>simp) lz))]
    exact(hf b hb).1
  exact Iq (s:={s with heap:=h',toks:=tk}) g4 (fin h' g4 ⟨rfl,λ_ _=>rfl⟩) λh'' z'' sb=>fin h'' z'' sb
 done:=by
  intro X hP hw hK hc i AM s σ H E I hf st hg;subst hP hw hK;obtain⟨hi,h4,h2,⟨a,c,h3⟩,h0,h1⟩:=st;obtain⟨hn,xs,ys,q1,q2,en⟩:=hg;obtain⟨us,ru,hu,zu⟩:=q1.heap I;obtain⟨ws,rw',hw',zw⟩:=q2.heap I;have lu:=ru.length;have lw:=rw'.length;have D1:=Og (prog:=X.prog) (w:=X.w) (A:=X.A.in1) (t:=t1) (I.ok.hd hc) N a1 (cH (by ac_rfl)) us.toArray;have D2:=Og (prog:=X.prog) (w:=X.w) (A:=X.A.in1) (t:=t2) (I.ok.hd hc) (N+1) a2 (cH (by ac_rfl)) ws.toArray;have z4:=h4;obtain⟨f0,bb,z4,-⟩:=z4;have hT:s.TypeIs (.ref (N+4:Nat)) "zip":=⟨_,z4,rfl⟩;unfold pyNext;refine aH (qcQ (Aw (name:=Str.ofString "__next__") hT qcR (oO qcR hT F.entry_zip_next
   (zpa D1 D2 l1 l2 h4 h2 h3 ⟨h0,hu⟩ ⟨h1,hw'⟩ (by simp;lia) λh' e tk kk he=>?_) (F.args_zip_next_1 _))))
  obtain⟨o,ho,hce⟩:=he;refine aH (wpAny_isInstance (T:="StopIteration") (b:=true) ⟨o,ho,hce⟩ isSubtype_stop (qaB ⟨rfl,zmC I (λb o hb e=>?_) hf⟩));obtain⟨c1,c2,c3,c4⟩:=Pr hb;exact kk b o c1 c2 c3 c4 e
 self:=λ_ _ _ _ _ st h=>zmX st.2.1 h
theorem mV {a b:AI}{ta:TA}(hg:Gl X "zip")(hm:X.mg "zip"=none)(ha:PA X [a,b] ta)(hs:starEach [a,b] X.env=(false,eval a X.env)::starEach [b] X.env:=by rfl)(hs2:(backTo pos (starEach [b] X.env)).any (·.1)=false:=by rfl):
  PI X tg (.Call (.Name "zip" p) [a,b] [] pos) (λσ H R=>ta σ H λvs H1=>∃t1 a1 xs t2 a2 ys,vs=[.ref a1,.ref a2]/\SrcSq t1 X.K H1 a1 xs/\SrcSq t2 X.K H1 a2 ys/\R (Ho X.K t1 a1 t2 a2 (min xs.length ys.length)) H1):=by
 intro AM s σ H R I h;refine Call_ (Oe I hg hm nW (Zm (aW (ha pos AM s σ H _ I h) λus s1 ⟨vs,H1,I1,r1,q1⟩=>?_) hs hs2));obtain⟨t1,a1,xs,t2,a2,ys,e,q1,q2,q⟩:=q1;subst e;cases r1 with
 |cons r rr=>
  cases rr with
  |cons r' rr=>
   cases rr;cases r;cases r';obtain⟨us,ru,hu,-⟩:=q1.heap I1;obtain⟨ws,rw',hw',-⟩:=q2.heap I1;refine zqT hu hw' λh' g4 g2 g3 g0 g1 kk=>wpAny_pyIter_zip g4 ⟨_,_,_,_,H1,rfl,I1.kept (t':=s1.toks) kk,zoO t1 a1 t2 a2 (min xs.length ys.length) s1⁻¹ hu.lt hw'.lt,⟨gR _,⟨_,_,g4,.inl rfl⟩,g2,⟨_,_,g3⟩,g0,g1⟩,λb hb=>?_,q⟩
   have:b=s1⁻¹\/b=s1⁻¹+1\/b=s1⁻¹+2\/b=s1⁻¹+3\/b=s1⁻¹+4:= ~~~hb
   have le:s1⁻¹<=b:=by rcases this with h|h|h|h|h<;>rw[h]<;>simp
   exact I1.fpOk le (I1.hok.fresh le)
theorem Vz {a b:AI}{ma:MA}(hm:X.mg "zip"=none)(ha:SA X [a,b] ma)(hg:Gl X "zip":=by rfl)(hs:starEach [a,b] X.env=(false,eval a X.env)::starEach [b] X.env:=by rfl)(hs2:(backTo pos (starEach [b] X.env)).any (·.1)=false:=by rfl):
  SIt X tg (.Call (.Name "zip" p) [a,b] [] pos) (Hk ma):=by
 refine ha.el λt pa sa=>?_
 refine⟨_,mV hg hm pa hs hs2,λB G H σ ρ ds ρ' Q I hm k=>?_⟩;refine bD hm λes ρ1 e1 h2=>?_
 dsimp only at h2;refine sa B G H σ ρ es ρ1 _ I e1 λG1 H1 vs I1 f1 r1=>?_
 split at h2
 ·refine aP h2 λxs ex h2=>?_
  refine aP h2 λys ey h2=>?_
  exists bK h2;obtain⟨x,y,rfl,rx,ry⟩:=r1.two;obtain⟨t1,a1,us,rfl,s1,c1⟩:=zqM rx ex;obtain⟨t2,a2,ws,rfl,s2,c2⟩:=zqM ry ey;have n1:=c1.length;have n2:=c2.length;refine⟨t1,a1,us,t2,a2,ws,rfl,s1 _ I1.fz,s2 _ I1.fz,k _ G1 H1 I1 f1 ⟨λH i f hi=>?_,λH i x H' f y d e=>?_,λH i f hi=>?_⟩⟩
  ·exact⟨by simp[Mh]at hi;lia,us,ws,s1 _ f,s2 _ f,rfl⟩
  ·obtain⟨p,x1,x2,hp,eh,ex',q⟩:=y;obtain⟨q1,q2⟩:=q us ws (s1 _ f) (s2 _ f);simp only[Mh,Vu]at e
   split at e
   ·rename_i d1 d2 g1 g2;cases e;obtain⟨v1,b1,r1⟩:=c1.get g1;obtain⟨v2,b2,r2⟩:=c2.get g2;rw[q1]at b1;cases b1;rw[q2]at b2;cases b2;exact .inr ⟨p,_,_,hp,eh,ex',rfl,⟨_,_,rfl,r1,_,_,rfl,r2,rfl⟩⟩
   ·exact aI e
  ·exact⟨by simp[Mh]at hi;lia,us,ws,s1 _ f,s2 _ f,rfl⟩
 ·exact aI h2
end M
namespace M
open L2 PySem PySem.Spec
open PyProof.Rows hiding St
theorem cF {l:AA Str}(h:decide l.Nodup=true:=by kernel_rfl):l.Nodup:=Ss h
theorem bJ {p:AA AC->Prop}(h:p []):∀us:AA AC,us.length=0->p us:=λus e=>by
 cases us with
 |nil=>exact h
 |cons=>cases e
theorem aN {p:AA AC->Prop}{n:Nat}(h:∀(a:AC) (us:AA AC),us.length=n->p (a::us)):∀us:AA AC,us.length=n+1->p us:=λus e=>by
 cases us with
 |nil=>cases e
 |cons a us=>exact h a us (Nat.succ.inj e)
section
variable {P:AJ}{w:World}{K:AF}{mg:Str->AB AC}{base hp:AK}{x:Str}{st:Stmt}{f:AD}
def FnAt (K:AF)(x:Str)(st:Stmt):Prop:=∃f fd,W.nsIn K AL x=some (some (.ref f))/\Fun K x x st f fd
theorem FnAt.mk {oc:AC}{od an:AB AD}{osl:Array (AB AC)}{kV doc pm cdv ct:AC}(a:W.nsIn K AL x=some (some (.ref f)))(l:K.lookup f=some ⟨oc,od,.func (W.fnOf x x (zbf st) (zaS st) (zaq st) .none kV doc pm an cdv ct),osl⟩)(c:W.codeIn K cdv x=true)(k:W.keepIn K (.ref f)=true):FnAt K x st:=⟨f,_,a,zpw l c k⟩
abbrev uD (x:Str)(st:Stmt)(ps:AA Str):Prop:=∀(kV doc pm:AC) (an:AB AD) (cdv ct:AC) (us:AA AC),us.length=ps.length->bindArgs (W.fnOf x x (zbf st) (zaS st) (zaq st) .none kV doc pm an cdv ct) ⟨us,[]⟩=pure (ps.zip us)
theorem FnAt.law (h:FnAt K x st)(X:K.In hp)(G:hp.Ns AL mg)(hf:mg x=some (.ref f)):∃kV doc pm an cdv ct,Fun K x x st f (W.fnOf x x (zbf st) (zaS st) (zaq st) .none kV doc pm an cdv ct):=by
 obtain⟨f',fd,a,T⟩:=h;have e:=hf.symm.trans (W.mg_of X G a);cases e;obtain⟨oc,od,kV,doc,pm,an,cdv,ct,osl,rfl,lk,hcd⟩:=id T.ex;exact⟨kV,doc,pm,an,cdv,ct,T⟩
variable {N:AA Str}{k n:Nat}{m:MS}
abbrev Bd (P:AJ)(w:World)(K:AF)(mg:Str->AB AC)(base:AK)(x:Str)(st:Stmt)(N:AA Str)(k:Nat)(m:MS):Prop:=∀(f:AD) (cdv:AC) (A:Around) (outer:AA Env) (s:AE) (H:Hp) (E:XK),Room k (A.deeper (PyProof.Rows.envOfC x (zaq st) s.heap.objs.size f cdv))->N.Nodup->SSs (gX iJ P w K mg base N x (zaq st) f cdv A outer s H E).nox (zaS st) m
structure DefOk (x:Str)(st:Stmt)(N:List Str)(n:Nat):Prop where
 sc:FnScope N (N.take n) (zaq st)
 len:(N.take n).length=n
 le:n<=N.length
 bs:uD x st (N.take n)
theorem lawP {fd:FuncData}(F:Fun K x x st f fd)(b:Bd P w K mg base x st N k m)(d:DefOk x st N n:=by exact⟨⟨rfl,rfl,rfl,by decide+kernel,rfl,by decide+kernel,by decide+kernel⟩,rfl,by decide,λ_ _ _ _ _ _=>by first|exact aN λ_=>bJ rfl|exact aN λ_=>aN λ_=>bJ rfl|exact aN λ_=>aN λ_=>aN λ_=>bJ rfl|exact aN λ_=>aN λ_=>aN λ_=>aN λ_=>bJ rfl|exact bJ rfl|exact aN λ_=>aN λ_=>aN λ_=>aN λ_=>aN λ_=>bJ rfl⟩):FnOk P w K mg base iJ (k+1) f fd (N.take n) (aX K n (fP N.length m)):=zpp F d.sc d.len d.le λcdv A outer s H E hr=>b _ cdv A outer s H E hr d.sc.nd
theorem dS (X:K.In hp)(G:hp.Ns AL mg)(h:FnAt K x st)(b:Bd P w K mg base x st N k m)(d:DefOk x st N n:=by exact⟨⟨rfl,rfl,rfl,by decide+kernel,rfl,by decide+kernel,by decide+kernel⟩,rfl,by decide,λ_ _ _ _ _ _=>by first|exact aN λ_=>bJ rfl|exact aN λ_=>aN λ_=>bJ rfl|exact aN λ_=>aN λ_=>aN λ_=>bJ rfl|exact aN λ_=>aN λ_=>aN λ_=>aN λ_=>bJ rfl|exact bJ rfl|exact aN λ_=>aN λ_=>aN λ_=>aN λ_=>aN λ_=>bJ rfl⟩):FD P w K mg base (k+1) x (aX K n (fP N.length m)):=
 let⟨f,fd,a,T⟩:=h
 ⟨⟨f,fd,_,zpp T d.sc d.len d.le λcdv A outer s H E hr=>b _ cdv A outer s H E hr d.sc.nd,W.mg_of X G a,T.kp,T.binds d.bs⟩⟩
theorem Nq (X:K.In hp)(G:hp.Ns AL mg)(h:FnAt K x st)(b:Bd P w K mg base x st N k m)(d:DefOk x st N n:=by exact⟨⟨rfl,rfl,rfl,by decide+kernel,rfl,by decide+kernel,by decide+kernel⟩,rfl,by decide,λ_ _ _ _ _ _=>by first|exact aN λ_=>bJ rfl|exact aN λ_=>aN λ_=>bJ rfl|exact aN λ_=>aN λ_=>aN λ_=>bJ rfl|exact aN λ_=>aN λ_=>aN λ_=>aN λ_=>bJ rfl|exact bJ rfl|exact aN λ_=>aN λ_=>aN λ_=>aN λ_=>aN λ_=>bJ rfl⟩):FD P w K mg base (k+1) x (fX K n (fM N.length m)):=
 let⟨f,fd,a,T⟩:=h
 ⟨⟨f,fd,_,Fk T d.sc d.len d.le λcdv A outer s H E hr=>b _ cdv A outer s H E hr d.sc.nd,W.mg_of X G a,T.kp,T.binds d.bs⟩⟩
end
end M
namespace M
open PySem
section
variable {prog:AJ}{w:World}{A:Around}{E:AC->AE->Prop}{s:AE}{it d:AD}{i ep:Nat}{es:Array DictEntry}{od:Obj}
theorem rX {Q:AB AC->AE->Prop}(ki:s.heap.IsKeyIter it d i es.size ep)(g1:s.heap.get? d=some od)(g2:od.data= .dict es ep)(hi:i<es.size)(k:∀h',h'.IsKeyIter it d (i+1) es.size ep->Heap.SameBut it s.heap h'->Q (some es[i].key) {s with heap:=h'}):AG (model prog w) A (pyNext (.ref it)) Q E s:=by
 obtain⟨oi,q1,q2,q3⟩:=id ki;have no:Builtin.Dict_items.ownsTuple "dict_keyiterator"=false:=by decide
 unfold pyNext;refine aH (qcQ (Aw (name:=Str.ofString "__next__") ki.typeIs qcS (oO qcS ki.typeIs F.entry_dict_keyiterator_next ?_ (F.args_dict_keyiterator_next_1 _))));refine aH (qaB (aH (aH ?_)))
 first|refine aH (qcT ki.typeIs (qaB ?_))|refine aH (Zj ki.typeIs (qaB ?_))
 refine aH (wpAny_fieldsOf q1 q3 ?_);simp only[no,lJ,cX];show AG _ _ (if(Value.ref d==Value.none)=true then _ else _) _ _ s;rw[if_neg (show ¬((Value.ref d==Value.none)=true)from fN)];refine aH (qaB (aH (wpAny_dictEntries g1 g2 ?_)));rw[if_neg (by simp)];refine aH (qaB (aH (wpAny_dictEpoch g1 g2 ?_)));rw[if_neg (by simp)];refine qaB ?_;simp only[show ¬((i:Int)<0)from by lia,cX,Bf,Array.getElem?_eq_getElem hi];refine aH ?_
 first|refine aH (qcT ki.typeIs (qaB ?_))|refine aH (Zj ki.typeIs (qaB ?_))
 refine aH (wpAny_isOneOf_keyiter ki.typeIs ?_);show AG _ _ (setField (.ref it) 1 (rawInt ((i:Int)+1))>>=_) _ _ s;refine aH (qcu q1 q3 (by simp) ?_);have ki':(s.heap.update it (Obj.mapFields (·.setIfInBounds 1 (rawInt ((i:Int)+1))))).IsKeyIter it d (i+1) es.size ep:=
  ⟨_,Xb _ q1 (Obj.isFreed_of_fields (Tp q3 _)),(Obj.cls_mapFields ..).trans q2,by rw[Tp q3];simp[rawInt]⟩
 refine aH (fV (aH (wpAny_isOneOf_keyiter (s:={s with heap:=s.heap.update it (Obj.mapFields (·.setIfInBounds 1 (rawInt ((i:Int)+1))))}) ki'.typeIs ?_)))
 show AG _ _ (pure es[i].key) _ _ _;exact qaB (qaB ⟨_,rfl,qaB (k _ ki' (Zc ..))⟩)
theorem wH {Q:AB AC->AE->Prop}(hh:A.handled=none)(ki:s.heap.IsKeyIter it d i es.size ep)(g1:s.heap.get? d=some od)(g2:od.data= .dict es ep)(hi:es.size<=i)(k:∀h',Heap.ExtBut it s.heap h'->Q none {s with heap:=h'}):AG (model prog w) A (pyNext (.ref it)) Q E s:=by
 obtain⟨oi,q1,q2,q3⟩:=id ki;have no:Builtin.Dict_items.ownsTuple "dict_keyiterator"=false:=by decide
 unfold pyNext;refine aH (qcQ (Aw (name:=Str.ofString "__next__") ki.typeIs qcS (oO qcS ki.typeIs F.entry_dict_keyiterator_next ?_ (F.args_dict_keyiterator_next_1 _))));refine aH (qaB (aH (aH ?_)))
 first|refine aH (qcT ki.typeIs (qaB ?_))|refine aH (Zj ki.typeIs (qaB ?_))
 refine aH (wpAny_fieldsOf q1 q3 ?_);simp only[no,lJ,cX];show AG _ _ (if(Value.ref d==Value.none)=true then _ else _) _ _ s;rw[if_neg (show ¬((Value.ref d==Value.none)=true)from fN)];refine aH (qaB (aH (wpAny_dictEntries g1 g2 ?_)));rw[if_neg (by simp)];refine aH (qaB (aH (wpAny_dictEpoch g1 g2 ?_)));rw[if_neg (by simp)];refine qaB ?_;simp only[show ¬((i:Int)<0)from by lia,cX,Bf,Array.getElem?_eq_none hi];refine aH ?_
 first|refine aH (qcT ki.typeIs (qaB ?_))|refine aH (Zj ki.typeIs (qaB ?_))
 show AG _ _ (setField (.ref it) 0 .none>>=_) _ _ s;refine aH (qcu q1 q3 (by simp) ?_);show AG _ _ (newExc (.type "StopIteration") []>>=_) _ _ _;refine aH ?_;simp only[newExc,newTuple];refine aH (lY ?_ (by size_fits));refine aH (m:=firstArgMember _ _) (Um (a:=Value.none) (by first|rfl|(simp only[firstArgMember];rfl)) ?_);refine lY ?_ (by size_fits);simp only[raiseNew];refine aH (wpAny_handled ?_);rw[show A.in1.handled=none from hh];refine aH (qaB (wpAny_throw ?_));refine aH (wpAny_isInstance (b:=true) (T:="StopIteration") ⟨_,eN _ rfl,rfl⟩ isSubtype_stop ?_);exact qaB (k _ (((Zc ..).extBut.push _).push _))
theorem oB {Q:AC->AE->Prop}(nm:(d==sysModules)=false)(g1:s.heap.get? d=some od)(g0:od.ExactDict)(g2:od.data= .dict es ep)(k:Q (.ref s⁻¹) {s with heap:=s.heap.push {cls:= .type "dict_keyiterator",data:= .fields #[.ref d,.int 0 0,.int es.size 0,.int ep 0]}}):AG (model prog w) A (pyIter (.ref d)) Q E s:=by
 have hT:s.TypeIs (.ref d) "dict":=⟨od,g1,g0.1⟩;refine wpAny_pyIter_slot hT F.slot_dict_iter (oO F.slot_dict_iter hT F.entry_dict_iter ?_ (F.args_dict_iter_1 _));unfold Builtin.«dict.__iter__»;refine aH ?_;unfold Builtin.Dict.dictSlotNone;refine aH (wpAny_notOrdered_dict hT ?_);show AG _ _ (pure (Value.ref d)) _ _ s;refine qaB ?_;show AG _ _ (Builtin.Dict.showsAll d>>=_) _ _ s;unfold Builtin.Dict.showsAll;rw[if_neg (by rw[nm];exact fN)];refine aH (qaB (aH (wpAny_dictEntries g1 g2 (aH (wpAny_dictEpoch g1 g2 ?_)))));refine aH (lY (qaB ⟨_,rfl,"dict_keyiterator",_,⟨_,eN _ rfl,rfl⟩,F.slot_dict_keyiterator_next.lookup,?_⟩));simpa[rawInt]using k
end
end M
namespace M
open L2 PySem PySem.Spec
open PyProof.Rows hiding St
variable {P:AJ}{w:World}{H G:Hp}{h:AK}{a b:AD}{o:Obj}{xs:AA (AA L2.cO×AD×AC)}{ks:AA (AA Int)}{ys:AA (AA L2.cO×V)}
theorem Lh (ok:HOk P w H h)(e:H a=some (kn a o)):h.get? a=some o:=(show ObjOk P w H h a (kn a o)from ok a _ e).1
theorem Ef (e:h.get? a=some o):ObjOk P w H h a (kn a o):=⟨e,⟨o,e⟩,λ_ _ e1 k=>k o e1⟩
def Sl.dit:Sl->AB (AA (AA Int)×AA D)
 | .tre (.dit ks ds)=>some (ks,ds)
 | .val (.dit ks ds)=>some (ks,ds)
 |_=>none
def keyT:D->AB (AA Int)
 | .tup es=>fL es
 |_=>none
def sDPT (j:Nat)(mk me:ME):MS:=λρ=>(me ρ).bind λp=>if(p.2[j]?.bind Sl.dit).isSome then(mk p.2).bind λq=>(keyT q.1).bind λk=>q.2[j]?.bind λs=>match s.tree with
  |some (.dit ks ds)=>if ks.length<16777216 then some (.next,q.2.set j (s.putT (.dit (gY ks ds k p.1).1 (gY ks ds k p.1).2)))else none
  |_=>none else none
def iDKT (j:Nat):MA:=λρ=>match ρ[j]? with
 |some (.val (.dit ks ds))=>some (ks.map λk=> .tup (k.map .int),ρ)
 |_=>none
end M
namespace M
open L2 PySem PySem.Spec
open PyProof.Rows hiding St
variable {K:AF}{g:D->R->AB R}{d:D}{ρ:R}{o:AB (AA D)}{C:Prop}{f:D->R->AB (AB (AA D)×R)}{ds:AA D}{out acc:AA (AA D)}{σ:St}{b DD:AD}{xs:AA V}{A:AA AD}{tg':AD->AE->Hp->AA AD->TG}{tt:AD->AE->Hp->AA AD->TT}{te:AD->AE->Hp->AA AD->TE}{x:Str}
def fzDT (j:Nat)(ρ:R):R:=match ρ[j]? with
 |some (.tre (.dit ks ds))=>ρ.set j (.val (.dit ks ds))
 |_=>ρ
def Gk (F:AA D->AB Sl)(ma:MA):ME:=λρ=>(ma ρ).bind λp=>(F p.1).bind λr=>match r with
 | .tre (.tup cs)=>some (.tup (cs.map Ch.D),p.2)
 |_=>none
def fzU (j:Nat)(ρ:R):R:=match ρ[j]? with
 |some (.tre (.tup cs))=>ρ.set j (.val (.tup (cs.map Ch.D)))
 |_=>ρ
def sCp (i j n:Nat)(mb:MS):MS:=λρ=>match ρ[i]?,ρ[j]? with
 |some _,some (.tre (.tup cs))=>match cs[n]? with
  |some (.d .non)=>some (.next,ρ.set i (.val .non))
  |some (.l ds)=>mb (ρ.set i (.own ds))
  |_=>none
 |_,_=>none
def lX (f:D->R->AB (AB (AA D)×R)):AA D->R->AB (AA (AA D)×R)
 |[],ρ=>some ([],ρ)
 |d::ds,ρ=>(f d ρ).bind λp=>(lX f ds p.2).map λq=>(p.1.toList++q.1,q.2)
def Bm (g:D->R->AB R)(mt:MT)(mo:MO):D->R->AB (AB (AA D)×R):=λd ρ=>(g d ρ).bind λρ1=>(mt ρ1).bind λp=>if p.1 then(mo p.2).bind λq=>if gJ q.2 then some (some q.1,q.2)else none else if gJ p.2 then some (none,p.2)else none
def Ob (i:Nat)(cap:AA Nat)(t:Nat)(mi:MA)(g:D->R->AB R)(mt:MT)(mo:MO):MS:=λρ=>(mi ρ).bind λp=>if p.1.length<=16777216 then(lX (Bm g mt mo) p.1 (eV cap t (fzL cap p.2))).map λq=>(.next,(fzL cap p.2).set i (.tre (.lst (q.1.map .l))))else none
def mN:AA Ch->AB (AA (AA D))
 |[]=>some []
 | .l ds::cs=>(mN cs).map (ds:: ·)
 |_=>none
def qMod (ma mb:MQ):MQ:=λρ=>(ma ρ).bind λa=>(mb ρ).bind λb=>match a,b with
 | .int i,.int j=>if 0<j then some (.int (i%j))else none
 |_,_=>none
def vB (i:Nat)(ma:MA):MS:=λρ=>if(ρ[i]?.bind Sl.items).isSome then(ma ρ).bind λp=>p.2[i]?.bind λs=>s.items.bind λds=>match p.1 with
 |[.int k,d]=>if 0<=k/\k<=ds.length/\ds.length<16777216 then some (.next,p.2.set i (s.put (ds.take k.toNat++d::ds.drop k.toNat)))else none
 |_=>none else none
theorem zkb {G H:Hp}:∀{xs:AA V} {dss:AA (AA D)} {A:AA AD} {l:AD} {ys:AA V} {ds:AA D},RepTb K G H xs dss A->H l=some (.lst ys)->RepL K G ys ds->RepTb K G H (xs++[.ref l]) (dss++[ds]) (A++[l])
 |[],[],_,l,ys,ds,h,h1,h2=>by rw[show _=[]from h];exact⟨l,ys,[],rfl,h1,h2,rfl,rfl⟩
 |x::xs,e::dss,_,l,ys,ds,⟨r,zs,A2,e1,e2,e3,e4,e5⟩,h1,h2=>⟨r,zs,A2++[l],e1,e2,e3,zkb e4 h1 h2,by rw[e5];rfl⟩
 |[],_::_,_,_,_,_,h,_,_=>h.elim
 |_::_,[],_,_,_,_,h,_,_=>h.elim
theorem rG {mt:MT}{mo:MO}{ρ ρ':R}(h:Bm g mt mo d ρ=some (o,ρ'))(k:∀ρ1 b ρ2,g d ρ=some ρ1->mt ρ1=some (b,ρ2)->((b=true/\∃dv,mo ρ2=some (dv,ρ')/\o=some dv)\/(b=false/\o=none/\ρ2=ρ'))->gJ ρ'=true->C):C:=by
 unfold Bm at h;refine aP h λρ1 e1 h=>bD h λb ρ2 e2 h=>?_
 cases b with
 |true=>exact bD h λdv ρ3 e3 h=>aY h λz h=>uX h λq1 q2=>by subst q2;exact k ρ1 _ ρ2 e1 e2 (.inl ⟨rfl,dv,e3,q1.symm⟩) z
 |false=>exact aY h λz h=>uX h λq1 q2=>by subst q2;exact k ρ1 _ ρ2 e1 e2 (.inr ⟨rfl,q1.symm,rfl⟩) z
theorem zoG {d:D}{ρ ρ':R}(h:lX f (d::ds) ρ=some (out,ρ'))(k:∀o ρ1 rest,f d ρ=some (o,ρ1)->lX f ds ρ1=some (rest,ρ')->out=o.toList++rest->C):C:=by
 simp only[lX]at h;exact bD h λo ρ1 e1 h=>jA h λrest ρ2 e2 h=>by
  exists Prod.mk.inj h;exact k o ρ1 rest e1 e2 rfl
theorem zj3 {Gc Hc G' H':Hp}(I:SI K ⟨Gc,Hc,[]⟩ G' H' σ ρ){o:HO}(g:Gc b=none)(h:Hc b=some o):G' b=none/\H' b=some o:=
 ⟨none_of λu q=>(I.new b u q).elim (λz=>z g) λz=>aI ((show Hc b=none from z).symm.trans h),I.keep b o h nofun⟩
structure TbA (K:W.Frag)(G H H1:Hp)(DD:Addr)(xs:List V)(acc:List (List D))(A:List Addr):Prop where
 ra:RepTb K G H xs acc A
 nd:A.Nodup
 fr:∀a∈A,G a=none/\H1 a=none/\a≠DD
theorem TbA.next {Gc Hc H1 G' H':Hp}(T:TbA K Gc Hc H1 DD xs acc A)(I:SI K ⟨Gc,Hc,[]⟩ G' H' σ ρ):TbA K G' H' H1 DD xs acc A where
 ra:=T.ra.move I.g0 λa m=>(T.ra.here m).elim λ_ z=>(zj3 I (T.fr a m).1 z).2.trans z.symm
 nd:=T.nd
 fr:=λa m=>(T.ra.here m).elim λ_ z=>⟨(zj3 I (T.fr a m).1 z).1,(T.fr a m).2⟩
theorem TbA.put {G H H1:Hp}(T:TbA K G H H1 DD xs acc A)(o:HO):TbA K G (upd H DD o) H1 DD xs acc A where
 ra:=T.ra.move (Fz.refl G) λa m=>aV (T.fr a m).2.2
 nd:=T.nd
 fr:=T.fr
theorem TbA.snoc {G H H1:Hp}{DD l:AD}{xs ys:AA V}(T:TbA K G H H1 DD xs acc A)(hl:H l=some (.lst ys))(r:RepL K G ys ds)(f:G l=none/\H1 l=none/\l≠DD)(lA:l∉A):TbA K G H H1 DD (xs++[.ref l]) (acc++[ds]) (A++[l]) where
 ra:=zkb T.ra hl r
 nd:=(qcM.mpr ⟨T.nd,qa0.mpr ⟨nofun,Hs⟩,λa ma b mb z=>lA ((qcB.mp mb) ▸ z ▸ ma)⟩)
 fr:=λa m=>(qaq.mp m).elim (T.fr a) λm=>(qcB.mp m) ▸ f
section
variable {X:Cx}{elt iter tg:AI}{ifs:AA AI}{scope:Scope}{pos:Pos}{N:AA Str}{cap:AA Nat}{t:Nat}{mi:MA}{g:D->R->AB R}{mt:MT}{mo:MO}
theorem zre (i0:Nat){wi:TI}(si:nD X tg iter mi wi)(sg:∀C s H₀ fp,SGb (cB X N scope C s H₀ fp) tg g (tg' C s H₀ fp))(st:∀C s H₀ fp,Km (cB X N scope C s H₀ fp) ifs mt (tt C s H₀ fp))(se:∀C s H₀ fp,SOb (cB X N scope C s H₀ fp) elt mo (te C s H₀ fp)):
  ∀B G H σ ρ fl ρ' (E:Ends),SI X.K B G H σ ρ->Ob i0 cap t mi g mt mo ρ=some (fl,ρ')->Post X.K B G E fl ρ'->Nt (cP cap t) wi tg' tt te σ H λv H'=>E.nx (σ.set i0 (some v)) H':=λB G H σ ρ fl ρ' E I hm k=>
 bD hm λitems ρ1 e1 hm=>si B G H σ ρ items ρ1 _ I e1 λJ G1 H1 I1 f1 IT DD hD=>aY hm λAO hm=>jA hm λall ρf e2 e3=>by
  exists Prod.mk.inj e3;obtain⟨G2,I2,f2⟩:=SI.fzL cap I1;have AO:items.length<=16777216:=AO;refine⟨λi m σc Hc=>m=items.length-i/\i<=items.length/\∃Gc ρc acc xs A rest,LcG X.K [] G2 H1 DD Hc Gc xs/\TbA X.K Gc Hc H1 DD xs acc A/\xs.length<=i/\VS X.K Gc σc ρc/\lX (Bm g mt mo) (items.drop i) ρc=some (rest,ρf)/\all=acc++rest,
   ⟨items.length,rfl,gR _,G2,_,[],[],[],all,⟨Fz.refl _,I2.fz.right (I2.fz.free hD) _,λb o e=> .inl (by rw[e];exact nofun),λb o _ e=>(aV (lF e hD)).trans e,I2.fz.free hD,cT⟩,⟨rfl,Hs,nofun⟩,bC _,zqL I2 cap t,e2,rfl⟩,?_⟩
  rintro i m σc Hc ⟨rfl,hi,Gc,ρc,acc,xs,A,rest,J0,T0,hx,vs,ec,eall⟩
  by_cases hlt:i<items.length
  ·refine .inr ⟨IT.go Hc i (f2.trans (J0.fc.trans J0.fcH)) hlt,λC s₀ H₀ fp x H' y=>?_⟩;rw[qb8 hlt]at ec;refine zoG ec λo ρ3 rest2 h3 h4 er=>rG h3 λρ5 b ρ6 h5 h6 hb hok=>?_
   have f3':Fz G1 Gc:=f2.trans J0.fc;have yy2:(H'=Hc/\RepD X.K Gc x items[i])\/∃p xs es,Hc p=none/\H'=upd Hc p (.tup xs)/\x= .ref p/\items[i]= .tup es/\RepL X.K Gc xs es:=(IT.yld Hc i x H' (f3'.trans J0.fcH) y items[i] (bI hlt)).imp (λq=>⟨q.1,q.2.mono f3'⟩) λ⟨p,xs,es,a,b,c,d,e⟩=>⟨p,xs,es,a,b,c,d,e.mono f3'⟩
   obtain⟨G3,I3,f3,r3⟩:=(vs.si J0.fcH).yld yy2;refine sg C s₀ H₀ fp _ G3 H' σc ρc x items[i] ρ5 _ I3 r3 h5 λG4 H4 σ4 I4 f4=>st C s₀ H₀ fp _ G4 H4 σ4 ρ5 b ρ6 _ I4 h6 λG5 H5 I5 f5=>?_
   have hlt2:items.length-(i+1)<items.length-i:=∅
   rcases hb with⟨rfl,dv,h7,rfl⟩|⟨rfl,rfl,rfl⟩
   ·refine se C s₀ H₀ fp _ G5 H5 σ4 ρ6 dv _ _ I5 h7 λG6 H6 l ys I6 f6 g6 h6l r6 b6 n6=>?_
    have b6:Hc l=none:=b6;have lD:l≠DD:=λz=>aI (b6.symm.trans (z ▸ J0.hDc))
    have J1:=J0.next nofun I6;exact⟨xs,J1.hDc,by rw[gZ];lia,_,hlt2,rfl,hlt,G6,_,acc++[dv],xs++[.ref l],A++[l],rest2,J1.put hD _,((T0.next I6).put _).snoc ((aV lD).trans h6l) r6 ⟨g6,none_of λu q=>aI (b6.symm.trans (J0.kp l u nofun q)),lD⟩ λm=>(T0.ra.here m).elim λ_ z=>aI (b6.symm.trans z),by rw[eS,qbD];lia,VS.of I6 hok,h4,by rw[eall,er,tN];rfl⟩
   ·exact⟨_,hlt2,rfl,hlt,G5,_,acc,xs,A,rest2,J0.next nofun I5,T0.next I5,∅,VS.of I5 hok,h4,by rw[eall,er];rfl⟩
  ·have e:i=items.length:=∅
   subst e;rw[List.drop_length]at ec;obtain⟨q1,q2⟩:=bK ec;subst q1 q2;rw[lE]at eall;subst eall;have kp:Fz H1 Hc:=λb o e=>J0.kp b o nofun e
   refine .inl ⟨IT.stop Hc _ (f2.trans (J0.fc.trans J0.fcH)) (bC _),k Gc Hc _ ((I2.grow J0.fc J0.fcH J0.nw kp).setT (i:=i0) (v:= .ref DD) (A:=DD::A) ⟨DD,xs,A,rfl,J0.hDc,By T0.ra,rfl⟩ (qa0.mpr ⟨λm=>(T0.fr DD m).2.2 rfl,T0.nd⟩) λa m=>?_) (f1.trans (f2.trans J0.fc))⟩;rcases qap.mp m with rfl|m
   ·exact⟨J0.gD,I2.there a hD,I2.own_ne hD J0.nw kp⟩
   ·exact⟨(T0.fr a m).1,I2.there a (T0.fr a m).2.1,I2.own_ne (T0.fr a m).2.1 J0.nw kp⟩
theorem zkH (i:Nat){lpos pos':Pos}(cap:AA Nat)(t:Nat)(N:AA Str)(hc:X.calm=true)(hi:SIt X tg iter mi)(hg:∀C s H fp,SG (cB X N scope C s H fp) tg g)(ht:∀C s H fp,Cw (cB X N scope C s H fp) ifs mt)(he:∀C s H fp,SO (cB X N scope C s H fp) elt mo)(hN:X.N.Nodup)(hxi:X.N[i]? =some x:=by rfl)(hx:jX X.env.scope x:=by trivial)(hf:X.fn x=true\/X.env.scope.names.lookup x=some .local:=by trivial)(hsw:swapsWith (.ListComp elt [⟨tg,iter,ifs,0⟩] scope lpos) (some (.Name x pos')) pos.line X.env=pure true:=by rfl)(hk:scope.kind= .function:=by rfl)(hb:jW X.env scope=true:=by kernel_rfl)(hcap:jN scope.names N X.N cap t=true:=by kernel_rfl)(hs:∀x,foldedSetIterable iter X.env x=pure x:=by exactλ_=>rfl):SS X (.Assign [.Name x pos'] (.ListComp elt [⟨tg,iter,ifs,0⟩] scope lpos) pos) (Ob i cap t mi g mt mo):=by
  refine hi.el λwi pi si=>?_
  exact⟨_,zk2 hN hxi hx hf hsw hc (Xf hk hb) (Qw hcap) pi (λC s H fp=>(hg C s H fp).choose_spec.1) (λC s H fp=>(ht C s H fp).choose_spec.1) (λC s H fp=>(he C s H fp).choose_spec.1) hs,
    zre i si (λC s H fp=>(hg C s H fp).choose_spec.2) (λC s H fp=>(ht C s H fp).choose_spec.2) (λC s H fp=>(he C s H fp).choose_spec.2)⟩
end
section
variable {X:Cx}{x y:Str}{pos p' q' tpos:Pos}{e a b:AI}{es:AA AI}{mo:MO}
def vH:V->AA V->Hp->VK->Prop:=λx vs H Q=>∃l xs y k,x= .ref l/\vs=[.int k,y]/\H l=some (.lst xs)/\0<=k/\k<=xs.length/\xs.length<sizeLine/\Q .non (upd H l (.lst (xs.take k.toNat++y::xs.drop k.toNat)))
theorem zqZ:MtM X "list.insert" vH:=by
 intro AM s σ H x vs v us Q I rx rv h;obtain⟨l,xs,y,k,rfl,rfl,hH,hk,hk2,hz,q⟩:=h;cases rx;obtain⟨u1,u2,rfl,ru1,ru2⟩:=rv.two;obtain⟨t,rfl⟩:=ru1;obtain⟨z,its,n,r,hl,e⟩:=I.lstM hH;have hn:=Gd;have hc0:¬(!Builtin.List.listFitsIndex k)=true:=by
  have h1:(-(2^63:Int))<=k:=∅
  have h2:k<2^63:=∅
  have h3:Builtin.List.listFitsIndex k=true:=by
   unfold Builtin.List.listFitsIndex;rw[cV];exact⟨gW h1,gW h2⟩
  rw[h3]
  decide
 refine call_meets F.slot_list_insert ⟨_,e,rfl⟩ F.entry_list_insert (F.args_list_insert_3 _ _ _) (AutoSeq1.list_insert_list_int_val_1 l its.toArray n k t u2 hc0 (by rw[bR];lia)) ⟨e,?_⟩;refine⟨.non,_,I.lset (its':=its.take k.toNat++u2::its.drop k.toNat) hH e ?_ ((r.take k.toNat).append (.cons ru2 (r.drop k.toNat))) ?_,rfl,q⟩
 ·have h3:¬k<0:=∅
  have h4:min k.toNat its.length=k.toNat:=∅
  simp[h3,h4];exact lN (by rw[tR];exact bC _)
 ·rw[eS,eH,kA,tR];lia
theorem Jb (i:Nat){ma:MA}{e1 e2:AI}{apos cpos:Pos}(he:SA X [e1,e2] ma)(hN:X.N[i]? =some x:=by rfl)(hv:dJ X.env.scope x:=by trivial)(hd:(x==("__debug__":Str))=false:=by decide)(hcd:(x==("__classdict__":Str))=false:=by decide)(hbase:attributeBase (.Name x p') "insert" X.env (eval (.Name x p') X.env)=eval (.Name x p') X.env:=by rfl)(hfew : ((backTo cpos (starEach [e1, e2] X.env)).all (λx => !x.1) && (backToKw cpos (keywordEach [] X.env)).all (λx => x.1.isSome)
   &&decide ([e1,e2].length+([]:AA Keyword).length+(if([]:AA Keyword).isEmpty then 0 else 1)<30))=true:=by rfl)(hline:(apos.endLine==cpos.line)=true:=by rfl)(hs:starEach [e1,e2] X.env=(false,eval e1 X.env)::starEach [e2] X.env:=by rfl)(hpl:(backTo cpos (starEach [e2] X.env)).any (·.1)=false:=by rfl):SS X (.Expr (.Call (.Attribute (.Name x p') "insert" apos) [e1,e2] [] cpos) pos) (vB i ma):=by
 refine he.el λt p s=>?_
 refine⟨_,zk3 (sV qb7 PySem.F.slot_list_insert PySem.F.type_list_insert zqZ (eB hN hv hd hcd) p hbase hfew hline hs hpl) (by rfl),λB G H σ ρ fl ρ' E I hm k=>?_⟩;unfold vB at hm;refine aY hm λhso hm=>?_
 ·skip
  obtain⟨ds0,hso⟩:=qa1.mp hso;refine aP hso λs0 e0 q0=>?_
  obtain⟨l,xs0,h1,h2,h3,h4⟩:=I.wr e0 q0;refine bD hm λas ρ1 e1 hm=>?_
  refine aP hm λs1 e2 hm=>?_
  refine aP hm λds e3 hm=>?_
  dsimp only at hm
  split at hm
  ·rename_i kk d y1 y2;refine aY hm λhl hm=>?_
   ·skip
    exists bK hm;refine⟨.ref l,h1,.inl ⟨rfl,_,SqL.of h3⟩,s B G H σ ρ _ ρ1 _ I e1 λG1 H1 vs I1 f1 r1=>?_⟩;obtain⟨v1,v2,rfl,w1,w2⟩:=r1.two;cases(show v1=V.int kk from w1);obtain⟨l',xs,k1,k2,k3,k4⟩:=I1.wr e2 e3;rw[h1]at k1;cases k1;refine⟨l,xs,v2,kk,rfl,rfl,k3,hl.1,by rw[k4.length];exact hl.2.1,by rw[k4.length,gZ];exact hl.2.2,?_⟩;exact k G1 _ σ (I1.write e2 e3 h1 ((k4.take _).append (.cons w2 (k4.drop _)))) f1
  ·exact aI hm
end
def Vx (b c:Nat)(ρ:R):Bool:=match ρ[b]?,ρ[c]? with
 |some (.par _),some (.par _)=>gJ ((ρ.set b .emp).set c .emp)
 |_,_=>false
def Eh (b c:Nat)(g:D->R->AB R)(mt:MT)(me:ME):D->R->AB (AB D×R):=λd ρ=>(g d ρ).bind λρ1=>(mt ρ1).bind λp=>if p.1 then(me p.2).bind λq=>if Vx b c q.2 then some (some q.1,q.2)else none else if Vx b c p.2 then some (none,p.2)else none
end M
namespace M
open PySem PySem.W
open PyProof.Rows (bubble mirror bubble_size bubble_perm mirror_size mirror_perm getElem?_bubble getElem?_mirror_all)
def kv (p:Array Nat)(k:Nat):Nat:=p.getD k 0
end M
namespace L2
open PyProof.Rows PySem PySem.Spec
def gCut (i:Nat)(tl th:TE):TG:=λv σ H Q=>∃x,σ[i]? =some (some x)/\tl σ H λa H1=>th σ H1 λc H2=>∃(l b:AD) (xs ys:AA V) (m n:Int),x= .ref l/\v= .ref b/\a= .int m/\c= .int n/\H2 l=some (.lst xs)/\H2 b=some (.lst ys)/\l≠b/\0<=m/\m<=n/\n<=xs.length/\xs.length+ys.length<=sizeLine/\Q σ (upd H2 l (.lst (xs.take m.toNat++ys++xs.drop n.toNat)))
theorem Ml {X:Cx}{i:Nat}{x:Str}{lo hi:AI}{tl th:TE}{p p2 pos:Pos}(hl:PE X lo tl)(hu:PE X hi th)(hN:X.N[i]? =some x)(hv:dJ X.env.scope x)(hd:(x==("__debug__":Str))=false:=by decide)(hcd:(x==("__classdict__":Str))=false:=by decide):PG X (.Subscript (.Name x p) (.Slice (some lo) (some hi) none p2) pos) (gCut i tl th):=by
 intro AM s σ H v u Q I r h;rw[arm_assign_Subscript];obtain⟨y,hy,h⟩:=h;refine aH (fV (aW (eB hN hv hd hcd AM s σ H (λz H1=>z=y/\H1=H) I ⟨y,hy,rfl,rfl⟩) λov s1 ⟨z,H1,I1,r1,q1,q2⟩=>?_));subst q1 q2;refine aH (fV (wpAny_Slice (aW (hl AM s1 σ _ _ I1 h) λvl s2 ⟨a,H2,I2,pl,q⟩=>?_)));refine aW (hu AM s2 σ _ _ I2 q) λvu s3 ⟨c,H3,I3,pu,l,b,xs,ys,m,n,f1,f2,f3,f4,f5,f6,f7,f8,f9,f10,f11,f12⟩=>?_
 subst f1 f2 f3 f4;cases r1;cases r;rw[qbr];refine qaB (aH (Hf (aH (fV ?_))));have I4:Inv X AM σ H3 {s3 with heap:=s3.heap.push {cls:= .type "slice",data:= .fields #[vl,vu,.none]}}:=I3.kept (t':=s3.toks) λb ob q=>bP _ q
 exact zqG I4 f5 f6 f7 (qbs ..) pl pu f8 f9 f10 f11 λs' I'=>wpAny_release ⟨σ,_,I',f12⟩
end L2
namespace M
open L2 PySem PySem.Spec
open PyProof.Rows hiding St
def sCut (i:Nat)(me ml mh:ME):MS:=λρ=>(me ρ).bind λp=>if(p.2[i]?.bind Sl.items).isSome then(ml p.2).bind λq=>(mh q.2).bind λr=>r.2[i]?.bind λs=>s.items.bind λds=>match p.1,q.1,r.1 with
 | .lst es,.int m,.int n=>if decide (0<=m)&&decide (m<=n)&&decide (n<=ds.length)&&decide (ds.length+es.length<=16777216)then some (.next,r.2.set i (s.put (ds.take m.toNat++es++ds.drop n.toNat)))else none
 |_,_,_=>none else none
end M
namespace HT
open PySem
def SIt (h:AK)(I S:AD)(first:AC)(i n ep:Nat):Prop:=∃o,h.get? I=some o/\o.cls= .type "set_iterator"/\o.data= .fields #[first,.int i 0,.ref S,.int n 0,.int ep 0]
end HT
namespace M
open L2 PySem PySem.Spec
open PyProof.Rows hiding St
theorem zhj:∀{its:AA AC} {ns:AA Int},IntsAre its ns->Vals (ns.map V.int) its
 |_,_,.nil=> .nil
 |_,_,.cons n t h=> .cons ⟨t,rfl⟩ (zhj h)
end M
namespace M
open L2 PySem
def zrd (f g h:D->D->AB D)(a b c d:ME):ME:=λρ=>(a ρ).bind λp=>(b p.2).bind λq=>(f p.1 q.1).bind λt=>match t with
 | .bl true=>(c q.2).bind λr=>(g q.1 r.1).bind λt'=>match t' with
  | .bl true=>(d r.2).bind λs=>(h r.1 s.1).map λx=>(x,s.2)
  | .bl false=>some (.bl false,r.2)
  |_=>none
 | .bl false=>some (.bl false,q.2)
 |_=>none
end M
namespace M
open L2 PySem PySem.Spec
open PyProof.Rows hiding St
def Nm:D->Bool
 | .int _=>true
 |_=>false
def iH:D->Bool
 | .non=>true
 | .bl _=>true
 | .int _=>true
 | .str _=>true
 | .tup ds=>ds.all Nm
 |_=>false
def Lk:Ch->Bool
 | .d x=>iH x
 | .l ds=>ds.all iH
 | .t _=>false
def Oj:T->Bool
 | .tup cs=>cs.all Lk
 | .ins _ fs=>fs.all λf=>Lk f.2
 |_=>false
def tY:Sl->Bool
 | .emp=>true
 | .val d=>iH d
 | .own ds=>ds.all iH
 | .par ds=>ds.all iH
 | .tre t=>Oj t
 | .ptr t=>Oj t
 | .two _ _=>false
open Classical in
section
variable {K:AF}{G Gx G2 H H2:Hp}
theorem RepT.head {v:V}{t:T}{A:AA AD}(r:RepT K G H v t A):∃p,v= .ref p/\p∈A:=by
 cases t with
 |lst cs=>obtain⟨p,xs,A',h1,h2,h3,rfl⟩:=r;exact⟨p,h1,by simp⟩
 |tup cs=>obtain⟨p,xs,A',h1,h2,h3,rfl⟩:=r;exact⟨p,h1,by simp⟩
 |ins c fs=>obtain⟨p,C,dx,ws,A',h1,h2,h3,h4,h5,h6,rfl⟩:=r;exact⟨p,h1,by simp⟩
 |dic ks ds=>obtain⟨p,ys,h1,h2,h3,h4,rfl⟩:=r;exact⟨p,h1,by simp⟩
 |dit ks ds=>obtain⟨p,ys,o,xs,h1,h2,h3,h4,rfl⟩:=r;exact⟨p,h1,by simp⟩
 |obj c ns ls dk=>obtain⟨p,C,dx,ws,A',h1,h2,h3,h4,h5,h6,rfl⟩:=r;exact⟨p,h1,by simp⟩
end
abbrev MG:=R->AB (R×R)
def Sl.hand:Sl->AB Sl
 | .own ds=>some (.par ds)
 | .par ds=>some (.par ds)
 | .tre t=>if t.isObj then none else some (.ptr t)
 | .ptr t=>if t.isObj then none else some (.ptr t)
 |_=>none
def oddC:Ch->Bool
 | .d (.str _)=>true
 | .l _=>true
 |_=>false
def Sl.look:Sl->AB D
 | .val d=>some d
 | .own ds=>some (.lst ds)
 | .par ds=>some (.lst ds)
 | .tre (.tup cs)=>if cs.any oddC then some (.tup (cs.map Ch.D))else none
 | .tre (.obj c ns ls (some q))=>some (.obj c ns (ls.map D.lst) q.1 q.2)
 | .ptr (.obj c ns ls (some q))=>some (.obj c ns (ls.map D.lst) q.1 q.2)
 |_=>none
def hasA (ρ:R)(j:Nat):Bool:=match ρ[j]? with
 |some (.val _)=>true
 |some (.own _)=>true
 |some (.par _)=>true
 |some (.tre _)=>true
 |some (.ptr _)=>true
 |_=>false
section
variable {K:AF}{B:Bs}{G Gx Gy H:Hp}{σ:St}{ρ:R}
theorem zqz {Gz:Hp}(fg:Fz G Gz){p C dx:AD}{c:Str}{ns:AA Str}{vs:AA (Str×V)}{ls:AA (AA D)}{q:AA Int×AA D}{A:AA AD}(h0:W.nsIn K AL c=some (some (.ref C)))(h1:Gz p=some (.ins C dx vs))(h2:vs.map (·.1)=ns)(r:RepO K G H (vs.map (·.2)) ls (some q) A)(h:∀a∈A,Gz a=H a):RepD K Gz (.ref p) (.obj c ns (ls.map D.lst) q.1 q.2):=by
 obtain⟨ws,p2,o,zs,ys,A',e,r1,q1,q2,q3,rfl⟩:=r;exact⟨p,C,dx,vs,ws,p2,o,zs,ys,rfl,h0,h1,h2,e,zkI fg r1 λa m=>h a (by simp[m]),by rw[h p2 (by simp)];exact q1,q2,q3.mono fg⟩
end
def jM (K:AF)(n:Nat)(F:R->AB (Sl×R)):Sp:=λvs H Q _=>∃G O as r outs,F as=some (r,outs)/\as.length=n/\SI K ⟨G,H,O⟩ G H (vs.map some) as/\
 ∀G' H' v,Fz G G'->Fz G' H'->(∀b o,G' b=some o->G b≠none\/H b=none)->(∀b o,H b=some o->(∀i,(i,b)∉O)->H' b=some o)->(∀b,H' b=none->H b=none)->
  (∀(i:Nat) (s:Sl),outs[i]? =some s->∃ov,SlotOk K ⟨G,H,O⟩ G' H' i ov s)->jO K G' H' H v r->Q v H'
def gO:R->R->AB R
 |[],_=>some []
 | .par _::as,.par ds::ρ=>(gO as ρ).map (.par ds:: ·)
 | .ptr _::as,.ptr t::ρ=>(gO as ρ).map (.ptr t:: ·)
 | .val _::as,_::ρ=>(gO as ρ).map (.emp:: ·)
 |_,_=>none
def fG (N:Nat)(m:MS):R->AB (Sl×R):=λas=>(m (as++List.replicate (N-as.length) .emp)).bind λp=>match p.1 with
 | .ret r=>(gO as p.2).map λo=>(r,o)
 | .next=>(gO as p.2).map λo=>(.val .non,o)
 |_=>none
theorem zko {y s:Sl}{o ρ:R}{i:Nat}{u:Sl}(e:(y::o)[i]? =some s)(z:y= .emp\/u=y)(ih:∀{i:Nat} {s:Sl},o[i]? =some s->s= .emp\/ρ[i]? =some s):s= .emp\/(u::ρ)[i]? =some s:=by
 cases i with
 |zero=>rw[List.getElem?_cons_zero]at e ⊢;rw[<-Option.some.inj e];exact z.imp id λq=>congrArg _ q
 |succ i=>rw[Pa]at e ⊢;exact ih e
theorem mI {as ρ os:R}{i:Nat}{s:Sl}(h:gO as ρ=some os)(e:os[i]? =some s):s= .emp\/ρ[i]? =some s:=by
 induction as generalizing ρ os i s with
 |nil=>rw[<-Option.some.inj h,List.getElem?_nil]at e;exact aI e
 |cons x as ih=>
  cases ρ with
  |nil=>cases x<;>exact aI h
  |cons y ρ=>
   cases x with
   |val d=>exact bQ h λo q z=>by subst z;exact zko e (.inl rfl) (ih q)
   |par d=>cases y with
    |par d'=>exact bQ h λo q z=>by subst z;exact zko e (.inr rfl) (ih q)
    |_=>exact aI h
   |ptr d=>cases y with
    |ptr d'=>exact bQ h λo q z=>by subst z;exact zko e (.inr rfl) (ih q)
    |_=>exact aI h
   |_=>exact aI h
theorem SI.startG {K:AF}{B:Bs}{G H:Hp}{N:AA Str}{vs:AA V}{as:R}(I:SI K B G H (vs.map some) as)(h:as.length<=N.length):SI K B G H (L2.start N vs) (as++List.replicate (N.length-as.length) .emp):=by
 have hl:vs.length=as.length:= ~~~I.len
 have at1:∀{i:Nat} {s:Sl},(as++List.replicate (N.length-as.length) Sl.emp)[i]? =some s->(as[i]? =some s/\(L2.start N vs)[i]? =(vs.map some)[i]?)\/s= .emp:=λ{i s} e=>by
  by_cases hi:i<as.length
  ·rw[hG hi]at e;refine .inl ⟨e,?_⟩;unfold L2.start;rw[hG (by simpa[hl]using hi)]
  ·rw[uA ∅,Dp]at e
   split at e
   ·cases e;exact .inr rfl
   ·exact aI e
 refine⟨I.fz,I.g0,I.new,I.keep,I.there,?_,I.ob,λi s e=>?_,λi j s t a n e1 e2 w1 w2=>?_⟩
 ·rw[ziL ∅,eS,Wv];lia
 ·rcases at1 e with⟨e1,e2⟩|rfl
  ·rw[e2];exact I.slot i s e1
  ·trivial
 ·rcases at1 e1 with⟨f1,f2⟩|rfl
  ·rcases at1 e2 with⟨g1,g2⟩|rfl
   ·rw[f2]at w1;rw[g2]at w2;exact I.dis i j s t a n f1 g1 w1 w2
   ·exact w2
  ·exact w1
section
variable {P:AJ}{w:World}{K:AF}{mg:Str->AB AC}{base:AK}
theorem sZ {x qual:Str}{st:Stmt}{f:AD}{fd:FuncData}{N ps:AA Str}{k n:Nat}{m:MS}(F:Fun K x qual st f fd)(S:FnScope N ps (zaq st))(hn:ps.length=n)(hN:n<=N.length)(body:∀(cdv:AC) (A:Around) (outer:AA Env) (s:AE) (H:Hp) (E:XK),Room k (A.deeper (envOfC qual (zaq st) s⁻¹ f cdv))->SSs (gX iJ P w K mg base N qual (zaq st) f cdv A outer s H E).nox (zaS st) m):
  FnOk P w K mg base iJ (k+1) f fd ps (jM K n (fG N.length m)):=by
 refine F.ok S (λvs H Q E h=>?_) (λcdv A outer s H vs Q E hr h=>?_)
 ·obtain⟨G,O,as,r,outs,_,h2,I,_⟩:=h;have:=I.len;rw[eI]at this;lia
 ·obtain⟨G,O,as,r,outs,e1,h2,I,kk⟩:=h;obtain⟨t,pt,so⟩:=body cdv A outer s H E hr;refine⟨t,pt,?_⟩;refine bD e1 λfl ρ' e2 e3=>?_
  refine so ⟨G,H,O⟩ G H (L2.start N vs) _ fl ρ' _ (I.startG ∅) e2 ?_;have fin:∀G' H' σ' v,gO as ρ'=some outs->SI K ⟨G,H,O⟩ G' H' σ' ρ'->Fz G G'->jO K G' H' H v r->Q v H':=λG' H' σ' v eo J f rr=>
   kk G' H' v f J.fz J.new (λb o e n=>J.keep b o e n) J.there (λi s e=>by
    rcases mI eo e with rfl|q
    ·exact⟨none,trivial⟩
    ·exact⟨_,J.slot i s q⟩) rr
  cases fl with
  |brk=>exact aI e3
  |cont=>exact aI e3
  |next=>
   refine bQ e3 λo q1 q2=>?_
   cases q2;exactλG' H' σ' J f=>fin G' H' σ' .non q1 J f rfl
  |ret r'=>
   refine bQ e3 λo q1 q2=>?_
   cases q2;refineλG' H' σ' v J f rr=>fin G' H' σ' v q1 J f ?_
   cases r with
   |val d=>exact rr
   |own ds=>exact rr
   |emp=>exact rr
   |two _ _=>exact rr
   |tre _=>exact rr
   |ptr _=>exact rr
   |par ds=>exact rr
end
def Eg (u s:Sl):Sl:=match s with
 | .par ds=>u.put ds
 | .ptr t=>u.putT t
 |_=>u
def zmH:AA (AB Nat)->R->R->R
 | some j :: js, s :: os, ρ => zmH js os (match ρ[j]? with
  |some u=>ρ.set j (Eg u s)
  |none=>ρ)
 |none::js,_::os,ρ=>zmH js os ρ
 |_,_,ρ=>ρ
def zqD:R->AB (AA D)
 |[]=>some []
 | .val d::as=>(zqD as).map (d:: ·)
 |_=>none
def Np (F:AA D->AB Sl):R->AB (Sl×R):=λas=>(zqD as).bind λds=>(F ds).map λr=>(r,as.map λ_=> .emp)
def ckG (ls:AA Nat)(z:Sl×R):Bool:=ls.isEmpty||(tY z.1&&z.2.all tY)
def bkT (n:Int)(ds:AA D):T:= .ins "SumBook" [("many",.d (.int n)),("kept",.l ds)]
def T.bk:T->AB (Int×AA D)
 | .ins c [(a,.d (.int n)),(b,.l ds)]=>if c="SumBook"/\a="many"/\b="kept" then some (n,ds)else none
 |_=>none
def Sl.bk:Sl->AB (Int×AA D)
 | .tre t=>t.bk
 | .ptr t=>t.bk
 |_=>none
theorem Ii {n:Int}{ds:AA D}:(bkT n ds).bk=some (n,ds):=by
 show(if("SumBook":Str)="SumBook"/\("many":Str)="many"/\("kept":Str)="kept" then some (n,ds)else none)=some (n,ds);rw[if_pos ⟨rfl,rfl,rfl⟩]
def Wq (ρ:R):R:=ρ.map λs=>match s with
 | .val d=> .val d
 |_=> .emp
section
variable {P:AJ}{w:World}{K:AF}{mg:Str->AB AC}{base hp:AK}{x mt:Str}{st:Stmt}{f:AD}{N:AA Str}{k n:Nat}{m:MS}
structure DefOkM (x q:Str)(st:Stmt)(N:List Str)(n:Nat):Prop where
 sc:FnScope N (N.take n) (zaq st)
 len:(N.take n).length=n
 le:n<=N.length
 bs:∀(kV doc pm:Value) (an:Option Addr) (cdv ct:Value) (us:List Value),us.length=(N.take n).length->bindArgs (W.fnOf x q (zbf st) (zaS st) (zaq st) .none kV doc pm an cdv ct) ⟨us,[]⟩=pure ((N.take n).zip us)
end
section
variable {K:AF}{B:Bs}{G H:Hp}{σ:St}{ρ:R}
open Classical in
def Bs.reA (B:Bs)(K:AF)(G H:Hp)(σ:St)(ρ:R)(A:AA AD):Bs:=⟨G,λb=>if(∃(i:Nat) (s:Sl),ρ[i]? =some s/\cU K G H σ[i]? b s)/\B.H b=none then none else H b,B.O.filter λz=>!A.contains z.2⟩
theorem reA_O {A:AA AD}{z:Nat×AD}:z∈(B.reA K G H σ ρ A).O↔z∈B.O/\z.2∉A:=by
 unfold Bs.reA;simp
theorem zkU (I:SI K B G H σ ρ){A:AA AD}{b:AD}(h:(B.reA K G H σ ρ A).H b=none):B.H b=none:=by
 unfold Bs.reA at h;dsimp only at h
 split at h
 ·rename_i w;exact w.2
 ·exact I.there b h
theorem SI.reA (I:SI K B G H σ ρ){A:AA AD}(hA:∀a∈A,Nw K G H σ ρ a):SI K (B.reA K G H σ ρ A) G H σ ρ where
 fz:=I.fz
 g0:=Fz.refl G
 new:=λb o e=> .inl (by show G b≠none;rw[e];simp)
 keep:=λb o e _=>by
  unfold Bs.reA at e;dsimp only at e
  split at e
  ·exact aI e
  ·exact e
 there:=λb e=>by
  unfold Bs.reA;dsimp only
  split
  ·rfl
  ·exact e
 ob:=λi b m=>by
  have hb:=I.ob i b (reA_O.mp m).1;unfold Bs.reA;dsimp only;rw[if_neg λw=>hb w.2];exactλz=>hb (I.there b z)
 len:=I.len
 slot:=λi s e=>by
  have h:=I.slot i s e;have own:∀{a:AD},cU K G H σ[i]? a s->B.H a=none->(B.reA K G H σ ρ A).H a=none:=λ{a} w n=>by
   unfold Bs.reA;dsimp only;rw[if_pos ⟨⟨i,s,e,w⟩,n⟩]
  have inO:∀{n:Nat} {a:AD},cU K G H σ[i]? a s->(n,a)∈B.O->(n,a)∈(B.reA K G H σ ρ A).O:=λ{n a} w m=>reA_O.mpr ⟨m,λz=>hA a z i s e w⟩
  cases s with
  |emp=>trivial
  |two _ _=>trivial
  |val d=>exact h
  |own ds=>obtain⟨l,xs,k1,k2,k3,k4,k5⟩:=h;exact⟨l,xs,k1,k2,k3,k4,own k1 k5⟩
  |par ds=>obtain⟨l,xs,k1,k2,k3,k4,k5⟩:=h;exact⟨l,xs,k1,k2,k3,k4,inO k1 k5⟩
  |tre t=>obtain⟨v,A',k1,k2,k3,k4⟩:=h;exact⟨v,A',k1,k2,k3,λa m=>⟨(k4 a m).1,own ⟨v,A',k1,k2,m⟩ (k4 a m).2⟩⟩
  |ptr t=>
   obtain⟨v,A',k1,k2,⟨k3,p,rfl,k5,k6⟩,k4⟩:=h;obtain⟨p2,q1,q2⟩:=k2.head;cases q1;exact⟨_,A',k1,k2,⟨k3,p,rfl,inO ⟨_,A',k1,k2,q2⟩ k5,λz=>inO ⟨_,A',k1,k2,q2⟩ (k6 z)⟩,λa m=>⟨(k4 a m).1,(k4 a m).2.imp (inO ⟨_,A',k1,k2,m⟩) λz=>⟨own ⟨_,A',k1,k2,m⟩ z.1,by
    obtain⟨y1,p3,y2,y3⟩:=z;cases y2;exact⟨p,rfl,inO ⟨_,A',k1,k2,q2⟩ y3⟩⟩⟩⟩
 dis:=I.dis
end
abbrev MXG:=R->AB (Str×R)
end M
namespace M
open L2 PySem PySem.Spec
open PyProof.Rows hiding St
open Builtin Builtin.Str
def sIx (x:Str)(i:Int):AB Str:=(atI x.cps.toList i).map λc=>⟨#[c]⟩
def tS (i:Int):Str:=Str.ofString (toString i)
end M
namespace L2
open PyProof.Rows PySem PySem.Spec
theorem zoU {X:Cx}{AM:AA (AD×Obj)}{s:AE}{σ:St}{H:Hp}{l b sl:AD}{xs ys:AA V}{a c:Int}{vl vu:AC}{Q:Unit->AE->Prop}(I:Inv X AM σ H s)(hH:H l=some (.lst xs))(hB:H b=some (.lst ys))(hne:l≠b)(hs:s.heap.IsSliceOf sl vl vu .none)(ra:RelV (.int a) vl)(rc:RelV (.int c) vu)(h0:0<=a)(hac:a<=c)(hc:a<=xs.length)(hz:xs.length+ys.length<=sizeLine)(h:∀s',Inv X AM σ (upd H l (.lst (xs.take a.toNat++ys++xs.drop c.toNat))) s'->Q () s'):
  AG (model X.prog X.w) X.A (setItem (.ref l) (.ref sl) (.ref b)) Q X.xe s:=by
 obtain⟨ta,rfl⟩:=ra;obtain⟨tc,rfl⟩:=rc;obtain⟨z,its,n,r,hl,e⟩:=I.lstM hH;obtain⟨z2,its2,n2,r2,hl2,e2⟩:=I.lstM hB;obtain⟨a',rfl⟩:=Tf h0;obtain⟨c',rfl⟩:=Tf (Xa h0 hac);simp only[Bf]at h;have ed:xs.drop c'=xs.drop (min c' its.length):=by
  by_cases g:c'<=its.length
  ·rw[qcW g]
  ·rw[Nat.min_eq_right ∅,List.drop_eq_nil_of_le ∅,List.drop_eq_nil_of_le ∅]
 rw[ed]at h;refine zjR (a:=a') (c:=c') e e2 hne hs (.int _ _) (.int _ _) ∅ (by rw[bR];lia) (by rw[bR,bR];lia) (h _ ?_);rw[bR];refine I.lset (its':=its.take a'++its2++its.drop (min c' its.length)) (t':=s.toks) hH e ?_ (Vals.append (Vals.append (r.take _) r2) (r.drop _)) ?_
 ·exact zmn its its2 a' (min c' its.length)
 ·rw[eS,eS,kA,tR];lia
def Wg (i:Nat)(tl th:TE):TG:=λv σ H Q=>∃x,σ[i]? =some (some x)/\tl σ H λa H1=>th σ H1 λc H2=>∃(l b:AD) (xs ys:AA V) (m n:Int),x= .ref l/\v= .ref b/\a= .int m/\c= .int n/\H2 l=some (.lst xs)/\H2 b=some (.lst ys)/\l≠b/\0<=m/\m<=n/\m<=xs.length/\xs.length+ys.length<=sizeLine/\Q σ (upd H2 l (.lst (xs.take m.toNat++ys++xs.drop n.toNat)))
theorem zY {X:Cx}{i:Nat}{x:Str}{lo hi:AI}{tl th:TE}{p p2 pos:Pos}(hl:PE X lo tl)(hu:PE X hi th)(hN:X.N[i]? =some x)(hv:dJ X.env.scope x)(hd:(x==("__debug__":Str))=false:=by decide)(hcd:(x==("__classdict__":Str))=false:=by decide):PG X (.Subscript (.Name x p) (.Slice (some lo) (some hi) none p2) pos) (Wg i tl th):=by
 intro AM s σ H v u Q I r h;rw[arm_assign_Subscript];obtain⟨y,hy,h⟩:=h;refine aH (fV (aW (eB hN hv hd hcd AM s σ H (λz H1=>z=y/\H1=H) I ⟨y,hy,rfl,rfl⟩) λov s1 ⟨z,H1,I1,r1,q1,q2⟩=>?_));subst q1 q2;refine aH (fV (wpAny_Slice (aW (hl AM s1 σ _ _ I1 h) λvl s2 ⟨a,H2,I2,pl,q⟩=>?_)));refine aW (hu AM s2 σ _ _ I2 q) λvu s3 ⟨c,H3,I3,pu,l,b,xs,ys,m,n,f1,f2,f3,f4,f5,f6,f7,f8,f9,f10,f11,f12⟩=>?_
 subst f1 f2 f3 f4;cases r1;cases r;rw[qbr];refine qaB (aH (Hf (aH (fV ?_))));have I4:Inv X AM σ H3 {s3 with heap:=s3.heap.push {cls:= .type "slice",data:= .fields #[vl,vu,.none]}}:=I3.kept (t':=s3.toks) λb ob q=>bP _ q
 exact zoU I4 f5 f6 f7 (qbs ..) pl pu f8 f9 f10 f11 λs' I'=>wpAny_release ⟨σ,_,I',f12⟩
end L2
namespace M
open L2 PySem PySem.Spec
open PyProof.Rows hiding St
variable {X:Cx}{e tg:AI}{a l C p:AD}{x c:Str}{ks:AA Int}{k j i:Nat}{v:V}{u oc:AC}{K:AF}{m:MO}{pl:Sem Bool}{s:Sl}{xs ys:AA V}{ds:AA D}{vs:AA (Str×V)}{o:Obj}{ns:AA Str}{ls:AA (AA D)}{dk:AA Int×AA D}{q:Str×AA Str×AA (AA D)×AB (AA Int×AA D)}{osl:Array (AB AC)}
def sP (i:Nat)(me ml mh:ME):MS:=λρ=>(me ρ).bind λp=>if(p.2[i]?.bind Sl.items).isSome then(ml p.2).bind λq=>(mh q.2).bind λr=>r.2[i]?.bind λs=>s.items.bind λds=>match p.1,q.1,r.1 with
 | .lst es,.int m,.int n=>if decide (0<=m)&&decide (m<=n)&&decide (m<=ds.length)&&decide (ds.length+es.length<=16777216)then some (.next,r.2.set i (s.put (ds.take m.toNat++es++ds.drop n.toNat)))else none
 |_,_,_=>none else none
theorem An {e a b:AI}{me ml mh:ME}{pos:Pos}(i:Nat){p p2 pos':Pos}(he:SE X e me)(hl:SE X a ml)(hh:SE X b mh)(hN:X.N[i]? =some x:=by rfl)(hv:dJ X.env.scope x:=by trivial)(hd:(x==("__debug__":Str))=false:=by decide)(hcd:(x==("__classdict__":Str))=false:=by decide)(hs:swapsWithSole [.Subscript (.Name x p) (.Slice (some a) (some b) none p2) pos'] e pos.line X.env=pure false:=by rfl)(hw:swappedStores [.Subscript (.Name x p) (.Slice (some a) (some b) none p2) pos'] e X.env=pure none:=by rfl)(h1:(assignEach [.Subscript (.Name x p) (.Slice (some a) (some b) none p2) pos'] X.env).map (·.2)=[assign (.Subscript (.Name x p) (.Slice (some a) (some b) none p2) pos') X.env]:=by rfl):
  SS X (.Assign [.Subscript (.Name x p) (.Slice (some a) (some b) none p2) pos'] e pos) (sP i me ml mh):=by
 refine he.el λt pe se=>?_
 refine hl.el λt1 pl sl=>?_
 refine hh.el λt2 ph sh=>?_
 refine⟨_,Er pe (zY pl ph hN hv hd hcd) hs hw h1,λB G H σ ρ fl ρ' E I hm k=>?_⟩;refine bD hm λd ρ1 e1 hm=>?_
 dsimp only at hm;refine aY hm λhso hm=>?_
 ·skip
  obtain⟨ds0,hso⟩:=qa1.mp hso;refine aP hso λs0 e0 q0=>?_
  refine bD hm λdm ρ2 e2 hm=>?_
  refine bD hm λdn ρ3 e3 hm=>?_
  refine aP hm λs1 e4 hm=>?_
  refine aP hm λds e5 hm=>?_
  dsimp only at hm
  split at hm
  ·split at hm
   ·rename_i hc;simp only[cV,iN]at hc;exists bK hm;refine se B G H σ ρ _ ρ1 _ I e1 λG1 H1 v I1 f1 r1=>?_
    obtain⟨l,xs0,k1,k2,k3,k4⟩:=I1.wr e0 q0;refine⟨.ref l,k1,sl B G1 H1 σ ρ1 _ ρ2 _ I1 e2 λG2 H2 v2 I2 f2 r2=>sh B G2 H2 σ ρ2 _ ρ3 _ I2 e3 λG3 H3 v3 I3 f3 r3=>?_⟩;obtain⟨l',xs,j1,j2,j3,j4⟩:=I3.wr e4 e5;rw[k1]at j1;cases j1;obtain⟨b',zs,rfl,hb,rb⟩:=RepD.mono (f2.trans f3) r1;refine⟨l,b',xs,zs,_,_,rfl,rfl,r2,r3,j3,I3.fz _ _ hb,λz=>?_,hc.1.1.1,hc.1.1.2,by rw[j4.length];exact hc.1.2,by rw[j4.length,rb.length,gZ];exact hc.2,?_⟩
    ·subst z;rw[j2]at hb;exact aI hb
    ·exact k G3 _ σ (I3.write e4 e5 k1 (((j4.take _).append rb).append (j4.drop _))) (f1.trans (f2.trans f3))
   ·exact aI hm
  ·exact aI hm
section
variable {P:AJ}{w:World}{H G:Hp}{h:AK}{a:AD}{o:Obj}{zs:AA (Int×Tok×AC)}{ks:AA Int}{ys:AA (L2.cO×V)}
def enK (z:Int×Tok×AC):DictEntry:=⟨hashInt z.1,.int z.1 z.2.1,z.2.2⟩
def vsK (zs:AA (Int×Tok×AC)):AA (L2.cO×AC):=zs.map λz=>(kI z.1,z.2.2)
theorem oV (z:Int×Tok×AC):(kN P w).is (kI z.1) (enK z).key=true:=Ya (k:=kI z.1) ⟨z.2.1,rfl⟩
theorem zlU:∀zs:AA (Int×Tok×AC),Pairs (kN P w) (zs.map enK) (vsK zs)
 |[]=> .nil
 |z::zs=> .cons (oV z) rfl (zlU zs)
theorem znz (zs:AA (Int×Tok×AC)):(vsK zs).map (·.1)=(zs.map (·.1)).map kI:=by
 unfold vsK;rw[gC,gC];rfl
theorem pN (h:ks.Nodup):(ks.map kI).Nodup:=by
 induction ks with
 |nil=>exact Hs
 |cons k ks ih=>
  rw[qa0]at h;rw[eY,qa0];refine⟨λm=>?_,ih h.2⟩;obtain⟨j,hj,e⟩:=qci.mp m;cases Ms _ _ e;exact h.1 hj
theorem znE:∀{as bs:AA Int},as.map kI=bs.map kI->as=bs
 |[],[],_=>rfl
 |[],_::_,h=>by cases h
 |_::_,[],h=>by cases h
 |a::as,b::bs,h=>by
  have e:=List.cons.inj h;rw[Ms _ _ e.1,znE e.2]
theorem DkN.kvs (d:DkN a o zs ks ys):KV ys (vsK zs):=by
 have h:=d.kv;unfold vsK
 generalize zs=zs at h
 generalize ys=ys at h
 induction h with
 |nil=>exact .nil
 | @cons p q ps qs e _ ih=>exact .cons ⟨e.1,e.2⟩ ih
theorem DkN.of (d:DkN a o zs ks ys)(g:h.get? a=some o):h.DictOf (kN P w) a (vsK zs):=by
 obtain⟨es,ep,h1,h2⟩:=d.dat;refine⟨o,es,ep,g,d.ex,h1,λe m=>?_,?_,?_⟩
 ·have m':e∈es.toList:=qaP.mpr m;rw[h2]at m';obtain⟨z,hz,e1⟩:=qci.mp m';subst e1;exact⟨kI z.1,oV z,rfl⟩
 ·rw[h2];exact zlU zs
 ·rw[znz,d.zk];exact pN d.nd
theorem Cb:∀{es:AA DictEntry} {kvs:AA (L2.cO×AC)},Pairs (kN P w) es kvs->(∀e∈es,∃k,(kN P w).is k e.key=true/\e.hash=(kN P w).hash k)->(∀q∈kvs,∃n,q.1=kI n)->∃zs,es=zs.map enK/\kvs=vsK zs
 |_,_,.nil,_,_=>⟨[],rfl,rfl⟩
 |_,_,@Pairs.cons _ _ _ _ _ e kv es kvs h1 h2 ht,hk,hn=>by
  obtain⟨zs,e1,e2⟩:=Cb ht (λx m=>hk x (fF _ m)) λx m=>hn x (fF _ m)
  obtain⟨n,hn9⟩:=hn kv gG;obtain⟨k,q1,q2⟩:=hk e gG;rw[hn9]at h1;obtain rfl:k=kI n:=(kN P w).inj _ _ _ q1 h1;rcases tK (k:=kI n) (v:=e.key) h1 with⟨i,t,z1,z2⟩|⟨x,t,z1,z2⟩
  ·obtain⟨eh,ek,ev⟩:=e;obtain⟨kk,vv⟩:=kv;have z1:n=i:=by unfold kI at z1;exact Sum.inl.inj z1
   subst z1;dsimp only at h2 hn9 z2 q2;subst h2 hn9 z2 q2;exact⟨(n,t,ev)::zs,by rw[e1];rfl,by rw[e2];rfl⟩
  ·exact nomatch (show(Sum.inl n:L2.cO)=Sum.inr x from z1)
theorem DkN.put {k:Int}(d:DkN a o zs ks ys)(hl:ks.length<sizeLine)(rv:RelV v u)(dd:h.DictOf (kN P w) a (stored (vsK zs) (kI k) u))(ds:AA D)(dv:D):∃o' zs',h.get? a=some o'/\DkN a o' zs' (gY ks ds k dv).1 (fR ys (kI k) v):=by
 obtain⟨o',es,ep,h1,h2,h3,h4,h5,h6⟩:=dd;have kv:=d.kvs.put (kI k) rv;have key:(fR ys (kI k) v).map (·.1)=((gY ks ds k dv).1).map kI:=by
  unfold fR gY;have any:(ys.any λkv=>decide (kv.1=kI k))=ks.contains k:=by
   have e:=d.key
   generalize ys=ys at e
   generalize ks=ks at e
   induction ys generalizing ks with
   |nil=>cases ks with
    |nil=>rfl
    |cons _ _=>cases e
   |cons y ys ih=>cases ks with
    |nil=>cases e
    |cons j ks=>
     have e2:=List.cons.inj e;rw[wJ,ih ks e2.2,Ck];congr 1
     by_cases q:k=j
     ·subst q;simp[e2.1]
     ·rw[kB (λz=>q (Ms _ _ (e2.1.symm.trans z)).symm)];simp[q]
  rw[any]
  split
  ·rw[<-d.key,gC];refine Ra λp _=>?_
   show(if p.1=kI k then(p.1,v)else p).1=p.1
   split<;>rfl
  ·rw[iS,iS,d.key];rfl
 have ik:∀q∈stored (vsK zs) (kI k) u,∃n,q.1=kI n:=λq m=>by
  have m1:q.1∈(stored (vsK zs) (kI k) u).map (·.1):=qci.mpr ⟨q,m,rfl⟩
  rw[<-KV.keys kv,key]at m1;obtain⟨n,_,e⟩:=qci.mp m1;exact⟨n,e.symm⟩
 obtain⟨zs',e1,e2⟩:=Cb h5 (λe m=>h4 e (qaP.mp m)) ik;rw[e2]at kv h6;have zk:zs'.map (·.1)=(gY ks ds k dv).1:=by
  apply znE;rw[<-znz,<-KV.keys kv,key]
 refine⟨o',zs',h1,d.sys,h2,⟨es,ep,h3,e1⟩,?_,?_,zk,key,?_⟩
 ·have:((gY ks ds k dv).1).Nodup:=by
   unfold gY
   split
   ·exact d.nd
   ·rename_i c;rw[qcM];refine⟨d.nd,by simp,λx hx y hy z=>c ?_⟩;have:y=k:= ~~~hy
    subst this;subst z;exact qcX.mpr hx
  exact this
 ·have l1:=zna ys (kI k) v;have l2:ys.length=ks.length:=by have:=congrArg List.length d.key;simpa using this
  lia
 ·unfold vsK at kv
  generalize fR ys (kI k) v=yy at kv
  clear zk e1 e2 h6 key
  induction zs' generalizing yy with
  |nil=>cases kv;exact .nil
  |cons z zs' ih=>
   cases kv with
   |cons r t=>exact .cons ⟨r.1,r.2⟩ (ih _ t)
def Itn (d:AD)(o:Obj)(ks:AA Int):It:=
 ⟨λi H=>H d=some (kn d o)/\i<ks.length,λi H x H'=>H'=H/\∃k,ks[i]? =some k/\x= .int k,λi H=>H d=some (kn d o)/\ks.length<=i⟩
theorem zoR (d it:AD)(dn:DkN d o zs ks ys):Turn P w K tg (Itn d o ks) [it] it (λi h=>∃es ep,o.data= .dict es ep/\h.IsKeyIter it d i ks.length ep) where
 mem:=by simp
 obj:=λi h ⟨es,ep,_,st⟩ b hb=>by
  have e:b=it:= ~~~hb
  subst e;obtain⟨o,e,c,d⟩:=st;exact⟨o,e,λv z=>by rw[d]at z;cases z⟩
 keep:=λi h h' ⟨es,ep,q,st⟩ k=>⟨es,ep,q,st.at λo e=>k it (by simp) o e⟩
 item:=by
  intro X hP hw hK hc i AM s σ H E I hf ⟨es,ep,q,st⟩ hg;subst hP hw hK;have g:=Lh I.hok hg.1;obtain⟨es',ep',h2,he⟩:=dn.dat;rw[h2]at q;cases q;have hz:es.size=ks.length:=by have h1:=congrArg List.length he;have h2:=congrArg List.length dn.zk;simp at h1 h2;lia
  obtain⟨f0,f1,f2,f3,f4,f5⟩:=hf it (by simp);have hi:i<es.size:=by rw[hz];exact hg.2
  rw[<-hz]at st;refine rX st g h2 hi λh' st' sb=>?_
  have I1:Inv X AM σ H {s with heap:=h'}:=I.turned (t':=s.toks) (λb o hb e=>(sb.2 b hb).trans e) f0 f1 f3 f4 f5;obtain⟨o',e,c,d'⟩:=id st';have hx:zs[i]? =some (zs[i]'(by have:=congrArg List.length dn.zk;simp at this;lia)):=bI _
  generalize zs[i]'_=z at hx
  have hk:ks[i]? =some z.1:=by rw[<-dn.zk,cJ,hx];rfl
  have key:es[i].key= .int z.1 z.2.1:=by
   have h1:es.toList[i]? =some es[i]:=by simp[hi]
   rw[he,cJ,hx]at h1;rw[<-Option.some.inj h1]
  rw[key];exact⟨_,rfl,kP (s:={s with heap:=h'}) e c d' (by decide) ⟨.int z.1,H,I1,⟨_,rfl⟩,⟨rfl,_,hk,rfl⟩,⟨es,ep,h2,by rw[<-hz];exact st'⟩,λb hb=>(hf b hb).1⟩⟩
 done:=by
  intro X hP hw hK hc i AM s σ H E I hf ⟨es,ep,q,st⟩ hg;subst hP hw hK;have g:=Lh I.hok hg.1;obtain⟨es',ep',h2,he⟩:=dn.dat;rw[h2]at q;cases q;have hz:es.size=ks.length:=by have h1:=congrArg List.length he;have h2:=congrArg List.length dn.zk;simp at h1 h2;lia
  obtain⟨f0,f1,f2,f3,f4,f5⟩:=hf it (by simp);rw[<-hz]at st;exact wH (I.ok.hd hc) st g h2 (by rw[hz];exact hg.2) λh' eb=>⟨rfl,I.turned (t':=s.toks) (λb o hb e=>eb b o hb e) f0 f1 f3 f4 f5⟩
 self:=λ_ _ _ _ _ ⟨_,_,_,st⟩ h=>wpAny_pyIter_keyiter st h
def iKnN (tl:TE):TI:=λσ H R=>tl σ H λx H1=>∃d o zs ks ys,x= .ref d/\H1 d=some (kn d o)/\DkN d o zs ks ys/\R (Itn d o ks) H1
theorem Ur {tg l:AI}{tl:TE}(hl:PE X l tl):PI X tg l (iKnN tl):=by
 intro AM s σ H R I h;refine aW (hl AM s σ H _ I h) λv s1 ⟨x,H1,I1,r1,q1⟩=>?_
 obtain⟨d,o,zs,ks,ys,e,hd,dn,q⟩:=q1;subst e;cases r1;have g:=Lh I1.hok hd;obtain⟨es,ep,h2,he⟩:=dn.dat;have hz:es.size=ks.length:=by have h1:=congrArg List.length he;have h2:=congrArg List.length dn.zk;simp at h1 h2;lia
 refine oB dn.sys g dn.ex h2 ?_;refine⟨s1⁻¹,[s1⁻¹],_,_,H1,rfl,I1.kept (t':=s1.toks) λb o e=>bP _ e,zoR d _ dn,⟨es,ep,h2,_,eN _ rfl,rfl,by rw[hz];rfl⟩,λb hb=>?_,q⟩;have e:b=s1⁻¹:= ~~~hb
 subst e;exact I1.fpOk (bC _) (I1.hok.fresh (bC _))
end
def DkG (H:Hp)(x y:V)(r:AB V):Prop:=∃(a:AD) (o:Obj) (zs:AA (Int×Tok×AC)) (ks:AA Int) (ys:AA (L2.cO×V)) (k:Int),x= .ref a/\y= .int k/\H a=some (kn a o)/\DkN a o zs ks ys/\r=fJ ys (kI k)
section
variable {X:Cx}{e i value:AI}{td ty tv:TE}{pos pos':Pos}
def tDGN (td ty:TE):TE:=λσ H Q=>td σ H λx H1=>ty σ H1 λy H2=>∃v,DkG H2 x y (some v)/\Q v H2
theorem nE (ho:PE X e td)(hi:PE X i ty)(hs:Mo i):PE X (.Subscript e i pos) (tDGN td ty):=by
 intro AM s σ H Q I h;refine Ai PySem.F.slot_dict_getitem.lookup hs (aW (ho AM s σ H _ I h) λu s1 ⟨x,H1,I1,rx,q1⟩=>aW (hi AM s1 σ H1 _ I1 q1) λiv s2 ⟨y,H2,I2,ry,v,g,q2⟩=>?_);obtain⟨a,o,zs,ks,ys,k,rfl,rfl,g1,g2,g4⟩:=g;obtain rfl:u=Value.ref a:=rx;have dd:=g2.of (P:=X.prog) (w:=X.w) (Lh I2.hok g1);obtain⟨w',hw,rw'⟩:=RelO.some_of (v:=v) (o:=valueAt (vsK zs) (kI k)) (by rw[g4];exact g2.kvs.val (kI k));exact⟨dd.typeIs,wpAny_getItem_of (Ya (k:=kI k) ry) dd.mapOf hw ⟨v,H2,I2.tok _,rw',q2⟩⟩
def Vv (neg:Bool)(ty td:TE):TE:=λσ H Q=>ty σ H λy H1=>td σ H1 λx H2=>∃r,DkG H2 x y r/\Q (.bl (r.isSome !=neg)) H2
theorem wG (hi:PE X i ty)(ho:PE X e td):PC X .In i e (Vv false ty td):=by
 intro AM s σ H Q I h;refine aW (hi AM s σ H _ I h) λiv s1 ⟨y,H1,I1,ry,q1⟩=>aW (ho AM s1 σ H1 _ I1 q1) λu s2 ⟨x,H2,I2,rx,r,g,q2⟩=>?_
 obtain⟨a,o,zs,ks,ys,k,rfl,rfl,g1,g2,g4⟩:=g;obtain rfl:u=Value.ref a:=rx;have dd:=g2.of (P:=X.prog) (w:=X.w) (Lh I2.hok g1);refine wpAny_in_of (Ya (k:=kI k) ry) g2.sys dd.mapOf ?_;have q:=(g2.kvs.val (kI k)).isSome_eq;rw[<-q,<-g4];have z:(r.isSome !=false)=r.isSome:=by cases r.isSome<;>rfl
 rw[z]at q2;exact⟨.bl r.isSome,H2,I2.tok _,rfl,q2⟩
theorem zoN (hi:PE X i ty)(ho:PE X e td):PC X .NotIn i e (Vv true ty td):=by
 intro AM s σ H Q I h;refine aW (hi AM s σ H _ I h) λiv s1 ⟨y,H1,I1,ry,q1⟩=>aW (ho AM s1 σ H1 _ I1 q1) λu s2 ⟨x,H2,I2,rx,r,g,q2⟩=>?_
 obtain⟨a,o,zs,ks,ys,k,rfl,rfl,g1,g2,g4⟩:=g;obtain rfl:u=Value.ref a:=rx;have dd:=g2.of (P:=X.prog) (w:=X.w) (Lh I2.hok g1);refine wpAny_notIn_of (Ya (k:=kI k) ry) g2.sys dd.mapOf ?_;have q:=(g2.kvs.val (kI k)).isSome_eq;rw[<-q,<-g4];have z:(r.isSome !=true)=!r.isSome:=by cases r.isSome<;>rfl
 rw[z]at q2;exact⟨.bl (!r.isSome),H2,I2.tok _,rfl,q2⟩
def sDPN (td ty tv:TE):TS:=λD σ H=>tv σ H λv H1=>td σ H1 λx H2=>ty σ H2 λy H3=>∃(a:AD) (o:Obj) (zs:AA (Int×Tok×AC)) (ks:AA Int) (ys:AA (L2.cO×V)) (k:Int),x= .ref a/\y= .int k/\H3 a=some (kn a o)/\DkN a o zs ks ys/\ks.length<sizeLine/\∀o' zs' ks' ys',(∀ds dv,ks'=(gY ks ds k dv).1)->ys'=fR ys (kI k) v->DkN a o' zs' ks' ys'->D.nx σ (upd H3 a (kn a o'))
theorem uK {J:Type}[DecidableEq J](ks:AA J)(ds es:AA D)(j:J)(d e:D):(gY ks ds j d).1=(gY ks es j e).1:=by unfold gY;split<;>rfl
theorem sN (ho:PE X e td)(hi:PE X i ty)(hv:PE X value tv)(hs:swapsWith value (some (.Subscript e i pos')) pos.line X.env=pure false):
  PS X (.Assign [.Subscript e i pos'] value pos) (sDPN td ty tv):=by
 intro AM s σ H D I h;refine wpAny_Assign_Subscript (aW (hv AM s σ H _ I h) λr s1 ⟨v,H1,I1,rv,q1⟩=>aW (ho AM s1 σ H1 _ I1 q1) λu s2 ⟨x,H2,I2,rx,q2⟩=>aW (hi AM s2 σ H2 _ I2 q2) λiv s3 ⟨y,H3,I3,ry,a,o,zs,ks,ys,k,e1,e2,g1,g2,hl,q3⟩=>?_) hs;subst e1 e2;obtain rfl:u=Value.ref a:=rx;have hz:(vsK zs).length<=sizeLine:=by rw[<-g2.kvs.length];exact g2.len
 refine wpAny_setItem_pairs (hsz:=hz) (Ya (k:=kI k) ry) (g2.of (Lh I3.hok g1)) λh' dd' hs=>?_
 obtain⟨o',zs',go,dn⟩:=g2.put hl rv dd' [] .non;exact⟨σ,_,yI I3 (by rw[g1];exact True.intro) hs ⟨o',go⟩ (Ef go),q3 o' zs' _ _ (λds dv=>uK _ _ _ _ _ _) rfl dn⟩
def Ji:TE:=λ_ H Q=>∀p o,H p=none->DkN p o [] [] []->Q (.ref p) (upd H p (kn p o))
theorem rF:PE X (.Dict [] [] pos) Ji:=λAM s σ H Q I h=>
 wpAny_Dict_empty ⟨.ref s⁻¹,_,I.laid (a:=s⁻¹) (o:=kn s⁻¹ {cls:= .type "dict",data:= .dict #[]}) (t':=s.toks) (λ_ _ q=>bP _ q) (bC _) (Ef (eN _ rfl)),rfl,h _ _ (I.hok.fresh (bC _)) ⟨qab.mpr (Ne.symm (fY I.big)),⟨rfl,rfl,rfl⟩,⟨#[],0,rfl,rfl⟩,Hs,gR _,rfl,rfl,.nil⟩⟩
end
def OC (K:AF)(c:Str)(ns:AA Str):Prop:=∃C,W.nsIn K AL c=some (some (.ref C))/\Cls K C/\∀f∈ns,NoAttr K C f
theorem Qq:∀{vs:AA (Str×V)} {ns:AA Str} {k:Nat} {f:Str} {v:V},vs.map (·.1)=ns->ns[k]? =some f->(ns.take k).contains f=false->(vs.map (·.2))[k]? =some v->vs.lookup f=some v
 |[],_,_,_,_,e,h,_,_=>by subst e;simp at h
 |(g,u)::vs,_,0,f,v,e,h,_,q=>by
  subst e;simp at h q;subst h q;simp[List.lookup]
 |(g,u)::vs,_,k+1,f,v,e,h,n,q=>by
  subst e;rw[eY,qcK,Ck,Zq]at n;have:=Qq (vs:=vs) rfl (~~~h) n.2 (~~~q);simp only[List.lookup,n.1,this]
theorem zg0:∀{vs:AA (Str×V)} {f:Str},(vs.map (·.1)).contains f=false->vs.lookup f=none
 |[],_,_=>rfl
 |(g,u)::vs,f,n=>by
  rw[eY,Ck,Zq]at n;simp only[List.lookup,n.1,zg0 n.2]
def fA (c:Str)(ns:AA Str)(k:Nat):D->AB D
 | .obj c' ns' ls _ _=>if c'=c/\ns'=ns then ls[k]? else none
 |_=>none
abbrev MK:=R->AB ((AA Int×AA D)×R)
def Uc (X:Cx)(e:AI)(m:MK)(t:TE):Prop:=∀B G H σ ρ q ρ' (Q:VK),SI X.K B G H σ ρ->m ρ=some (q,ρ')->(∀G' H' p o zs ys,SI X.K B G' H' σ ρ'->Fz G G'->G' p=some (kn p o)->DkN p o zs q.1 ys->RepL X.K G' (ys.map (·.2)) q.2->Q (.ref p) H')->t σ H Q
def SDk (X:Cx)(e:AI)(m:MK):Prop:=∃t,PE X e t/\Uc X e m t
theorem SDk.el {m:MK}{C:Prop}(h:SDk X e m)(k:∀t,PE X e t->Uc X e m t->C):C:=h.elim λt q=>k t q.1 q.2
def Be (c:Str)(ns:AA Str)(me:ME):MK:=λρ=>(me ρ).bind λp=>match p.1 with
 | .obj c' ns' _ ks ds=>if c'=c/\ns'=ns then some ((ks,ds),p.2)else none
 |_=>none
def Vi (md:MK)(mi:ME):ME:=λρ=>(md ρ).bind λp=>(mi p.2).bind λq=>match q.1 with
 | .int k=>(jD p.1.1 p.1.2 k).map λd=>(d,q.2)
 |_=>none
def Oz (neg:Bool)(mi:ME)(md:MK):MT:=λρ=>(mi ρ).bind λp=>(md p.2).bind λq=>match p.1 with
 | .int k=>some (((jD q.1.1 q.1.2 k).isSome !=neg),q.2)
 |_=>none
def iKN (md:MK):MA:=λρ=>(md ρ).map λp=>(p.1.1.map .int,p.2)
structure MV (P:Program)(w:World)(K:W.Frag)(mg:Str->Option Value)(base:Heap)(k:Nat)(c m:Str)(sp:Sp):Prop where
 ex:∃C f fd ps,W.nsIn K mainGlobals c=some (some (.ref C))/\Cls K C/\Meth K C m f/\FnOk P w K mg base iJ k f fd ps sp/\Binds K fd ps []
def lV (F:AA D->AB Sl)(c:Str)(ns:AA Str)(mo:ME)(ma:MA):ME:=λρ=>(mo ρ).bind λp=>match p.1 with
 | .obj c' ns' ls ks ds=>if c'=c/\ns'=ns then(ma p.2).bind λq=>(F (.obj c' ns' ls ks ds::q.1)).bind λr=>match r with
  | .val d=>some (d,q.2)
  | .own ds=>some (.lst ds,q.2)
  |_=>none else none
 |_=>none
section
variable {X:Cx}{c f mt:Str}{ns:AA Str}{e i a:AI}{es:AA AI}{me mi mo:ME}{ma:MA}{md:MK}{p pos pos' ap:Pos}{k k' n:Nat}{F:AA D->AB Sl}{tg:AI}
theorem gH (k:Nat)(oc:OC X.K c ns)(he:SE X e me)(hk:ns[k]? =some f:=by rfl)(hn:(ns.take k).contains f=false:=by decide+kernel)(hb:attributeBase e f X.env (eval e X.env)=eval e X.env:=by rfl):SE X (.Attribute e f pos) (m1 (fA c ns k) me):=by
 obtain⟨C,c1,c2,c3⟩:=oc;refine he.el λt pe se=>?_
 refine⟨_,znr pe hb,λB G H σ ρ d ρ' Q I hm kk=>?_⟩;refine bD hm λo ρ1 e1 hm'=>?_
 clear hm;have hm:=hm';clear hm';try dsimp only at hm
 refine bQ hm λd' e2 e3=>?_
 cases e3;refine se B G H σ ρ o _ _ I e1 λG1 H1 v I1 f1 r1=>?_
 cases o<;>try exact aI e2
 rename_i c' ns' ls ks ds;unfold fA at e2;dsimp only at e2
 split at e2
 ·rename_i h;exists h;obtain⟨a,C2,dx,vs,ws,q,o,zs,ys,rfl,h1,h2,h3,h4,h5,h6,h7,h8⟩:=r1;rw[c1]at h1;cases h1;obtain⟨x,g1,g2⟩:=h5.get e2;refine⟨a,C,dx,vs,x,rfl,I1.fz _ _ h2,c2,c3 f (gI hk),Qq h3 hk hn ?_,kk G1 H1 x I1 f1 g2⟩;rw[h4,hG (qas.mp g1).1,g1]
 ·exact aI e2
theorem Om (k:Nat)(oc:OC X.K c ns)(he:SE X e me)(hk:ns[k]? =some f:=by rfl)(hl:k+1=ns.length:=by rfl)(hn:(ns.take k).contains f=false:=by decide+kernel)(hb:attributeBase e f X.env (eval e X.env)=eval e X.env:=by rfl):SDk X (.Attribute e f pos) (Be c ns me):=by
 obtain⟨C,c1,c2,c3⟩:=oc;refine he.el λt pe se=>?_
 refine⟨_,znr pe hb,λB G H σ ρ d ρ' Q I hm kk=>?_⟩;refine bD hm λo ρ1 e1 hm'=>?_
 clear hm;have hm:=hm';clear hm';try dsimp only at hm
 try dsimp only at hm
 refine se B G H σ ρ o ρ1 _ I e1 λG1 H1 v I1 f1 r1=>?_
 cases o<;>try exact aI hm
 rename_i c' ns' ls ks ds;dsimp only at hm
 split at hm
 ·rename_i h;exists h;cases hm;obtain⟨a,C2,dx,vs,ws,q,o,zs,ys,rfl,h1,h2,h3,h4,h5,h6,h7,h8⟩:=r1;rw[c1]at h1;cases h1;refine⟨a,C,dx,vs,.ref q,rfl,I1.fz _ _ h2,c2,c3 f (gI hk),Qq h3 hk hn ?_,kk G1 H1 q o zs ys I1 f1 h6 h7 h8⟩;have l1:=congrArg List.length h3;have l2:=congrArg List.length h4;simp at l1 l2;rw[h4,show k=ws.length by lia];simp
 ·exact aI hm
theorem zkw (hd:SDk X e md)(hi:SE X i mi)(hs:Mo i:=by exactλ_ _=>rfl):SE X (.Subscript e i pos) (Vi md mi):=by
  refine hd.el λt pd sd=>?_
  refine hi.el λu pi si=>?_
  refine⟨_,nE pd pi hs,λB G H σ ρ d ρ' Q I hm kk=>?_⟩;refine bD hm λq ρ1 e1 hm'=>?_
  clear hm;have hm:=hm';clear hm';try dsimp only at hm
  refine bD hm λy ρ2 e2 hm'=>?_
  clear hm;have hm:=hm';clear hm';try dsimp only at hm
  refine sd B G H σ ρ q ρ1 _ I e1 λG1 H1 p o zs ys I1 f1 g1 g2 g3=>si B G1 H1 σ ρ1 y ρ2 _ I1 e2 λG2 H2 v I2 f2 r2=>?_
  cases y<;>try exact aI hm
  rename_i n;refine bQ hm λd' e3 e4=>?_
  cases e4;obtain⟨w,h1,h2⟩:=zmy Ms g2.key (g3.mono f2) e3;exact⟨w,⟨p,o,zs,q.1,ys,n,rfl,r2,I2.fz _ _ (f2 _ _ g1),g2,h1.symm⟩,kk G2 H2 w I2 (f1.trans f2) h2⟩
theorem uV (hi:SE X i mi)(hd:SDk X e md)(hm:behindInMarks .In e=false:=by rfl):STt X (.Compare i [.In] [e] pos) (Oz false mi md):=by
 refine hd.el λt pd sd=>?_
 refine hi.el λu pi si=>?_
 refine⟨_,nM (wG pi pd) hm,λB G H σ ρ b ρ' Q I hm kk=>?_⟩;refine bD hm λy ρ1 e1 hm'=>?_
 clear hm;have hm:=hm';clear hm';try dsimp only at hm
 refine bD hm λq ρ2 e2 hm'=>?_
 clear hm;have hm:=hm';clear hm';try dsimp only at hm
 refine si B G H σ ρ y ρ1 _ I e1 λG1 H1 v I1 f1 r1=>sd B G1 H1 σ ρ1 q ρ2 _ I1 e2 λG2 H2 p o zs ys I2 f2 g1 g2 g3=>?_
 cases y<;>try cases hm
 rename_i n;refine⟨fJ ys (kI n),⟨p,o,zs,q.1,ys,n,rfl,r1,I2.fz _ _ g1,g2,rfl⟩,_,rfl,?_⟩;rw[zmg Ms g2.key g3];exact kk G2 H2 I2 (f1.trans f2)
theorem zoA (hi:SE X i mi)(hd:SDk X e md)(hm:behindInMarks .NotIn e=false:=by rfl):STt X (.Compare i [.NotIn] [e] pos) (Oz true mi md):=by
 refine hd.el λt pd sd=>?_
 refine hi.el λu pi si=>?_
 refine⟨_,nM (zoN pi pd) hm,λB G H σ ρ b ρ' Q I hm kk=>?_⟩;refine bD hm λy ρ1 e1 hm'=>?_
 clear hm;have hm:=hm';clear hm';try dsimp only at hm
 refine bD hm λq ρ2 e2 hm'=>?_
 clear hm;have hm:=hm';clear hm';try dsimp only at hm
 refine si B G H σ ρ y ρ1 _ I e1 λG1 H1 v I1 f1 r1=>sd B G1 H1 σ ρ1 q ρ2 _ I1 e2 λG2 H2 p o zs ys I2 f2 g1 g2 g3=>?_
 cases y<;>try cases hm
 rename_i n;refine⟨fJ ys (kI n),⟨p,o,zs,q.1,ys,n,rfl,r1,I2.fz _ _ g1,g2,rfl⟩,_,rfl,?_⟩;rw[zmg Ms g2.key g3];exact kk G2 H2 I2 (f1.trans f2)
theorem Ui (hd:SDk X e md):SIt X tg e (iKN md):=by
 refine hd.el λt pd sd=>?_
 refine⟨_,Ur pd,λB G H σ ρ ds ρ' Q I hm kk=>?_⟩;refine jA hm λq ρ1 e1 hm'=>?_
 clear hm;have hm:=hm';clear hm';try dsimp only at hm
 cases hm;refine sd B G H σ ρ q _ _ I e1 λG1 H1 p o zs ys I1 f1 g1 g2 g3=>⟨p,o,zs,q.1,ys,rfl,I1.fz _ _ g1,g2,?_⟩
 refine kk _ _ _ I1 f1 ⟨λH' i f hi=>⟨f _ _ g1,~~~hi⟩,λH' i x H'' f y d ed=>?_,λH' i f hi=>⟨f _ _ g1,~~~hi⟩⟩;obtain⟨rfl,y,ey,rfl⟩:=y;refine .inl ⟨rfl,?_⟩;rw[cJ,ey]at ed;cases ed
 rfl
theorem qY (hc:ns.contains mt=false)(md:MV X.prog X.w X.K X.mg X.base k c mt (aX X.K n F))(hr:Room k' X.A)(he:SE X e mo)(ha:SA X (a::es) ma)(hn:(a::es).length+1=n:=by rfl)(hk:k<=k':=by decide)(hst:starEach (a::es) X.env=(false,eval a X.env)::starEach es X.env:=by rfl)(hpl:(backTo pos (starEach es X.env)).any (·.1)=false:=by rfl)(AO:∀ρ as ρ',ma ρ=some (as,ρ')->as.length+1=n)(ht : eval (.Call (.Attribute e mt ap) (a :: es) [] pos) X.env = (do
   let ov<-eval e X.env
   standAt ap.atName
   let(f,first)<-holding [ov] (getMethod ov mt pl)
   callWith pos f first (backTo pos (starEach (a::es) X.env)) (backToKw pos (keywordEach [] X.env))):=by rfl):SE X (.Call (.Attribute e mt ap) (a::es) [] pos) (lV F c ns mo ma):=by
 obtain⟨C,f,fdd,ps,c1,c2,c3,c4,c5⟩:=md.ex;refine ha.el λt pa sa=>?_
 refine he.el λu pe se=>?_
 refine⟨_,zo1 pe c2 c3 (c4) (hr.mono hk) c5 .nil Bw pa hst hpl ht,λB G H σ ρ d ρ' Q I hm kk=>?_⟩;refine bD hm λo ρ1 e1 hm'=>?_
 clear hm;have hm:=hm';clear hm';try dsimp only at hm
 refine se B G H σ ρ o ρ1 _ I e1 λG1 H1 v I1 f1 r1=>?_
 cases o<;>try exact aI hm
 rename_i c' ns' ls ks ds;dsimp only at hm
 split at hm
 ·rename_i h;exists h;have r1':=r1;obtain⟨q,C2,dx,vs,ws,p2,o,zs,ys,rfl,h1,h2,h3,h4⟩:=r1;rw[c1]at h1;cases h1;obtain⟨⟨as,ρ2⟩,e2,hm'⟩:=Fu hm;clear hm;have hm:=hm';clear hm';try dsimp only at hm
  refine aP hm λr e3 hm'=>?_
  clear hm;have hm:=hm';clear hm';try dsimp only at hm
  refine⟨q,dx,vs,rfl,I1.fz _ _ h2,zg0 (by rw[h3];exact hc),sa B G1 H1 σ ρ1 as ρ2 _ I1 e2 λG2 H2 us I2 f2 r2=>?_⟩;rw[lE];refine⟨G2,_::as,r,e3,by rw[eH];exact AO _ _ _ e2,I2.fz,.cons (r1'.mono f2) r2,λG3 H3 v f3 fz3 nw kp rr=>?_⟩;have I3:=I2.grow f3 fz3 nw kp;cases r with
  |val d'=>exists bK hm;exact kk G3 H3 v I3 (f1.trans (f2.trans f3)) rr
  |own ds=>
   exists bK hm;obtain⟨l,xs,rfl,g3,h3,r3,b3⟩:=rr;obtain⟨I4,f4,r4⟩:=Ff I3 g3 h3 r3 (I2.there l b3) (I2.own_ne b3 nw kp);exact kk _ H3 _ I4 (f1.trans (f2.trans (f3.trans f4))) r4
  |emp=>exact aI hm
  |two _ _=>exact aI hm
  |tre _=>exact aI hm
  |ptr _=>exact aI hm
  |par _=>exact aI hm
 ·exact aI hm
theorem Mv (hc:ns.contains mt=false)(md:MV X.prog X.w X.K X.mg X.base k c mt (aX X.K 1 F))(hr:Room k' X.A)(he:SE X e mo)(hk:k<=k':=by decide)(ht : eval (.Call (.Attribute e mt ap) [] [] pos) X.env = (do
   let ov<-eval e X.env
   standAt ap.atName
   let(f,first)<-holding [ov] (getMethod ov mt pl)
   callWith pos f first (backTo pos (starEach [] X.env)) (backToKw pos (keywordEach [] X.env))):=by rfl):SE X (.Call (.Attribute e mt ap) [] [] pos) (lV F c ns mo aB):=by
 obtain⟨C,f,fdd,ps,c1,c2,c3,c4,c5⟩:=md.ex;refine he.el λu pe se=>?_
 refine⟨_,sW pe c2 c3 c4 (hr.mono hk) c5 .nil Bw ht,λB G H σ ρ d ρ' Q I hm kk=>?_⟩;refine bD hm λo ρ1 e1 hm'=>?_
 clear hm;have hm:=hm';clear hm';try dsimp only at hm
 refine se B G H σ ρ o ρ1 _ I e1 λG1 H1 v I1 f1 r1=>?_
 cases o<;>try exact aI hm
 rename_i c' ns' ls ks ds;dsimp only at hm
 split at hm
 ·rename_i h;exists h;have r1':=r1;obtain⟨q,C2,dx,vs,ws,p2,o,zs,ys,rfl,h1,h2,h3,h4⟩:=r1;rw[c1]at h1;cases h1;obtain⟨⟨as,ρ2⟩,e2,hm'⟩:=Fu hm;clear hm;have hm:=hm';clear hm';try dsimp only at hm
  exists bK e2;refine aP hm λr e3 hm'=>?_
  clear hm;have hm:=hm';clear hm';try dsimp only at hm
  refine⟨q,dx,vs,rfl,I1.fz _ _ h2,zg0 (by rw[h3];exact hc),?_⟩;refine⟨G1,[_],r,e3,rfl,I1.fz,.cons r1' .nil,λG3 H3 v f3 fz3 nw kp rr=>?_⟩;have I3:=I1.grow f3 fz3 nw kp;cases r with
  |val d'=>exists bK hm;exact kk G3 H3 v I3 (f1.trans f3) rr
  |own ds=>
   exists bK hm;obtain⟨l,xs,rfl,g3,h3,r3,b3⟩:=rr;obtain⟨I4,f4,r4⟩:=Ff I3 g3 h3 r3 (I1.there l b3) (I1.own_ne b3 nw kp);exact kk _ H3 _ I4 (f1.trans (f3.trans f4)) r4
  |emp=>exact aI hm
  |two _ _=>exact aI hm
  |tre _=>exact aI hm
  |ptr _=>exact aI hm
  |par _=>exact aI hm
 ·exact aI hm
end
def Sl.ob:Sl->AB (Str×AA Str×AA (AA D)×AB (AA Int×AA D))
 | .tre (.obj c ns ls dk)=>some (c,ns,ls,dk)
 | .ptr (.obj c ns ls dk)=>some (c,ns,ls,dk)
 |_=>none
structure ObAt (K:W.Frag)(G H:Hp)(p C dx:Addr)(c:Str)(ns:List Str)(ls:List (List D))(dk:Option (List Int×List D))(vs:List (Str×V))(A:List Addr):Prop where
 nc:W.nsIn K mainGlobals c=some (some (.ref C))
 ob:H p=some (.ins C dx vs)
 dx:H dx=some (.own p)
 nm:vs.map (·.1)=ns
 rp:RepO K G H (vs.map (·.2)) ls dk A
section
variable {K:AF}{B:Bs}{G G' H H':Hp}{σ:St}{ρ:R}{p C dx:AD}{c:Str}{ns ns':AA Str}{ls ls':AA (AA D)}{dk dk':AB (AA Int×AA D)}{vs vs':AA (Str×V)}{A A':AA AD}
theorem ObAt.rep (b:ObAt K G H p C dx c ns ls dk vs A):RepT K G H (.ref p) (.obj c ns ls dk) (p::dx::A):=⟨p,C,dx,vs,A,rfl,b.nc,b.ob,b.dx,b.nm,b.rp,rfl⟩
theorem mK (r:RepT K G H v (.obj c ns ls dk) A):∃p C dx vs A',v= .ref p/\A=p::dx::A'/\ObAt K G H p C dx c ns ls dk vs A':=by
 obtain⟨p,C,dx,vs,A',h1,h2,h3,h4,h5,h6,h7⟩:=r;exact⟨p,C,dx,vs,A',h1,h7,h2,h3,h4,h5,h6⟩
theorem Uv (q:s.ob=some (c,ns,ls,dk)):s= .tre (.obj c ns ls dk)\/s= .ptr (.obj c ns ls dk):=by
 cases s with
 |tre t=>cases t<;>cases q;exact .inl rfl
 |ptr t=>cases t<;>cases q;exact .inr rfl
 |_=>exact aI q
theorem SI.obj (I:SI K B G H σ ρ){s:Sl}(e:ρ[j]? =some s)(q:s.ob=some (c,ns,ls,dk)):∃p C dx vs A,σ[j]? =some (some (.ref p))/\ObAt K G H p C dx c ns ls dk vs A/\(p::dx::A).Nodup/\(∀a,cU K G H σ[j]? a s↔a∈p::dx::A):=by
 have h:=I.slot j s e;have fin:∀{v:V} {A:AA AD},σ[j]? =some (some v)->RepT K G H v (.obj c ns ls dk) A->A.Nodup->(∀a,cU K G H σ[j]? a s↔∃v A,σ[j]? =some (some v)/\RepT K G H v (.obj c ns ls dk) A/\a∈A)->∃p C dx vs A,σ[j]? =some (some (.ref p))/\ObAt K G H p C dx c ns ls dk vs A/\(p::dx::A).Nodup/\(∀a,cU K G H σ[j]? a s↔a∈p::dx::A):=λ{v A} h1 h2 h3 h4=>by
  have h2':=h2;obtain⟨p,C,dx,vs,A',rfl,rfl,b⟩:=mK h2;refine⟨p,C,dx,vs,A',h1,b,h3,λa=>(h4 a).trans ⟨λ⟨v2,A2,k1,k2,k3⟩=>?_,λm=>⟨_,_,h1,h2',m⟩⟩⟩;rw[h1]at k1;cases k1;rwa[h2'.det k2 λ_ _=>rfl]
 rcases Uv q with rfl|rfl
 ·obtain⟨v,A,h1,h2,h3,_⟩:=h;exact fin h1 h2 h3 λa=>Iff.rfl
 ·obtain⟨v,A,h1,h2,h3,_⟩:=h;exact fin h1 h2 h3.1 λa=>Iff.rfl
theorem SI.chO (I:SI K B G H σ ρ)(e:ρ[j]? =some s)(q:s.ob=some (c,ns,ls,dk))(hp:σ[j]? =some (some (.ref p)))(b:ObAt K G H p C dx c ns ls dk vs A)(nd:(p::dx::A).Nodup)(ow:∀a,cU K G H σ[j]? a s↔a∈p::dx::A)(fz:Fz G H')(kp:∀x o,x∉p::dx::A->H x=some o->H' x=some o)(th:∀x,H' x=none->H x=none)(b':ObAt K G H' p C dx c ns' ls' dk' vs' A')(nd':(p::dx::A').Nodup)(sub:∀a∈A',a∈A\/(G a=none/\B.H a=none/\Nw K G H σ ρ a)):
  SI K B G H' σ (ρ.set j (s.putT (.obj c ns' ls' dk'))):=by
 have sl:=I.slot j s e;have sub2:∀a∈p::dx::A',a∈p::dx::A\/(G a=none/\B.H a=none/\Nw K G H σ ρ a):=λa m=>by
  rcases qap.mp m with rfl|m
  ·exact .inl (by simp)
  rcases qap.mp m with rfl|m
  ·exact .inl (by simp)
  ·exact(sub a m).imp (λz=>by simp[z]) id
 have g':∀a∈p::dx::A',G a=none:=λa m=>(sub2 a m).elim (λz=>(sl.own ((ow a).mpr z)).1) λz=>z.1
 have h:=I.chg (i:=j) (ov:=some (.ref p)) (s':=s.putT (.obj c ns' ls' dk')) (G':=G) (H':=H') fz (Fz.refl G) I.new (λx o k1 k2=>kp x o (λm=>?_) (I.keep x o k1 k2)) (λx k=>I.there x (th x k)) (λi t a z ei w g ha=>?_) ?_
 ·rwa[pA hp]at h
 ·rcases(sl.own ((ow x).mpr m)).2.2 with z|z
  ·rw[k1]at z;cases z
  ·exact k2 j z
 ·have na:a∉p::dx::A:=λm=>I.dis i j t s a z ei e w ((ow a).mpr m)
  obtain⟨x,hx⟩:=qbW.mp ha;refine⟨g,(kp a x na hx).trans hx.symm,λw'=>?_⟩;have:∃v A,some (some (V.ref p))=some (some v)/\RepT K G H' v (.obj c ns' ls' dk') A/\a∈A:=by
   rcases Uv q with rfl|rfl<;>exact w'
  obtain⟨v2,A2,k1,k2,k3⟩:=this;cases k1;rw[<-b'.rep.det k2 λ_ _=>rfl]at k3;rcases sub2 a k3 with y|y
  ·exact na y
  ·exact y.2.2 i t ei w
 ·rcases Uv q with rfl|rfl
  ·obtain⟨v,A0,h1,h2,h3,h4⟩:=sl;rw[hp]at h1;cases h1;have eA:p::dx::A=A0:=b.rep.det h2 λ_ _=>rfl
   subst eA;exact⟨.ref p,_,rfl,b'.rep,nd',λa m=>⟨g' a m,(sub2 a m).elim (λz=>(h4 a z).2) λz=>z.2.1⟩⟩
  ·obtain⟨v,A0,h1,h2,h3,h4⟩:=sl;rw[hp]at h1;cases h1;have eA:p::dx::A=A0:=b.rep.det h2 λ_ _=>rfl
   subst eA;obtain⟨h3,p2,y1,y2,y3⟩:=h3;cases y1;exact⟨.ref p,_,rfl,b'.rep,⟨nd',p,rfl,y2,λ_=>y3 rfl⟩,λa m=>⟨g' a m,(sub2 a m).elim (λz=>(h4 a z).2) λz=> .inr ⟨z.2.1,p,rfl,y3 rfl⟩⟩⟩
theorem zhd:∀{xs:AA V} {dss:AA (AA D)} {A:AA AD} {k:Nat} {ds:AA D},RepTb K G H xs dss A->dss[k]? =some ds->∃l ys,xs[k]? =some (.ref l)/\A[k]? =some l/\H l=some (.lst ys)/\RepL K G ys ds
 |[],[],_,_,_,_,e=>by simp at e
 |x::xs,d::dss,A,0,ds,⟨r,ys,A2,e1,e2,e3,e4,e5⟩,e=>by
  simp at e;subst e;exact⟨r,ys,by rw[e1];rfl,by rw[e5];rfl,e2,e3⟩
 |x::xs,d::dss,A,k+1,ds,⟨r,ys,A2,e1,e2,e3,e4,e5⟩,e=>by
  obtain⟨l,zs,h1,h2,h3,h4⟩:=zhd (k:=k) e4 (~~~e);exact⟨l,zs,~~~h1,by rw[e5];simpa using h2,h3,h4⟩
 |[],_::_,_,_,_,h,_=>h.elim
 |_::_,[],_,_,_,h,_=>h.elim
theorem zjr:∀{xs:AA V} {dss:AA (AA D)} {A:AA AD},RepTb K G H xs dss A->xs.length=dss.length/\A.length=dss.length
 |[],[],_,h=>by rw[show _=[]from h];exact⟨rfl,rfl⟩
 |x::xs,d::dss,A,⟨r,ys,A2,e1,e2,e3,e4,e5⟩=>by
  obtain⟨h1,h2⟩:=zjr e4;rw[e5];exact⟨by simp[h1],by simp[h2]⟩
 |[],_::_,_,h=>h.elim
 |_::_,[],_,h=>h.elim
theorem ziK:∀{xs:AA V} {dss:AA (AA D)} {A:AA AD} {k:Nat} {l l':AD} {ys:AA V} {ds:AA D},RepTb K G H xs dss A->A[k]? =some l->Fz G G'->(∀a∈A,a≠l->H' a=H a)->A.Nodup->H' l'=some (.lst ys)->RepL K G' ys ds->RepTb K G' H' (xs.set k (.ref l')) (dss.set k ds) (A.set k l')
 |[],[],_,_,_,_,_,_,h,e,_,_,_,_,_=>by rw[show _=[]from h]at e;simp at e
 |x::xs,d::dss,A,0,l,l',ys,ds,⟨r,zs,A2,e1,e2,e3,e4,e5⟩,e,fg,hh,nd,hl,rr=>by
  subst e5;simp at e;subst e;rw[qa0]at nd;exact⟨l',ys,A2,rfl,hl,rr,e4.move fg λa m=>hh a (by simp[m]) λz=>nd.1 (z ▸ m),rfl⟩
 |x::xs,d::dss,A,k+1,l,l',ys,ds,⟨r,zs,A2,e1,e2,e3,e4,e5⟩,e,fg,hh,nd,hl,rr=>by
  subst e5;rw[qa0]at nd;have e':A2[k]? =some l:= ~~~e
  exact⟨r,zs,A2.set k l',e1,by rw[hh r (by simp) λz=>nd.1 (z ▸ gI e')];exact e2,e3.mono fg,ziK e4 e' fg (λa m=>hh a (by simp[m])) nd.2 hl rr,rfl⟩
 |[],_::_,_,_,_,_,_,_,h,_,_,_,_,_,_=>h.elim
 |_::_,[],_,_,_,_,_,_,h,_,_,_,_,_,_=>h.elim
theorem zl9:∀{xs:AA V} {dss:AA (AA D)} {A:AA AD} {l:AD} {ys:AA V} {ds:AA D},RepTb K G H xs dss A->H l=some (.lst ys)->RepL K G ys ds->RepTb K G H (xs++[.ref l]) (dss++[ds]) (A++[l])
 |[],[],_,l,ys,ds,h,h1,h2=>by rw[show _=[]from h];exact⟨l,ys,[],rfl,h1,h2,rfl,rfl⟩
 |x::xs,d::dss,A,l,ys,ds,⟨r,zs,A2,e1,e2,e3,e4,e5⟩,h1,h2=>by
  subst e5;exact⟨r,zs,A2++[l],e1,e2,e3,zl9 e4 h1 h2,rfl⟩
 |[],_::_,_,_,_,_,h,_,_=>h.elim
 |_::_,[],_,_,_,_,h,_,_=>h.elim
theorem znO (r:RepO K G H xs ls dk A)(e:ls[k]? =some ds):∃l ys,xs[k]? =some (.ref l)/\A[k]? =some l/\H l=some (.lst ys)/\RepL K G ys ds:=by
 cases dk with
 |none=>exact zhd (show RepTb K G H xs ls A from r) e
 |some q=>
  obtain⟨ws,p,o,zs,ys,A',rfl,r1,q1,q2,q3,rfl⟩:=r;obtain⟨l,ys,h1,h2,h3,h4⟩:=zhd r1 e;exact⟨l,ys,by rw[hG (qas.mp h1).1];exact h1,by rw[hG (qas.mp h2).1];exact h2,h3,h4⟩
theorem znQ {l l':AD}(r:RepO K G H xs ls dk A)(hk:k<ls.length)(e:A[k]? =some l)(fg:Fz G G')(hh:∀a∈A,a≠l->H' a=H a)(nd:A.Nodup)(hl:H' l'=some (.lst ys))(rr:RepL K G' ys ds):RepO K G' H' (xs.set k (.ref l')) (ls.set k ds) dk (A.set k l'):=by
 cases dk with
 |none=>exact ziK (show RepTb K G H xs ls A from r) e fg hh nd hl rr
 |some q=>
  obtain⟨ws,p,o,zs,ys',A',rfl,r1,q1,q2,q3,rfl⟩:=r;obtain⟨l1,l2⟩:=zjr r1;have hA:k<A'.length:=∅
  have e':A'[k]? =some l:=by rw[hG hA]at e;exact e
  rw[qcM]at nd;have pl:p≠l:=λz=>nd.2.2 l (gI e') p (by simp) z.symm
  exact⟨ws.set k (.ref l'),p,o,zs,ys',A'.set k l',List.set_append_left _ _ ∅,ziK r1 e' fg (λa m=>hh a (by simp[m])) nd.1 hl rr,by rw[hh p (by simp) pl];exact q1,q2,q3.mono fg,List.set_append_left _ _ hA⟩
end
def kF:D->Bool
 | .lst _=>true
 |_=>false
def jP (ls:AA (AA D)):Bool:=ls.all λl=>l.any kF
def Ea:D->Bool
 | .lst ds=>ds.all Nm
 |d=>iH d
def obD (c:Str)(ns:AA Str)(ls:AA (AA D))(q:AA Int×AA D):D:= .obj c ns (ls.map D.lst) q.1 q.2
def dW (j:Nat)(m:ME):ME:=λρ=>match ρ[j]?.bind Sl.ob with
 |some (c,ns,ls,some dk)=>(m (ρ.set j (.val (obD c ns ls dk)))).bind λp=>if jP ls&&Ea p.1&&((ρ.set j .emp).zip p.2).all (λq=>lT q.1 q.2)then some (p.1,ρ)else none
 |_=>none
def iB (j:Nat)(m:MO):MO:=λρ=>match ρ[j]?.bind Sl.ob with
 |some (c,ns,ls,some dk)=>(m (ρ.set j (.val (obD c ns ls dk)))).bind λp=>if jP ls&&p.1.all Ea&&((ρ.set j .emp).zip p.2).all (λq=>lT q.1 q.2)then some (p.1,ρ)else none
 |_=>none
def uB (o:HO):Prop:=(∀xs,o≠ .tup xs)/\∀xs,o= .lst xs->¬ ∀x∈xs,∃i,x=V.int i
theorem Jl {C dx:AD}:uB (.ins C dx vs):=by constructor<;>(intro xs z;cases z)
theorem Ld:uB (.own p):=by constructor<;>(intro xs z;cases z)
theorem Sd:uB (kn p o):=by constructor<;>(intro xs z;cases z)
theorem Jm (h:¬ ∀x∈ys,∃i,x=V.int i):uB (.lst ys):=by
 constructor
 ·intro xs z;cases z
 ·intro xs z;cases z;exact h
section
variable {K:AF}{B B2:Bs}{G G' G2 H H' H2:Hp}{σ:St}{ρ:R}
theorem zou {s s1:Sl}(lk:lT s s1=true)(q:SlotOk K B G H i σ[i]? s)(q1:SlotOk K B2 G2 H2 i σ[i]? s1)(w:cU K G H σ[i]? a s):G2 a=none/\H2 a=H a:=by
 cases s with
 |emp=>exact w.elim
 |two _ _=>exact w.elim
 |val d=>exact w.elim
 |tre _=>cases s1<;>cases lk
 |ptr _=>cases s1<;>cases lk
 |own d0=>
  cases s1 with
  |own d1=>
   obtain⟨ns,rfl,rfl⟩:=zma lk;obtain⟨a1,xs1,m1,m2,m3,m4,m5⟩:=q1;obtain⟨a0,xs0,n1,n2,n3,n4,n5⟩:=q;cases n1.symm.trans (show σ[i]? =some (some (.ref a))from w);cases n1.symm.trans m1;exact⟨m2,by rw[m3,n3,RepL.ints_eq m4,RepL.ints_eq n4]⟩
  |_=>cases lk
 |par d0=>
  cases s1 with
  |par d1=>
   obtain⟨ns,rfl,rfl⟩:=zma lk;obtain⟨a1,xs1,m1,m2,m3,m4,m5⟩:=q1;obtain⟨a0,xs0,n1,n2,n3,n4,n5⟩:=q;cases n1.symm.trans (show σ[i]? =some (some (.ref a))from w);cases n1.symm.trans m1;exact⟨m2,by rw[m3,n3,RepL.ints_eq m4,RepL.ints_eq n4]⟩
  |_=>cases lk
theorem ziH:∀{ds:AA D},ds.all Nm=true->∃ns:AA Int,ds=ns.map .int
 |[],_=>⟨[],rfl⟩
 |d::ds,h=>by
  rw[yL,cV]at h;obtain⟨ns,e⟩:=ziH h.2;cases d with
  |int n=>exact⟨n::ns,by rw[e];rfl⟩
  |_=>exact nomatch h.1
theorem zn5 (h:∀a o,G a=some o->G' a=some o\/uB o){d:D}(e:Ea d=true)(r:RepD K G v d):RepD K G' v d:=by
 cases d with
 |non=>exact r
 |bl _=>exact r
 |int _=>exact r
 |str _=>exact r
 |tup ds=>
  obtain⟨ns,rfl⟩:=ziH (show ds.all Nm=true from e);obtain⟨a,xs,rfl,g,r⟩:=r;rcases h a _ g with z|z
  ·exact⟨a,xs,rfl,z,by rw[RepL.ints_eq r];exact RepL.ints ns⟩
  ·exact AH rfl (z.1 xs)
 |lst ds=>
  obtain⟨ns,rfl⟩:=ziH (show ds.all Nm=true from e);obtain⟨a,xs,rfl,g,r⟩:=r;rcases h a _ g with z|z
  ·exact⟨a,xs,rfl,z,by rw[RepL.ints_eq r];exact RepL.ints ns⟩
  ·refine AH (λx m=>?_) (z.2 xs rfl);rw[RepL.ints_eq r]at m;obtain⟨n,_,e⟩:=qci.mp m;exact⟨n,e.symm⟩
 |_=>exact nomatch e
theorem zlm (h:∀a o,G a=some o->G' a=some o\/uB o):∀{ds:AA D} {xs:AA V},ds.all Ea=true->RepL K G xs ds->RepL K G' xs ds
 |[],_,_,r=>r
 |d::ds,_,e,⟨x,ys,e1,e2,e3⟩=>by
  rw[yL,cV]at e;exact⟨x,ys,e1,zn5 h e.1 e2,zlm h e.2 e3⟩
theorem xB (h:ds.any kF=true)(r:RepL K G xs ds):¬ ∀x∈xs,∃i,x=V.int i:=λz=>by
 obtain⟨d,m,e⟩:=qcZ.mp h;obtain⟨i,hi,rfl⟩:=qc0.mp m;obtain⟨x,h1,h2⟩:=r.get (bI hi);cases q:ds[i]with
 |lst es=>
  rw[q]at h2;obtain⟨a,ys,e2,_⟩:=h2;obtain⟨n,e3⟩:=z x (gI h1);rw[e2]at e3;cases e3
 |_=>rw[q]at e;cases e
def Bs.lkO (B:Bs)(K:AF)(G H:Hp)(σ:St)(ρ:R)(A:AA AD):Bs:=⟨jG G H A,(B.reA K G H σ ρ A).H,(B.reA K G H σ ρ A).O⟩
theorem zjY (I:SI K B G H σ ρ)(e:ρ[j]? =some s)(q:s.ob=some (c,ns,ls,some dk))(ok:jP ls=true):
  ∃A:AA AD,(∀a,cU K G H σ[j]? a s↔a∈A)/\(∀a∈A,∃o,H a=some o/\uB o)/\SI K (B.lkO K G H σ (ρ.set j .emp) A) (jG G H A) H σ (ρ.set j (.val (obD c ns ls dk)))/\Fz G (jG G H A):=by
 obtain⟨p,C,dx,vs,A,hp,b,nd,ow⟩:=I.obj e q;have sl:=I.slot j s e;have gn:∀a∈p::dx::A,G a=none:=λa m=>(sl.own ((ow a).mpr m)).1
 have fg:=znY (G:=G) (H:=H) gn;have I0:=I.emp j;have nw:∀a∈p::dx::A,Nw K G H σ (ρ.set j .emp) a:=λa m=>Ua I e ((ow a).mpr m)
 have J0:=I0.reA nw;refine⟨p::dx::A,ow,λa m=>?_,?_,fg⟩
 ·rcases qap.mp m with rfl|m
  ·exact⟨_,b.ob,Jl⟩
  rcases qap.mp m with rfl|m
  ·exact⟨_,b.dx,Ld⟩
  ·obtain⟨ws,p2,o,zs,ys,A',e1,r1,q1,q2,q3,rfl⟩:=b.rp;rcases qaq.mp m with m|m
   ·obtain⟨k,hk,rfl⟩:=qc0.mp m;have hk2:k<ls.length:=by rw[<-(zjr r1).2];exact hk
    obtain⟨l,zs,h1,h2,h3,h4⟩:=zhd r1 (bI hk2);rw[bI hk]at h2;cases h2;exact⟨_,h3,Jm (xB (qch.mp ok _ (Vm hk2)) h4)⟩
   ·simp at m;subst m;exact⟨_,q1,Sd⟩
 ·have I1:SI K (B.lkO K G H σ (ρ.set j .emp) (p::dx::A)) (jG G H (p::dx::A)) H σ (ρ.set j .emp):=by
   refine⟨λa u z=>?_,Fz.refl _,λb o z=> .inl (by show jG G H (p::dx::A) b≠none;rw[z];simp),J0.keep,J0.there,J0.len,J0.ob,λi t ei=>?_,λi k t u a n e1 e2 w1 w2=>?_⟩
   ·by_cases m:a∈p::dx::A
    ·rw[tJ m]at z;exact z
    ·rw[xK m]at z;exact I.fz a u z
   ·have h:=(J0.slot i t ei).mono (G':=jG G H (p::dx::A)) (H':=H) fg λa w g h=>⟨by rw[xK λm=>nw a m i t ei w];exact g,rfl⟩
    exact h
   ·have bk:=λ{i:Nat} {t:Sl} (ei:(ρ.set j .emp)[i]? =some t) {a:AD} (w:cU K (jG G H (p::dx::A)) H σ[i]? a t)=>(J0.slot i t ei).back (G':=jG G H (p::dx::A)) (H':=H) (λa w g h=>⟨by rw[xK λm=>nw a m i t ei w];exact g,rfl⟩) w
    exact J0.dis i k t u a n e1 e2 (bk e1 w1) (bk e2 w2)
  have I2:=I1.set (i:=j) (v:= .ref p) (d:=obD c ns ls dk) (zqz fg b.nc (by rw[tJ (by simp)];exact b.ob) b.nm b.rp λa m=>tJ (by simp[m]));rwa[pA hp,List.set_set]at I2
theorem znB (I:SI K B G H σ ρ){A:AA AD}{ρ1:R}{G3 H3:Hp}(e:ρ[j]? =some s)(ow:∀a,cU K G H σ[j]? a s↔a∈A)(od:∀a∈A,∃o,H a=some o/\uB o)(J:SI K (B.lkO K G H σ (ρ.set j .emp) A) G3 H3 σ ρ1)(f3:Fz (jG G H A) G3)(al:((ρ.set j .emp).zip ρ1).all (λq=>lT q.1 q.2)=true):
  ∃G',SI K B G' H3 σ ρ/\Fz G G'/\Fz G' G3/\(∀a,a∉A->G' a=G3 a)/\(∀a o,G3 a=some o->G' a=some o\/uB o)/\∀(i:Nat) (t:Sl) (a:AD),ρ[i]? =some t->cU K G H σ[i]? a t->G' a=none/\H3 a=H a:=by
 have gn:∀a∈A,G a=none:=λa m=>((I.slot j s e).own ((ow a).mpr m)).1
 have h3:∀a∈A,G3 a=H a:=λa m=>by
  obtain⟨o,ho,_⟩:=od a m;rw[ho];exact f3 a o (by rw[tJ m];exact ho)
 have hh3:∀a∈A,H3 a=H a:=λa m=>by
  obtain⟨o,ho,_⟩:=od a m;rw[ho];exact J.fz a o (by rw[h3 a m];exact ho)
 have I0:=I.emp j;have nwA:∀a∈A,Nw K G H σ (ρ.set j .emp) a:=λa m=>Ua I e ((ow a).mpr m)
 have hin:∀a,a∈A->(if a∈A then none else G3 a)=none:=λa m=>if_pos m
 have hout:∀a,a∉A->(if a∈A then none else G3 a)=G3 a:=λa m=>if_neg m
 have fg:Fz G (λa=>if a∈A then none else G3 a):=λa o ea=>by
  have n:a∉A:=λm=>by rw[gn a m]at ea;exact aI ea
  show(if a∈A then none else G3 a)=_;rw[hout a n];exact f3 a o (by rw[xK n];exact ea)
 have sub:Fz (λa=>if a∈A then none else G3 a) G3:=λa o ea=>by
  dsimp only at ea
  split at ea
  ·exact aI ea
  ·exact ea
 have len1:ρ1.length=ρ.length:=by rw[<-J.len,I.len]
 have kpO:∀(i:Nat) (t:Sl) (a:AD),ρ[i]? =some t->cU K G H σ[i]? a t->(if a∈A then none else G3 a)=none/\H3 a=H a:=λi t a es w=>by
  by_cases hi:i=j
  ·subst hi;rw[e]at es;cases es;have m:=(ow a).mp w;exact⟨hin a m,hh3 a m⟩
  have il:i<ρ.length:=(qas.mp es).1;have es1:ρ1[i]? =some (ρ1[i]'∅):=bI _;have lk:lT t (ρ1[i]'∅)=true:=
   qch.mp al (t,ρ1[i]'∅) (by
    apply gI (i:=i);rw[Zl];exact⟨by rw[tG (Ne.symm hi)];exact es,es1⟩)
  obtain⟨z1,z2⟩:=zou lk (I.slot i t es) (J.slot i _ es1) w;refine⟨?_,z2⟩
  by_cases m:a∈A
  ·exact hin a m
  ·rw[hout a m];exact z1
 refine⟨_,I.move (sub.trans J.fz) fg (λb o eb=>?_) (λb o eb n=>J.keep b o (by
   unfold Bs.lkO Bs.reA;dsimp only;rw[if_neg λw=>by rw[w.2]at eb;cases eb];exact I.keep b o eb n) λi m=>n i (reA_O (K:=K) (G:=G) (H:=H) (σ:=σ) (ρ:=ρ.set j .emp) (A:=A)|>.mp m).1) (λb eb=>zkU (A:=A) I0 (J.there b eb)) λi t a es w _ _=>kpO i t a es w,fg,sub,hout,λa o ea=>?_,kpO⟩
 ·have n:b∉A:=λm=>by rw[hin b m]at eb;exact aI eb
  rcases J.new b o (sub b o eb)with z|z
  ·have z:jG G H A b≠none:=z;rw[xK n]at z;obtain⟨u,hu⟩:=qbW.mp z;exact I.new b u hu
  ·exact .inr (zkU (A:=A) I0 z)
 ·by_cases m:a∈A
  ·obtain⟨u,hu,od⟩:=od a m;rw[h3 a m,hu]at ea;cases ea;exact .inr od
  ·exact .inl (by show(if a∈A then none else G3 a)=some o;rw[hout a m];exact ea)
end
section
variable {X:Cx}{e:AI}
theorem tW {m:ME}(j:Nat)(h:SE X e m):SE X e (dW j m):=by
 refine h.el λt pt so=>?_
 refine⟨t,pt,λB G H σ ρ d ρ' Q I hm kk=>?_⟩;unfold dW at hm
 split at hm
 ·rename_i c ns ls dk e0;refine aP e0 λs e1 e2=>?_
  refine bD hm λd' ρ1 e3 hm=>?_
  dsimp only at hm;refine aY hm λal hm=>?_
  ·skip
   cases hm;rw[cV,cV]at al;obtain⟨⟨ok,fl⟩,al⟩:=al;obtain⟨A,ow,od,I1,f1⟩:=zjY I e1 e2 ok;refine so _ _ H σ _ d ρ1 _ I1 e3 λG3 H3 v I3 f3 r3=>?_
   obtain⟨G',J,fg,sub,_,th,_⟩:=znB I e1 ow od I3 f3 al;exact kk G' H3 v J fg (zn5 th fl r3)
 ·exact aI hm
theorem zjn {t:TE}(j:Nat)(so:∀B G H σ ρ ds ρ' (Q:VK),SI K B G H σ ρ->m ρ=some (ds,ρ')->
  (∀G' H' l xs,SI K B G' H' σ ρ'->Fz G G'->G' l=none->H' l=some (.lst xs)->RepL K G' xs ds->B.H l=none->Nw K G' H' σ ρ' l->Q (.ref l) H')->t σ H Q):
  ∀B G H σ ρ ds ρ' (Q:VK),SI K B G H σ ρ->iB j m ρ=some (ds,ρ')->
  (∀G' H' l xs,SI K B G' H' σ ρ'->Fz G G'->G' l=none->H' l=some (.lst xs)->RepL K G' xs ds->B.H l=none->Nw K G' H' σ ρ' l->Q (.ref l) H')->t σ H Q:=by
 intro B G H σ ρ ds ρ' Q I hm kk;unfold iB at hm
 split at hm
 ·rename_i c ns ls dk e0;obtain⟨s,e1,e2⟩:=Fu e0;obtain⟨⟨d',ρ1⟩,e3,hm⟩:=Fu hm;dsimp only at hm
  split at hm
  ·rename_i al;cases hm;rw[cV,cV]at al;obtain⟨⟨ok,fl⟩,al⟩:=al;obtain⟨A,ow,od,I1,f1⟩:=zjY I e1 e2 ok;refine so _ _ H σ _ ds ρ1 _ I1 e3 λG3 H3 l xs I3 f3 g3 h3 r3 b3 n3=>?_
   obtain⟨G',J,fg,sub,out,th,kpO⟩:=znB I e1 ow od I3 f3 al;have nA:l∉A:=λm=>by
    obtain⟨o,ho,_⟩:=od l m;rw[f3 l o (by rw[tJ m];exact ho)]at g3;cases g3
   refine kk G' H3 l xs J fg (by rw[out l nA];exact g3) h3 (zlm th fl r3) (zkU (A:=A) (I.emp j) b3) λi t ei w=>?_
   have w0:=(I.slot i t ei).back (λa w _ _=>kpO i t a ei w) w
   by_cases hi:i=j
   ·subst hi;rw[e1]at ei;cases ei;exact nA ((ow l).mp w0)
   have il:i<ρ.length:=(qas.mp ei).1;have len1:ρ1.length=ρ.length:=by rw[<-I3.len,I.len]
   have es1:ρ1[i]? =some (ρ1[i]'∅):=bI _;have lk:lT t (ρ1[i]'∅)=true:=
    qch.mp al (t,ρ1[i]'∅) (by
     apply gI (i:=i);rw[Zl];exact⟨by rw[tG (Ne.symm hi)];exact ei,es1⟩)
   refine n3 i _ es1 ?_
   generalize ρ1[i]'∅=u at lk es1
   cases t with
   |own d0=>cases u with
    |own d1=>exact w0
    |_=>cases lk
   |par d0=>cases u with
    |par d1=>exact w0
    |_=>cases lk
   |tre _=>cases u<;>cases lk
   |ptr _=>cases u<;>cases lk
   |_=>exact w0.elim
  ·cases hm
 ·cases hm
theorem nP (j:Nat)(h:SO X e m):SO X e (iB j m):=by
 refine h.el λt pt so=>?_
 exact⟨t,pt,zjn j so⟩
end
def kY (c:Str)(ns:AA Str)(j k i:Nat)(me:ME):MS:=λρ=>(me ρ).bind λp=>match p.2[j]?.bind Sl.ob,p.2[i]? with
 |some (c',ns',ls,dk),some (.val (.int n))=>if c'=c/\ns'=ns then(ls[k]?).bind λds=>(eU ds.length n).bind λm=>(p.2[j]?).map λs=>(.next,p.2.set j (s.putT (.obj c ns (ls.set k (ds.set m p.1)) dk)))else none
 |_,_=>none
def Fy (c:Str)(ns:AA Str)(j k:Nat)(mo:MO):MS:=λρ=>(mo ρ).bind λp=>match p.2[j]?.bind Sl.ob with
 |some (c',ns',ls,dk)=>if c'=c/\ns'=ns/\k<ls.length then(p.2[j]?).map λs=>(.next,p.2.set j (s.putT (.obj c ns (ls.set k p.1) dk)))else none
 |_=>none
def kZ (c:Str)(ns ns2:AA Str)(j:Nat)(mo:MO):MS:=λρ=>(mo ρ).bind λp=>match p.2[j]?.bind Sl.ob with
 |some (c',ns',ls,none)=>if c'=c/\ns'=ns then(p.2[j]?).map λs=>(.next,p.2.set j (s.putT (.obj c ns2 (ls++[p.1]) none)))else none
 |_=>none
def yJ (c:Str)(ns ns2:AA Str)(j:Nat):MS:=λρ=>match ρ[j]?.bind Sl.ob with
 |some (c',ns',ls,none)=>if c'=c/\ns'=ns then(ρ[j]?).map λs=>(.next,ρ.set j (s.putT (.obj c ns2 ls (some ([],[])))))else none
 |_=>none
def Gs (c:Str)(ns:AA Str)(j i:Nat)(me:ME):MS:=λρ=>(me ρ).bind λp=>match p.2[j]?.bind Sl.ob,p.2[i]? with
 |some (c',ns',ls,some q),some (.val (.int n))=>if c'=c/\ns'=ns/\q.1.length<16777216 then(p.2[j]?).map λs=>(.next,p.2.set j (s.putT (.obj c ns ls (some (gY q.1 q.2 n p.1)))))else none
 |_,_=>none
theorem zkr:∀{vs:AA (Str×V)} {f:Str} {v:V},(vs.map (·.1)).contains f=false->bM f v vs=vs++[(f,v)]
 |[],_,_,_=>rfl
 |(g,u)::vs,f,v,n=>by
  rw[eY,Ck,Zq]at n;have:¬g=f:=λz=>by subst z;simp at n
  show(if g=f then _ else _)=_;rw[if_neg this,zkr n.2]
  rfl
theorem zqq:∀{vs:AA (Str×V)} {ns:AA Str} {k:Nat} {f:Str} {v:V},vs.map (·.1)=ns->ns[k]? =some f->(ns.take k).contains f=false->(bM f v vs).map (·.1)=ns/\(bM f v vs).map (·.2)=(vs.map (·.2)).set k v
 |[],_,_,_,_,e,h,_=>by subst e;simp at h
 |(g,u)::vs,_,0,f,v,e,h,_=>by
  subst e;simp at h;subst h;have e2:bM g v ((g,u)::vs)=(g,v)::vs:=by unfold bM;rw[if_pos rfl]
  rw[e2];exact⟨rfl,rfl⟩
 |(g,u)::vs,_,k+1,f,v,e,h,n=>by
  subst e;rw[eY,qcK,Ck,Zq]at n;obtain⟨h1,h2⟩:=zqq (vs:=vs) (v:=v) rfl (~~~h) n.2;have:¬g=f:=λz=>by subst z;simp at n
  unfold bM;rw[if_neg this];exact⟨by rw[eY,h1,eY],by rw[eY,h2,eY,Cu]⟩
theorem zj6:∀{A:AA AD},A.Nodup->l∉A->∀k:Nat,(A.set k l).Nodup
 |[],h,_,_=>h
 |a::A,h,n,0=>by
  rw[qa0]at h;rw[Qi,qa0];exact⟨λm=>n (by simp[m]),h.2⟩
 |a::A,h,n,k+1=>by
  rw[qa0]at h;rw[Cu,qa0];refine⟨λm=>?_,zj6 h.2 (λm=>n (by simp[m])) k⟩;rcases qcA m with z|z
  ·exact h.1 z
  ·exact n (by simp[z])
section
variable {K:AF}{B:Bs}{G H:Hp}{σ:St}{ρ:R}
theorem SI.obHas (h:ρ[j]?.bind Sl.ob=some q):∃s,ρ[j]? =some s/\s.ob=some (q.1,q.2.1,q.2.2.1,q.2.2.2):=by
 refine aP h λs e1 e2=>?_
 exact⟨s,e1,by rw[e2]⟩
end
section
variable {X:Cx}{c f x y:Str}{ns ns2:AA Str}{e:AI}{me:ME}{mo:MO}{p p2 p3 pos ap tpos:Pos}{k:Nat}
theorem Yx (j k i:Nat)(oc:OC X.K c ns)(he:SE X e me)(hk:ns[k]? =some f:=by rfl)(hn:(ns.take k).contains f=false:=by decide+kernel)(hN:X.N[j]? =some x:=by rfl)(hv:dJ X.env.scope x:=by trivial)(hd:(x==("__debug__":Str))=false:=by decide)(hcd:(x==("__classdict__":Str))=false:=by decide)(hN2:X.N[i]? =some y:=by rfl)(hv2:dJ X.env.scope y:=by trivial)(hd2:(y==("__debug__":Str))=false:=by decide)(hcd2:(y==("__classdict__":Str))=false:=by decide)(hb:attributeBase (.Name x p) f X.env (eval (.Name x p) X.env)=eval (.Name x p) X.env:=by rfl)(ha : ∀ v, assign (.Subscript (.Attribute (.Name x p) f ap) (.Name y p2) tpos) X.env v = (do
      let ov<-holding [v] (eval (.Attribute (.Name x p) f ap) X.env)
      let iv<-holding [v,ov] (eval (.Name y p2) X.env)
      standAt tpos
      holding [v,ov,iv] (setItem ov iv v)
      release [v,ov,iv] []):=by exactλ_=>rfl)(hs:swapsWithSole [.Subscript (.Attribute (.Name x p) f ap) (.Name y p2) tpos] e pos.line X.env=pure false:=by rfl)(hw:swappedStores [.Subscript (.Attribute (.Name x p) f ap) (.Name y p2) tpos] e X.env=pure none:=by rfl)(h1:(assignEach [.Subscript (.Attribute (.Name x p) f ap) (.Name y p2) tpos] X.env).map (·.2)=[assign (.Subscript (.Attribute (.Name x p) f ap) (.Name y p2) tpos) X.env]:=by rfl):
    SS X (.Assign [.Subscript (.Attribute (.Name x p) f ap) (.Name y p2) tpos] e pos) (kY c ns j k i me):=by
  obtain⟨C,c1,c2,c3⟩:=oc;refine he.el λt pt so=>?_
  refine⟨_,Er pt (Sm (znr (eB hN hv hd hcd) hb) (eB hN2 hv2 hd2 hcd2) Qe ha) hs hw h1,λB G H σ ρ fl ρ' E I hm kk=>?_⟩;refine bD hm λd ρ1 e1 hm=>?_
  refine so B G H σ ρ d ρ1 _ I e1 λG1 H1 v I1 f1 r1=>?_
  dsimp only at hm
  split at hm
  . rename_i c' ns' ls dk n e2 e3
    refine aY hm λh hm=>?_
    . skip
      exists h;refine aP hm λds e4 hm=>?_
      refine aP hm λm e5 hm=>?_
      refine bQ hm λs e6 hm=>?_
      cases hm;obtain⟨s',e7,e8⟩:=SI.obHas e2;rw[e6]at e7;cases e7;obtain⟨q,C2,dx,vs,A,hp,b,nd,ow⟩:=I1.obj e6 e8;have h2:=b.nc;rw[c1]at h2;cases h2;obtain⟨l,xs,g1,g2,g3,g4⟩:=znO b.rp e4;obtain⟨w,k1,k2⟩:=I1.slot i _ e3;cases(show w=V.int n from k2);have lA:l∈A:=gI g2;have gl:G1 l=none:=((I1.slot j s e6).own ((ow l).mpr (by simp[lA]))).1;rw[qa0,qa0]at nd;have pl:q≠l:=λz=>nd.1 (by rw[z];simp[lA])
      have dl:dx≠l:=λz=>nd.2.1 (z ▸ lA)
      have hk2:k<ls.length:=(qas.mp e4).1;refine⟨.ref q,hp,q,C,dx,vs,.ref l,rfl,b.ob,c2,c3 f (gI hk),Qq b.nm hk hn g1,.int n,k1,l,xs,n,m,rfl,rfl,g3,by rw[g4.length];exact e5,?_⟩;have lk:A.set k l=A:=pA g2;have b':ObAt X.K G1 (upd H1 l (.lst (xs.set m v))) q C dx c' ns' (ls.set k (ds.set m d)) dk vs A:=by
        refine⟨b.nc,by rw[aV pl];exact b.ob,by rw[aV dl];exact b.dx,b.nm,?_⟩;have:=znQ (H':=upd H1 l (.lst (xs.set m v))) b.rp hk2 g2 (Fz.refl G1) (λa _ n=>aV n) nd.2.2 cT (g4.set m r1);rw[lk]at this;rwa[pA g1]at this
      exact kk G1 _ σ (I1.chO e6 e8 hp b (by rw[qa0,qa0];exact nd) ow (I1.fz.right gl _) (λz o n hz=>by rw[aV (λy=>n (by rw[y];simp[lA]))];exact hz) (λz hz=>by
        by_cases y:z=l
        . subst y;rw[cT]at hz;cases hz
        . rw[aV y]at hz;exact hz) b' (by rw[qa0,qa0];exact nd) λa m=> .inl m) f1
  . exact aI hm
theorem pX (j k:Nat)(oc:OC X.K c ns)(he:SO X e mo)(hk:ns[k]? =some f:=by rfl)(hn:(ns.take k).contains f=false:=by decide+kernel)(hl:ns.length<1000:=by decide)(hN:X.N[j]? =some x:=by rfl)(hv:dJ X.env.scope x:=by trivial)(hd:(x==("__debug__":Str))=false:=by decide)(hcd:(x==("__classdict__":Str))=false:=by decide)(hs:swapsWith e (some (.Attribute (.Name x p) f ap)) pos.line X.env=pure false:=by rfl):
    SS X (.Assign [.Attribute (.Name x p) f ap] e pos) (Fy c ns j k mo):=by
  obtain⟨C,c1,c2,c3⟩:=oc;refine he.el λt pt so=>?_
  refine⟨_,zqK (eB hN hv hd hcd) pt hs,λB G H σ ρ fl ρ' E I hm kk=>?_⟩;refine bD hm λds ρ1 e1 hm=>?_
  refine so B G H σ ρ ds ρ1 _ I e1 λG1 H1 l xs I1 f1 gl hl1 r1 bl nl=>?_
  dsimp only at hm
  split at hm
  . rename_i c' ns' ls dk e2
    refine aY hm λh hm=>?_
    . skip
      obtain⟨rfl,rfl,hk2⟩:=h;refine bQ hm λs e6 hm=>?_
      cases hm;obtain⟨s',e7,e8⟩:=SI.obHas e2;rw[e6]at e7;cases e7;obtain⟨q,C2,dx,vs,A,hp,b,nd,ow⟩:=I1.obj e6 e8;have h2:=b.nc;rw[c1]at h2;cases h2;obtain⟨l0,xs0,g1,g2,g3,g4⟩:=znO b.rp (bI hk2);have nown:l∉q::dx::A:=λm=>nl j s e6 ((ow l).mpr m)
      have gq:G1 q=none:=((I1.slot j s e6).own ((ow q).mpr (by simp))).1;have lv:vs.length<1000:=by have:=congrArg List.length b.nm;simp at this;lia
      obtain⟨n1,n2⟩:=zqq (v:= .ref l) b.nm hk hn;rw[qa0,qa0]at nd;have qA:q∉A:=λz=>nd.1 (by simp[z])
      have qd:q≠dx:=λz=>nd.1 (by simp[z])
      have lq:l≠q:=λz=>nown (by simp[z])
      refine⟨.ref q,hp,q,C,dx,vs,rfl,b.ob,c2,c3 f (gI hk),lv,?_⟩;have b':ObAt X.K G1 (upd H1 q (.ins C dx (bM f (.ref l) vs))) q C dx c' ns' (ls.set k ds) dk (bM f (.ref l) vs) (A.set k l):=by
        refine⟨b.nc,cT,by rw[aV (Ne.symm qd)];exact b.dx,n1,?_⟩;rw[n2];exact znQ b.rp hk2 g2 (Fz.refl G1) (λa m _=>aV λz=>qA (z ▸ m)) nd.2.2 (by rw[aV lq];exact hl1) r1
      have sub:∀a∈A.set k l,a∈A\/a=l:=λa m=>qcA m
      refine kk G1 _ σ (I1.chO e6 e8 hp b (by rw[qa0,qa0];exact nd) ow (I1.fz.right gq _) (λz o n hz=>by rw[aV (λy=>n (by rw[y];simp))];exact hz) (λz hz=>by
        by_cases y:z=q
        . subst y;rw[cT]at hz;cases hz
        . rw[aV y]at hz;exact hz) b' ?_ λa m=>(sub a m).imp id λz=>by subst z;exact⟨gl,bl,nl⟩) f1
      rw[qa0,qa0];refine⟨λm=>?_,λm=>?_,?_⟩
      . rcases qap.mp m with z|m
        . exact qd z
        . exact(sub q m).elim qA λz=>lq z.symm
      . exact(sub dx m).elim nd.2.1 λz=>nown (by simp[z])
      . exact zj6 nd.2.2 (λm=>nown (by simp[m])) k
  . exact aI hm
theorem zin (j:Nat)(ns2:AA Str)(oc:OC X.K c ns2)(he:SO X e mo)(hk:ns2=ns++[f]:=by rfl)(hn:ns.contains f=false:=by decide+kernel)(hl:ns.length<1000:=by decide)(hN:X.N[j]? =some x:=by rfl)(hv:dJ X.env.scope x:=by trivial)(hd:(x==("__debug__":Str))=false:=by decide)(hcd:(x==("__classdict__":Str))=false:=by decide)(hs:swapsWith e (some (.Attribute (.Name x p) f ap)) pos.line X.env=pure false:=by rfl):
    SS X (.Assign [.Attribute (.Name x p) f ap] e pos) (kZ c ns ns2 j mo):=by
  obtain⟨C,c1,c2,c3⟩:=oc;refine he.el λt pt so=>?_
  refine⟨_,zqK (eB hN hv hd hcd) pt hs,λB G H σ ρ fl ρ' E I hm kk=>?_⟩;refine bD hm λds ρ1 e1 hm2=>?_
  clear hm;refine so B G H σ ρ ds ρ1 _ I e1 λG1 H1 l xs I1 f1 gl hl1 r1 bl nl=>?_
  dsimp only at hm2
  split at hm2
  . rename_i c' ns' ls e2
    split at hm2
    . rename_i h
      exists h;obtain⟨s,e6,hm2⟩:=Tc hm2;cases hm2;obtain⟨s',e7,e8⟩:=SI.obHas e2;rw[e6]at e7;cases e7;obtain⟨q,C2,dx,vs,A,hp,b,nd,ow⟩:=I1.obj e6 e8;have h2:=b.nc;rw[c1]at h2;cases h2;have nown:l∉q::dx::A:=λm=>nl j s e6 ((ow l).mpr m)
      have gq:G1 q=none:=((I1.slot j s e6).own ((ow q).mpr (by simp))).1;have lv:vs.length<1000:=by have:=congrArg List.length b.nm;simp at this;lia
      have pf:=zkr (v:= .ref l) (by rw[b.nm];exact hn);rw[qa0,qa0]at nd;have qA:q∉A:=λz=>nd.1 (by simp[z])
      have qd:q≠dx:=λz=>nd.1 (by simp[z])
      have lq:l≠q:=λz=>nown (by simp[z])
      refine⟨.ref q,hp,q,C,dx,vs,rfl,b.ob,c2,c3 f (by rw[hk];simp),lv,?_⟩;have b':ObAt X.K G1 (upd H1 q (.ins C dx (bM f (.ref l) vs))) q C dx c' ns2 (ls++[ds]) none (bM f (.ref l) vs) (A++[l]):=by
        refine⟨b.nc,cT,by rw[aV (Ne.symm qd)];exact b.dx,by rw[pf,iS,b.nm,hk];rfl,?_⟩;rw[pf,iS];refine zl9 (RepTb.move (show RepTb X.K G1 H1 (vs.map (·.2)) ls A from b.rp) (Fz.refl G1) λa m=>aV λz=>qA (z ▸ m)) (by rw[aV lq];exact hl1) r1
      refine kk G1 _ σ (I1.chO e6 e8 hp b (by rw[qa0,qa0];exact nd) ow (I1.fz.right gq _) (λz o n hz=>by rw[aV (λy=>n (by rw[y];simp))];exact hz) (λz hz=>by
        by_cases y:z=q
        . subst y;rw[cT]at hz;cases hz
        . rw[aV y]at hz;exact hz) b' ?_ λa m=>(qaq.mp m).imp id λz=>by
          have:a=l:= ~~~z
          subst this;exact⟨gl,bl,nl⟩) f1
      rw[<-Qg,<-Qg,qcM];refine⟨by rw[qa0,qa0];exact nd,by simp,λa ha b hb z=>nown ?_⟩;have:b=l:= ~~~hb
      rw[<-this,<-z];exact ha
    . exact aI hm2
  . exact aI hm2
theorem mH (j:Nat)(ns2:AA Str)(oc:OC X.K c ns2)(hk:ns2=ns++[f]:=by rfl)(hn:ns.contains f=false:=by decide+kernel)(hl:ns.length<1000:=by decide)(hN:X.N[j]? =some x:=by rfl)(hv:dJ X.env.scope x:=by trivial)(hd:(x==("__debug__":Str))=false:=by decide)(hcd:(x==("__classdict__":Str))=false:=by decide)(hs:swapsWith (.Dict [] [] tpos) (some (.Attribute (.Name x p) f ap)) pos.line X.env=pure false:=by rfl):
    SS X (.Assign [.Attribute (.Name x p) f ap] (.Dict [] [] tpos) pos) (yJ c ns ns2 j):=by
  obtain⟨C,c1,c2,c3⟩:=oc;refine⟨_,zqK (eB hN hv hd hcd) rF hs,λB G H σ ρ fl ρ' E I hm kk=>?_⟩;unfold yJ at hm
  split at hm
  . rename_i c' ns' ls e2
    split at hm
    . rename_i h
      exists h;obtain⟨s,e6,hm⟩:=Tc hm;cases hm;obtain⟨s',e7,e8⟩:=SI.obHas e2;rw[e6]at e7;cases e7;intro l o hl0 dn;have I1:=I.allocO hl0 (kn l o);have nl:Nw X.K G (upd H l (kn l o)) σ ρ l:=I.nw_move (I.nw hl0) λi s a _ _ g h=>⟨g,aV λz=>h (by rw[z];exact hl0)⟩
      have gl:G l=none:=I.fz.free hl0;have bl:B.H l=none:=I.there l hl0;obtain⟨q,C2,dx,vs,A,hp,b,nd,ow⟩:=I1.obj e6 e8;have h2:=b.nc;rw[c1]at h2;cases h2;have nown:l∉q::dx::A:=λm=>nl j s e6 ((ow l).mpr m)
      have gq:G q=none:=((I1.slot j s e6).own ((ow q).mpr (by simp))).1;have lv:vs.length<1000:=by have:=congrArg List.length b.nm;simp at this;lia
      have pf:=zkr (v:= .ref l) (by rw[b.nm];exact hn);rw[qa0,qa0]at nd;have qA:q∉A:=λz=>nd.1 (by simp[z])
      have qd:q≠dx:=λz=>nd.1 (by simp[z])
      have lq:l≠q:=λz=>nown (by simp[z])
      refine⟨.ref q,hp,q,C,dx,vs,rfl,b.ob,c2,c3 f (by rw[hk];simp),lv,?_⟩;have b':ObAt X.K G (upd (upd H l (kn l o)) q (.ins C dx (bM f (.ref l) vs))) q C dx c' ns2 ls (some ([],[])) (bM f (.ref l) vs) (A++[l]):=by
        refine⟨b.nc,cT,by rw[aV (Ne.symm qd)];exact b.dx,by rw[pf,iS,b.nm,hk];rfl,?_⟩;rw[pf,iS];exact⟨vs.map (·.2),l,o,[],[],A,rfl,RepTb.move (show RepTb X.K G (upd H l (kn l o)) (vs.map (·.2)) ls A from b.rp) (Fz.refl G) λa m=>aV λz=>qA (z ▸ m),by rw[aV lq];exact cT,dn,RepL.nil,rfl⟩
      refine kk G _ σ (I1.chO e6 e8 hp b (by rw[qa0,qa0];exact nd) ow (I1.fz.right gq _) (λz o n hz=>by rw[aV (λy=>n (by rw[y];simp))];exact hz) (λz hz=>by
        by_cases y:z=q
        . subst y;rw[cT]at hz;cases hz
        . rw[aV y]at hz;exact hz) b' ?_ λa m=>(qaq.mp m).imp id λz=>by
          have:a=l:= ~~~z
          subst this;exact⟨gl,bl,nl⟩) (Fz.refl G)
      rw[<-Qg,<-Qg,qcM];refine⟨by rw[qa0,qa0];exact nd,by simp,λa ha b hb z=>nown ?_⟩;have:b=l:= ~~~hb
      rw[<-this,<-z];exact ha
    . exact aI hm
  . exact aI hm
theorem nQ (j k i:Nat)(oc:OC X.K c ns)(he:SE X e me)(hk:ns[k]? =some f:=by rfl)(hkl:k+1=ns.length:=by rfl)(hn:(ns.take k).contains f=false:=by decide+kernel)(hN:X.N[j]? =some x:=by rfl)(hv:dJ X.env.scope x:=by trivial)(hd:(x==("__debug__":Str))=false:=by decide)(hcd:(x==("__classdict__":Str))=false:=by decide)(hN2:X.N[i]? =some y:=by rfl)(hv2:dJ X.env.scope y:=by trivial)(hd2:(y==("__debug__":Str))=false:=by decide)(hcd2:(y==("__classdict__":Str))=false:=by decide)(hb:attributeBase (.Name x p) f X.env (eval (.Name x p) X.env)=eval (.Name x p) X.env:=by rfl)(hs:swapsWith e (some (.Subscript (.Attribute (.Name x p) f ap) (.Name y p2) tpos)) pos.line X.env=pure false:=by rfl):
    SS X (.Assign [.Subscript (.Attribute (.Name x p) f ap) (.Name y p2) tpos] e pos) (Gs c ns j i me):=by
  obtain⟨C,c1,c2,c3⟩:=oc;refine he.el λt pt so=>?_
  refine⟨_,sN (znr (eB hN hv hd hcd) hb) (eB hN2 hv2 hd2 hcd2) pt hs,λB G H σ ρ fl ρ' E I hm kk=>?_⟩;refine bD hm λd ρ1 e1 hm=>?_
  refine so B G H σ ρ d ρ1 _ I e1 λG1 H1 v I1 f1 r1=>?_
  dsimp only at hm
  split at hm
  . rename_i c' ns' ls qd n e2 e3
    refine aY hm λh hm=>?_
    . skip
      obtain⟨rfl,rfl,hln⟩:=h;refine bQ hm λs e6 hm=>?_
      cases hm;obtain⟨s',e7,e8⟩:=SI.obHas e2;rw[e6]at e7;cases e7;obtain⟨q,C2,dx,vs,A,hp,b,nd,ow⟩:=I1.obj e6 e8;have h2:=b.nc;rw[c1]at h2;cases h2;obtain⟨w,k1,k2⟩:=I1.slot i _ e3;cases(show w=V.int n from k2);have rp:=b.rp;obtain⟨ws,l,o,zs,ys,A',g1,g2,g3,g4,g5,rfl⟩:=rp;have lA:l∈A'++[l]:=by simp
      have gl:G1 l=none:=((I1.slot j s e6).own ((ow l).mpr (by simp))).1;have nd0:=nd;rw[qa0,qa0]at nd;have pl:q≠l:=λz=>nd.1 (by rw[z];simp)
      have dl:dx≠l:=λz=>nd.2.1 (by rw[z];simp)
      have l1:=congrArg List.length b.nm;have l2:=congrArg List.length g1;simp at l1 l2;have g0:(vs.map (·.2))[k]? =some (.ref l):=by rw[g1,show k=ws.length by lia];simp
      refine⟨.ref q,hp,q,C,dx,vs,.ref l,rfl,b.ob,c2,c3 f (gI hk),Qq b.nm hk hn g0,.int n,k1,l,o,zs,qd.1,ys,n,rfl,rfl,g3,g4,by rw[gZ];exact hln,λo' zs' ks' ys' hks hys dn=>?_⟩;obtain rfl:=hks qd.2 d;subst hys;obtain⟨m1,m2⟩:=Hr Ms (j:=n) g4.key g5 r1;have nA':∀a∈A',a≠l:=λa m z=>by
        have:=nd.2.2;rw[qcM]at this;exact this.2.2 a m l (by simp) z
      have b':ObAt X.K G1 (upd H1 l (kn l o')) q C dx c' ns' ls (some (gY qd.1 qd.2 n d)) vs (A'++[l]):=
        ⟨b.nc,by rw[aV pl];exact b.ob,by rw[aV dl];exact b.dx,b.nm,ws,l,o',zs',_,A',g1,g2.move (Fz.refl G1) λa m=>aV (nA' a m),cT,dn,m2,rfl⟩
      exact kk G1 _ σ (I1.chO e6 e8 hp b nd0 ow (I1.fz.right gl _) (λz o n hz=>by rw[aV (λy=>n (by rw[y];simp))];exact hz) (λz hz=>by
        by_cases y:z=l
        . subst y;rw[cT]at hz;cases hz
        . rw[aV y]at hz;exact hz) b' nd0 λa m=> .inl m) f1
  . exact aI hm
end
section
variable {K:AF}{B:Bs}{G H:Hp}{σ:St}{ρ:R}{p:AD}{t t3:T}{A:AA AD}{vs:AA V}{ds:AA D}{F:R->AB (Sl×R)}{d:D}{rest:R}{Q:VK}{E:XK}
theorem Bi (fz:Fz G H)(r:RepT K G H (.ref p) t A)(nd:A.Nodup)(gA:∀a∈A,G a=none)(rv:RepL K G vs ds)(eF:F (.ptr t::ds.map .val)=some (.val d,.ptr t3::rest))(kk:∀G2 H2 v A3,Fz G G2->Fz G2 H2->(∀b o,G2 b=some o->G b≠none\/H b=none)->(∀b o,H b=some o->b∉A->H2 b=some o)->(∀b,H2 b=none->H b=none)->RepT K G2 H2 (.ref p) t3 A3->A3.Nodup->(∀a∈A3,G2 a=none/\(a∈A\/H a=none))->RepD K G2 v d->Q v H2):jM K (ds.length+1) F (.ref p::vs) H Q E:=by
 have hd:p∈A:=by obtain⟨p2,e,m⟩:=r.head;cases e;exact m
 have mO:∀{i:Nat} {b:AD},(i,b)∈A.map (λa=>((0:Nat),a))++[(4096,p),(8192,p)]->(i=0/\b∈A)\/(i=4096/\b=p)\/(i=8192/\b=p):=λ{i b} m=>by
  rcases qaq.mp m with m|m
  ·obtain⟨a,m,e⟩:=qci.mp m;cases e;exact .inl ⟨rfl,m⟩
  ·simp at m;exact .inr m
 have inA:∀{i:Nat} {b:AD},(i,b)∈A.map (λa=>((0:Nat),a))++[(4096,p),(8192,p)]->b∈A:=λ{i b} m=>by
  rcases mO m with z|z|z
  ·exact z.2
  ·rw[z.2];exact hd
  ·rw[z.2];exact hd
 have at0:∀{i:Nat} {s:Sl},(Sl.ptr t::ds.map .val)[i]? =some s->(i=0/\s= .ptr t)\/∃k x,i=k+1/\ds[k]? =some x/\s= .val x:=λ{i s} e=>by
  cases i with
  |zero=>simp at e;exact .inl ⟨rfl,e.symm⟩
  |succ k=>
   rw[Pa,cJ]at e;refine bQ e λx h1 h2=>?_
   exact .inr ⟨k,x,rfl,h1,h2.symm⟩
 refine⟨G,A.map (λa=>((0:Nat),a))++[(4096,p),(8192,p)],_,_,_,eF,by simp,⟨fz,Fz.refl G,λb o e=> .inl (by show G b≠none;rw[e];simp),λb o e _=>e,λb e=>e,by simp[rv.length],λi b m=>r.here (inA m),λi s e=>?_,λi k s u a n e1 e2 w1 w2=>?_⟩,λG2 H2 v f2 fz2 nw kp th so rr=>?_⟩
 ·rcases at0 e with⟨rfl,rfl⟩|⟨k,x,rfl,h1,rfl⟩
  ·exact⟨.ref p,A,rfl,r,⟨nd,p,rfl,by simp,λ_=>by simp⟩,λa m=>⟨gA a m,.inl (by simp[m])⟩⟩
  ·obtain⟨y,g1,g2⟩:=rv.get h1;exact⟨y,by simp[g1],g2⟩
 ·rcases at0 e1 with⟨rfl,rfl⟩|⟨k1,x,rfl,h1,rfl⟩
  ·rcases at0 e2 with⟨rfl,rfl⟩|⟨k2,x,rfl,h1,rfl⟩
   ·exact n rfl
   ·exact w2
  ·exact w1
 ·obtain⟨ov,so⟩:=so 0 (.ptr t3) rfl;obtain⟨v3,A3,h1,h2,⟨h3,p3,rfl,h4,h5⟩,h6⟩:=so;have e3:p3=p:=by
   rcases mO h4 with z|z|z
   ·lia
   ·exact z.2
   ·lia
  subst e3;refine kk G2 H2 v A3 f2 fz2 nw (λb o hb n=>kp b o hb λi m=>n (inA m)) th h2 h3 (λa m=>⟨(h6 a m).1,(h6 a m).2.imp inA λz=>z.1⟩) rr
theorem Vs (I:SI K B G H σ ρ){c c3:Str}{ns ns3:AA Str}{ls l3:AA (AA D)}{dk d3:AB (AA Int×AA D)}(e:ρ[j]? =some s)(q:s.ob=some (c,ns,ls,dk))(hp:σ[j]? =some (some (.ref p)))(rv:RepL K G vs ds)(eF:F (.ptr (.obj c ns ls dk)::ds.map .val)=some (.val d,.ptr (.obj c3 ns3 l3 d3)::rest))(kk:∀G2 H2 v,SI K B G2 H2 σ (ρ.set j (s.putT (.obj c3 ns3 l3 d3)))->Fz G G2->RepD K G2 v d->Q v H2):jM K (ds.length+1) F (.ref p::vs) H Q E:=by
 obtain⟨p1,C,dx,ws,A,hp1,b,nd,ow⟩:=I.obj e q;rw[hp]at hp1;cases hp1;have sl:=I.slot j s e;refine Bi I.fz b.rep nd (λa m=>(sl.own ((ow a).mpr m)).1) rv eF λG2 H2 v A3 f2 fz2 nw kp th r3 nd3 h3 rr=>kk G2 H2 v ?_ f2 rr
 have sub:∀a∈A3,a∈p::dx::A\/H a=none:=λa m=>(h3 a m).2
 have h:=I.chg (i:=j) (ov:=some (.ref p)) (s':=s.putT (.obj c3 ns3 l3 d3)) (G':=G2) (H':=H2) fz2 f2 (λx o hx=>?_) (λx o k1 k2=>kp x o (I.keep x o k1 k2) λm=>?_) (λx k=>I.there x (th x k)) (λi t a z ei w g ha=>?_) ?_
 ·rwa[pA hp]at h
 ·rcases nw x o hx with z|z
  ·obtain⟨u,hu⟩:=qbW.mp z;exact I.new x u hu
  ·exact .inr (I.there x z)
 ·rcases(sl.own ((ow x).mpr m)).2.2 with z|z
  ·rw[k1]at z;cases z
  ·exact k2 j z
 ·have na:a∉p::dx::A:=λm=>I.dis i j t s a z ei e w ((ow a).mpr m)
  obtain⟨x,hx⟩:=qbW.mp ha;refine⟨?_,(kp a x hx na).trans hx.symm,λw'=>?_⟩
  ·cases y:G2 a with
   |none=>rfl
   |some o=>
    rcases nw a o y with y|y
    ·exact AH g y
    ·exact AH y ha
  ·have:∃v A,some (some (V.ref p))=some (some v)/\RepT K G2 H2 v (.obj c3 ns3 l3 d3) A/\a∈A:=by
    rcases Uv q with rfl|rfl<;>exact w'
   obtain⟨v2,A2,k1,k2,k3⟩:=this;cases k1;rw[<-r3.det k2 λ_ _=>rfl]at k3;rcases sub a k3 with y|y
   ·exact na y
   ·exact ha y
 ·rcases Uv q with rfl|rfl
  ·obtain⟨v,A0,k1,k2,k3,k4⟩:=sl;rw[hp]at k1;cases k1;have eA:p::dx::A=A0:=b.rep.det k2 λ_ _=>rfl
   subst eA;exact⟨.ref p,_,rfl,r3,nd3,λa m=>⟨(h3 a m).1,(sub a m).elim (λz=>(k4 a z).2) λz=>I.there a z⟩⟩
  ·obtain⟨v,A0,k1,k2,k3,k4⟩:=sl;rw[hp]at k1;cases k1;have eA:p::dx::A=A0:=b.rep.det k2 λ_ _=>rfl
   subst eA;obtain⟨k3,p2,y1,y2,y3⟩:=k3;cases y1;exact⟨.ref p,_,rfl,r3,⟨nd3,p,rfl,y2,λ_=>y3 rfl⟩,λa m=>⟨(h3 a m).1,(sub a m).elim (λz=>(k4 a z).2) λz=> .inr ⟨I.there a z,p,rfl,y3 rfl⟩⟩⟩
end
def Ci (F:R->AB (Sl×R))(c:Str)(ns:AA Str)(j:Nat)(ma:MA):ME:=λρ=>match ρ[j]?.bind Sl.ob with
 |some (c',ns',_,_)=>if c'=c/\ns'=ns then(ma ρ).bind λq=>match q.2[j]?.bind Sl.ob with
  |some (c2,ns2,l2,d2)=>(F (.ptr (.obj c2 ns2 l2 d2)::q.1.map .val)).bind λz=>match z with
   |(.val d,.ptr (.obj c3 ns3 l3 d3)::_)=>(q.2[j]?).map λs=>(d,q.2.set j (s.putT (.obj c3 ns3 l3 d3)))
   |_=>none
  |none=>none else none
 |none=>none
def Kl (i:Nat)(c:Str)(ns:AA Str)(F:R->AB (Sl×R))(ma:MA):MS:=λρ=>(ma ρ).bind λq=>(F (.ptr (.obj c [] [] none)::q.1.map .val)).bind λz=>match z with
 |(.val .non,.ptr (.obj c3 ns3 l3 (some d3))::_)=>if c3=c/\ns3=ns then some (.next,q.2.set i (.val (obD c ns l3 d3)))else none
 |_=>none
structure MkO (P:Program)(w:World)(K:W.Frag)(mg:Str->Option Value)(base:Heap)(k:Nat)(c:Str)(sp:Sp):Prop where
 ex:∃C f fd ps,W.nsIn K mainGlobals c=some (some (.ref C))/\mg c=some (.ref C)/\Mk K C f/\FnOk P w K mg base iJ k f fd ps sp/\Binds K fd ps []
section
variable {X:Cx}{c x y mt:Str}{ns:AA Str}{a:AI}{es:AA AI}{ma:MA}{p py pos ap tpos:Pos}{k k' n:Nat}{F:R->AB (Sl×R)}
theorem zkV (j:Nat)(hc:ns.contains mt=false)(md:MV X.prog X.w X.K X.mg X.base k c mt (jM X.K n F))(hr:Room k' X.A)(ha:SA X (a::es) ma)(AO:∀ρ as ρ',ma ρ=some (as,ρ')->as.length+1=n)(hN:X.N[j]? =some x:=by rfl)(hv:dJ X.env.scope x:=by trivial)(hd:(x==("__debug__":Str))=false:=by decide)(hcd:(x==("__classdict__":Str))=false:=by decide)(hk:k<=k':=by decide)(hst:starEach (a::es) X.env=(false,eval a X.env)::starEach es X.env:=by rfl)(hpl:(backTo pos (starEach es X.env)).any (·.1)=false:=by rfl)(ht : eval (.Call (.Attribute (.Name x p) mt ap) (a :: es) [] pos) X.env = (do
   let ov<-eval (.Name x p) X.env
   standAt ap.atName
   let(f,first)<-holding [ov] (getMethod ov mt pl)
   callWith pos f first (backTo pos (starEach (a::es) X.env)) (backToKw pos (keywordEach [] X.env))):=by rfl):SE X (.Call (.Attribute (.Name x p) mt ap) (a::es) [] pos) (Ci F c ns j ma):=by
 obtain⟨C,f,fdd,ps,c1,c2,c3,c4,c5⟩:=md.ex;refine ha.el λt pa sa=>?_
 refine⟨_,zo1 (eB hN hv hd hcd) c2 c3 c4 (hr.mono hk) c5 .nil Bw pa hst hpl ht,λB G H σ ρ d ρ' Q I hm kk=>?_⟩;unfold Ci at hm
 split at hm
 ·rename_i c' ns' ls dk e0
  split at hm
  ·rename_i h;exists h;obtain⟨s0,e1,e2⟩:=SI.obHas e0;obtain⟨q,C2,dx,vs,A,hp,b,nd,ow⟩:=I.obj e1 e2;have h2:=b.nc;rw[c1]at h2;cases h2;obtain⟨⟨as,ρ1⟩,e3,hm2⟩:=Fu hm;clear hm;refine⟨.ref q,hp,q,dx,vs,rfl,b.ob,zg0 (by rw[b.nm];exact hc),sa B G H σ ρ as ρ1 _ I e3 λG1 H1 us I1 f1 r1=>?_⟩;dsimp only at hm2
   split at hm2
   ·rename_i c2' ns2 l2 d2 e4;refine aP hm2 λz e5 hm3=>?_
    clear hm2
    split at hm3
    ·rename_i d' c3' ns3 l3 d3 rest;refine bQ hm3 λs1 e6 e7=>?_
     cases e7;obtain⟨s2,e8,e9⟩:=SI.obHas e4;rw[e6]at e8;cases e8;have hl:=AO _ _ _ e3;rw[lE,<-hl];exact Vs I1 e6 e9 hp r1 e5 λG2 H2 v I2 f2 rr=>kk G2 H2 v I2 (f1.trans f2) rr
    ·exact aI hm3
   ·exact aI hm2
  ·exact aI hm
 ·exact aI hm
theorem Ey (i:Nat)(mk:MkO X.prog X.w X.K X.mg X.base k c (jM X.K n F))(hr:Room k' X.A)(ha:SA X (a::es) ma)(AO:∀ρ as ρ',ma ρ=some (as,ρ')->as.length+1=n)(hN:X.N.Nodup)(hi:X.N[i]? =some x:=by rfl)(hx:jX X.env.scope x:=by trivial)(hf:X.fn x=true\/X.env.scope.names.lookup x=some .local:=by trivial)(hk:k+1<=k':=by decide)(hg:Gl X c:=by rfl)(hdb:(c==("__debug__":Str))=false:=by decide)(hs:swapsWith (.Call (.Name c p) (a::es) [] pos) (some (.Name x py)) tpos.line X.env=pure false:=by rfl)(hst:starEach (a::es) X.env=(false,eval a X.env)::starEach es X.env:=by rfl)(hpl:(backTo pos (starEach es X.env)).any (·.1)=false:=by rfl):SS X (.Assign [.Name x py] (.Call (.Name c p) (a::es) [] pos) tpos) (Kl i c ns F ma):=by
 obtain⟨C,f,fd,ps,c1,c2,c3,c4,c5⟩:=mk.ex;refine ha.el λt pa sa=>?_
 refine⟨_,zqf hN hi hx (xC c3 c4 (hr.mono hk) hg c2 c5 .nil Bw pa hdb hst hpl) hs hf,λB G H σ ρ fl ρ' E I hm kk=>?_⟩;refine bD hm λas ρ1 e1 hm2=>?_
 clear hm;refine aP hm2 λz e2 hm3=>?_
 clear hm2
 split at hm3
 ·rename_i c3' ns3 l3 d3 rest;refine aY hm3 λh hm3=>?_
  ·skip
   exists h;exists bK hm3;refine sa B G H σ ρ as ρ1 _ I e1 λG1 H1 us I1 f1 r1=>?_
   intro q dx hq hdx nq;have hl:=AO _ _ _ e1;rw[lE,<-hl];have hH:∀b,(upd (upd H1 dx (.own q)) q (.ins C dx [])) b=none->H1 b=none:=λb hb=>by
    by_cases y:b=q
    ·subst y;rw[cT]at hb;cases hb
    ·rw[aV y]at hb
     by_cases y2:b=dx
     ·subst y2;rw[cT]at hb;cases hb
     ·rwa[aV y2]at hb
   have hH2:∀b o,H1 b=some o->(upd (upd H1 dx (.own q)) q (.ins C dx [])) b=some o/\b∉[q,dx]:=λb o hb=>by
    have n1:b≠q:=λz=>by rw[z,hq]at hb;exact aI hb
    have n2:b≠dx:=λz=>by rw[z,hdx]at hb;exact aI hb
    exact⟨by rw[aV n1,aV n2];exact hb,by simp[n1,n2]⟩
   refine Bi (A:=[q,dx]) (t:= .obj _ [] [] none) (λa o ea=>(hH2 a o (I1.fz a o ea)).1) ⟨q,C,dx,[],[],rfl,c1,cT,by rw[aV nq];exact cT,rfl,rfl,rfl⟩ (by simp[Ne.symm nq]) (λa m=>?_) r1 e2 λG2 H2 v A3 f2 fz2 nw kp th r3 nd3 h3 rr=>⟨rr,?_⟩
   ·have:a=q\/a=dx:= ~~~m
    rcases this with rfl|rfl
    ·exact I1.fz.free hq
    ·exact I1.fz.free hdx
   ·have nw':∀b o,G2 b=some o->G1 b≠none\/H1 b=none:=λb o e=>(nw b o e).imp id (hH b)
    have kp':∀b o,H1 b=some o->H2 b=some o:=λb o e=>kp b o (hH2 b o e).1 (hH2 b o e).2
    have I2:=I1.grow f2 fz2 nw' kp';have fr:∀a∈A3,H1 a=none:=λa m=>by
     rcases(h3 a m).2 with y|y
     ·have:a=q\/a=dx:= ~~~y
      rcases this with rfl|rfl
      ·exact hq
      ·exact hdx
     ·exact hH a y
    have hA:∀a∈A3,G2 a=none/\B.H a=none/\Nw X.K G2 H2 σ ρ1 a:=λa m=>⟨(h3 a m).1,I1.there a (fr a m),I1.own_ne (fr a m) nw' kp'⟩
    have fg:=znY (G:=G2) (H:=H2) λa m=>(hA a m).1
    obtain⟨q2,C2,dx2,vs2,A2,e4,rfl,b2⟩:=mK r3;cases e4;have I3:=(I2.frzA hA).set (i:=i) (v:= .ref q) (d:=obD c3' ns3 l3 d3) (zqz fg b2.nc (by rw[tJ (by simp)];exact b2.ob) b2.nm b2.rp λa m=>tJ (by simp[m]));exact kk _ H2 _ I3 (f1.trans (f2.trans fg))
 ·exact aI hm3
end
section
variable {P:AJ}{w:World}{K:AF}{mg:Str->AB AC}{base hp:AK}{c x mt:Str}{st:Stmt}{f:AD}{N:AA Str}{k n:Nat}{m:MS}
def MAtC (K:AF)(c mt q:Str)(st:Stmt):Prop:=∃C f fd,W.nsIn K AL c=some (some (.ref C))/\Cls K C/\Meth K C mt f/\Fun K mt q st f fd
theorem MAtC.mk {q:Str}{od an:AB AD}{kV doc pm cdv ct:AC}(n:W.nsIn K AL c=some (some (.ref C)))(cl:Cls K C)(a:W.findIn K (.ref C) mt=some (some (.ref f)))(i:W.isFn K (.ref f)=true)(l:K.lookup f=some ⟨oc,od,.func (W.fnOf mt q (zbf st) (zaS st) (zaq st) .none kV doc pm an cdv ct),osl⟩)(cc:W.codeIn K cdv q=true)(k:W.keepIn K (.ref f)=true):MAtC K c mt q st:=⟨C,f,_,n,cl,⟨a,i,k⟩,zpw l cc k⟩
theorem mvG {q:Str}(h:MAtC K c mt q st)(b:Bd P w K mg base q st N k m)(d:DefOkM mt q st N n:=by exact⟨⟨rfl,rfl,rfl,by decide+kernel,rfl,by decide+kernel,by decide+kernel⟩,rfl,by decide,λ_ _ _ _ _ _=>by first|exact aN λ_=>bJ rfl|exact aN λ_=>aN λ_=>bJ rfl|exact aN λ_=>aN λ_=>aN λ_=>bJ rfl|exact aN λ_=>aN λ_=>aN λ_=>aN λ_=>bJ rfl⟩):MV P w K mg base (k+1) c mt (jM K n (fG N.length m)):=
 let⟨C,f,fd,a1,a2,a3,T⟩:=h
 ⟨⟨C,f,fd,_,a1,a2,a3,sZ T d.sc d.len d.le λcdv A outer s H E hr=>b _ cdv A outer s H E hr d.sc.nd,T.binds d.bs⟩⟩
theorem mvP {q:Str}(h:MAtC K c mt q st)(b:Bd P w K mg base q st N k m)(d:DefOkM mt q st N n:=by exact⟨⟨rfl,rfl,rfl,by decide+kernel,rfl,by decide+kernel,by decide+kernel⟩,rfl,by decide,λ_ _ _ _ _ _=>by first|exact aN λ_=>bJ rfl|exact aN λ_=>aN λ_=>bJ rfl|exact aN λ_=>aN λ_=>aN λ_=>bJ rfl|exact aN λ_=>aN λ_=>aN λ_=>aN λ_=>bJ rfl⟩):MV P w K mg base (k+1) c mt (aX K n (fP N.length m)):=
 let⟨C,f,fd,a1,a2,a3,T⟩:=h
 ⟨⟨C,f,fd,_,a1,a2,a3,zpp T d.sc d.len d.le λcdv A outer s H E hr=>b _ cdv A outer s H E hr d.sc.nd,T.binds d.bs⟩⟩
structure IAtC (K:W.Frag)(mg:Str->Option Value)(c q:Str)(st:Stmt):Prop where
 ex:∃C f fd,W.nsIn K mainGlobals c=some (some (.ref C))/\mg c=some (.ref C)/\Mk K C f/\Fun K "__init__" q st f fd
theorem mkG {q:Str}(h:IAtC K mg c q st)(b:Bd P w K mg base q st N k m)(d:DefOkM "__init__" q st N n:=by exact⟨⟨rfl,rfl,rfl,by decide+kernel,rfl,by decide+kernel,by decide+kernel⟩,rfl,by decide,λ_ _ _ _ _ _=>by first|exact aN λ_=>bJ rfl|exact aN λ_=>aN λ_=>bJ rfl|exact aN λ_=>aN λ_=>aN λ_=>bJ rfl|exact aN λ_=>aN λ_=>aN λ_=>aN λ_=>bJ rfl⟩):MkO P w K mg base (k+1) c (jM K n (fG N.length m)):=
 let⟨C,f,fd,a1,a2,a3,T⟩:=h.ex
 ⟨⟨C,f,fd,_,a1,a2,a3,sZ T d.sc d.len d.le λcdv A outer s H E hr=>b _ cdv A outer s H E hr d.sc.nd,T.binds d.bs⟩⟩
end
def jC (i j:Int):Bool:=decide (i.natAbs.log2<60000000)&&decide (j.natAbs.log2<60000000)
theorem zqJ {i j:Int}(h:jC i j=true):IntMulOk i j:=by
 unfold jC at h;rw[cV,iN,iN]at h;have bits:∀k:Int,k.natAbs.log2<60000000->Builtin.Int.intBits k<=60000000:=λk h=>by
  unfold Builtin.Int.intBits
  split
  ·exact gR _
  ·lia
 have b1:=bits i h.1;have b2:=bits j h.2;unfold IntMulOk;intro z;simp only[cV]at z;have z2:=z.2;unfold Builtin.Int.intTooBig at z2
 revert z2
 generalize Builtin.Int.intBits i=p at*
 generalize Builtin.Int.intBits j=q at*
 intro z2;have z3:=Ss z2;have hb:=bitsLine_eq;lia
def iL:D->D->AB D:=hJ jC λi j=> .int (i*j)
def Dx (j:Int):Bool:=decide (j≠0)&&decide (j.natAbs.log2<9000)
theorem qE:OpR X (binaryOp .FloorDiv) (rI (λ_ j=>j≠0/\j.natAbs.log2<9000) λi j=> .int (i.fdiv j)):=Cs λi j _ _ _ _ _ hc q=>
 PyProof.Rows.floordiv_int hc.1 q (.inl (PyProof.noPylong_of_log2 hc.2))
def yY:D->D->AB D:=hJ (λ_ j=>Dx j) λi j=> .int (i.fdiv j)
def kE:D->D->AB D:=hJ (λ_ j=>decide (j≠0)) λi j=> .int (i.fmod j)
section
variable {X:Cx}{a b:AI}{ma mb:ME}{pos:Pos}
theorem jH (ha:SE X a ma)(hb:SE X b mb):SE X (.BinOp a .Mult b pos) (m2 iL ma mb):=lP op_mulG (Bx λi j h=>zqJ h) ha hb
theorem Fb (ha:SE X a ma)(hb:SE X b mb):SE X (.BinOp a .FloorDiv b pos) (m2 yY ma mb):=lP qE (Bx λi j h=>by simpa[Dx]using h) ha hb
theorem zqg (ha:SE X a ma)(hb:SE X b mb):SE X (.BinOp a .Mod b pos) (m2 kE ma mb):=lP yS (Bx λi j h=> ~~~h) ha hb
end
section
variable {X:Cx}{elt tg iter:AI}{ifs:AA AI}{scope:Scope}{lpos pos pos':Pos}{mi:MA}{g:D->R->AB R}{mt:MT}{me:ME}
theorem zl6 (j i:Nat)(cap:AA Nat)(t:Nat)(N:AA Str)(hc:X.calm=true)(hi:SIt X tg iter mi)(hg:∀C s H fp,SG (cB X N scope C s H fp) tg g)(ht:∀C s H fp,Cw (cB X N scope C s H fp) ifs mt)(he:∀C s H fp,SE (cB X N scope C s H fp) elt me)(hN:X.N.Nodup)(hxi:X.N[i]? =some x:=by rfl)(hx:jX X.env.scope x:=by trivial)(hf:X.fn x=true\/X.env.scope.names.lookup x=some .local:=by trivial)(hsw:swapsWith (.ListComp elt [⟨tg,iter,ifs,0⟩] scope lpos) (some (.Name x pos')) pos.line X.env=pure true:=by rfl)(hk:scope.kind= .function:=by rfl)(hb:jW X.env scope=true:=by kernel_rfl)(hcap:jN scope.names N X.N cap t=true:=by kernel_rfl)(hs:∀x,foldedSetIterable iter X.env x=pure x:=by exactλ_=>rfl):SS X (.Assign [.Name x pos'] (.ListComp elt [⟨tg,iter,ifs,0⟩] scope lpos) pos) (aS i (dZ (iB j (cZ cap t mi g mt me)))):=by
  refine hi.el λwi pi si=>?_
  refine⟨_,zk2 hN hxi hx hf hsw hc (Xf hk hb) (Qw hcap) pi (λC s H fp=>(hg C s H fp).choose_spec.1) (λC s H fp=>(ht C s H fp).choose_spec.1) (λC s H fp=>(he C s H fp).choose_spec.1) hs,λB G H σ ρ fl ρ' E I hm k=>?_⟩;refine jA hm λd ρ1 e1 e3=>?_
  refine jA e1 λds ρ2 e4 e5=>?_
  exists Prod.mk.inj e5;exists Prod.mk.inj e3;refine zjn j (zkL si (.mk' hg ht he)) B G H σ ρ ds ρ2 _ I e4 λG1 H1 l xs I1 f1 g1 h1 r1 b1 n1=>?_
  obtain⟨I2,f2,r2⟩:=Ff I1 g1 h1 r1 b1 n1;exact k _ H1 _ (I2.set r2) (f1.trans f2)
end
def slC:Str:="Slant"
def slN:AA Str:=["block","weights","ways","backs","slants"]
theorem OC.take (h:OC K c ns)(k:Nat):OC K c (ns.take k):=by
 obtain⟨C,c1,c2,c3⟩:=h;exact⟨C,c1,c2,λf m=>c3 f (Sz m)⟩
def eW:Nat:=2^10000
end M
namespace M
open L2 PySem
open PyProof.Rows hiding St
def Bu (K:AF):AA V->Hp->VK->Prop:=λxs H Q=>∃(p:AD) (ns:AA Int),xs=[.ref p]/\(SqL K H p (ns.map V.int)\/SqT K H p (ns.map V.int))/\Q (.bl (ns.any λn=>n !=0)) H
theorem zp1 {X:Cx}(hc:X.calm=true):iO X (.builtin "any") (Bu X.K):=by
 intro AM s σ H xs us Q I r h;obtain⟨p,ns,rfl,hq,q⟩:=h;obtain⟨u,rfl,ru⟩:=qX r;cases ru;refine call_any_walk (Wf (A:=X.A.in1) (I.ok.hd hc) I hq λits s₂ St rv W st hfp fin=>?_);have hl:=rv.length;rw[eI]at hl;refine⟨_,_,_,_,_,_,λi=>((ns.map λn=>n !=0)[i]?).getD false,rfl,W,st,λi v s' Q' E' hP hQ=>?_,λh' tk hk=>⟨.bl (ns.any λn=>n !=0),H,fin h' tk hk,?_,q⟩⟩
 ·have hi:i<its.length:=(qas.mp hP).1;have e2:(ns.map V.int)[i]? =some (.int ns[i]):=by rw[cJ,bI ∅];rfl
  obtain⟨u,h1,h2⟩:=rv.get e2;rw[hP]at h1;cases h1;obtain⟨t,rfl⟩:=(show ∃t,v=Value.int ns[i] t from h2);have e3:(ns.map λn=>n !=0)[i]? =some (ns[i] !=0):=by rw[cJ,bI ∅];rfl
  simp only[e3,Sn]at hQ;exact PySem.P.truthy_int hQ
 ·have h2:its.length=(ns.map λn=>n !=0).length:=by rw[eI];lia
  rw[h2,LSm.range_any,List.any_map];rfl
def Wh:AA D->AB D
 |[d]=>(eE [d]).bind λds=>(fL ds).map λns=> .bl (ns.any λn=>n !=0)
 |_=>none
theorem xV {X:Cx}:VC X (Bu X.K) Wh:=by
 intro B G H σ ρ xs ds d Q I r hf k
 match ds,hf with
 |[a],hf=>
  refine aP hf λes e1 hf=>?_
  refine bQ hf λns e2 e3=>?_
  subst e3;obtain⟨x,rfl,ra⟩:=r.one;obtain⟨p,ys,rfl,hq,ry⟩:=zik I ra e1;rw[Yv e2]at ry;rw[RepL.ints_eq ry]at hq;exact⟨p,ns,rfl,hq,k G H _ I (Fz.refl G) rfl⟩
 |[],hf=>exact aI hf
 |_::_::_,hf=>exact aI hf
theorem zq2 {X:Cx}{e:AI}{ma:MA}{p pos:Pos}(hc:X.calm=true)(ml:X.mg "any"=none)(ha:SA X [e] ma)(hg:Gl X "any":=by rfl)(he:starEach [e] X.env=(false,eval e X.env)::starEach [] X.env:=by rfl):SE X (.Call (.Name "any" p) [e] [] pos) (mC Wh ma):=
 Bk (zp1 hc) xV (by decide+kernel) ml ha hg (by decide) (by decide) he rfl
end M
namespace M
open L2 PySem PySem.Spec
open PyProof.Rows hiding St
def gL (n:Nat)(g:AA D->R->AB R):D->R->AB R:=λd ρ=>match d with
 | .lst ds=>if ds.length=n then g ds ρ else none
 |_=>none
theorem zpJ {X:Cx}{pos:Pos}{es:AA AI}{k:Nat}{g:AA D->R->AB R}{n:Nat}(hc:X.calm=true)(h:SGs X es g)(hn:(assignEach es X.env).length=n:=by rfl)(hst:(assignEach es X.env).findIdx? (·.1)=none:=by rfl):SG X (.Tuple es k pos) (gL n g):=by
 refine h.el λt p s=>?_
 refine⟨_,yM hc p hn hst,λB G H σ ρ v d ρ' Q I r hm k=>?_⟩;cases d<;>try exact aI hm
 rename_i ds;simp only[gL]at hm;refine aY hm λhl hm=>?_
 obtain⟨a,xs,e,ha,rx⟩:=I.lst r;exact⟨a,xs,e,SqL.of ha,by rw[rx.length];exact hl,s B G H σ ρ xs ds ρ' Q I rx hm k⟩
def Lg (j:Nat)(mi:MQ)(mo:MO):MS:=λρ=>(mo ρ).bind λp=>(mi p.2).bind λa=>match a,p.2[j]? with
 | .int n,some (.tre (.lst cs))=>(eU cs.length n).bind λu=>some (.next,p.2.set j (.tre (.lst (cs.take u++[.l p.1]++cs.drop (u+1)))))
 |_,_=>none
def vL (j i:Nat)(c0 c1:Int)(me:ME):MS:=λρ=>match ρ[i]?,ρ[j]? with
  |some (.val (.int n)),some (.tre (.lst cs))=>if 0<=n/\n<cs.length/\cs.length<1000000 then(me (ρ.set j .emp)).bind λp=>match p.1,p.2[i]? with
    | .int t,some (.val (.int m))=>if m=n then(if t=0 then some []else if t=1 then cs[n.toNat]?.map λc=>[c,.l [.int c0,.int c1]]else none).bind λdd=>some (.next,p.2.set j (.tre (.lst (cs.take n.toNat++dd++cs.drop (n.toNat+1)))))else none
    |_,_=>none
   else none
  |_,_=>none
section
variable {K:AF}{B:Bs}{G H:Hp}{σ:St}{ρ:R}
theorem zjw:∀{xs:AA V} {cs:AA Ch} {A:AA AD} {ys:AA V} {ds:AA Ch} {A':AA AD},RepCs K G H xs cs A->RepCs K G H ys ds A'->RepCs K G H (xs++ys) (cs++ds) (A++A')
 |[],[],_,_,_,_,h,r=>by rw[show _=[]from h];exact r
 |x::xs,c::cs,_,_,_,A',⟨A1,A2,r1,r2,e⟩,r=>⟨A1,A2++A',r1,zjw r2 r,by rw[e,tN]⟩
 |[],_::_,_,_,_,_,h,_=>h.elim
 |_::_,[],_,_,_,_,h,_=>h.elim
theorem zje:∀{xs:AA V} {cs:AA Ch} {A:AA AD} {u:Nat} {c:Ch},RepCs K G H xs cs A->cs[u]? =some c->∃x A1 A2 A3,xs[u]? =some x/\RepCs K G H (xs.take u) (cs.take u) A1/\RepC K G H x c A2/\RepCs K G H (xs.drop (u+1)) (cs.drop (u+1)) A3/\A=A1++(A2++A3)
 |[],[],_,_,_,_,h=>by simp at h
 |x::xs,d::cs,_,0,c,⟨A1,A2,r1,r2,e⟩,h=>by
  simp at h;subst h;exact⟨x,[],A1,A2,rfl,rfl,r1,r2,e⟩
 |x::xs,d::cs,_,u+1,c,⟨A1,A2,r1,r2,e⟩,h=>by
  obtain⟨y,B1,B2,B3,h1,h2,h3,h4,h5⟩:=zje (u:=u) r2 (~~~h);exact⟨y,A1++B1,B2,B3,~~~h1,⟨A1,B1,r1,h2,rfl⟩,h3,h4,by rw[e,h5,tN]⟩
 |[],_::_,_,_,_,h,_=>h.elim
 |_::_,[],_,_,_,h,_=>h.elim
theorem SI.nwU (I:SI K B G H σ ρ){p:AD}(hp:H p=none)(o:HO){a:AD}(n:Nw K G H σ ρ a):Nw K G (upd H p o) σ ρ a:=
 I.nw_move n λi s a _ _ g h=>⟨g,aV λz=>h (by rw[z];exact hp)⟩
theorem SI.updN (I:SI K B G H σ ρ){p:AD}(gp:G p=none)(bp:B.H p=none)(np:Nw K G H σ ρ p)(o:HO):SI K B G (upd H p o) σ ρ/\∀a,Nw K G H σ ρ a->Nw K G (upd H p o) σ ρ a:=
  ⟨I.move (I.fz.right gp _) (Fz.refl G) I.new (λb u e n=>by rw[aV λz=>by rw[z,bp]at e;cases e];exact I.keep b u e n) (λb e=>by
    by_cases z:b=p
    . rw[z];exact bp
    . rw[aV z]at e;exact I.there b e) λi s a e w g _=>⟨g,aV λz=>np i s e (z ▸ w)⟩,
   λa n=>I.nw_move n λi s a e w g _=>⟨g,aV λz=>np i s e (z ▸ w)⟩⟩
theorem Hq {A1 A2 A3 Am:AA AD}(nd:(A1++(A2++A3)).Nodup)(ndm:Am.Nodup)(h:∀a∈Am,a∈A2\/a∉A1++(A2++A3)):(A1++(Am++A3)).Nodup:=by
 obtain⟨n1,n23,d⟩:=qcM.mp nd;obtain⟨n2,n3,d2⟩:=qcM.mp n23;refine qcM.mpr ⟨n1,qcM.mpr ⟨ndm,n3,λa ma b mb e=>(h a ma).elim (λq=>d2 a q b mb e) λq=>q (dQ _ (dQ _ (e ▸ mb)))⟩,λa ma b mb e=>?_⟩;exact(qaq.mp mb).elim (λmb=>(h b mb).elim (λq=>d a ma b (kH _ q) e) λq=>q (kH _ (e ▸ ma))) λmb=>d a ma b (dQ _ mb) e
theorem SI.tabMid (I:SI K B G H σ ρ){j:Nat}{p:AD}{xs1 xs3 ys:AA V}{cs1 cs3 dd:AA Ch}{A1 A2 A3 Am:AA AD}(hj:σ[j]? =some (some (.ref p)))(nd:(p::(A1++(A2++A3))).Nodup)(fa:∀a∈p::(A1++(A2++A3)),G a=none/\B.H a=none/\Nw K G H σ ρ a)(r1:RepCs K G H xs1 cs1 A1)(r3:RepCs K G H xs3 cs3 A3)(rm:RepCs K G H ys dd Am)(ndm:Am.Nodup)(fm:∀a∈Am,a∈A2\/(a∉p::(A1++(A2++A3))/\G a=none/\B.H a=none/\Nw K G H σ ρ a)):SI K B G (upd H p (.lst (xs1++ys++xs3))) σ (ρ.set j (.tre (.lst (cs1++dd++cs3)))):=by
 obtain⟨pn,nd'⟩:=qa0.mp nd;have old:∀a∈A1++(A2++A3),a≠p/\G a=none/\B.H a=none/\Nw K G H σ ρ a:=λa m=>⟨λz=>pn (z ▸ m),fa a (fF _ m)⟩
 have all:∀a∈A1++(Am++A3),a≠p/\G a=none/\B.H a=none/\Nw K G H σ ρ a:=λa m=>(qaq.mp m).elim (λm=>old a (kH _ m)) λm=>(qaq.mp m).elim (λm=>(fm a m).elim (λq=>old a (dQ _ (kH _ q))) λq=>⟨λz=>q.1 (z ▸ gG),q.2⟩) λm=>old a (dQ _ (dQ _ m))
 have f0:=fa p gG;obtain⟨I3,n3⟩:=I.updN f0.1 f0.2.1 f0.2.2 (.lst (xs1++ys++xs3));have mv:∀a∈A1++(Am++A3),upd H p (.lst (xs1++ys++xs3)) a=H a:=λa m=>aV (all a m).1
 have I4:=I3.setT (i:=j) (v:= .ref p) (t:= .lst (cs1++dd++cs3)) (A:=p::(A1++(Am++A3))) ⟨p,_,_,rfl,cT,by
   rw[tN xs1 ys xs3]at mv ⊢;rw[tN];exact zjw (r1.move (Fz.refl G) λa m=>mv a (kH _ m)) (zjw (rm.move (Fz.refl G) λa m=>mv a (dQ _ (kH _ m))) (r3.move (Fz.refl G) λa m=>mv a (dQ _ (dQ _ m)))),rfl⟩
  (qa0.mpr ⟨λm=>(all p m).1 rfl,Hq nd' ndm λa m=>(fm a m).imp id λq z=>q.1 (fF _ z)⟩) λa m=>(qap.mp m).elim (λz=>by rw[z];exact⟨f0.1,f0.2.1,n3 _ f0.2.2⟩) λm=>⟨(all a m).2.1,(all a m).2.2.1,n3 _ (all a m).2.2.2⟩
 rwa[pA hj]at I4
theorem Ha (I:SI K B G H σ ρ){j:Nat}{l:AD}(n:Nw K G H σ ρ l):Nw K G H σ (ρ.set j .emp) l:=λi s e w=>by
 by_cases z:i=j
 ·subst z;rw[Dm,if_pos rfl]at e
  split at e
  ·cases e;exact w
  ·exact aI e
 ·rw[tG (Ne.symm z)]at e;exact n i s e w
end
section
variable {X:Cx}{x y:Str}{a e:AI}{mi:MQ}{mo:MO}{me:ME}{pos p' tpos:Pos}
theorem Kf (j:Nat)(he:SO X e mo)(ha:SQ X a mi)(hN:X.N[j]? =some x:=by rfl)(hv:dJ X.env.scope x:=by trivial)(hd:(x==("__debug__":Str))=false:=by decide)(hcd:(x==("__classdict__":Str))=false:=by decide)(hq : ∀ v, assign (.Subscript (.Name x p') a tpos) X.env v = (do
   let ov<-holding [v] (eval (.Name x p') X.env)
   let iv<-holding [v,ov] (eval a X.env)
   standAt tpos
   holding [v,ov,iv] (setItem ov iv v)
   release [v,ov,iv] []):=by exactλ_=>rfl)(hs:swapsWithSole [.Subscript (.Name x p') a tpos] e pos.line X.env=pure false:=by rfl)(hw:swappedStores [.Subscript (.Name x p') a tpos] e X.env=pure none:=by rfl)(h1:(assignEach [.Subscript (.Name x p') a tpos] X.env).map (·.2)=[assign (.Subscript (.Name x p') a tpos) X.env]:=by rfl):SS X (.Assign [.Subscript (.Name x p') a tpos] e pos) (Lg j mi mo):=by
 refine he.el λt p s=>?_
 refine ha.el λta pa sa=>?_
 refine⟨_,Er p (Sm (eB hN hv hd hcd) pa Qe hq) hs hw h1,λB G H σ ρ fl ρ' E I hm k=>?_⟩;refine bD hm λds ρ1 e1 hm=>?_
 refine aP hm λva e2 hm=>?_
 refine s B G H σ ρ ds ρ1 _ I e1 λG1 H1 l ys I1 f1 gl hl rl bl nl=>?_
 dsimp only at hm e2;obtain⟨n,rfl⟩:∃n,va= .int n:=by cases va<;>first|exact⟨_,rfl⟩|exact aI hm
 obtain⟨cs,e4⟩:∃cs,ρ1[j]? =some (.tre (.lst cs)):=by
  cases e:ρ1[j]? with
  |none=>rw[e]at hm;exact aI hm
  |some s=>
   rw[e]at hm;cases s with
   |tre t=>cases t with
    |lst cs=>exact⟨cs,rfl⟩
    |_=>exact aI hm
   |_=>exact aI hm
 rw[e4]at hm;refine aP hm λu e5 hm=>?_
 exists bK hm;obtain⟨v0,A,q1,q2,q3,q4⟩:=I1.slot j _ e4;have q2':=q2;obtain⟨p,xs,A',rfl,g1,g2,rfl⟩:=q2;have hu:u<cs.length:=(zmY e5).2.1;obtain⟨w,A1,A2,A3,j1,j2,j3,j4,rfl⟩:=zje g2 (bI hu);have ln:l∉p::(A1++(A2++A3)):=λm=>nl j _ e4 ⟨_,_,q1,q2',m⟩
 refine⟨.ref p,q1,sa B G1 H1 σ ρ1 _ _ I1 e2 λv2 w2=>?_⟩;refine⟨p,xs,n,u,rfl,w2,g1,by rw[Dn g2];exact e5,?_⟩;have I4:=(I1.emp j).tabMid (ys:=[.ref l]) (dd:=[.l ds]) (Am:=[l]) q1 q3 (λb m=>⟨(q4 b m).1,(q4 b m).2,Ua I1 e4 ⟨_,_,q1,q2',m⟩⟩) j2 j4 ⟨[l],[],⟨l,ys,rfl,hl,rl,rfl⟩,rfl,rfl⟩ (qa0.mpr ⟨nofun,Hs⟩) λb m=> .inr (by rw[qcB.mp m];exact⟨ln,gl,bl,Ha I1 nl⟩)
 rw[List.set_set]at I4;rw[qc5,if_pos (by rw[Dn g2];exact hu),List.append_cons];exact k G1 _ σ I4 f1
theorem Jq (j i:Nat){c0 c1:Int}{k0 k1 k2}{px py px2 pl0 pl1 pl2 pl3 pix psub py2 py3 pc pc0 pc1 pbin psl:Pos}(he:SE X e me)(hN:X.N[j]? =some x:=by rfl)(hv:dJ X.env.scope x:=by trivial)(hd:(x==("__debug__":Str))=false:=by decide)(hcd:(x==("__classdict__":Str))=false:=by decide)(hN2:X.N[i]? =some y:=by rfl)(hv2:dJ X.env.scope y:=by trivial)(hd2:(y==("__debug__":Str))=false:=by decide)(hcd2:(y==("__classdict__":Str))=false:=by decide)(hse:wF e:=by exactλ_ _=>rfl)(hsy:wF (.Name y py2):=by exactλ_ _=>rfl)(s1:starEach [.List [] pl0,.List [.Subscript (.Name x px2) (.Name y py2) pix,.List [.Constant (.int c0) k0 pc0,.Constant (.int c1) k1 pc1] pl1] pl2] X.env=(false,eval (.List [] pl0) X.env)::starEach [.List [.Subscript (.Name x px2) (.Name y py2) pix,.List [.Constant (.int c0) k0 pc0,.Constant (.int c1) k1 pc1] pl1] pl2] X.env:=by rfl)(s2:starEach [.List [.Subscript (.Name x px2) (.Name y py2) pix,.List [.Constant (.int c0) k0 pc0,.Constant (.int c1) k1 pc1] pl1] pl2] X.env=(false,eval (.List [.Subscript (.Name x px2) (.Name y py2) pix,.List [.Constant (.int c0) k0 pc0,.Constant (.int c1) k1 pc1] pl1] pl2) X.env)::starEach [] X.env:=by rfl)(s3:starEach [.Subscript (.Name x px2) (.Name y py2) pix,.List [.Constant (.int c0) k0 pc0,.Constant (.int c1) k1 pc1] pl1] X.env=(false,eval (.Subscript (.Name x px2) (.Name y py2) pix) X.env)::starEach [.List [.Constant (.int c0) k0 pc0,.Constant (.int c1) k1 pc1] pl1] X.env:=by rfl)(s4:starEach [.List [.Constant (.int c0) k0 pc0,.Constant (.int c1) k1 pc1] pl1] X.env=(false,eval (.List [.Constant (.int c0) k0 pc0,.Constant (.int c1) k1 pc1] pl1) X.env)::starEach [] X.env:=by rfl)(s5:starEach [.Constant (.int c0) k0 pc0,.Constant (.int c1) k1 pc1] X.env=(false,eval (.Constant (.int c0) k0 pc0) X.env)::starEach [.Constant (.int c1) k1 pc1] X.env:=by rfl)(s6:starEach [.Constant (.int c1) k1 pc1] X.env=(false,eval (.Constant (.int c1) k1 pc1) X.env)::starEach [] X.env:=by rfl)(hs:swapsWithSole [.Subscript (.Name x px) (.Slice (some (.Name y py)) (some (.BinOp (.Name y py3) .Add (.Constant (.int 1) k2 pc) pbin)) none psl) tpos] (.Subscript (.List [.List [] pl0,.List [.Subscript (.Name x px2) (.Name y py2) pix,.List [.Constant (.int c0) k0 pc0,.Constant (.int c1) k1 pc1] pl1] pl2] pl3) e psub) pos.line X.env=pure false:=by rfl)(hw:swappedStores [.Subscript (.Name x px) (.Slice (some (.Name y py)) (some (.BinOp (.Name y py3) .Add (.Constant (.int 1) k2 pc) pbin)) none psl) tpos] (.Subscript (.List [.List [] pl0,.List [.Subscript (.Name x px2) (.Name y py2) pix,.List [.Constant (.int c0) k0 pc0,.Constant (.int c1) k1 pc1] pl1] pl2] pl3) e psub) X.env=pure none:=by rfl)(h1:(assignEach [.Subscript (.Name x px) (.Slice (some (.Name y py)) (some (.BinOp (.Name y py3) .Add (.Constant (.int 1) k2 pc) pbin)) none psl) tpos] X.env).map (·.2)=[assign (.Subscript (.Name x px) (.Slice (some (.Name y py)) (some (.BinOp (.Name y py3) .Add (.Constant (.int 1) k2 pc) pbin)) none psl) tpos) X.env]:=by rfl):
  SS X (.Assign [.Subscript (.Name x px) (.Slice (some (.Name y py)) (some (.BinOp (.Name y py3) .Add (.Constant (.int 1) k2 pc) pbin)) none psl) tpos] (.Subscript (.List [.List [] pl0,.List [.Subscript (.Name x px2) (.Name y py2) pix,.List [.Constant (.int c0) k0 pc0,.Constant (.int c1) k1 pc1] pl1] pl2] pl3) e psub) pos) (vL j i c0 c1 me):=by
 refine he.el λt pt so=>?_
 refine⟨_,Er (Mn ix_list (Vl (jJ (Vl mS) (jJ (Vl (jJ (Mn ix_list (eB hN hv hd hcd) (eB hN2 hv2 hd2 hcd2) hsy) (jJ (Vl (jJ Ue (jJ Ue mS s6) s5)) mS s4) s3)) mS s2) s1)) pt hse) (Ml (eB hN2 hv2 hd2 hcd2) (Ek op_add (eB hN2 hv2 hd2 hcd2) Ue) hN hv hd hcd) hs hw h1,λB G H σ ρ fl ρ' E I hm kk=>?_⟩;unfold vL at hm
 split at hm
 ·rename_i n cs ei ej;refine aY hm λhc hm=>?_
  obtain⟨n0,nc,cl⟩:=hc;refine bD hm λd ρ1 e1 hm=>?_
  obtain⟨v0,hi,r0⟩:=I.slot i _ ei;cases(show v0= .int n from r0);obtain⟨vp,A,hj,q2,q3,q4⟩:=I.slot j _ ej;have q2':=q2;obtain⟨p,xs,A',rfl,g1,g2,rfl⟩:=q2;obtain⟨u,rfl⟩:=Tf n0;have hu:u<cs.length:=∅
  obtain⟨w,A1,A2,A3,j1,j2,j3,j4,rfl⟩:=zje g2 (bI hu);have I0:=I.emp j;have nA:∀b∈p::(A1++(A2++A3)),Nw X.K G H σ (ρ.set j .emp) b:=λb m=>Ua I ej ⟨_,_,hj,q2',m⟩
  have here:∀b∈p::(A1++(A2++A3)),H b≠none:=λb m=>q2'.here m
  have at1:atI xs (u:Int)=some w:=zpX (by unfold eU;simp[Dn g2,hu]) j1;refine⟨by show 0<=sizeLine;exact gR _,λp1 z1=>?_⟩;refine⟨.ref p,hj,.int (u:Nat),hi,p,xs,(u:Nat),w,rfl,rfl,SqL.of ((aV λz=>here p gG (by rw[z];exact z1)).trans g1),at1,by show 2<=sizeLine;decide,λp2 z2=>⟨by show 2<=sizeLine;decide,λp3 z3=>⟨by show 2<=sizeLine;decide,λp4 z4=>?_⟩⟩⟩
  let H1:Hp:=upd H p1 (.lst [])
  let H2:Hp:=upd H1 p2 (.lst [.int c0,.int c1])
  let H3:Hp:=upd H2 p3 (.lst [w,.ref p2])
  let H4:Hp:=upd H3 p4 (.lst [.ref p1,.ref p3])
  have z1:H p1=none:=z1;have z2:H1 p2=none:=z2;have z3:H2 p3=none:=z3;have z4:H3 p4=none:=z4;have x1:∀b o,H b=some o->H1 b=some o:=λb o q=>by show upd H p1 _ b=_;rw[aV λz=>by rw[z,z1]at q;cases q];exact q
  have x2:∀b o,H1 b=some o->H2 b=some o:=λb o q=>by show upd H1 p2 _ b=_;rw[aV λz=>by rw[z,z2]at q;cases q];exact q
  have x3:∀b o,H2 b=some o->H3 b=some o:=λb o q=>by show upd H2 p3 _ b=_;rw[aV λz=>by rw[z,z3]at q;cases q];exact q
  have x4:∀b o,H3 b=some o->H4 b=some o:=λb o q=>by show upd H3 p4 _ b=_;rw[aV λz=>by rw[z,z4]at q;cases q];exact q
  obtain⟨I1,G1,a1,b1,n1⟩:=I0.newO z1 [];obtain⟨I2,G2,a2,b2,n2⟩:=I1.newO z2 [.int c0,.int c1];obtain⟨I3,G3,a3,b3,n3⟩:=I2.newO z3 [w,.ref p2];obtain⟨I4,G4,a4,b4,n4⟩:=I3.newO z4 [.ref p1,.ref p3];have st0:∀b o,H b=some o->H4 b=some o:=λb o q=>x4 b o (x3 b o (x2 b o (x1 b o q)))
  have sp1:H4 p1=some (.lst []):=x4 _ _ (x3 _ _ (x2 _ _ a1));have sp2:H4 p2=some (.lst [.int c0,.int c1]):=x4 _ _ (x3 _ _ a2);have sp3:H4 p3=some (.lst [w,.ref p2]):=x4 _ _ a3;have mp2:Nw X.K G H4 σ (ρ.set j .emp) p2:=I3.nwU z4 _ (I2.nwU z3 _ n2);have mp1:Nw X.K G H4 σ (ρ.set j .emp) p1:=I3.nwU z4 _ (I2.nwU z3 _ (I1.nwU z2 _ n1));have mp3:Nw X.K G H4 σ (ρ.set j .emp) p3:=I3.nwU z4 _ n3;have mA:∀b∈p::(A1++(A2++A3)),Nw X.K G H4 σ (ρ.set j .emp) b:=λb m=>I3.nwU z4 _ (I2.nwU z3 _ (I1.nwU z2 _ (I0.nwU z1 _ (nA b m))))
  show t σ H4 _;refine so _ G H4 σ _ d ρ1 _ I4.re e1 λG' H5 v J f1 r1=>?_
  have I6:SI X.K B G' H5 σ ρ1:=I4.unre J;have sA:∀b∈p::(A1++(A2++A3)),H5 b=H b/\G' b=none/\Nw X.K G' H5 σ ρ1 b:=λb m=>by
   obtain⟨o,ho⟩:=qbW.mp (here b m);obtain⟨k1,k2,k3⟩:=I4.re_stays J (st0 b o ho) (mA b m) (q4 b m).1 (q4 b m).2;exact⟨k1.trans ho.symm,k2,k3⟩
  obtain⟨y1,-,-⟩:=I4.re_stays J sp1 mp1 G1 b1;obtain⟨y2,gy2,ny2⟩:=I4.re_stays J sp2 mp2 G2 b2;obtain⟨y3,-,-⟩:=I4.re_stays J sp3 mp3 G3 b3;obtain⟨y4,-,-⟩:=I4.re_stays J a4 n4 G4 b4;have hp5:H5 p=some (.lst xs):=by rw[(sA p gG).1];exact g1
  have fresh:∀q,(H q=none\/H1 q=none\/H2 q=none)->q∉p::(A1++(A2++A3)):=λq hq m=>by
   obtain⟨o,ho⟩:=qbW.mp (here q m);rcases hq with z|z|z
   ·exact aI (z.symm.trans ho)
   ·exact aI (z.symm.trans (x1 q o ho))
   ·exact aI (z.symm.trans (x2 q o (x1 q o ho)))
  dsimp only at hm
  split at hm
  ·rename_i tt m e2;refine aY hm λhmn hm2=>?_
   clear hm;subst hmn;cases(show v= .int tt from r1);refine aP hm2 λdd e3 hm=>?_
   exists bK hm;have mvH:∀b∈A1++(A2++A3),H5 b=H b:=λb m=>(sA b (fF _ m)).1
   have key:∃pk ys Am,atI [V.ref p1,.ref p3] tt=some (.ref pk)/\H5 pk=some (.lst ys)/\p≠pk/\ys.length<=2/\RepCs X.K G' H5 ys dd Am/\Am.Nodup/\∀a∈Am,a∈A2\/(a∉p::(A1++(A2++A3))/\G' a=none/\B.H a=none/\Nw X.K G' H5 σ ρ1 a):=by
    by_cases ht:tt=0
    ·subst ht;cases(show some []=some dd from e3);exact⟨p1,[],[],rfl,y1,λz=>fresh p1 (.inl z1) (z ▸ gG),gR _,rfl,Hs,nofun⟩
    ·rw[if_neg ht]at e3;refine aY e3 λht1 e3=>?_
     subst ht1;rw[show((u:Nat):Int).toNat=u from rfl,bI hu]at e3;obtain rfl:=Option.some.inj e3;have f2:=fresh p2 (.inr (.inl z2));obtain⟨n1,n23,-⟩:=qcM.mp (qa0.mp q3).2;exact⟨p3,[w,.ref p2],A2++[p2],rfl,y3,λz=>fresh p3 (.inr (.inr z3)) (z ▸ gG),bC _,⟨A2,[p2],j3.move f1 λb m=>mvH b (dQ _ (kH _ m)),⟨[p2],[],⟨p2,_,rfl,y2,⟨_,_,rfl,rfl,_,_,rfl,rfl,rfl⟩,rfl⟩,rfl,rfl⟩,rfl⟩,
      qcM.mpr ⟨(qcM.mp n23).1,qa0.mpr ⟨nofun,Hs⟩,λa ma b mb z=>f2 (fF _ (dQ _ (kH _ ((qcB.mp mb) ▸ z ▸ ma))))⟩,λa m=>(qaq.mp m).imp id λm=>by rw[qcB.mp m];exact⟨f2,gy2,b2,ny2⟩⟩
   obtain⟨pk,ys,Am,ha,hy,np,ly,rm,ndm,fm⟩:=key;have lx:xs.length=cs.length:=Dn g2;refine⟨p4,[.ref p1,.ref p3],tt,.ref pk,rfl,rfl,SqL.of y4,ha,.ref p,hj,.int (u:Nat),hi,.int (u:Nat),hi,(u:Nat),1,rfl,rfl,p,pk,xs,ys,_,_,rfl,rfl,rfl,rfl,hp5,hy,np,∅,∅,∅,by rw[gZ];lia,?_⟩;rw[show(((u:Nat):Int)+1).toNat=u+1 by lia,show((u:Nat):Int).toNat=u from rfl];exact kk G' _ σ (I6.tabMid hj q3 (λb m=>⟨(sA b m).2.1,(q4 b m).2,(sA b m).2.2⟩) (j2.move f1 λb m=>mvH b (kH _ m)) (j4.move f1 λb m=>mvH b (dQ _ (dQ _ m))) rm ndm fm) f1
  ·exact aI hm
 ·exact aI hm
end
end M
namespace M
open L2 PySem
variable {c d x:D}{b:MS}{z:Bool}{Q:Fl×R->Prop}{a i n j N k:Nat}{f:D->R->AB (AB D×R)}{g:D->R->AB R}{mt:MT}{me m:ME}{ρ:R}{r:Sl}{h:AA D->R->AB R}{ds xs ys:AA D}{mi ma:MA}{t:AB Sl}{F:AA D->AA D->AB (Sl×AA D)}{cap:AA Nat}{I:R->Prop}
abbrev Rt {α:Type}(_:α->Prop):Type:=AB α
def aE {α:Type}(Q:α->Prop)(o:Rt Q):Prop:=∃a,o=some a/\Q a
def Ok {α:Type}(o:AB α)(Q:α->Prop):Prop:=aE Q o
abbrev RtS {α:Sort u}(_:α):Type:=AB Sl
section
variable {α β:Type}{o:AB α}{Q Q':α->Prop}
theorem ok_some {a:α}:aE Q (some a)=Q a:=propext ⟨λ⟨_,e,q⟩=>by cases e;exact q,λq=>⟨a,rfl,q⟩⟩
theorem ok_none:aE Q (none:AB α)=False:=propext ⟨λ⟨_,e,_⟩=>(by cases e),False.elim⟩
theorem ok_bind {f:α->AB β}{Q:β->Prop}:aE Q (o.bind f)=aE (λa=>aE Q (f a)) o:=by
 cases o with
 |none=>exact propext ⟨λ⟨_,e,_⟩=>(by cases e),λ⟨_,e,_⟩=>(by cases e)⟩
 |some a=>exact propext ⟨λh=>⟨a,rfl,h⟩,λ⟨_,e,h⟩=>by cases e;exact h⟩
theorem ok_map {f:α->β}{Q:β->Prop}:aE Q (o.map f)=aE (λa=>Q (f a)) o:=by
 cases o with
 |none=>exact propext ⟨λ⟨_,e,_⟩=>(by cases e),λ⟨_,e,_⟩=>(by cases e)⟩
 |some a=>exact propext ⟨λh=>⟨a,rfl,ok_some.mp h⟩,λ⟨_,e,h⟩=>by cases e;exact ok_some.mpr h⟩
theorem mD {c:Prop}[Decidable c]:aE Q (if c then o else none)=(c/\aE Q o):=by
 by_cases h:c
 ·rw[if_pos h];exact propext ⟨λk=>⟨h,k⟩,λk=>k.2⟩
 ·rw[if_neg h];exact propext ⟨λk=>(ok_none.mp k).elim,λk=>AH k.1 h⟩
theorem iZ:Ok o Q=aE Q o:=rfl
def gd {α:Type}(b:Bool)(o:AB α):AB α:=if b then o else none
theorem Wi {b:Bool}(h:b=true):aE Q (gd b o)=aE Q o:=by subst h;rfl
theorem Ok.mono (h:Ok o Q)(k:∀a,Q a->Q' a):Ok o Q':=by
 obtain⟨a,e,q⟩:=h;exact⟨a,e,k a q⟩
theorem cL {Q':α->Prop}(h:∀a,Q a=Q' a):aE Q o=aE Q' o:=by rw[funext h]
theorem Ok.of {a:α}(e:o=some a)(q:Q a):Ok o Q:=⟨a,e,q⟩
end
section
variable {c:MT}{a b:MS}{ρ:R}
theorem Cy {α:Type}{o u:AB α}{Q:α->Prop}:aE Q (if z then o else u)=((z=true->aE Q o)/\(z=false->aE Q u)):=by cases z<;>simp
theorem Ik:aE Q (dF c a b ρ)=(aE (λp=>(p.1=true->aE Q (a p.2))/\(p.1=false->aE Q (b p.2))) (c ρ)):=by
 unfold dF;rw[ok_bind];exact cL λp=>Cy
theorem Ko {a b:ME}{Q:D×R->Prop}:aE Q (Sa c a b ρ)=(aE (λp=>(p.1=true->aE Q (a p.2))/\(p.1=false->aE Q (b p.2))) (c ρ)):=by
 unfold Sa;rw[ok_bind];exact cL λp=>Cy
theorem Ax {a b:MT}{Q:Bool×R->Prop}:aE Q (Hh a b ρ)=(aE (λp=>(p.1=true->aE Q (b p.2))/\(p.1=false->Q (false,p.2))) (a ρ)):=by
 unfold Hh;rw[ok_bind];exact cL λp=>by rw[Cy,ok_some]
theorem Ga {a b:MT}{Q:Bool×R->Prop}:aE Q (jV a b ρ)=(aE (λp=>(p.1=true->Q (true,p.2))/\(p.1=false->aE Q (b p.2))) (a ρ)):=by
 unfold jV;rw[ok_bind];exact cL λp=>by rw[Cy,ok_some]
theorem Au {a b:ME}{Q:D×R->Prop}:aE Q (gU a b ρ)=(aE (λp=>∃z,p.1= .bl z/\(z=true->aE Q (b p.2))/\(z=false->Q (.bl false,p.2))) (a ρ)):=by
 unfold gU;rw[ok_bind];have:∀p:D×R,Ok (match p.1 with
  | .bl true=>b p.2
  | .bl false=>some (.bl false,p.2)
  |_=>none) Q↔∃z,p.1= .bl z/\(z=true->Ok (b p.2) Q)/\(z=false->Q (.bl false,p.2)):=by
  rintro⟨d,ρ⟩;cases d with
  |bl z=>cases z<;>simp[iZ,ok_some]
  |_=>simp[iZ,ok_none]
 exact cL λp=>propext (this p)
theorem Ll {a b:ME}{Q:D×R->Prop}:aE Q (eOr a b ρ)=(aE (λp=>∃z,p.1= .bl z/\(z=true->Q (.bl true,p.2))/\(z=false->aE Q (b p.2))) (a ρ)):=by
 unfold eOr;rw[ok_bind];have:∀p:D×R,Ok (match p.1 with
  | .bl true=>some (.bl true,p.2)
  | .bl false=>b p.2
  |_=>none) Q↔∃z,p.1= .bl z/\(z=true->Q (.bl true,p.2))/\(z=false->Ok (b p.2) Q):=by
  rintro⟨d,ρ⟩;cases d with
  |bl z=>cases z<;>simp[iZ,ok_some]
  |_=>simp[iZ,ok_none]
 exact cL λp=>propext (this p)
theorem oJ {f g:D->D->AB D}{a b c:ME}{Q:D×R->Prop}:aE Q (rN f g a b c ρ)=(aE (λp=>aE (λq=>aE (λt=>∃z,t= .bl z/\(z=true->aE (λr=>aE (λd=>Q (d,r.2)) (g q.1 r.1)) (c q.2))/\(z=false->Q (.bl false,q.2))) (f p.1 q.1)) (b p.2)) (a ρ)):=by
 unfold rN;rw[ok_bind];have:∀(p q:D×R) (t:D),Ok (match t with
  | .bl true=>(c q.2).bind λr=>(g q.1 r.1).map λd=>(d,r.2)
  | .bl false=>some (.bl false,q.2)
  |_=>none) Q↔∃z,t= .bl z/\(z=true->Ok (c q.2) λr=>Ok (g q.1 r.1) λd=>Q (d,r.2))/\(z=false->Q (.bl false,q.2)):=by
  intro p q t;cases t with
  |bl z=>
   cases z
   ·simp[iZ,ok_some]
   ·simp only[iZ,ok_bind,D.bl.injEq,qc6,forall_const,reduceCtorEq,qc7,and_true];exact iff_of_eq (cL λr=>ok_map)
  |_=>simp[iZ,ok_none]
 exact cL λp=>by rw[ok_bind];exact cL λq=>by rw[ok_bind];exact cL λt=>propext (this p q t)
theorem qT {Q:AB D×R->Prop}:aE Q (kL g mt me d ρ)=(aE (λρ1=>aE (λp=>(p.1=true->aE (λq=>gJ q.2=true/\Q (some q.1,q.2)) (me p.2))/\(p.1=false->gJ p.2=true/\Q (none,p.2))) (mt ρ1)) (g d ρ)):=by
 unfold kL;rw[ok_bind];exact cL λρ1=>by rw[ok_bind];exact cL λp=>by rw[Cy,ok_bind,mD,ok_some];congr 1;exact propext (imp_congr Iff.rfl (iff_of_eq (cL λq=>by rw[mD,ok_some])))
theorem nX {bk:Nat}{Q:AB D×R->Prop}:aE Q (kO bk g mt me d ρ)=(aE (λρ1=>aE (λp=>(p.1=true->aE (λq=>Iu bk q.2=true/\Q (some q.1,q.2)) (me p.2))/\(p.1=false->Iu bk p.2=true/\Q (none,p.2))) (mt ρ1)) (g d ρ)):=by
 unfold kO;rw[ok_bind];exact cL λρ1=>by rw[ok_bind];exact cL λp=>by rw[Cy,ok_bind,mD,ok_some];congr 1;exact propext (imp_congr Iff.rfl (iff_of_eq (cL λq=>by rw[mD,ok_some])))
theorem zoh (n:Nat):Int.natAbs (no_index (OfNat.ofNat n))=n:=rfl
end
section
theorem mY:aE Q (eG ρ)=(Q (.next,ρ)):=ok_some
def rE (b:MS)(Q:Fl×R->Prop)(p:Fl×R):Prop:=aE Q (match p.1 with
 | .next=>b p.2
 |f=>some (f,p.2))
theorem zp2:rE b Q (.next,ρ)=(aE Q (b ρ)):=rfl
theorem qK:rE b Q (.ret r,ρ)=(Q (.ret r,ρ)):=ok_some
theorem mZ:rE b Q (.brk,ρ)=(Q (.brk,ρ)):=ok_some
theorem zqh:rE b Q (.cont,ρ)=(Q (.cont,ρ)):=ok_some
theorem Ab {a b:MS}:aE Q (aJ a b ρ)=(aE (rE b Q) (a ρ)):=ok_bind
theorem rV:aE Q (Qn m ρ)=(aE (λp=>Q (.next,p.2)) (m ρ)):=ok_map
theorem xN:aE Q (bA m ρ)=(aE (λp=>Q (.ret (.val p.1),p.2)) (m ρ)):=ok_map
theorem qI {m:MO}:aE Q (lS m ρ)=(aE (λp=>Q (.ret (.own p.1),p.2)) (m ρ)):=ok_map
theorem oI:aE Q (tP i ρ)=aE Q (match ρ[i]? with
 |some (.val d)=>some (.ret (.val d),ρ)
 |some (.own ds)=>some (.ret (.own ds),ρ.set i .emp)
 |_=>none):=rfl
theorem Tv {Q:R->Prop}:aE Q (gN i d ρ)=(Q (ρ.set i (.val d))):=ok_some
theorem oE {ds:AA D}{ρ:R}{Q:R->Prop}:aE Q (iR ds ρ)=aE Q (match ds with
 |[]=>some ρ
 |_=>none):=rfl
theorem zqY {Q:R->Prop}:aE Q (dB g h ds ρ)=aE Q (match ds with
 |d::ds=>(g d ρ).bind λρ1=>h ds ρ1
 |[]=>none):=rfl
theorem So {g:AA D->R->AB R}{Q:R->Prop}:aE Q (gT n g d ρ)=aE Q (match d with
 | .tup ds=>if ds.length=n then g ds ρ else none
 |_=>none):=rfl
theorem xP:aE Q (jZ m g ρ)=(aE (λp=>aE (λρ'=>Q (.next,ρ')) (g p.1 p.2)) (m ρ)):=ok_bind.trans (cL λ_=>ok_map)
theorem vW:aE Q (aS i m ρ)=(aE (λp=>Q (.next,p.2.set i (.val p.1))) (m ρ)):=ok_map
theorem qL {m:MO}:aE Q (rZ i m ρ)=(aE (λp=>Q (.next,p.2.set i (.own p.1))) (m ρ)):=ok_map
theorem Ak:aE Q (gB i m ρ)=aE Q (gd ((ρ[i]?.bind Sl.items).isSome) ((m ρ).bind λp=>p.2[i]?.bind λs=>s.items.bind λds=>if ds.length<16777216 then some (.next,p.2.set i (s.put (ds++[p.1])))else none)):=rfl
theorem vC {mi me:ME}:aE Q (nN j mi me ρ)=aE Q ((me ρ).bind λp=>gd (eJ p.2 j) ((mi p.2).bind λq=>match q.1 with
 | .int k=>q.2[j]?.bind λs=>s.items.bind λds=>(eU ds.length k).bind λn=>some (.next,q.2.set j (s.put (ds.set n p.1)))
 |_=>none)):=rfl
theorem rD {Q:D×R->Prop}:aE Q (eC d ρ)=(Q (d,ρ)):=ok_some
def eVQ (Q:D×R->Prop)(s:RtS Q)(ρ:R)(i:Nat):Prop:=match s with
 |some (.val d)=>Q (d,ρ)
 |some (.own ds)=>Q (.lst ds,ρ.set i (.val (.lst ds)))
 |_=>False
theorem Sv {Q:D×R->Prop}:eVQ Q (some (.val d)) ρ i=Q (d,ρ):=rfl
theorem yC {Q:D×R->Prop}:eVQ Q (some (.own ds)) ρ i=Q (.lst ds,ρ.set i (.val (.lst ds))):=rfl
theorem Sf {Q:D×R->Prop}:aE Q (aA i ρ)=eVQ Q ρ[i]? ρ i:=by
 unfold aA eVQ;cases ρ[i]? with
 |none=>exact ok_none
 |some s=>cases s<;>first|exact ok_some|exact ok_none
def Vb (Q:D->D->Prop)(P:Prop)(s:RtS Q)(t:AB Sl):Prop:=match s,t with
 |some (.val x),some (.val y)=>Q x y
 |_,_=>P
theorem Jp {Q:D->D->Prop}{P:Prop}{x y:D}:Vb Q P (some (.val x)) (some (.val y))=Q x y:=rfl
theorem Kn {Q:D->D->Prop}{P:Prop}:Vb Q P (some (.own xs)) t=P:=rfl
theorem zI {Q:D->D->Prop}{P:Prop}:Vb Q P (some (.val x)) (some (.own ys))=P:=rfl
def Va (Q:D->Prop)(P:Prop)(s:RtS Q):Prop:=match s with
 |some (.val x)=>Q x
 |_=>P
theorem Kc {Q:D->Prop}{P:Prop}:Va Q P (some (.val x))=Q x:=rfl
theorem Jj {Q:D->Prop}{P:Prop}:Va Q P (some (.own xs))=P:=rfl
theorem yU {Q:AA D×R->Prop}:aE Q (aB ρ)=(Q ([],ρ)):=ok_some
theorem oU {r:MA}{Q:AA D×R->Prop}:aE Q (aF m r ρ)=(aE (λp=>aE (λq=>Q (p.1::q.1,q.2)) (r p.2)) (m ρ)):=ok_bind.trans (cL λ_=>ok_map)
theorem kQ {f:D->D->AB D}{ma mb:ME}{Q:D×R->Prop}:aE Q (m2 f ma mb ρ)=(aE (λp=>aE (λq=>aE (λd=>Q (d,q.2)) (f p.1 q.1)) (mb p.2)) (ma ρ)):=ok_bind.trans (cL λ_=>ok_bind.trans (cL λ_=>ok_map))
theorem uS {f:D->D->AB D}{a b:Nat}{Q:D×R->Prop}:aE Q (m2 f (aA a) (aA b) ρ)=Vb (λx y=>aE (λd=>Q (d,ρ)) (f x y)) (aE (λp=>aE (λq=>aE (λd=>Q (d,q.2)) (f p.1 q.1)) (aA b p.2)) (aA a ρ)) ρ[a]? ρ[b]?:=by
 rw[kQ,Vb.eq_def]
 split
 ·rename_i x y h1 h2;rw[Sf,h1,Sv,Sf,h2,Sv]
 ·rfl
theorem uH {f:D->D->AB D}{Q:D×R->Prop}:aE Q (m2 f (aA a) (eC c) ρ)=Va (λx=>aE (λd=>Q (d,ρ)) (f x c)) (aE (λp=>aE (λd=>Q (d,p.2)) (f p.1 c)) (aA a ρ)) ρ[a]?:=by
 rw[kQ,Va.eq_def,show(λp:D×R=>aE (λq=>aE (λd=>Q (d,q.2)) (f p.1 q.1)) (eC c p.2))=λp=>aE (λd=>Q (d,p.2)) (f p.1 c)from funext λp=>rD]
 split
 ·rename_i x h1;rw[Sf,h1,Sv]
 ·rfl
theorem xS {f:D->D->AB D}{Q:D×R->Prop}:aE Q (m2 f (eC c) (aA a) ρ)=Va (λx=>aE (λd=>Q (d,ρ)) (f c x)) (aE (λp=>aE (λd=>Q (d,p.2)) (f c p.1)) (aA a ρ)) ρ[a]?:=by
 rw[kQ,Va.eq_def,rD]
 split
 ·rename_i x h1;rw[Sf,h1,Sv]
 ·rfl
theorem Sg {f:D->AB D}{ma:ME}{Q:D×R->Prop}:aE Q (m1 f ma ρ)=(aE (λp=>aE (λd=>Q (d,p.2)) (f p.1)) (ma ρ)):=ok_bind.trans (cL λ_=>ok_map)
theorem Xk {f:AA D->AB D}{Q:D×R->Prop}:aE Q (mC f ma ρ)=(aE (λp=>aE (λd=>Q (d,p.2)) (f p.1)) (ma ρ)):=ok_bind.trans (cL λ_=>ok_map)
theorem zP {mi:ME}{Q:D×R->Prop}:aE Q (aR j mi ρ)=aE Q (gd (eJ ρ j) ((mi ρ).bind λp=>(p.2[j]?.bind Sl.read).bind λd=>(bF d p.1).map λe=>(e,p.2))):=Eq.trans rfl rfl
def Ca (s:AB Sl)(c:D):AB D:=match s with
 |some (.val d)=>bF d c
 |some (.own ds)=>bF (.lst ds) c
 |some (.par ds)=>bF (.lst ds) c
 |_=>none
theorem uL:Ca (some (.val d)) c=bF d c:=rfl
theorem Ay:Ca (some (.own ds)) c=bF (.lst ds) c:=rfl
theorem zQ:Ca (some (.par ds)) c=bF (.lst ds) c:=rfl
theorem zn4:(if eJ ρ j then(ρ[j]?.bind Sl.read).bind λd=>(bF d c).map λe=>(e,ρ)else none)=(Ca ρ[j]? c).map λe=>(e,ρ):=by
 unfold eJ;cases ρ[j]? with
 |none=>rfl
 |some s=>cases s<;>rfl
theorem Az {Q:D×R->Prop}:aE Q (aR j (eC c) ρ)=aE (λe=>Q (e,ρ)) (Ca ρ[j]? c):=by
 rw[show aR j (eC c) ρ=(Ca ρ[j]? c).map λe=>(e,ρ)from zn4,ok_map]
theorem yF {Q:D×R->Prop}:aE Q (aR j (aA i) ρ)=Va (λc=>aE (λe=>Q (e,ρ)) (Ca ρ[j]? c)) (aE Q (gd (eJ ρ j) ((aA i ρ).bind λp=>(p.2[j]?.bind Sl.read).bind λd=>(bF d p.1).map λe=>(e,p.2)))) ρ[i]?:=by
 rw[Va.eq_def]
 split
 ·rename_i x h1;rw[show aR j (aA i) ρ=(Ca ρ[j]? x).map λe=>(e,ρ) by
   rw[<-zn4];unfold aR;rw[show aA i ρ=some (x,ρ) by unfold aA;rw[h1]];rfl,ok_map]
 ·rfl
theorem mP {Q:D×R->Prop}:aE Q (hW j ρ)=aE Q ((ρ[j]?.bind Sl.read).bind λd=>(cY [d]).map λe=>(e,ρ)):=rfl
theorem Wx {f:AA D->AB (AA D)}{Q:AA D×R->Prop}:aE Q (oC f ma ρ)=(aE (λp=>aE (λd=>Q (d,p.2)) (f p.1)) (ma ρ)):=ok_bind.trans (cL λ_=>ok_map)
theorem Ad {Q:D×R->Prop}:aE Q (bN ma ρ)=(aE (λp=>p.1.length<=16777216/\Q (.tup p.1,p.2)) (ma ρ)):=ok_bind.trans (cL λ_=>by rw[mD,ok_some])
theorem vT {Q:AA D×R->Prop}:aE Q (dM ma ρ)=(aE (λp=>p.1.length<=16777216/\Q (p.1,p.2)) (ma ρ)):=ok_bind.trans (cL λ_=>by rw[mD,ok_some])
theorem yZ {ma:ME}{Q:Bool×R->Prop}:aE Q (aQ ma ρ)=(aE (λp=>aE (λb=>Q (b,p.2)) (uG p.1)) (ma ρ)):=ok_bind.trans (cL λ_=>ok_map)
theorem rM {a:MT}{Q:Bool×R->Prop}:aE Q (tQ a ρ)=(aE (λp=>Q (!p.1,p.2)) (a ρ)):=ok_map
theorem pO {F:AA D->AB Sl}{Q:D×R->Prop}:aE Q (cG F ma ρ)=aE Q ((ma ρ).bind λp=>(F p.1).bind λr=>match r with
 | .val d=>some (d,p.2)
 | .own ds=>some (.lst ds,p.2)
 |_=>none):=rfl
theorem rW {F:AA D->AB Sl}{Q:AA D×R->Prop}:aE Q (Kh F ma ρ)=aE Q ((ma ρ).bind λp=>(F p.1).bind λr=>match r with
 | .own ds=>some (ds,p.2)
 |_=>none):=rfl
theorem zo6 {Q:D×R->Prop}:aE Q (dC F j ma ρ)=aE Q (gd ((ρ[j]?.bind Sl.items).isSome) ((ma ρ).bind λp=>p.2[j]?.bind λs=>s.items.bind λcs=>(F cs p.1).bind λr=>match r.1 with
 | .val d=>some (d,p.2.set j (s.put r.2))
 | .own ds=>some (.lst ds,p.2.set j (s.put r.2))
 |_=>none)):=rfl
theorem zph {Q:AA D×R->Prop}:aE Q (znH F j ma ρ)=aE Q (gd ((ρ[j]?.bind Sl.items).isSome) ((ma ρ).bind λp=>p.2[j]?.bind λs=>s.items.bind λcs=>(F cs p.1).bind λr=>match r.1 with
 | .own ds=>some (ds,p.2.set j (s.put r.2))
 |_=>none)):=rfl
theorem ok_iR2L {Q:AA D×R->Prop}:aE Q (iR2L ma ρ)=aE Q ((ma ρ).bind λp=>match p.1 with
 |[.int i,.int j]=>some (iX i (j-i).toNat,p.2)
 |_=>none):=rfl
theorem Ih {m:MO}{Q:D×R->Prop}:aE Q (dZ m ρ)=(aE (λp=>Q (.lst p.1,p.2)) (m ρ)):=ok_map
theorem zD {ma:ME}{ml mh:MP}{Q:D×R->Prop}:aE Q (qQ ma ml mh ρ)=aE Q ((ma ρ).bind λp=>(ml p.2).bind λq=>(mh q.2).bind λr=>(lB p.1 q.1 r.1).map λd=>(d,r.2)):=rfl
theorem Mt {Q:AB Int×R->Prop}:aE Q (Xs ρ)=(Q (none,ρ)):=ok_some
theorem rR {Q:AB Int×R->Prop}:aE Q (Ta m ρ)=aE Q ((m ρ).bind λp=>match p.1 with
 | .int i=>some (some i,p.2)
 |_=>none):=rfl
theorem Aa {Q:AA D×R->Prop}:aE Q (bL m ρ)=(aE (λp=>aE (λds=>Q (ds,p.2)) (eE [p.1])) (m ρ)):=ok_bind.trans (cL λ_=>ok_map)
theorem Fn {Q:AA D×R->Prop}:aE Q (jB ma ρ)=aE Q ((ma ρ).bind λp=>match p.1 with
 |[.int j]=>if mB j then some (iX 0 j.toNat,p.2)else none
 |_=>none):=rfl
theorem Jz {Q:AA D×R->Prop}:aE Q (iR2 ma ρ)=aE Q ((ma ρ).bind λp=>match p.1 with
 |[.int i,.int j]=>if mB i&&mB j then some (iX i (j-i).toNat,p.2)else none
 |_=>none):=rfl
theorem Ba {mb:MS}:aE Q (dA mi g mb ρ)=(aE (λp=>aE Q (eQ (λd ρ=>(g d ρ).bind λρ'=>mb ρ') p.1 p.2)) (mi ρ)):=ok_bind
theorem Lq {t:Nat}{Q:AA D×R->Prop}:aE Q (cZ cap t mi g mt me ρ)=aE Q ((mi ρ).bind λp=>if p.1.length<=16777216 then(iG (kL g mt me) p.1 (eV cap t (fzL cap p.2))).map λq=>(q.1,fzL cap p.2)else none):=rfl
theorem Wp {m:MA}{Q:AA D×R->Prop}:aE Q (oR m ρ)=aE Q ((m ρ).bind λp=>if p.1.length<=16777216 then some p else none):=rfl
theorem oW {Q:Bool×R->Prop}:aE Q (eK ρ)=(Q (true,ρ)):=ok_some
theorem vJ {T:String}{ma:ME}{Q:D×R->Prop}:aE Q (eIsI T ma ρ)=aE Q ((ma ρ).bind λp=>if Vk T&&eIsI.noS1 p.1 then some (.bl (Uz T p.1),p.2)else none):=rfl
theorem nV {g:Int->Int->Int}:aE Q (Qy i g me ρ)=aE Q (match ρ[i]? with
 |some (.val (.int a))=>(me ρ).bind λp=>match p.1 with
  | .int b=>some (.next,p.2.set i (.val (.int (g a b))))
  |_=>none
 |_=>none):=rfl
theorem ok_oRep {ma mb:ME}{Q:AA D×R->Prop}:aE Q (oRep ma mb ρ)=aE Q ((ma ρ).bind λp=>(mb p.2).bind λq=>match p.1,q.1 with
 | .lst xs,.int k=>if mB k&&decide (xs.length*k.toNat<=16777216)then some ((List.replicate k.toNat xs).flatten,q.2)else none
 |_,_=>none):=rfl
theorem Fp {Q:AA D×R->Prop}:aE Q (Hk ma ρ)=aE Q ((ma ρ).bind λp=>match p.1 with
 |[a,b]=>(eE [a]).bind λxs=>(eE [b]).bind λys=>some (Mh xs ys,p.2)
 |_=>none):=rfl
theorem Jt {Q:AA D×R->Prop}:aE Q (iEn ma ρ)=aE Q ((ma ρ).bind λp=>(eE p.1).map λxs=>(Fv xs,p.2)):=rfl
theorem wX {t b w:Nat}{Q:AA D×R->Prop}:aE Q (Ae cap t b w mi g mt me ρ)=aE Q ((mi ρ).bind λp=>if p.1.length<=16777216 then
    ((fzL (cap.filter (· !=w)) p.2)[w]?).bind λs=>s.items.bind λcs=>(iG (kO b g mt me) p.1 ((eV cap t (fzL (cap.filter (· !=w)) p.2)).set b (.par cs))).map λq=>(q.1,(fzL (cap.filter (· !=w)) p.2).set w (s.put (Qp b q.2)))
  else none):=rfl
def Ec:Nat->AA D->R
 |N,[]=>List.replicate N .emp
 |N,d::ds=> .val d::Ec (N-1) ds
theorem zkh {d:D}:Ec N (d::ds)= .val d::Ec (N-1) ds:=rfl
theorem zq8:Ec N []=List.replicate N .emp:=rfl
theorem zim:∀(N:Nat) (ds:AA D),ds.map .val++List.replicate (N-ds.length) .emp=Ec N ds
 |_,[]=>rfl
 |N,d::ds=>by rw[zkh,<-zim (N-1) ds,eY,eH,Nat.sub_sub,Qm 1];rfl
theorem zqP {α β:Type}{f:α->β}{a:α}{l:AA α}:(a::l).map f=f a::l.map f:=rfl
theorem nK {α β:Type}{f:α->β}:[].map f=[]:=rfl
theorem Yo {m:MS}{Q:Sl->Prop}:aE Q (fP N m ds)=aE Q ((m (Ec N ds)).bind λp=>match p.1 with
 | .ret r=>some r
 | .next=>some (.val .non)
 |_=>none):=by rw[<-zim];rfl
theorem Re {m:MS}{cs:AA D}{Q:Sl×AA D->Prop}:aE Q (fM N m cs ds)=aE Q ((m (.par cs::Ec (N-1) ds)).bind λp=>match p.1,(p.2[0]?:AB Sl)with
 |Fl.ret r,some (Sl.par out)=>some (r,out)
 |Fl.next,some (Sl.par out)=>some (.val .non,out)
 |_,_=>none):=by rw[<-zim,Nat.sub_sub,Qm 1];rfl
end
def Turn (I:R->Prop)(Q:Fl×R->Prop)(p:Fl×R):Prop:=match p.1 with
 | .next=>I p.2
 | .cont=>I p.2
 | .brk=>Q (.next,p.2)
 | .ret r=>Q (.ret r,p.2)
theorem zpB:Turn I Q (.next,ρ)=(I ρ):=rfl
theorem zrc:Turn I Q (.cont,ρ)=(I ρ):=rfl
theorem pF:Turn I Q (.brk,ρ)=(Q (.next,ρ)):=rfl
theorem qO:Turn I Q (.ret r,ρ)=(Q (.ret r,ρ)):=rfl
theorem zqB {α:Type}{f:D->R->AB (Fl×R)}(enc:α->D)(I:Nat->R->Prop):∀(l:AA α) (b:Nat) (ρ:R),I b ρ->
  (∀i a ρ,l[i]? =some a->I (b+i) ρ->Ok (f (enc a) ρ) (Turn (I (b+i+1)) Q))->(∀ρ,I (b+l.length) ρ->Q (.next,ρ))->Ok (eQ f (l.map enc) ρ) Q
 |[],b,ρ,h0,_,hq=>ok_some.mpr (hq ρ h0)
 |a::l,b,ρ,h0,hs,hq=>by
  obtain⟨p,e,t⟩:=hs 0 a ρ rfl h0;obtain⟨fl,ρ1⟩:=p;have go:∀ρ1,I (b+1) ρ1->Ok (eQ f (l.map enc) ρ1) Q:=λρ1 h1=>zqB enc I l (b+1) ρ1 h1 (λi a' ρ' hi hp=>by
   have:=hs (i+1) a' ρ' (~~~hi) (by rw[show b+(i+1)=b+1+i by lia];exact hp);rw[show b+(i+1)+1=b+1+i+1 by lia]at this;exact this) (λρ h=>hq ρ (by rw[eH,show b+(l.length+1)=b+1+l.length by lia];exact h))
  have e':eQ f ((a::l).map enc) ρ=(f (enc a) ρ).bind λp=>match p.1 with
   | .next=>eQ f (l.map enc) p.2
   | .cont=>eQ f (l.map enc) p.2
   | .brk=>some (.next,p.2)
   | .ret r=>some (.ret r,p.2):=rfl
  rw[e',e];cases fl with
  |next=>exact go ρ1 t
  |cont=>exact go ρ1 t
  |brk=>exact ok_some.mpr t
  |ret r=>exact ok_some.mpr t
theorem Uo {α:Type}{f:D->R->AB (Fl×R)}{enc:α->D}{l:AA α}(I:Nat->R->Prop)(h0:I 0 ρ)(hs:∀i a ρ,l[i]? =some a->I i ρ->Ok (f (enc a) ρ) (Turn (I (i+1)) Q))(hq:∀ρ,I l.length ρ->Q (.next,ρ)):Ok (eQ f (l.map enc) ρ) Q:=
 zqB enc I l 0 ρ h0 (λi a ρ hi h=>by rw[Os]at h ⊢;exact hs i a ρ hi h) (λρ h=>hq ρ (by rw[Os]at h;exact h))
theorem zli {α:Type}(enc:α->D){Q:AA D×R->Prop}(I:Nat->AA D->R->Prop):∀(l:AA α) (b:Nat) (acc:AA D) (ρ:R),I b acc ρ->
  (∀i a acc ρ,l[i]? =some a->I (b+i) acc ρ->Ok (f (enc a) ρ) λp=>I (b+i+1) (acc++p.1.toList) p.2)->(∀ds ρ,I (b+l.length) (acc++ds) ρ->Q (ds,ρ))->Ok (iG f (l.map enc) ρ) Q
 |[],b,acc,ρ,h0,_,hq=>ok_some.mpr (hq [] ρ (by rw[lE];exact h0))
 |a::l,b,acc,ρ,h0,hs,hq=>by
  obtain⟨p,e,t⟩:=hs 0 a acc ρ rfl h0;have go:=zli enc (Q:=λq=>Q (p.1.toList++q.1,q.2)) I l (b+1) (acc++p.1.toList) p.2 t (λi a' acc' ρ' hi hp=>by
   have:=hs (i+1) a' acc' ρ' (~~~hi) (by rw[show b+(i+1)=b+1+i by lia];exact hp);rw[show b+(i+1)+1=b+1+i+1 by lia]at this;exact this) (λds ρ h=>hq _ ρ (by rw[eH,show b+(l.length+1)=b+1+l.length by lia,<-tN];exact h))
  have e':iG f ((a::l).map enc) ρ=(f (enc a) ρ).bind λp=>(iG f (l.map enc) p.2).map λq=>(p.1.toList++q.1,q.2):=rfl
  rw[e',e];exact ok_map.mpr go
theorem znR {α:Type}{enc:α->D}{l:AA α}{Q:AA D×R->Prop}(I:Nat->AA D->R->Prop)(h0:I 0 [] ρ)(hs:∀i a acc ρ,l[i]? =some a->I i acc ρ->Ok (f (enc a) ρ) λp=>I (i+1) (acc++p.1.toList) p.2)(hq:∀ds ρ,I l.length ds ρ->Q (ds,ρ)):Ok (iG f (l.map enc) ρ) Q:=
 zli enc I l 0 [] ρ h0 (λi a acc ρ hi h=>by rw[Os]at h ⊢;exact hs i a acc ρ hi h) (λds ρ h=>hq ds ρ (by rw[Os]at h;exact h))
theorem Ox {α β:Type}{f g:α->AB β}:∀(l:AA α),(∀a∈l,f a=g a)->l.filterMap f=l.filterMap g
 |[],_=>rfl
 |a::l,h=>by rw[Qf,Qf,h a gG,Ox l λb hb=>h b (fF _ hb)]
theorem Qj {α:Type}{enc:α->D}{l:AA α}{Q:AA D×R->Prop}(P:R->Prop)(g:α->AB D)(h0:P ρ)(hs:∀a ρ,a∈l->P ρ->Ok (f (enc a) ρ) λp=>p.1=g a/\P p.2)(hq:∀ρ,P ρ->Q (l.filterMap g,ρ)):Ok (iG f (l.map enc) ρ) Q:=
 znR (λi ds ρ=>ds=(l.take i).filterMap g/\P ρ) ⟨rfl,h0⟩ (λi a acc ρ hi ⟨e,p⟩=>by
  refine(hs a ρ (gI hi) p).mono λr h=>⟨?_,h.2⟩
  obtain⟨h1,h2⟩:=qas.mp hi;rw[h.1,e,Yg,hi,List.filterMap_append];cases q:g a<;>simp[q]) (λds ρ ⟨e,p⟩=>by rw[Vp]at e;rw[e];exact hq ρ p)
theorem Zx {α:Type}{enc:α->D}{l:AA α}{Q:AA D×R->Prop}(P:R->Prop)(g:α->D)(h0:P ρ)(hs:∀a ρ,a∈l->P ρ->Ok (f (enc a) ρ) λp=>p.1=some (g a)/\P p.2)(hq:∀ρ,P ρ->Q (l.map g,ρ)):Ok (iG f (l.map enc) ρ) Q:=
 Qj P (λa=>some (g a)) h0 hs (λρ p=>by rw[<-Function.comp_def some g,Of];exact hq ρ p)
theorem zV (i j:Int):bU (.int i) (.int j)=some (.bl (i==j)):=by
 unfold bU;rw[show bH (.int i)=true from rfl,show bH (.int j)=true from rfl,show depth (.int i)=0 from rfl]
 rfl
theorem vN (i j:Int):iE (.int i) (.int j)=some (.bl (i !=j)):=by
 unfold iE;rw[show bH (.int i)=true from rfl,show bH (.int j)=true from rfl,show depth (.int i)=0 from rfl]
 rfl
theorem mU {α:Type}(xs:AA α)(i:Nat):atI xs (i:Int)=xs[i]?:=by
 unfold atI eU;rw[if_pos ∅]
 by_cases h:i<xs.length
 ·rw[if_pos ∅];simp
 ·rw[if_neg ∅];simp[fD (by lia:xs.length<=i)]
theorem uF {α:Type}(xs:AA α)(n:Nat):atI xs (no_index (@OfNat.ofNat Int n _))=xs[n]?:=mU xs n
theorem Fw {α:Type}(xs:AA α)(i:Nat):atI xs ((i:Int)+1)=xs[i+1]?:=mU xs (i+1)
theorem Df (n i:Nat):eU n (i:Int)=if i<n then some i else none:=by
 unfold eU;rw[if_pos ∅]
 by_cases h:i<n
 ·rw[if_pos ∅,if_pos h];simp
 ·rw[if_neg ∅,if_neg h]
theorem yT (n i:Nat):eU n (no_index (@OfNat.ofNat Int i _))=if i<n then some i else none:=Df n i
theorem Zv {i j:Int}(h:i.natAbs<18446744073709551616):Jv i j=true:=by
 unfold Jv;have:decide (i.natAbs<2^64)=true:=gW h;rw[this];rfl
theorem zqW {i j:Int}(h:j.natAbs<18446744073709551616):Jv i j=true:=by
 unfold Jv;have:decide (j.natAbs<2^64)=true:=gW h;rw[this];simp
theorem jY {j:Int}(h1: -1000000000000<=j)(h2:j<=1000000000000):mB j=true:=by
 unfold mB;rw[gW h1,gW h2];rfl
def wL (n:Nat)(f:Nat->D):AA D:=(List.range n).map f
abbrev wI (n:Nat)(f:Nat->Int):AA D:=wL n λi=> .int (f i)
theorem cC (n:Nat)(f:Nat->D):(wL n f).length=n:=by simp[wL]
theorem bY (f:Nat->D)(h:i<n):(wL n f)[i]? =some (f i):=by simp[wL,h]
theorem uM (n:Nat)(f:Nat->D):wL (n+1) f=wL n f++[f n]:=by simp[wL,Yn]
theorem Nz {f g:Nat->D}(h:∀i,i<n->f i=g i):wL n f=wL n g:=Ra λi hi=>h i (qah.mp hi)
theorem zpY (n:Nat)(f:Nat->D)(x:D):wL n f++[x]=wL (n+1) λj=>if j<n then f j else x:=by
 rw[uM];congr 1
 ·exact Nz λi hi=>by rw[if_pos hi]
 ·rw[if_neg ∅]
theorem Tq (f:Nat->D)(x:D)(h:i<n):(wL n f).set i x=wL n λj=>if j=i then x else f j:=by
 apply pP;intro j
 by_cases hj:j<n
 ·rw[bY _ hj,Dm]
  by_cases e:i=j
  ·subst e;simp[cC,h]
  ·simp[e,bY _ hj,Ne.symm e]
 ·rw[fD (by simp[cC];lia),fD (by simp[cC];lia)]
theorem vO (n:Nat)(f:Nat->D):Fv (wL n f)=wL n λi=> .tup [.int (i:Nat),f i]:=by
 apply pP;intro j;unfold Fv
 by_cases hj:j<n
 ·rw[Vu,bY _ hj,bY _ hj];simp[cC,hj]
 ·rw[fD (by simp[cC];lia),fD (by simp[cC];lia)]
theorem Rq (n:Nat)(f g:Nat->D):Mh (wL n f) (wL n g)=wL n λi=> .tup [f i,g i]:=by
 apply pP;intro j;unfold Mh
 by_cases hj:j<n
 ·rw[Vu,bY _ hj,bY _ hj,bY _ hj]
 ·rw[fD (by simp[cC];lia),fD (by simp[cC];lia)]
theorem znG {α:Type}(xs:AA α)(i:Nat):bZ xs none (some (i:Int))=xs.take i:=by
 unfold bZ;rw[HT.zqa,HT.zoa,Nat.sub_zero,List.drop_zero]
 by_cases h:i<=xs.length
 ·rw[qcW h]
 ·rw[Nat.min_eq_right ∅,lN (bC _),lN ∅]
theorem znK {α:Type}(xs:AA α)(i:Nat):bZ xs (some (i:Int)) none=xs.drop i:=by
 unfold bZ;rw[HT.zqa,HT.zoa]
 by_cases h:i<=xs.length
 ·rw[qcW h,lN (by simp)]
 ·rw[Nat.min_eq_right ∅,List.drop_of_length_le (bC _),List.drop_of_length_le ∅];simp
theorem Ug:∀(l:AA Int),fL (l.map .int)=some l
 |[]=>rfl
 |i::l=>by simp[fL,Ug l]
theorem ziE (bt:Nat->Nat->Bool):∀n,argBest bt n<=n
 |0=>bC 0
 |n+1=>by
  have:=ziE bt n;unfold argBest
  split<;>lia
theorem zmP:∀{ds:AA D},(∀d∈ds,bH d=true)->dH ds=true
 |[],_=>rfl
 |d::ds,h=>by simp only[dH,cV];exact⟨h d gG,zmP λe he=>h e (fF _ he)⟩
theorem zi1:∀{ds:AA D},(∀d∈ds,depth d<=k)->tI ds<=k
 |[],_=>gR _
 |d::ds,h=>by simp only[tI];exact Nat.max_le.mpr ⟨h d gG,zi1 λe he=>h e (fF _ he)⟩
def Pl (k:Nat)(d:D):Prop:=bH d=true/\depth d<=k
theorem zn7 (k:Nat)(i:Int):Pl k (.int i):=⟨rfl,gR _⟩
theorem mM (h:∀d∈ds,Pl k d):Pl (k+1) (.lst ds):=⟨by simp only[bH];exact zmP λd hd=>(h d hd).1,by simp only[depth];exact Nat.succ_le_succ (zi1 λd hd=>(h d hd).2)⟩
theorem oZ (h:∀d∈ds,Pl k d):Pl (k+1) (.tup ds):=⟨by simp only[bH];exact zmP λd hd=>(h d hd).1,by simp only[depth];exact Nat.succ_le_succ (zi1 λd hd=>(h d hd).2)⟩
theorem wY {f:Nat->D}(h:∀i,Pl k (f i)):∀d∈wL n f,Pl k d:=λd hd=>by
 obtain⟨i,_,rfl⟩:=qci.mp hd;exact h i
theorem Ip (a b c d:Int):bU (.tup [.int a,.int b]) (.tup [.int c,.int d])=some (.bl (a==c&&b==d)):=by
 simp[bU,bH,dH,depth,tI,fW,dD]
theorem sJ (n:Nat):iX 0 n=wL n λi=> .int (i:Nat):=by unfold iX wL;simp only[Int.zero_add]
theorem zrf (lo:Int)(n:Nat):iX lo n=wL n λi=> .int (lo+(i:Nat)):=rfl
section
variable {n:Nat}{e:Nat->D}{ρ:R}
theorem mF {f:D->R->AB (Fl×R)}(I:Nat->R->Prop)(h0:I 0 ρ)(hs:∀i ρ,i<n->I i ρ->Ok (f (e i) ρ) (Turn (I (i+1)) Q))(hq:∀ρ,I n ρ->Q (.next,ρ)):Ok (eQ f (wL n e) ρ) Q:=
 Uo (enc:=e) (l:=List.range n) I h0 (λi a ρ hi h=>by
  obtain⟨h1,h2⟩:=qas.mp hi;have:a=i:= ~~~h2.symm
  subst this;exact hs a ρ (~~~h1) h) (λρ h=>hq ρ (~~~h))
variable {f:D->R->AB (AB D×R)}{Q:AA D×R->Prop}
theorem zqn (I:Nat->AA D->R->Prop)(h0:I 0 [] ρ)(hs:∀i acc ρ,i<n->I i acc ρ->Ok (f (e i) ρ) λp=>I (i+1) (acc++p.1.toList) p.2)(hq:∀ds ρ,I n ds ρ->Q (ds,ρ)):Ok (iG f (wL n e) ρ) Q:=
 znR (enc:=e) (l:=List.range n) I h0 (λi a acc ρ hi h=>by
  obtain⟨h1,h2⟩:=qas.mp hi;have:a=i:= ~~~h2.symm
  subst this;exact hs a acc ρ (~~~h1) h) (λds ρ h=>hq ds ρ (~~~h))
theorem Sy (P:R->Prop)(g:Nat->AB D)(h0:P ρ)(hs:∀i ρ,i<n->P ρ->Ok (f (e i) ρ) λp=>p.1=g i/\P p.2)(hq:∀ρ,P ρ->Q ((List.range n).filterMap g,ρ)):Ok (iG f (wL n e) ρ) Q:=
 Qj (enc:=e) (l:=List.range n) P g h0 (λa ρ ha hp=>hs a ρ (qah.mp ha) hp) hq
theorem hX (P:R->Prop)(g:Nat->D)(h0:P ρ)(hs:∀i ρ,i<n->P ρ->Ok (f (e i) ρ) λp=>p.1=some (g i)/\P p.2)(hq:∀ρ,P ρ->Q (wL n g,ρ)):Ok (iG f (wL n e) ρ) Q:=
 Zx (enc:=e) (l:=List.range n) P g h0 (λa ρ ha hp=>hs a ρ (qah.mp ha) hp) hq
end
end M
namespace M
theorem zmJ (n:Nat)(f:Nat->Int)(x:Int):wI n f++[.int x]=wI (n+1) λj=>if j<n then f j else x:=by
 rw[wI,zpY];exact Nz λj _=>by dsimp only;split<;>rfl
theorem zqO {j:Int}(h0:0<j)(h1:j<2^250):kJ j=true:=by
 have h:j.natAbs.log2<9000:=by
  have:j.natAbs.log2<250:=(Vg ∅).mpr ∅;lia
 unfold kJ;rw[gW h0,gW h];rfl
theorem Jd {n i:Nat}(f:Nat->Int)(x:Int)(h:i<n):(wI n f).set i (.int x)=wI n λj=>if j=i then x else f j:=by
 rw[wI,Tq _ _ h];exact Nz λj _=>by dsimp only;split<;>rfl
theorem uI:Dg .non=true:=rfl
theorem Al (i:Int):Dg (.int i)=false:=rfl
theorem Ia (b:Bool):Dg (.bl b)=false:=rfl
theorem wZ (s:PySem.Str):Dg (.str s)=false:=rfl
theorem xZ (ds:AA D):Dg (.lst ds)=false:=rfl
theorem wV (ds:AA D):Dg (.tup ds)=false:=rfl
end M
namespace M
open L2 PySem
variable {s:Sl}{i j N n:Nat}{b neg:Bool}{m:MS}{ρ:R}{Q:Fl×R->Prop}{x:Int}{g:D->R->AB R}{mi mq:MQ}{d:D}{F:AA D->AB Sl}{mo:MO}{ma:MA}{is cap l:AA Nat}{cs:AA Ch}{t:T}{ds:AA D}{mt:MT}{me:ME}{z:Sl×R}{ls:AA (AA D)}{q dk:AA Int×AA D}
theorem oA (ds:AA D):eE [.lst ds]=some ds:=rfl
theorem pL (ds:AA D):eE [.tup ds]=some ds:=rfl
theorem tE (ns:AA Int):eE [.scr ns]=some (ns.map .int):=rfl
theorem nS (ds:AA D):cY [.lst ds]=some (.int ds.length):=rfl
theorem sQ (ds:AA D):cY [.tup ds]=some (.int ds.length):=rfl
theorem Ke (ns:AA Int):cY [.scr ns]=some (.int ns.length):=rfl
theorem rC (ds:AA D):iC [.lst ds]=some (.tup ds):=rfl
theorem nY (ds:AA D):iC [.tup ds]=some (.tup ds):=rfl
theorem oQ (ns:AA Int):iC [.scr ns]=some (.tup (ns.map .int)):=rfl
theorem Jk (ds:AA D)(a b:AB Int):lB (.lst ds) a b=some (.lst (bZ ds a b)):=rfl
theorem Ic (ds:AA D)(a b:AB Int):lB (.tup ds) a b=some (.tup (bZ ds a b)):=rfl
theorem Ky (ns:AA Int)(a b:AB Int):lB (.scr ns) a b=some (.lst ((bZ ns a b).map .int)):=rfl
theorem Pd (ds:AA D)(i:Int):bF (.lst ds) (.int i)=atI ds i:=rfl
theorem Wc (ds:AA D)(i:Int):bF (.tup ds) (.int i)=atI ds i:=rfl
theorem Rp (ns:AA Int)(i:Int):bF (.scr ns) (.int i)=(atI ns i).map .int:=rfl
theorem Xe (a b:Str):bU (.str a) (.str b)=some (.bl (a==b)):=by
 unfold bU;rw[show bH (.str a)=true from rfl,show bH (.str b)=true from rfl,show depth (.str a)=0 from rfl]
 rfl
theorem wR (n:Nat)(f g h:Nat->D):Dd (wL n f) (wL n g) (wL n h)=wL n λi=> .tup [f i,g i,h i]:=by
 apply pP;intro j;unfold Dd
 by_cases hj:j<n
 ·have e:(List.zip (wL n g) (wL n h))[j]? =some (g j,h j):=by
   rw[Zl];exact⟨bY g hj,bY h hj⟩
  rw[Vu,e,bY _ hj,bY _ hj]
 ·rw[fD (by simp[cC];lia),fD (by simp[cC];lia)]
structure Sq (d:D)(n:Nat)(f:Nat->Int):Prop where
 it:eE [d]=some (wI n f)
 ln:cY [d]=some (.int n)
 tp:iC [d]=some (.tup (wI n f))
 ix:∀i,bF d (.int i)=atI (wI n f) i
 ct:∀lo hi,∃d',lB d lo hi=some d'/\eE [d']=some (bZ (wI n f) lo hi)
theorem Sq.lst (n:Nat)(f:Nat->Int):Sq (.lst (wI n f)) n f:=⟨rfl,by rw[nS,cC],rfl,λ_=>rfl,λlo hi=>⟨_,rfl,rfl⟩⟩
theorem Sq.tup (n:Nat)(f:Nat->Int):Sq (.tup (wI n f)) n f:=⟨rfl,by rw[sQ,cC],rfl,λ_=>rfl,λlo hi=>⟨_,rfl,rfl⟩⟩
def eqW (s:Nat)(a b:Nat->Int):Bool:=(List.range s).map a==(List.range s).map b
theorem zkY:∀(xs ys:AA Int),dD (xs.map D.int) (ys.map D.int)=(xs==ys)
 |[],[]=>rfl
 |[],_::_=>rfl
 |_::_,[]=>rfl
 |x::xs,y::ys=>by simp[dD,fW,zkY xs ys]
theorem Kx (n:Nat)(f:Nat->Int):wI n f=((List.range n).map f).map .int:=by simp[wL,gC,Function.comp_def]
theorem Fg (s:Nat)(a b:Nat->Int):bU (.tup (wI s a)) (.tup (wI s b))=some (.bl (eqW s a b)):=by
 have p1:Pl 1 (.tup (wI s a)):=oZ (wY λc=>zn7 0 _);have p2:Pl 1 (.tup (wI s b)):=oZ (wY λc=>zn7 0 _);unfold bU;rw[p1.1,p2.1,gW (bE p1.2 (by decide:1<=50))];simp only[Bool.and_self,if_true,fW];rw[Kx,Kx,zkY];rfl
theorem eqW_iff {s:Nat}{a b:Nat->Int}:eqW s a b=true↔∀i,i<s->a i=b i:=by
 unfold eqW;rw[qaQ]
 constructor
 ·intro h i hi;have:=congrArg (λl=>l[i]?) h;simpa[hi]using this
 ·intro h;exact Ra λi hi=>h i (qah.mp hi)
theorem Qt (n:Nat)(b:Nat->Bool):zA (wL n λi=> .bl (b i))=some ((List.range n).map b):=by
 have:∀l:AA Nat,zA (l.map λi=>D.bl (b i))=some (l.map b):=by
  intro l
  induction l with
  |nil=>rfl
  |cons a l ih=>simp[zA,ih]
 exact this _
theorem yH {m:ME}:aE Q (xF i m ρ)=aE Q (gd ((ρ[i]?.bind Sl.items).isSome) ((m ρ).bind λp=>p.2[i]?.bind λs=>s.items.bind λds=>match p.1 with
 | .lst es=>if ds.length+es.length<=16777216 then some (.next,p.2.set i (s.put (ds++es)))else none
 |_=>none)):=rfl
theorem zpd (a b:Int):wW (.int a) (.int b)=(b==a):=by
 show(a==b)=(b==a)
 by_cases h:a=b
 ·subst h;rfl
 ·rw[qab.mpr h,qab.mpr λe=>h e.symm]
theorem zhy:∀(l:AA Int),Ig (l.map D.int)=some (l.map V.int)
 |[]=>rfl
 |i::l=>by simp[Ig,Ri,zhy l]
theorem znT (a:Int):∀(l:AA Int),lQ (.int a) (l.map V.int)=l.contains a
 |[]=>rfl
 |i::l=>by
  have:=znT a l;unfold lQ at this ⊢;rw[eY,wJ,this,zpd,Ck]
theorem Xd (h:0<=x):uJ (.int x) (.int 1)=some (.int (x%2)):=by
 have e:uJ (.int x) (.int 1)=some (.int (Builtin.bitAnd x 1)):=rfl;rw[e];have e2:Builtin.bitAnd x 1=((x.toNat&&&1:Nat):Int):=by
  unfold Builtin.bitAnd;rw[gW h]
  rfl
 rw[e2,Nat.and_one_is_mod];congr 2;lia
def aM:Nat->(Nat->Int)->Int
 |0,_=>0
 |n+1,f=>aM n f+f n
theorem eO {f g:Nat->Int}:∀{n:Nat},(∀i,i<n->f i=g i)->aM n f=aM n g
 |0,_=>rfl
 |n+1,h=>by rw[aM,aM,eO λi hi=>h i ∅,h n ∅]
theorem Ng (f g:Nat->Int):∀n,aM n (λi=>f i+g i)=aM n f+aM n g
 |0=>rfl
 |n+1=>by simp only[aM,Ng f g n];lia
theorem Cv (f g:Nat->Int):∀n,aM n (λi=>f i-g i)=aM n f-aM n g
 |0=>rfl
 |n+1=>by simp only[aM,Cv f g n];lia
theorem zhl:∀n,aM n (λ_=>0)=0
 |0=>rfl
 |n+1=>by simp only[aM,zhl n];lia
theorem kG (a:Int)(f:Nat->Int):∀n,aM n (λi=>a*f i)=a*aM n f
 |0=>by simp[aM]
 |n+1=>by simp only[aM,kG a f n,Int.mul_add]
theorem Zo (f:Nat->Nat->Int)(m:Nat):∀n,aM n (λi=>aM m (f i))=aM m (λj=>aM n λi=>f i j)
 |0=>(zhl m).symm
 |n+1=>by simp only[aM,Zo f m n,Ng]
theorem zg1 (f:Nat->Int):∀n,((List.range n).map f).sum=aM n f
 |0=>rfl
 |n+1=>by simp[Yn,zg1 f n,aM]
theorem zkR (n:Nat)(f:Nat->Int):fL (wI n f)=some ((List.range n).map f):=by
 have:wI n f=((List.range n).map f).map .int:=by simp[wL,gC,Function.comp_def]
 rw[this,Ug]
theorem Xx {mc:MT}{mb:MS}(I:Nat->R->Prop)(turn:∀m ρ,I m ρ->Ok (mc ρ) λp=>(p.1=true->∃m',m=m'+1/\Ok (mb p.2) λq=>q.1= .next/\I m' q.2)/\(p.1=false->Q (.next,p.2))):∀(fuel m:Nat) (ρ:R),m<fuel->I m ρ->Ok (pU mc mb fuel ρ) Q
 |0,m,ρ,h,_=>∅
 |n+1,m,ρ,h,hI=>by
  obtain⟨⟨b,ρ1⟩,e,h1,h2⟩:=(turn m ρ hI);unfold pU;rw[e];cases b with
  |false=>exact ok_some.mpr (h2 rfl)
  |true=>
   obtain⟨m',rfl,h3⟩:=h1 rfl;obtain⟨⟨f,ρ2⟩,e2,ef,hI2⟩:=h3;show Ok ((mb ρ1).bind _) Q;rw[e2];cases(show f= .next from ef);exact Xx I turn n m' ρ2 ∅ hI2
theorem Xg {mi:ME}{Q:R->Prop}:aE Q (gS j mi d ρ)=aE Q (gd (eJ ρ j) ((mi ρ).bind λq=>match q.1 with
 | .int k=>q.2[j]?.bind λs=>s.items.bind λds=>(eU ds.length k).bind λn=>some (q.2.set j (s.put (ds.set n d)))
 |_=>none)):=rfl
theorem Lp (j:Int)(ns:AA Int):zpv (.int j) (.lst (ns.map .int))=some (.bl (!(ns.contains j))):=by
 have e:lQ (.int j) (ns.map V.int)=ns.contains j:=by
  unfold lQ
  induction ns with
  |nil=>rfl
  |cons a l ih=>rw[eY,wJ,ih,zpd,Ck]
 show((Ig (ns.map D.int)).map λxs=>D.bl (!lQ (.int j) xs))=_;rw[zhy];show some (D.bl (!lQ (.int j) (ns.map V.int)))=_;rw[e]
theorem inL (j:Int)(ns:AA Int):lU (.int j) (.lst (ns.map .int))=some (.bl (ns.contains j)):=by
 show((Ig (ns.map D.int)).map λxs=>D.bl (lQ (.int j) xs))=_;rw[zhy];show some (D.bl (lQ (.int j) (ns.map V.int)))=_;rw[znT]
theorem like_par (ns:AA Int):lT (.par (ns.map .int)) (.par (ns.map .int))=true:=by
 show(match fL (ns.map D.int),fL (ns.map D.int)with
  |some a,some b=>a==b
  |_,_=>false)=true
 rw[Ug];exact Sk ns
section
variable {j:Nat}{mk me:ME}{ρ:R}
theorem ok_tDI {Q:Bool×R->Prop}:aE Q (tDI j neg mk ρ)=(aE (λp=>aE Q (match p.1 with
 | .int k=>(p.2[j]?.bind Sl.dic).map λq=>(((jD q.1 q.2 k).isSome !=neg),p.2)
 |_=>none)) (mk ρ)):=ok_bind
theorem ok_eCallMO {F:AA D->AA D->AB (Sl×AA D)}{Q:D×R->Prop}:aE Q (xM F mo ma ρ)=aE Q ((mo ρ).bind λp=>(ma p.2).bind λq=>(F p.1 q.1).bind λr=>match r.1 with
 | .val d=>some (d,q.2)
 | .own ds=>some (.lst ds,q.2)
 |_=>none):=rfl
theorem ok_sUnT:aE Q (sUnT j is ρ)=aE Q (match ρ[j]? with
 |some (.tre (.lst cs))=>if cs.length=is.length then some (.next,kT is cs (ρ.set j .emp))else none
 |_=>none):=rfl
theorem Gg {cs:AA D}{Q:Sl×AA D->Prop}:aE Q (fMT N m cs t ds)=aE Q ((m (.par cs:: .tre t::Ec (N-2) ds)).bind λp=>match p.1,(p.2[0]?:AB Sl)with
 |Fl.ret r,some (Sl.par out)=>some (r,out)
 |Fl.next,some (Sl.par out)=>some (.val .non,out)
 |_,_=>none):=by rw[<-zim,Nat.sub_sub,Qm 2];rfl
theorem Gw {Q:D×R->Prop}:aE Q (Yt j ρ)=aE Q (match ρ[j]? with
 |some (.tre (.lst cs))=>some (.int cs.length,ρ)
 |_=>none):=rfl
theorem Hw {Q:D×R->Prop}:aE Q (xD j mi mq ρ)=aE Q ((mi ρ).bind λa=>(mq ρ).bind λb=>match a,b,ρ[j]? with
 | .int n,.int m,some (.tre (.lst cs))=>(atI cs n).bind λc=>match c with
  | .l ds=>(atI ds m).map λd=>(d,ρ)
  |_=>none
 |_,_,_=>none):=rfl
theorem Md:aE Q (Yp j mi mq me ρ)=aE Q ((me ρ).bind λp=>(mi p.2).bind λa=>(mq p.2).bind λb=>match a,b,p.2[j]? with
 | .int n,.int m,some (.tre (.lst cs))=>(eU cs.length n).bind λu=>match cs[u]? with
  |some (.l ds)=>(eU ds.length m).bind λw=>some (.next,p.2.set j (.tre (.lst (cs.set u (.l (ds.set w p.1))))))
  |_=>none
 |_,_,_=>none):=rfl
theorem yV:aE Q (mW j m ρ)=aE Q (m (fzT j ρ)):=rfl
theorem Bb:aE Q (oH i j ma ρ)=aE Q ((ma ρ).bind λp=>match p.1 with
 |[c,d]=>some (.next,(p.2.set i (.val c)).set j (.val d))
 |_=>none):=rfl
theorem ok_iDKT {Q:AA D×R->Prop}:aE Q (iDKT j ρ)=aE Q (match ρ[j]? with
 |some (.val (.dit ks ds))=>some (ks.map λk=> .tup (k.map .int),ρ)
 |_=>none):=rfl
theorem ok_eCallU {Q:D×R->Prop}:aE Q (Gk F ma ρ)=aE Q ((ma ρ).bind λp=>(F p.1).bind λr=>match r with
 | .tre (.tup cs)=>some (.tup (cs.map Ch.D),p.2)
 |_=>none):=rfl
theorem ok_sCp {mb:MS}:aE Q (sCp i j n mb ρ)=aE Q (match ρ[i]?,ρ[j]? with
 |some _,some (.tre (.tup cs))=>match cs[n]? with
  |some (.d .non)=>some (.next,ρ.set i (.val .non))
  |some (.l ds)=>mb (ρ.set i (.own ds))
  |_=>none
 |_,_=>none):=rfl
theorem zku {Q:AB (AA D)×R->Prop}:aE Q (Bm g mt mo d ρ)=(aE (λρ1=>aE (λp=>(p.1=true->aE (λq=>gJ q.2=true/\Q (some q.1,q.2)) (mo p.2))/\(p.1=false->gJ p.2=true/\Q (none,p.2))) (mt ρ1)) (g d ρ)):=by
 unfold Bm;rw[ok_bind];exact cL λρ1=>by rw[ok_bind];exact cL λp=>by rw[Cy,ok_bind,mD,ok_some];congr 1;exact propext (imp_congr Iff.rfl (iff_of_eq (cL λq=>by rw[mD,ok_some])))
theorem zns {f:D->R->AB (AB (AA D)×R)}{e:Nat->D}(P:R->Prop)(g:Nat->AA D){Q:AA (AA D)×R->Prop}:∀{n k:Nat} {ρ:R},P ρ->(∀i ρ,i<n->P ρ->Ok (f (e (k+i)) ρ) λp=>p.1=some (g (k+i))/\P p.2)->(∀ρ,P ρ->Q ((List.range n).map (λi=>g (k+i)),ρ))->Ok (lX f ((List.range n).map λi=>e (k+i)) ρ) Q
 |0,k,ρ,h0,_,hq=>Ok.of rfl (hq ρ h0)
 |n+1,k,ρ,h0,hs,hq=>by
  have s1:∀{α:Type} (e:Nat->α),(List.range (n+1)).map (λi=>e (k+i))=e k::(List.range n).map λi=>e (k+1+i):=λe=>by
   rw[List.range_succ_eq_map,eY,gC];congr 1;exact Ra λi _=>by show e (k+(i+1))=_;congr 1;lia
  rw[s1 e];obtain⟨p,e1,h1,h2⟩:=(hs 0 ρ ∅ h0);obtain⟨q,e2,h3⟩:=(zns (f:=f) (e:=e) P g (Q:=λz=>Q (g k::z.1,z.2)) (n:=n) (k:=k+1) h2 (λi ρ hi hp=>by have:=hs (i+1) ρ ∅ hp;rwa[show k+(i+1)=k+1+i by lia]at this) λρ hp=>by have:=hq ρ hp;rwa[s1 g]at this);refine Ok.of (a:=(g k::q.1,q.2)) ?_ h3;obtain⟨p1,p2⟩:=p;have h1:p1=some (g k):=h1;subst h1;have e1:f (e k) ρ=some (some (g k),p2):=e1;have e2:lX f ((List.range n).map λi=>e (k+1+i)) p2=some q:=e2;simp only[lX,e1,iT,e2,Em]
  rfl
theorem zlt {n:Nat}{e:Nat->D}{f:D->R->AB (AB (AA D)×R)}{Q:AA (AA D)×R->Prop}(P:R->Prop)(g:Nat->AA D)(h0:P ρ)(hs:∀i ρ,i<n->P ρ->Ok (f (e i) ρ) λp=>p.1=some (g i)/\P p.2)(hq:∀ρ,P ρ->Q ((List.range n).map g,ρ)):Ok (lX f (wL n e) ρ) Q:=by
 have:=zns (f:=f) (e:=e) P g (Q:=Q) (n:=n) (k:=0) h0 (λi ρ hi hp=>by rw[Os];exact hs i ρ hi hp) (λρ hp=> ~~~hq ρ hp);simpa[wL]using this
theorem Kv {i t:Nat}{mi:MA}:aE Q (Ob i cap t mi g mt mo ρ)=aE Q ((mi ρ).bind λp=>if p.1.length<=16777216 then(lX (Bm g mt mo) p.1 (eV cap t (fzL cap p.2))).map λq=>(.next,(fzL cap p.2).set i (.tre (.lst (q.1.map .l))))else none):=rfl
theorem vY:aE Q (vB j ma ρ)=aE Q (gd ((ρ[j]?.bind Sl.items).isSome) ((ma ρ).bind λp=>p.2[j]?.bind λs=>s.items.bind λds=>match p.1 with
 |[.int k,d]=>if 0<=k/\k<=ds.length/\ds.length<16777216 then some (.next,p.2.set j (s.put (ds.take k.toNat++d::ds.drop k.toNat)))else none
 |_=>none)):=rfl
theorem sT {b c:Nat}{Q:AB D×R->Prop}:aE Q (Eh b c g mt me d ρ)=(aE (λρ1=>aE (λp=>(p.1=true->aE (λq=>Vx b c q.2=true/\Q (some q.1,q.2)) (me p.2))/\(p.1=false->Vx b c p.2=true/\Q (none,p.2))) (mt ρ1)) (g d ρ)):=by
 unfold Eh;rw[ok_bind];exact cL λρ1=>by rw[ok_bind];exact cL λp=>by rw[Cy,ok_bind,mD,ok_some];congr 1;exact propext (imp_congr Iff.rfl (iff_of_eq (cL λq=>by rw[mD,ok_some])))
theorem ok_sCut {me ml mh:ME}:aE Q (sCut i me ml mh ρ)=aE Q ((me ρ).bind λp=>gd ((p.2[i]?.bind Sl.items).isSome) ((ml p.2).bind λq=>(mh q.2).bind λr=>r.2[i]?.bind λs=>s.items.bind λds=>match p.1,q.1,r.1 with
 | .lst es,.int m,.int n=>if decide (0<=m)&&decide (m<=n)&&decide (n<=ds.length)&&decide (ds.length+es.length<=16777216)then some (.next,r.2.set i (s.put (ds.take m.toNat++es++ds.drop n.toNat)))else none
 |_,_,_=>none)):=rfl
theorem zqp {f g h:D->D->AB D}{a b c d:ME}{Q:D×R->Prop}:aE Q (zrd f g h a b c d ρ)=(aE (λp=>aE (λq=>aE (λt=>∃z,t= .bl z/\(z=true->aE (λr=>aE (λt'=>∃z',t'= .bl z'/\(z'=true->aE (λs=>aE (λx=>Q (x,s.2)) (h r.1 s.1)) (d r.2))/\(z'=false->Q (.bl false,r.2))) (g q.1 r.1)) (c q.2))/\(z=false->Q (.bl false,q.2))) (f p.1 q.1)) (b p.2)) (a ρ)):=by
 unfold zrd;rw[ok_bind];refine cL λp=>?_
 rw[ok_bind];refine cL λq=>?_
 rw[ok_bind];refine cL λt=>?_
 cases t with
 |bl z=>
  cases z
  ·simp[ok_some]
  ·simp only[D.bl.injEq,qc6,forall_const,Bool.true_eq_false,qc7,and_true];rw[ok_bind];refine cL λr=>?_
   rw[ok_bind];refine cL λt'=>?_
   cases t' with
   |bl z=>
    cases z
    ·simp[ok_some]
    ·simp only[D.bl.injEq,qc6,forall_const,Bool.true_eq_false,qc7,and_true];rw[ok_bind];exact cL λs=>ok_map
   |_=>simp[ok_none]
 |_=>simp[ok_none]
theorem zS:ckG [] z=true:=rfl
theorem rQ {a:Nat}:ckG (a::l) z=(tY z.1&&z.2.all tY):=rfl
theorem yN:tY (.val d)=iH d:=rfl
theorem zH:tY (.own ds)=ds.all iH:=rfl
theorem vZ:tY (.par ds)=ds.all iH:=rfl
theorem vI:tY (.tre t)=Oj t:=rfl
theorem Aq:tY (.ptr t)=Oj t:=rfl
theorem Ac:tY .emp=true:=rfl
theorem Fx:iH (.bl b)=true:=rfl
theorem yP {i:Int}:iH (.int i)=true:=rfl
theorem xT:iH .non=true:=rfl
theorem xW {s:Str}:iH (.str s)=true:=rfl
theorem xI:Oj (.tup cs)=cs.all Lk:=rfl
theorem Sj:Lk (.d d)=iH d:=rfl
theorem Po:Lk (.l ds)=ds.all iH:=rfl
theorem Me {n:Int}:Oj (bkT n ds)=ds.all iH:=by
 show([("many",Ch.d (.int n)),("kept",Ch.l ds)]:AA (Str×Ch)).all (λf=>Lk f.2)=ds.all iH;simp[Lk,iH]
theorem zpN {d1:D}{Q:Sl×R->Prop}:aE Q (Np F [.val d1])=aE (λr=>Q (r,[.emp])) (F [d1]):=by
 show aE Q ((F [d1]).map λr=>(r,[.emp]))=_;exact ok_map
theorem zpb {d1 d2:D}{Q:Sl×R->Prop}:aE Q (Np F [.val d1,.val d2])=aE (λr=>Q (r,[.emp,.emp])) (F [d1,d2]):=by
 show aE Q ((F [d1,d2]).map λr=>(r,[.emp,.emp]))=_;exact ok_map
theorem zq6 {d1 d2 d3:D}{Q:Sl×R->Prop}:aE Q (Np F [.val d1,.val d2,.val d3])=aE (λr=>Q (r,[.emp,.emp,.emp])) (F [d1,d2,d3]):=by
 show aE Q ((F [d1,d2,d3]).map λr=>(r,[.emp,.emp,.emp]))=_;exact ok_map
theorem zp5 {d1 d2 d3 d4:D}{Q:Sl×R->Prop}:aE Q (Np F [.val d1,.val d2,.val d3,.val d4])=aE (λr=>Q (r,[.emp,.emp,.emp,.emp])) (F [d1,d2,d3,d4]):=by
 show aE Q ((F [d1,d2,d3,d4]).map λr=>(r,[.emp,.emp,.emp,.emp]))=_;exact ok_map
theorem zpA {d1 d2 d3 d4 d5:D}{Q:Sl×R->Prop}:aE Q (Np F [.val d1,.val d2,.val d3,.val d4,.val d5])=aE (λr=>Q (r,[.emp,.emp,.emp,.emp,.emp])) (F [d1,d2,d3,d4,d5]):=by
 show aE Q ((F [d1,d2,d3,d4,d5]).map λr=>(r,[.emp,.emp,.emp,.emp,.emp]))=_;exact ok_map
theorem zqt {d1 d2 d3 d4 d5 d6:D}{Q:Sl×R->Prop}:aE Q (Np F [.val d1,.val d2,.val d3,.val d4,.val d5,.val d6])=aE (λr=>Q (r,[.emp,.emp,.emp,.emp,.emp,.emp])) (F [d1,d2,d3,d4,d5,d6]):=by
 show aE Q ((F [d1,d2,d3,d4,d5,d6]).map λr=>(r,[.emp,.emp,.emp,.emp,.emp,.emp]))=_;exact ok_map
theorem Vw {as:R}{Q:Sl×R->Prop}:aE Q (fG N m as)=aE (λp=>aE Q (match p.1 with
 | .ret r=>(gO as p.2).map λo=>(r,o)
 | .next=>(gO as p.2).map λo=>(.val .non,o)
 |_=>none)) (m (as++List.replicate (N-as.length) .emp)):=ok_bind
end
section
variable {ρ:R}{j:Nat}
theorem pG {me ml mh:ME}:aE Q (sP i me ml mh ρ)=aE Q ((me ρ).bind λp=>gd ((p.2[i]?.bind Sl.items).isSome) ((ml p.2).bind λq=>(mh q.2).bind λr=>r.2[i]?.bind λs=>s.items.bind λds=>match p.1,q.1,r.1 with
 | .lst es,.int m,.int n=>if decide (0<=m)&&decide (m<=n)&&decide (m<=ds.length)&&decide (ds.length+es.length<=16777216)then some (.next,r.2.set i (s.put (ds.take m.toNat++es++ds.drop n.toNat)))else none
 |_,_,_=>none)):=rfl
end
section
variable {ρ:R}{j k i:Nat}{c:Str}{ns ns2:AA Str}{me mo mi:ME}{mO:MO}{ma:MA}{md:MK}
def kOb (c:Str)(ns:AA Str)(p:D×R):AB ((AA Int×AA D)×R):=match p.1 with
 | .obj c' ns' _ ks ds=>if c'=c/\ns'=ns then some ((ks,ds),p.2)else none
 |_=>none
theorem El:kOb slC slN (obD slC slN ls q,ρ)=some (q,ρ):=by
 unfold kOb obD;dsimp only;rw[if_pos ⟨rfl,rfl⟩]
theorem Lj:fA slC slN k (obD slC slN ls q)=(ls[k]?).map D.lst:=by
 unfold fA obD;dsimp only;rw[if_pos ⟨rfl,rfl⟩,cJ]
theorem Gu {Q:(AA Int×AA D)×R->Prop}:aE Q (Be c ns me ρ)=aE Q ((me ρ).bind (kOb c ns)):=rfl
theorem Hx {Q:D×R->Prop}:aE Q (Vi md mi ρ)=aE Q ((md ρ).bind λp=>(mi p.2).bind λq=>match q.1 with
 | .int k=>(jD p.1.1 p.1.2 k).map λd=>(d,q.2)
 |_=>none):=rfl
theorem Es {Q:Bool×R->Prop}:aE Q (Oz neg mi md ρ)=aE Q ((mi ρ).bind λp=>(md p.2).bind λq=>match p.1 with
 | .int k=>some (((jD q.1.1 q.1.2 k).isSome !=neg),q.2)
 |_=>none):=rfl
theorem Fq {Q:AA D×R->Prop}:aE Q (iKN md ρ)=aE Q ((md ρ).map λp=>(p.1.1.map .int,p.2)):=rfl
theorem Oi {ls:AA (AA D)}{q:AA Int×AA D}{Q:D×R->Prop}(h:ρ[j]? =some (.val (obD slC slN ls q))):aE Q (lV F slC slN (aA j) ma ρ)=aE Q ((ma ρ).bind λp=>(F (obD slC slN ls q::p.1)).bind λr=>match r with
  | .val d=>some (d,p.2)
  | .own ds=>some (.lst ds,p.2)
  |_=>none):=by
 have e:aA j ρ=some (obD slC slN ls q,ρ):=by unfold aA;rw[h]
 unfold lV;rw[e,iT];unfold obD;dsimp only;rw[if_pos ⟨rfl,rfl⟩]
 first|done|rfl
theorem zG {m:ME}{Q:D×R->Prop}(h:ρ[j]? =some s)(hs:s.ob=some (c,ns,ls,some dk))(hl:jP ls=true):aE Q (dW j m ρ)=aE Q ((m (ρ.set j (.val (obD c ns ls dk)))).bind λp=>if Ea p.1&&((ρ.set j .emp).zip p.2).all (λq=>lT q.1 q.2)then some (p.1,ρ)else none):=by
 unfold dW;rw[h,iT,hs];simp only[hl,Bool.true_and]
theorem zmL {m:MO}{Q:AA D×R->Prop}(h:ρ[j]? =some s)(hs:s.ob=some (c,ns,ls,some dk))(hl:jP ls=true):aE Q (iB j m ρ)=aE Q ((m (ρ.set j (.val (obD c ns ls dk)))).bind λp=>if p.1.all Ea&&((ρ.set j .emp).zip p.2).all (λq=>lT q.1 q.2)then some (p.1,ρ)else none):=by
 unfold iB;rw[h,iT,hs];simp only[hl,Bool.true_and]
theorem xE:aE Q (kY c ns j k i me ρ)=aE (λp:D×R=>aE Q (match p.2[j]?.bind Sl.ob,p.2[i]? with
 |some (c',ns',ls,dk),some (.val (.int n))=>if c'=c/\ns'=ns then(ls[k]?).bind λds=>(eU ds.length n).bind λm=>(p.2[j]?).map λs=>(.next,p.2.set j (s.putT (.obj c ns (ls.set k (ds.set m p.1)) dk)))else none
 |_,_=>none)) (me ρ):=ok_bind
theorem wB:aE Q (Fy c ns j k mO ρ)=aE (λp:AA D×R=>aE Q (match p.2[j]?.bind Sl.ob with
 |some (c',ns',ls,dk)=>if c'=c/\ns'=ns/\k<ls.length then(p.2[j]?).map λs=>(.next,p.2.set j (s.putT (.obj c ns (ls.set k p.1) dk)))else none
 |_=>none)) (mO ρ):=ok_bind
theorem vU:aE Q (kZ c ns ns2 j mO ρ)=aE (λp:AA D×R=>aE Q (match p.2[j]?.bind Sl.ob with
 |some (c',ns',ls,none)=>if c'=c/\ns'=ns then(p.2[j]?).map λs=>(.next,p.2.set j (s.putT (.obj c ns2 (ls++[p.1]) none)))else none
 |_=>none)) (mO ρ):=ok_bind
theorem Ar:aE Q (yJ c ns ns2 j ρ)=aE Q (match ρ[j]?.bind Sl.ob with
 |some (c',ns',ls,none)=>if c'=c/\ns'=ns then(ρ[j]?).map λs=>(.next,ρ.set j (s.putT (.obj c ns2 ls (some ([],[])))))else none
 |_=>none):=rfl
theorem vF:aE Q (Gs c ns j i me ρ)=aE (λp:D×R=>aE Q (match p.2[j]?.bind Sl.ob,p.2[i]? with
 |some (c',ns',ls,some q),some (.val (.int n))=>if c'=c/\ns'=ns/\q.1.length<16777216 then(p.2[j]?).map λs=>(.next,p.2.set j (s.putT (.obj c ns ls (some (gY q.1 q.2 n p.1)))))else none
 |_,_=>none)) (me ρ):=ok_bind
theorem zjz {F:R->AB (Sl×R)}{Q:D×R->Prop}{dk:AB (AA Int×AA D)}(h:ρ[j]? =some s)(hs:s.ob=some (c,ns,ls,dk)):aE Q (Ci F c ns j ma ρ)=aE (λq:AA D×R=>aE Q (match q.2[j]?.bind Sl.ob with
  |some (c2,ns2,l2,d2)=>(F (.ptr (.obj c2 ns2 l2 d2)::q.1.map .val)).bind λz=>match z with
   |(.val d,.ptr (.obj c3 ns3 l3 d3)::_)=>(q.2[j]?).map λs=>(d,q.2.set j (s.putT (.obj c3 ns3 l3 d3)))
   |_=>none
  |none=>none)) (ma ρ):=by
 have e:Ci F c ns j ma ρ=(ma ρ).bind λq=>match q.2[j]?.bind Sl.ob with
  |some (c2,ns2,l2,d2)=>(F (.ptr (.obj c2 ns2 l2 d2)::q.1.map .val)).bind λz=>match z with
   |(.val d,.ptr (.obj c3 ns3 l3 d3)::_)=>(q.2[j]?).map λs=>(d,q.2.set j (s.putT (.obj c3 ns3 l3 d3)))
   |_=>none
  |none=>none:=by
  unfold Ci;rw[h,iT,hs];exact if_pos ⟨rfl,rfl⟩
 rw[e];exact ok_bind
theorem zN {F:R->AB (Sl×R)}:aE Q (Kl i c ns F ma ρ)=aE (λq:AA D×R=>aE Q ((F (.ptr (.obj c [] [] none)::q.1.map .val)).bind λz=>match z with
 |(.val .non,.ptr (.obj c3 ns3 l3 (some d3))::_)=>if c3=c/\ns3=ns then some (.next,q.2.set i (.val (obD c ns l3 d3)))else none
 |_=>none)) (ma ρ):=ok_bind
end
theorem Fs {n:Int}:(bkT n ds).isObj=false:=rfl
section
theorem Pm {g:AA D->R->AB R}{Q:R->Prop}:aE Q (gL n g d ρ)=aE Q (match d with
 | .lst ds=>if ds.length=n then g ds ρ else none
 |_=>none):=rfl
end
section
variable {ρ:R}{i j:Nat}{mi:MQ}{mo:MO}{me:ME}
theorem zM:aE Q (Lg j mi mo ρ)=aE Q ((mo ρ).bind λp=>(mi p.2).bind λa=>match a,p.2[j]? with
 | .int n,some (.tre (.lst cs))=>(eU cs.length n).bind λu=>some (.next,p.2.set j (.tre (.lst (cs.take u++[.l p.1]++cs.drop (u+1)))))
 |_,_=>none):=rfl
theorem xG {c0 c1:Int}:aE Q (vL j i c0 c1 me ρ)=aE Q (match ρ[i]?,ρ[j]? with
  |some (.val (.int n)),some (.tre (.lst cs))=>if 0<=n/\n<cs.length/\cs.length<1000000 then(me (ρ.set j .emp)).bind λp=>match p.1,p.2[i]? with
    | .int t,some (.val (.int m))=>if m=n then(if t=0 then some []else if t=1 then cs[n.toNat]?.map λc=>[c,.l [.int c0,.int c1]]else none).bind λdd=>some (.next,p.2.set j (.tre (.lst (cs.take n.toNat++dd++cs.drop (n.toNat+1)))))else none
    |_,_=>none
   else none
  |_,_=>none):=rfl
end
end M
local macro_rules | `(tactic| simp! [$ls,*]) => do
  let f (d : Bool) (n : String) : Lean.MacroM (Lean.TSyntax `Lean.Parser.Tactic.simpLemma) := let i := Lean.mkIdent n.toName; if d then `(Lean.Parser.Tactic.simpLemma| ↓$i:term) else `(Lean.Parser.Tactic.simpLemma| $i:term)
  let a ← ("M.iZ M.Ik M.Ko M.Ax M.Ga M.Au M.Ll M.oJ M.zqp M.qT M.nX M.sT M.ok_bind M.ok_map M.Wi M.mD M.ok_some M.mY M.Ab M.rV M.xN M.qI M.oI M.Tv M.oE M.zqY M.So M.Pm M.xP M.vW M.qL M.Ak M.vC M.rD M.Sf M.yU M.oU M.Sg M.Xk M.mP M.Wx M.Ad M.vT M.yZ M.rM M.pO M.rW M.zo6 M.zph M.Ih M.zD M.Mt M.rR M.Aa M.Fn M.Jz M.Ba M.Lq M.Wp M.oW M.vJ M.Yo M.Re M.nV M.Fp M.Jt M.wX M.yH M.Gg M.Gw M.Hw M.Md M.yV M.Bb M.zku M.Kv M.zM M.xG M.vY M.Vw M.pG M.Gu M.Hx M.Es M.Fq M.xE M.wB M.vU M.Ar M.vF M.zN M.Az M.yF M.uS M.uH M.xS M.zpN M.zpb M.zq6 M.zp5 M.zpA M.zqt".splitOn " ").toArray.mapM (f true)
  let b ← ("M.kQ M.zP M.hJ M.gE M.uW M.dY M.eL M.Jc M.He M.pV M.Tt M.Qo M.fE M.fU M.bO M.uG M.nJ M.Sl.read M.Sl.items M.Sl.put M.eJ M.gJ M.fz1 M.fzL M.jQ M.eV M.eIsI.noS1 M.Vk M.Uz M.Cg M.iU M.yD M.oF M.iY M.Ju M.Iu M.Qp M.fzD M.kT M.Ch.sl M.Sl.dic M.Sl.dit M.Sl.tree M.Sl.putT M.Sl.dit M.qC M.qV M.fzT M.Ch.D M.fzDT M.fzU M.mN M.Vx M.Sl.hand M.Sl.look M.hasA M.gO M.Eg M.zmH M.zqD M.Sl.bk M.Wq M.Sl.ob M.iL M.yY M.kE M.Wh M.zp2 M.qK M.mZ M.zqh M.zpB M.zrc M.pF M.qO List.getElem?_cons_zero List.getElem?_cons_succ List.set_cons_zero List.set_cons_succ Option.bind_some Option.isSome_some Option.map_some if_true M.zqP M.nK M.zkh M.zq8 M.uL M.Ay M.zQ M.Sv M.yC M.Jp M.Kn M.zI M.Kc M.Jj List.replicate_succ List.replicate_zero List.length_cons List.length_nil List.cons_append List.nil_append List.all_cons List.all_nil Bool.and_true Bool.true_and Bool.and_self Bool.true_eq_false Bool.false_eq_true if_false M.zV M.vN List.length_map List.length_append M.mU M.uF M.Df M.yT M.Fw M.ok_none M.oA M.pL M.tE M.nS M.sQ M.Ke M.rC M.nY M.oQ M.Jk M.Ic M.Ky M.Pd M.Wc M.Rp M.Xe M.wR M.uI M.Al M.Ia M.wZ M.xZ M.wV M.Ii M.Fs M.Me M.zS M.rQ M.yN M.zH M.vI M.vZ M.Aq M.Ac M.Fx M.yP M.xT M.xW M.xI M.Sj M.Po M.El M.Lj beq_self_eq_true Bool.not_true Bool.not_false M.Ug Int.toNat_natCast M.sJ M.cC decide_eq_true_eq Bool.and_eq_true true_and and_true Nat.reduceAdd Nat.reduceLeDiff Int.reduceLT Int.reduceLE Int.reduceNeg Nat.reduceSub Int.reducePow Int.reduceMul Int.reduceAdd Int.reduceSub Int.reduceMod Int.reduceDiv Nat.reduceLT Nat.reduceBNe Nat.reduceEqDiff List.filter_cons List.filter_nil bne_self_eq_false Int.reduceToNat Nat.reducePow M.zoh Int.reduceEq Int.reduceBEq Int.reduceBNe Nat.reduceMod decide_true decide_false beq_iff_eq beq_eq_false_iff_ne bne_iff_ne bne_eq_false_iff_eq decide_eq_false_iff_not Int.not_le Int.not_lt ne_eq forall_const true_implies false_implies reduceCtorEq imp_self implies_true M.D.bl.injEq exists_eq_left' Bool.not_true Bool.not_false".splitOn " ").toArray.mapM (f false)
  `(tactic| simp only [$a,*, $b,*, $ls,*])
namespace Prf
open L2 M PySem
def top (i:Nat):Stmt:=PySem.Challenge.pw_tellsum_k51_solutions_judged.main.body.getD i (.Pass ⟨0,0,0,0⟩)
structure BN (K:W.Frag)(mg:Str->Option Value):Prop where
 oc:OC K slC slN
 abs':mg "abs"=none
 all':mg "all"=none
 any':mg "any"=none
 bool':mg "bool"=none
 enumerate':mg "enumerate"=none
 int':mg "int"=none
 isinstance':mg "isinstance"=none
 len':mg "len"=none
 list':mg "list"=none
 max':mg "max"=none
 min':mg "min"=none
 range':mg "range"=none
 sum':mg "sum"=none
 tuple':mg "tuple"=none
 zip':mg "zip"=none
section
variable {P:AJ}{w:World}{K:AF}{mg:Str->AB AC}{base hp:AK}{f:AD}{fd:FuncData}(X:K.In hp)(G:hp.Ns AL mg)(bn:BN K mg)
include X G bn
abbrev zhk:Stmt:=top 1
def zfD:ME:=
 (aR 0 (aA 1))
def zfz:MO:=
 cZ [0] 1 (bL (aA 1)) (gN 1) eK zfD
def zfq:MS:=
 (bA (mC oF (aF (dZ zfz) aB)))
def zdj:AA D->AB Sl:=fP 2 zfq
theorem zkC (h:FnAt K "chosen_sum" zhk):FD P w K mg base 1 "chosen_sum" (aX K 2 zdj):=
 dS (N:=["row","places"]) (k:=0) (m:=zfq) X G h λ_ _ _ _ _ _ _ hr nd=>(aU (cQ (nH rfl bn.sum' (aG (SO.se (fK [0] 1 ["row","place"] rfl (eP (aD 1)) (λC s H fp=>(bG 1 cF)) (λC s H fp=>fC) (λC s H fp=>(bS 0 (aD 1))))) aL))))
abbrev zjd:Stmt:=top 2
def zg5:ME:=
 (cG zdj (aF (aA 0) (aF (aA 1) aB)))
def zg6:MO:=
 cZ [0] 1 (bL (aA 1)) (gN 1) eK zg5
def zhC:MS:=
 (bA (mC iC (aF (dZ zg6) aB)))
def Tu:AA D->AB Sl:=fP 2 zhC
theorem zmS (zey:FD P w K mg base 1 "chosen_sum" (aX K 2 zdj))(h:FnAt K "set_sums" zjd):FD P w K mg base 2 "set_sums" (aX K 2 Tu):=
 dS (N:=["row","sets"]) (k:=1) (m:=zhC) X G h λ_ _ _ _ _ _ _ hr nd=>(aU (cQ (qU bn.tuple' (aG (SO.se (fK [0] 1 ["row","places"] rfl (eP (aD 1)) (λC s H fp=>(bG 1 cF)) (λC s H fp=>fC) (λC s H fp=>(cK zey hr (aG (aD 0) (aG (aD 1) aL)) (AO:=(aO (aO aZ))))))) aL))))
abbrev zh1:Stmt:=top 4
def zgi:MS:=
 (bA (gU (m2 bU (hW 1) (aR 0 (eC (.int 0)))) (m2 bU (cG Tu (aF (aA 1) (aF (aR 0 (eC (.int 1))) aB))) (aR 0 (eC (.int 2))))))
def zef:AA D->AB Sl:=fP 2 zgi
theorem zl3 (zgr:FD P w K mg base 2 "set_sums" (aX K 2 Tu))(h:FnAt K "sets_hold" zh1):FD P w K mg base 3 "sets_hold" (aX K 2 zef):=
 dS (N:=["telling","row"]) (k:=2) (m:=zgi) X G h λ_ _ _ _ _ _ _ hr nd=>(aU (cQ (Fh (uN hr.units (jE 1 bn.len') (bS 0 aK)) (Je (uN hr.units (cK zgr hr (aG (aD 1) (aG (bS 0 aK) aL)) (AO:=(aO (aO aZ)))) (bS 0 aK))))))
abbrev zjq:Stmt:=top 6
def zgz:ME:=
 (Sa (aQ (m2 bU (aA 1) (aA 0))) (eC (.int 1)) (eC (.int 0)))
def zhq:MO:=
 cZ [1] 1 (jB (aF (aA 0) aB)) (gN 1) eK zgz
def zhH:MS:=
 (lS zhq)
def Rj:AA D->AB Sl:=fP 2 zhH
theorem zmq (h:FnAt K "unit_row" zjq):FD P w K mg base 1 "unit_row" (aX K 2 Rj):=
 dS (N:=["many","place"]) (k:=0) (m:=zhH) X G h λ_ _ _ _ _ _ _ hr nd=>(aU (tU (fK [1] 1 ["place","other"] rfl (jR bn.range' (aG (aD 0) aL)) (λC s H fp=>(bG 1 cF)) (λC s H fp=>fC) (λC s H fp=>(znw (iQ hr.units (aD 1) (aD 0)) aK aK)))))
abbrev zh7:Stmt:=top 7
def zfT:ME:=
 (cG Rj (aF (aA 0) (aF (aA 1) aB)))
def zgf:MO:=
 cZ [0] 1 (jB (aF (aA 0) aB)) (gN 1) eK zfT
def zgx:MS:=
 (lS zgf)
def Ew:AA D->AB Sl:=fP 1 zgx
theorem zlK (zgm:FD P w K mg base 1 "unit_row" (aX K 2 Rj))(h:FnAt K "unit_rows" zh7):FD P w K mg base 2 "unit_rows" (aX K 1 Ew):=
 dS (N:=["many"]) (k:=1) (m:=zgx) X G h λ_ _ _ _ _ _ _ hr nd=>(aU (tU (fK [0] 1 ["many","place"] rfl (jR bn.range' (aG (aD 0) aL)) (λC s H fp=>(bG 1 cF)) (λC s H fp=>fC) (λC s H fp=>(cK zgm hr (aG (aD 0) (aG (aD 1) aL)) (AO:=(aO (aO aZ))))))))
abbrev zj5:Stmt:=top 8
def zhW:ME:=
 (Sa (aQ (m2 lU (aA 1) (aA 0))) (eC (.int 1)) (eC (.int 0)))
def zhS:MO:=
 cZ [1] 1 (jB (aF (aA 0) aB)) (gN 1) eK zhW
def ziS:MS:=
 (lS zhS)
def Tj:AA D->AB Sl:=fP 2 ziS
theorem zoI (h:FnAt K "has_row" zj5):FD P w K mg base 1 "has_row" (aX K 2 Tj):=
 dS (N:=["many","places"]) (k:=0) (m:=ziS) X G h λ_ _ _ _ _ _ _ hr nd=>(aU (tU (fK [1] 1 ["places","place"] rfl (jR bn.range' (aG (aD 0) aL)) (λC s H fp=>(bG 1 cF)) (λC s H fp=>fC) (λC s H fp=>(znw (Cf (aD 1) (aD 0)) aK aK)))))
abbrev zh4:Stmt:=top 9
def zf9:ME:=
 (m2 gE (aA 1) (m2 iL (aA 0) (aA 2)))
def zfV:MO:=
 cZ [2] 2 (Hk (aF (aA 0) (aF (aA 1) aB))) (gT 2 (dB (gN 1) (dB (gN 2) iR))) eK zf9
def zgu:MS:=
 (lS zfV)
def sU:AA D->AB Sl:=fP 3 zgu
theorem zlp (h:FnAt K "taken_off" zh4):FD P w K mg base 1 "taken_off" (aX K 3 sU):=
 dS (N:=["row","other","times"]) (k:=0) (m:=zgu) X G h λ_ _ _ _ _ _ _ hr nd=>(aU (tU (fK [2] 2 ["times","number","less"] rfl (Vz bn.zip' (aG (aD 0) (aG (aD 1) aL))) (λC s H fp=>(lG rfl (dU (bG 1 cF) (dU (bG 2 cF) jK)))) (λC s H fp=>fC) (λC s H fp=>(wU (aD 1) (jH (aD 0) (aD 2)))))))
abbrev zcY:Stmt:=top 10
def zbV:MS:=
 (bA (m2 bO (m2 bO (qQ (aA 0) Xs (Ta (aA 1))) (dZ (dM (aF (m2 gE (aR 0 (aA 1)) (m2 iL (aA 3) (aR 0 (aA 2)))) aB)))) (qQ (aA 0) (Ta (m2 bO (aA 1) (eC (.int 1)))) Xs)))
def Xj:AA D->AB Sl:=fP 4 zbV
theorem zgh (h:FnAt K "column_taken_off" zcY):FD P w K mg base 1 "column_taken_off" (aX K 4 Xj):=
 dS (N:=["row","c","other","times"]) (k:=0) (m:=zbV) X G h λ_ _ _ _ _ _ _ hr nd=>(aU (cQ (fB (fB (zpG (aD 0) oS (zmx (aD 1))) (SO.se (lL (aG (wU (bS 0 (aD 1)) (jH (aD 3) (bS 0 (aD 2)))) aL)))) (zpG (aD 0) (zmx (fB (aD 1) aK)) oS))))
abbrev zfA:Stmt:=top 11
def zea:ME:=
 (m2 iL (aA 0) (aA 1))
def zee:MO:=
 cZ [] 2 (Hk (aF (aA 0) (aF (aA 1) aB))) (gT 2 (dB (gN 0) (dB (gN 1) iR))) eK zea
def zdz:MS:=
 (bA (mC oF (aF (dZ zee) aB)))
def Yf:AA D->AB Sl:=fP 2 zdz
theorem zjj (h:FnAt K "products_sum" zfA):FD P w K mg base 1 "products_sum" (aX K 2 Yf):=
 dS (N:=["row","other"]) (k:=0) (m:=zdz) X G h λ_ _ _ _ _ _ _ hr nd=>(aU (cQ (nH rfl bn.sum' (aG (SO.se (fK [] 2 ["number","times"] rfl (Vz bn.zip' (aG (aD 0) (aG (aD 1) aL))) (λC s H fp=>(lG rfl (dU (bG 0 cF) (dU (bG 1 cF) jK)))) (λC s H fp=>fC) (λC s H fp=>(jH (aD 0) (aD 1))))) aL))))
abbrev zbR:Stmt:=Cp (top 12) 2
def zdZ:ME:=
 (Vi (Be slC slN (aA 0)) (aA 1))
def zdI:MO:=
 cZ [0] 1 (iKN (Be slC slN (aA 0))) (gN 1) eK zdZ
def zdN:ME:=
 (aA 1)
def zdX:MT:=
 (aQ (m2 zpv (aA 1) (aA 0)))
def zd6:MO:=
 cZ [1] 1 (jB (aF (mC cY (aF (m1 (fA slC slN 2) (aA 0)) aB)) aB)) (gN 1) zdX zdN
def zdx:MS:=
 (aJ (aS 1 (dZ zdI))
  (lS zd6))
def La:AA D->AB Sl:=fP 2 zdx
theorem zi5 (h:MAtC K slC "open_columns" "Slant.open_columns" zbR):MV P w K mg base 1 slC "open_columns" (aX K 1 La):=
 mvP (N:=["self","done"]) (k:=0) (m:=zdx) h λ_ _ _ _ _ _ _ hr nd=>(aT (bV 1 (SO.se (fK [0] 1 ["self","r"] rfl (Ui (Om 4 bn.oc (aD 0))) (λC s H fp=>(bG 1 cF)) (λC s H fp=>fC) (λC s H fp=>(zkw (Om 4 bn.oc (aD 0)) (aD 1))))) nd)
  (aU (tU (fK [1] 1 ["done","c"] rfl (jR bn.range' (aG (znJ bn.len' (aG (gH 2 bn.oc (aD 0)) aL)) aL)) (λC s H fp=>(bG 1 cF)) (λC s H fp=>(Dr (pT (aD 1) (aD 0)))) (λC s H fp=>(aD 1))))))
abbrev zdp:Stmt:=Cp (top 12) 1
def zf2:ME:=
 (aA 1)
def zfX:MT:=
 (Oz true (aA 1) (Be slC slN (aA 0)))
def zfZ:MO:=
 cZ [0] 1 (jB (aF (mC cY (aF (m1 (fA slC slN 1) (aA 0)) aB)) aB)) (gN 1) zfX zf2
def zgv:MS:=
 (lS zfZ)
def Iv:AA D->AB Sl:=fP 1 zgv
theorem zlE (h:MAtC K slC "open_rows" "Slant.open_rows" zdp):MV P w K mg base 1 slC "open_rows" (aX K 1 Iv):=
 mvP (N:=["self"]) (k:=0) (m:=zgv) h λ_ _ _ _ _ _ _ hr nd=>(aU (tU (fK [0] 1 ["self","r"] rfl (jR bn.range' (aG (znJ bn.len' (aG (gH 1 bn.oc (aD 0)) aL)) aL)) (λC s H fp=>(bG 1 cF)) (λC s H fp=>(Dr (zoA (aD 1) (Om 4 bn.oc (aD 0))))) (λC s H fp=>(aD 1)))))
abbrev zbO:Stmt:=Cp (top 12) 3
def zdP:ME:=
 (bN (aF (mC iU (aF (m2 bF (m2 bF (m1 (fA slC slN 0) (aA 0)) (aA 1)) (aA 2)) aB)) (aF (aA 1) (aF (aA 2) aB))))
def zdG:MT:=
 (aQ (m2 iE (m2 bF (m2 bF (m1 (fA slC slN 0) (aA 0)) (aA 1)) (aA 2)) (eC (.int 0))))
def zdK:MO:=
 cZ [0,3] 1 (bL (aA 1)) (gN 2) zdG zdP
def zdF:MS:=
 (xF 2 (dZ zdK))
def zdO:MS:=
 dA (bL (lV Iv slC slN (aA 0) aB)) (gN 3) zdF
def zec:MS:=
 (bA (qQ (mC Wa (aF (aA 2) aB)) (Ta (eC (.int 1))) Xs))
def zdu:MS:=
 (aJ (aS 1 (lV La slC slN (aA 0) aB))
  (aJ (rZ 2 (dM aB))
  (aJ zdO
  (aJ (dF (aQ (m2 bU (hW 2) (eC (.int 0))))
  (bA (eC .non))
  eG)
  zec))))
def Il:AA D->AB Sl:=fP 4 zdu
theorem zjg (md_open_columns:MV P w K mg base 1 slC "open_columns" (aX K 1 La))(md_open_rows:MV P w K mg base 1 slC "open_rows" (aX K 1 Iv))(h:MAtC K slC "least_corner" "Slant.least_corner" zbO):MV P w K mg base 2 slC "least_corner" (aX K 1 Il):=
 mvP (N:=["self","columns","corners","r"]) (k:=1) (m:=zdu) h λ_ _ _ _ _ _ _ hr nd=>(aT (bV 1 (Mv (ns:=slN) (by decide+kernel) md_open_columns hr (aD 0)) nd)
  (aT (vG 2 (lL aL) nd)
  (aT (jS hZ rfl (eP (Mv (ns := slN) (by decide +kernel) md_open_rows hr (aD 0))) (bG 3 nd)
  (aU (Mg 2 (SO.se (fK [0,3] 1 ["self","r","c"] rfl (eP (aD 1)) (λC s H fp=>(bG 2 cF)) (λC s H fp=>(Dr (tF hr.units (cW (cW (gH 0 bn.oc (aD 0)) (aD 1)) (aD 2)) aK))) (λC s H fp=>(fS (aG (Uj bn.abs' (aG (cW (cW (gH 0 bn.oc (aD 0)) (aD 1)) (aD 2)) aL)) (aG (aD 1) (aG (aD 2) aL))))))))))
  (aT (dX (iQ hr.units (jE 2 bn.len') aK)
  (aU (cQ qB))
  eM)
  (aU (cQ (zpG (zB rfl hr.units bn.min' (aG (aD 2) aL)) (zmx aK) oS)))))))
abbrev zev:Stmt:=Cp (top 12) 5
def zhM:MS:=
 (aJ (kY slC slN 0 0 1 (dW 0 (cG sU (aF (m2 bF (m1 (fA slC slN 0) (aA 0)) (aA 1)) (aF (m2 bF (m1 (fA slC slN 0) (aA 0)) (aA 2)) (aF (aA 3) aB))))))
  (kY slC slN 0 1 1 (dW 0 (cG sU (aF (m2 bF (m1 (fA slC slN 1) (aA 0)) (aA 1)) (aF (m2 bF (m1 (fA slC slN 1) (aA 0)) (aA 2)) (aF (aA 3) aB)))))))
def Ub:R->AB (Sl×R):=fG 4 zhM
theorem zm5 (zaG:FD P w K mg base 1 "taken_off" (aX K 3 sU))(h:MAtC K slC "take_row" "Slant.take_row" zev):MV P w K mg base 2 slC "take_row" (jM K 4 Ub):=
 mvG (N:=["self","r","other","times"]) (k:=1) (m:=zhM) h λ_ _ _ _ _ _ _ hr nd=>(aT (Yx 0 0 1 bn.oc (tW 0 (cK zaG hr (aG (cW (gH 0 bn.oc (aD 0)) (aD 1)) (aG (cW (gH 0 bn.oc (aD 0)) (aD 2)) (aG (aD 3) aL))) (AO:=(aO (aO (aO aZ)))))))
  (aU (Yx 0 1 1 bn.oc (tW 0 (cK zaG hr (aG (cW (gH 1 bn.oc (aD 0)) (aD 1)) (aG (cW (gH 1 bn.oc (aD 0)) (aD 2)) (aG (aD 3) aL))) (AO:=(aO (aO (aO aZ)))))))))
abbrev zca:Stmt:=Cp (top 12) 6
def zeN:ME:=
 (cG Xj (aF (aA 3) (aF (aA 0) (aF (aA 1) (aF (aA 2) aB)))))
def zeD:MO:=
 cZ [1,2,3] 1 (bL (m1 (fA slC slN 0) (aA 0))) (gN 3) eK zeN
def zel:MS:=
 (aJ (Fy slC slN 0 0 (iB 0 zeD))
  (aJ (kY slC slN 0 2 1 (dW 0 (cG sU (aF (m2 bF (m1 (fA slC slN 2) (aA 0)) (aA 1)) (aF (m2 bF (m1 (fA slC slN 2) (aA 0)) (aA 2)) (aF (aA 3) aB))))))
  (kY slC slN 0 3 2 (dW 0 (cG sU (aF (m2 bF (m1 (fA slC slN 3) (aA 0)) (aA 2)) (aF (m2 bF (m1 (fA slC slN 3) (aA 0)) (aA 1)) (aF (m1 fE (aA 3)) aB))))))))
def Rz:R->AB (Sl×R):=fG 4 zel
theorem zjT (zbF:FD P w K mg base 1 "column_taken_off" (aX K 4 Xj))(zaG:FD P w K mg base 1 "taken_off" (aX K 3 sU))(h:MAtC K slC "take_column" "Slant.take_column" zca):MV P w K mg base 2 slC "take_column" (jM K 4 Rz):=
 mvG (N:=["self","c","other","times"]) (k:=1) (m:=zel) h λ_ _ _ _ _ _ _ hr nd=>(aT (pX 0 0 bn.oc (nP 0 (fK [1,2,3] 1 ["c","other","times","row"] rfl (eP (gH 0 bn.oc (aD 0))) (λC s H fp=>(bG 3 cF)) (λC s H fp=>fC) (λC s H fp=>(cK zbF hr (aG (aD 3) (aG (aD 0) (aG (aD 1) (aG (aD 2) aL)))) (AO:=(aO (aO (aO (aO aZ))))))))))
  (aT (Yx 0 2 1 bn.oc (tW 0 (cK zaG hr (aG (cW (gH 2 bn.oc (aD 0)) (aD 1)) (aG (cW (gH 2 bn.oc (aD 0)) (aD 2)) (aG (aD 3) aL))) (AO := (aO (aO (aO aZ)))))))
  (aU (Yx 0 3 2 bn.oc (tW 0 (cK zaG hr (aG (cW (gH 3 bn.oc (aD 0)) (aD 2)) (aG (cW (gH 3 bn.oc (aD 0)) (aD 1)) (aG (uQ (aD 3)) aL))) (AO:=(aO (aO (aO aZ))))))))))
abbrev zb8:Stmt:=Cp (top 12) 4
def zeG:ME:=
 (aA 1)
def zeK:MT:=
 (aQ (m2 iE (aA 1) (aA 0)))
def zeH:MO:=
 cZ [1] 1 (bL (lV Iv slC slN (aA 0) aB)) (gN 1) zeK zeG
def zeM:ME:=
 (aA 1)
def zeO:MT:=
 (aQ (m2 iE (aA 1) (aA 0)))
def zeE:MO:=
 cZ [2] 1 (bL (lV La slC slN (aA 0) aB)) (gN 1) zeO zeM
def zeV:MS:=
 (Qn (Ci Ub slC slN 0 (aF (aA 5) (aF (aA 1) (aF (dW 0 (m2 yY (m2 bF (m2 bF (m1 (fA slC slN 0) (aA 0)) (aA 5)) (aA 2)) (m2 bF (m2 bF (m1 (fA slC slN 0) (aA 0)) (aA 1)) (aA 2)))) aB)))))
def zcv:MS:=
 dA (bL (aA 3)) (gN 5) zeV
def zeL:MS:=
 (Qn (Ci Rz slC slN 0 (aF (aA 5) (aF (aA 2) (aF (dW 0 (m2 yY (m2 bF (m2 bF (m1 (fA slC slN 0) (aA 0)) (aA 1)) (aA 5)) (m2 bF (m2 bF (m1 (fA slC slN 0) (aA 0)) (aA 1)) (aA 2)))) aB)))))
def zcr:MS:=
 dA (bL (aA 4)) (gN 5) zeL
def zeI:ME:=
 (m2 bF (m2 bF (m1 (fA slC slN 0) (aA 0)) (aA 2)) (aA 1))
def zeS:MO:=
 cZ [0,2] 1 (bL (aA 3)) (gN 2) eK zeI
def zeW:ME:=
 (m2 bF (m2 bF (m1 (fA slC slN 0) (aA 0)) (aA 1)) (aA 2))
def zeU:MO:=
 cZ [0,1] 1 (bL (aA 4)) (gN 2) eK zeW
def zen:MS:=
 (aJ (aS 3 (dZ (iB 0 zeH)))
  (aJ (aS 4 (dZ (iB 0 zeE)))
  (aJ zcv
  (aJ zcr
  (dF (Hh (tQ (aQ (dW 0 (mC Wh (aF (dZ zeS) aB))))) (tQ (aQ (dW 0 (mC Wh (aF (dZ zeU) aB))))))
  (Gs slC slN 0 1 (aA 2))
  eG)))))
def Pq:R->AB (Sl×R):=fG 6 zen
theorem zjH (md_open_columns:MV P w K mg base 1 slC "open_columns" (aX K 1 La))(md_open_rows:MV P w K mg base 1 slC "open_rows" (aX K 1 Iv))(md_take_column:MV P w K mg base 2 slC "take_column" (jM K 4 Rz))(md_take_row:MV P w K mg base 2 slC "take_row" (jM K 4 Ub))(h:MAtC K slC "clear_cross" "Slant.clear_cross" zb8):MV P w K mg base 3 slC "clear_cross" (jM K 3 Pq):=
 mvG (N:=["self","r","c","rows","columns","other"]) (k:=2) (m:=zen) h λ_ _ _ _ _ _ _ hr nd=>(aT (zl6 0 3 [1] 1 ["r","other"] rfl (eP (Mv (ns:=slN) (by decide+kernel) md_open_rows hr (aD 0))) (λC s H fp=>(bG 1 cF)) (λC s H fp=>(Dr (tF hr.units (aD 1) (aD 0)))) (λC s H fp=>(aD 1)) nd)
  (aT (zl6 0 4 [2] 1 ["c", "other"] rfl (eP (Mv (ns := slN) (by decide +kernel) md_open_columns hr (aD 0))) (λC s H fp => (bG 1 cF)) (λC s H fp => (Dr (tF hr.units (aD 1) (aD 0)))) (λC s H fp => (aD 1)) nd)
  (aT (jS hZ rfl (eP (aD 3)) (bG 5 nd)
  (aU (znd (zkV 0 (c:=slC) (ns:=slN) (by decide+kernel) md_take_row hr (aG (aD 5) (aG (aD 1) (aG (tW 0 (Fb (cW (cW (gH 0 bn.oc (aD 0)) (aD 5)) (aD 2)) (cW (cW (gH 0 bn.oc (aD 0)) (aD 1)) (aD 2)))) aL))) (cN (aO (aO (aO aZ))))))))
  (aT (jS hZ rfl (eP (aD 4)) (bG 5 nd)
  (aU (znd (zkV 0 (c:=slC) (ns:=slN) (by decide+kernel) md_take_column hr (aG (aD 5) (aG (aD 2) (aG (tW 0 (Fb (cW (cW (gH 0 bn.oc (aD 0)) (aD 1)) (aD 5)) (cW (cW (gH 0 bn.oc (aD 0)) (aD 1)) (aD 2)))) aL))) (cN (aO (aO (aO aZ))))))))
  (aU (dX (STw.st (Zt (Dv (Dj (tW 0 (zq2 rfl bn.any' (aG (SO.se (fK [0, 2] 1 ["self", "c", "other"] rfl (eP (aD 3)) (λC s H fp => (bG 2 cF)) (λC s H fp => fC) (λC s H fp => (cW (cW (gH 0 bn.oc (aD 0)) (aD 2)) (aD 1))))) aL))))) (zmO (Dv (Dj (tW 0 (zq2 rfl bn.any' (aG (SO.se (fK [0, 1] 1 ["self", "r", "other"] rfl (eP (aD 4)) (λC s H fp => (bG 2 cF)) (λC s H fp => fC) (λC s H fp => (cW (cW (gH 0 bn.oc (aD 0)) (aD 1)) (aD 2))))) aL))))))))
  (aU (nQ 0 4 1 bn.oc (aD 2)))
  eM))))))
abbrev zem:Stmt:=Cp (top 12) 0
def zgE:ME:=
 (cG Tj (aF (aR 0 (eC (.int 0))) (aF (aA 1) aB)))
def zho:MO:=
 cZ [1] 1 (bL (aR 1 (eC (.int 1)))) (gN 1) eK zgE
def zgQ:MT:=
 (aQ (m2 Ju (aA 2) (eC .non)))
def zhb:MS:=
 (aJ (Qn (Ci Pq slC slN 0 (aF (aR 2 (eC (.int 0))) (aF (aR 2 (eC (.int 1))) aB))))
  (aS 2 (dW 0 (lV Il slC slN (aA 0) aB))))
def zgJ:MS:=
 pU zgQ zhb eW
def zhJ:MS:=
 (aJ (kZ slC (slN.take 0) (slN.take 1) 0 zho)
  (aJ (kZ slC (slN.take 1) (slN.take 2) 0 (Kh Ew (aF (mC cY (aF (aR 1 (eC (.int 1))) aB)) aB)))
  (aJ (kZ slC (slN.take 2) (slN.take 3) 0 (Kh Ew (aF (aR 1 (eC (.int 0))) aB)))
  (aJ (kZ slC (slN.take 3) (slN.take 4) 0 (Kh Ew (aF (aR 1 (eC (.int 0))) aB)))
  (aJ (yJ slC (slN.take 4) slN 0)
  (aJ (aS 2 (dW 0 (lV Il slC slN (aA 0) aB)))
  zgJ))))))
def Rc:R->AB (Sl×R):=fG 3 zhJ
theorem zmv (md_clear_cross:MV P w K mg base 3 slC "clear_cross" (jM K 3 Pq))(zhw:FD P w K mg base 1 "has_row" (aX K 2 Tj))(md_least_corner:MV P w K mg base 2 slC "least_corner" (aX K 1 Il))(zco:FD P w K mg base 2 "unit_rows" (aX K 1 Ew))(h:IAtC K mg slC "Slant.__init__" zem):MkO P w K mg base 4 slC (jM K 2 Rc):=
 mkG (N:=["self","telling","corner"]) (k:=3) (m:=zhJ) h λ_ _ _ _ _ _ _ hr nd=>(aT (zin (c:=slC) (ns:=slN.take 0) 0 (slN.take 1) (bn.oc.take 1) (fK [1] 1 ["telling","places"] rfl (eP (bS 1 aK)) (λC s H fp=>(bG 1 cF)) (λC s H fp=>fC) (λC s H fp=>(cK zhw hr (aG (bS 0 aK) (aG (aD 1) aL)) (AO:=(aO (aO aZ)))))))
  (aT (zin (c := slC) (ns := slN.take 1) 0 (slN.take 2) (bn.oc.take 2) (Pb zco hr (aG (znJ bn.len' (aG (bS 1 aK) aL)) aL) (AO := (aO aZ))))
  (aT (zin (c := slC) (ns := slN.take 2) 0 (slN.take 3) (bn.oc.take 3) (Pb zco hr (aG (bS 1 aK) aL) (AO := (aO aZ))))
  (aT (zin (c := slC) (ns := slN.take 3) 0 (slN.take 4) (bn.oc.take 4) (Pb zco hr (aG (bS 1 aK) aL) (AO := (aO aZ))))
  (aT (mH (c := slC) (ns := slN.take 4) 0 slN bn.oc)
  (aT (bV 2 (tW 0 (Mv (ns := slN) (by decide +kernel) md_least_corner hr (aD 0))) nd)
  (aU (Zg eW hZ (mQ (aD 2) qB)
  (aT (znd (zkV 0 (c := slC) (ns := slN) (by decide +kernel) md_clear_cross hr (aG (bS 2 aK) (aG (bS 2 aK) aL)) (cN (aO (aO aZ)))))
  (aU (bV 2 (tW 0 (Mv (ns:=slN) (by decide+kernel) md_least_corner hr (aD 0))) nd)))))))))))
abbrev zbQ:Stmt:=Cp (top 12) 7
def zdC:MS:=
 (bA (m2 bF (m2 bF (m1 (fA slC slN 0) (aA 0)) (aA 1)) (Vi (Be slC slN (aA 0)) (aA 1))))
def Wd:AA D->AB Sl:=fP 2 zdC
theorem ziv (h:MAtC K slC "slant_number" "Slant.slant_number" zbQ):MV P w K mg base 1 slC "slant_number" (aX K 2 Wd):=
 mvP (N:=["self","r"]) (k:=0) (m:=zdC) h λ_ _ _ _ _ _ _ hr nd=>(aU (cQ (cW (cW (gH 0 bn.oc (aD 0)) (aD 1)) (zkw (Om 4 bn.oc (aD 0)) (aD 1)))))
abbrev zeb:Stmt:=top 13
def zcO:MT:=
 (aQ (m2 iE (aA 3) (eC (.int 0))))
def zc0:MS:=
 (aJ (aS 4 (m2 dY (aA 2) (aA 3)))
  (aJ (aS 2 (aA 3))
  (aS 3 (aA 4))))
def zcV:MS:=
 pU zcO zc0 eW
def zcs:MS:=
 (aJ (aS 2 (mC iU (aF (aA 0) aB)))
  (aJ (aS 3 (mC iU (aF (aA 1) aB)))
  (aJ zcV
  (tP 2))))
def Ce:AA D->AB Sl:=fP 5 zcs
theorem zhO (h:FnAt K "common_divisor" zeb):FD P w K mg base 1 "common_divisor" (aX K 2 Ce):=
 dS (N:=["number","other","first","second","left"]) (k:=0) (m:=zcs) X G h λ_ _ _ _ _ _ _ hr nd=>(aT (bV 2 (Uj bn.abs' (aG (aD 0) aL)) nd)
  (aT (bV 3 (Uj bn.abs' (aG (aD 1) aL)) nd)
  (aT (Zg eW hZ (tF hr.units (aD 3) aK)
  (aT (bV 4 (lI (aD 2) (aD 3)) nd)
  (aT (bV 2 (aD 3) nd)
  (aU (bV 3 (aD 4) nd)))))
  (aU (Js 2)))))
abbrev zi6:Stmt:=top 14
def zex:MS:=
 (bA (bN (aF (m2 yY (aA 0) (aA 2)) (aF (m2 yY (aA 1) (aA 2)) aB))))
def zhB:MS:=
 (aJ (aS 2 (cG Ce (aF (aA 0) (aF (aA 1) aB))))
  (aJ (dF (aQ (m2 pV (aA 1) (eC (.int 0))))
  (aS 2 (m1 fE (aA 2)))
  eG)
  zex))
def Qv:AA D->AB Sl:=fP 3 zhB
theorem zm6 (zaN:FD P w K mg base 1 "common_divisor" (aX K 2 Ce))(h:FnAt K "ratio_of" zi6):FD P w K mg base 2 "ratio_of" (aX K 2 Qv):=
 dS (N:=["top","bottom","divisor"]) (k:=1) (m:=zhB) X G h λ_ _ _ _ _ _ _ hr nd=>(aT (bV 2 (cK zaN hr (aG (aD 0) (aG (aD 1) aL)) (AO:=(aO (aO aZ)))) nd)
  (aT (dX (zL (aD 1) aK)
  (aU (bV 2 (uQ (aD 2)) nd))
  eM)
  (aU (cQ (fS (aG (Fb (aD 0) (aD 2)) (aG (Fb (aD 1) (aD 2)) aL)))))))
abbrev zjp:Stmt:=top 15
def zhK:MS:=
 (bA (gU (m2 Qo (aA 1) (eC (.int 1))) (m2 bU (cG Ce (aF (aA 0) (aF (aA 1) aB))) (eC (.int 1)))))
def Rv:AA D->AB Sl:=fP 2 zhK
theorem zm7 (zaN:FD P w K mg base 1 "common_divisor" (aX K 2 Ce))(h:FnAt K "is_ratio" zjp):FD P w K mg base 2 "is_ratio" (aX K 2 Rv):=
 dS (N:=["top","bottom"]) (k:=1) (m:=zhK) X G h λ_ _ _ _ _ _ _ hr nd=>(aU (cQ (Fh (Uh (aD 1) aK) (Je (uN hr.units (cK zaN hr (aG (aD 0) (aG (aD 1) aL)) (AO:=(aO (aO aZ)))) aK)))))
abbrev zgR:Stmt:=top 16
def zft:MS:=
 (aJ (aS 1 (m2 bO (m2 iL (aA 1) (aA 4)) (m2 iL (aA 3) (aA 2))))
  (aS 2 (m2 iL (aA 2) (aA 4))))
def zfr:MS:=
 dA (bL (aA 0)) (gT 2 (dB (gN 3) (dB (gN 4) iR))) zft
def zfn:MS:=
 (aJ (aS 1 (eC (.int 0)))
  (aJ (aS 2 (eC (.int 1)))
  (aJ zfr
  (bA (bN (aF (aA 1) (aF (aA 2) aB)))))))
def Nu:AA D->AB Sl:=fP 5 zfn
theorem zk1 (h:FnAt K "ratios_sum" zgR):FD P w K mg base 1 "ratios_sum" (aX K 1 Nu):=
 dS (N:=["ratios","top","bottom","more","by"]) (k:=0) (m:=zfn) X G h λ_ _ _ _ _ _ _ hr nd=>(aT (bV 1 aK nd)
  (aT (bV 2 aK nd)
  (aT (jS hZ rfl (eP (aD 0)) (lG rfl (dU (bG 3 nd) (dU (bG 4 nd) jK)))
  (aT (bV 1 (fB (jH (aD 1) (aD 4)) (jH (aD 3) (aD 2))) nd)
  (aU (bV 2 (jH (aD 2) (aD 4)) nd))))
  (aU (cQ (fS (aG (aD 1) (aG (aD 2) aL))))))))
abbrev ziM:Stmt:=top 17
def zhu:MS:=
 (bA (m2 bU (m2 dY (aR 0 (eC (.int 0))) (aR 0 (eC (.int 1)))) (eC (.int 0))))
def Oh:AA D->AB Sl:=fP 1 zhu
theorem zmQ (h:FnAt K "is_whole" ziM):FD P w K mg base 1 "is_whole" (aX K 1 Oh):=
 dS (N:=["ratio"]) (k:=0) (m:=zhu) X G h λ_ _ _ _ _ _ _ hr nd=>(aU (cQ (uN hr.units (lI (bS 0 aK) (bS 0 aK)) aK)))
abbrev zcR:Stmt:=top 18
def zcg:MT:=
 (aQ (m2 bU (m2 dY (aA 0) (aA 1)) (eC (.int 0))))
def zce:MS:=
 (Qy 1 (λi j=>i+j) (eC (.int 1)))
def zcj:MS:=
 pU zcg zce eW
def zbY:MS:=
 (aJ (aS 1 (eC (.int 2)))
  (aJ zcj
  (tP 1)))
def Xi:AA D->AB Sl:=fP 2 zbY
theorem zgt (h:FnAt K "least_no_divisor" zcR):FD P w K mg base 1 "least_no_divisor" (aX K 1 Xi):=
 dS (N:=["number","by"]) (k:=0) (m:=zbY) X G h λ_ _ _ _ _ _ _ hr nd=>(aT (bV 1 aK nd)
  (aT (Zg eW hZ (iQ hr.units (lI (aD 0) (aD 1)) aK)
  (aU (zpy 1 aK nd)))
  (aU (Js 1))))
abbrev zkk:Stmt:=top 19
def zh3:ME:=
 (cG Qv (aF (aA 1) (aF (aA 0) aB)))
def zhX:MO:=
 cZ [1] 1 (bL (aA 0)) (gN 1) eK zh3
def zjh:MS:=
 (bA (bN (aF (eC (.str "none")) (aF (mC iC (aF (dZ zhX) aB)) aB))))
def On:AA D->AB Sl:=fP 2 zjh
theorem zoH (zgq:FD P w K mg base 2 "ratio_of" (aX K 2 Qv))(h:FnAt K "none_by" zkk):FD P w K mg base 3 "none_by" (aX K 2 On):=
 dS (N:=["weights","bottom"]) (k:=2) (m:=zjh) X G h λ_ _ _ _ _ _ _ hr nd=>(aU (cQ (fS (aG sC (aG (qU bn.tuple' (aG (SO.se (fK [1] 1 ["bottom","weight"] rfl (eP (aD 0)) (λC s H fp=>(bG 1 cF)) (λC s H fp=>fC) (λC s H fp=>(cK zgq hr (aG (aD 1) (aG (aD 0) aL)) (AO:=(aO (aO aZ))))))) aL)) aL)))))
abbrev zly:Stmt:=top 20
def ziz:MS:=
 (aS 2 (cG sU (aF (aA 2) (aF (m2 bF (m1 (fA slC slN 2) (aA 1)) (Vi (Be slC slN (aA 1)) (aA 3))) (aF (m1 fE (m2 yY (aA 5) (aA 6))) aB)))))
def zju:MS:=
 (aJ (aS 5 (cG Yf (aF (aA 4) (aF (aR 0 (eC (.int 2))) aB))))
  (dF (Oz false (aA 3) (Be slC slN (aA 1)))
  (aJ (aS 6 (lV Wd slC slN (aA 1) (aF (aA 3) aB)))
  (aJ (dF (aQ (m2 iE (m2 kE (aA 5) (aA 6)) (eC (.int 0))))
  (bA (cG On (aF (aA 4) (aF (aA 6) aB))))
  eG)
  ziz))
  (dF (aQ (m2 iE (aA 5) (eC (.int 0))))
  (bA (cG On (aF (aA 4) (aF (cG Xi (aF (aA 5) aB)) aB))))
  eG)))
def zi3:MS:=
 dA (iEn (aF (m1 (fA slC slN 1) (aA 1)) aB)) (gT 2 (dB (gN 3) (dB (gN 4) iR))) zju
def zkP:MS:=
 (aJ (Kl 1 slC slN Rc (aF (aA 0) aB))
  (aJ (aS 2 (m2 fU (dZ (dM (aF (eC (.int 0)) aB))) (aR 0 (eC (.int 0)))))
  (aJ zi3
  (bA (bN (aF (eC (.str "row")) (aF (mC iC (aF (aA 2) aB)) aB)))))))
def Xm:AA D->AB Sl:=fP 7 zkP
theorem zpQ (md___init__:MkO P w K mg base 4 slC (jM K 2 Rc))(zbA:FD P w K mg base 1 "least_no_divisor" (aX K 1 Xi))(zfO:FD P w K mg base 3 "none_by" (aX K 2 On))(zcZ:FD P w K mg base 1 "products_sum" (aX K 2 Yf))(md_slant_number:MV P w K mg base 1 slC "slant_number" (aX K 2 Wd))(zaG:FD P w K mg base 1 "taken_off" (aX K 3 sU))(h:FnAt K "solved" zly):FD P w K mg base 6 "solved" (aX K 1 Xm):=
 dS (N:=["telling","slant","row","r","weights","total","number"]) (k:=5) (m:=zkP) X G h λ_ _ _ _ _ _ _ hr nd=>(aT (Ey 1 (c:=slC) (ns:=slN) md___init__ hr (aG (aD 0) aL) (cN (aO aZ)) nd)
  (aT (bV 2 (tT (SO.se (lL (aG aK aL))) (bS 0 aK)) nd)
  (aT (jS hZ rfl (zkT bn.enumerate' (aG (gH 1 bn.oc (aD 1)) aL)) (lG rfl (dU (bG 3 nd) (dU (bG 4 nd) jK)))
  (aT (bV 5 (cK zcZ hr (aG (aD 4) (aG (bS 0 aK) aL)) (AO := (aO (aO aZ)))) nd)
  (aU (dX (uV (aD 3) (Om 4 bn.oc (aD 1)))
  (aT (bV 6 (qY (ns := slN) (by decide +kernel) md_slant_number hr (aD 1) (aG (aD 3) aL) (AO := cN (aO aZ))) nd)
  (aT (dX (tF hr.units (zqg (aD 5) (aD 6)) aK)
  (aU (cQ (cK zfO hr (aG (aD 4) (aG (aD 6) aL)) (AO:=(aO (aO aZ))))))
  eM)
  (aU (bV 2 (cK zaG hr (aG (aD 2) (aG (cW (gH 2 bn.oc (aD 1)) (zkw (Om 4 bn.oc (aD 1)) (aD 3))) (aG (uQ (Fb (aD 5) (aD 6))) aL))) (AO:=(aO (aO (aO aZ))))) nd))))
  (aU (dX (tF hr.units (aD 5) aK)
  (aU (cQ (cK zfO hr (aG (aD 4) (aG (cK zbA hr (aG (aD 5) aL) (AO:=(aO aZ))) aL)) (AO:=(aO (aO aZ))))))
  eM))))))
  (aU (cQ (fS (aG sC (aG (qU bn.tuple' (aG (aD 2) aL)) aL))))))))
abbrev zh6:Stmt:=top 21
def zf0:ME:=
 (aA 2)
def zfU:MT:=
 (aQ (m2 lU (aA 0) (aA 1)))
def zga:MO:=
 cZ [2] 2 (Hk (aF (aA 0) (aF (aA 1) aB))) (gT 2 (dB (gN 1) (dB (gN 2) iR))) zfU zf0
def zgl:MS:=
 (lS zga)
def Rn:AA D->AB Sl:=fP 3 zgl
theorem zmo (h:FnAt K "ratios_at" zh6):FD P w K mg base 1 "ratios_at" (aX K 3 Rn):=
 dS (N:=["sets","ratios","place"]) (k:=0) (m:=zgl) X G h λ_ _ _ _ _ _ _ hr nd=>(aU (tU (fK [2] 2 ["place","places","ratio"] rfl (Vz bn.zip' (aG (aD 0) (aG (aD 1) aL))) (λC s H fp=>(lG rfl (dU (bG 1 cF) (dU (bG 2 cF) jK)))) (λC s H fp=>(Dr (Cf (aD 0) (aD 1)))) (λC s H fp=>(aD 2)))))
abbrev zha:Stmt:=top 22
def zfc:ME:=
 (bN (aF (m2 iL (aR 0 (eC (.int 0))) (aA 1)) (aF (aR 0 (eC (.int 1))) aB)))
def zfh:MO:=
 cZ [] 2 (Hk (aF (aA 0) (aF (aA 1) aB))) (gT 2 (dB (gN 0) (dB (gN 1) iR))) eK zfc
def ze3:MS:=
 (lS zfh)
def Qr:AA D->AB Sl:=fP 2 ze3
theorem zkv (h:FnAt K "times_sums" zha):FD P w K mg base 1 "times_sums" (aX K 2 Qr):=
 dS (N:=["ratios","sums"]) (k:=0) (m:=ze3) X G h λ_ _ _ _ _ _ _ hr nd=>(aU (tU (fK [] 2 ["ratio","total"] rfl (Vz bn.zip' (aG (aD 0) (aG (aD 1) aL))) (λC s H fp=>(lG rfl (dU (bG 0 cF) (dU (bG 1 cF) jK)))) (λC s H fp=>fC) (λC s H fp=>(fS (aG (jH (bS 0 aK) (aD 1)) (aG (bS 0 aK) aL)))))))
abbrev zgG:Stmt:=top 23
def zfg:ME:=
 (cG Rv (aF (aA 0) (aF (aA 1) aB)))
def zfG:MO:=
 cZ [] 2 (bL (aA 0)) (gT 2 (dB (gN 0) (dB (gN 1) iR))) eK zfg
def ze5:MS:=
 (bA (mC (iY λbs=>bs.all id) (aF (dZ zfG) aB)))
def Qs:AA D->AB Sl:=fP 1 ze5
theorem zkS (zgg:FD P w K mg base 2 "is_ratio" (aX K 2 Rv))(h:FnAt K "all_ratios" zgG):FD P w K mg base 3 "all_ratios" (aX K 1 Qs):=
 dS (N:=["pairs"]) (k:=2) (m:=ze5) X G h λ_ _ _ _ _ _ _ hr nd=>(aU (cQ (Qx rfl bn.all' (aG (SO.se (fK [] 2 ["top","bottom"] rfl (eP (aD 0)) (λC s H fp=>(lG rfl (dU (bG 0 cF) (dU (bG 1 cF) jK)))) (λC s H fp=>fC) (λC s H fp=>(cK zgg hr (aG (aD 0) (aG (aD 1) aL)) (AO:=(aO (aO aZ))))))) aL))))
abbrev zeF:Stmt:=top 24
def zdn:ME:=
 (cG Nu (aF (cG Rn (aF (aA 0) (aF (aA 1) (aF (aA 2) aB)))) aB))
def zda:MO:=
 cZ [2,1] 1 (jB (aF (aR 0 (eC (.int 0))) aB)) (gN 2) eK zdn
def zdf:ME:=
 (cG Oh (aF (aA 0) aB))
def zc8:MO:=
 cZ [] 1 (bL (aA 3)) (gN 0) eK zdf
def zdr:MS:=
 (bA (m1 nJ (cG Oh (aF (cG Nu (aF (cG Qr (aF (aA 1) (aF (aR 0 (eC (.int 2))) aB))) aB)) aB))))
def zdc:MS:=
 (aJ (aS 3 (dZ zda))
  (aJ (dF (tQ (aQ (mC (iY λbs => bs.all id) (aF (dZ zc8) aB))))
  (bA (eC (.bl false)))
  eG)
  zdr))
def zcL:MS:=
 (aJ (aS 2 (aR 0 (eC (.int 1))))
  (aJ (dF (jV (aQ (m2 iE (hW 1) (hW 2))) (tQ (aQ (cG Qs (aF (aA 1) aB)))))
  (bA (eC (.bl false)))
  eG)
  zdc))
def Pi:AA D->AB Sl:=fP 4 zcL
theorem zib (zeo:FD P w K mg base 3 "all_ratios" (aX K 1 Qs))(zez:FD P w K mg base 1 "is_whole" (aX K 1 Oh))(zff:FD P w K mg base 1 "ratios_at" (aX K 3 Rn))(zcH:FD P w K mg base 1 "ratios_sum" (aX K 1 Nu))(zeg:FD P w K mg base 1 "times_sums" (aX K 2 Qr))(h:FnAt K "weights_right" zeF):FD P w K mg base 4 "weights_right" (aX K 2 Pi):=
 dS (N:=["telling","weights","sets","at_places"]) (k:=3) (m:=zcL) X G h λ_ _ _ _ _ _ _ hr nd=>(aT (bV 2 (bS 0 aK) nd)
  (aT (dX (STw.st (kC (tF hr.units (jE 1 bn.len') (jE 2 bn.len')) (zpD (Dv (Dj (cK zeo hr (aG (aD 1) aL) (AO := (aO aZ))))))))
  (aU (cQ Hi))
  eM)
  (aT (ziJ 3 [2, 1] 1 ["sets", "weights", "place"] rfl (jR bn.range' (aG (bS 0 aK) aL)) (λC s H fp => (bG 2 cF)) (λC s H fp => fC) (λC s H fp => (cK zcH hr (aG (cK zff hr (aG (aD 0) (aG (aD 1) (aG (aD 2) aL))) (AO := (aO (aO (aO aZ))))) aL) (AO := (aO aZ)))) nd)
  (aT (dX (Dv (Dj (Qx rfl bn.all' (aG (SO.se (fK [] 1 ["ratio"] rfl (eP (aD 3)) (λC s H fp => (bG 0 cF)) (λC s H fp => fC) (λC s H fp => (cK zez hr (aG (aD 0) aL) (AO := (aO aZ)))))) aL))))
  (aU (cQ Hi))
  eM)
  (aU (cQ (sE (cK zez hr (aG (cK zcH hr (aG (cK zeg hr (aG (aD 1) (aG (bS 0 aK) aL)) (AO:=(aO (aO aZ)))) aL) (AO:=(aO aZ))) aL) (AO:=(aO aZ))))))))))
abbrev zfI:Stmt:=top 25
def zd5:MS:=
 (bA (gU (m2 bU (aR 1 (eC (.int 0))) (eC (.str "none"))) (cG Pi (aF (aA 0) (aF (aR 1 (eC (.int 1))) aB)))))
def Zf:MS:=
 (aJ (dF (aQ (m2 bU (aR 1 (eC (.int 0))) (eC (.str "row"))))
  (bA (cG zef (aF (aA 0) (aF (aR 1 (eC (.int 1))) aB))))
  eG)
  zd5)
def Lm:AA D->AB Sl:=fP 2 Zf
theorem ziQ (zfB:FD P w K mg base 3 "sets_hold" (aX K 2 zef))(zcw:FD P w K mg base 4 "weights_right" (aX K 2 Pi))(h:FnAt K "solved_right" zfI):FD P w K mg base 5 "solved_right" (aX K 2 Lm):=
 dS (N:=["telling","told"]) (k:=4) (m:=Zf) X G h λ_ _ _ _ _ _ _ hr nd=>(aT (dX (iQ hr.units (bS 1 aK) sC)
  (aU (cQ (cK zfB hr (aG (aD 0) (aG (bS 1 aK) aL)) (AO:=(aO (aO aZ))))))
  eM)
  (aU (cQ (Fh (uN hr.units (bS 1 aK) sC) (Je (cK zcw hr (aG (aD 0) (aG (bS 1 aK) aL)) (AO:=(aO (aO aZ)))))))))
abbrev zjc:Stmt:=top 27
def zgC:MS:=
 (aJ (aS 4 (m2 dY (m2 bO (m2 bO (m2 fU (aA 4) (eC (.int 48271))) (m2 fU (eC (.int 7919)) (aA 5))) (eC (.int 104729))) (eC (.int 2147483647))))
  (aS 3 (m2 bO (m2 fU (aA 3) (eC (.int 1048576))) (m2 dY (m2 uW (m2 dY (m2 fU (aA 4) (aA 4)) (eC (.int 2147483629))) (eC (.int 128))) (eC (.int 1048576))))))
def zhs:MS:=
 dA (jB (aF (eC (.int 50)) aB)) (gN 5) zgC
def zhp:MS:=
 (aJ (aS 3 (eC (.int 0)))
  (aJ (aS 4 (m2 bO (m2 bO (m2 dY (aA 2) (eC (.int 2147483647))) (m2 fU (eC (.int 271)) (aA 1))) (eC (.int 65537))))
  (aJ zhs
  (lS (dM (aF (aA 3) aB))))))
def zei:MS:=
 (aJ (dF (aQ (m2 Qo (aA 2) (m2 eL (eC (.int 10)) (eC (.int 18)))))
  (lS (dM (aF (m2 dY (m2 gE (aA 2) (m2 eL (eC (.int 10)) (eC (.int 18)))) (m2 fU (m2 fU (m2 fU (m2 eL (eC (.int 10)) (eC (.int 60))) (m2 eL (eC (.int 10)) (eC (.int 60)))) (m2 eL (eC (.int 10)) (eC (.int 60)))) (m2 eL (eC (.int 10)) (eC (.int 60))))) aB)))
  eG)
  zhp)
def zhD:MS:=
 (aJ (aS 2 (eC (.int 0)))
  (aJ (dF (aQ (m2 pV (aA 1) (hW 0)))
  (aS 2 (aR 0 (aA 1)))
  eG)
  zei))
def Sr:AA D->AB Sl:=fP 6 zhD
theorem zmA (h:FnAt K "_law_pot" zjc):FD P w K mg base 1 "_law_pot" (aX K 2 Sr):=
 dS (N:=["script","k","cell","great","one","turn"]) (k:=0) (m:=zhD) X G h λ_ _ _ _ _ _ _ hr nd=>(aT (bV 2 aK nd)
  (aT (dX (zL (aD 1) (jE 0 bn.len'))
  (aU (bV 2 (bS 0 (aD 1)) nd))
  eM)
  (aT (dX (Xq (aD 2) (lO aK aK))
  (aU (tU (lL (aG (lI (wU (aD 2) (lO aK aK)) (tT (tT (tT (lO aK aK) (lO aK aK)) (lO aK aK)) (lO aK aK))) aL))))
  eM)
  (aT (bV 3 aK nd)
  (aT (bV 4 (fB (fB (lI (aD 2) aK) (tT aK (aD 1))) aK) nd)
  (aT (jS hZ rfl (jR bn.range' (aG aK aL)) (bG 5 nd)
  (aT (bV 4 (lI (fB (fB (tT (aD 4) aK) (tT aK (aD 5))) aK) aK) nd)
  (aU (bV 3 (fB (tT (aD 3) aK) (lI (mL (lI (tT (aD 4) (aD 4)) aK) aK) aK)) nd))))
  (aU (tU (lL (aG (aD 3) aL))))))))))
abbrev zhT:Stmt:=top 28
def zgw:MS:=
 (aJ (aS 2 (m2 dY (aR 0 (eC (.int 0))) (aA 1)))
  (aJ (nN 0 (eC (.int 0)) (m2 uW (aR 0 (eC (.int 0))) (aA 1)))
  (tP 2)))
def dG:AA D->AA D->AB (Sl×AA D):=fM 3 zgw
theorem zlF (h:FnAt K "_law_take" zhT):FD P w K mg base 1 "_law_take" (fX K 2 dG):=
 Nq (N:=["pot","many","digit"]) (k:=0) (m:=zgw) X G h λ_ _ _ _ _ _ _ hr nd=>(aT (bV 2 (lI (bS 0 aK) (aD 1)) nd)
  (aT (zqr 0 (mL (bS 0 aK) (aD 1)) aK)
  (aU (Js 2))))
abbrev zg3:Stmt:=top 29
def zfy:MS:=
 (bA (gU (eIsI "int" (aA 0)) (m1 nJ (eIsI "bool" (aA 0)))))
def zde:AA D->AB Sl:=fP 1 zfy
theorem zkl (h:FnAt K "_law_whole" zg3):FD P w K mg base 1 "_law_whole" (aX K 1 zde):=
 dS (N:=["found"]) (k:=0) (m:=zfy) X G h λ_ _ _ _ _ _ _ hr nd=>(aU (cQ (Fh (zod "int" bn.isinstance' bn.int' (by decide+kernel) (aD 0)) (Je (sE (zod "bool" bn.isinstance' bn.bool' (by decide+kernel) (aD 0)))))))
abbrev ziD:Stmt:=top 30
def zhi:MS:=
 (dF (aQ (m2 pV (aA 2) (eC (.int 4))))
  (gB 3 (m2 gE (dC dG 0 (aF (m2 bF (bN (aF (eC (.int 2)) (aF (eC (.int 10)) (aF (eC (.int 11)) (aF (m2 eL (eC (.int 10)) (eC (.int 6))) aB))))) (aA 2)) aB)) (m2 bF (bN (aF (eC (.int 0)) (aF (eC (.int 0)) (aF (eC (.int 5)) (aF (eC (.int 0)) aB))))) (aA 2))))
  (aJ (aS 5 (m2 bO (m2 fU (m2 eL (eC (.int 10)) (eC (.int 57))) (dC dG 0 (aF (eC (.int 80)) aB))) (dC dG 0 (aF (m2 eL (eC (.int 10)) (eC (.int 6))) aB))))
  (gB 3 (m2 bF (bN (aF (aA 5) (aF (m1 fE (aA 5)) (aF (dC dG 0 (aF (eC (.int 3)) aB)) aB)))) (dC dG 0 (aF (eC (.int 3)) aB))))))
def zgS:MS:=
 dA (jB (aF (aA 1) aB)) (gN 4) zhi
def zhz:MS:=
 (aJ (aS 2 (dC dG 0 (aF (eC (.int 5)) aB)))
  (aJ (rZ 3 (dM aB))
  (aJ zgS
  (tP 3))))
def Ej:AA D->AA D->AB (Sl×AA D):=fM 6 zhz
theorem zm9 (zaj:FD P w K mg base 1 "_law_take" (fX K 2 dG))(h:FnAt K "_law_row" ziD):FD P w K mg base 2 "_law_row" (fX K 2 Ej):=
 Nq (N:=["pot","many","way","row","place","far"]) (k:=1) (m:=zhz) X G h λ_ _ _ _ _ _ _ hr nd=>(aT (bV 2 (dR 0 zaj hr (aG aK aL) (cN (aO aZ))) nd)
  (aT (vG 3 (lL aL) nd)
  (aT (jS hZ rfl (jR bn.range' (aG (aD 1) aL)) (bG 4 nd)
  (aU (dX (zL (aD 2) aK)
  (aU (De 3 (wU (dR 0 zaj hr (aG (cW (fS (aG aK (aG aK (aG aK (aG (lO aK aK) aL))))) (aD 2)) aL) (cN (aO aZ))) (cW (fS (aG aK (aG aK (aG aK (aG aK aL))))) (aD 2)))))
  (aT (bV 5 (fB (tT (lO aK aK) (dR 0 zaj hr (aG aK aL) (cN (aO aZ)))) (dR 0 zaj hr (aG (lO aK aK) aL) (cN (aO aZ)))) nd)
  (aU (De 3 (cW (fS (aG (aD 5) (aG (uQ (aD 5)) (aG (dR 0 zaj hr (aG aK aL) (cN (aO aZ))) aL)))) (dR 0 zaj hr (aG aK aL) (cN (aO aZ))))))))))
  (aU (Js 3)))))
abbrev zhZ:Stmt:=top 31
def zfY:ME:=
 (aA 1)
def zf5:MT:=
 (aQ (m2 bU (m2 uJ (m2 He (aA 0) (aA 1)) (eC (.int 1))) (eC (.int 1))))
def zgd:MO:=
 cZ [5] 1 (jB (aF (aA 1) aB)) (gN 1) zf5 zfY
def zge:ME:=
 (aA 1)
def zf7:MT:=
 (aQ (m2 pV (mC iU (aF (m2 gE (aA 1) (aA 0)) aB)) (eC (.int 2))))
def zf1:MO:=
 cZ [6] 1 (jB (aF (aA 1) aB)) (gN 1) zf7 zge
def zdA:MS:=
 (gB 2 (mC iC (aF (aA 7) aB)))
def zdw:MS:=
 (aJ (dF (aQ (m2 bU (aA 3) (eC (.int 2))))
  (aS 7 (dZ zf1))
  eG)
  zdA)
def zgb:MS:=
 (aJ (aS 5 (m2 bO (eC (.int 1)) (dC dG 0 (aF (m2 gE (m2 Jc (eC (.int 1)) (aA 1)) (eC (.int 1))) aB))))
  (aJ (aS 6 (dC dG 0 (aF (aA 1) aB)))
  (aJ (aS 7 (dZ zgd))
  (aJ (dF (aQ (m2 bU (aA 3) (eC (.int 1))))
  (aS 7 (dZ (oR (iR2 (aF (aA 6) (aF (mC (Cg iW) (aF (aA 1) (aF (m2 bO (m2 bO (aA 6) (eC (.int 2))) (dC dG 0 (aF (eC (.int 2)) aB))) aB))) aB))))))
  eG)
  zdw))))
def zf4:MS:=
 dA (jB (aF (m2 bO (eC (.int 1)) (dC dG 0 (aF (eC (.int 7)) aB))) aB)) (gN 4) zgb
def zgn:MS:=
 (aJ (rZ 2 (dM aB))
  (aJ (aS 3 (dC dG 0 (aF (eC (.int 3)) aB)))
  (aJ zf4
  (tP 2))))
def Ry:AA D->AA D->AB (Sl×AA D):=fM 8 zgn
theorem zlH (zaj:FD P w K mg base 1 "_law_take" (fX K 2 dG))(h:FnAt K "_law_sets" zhZ):FD P w K mg base 2 "_law_sets" (fX K 2 Ry):=
 Nq (N:=["pot","many","sets","way","turn","code","first","some"]) (k:=1) (m:=zgn) X G h λ_ _ _ _ _ _ _ hr nd=>(aT (vG 2 (lL aL) nd)
  (aT (bV 3 (dR 0 zaj hr (aG aK aL) (cN (aO aZ))) nd)
  (aT (jS hZ rfl (jR bn.range' (aG (fB aK (dR 0 zaj hr (aG aK aL) (cN (aO aZ)))) aL)) (bG 4 nd)
  (aT (bV 5 (fB aK (dR 0 zaj hr (aG (wU (Hd aK (aD 1)) aK) aL) (cN (aO aZ)))) nd)
  (aT (bV 6 (dR 0 zaj hr (aG (aD 1) aL) (cN (aO aZ))) nd)
  (aT (ziJ 7 [5] 1 ["code", "place"] rfl (jR bn.range' (aG (aD 1) aL)) (λC s H fp => (bG 1 cF)) (λC s H fp => (Dr (iQ hr.units (zot (Kb (aD 0) (aD 1)) aK) aK))) (λC s H fp => (aD 1)) nd)
  (aT (dX (iQ hr.units (aD 3) aK)
  (aU (bV 7 (SO.se (zqs bn.list' bn.range' (aG (aD 6) (aG (zq9 rfl bn.min' (aG (aD 1) (aG (fB (fB (aD 6) aK) (dR 0 zaj hr (aG aK aL) (cN (aO aZ)))) aL))) aL)))) nd))
  eM)
  (aT (dX (iQ hr.units (aD 3) aK)
  (aU (ziJ 7 [6] 1 ["first","place"] rfl (jR bn.range' (aG (aD 1) aL)) (λC s H fp=>(bG 1 cF)) (λC s H fp=>(Dr (zL (Uj bn.abs' (aG (wU (aD 1) (aD 0)) aL)) aK))) (λC s H fp=>(aD 1)) nd))
  eM)
  (aU (De 2 (qU bn.tuple' (aG (aD 7) aL))))))))))
  (aU (Js 2)))))
abbrev zeJ:Stmt:=top 32
def zdl:MS:=
 (aS 4 (m2 bO (aA 4) (aR 0 (aA 5))))
def zdt:MS:=
 dA (bL (aA 3)) (gN 5) zdl
def zdb:MS:=
 (aJ (aS 4 (eC (.int 0)))
  (aJ zdt
  (gB 2 (aA 4))))
def zdh:MS:=
 dA (bL (aA 1)) (gN 3) zdb
def zc4:MS:=
 (aJ (rZ 2 (dM aB))
  (aJ zdh
  (tP 2)))
def Ij:AA D->AB Sl:=fP 6 zc4
theorem zih (h:FnAt K "_law_set_sums" zeJ):FD P w K mg base 1 "_law_set_sums" (aX K 2 Ij):=
 dS (N:=["row","sets","found","some","total","place"]) (k:=0) (m:=zc4) X G h λ_ _ _ _ _ _ _ hr nd=>(aT (vG 2 (lL aL) nd)
  (aT (jS hZ rfl (eP (aD 1)) (bG 3 nd)
  (aT (bV 4 aK nd)
  (aT (jS hZ rfl (eP (aD 3)) (bG 5 nd)
  (aU (bV 4 (fB (aD 4) (bS 0 (aD 5))) nd)))
  (aU (De 2 (aD 4))))))
  (aU (Js 2))))
abbrev ziC:Stmt:=top 33
def zgD:MT:=
 (aQ (m2 Tt (aA 3) (eC (.int 0))))
def zgI:MS:=
 (oH 2 3 (aF (aA 3) (aF (m2 kE (aA 2) (aA 3)) aB)))
def zg8:MS:=
 pU zgD zgI eW
def zhL:MS:=
 (aJ (oH 2 3 (aF (mC iU (aF (aA 0) aB)) (aF (aA 1) aB)))
  (aJ zg8
  (bA (bN (aF (m2 yY (aA 0) (aA 2)) (aF (m2 yY (aA 1) (aA 2)) aB))))))
def Kp:AA D->AB Sl:=fP 4 zhL
theorem zmK (h:FnAt K "_law_low" ziC):FD P w K mg base 1 "_law_low" (aX K 2 Kp):=
 dS (N:=["top","bottom","one","other"]) (k:=0) (m:=zhL) X G h λ_ _ _ _ _ _ _ hr nd=>(aT (zqm 2 3 (by decide) rfl (aG (Uj bn.abs' (aG (aD 0) aL)) (aG (aD 1) aL)) nd)
  (aT (Zg eW hZ (Yi (aD 3) aK)
  (aU (zqm 2 3 (by decide) rfl (aG (aD 3) (aG (zqg (aD 2) (aD 3)) aL)) nd)))
  (aU (cQ (fS (aG (Fb (aD 0) (aD 2)) (aG (Fb (aD 1) (aD 2)) aL)))))))
abbrev zeT:Stmt:=top 34
def zdi:ME:=
 (cG zde (aF (aA 0) aB))
def zc9:MO:=
 cZ [] 1 (bL (aA 0)) (gN 0) eK zdi
def zdq:MS:=
 (bA (gU (m2 Tt (aR 0 (eC (.int 1))) (eC (.int 0))) (m2 bU (cG Kp (aF (aR 0 (eC (.int 0))) (aF (aR 0 (eC (.int 1))) aB))) (aA 0))))
def zc3:MS:=
 (aJ (dF (jV (tQ (aQ (eIsI "tuple" (aA 0)))) (jV (aQ (m2 iE (hW 0) (eC (.int 2)))) (tQ (aQ (mC (iY λbs => bs.all id) (aF (dZ zc9) aB))))))
  (bA (eC (.bl false)))
  eG)
  zdq)
def Yb:AA D->AB Sl:=fP 1 zc3
theorem zie (zb5:FD P w K mg base 1 "_law_low" (aX K 2 Kp))(zeh:FD P w K mg base 1 "_law_whole" (aX K 1 zde))(h:FnAt K "_law_is_ratio" zeT):FD P w K mg base 2 "_law_is_ratio" (aX K 1 Yb):=
 dS (N:=["thing"]) (k:=1) (m:=zc3) X G h λ_ _ _ _ _ _ _ hr nd=>(aT (dX (STw.st (kC (Dv (Dj (zod "tuple" bn.isinstance' bn.tuple' (by decide+kernel) (aD 0)))) (kC (tF hr.units (jE 0 bn.len') aK) (zpD (Dv (Dj (Qx rfl bn.all' (aG (SO.se (fK [] 1 ["number"] rfl (eP (aD 0)) (λC s H fp=>(bG 0 cF)) (λC s H fp=>fC) (λC s H fp=>(cK zeh hr (aG (aD 0) aL) (AO:=(aO aZ)))))) aL))))))))
  (aU (cQ Hi))
  eM)
  (aU (cQ (Fh (Rk (bS 0 aK) aK) (Je (uN hr.units (cK zb5 hr (aG (bS 0 aK) (aG (bS 0 aK) aL)) (AO:=(aO (aO aZ)))) (aD 0)))))))
abbrev zfm:Stmt:=top 35
def zdQ:MS:=
 (oH 2 3 (aF (m2 bO (m2 iL (aA 2) (aR 4 (eC (.int 1)))) (m2 iL (m2 iL (aR 4 (eC (.int 0))) (aA 5)) (aA 3))) (aF (m2 iL (aA 3) (aR 4 (eC (.int 1)))) aB)))
def zd1:MS:=
 dA (Hk (aF (aA 0) (aF (aA 1) aB))) (gT 2 (dB (gN 4) (dB (gN 5) iR))) zdQ
def zdv:MS:=
 (aJ (jZ (bN (aF (eC (.int 0)) (aF (eC (.int 1)) aB))) (gT 2 (dB (gN 2) (dB (gN 3) iR))))
  (aJ zd1
  (bA (bN (aF (aA 2) (aF (aA 3) aB))))))
def Ni:AA D->AB Sl:=fP 6 zdv
theorem zjB (h:FnAt K "_law_weighed" zfm):FD P w K mg base 1 "_law_weighed" (aX K 2 Ni):=
 dS (N:=["weights","numbers","top","bottom","weight","number"]) (k:=0) (m:=zdv) X G h λ_ _ _ _ _ _ _ hr nd=>(aT (Yj (fS (aG aK (aG aK aL))) (lG rfl (dU (bG 2 nd) (dU (bG 3 nd) jK))))
  (aT (jS hZ rfl (Vz bn.zip' (aG (aD 0) (aG (aD 1) aL))) (lG rfl (dU (bG 4 nd) (dU (bG 5 nd) jK)))
  (aU (zqm 2 3 (by decide) rfl (aG (fB (jH (aD 2) (bS 4 aK)) (jH (jH (bS 4 aK) (aD 5)) (aD 3))) (aG (jH (aD 3) (bS 4 aK)) aL)) nd)))
  (aU (cQ (fS (aG (aD 2) (aG (aD 3) aL)))))))
abbrev zdm:Stmt:=top 36
def zcy:ME:=
 (cG Yb (aF (aA 0) aB))
def zcF:MO:=
 cZ [] 1 (bL (aA 1)) (gN 0) eK zcy
def zcA:ME:=
 (mC yD (aF (m2 lU (aA 0) (aA 1)) aB))
def zcz:MO:=
 cZ [5] 1 (bL (aA 3)) (gN 1) eK zcA
def zcG:MS:=
 (aJ (jZ (cG Ni (aF (aA 1) (aF (dZ zcz) aB))) (gT 2 (dB (gN 6) (dB (gN 7) iR))))
  (dF (aQ (m2 iE (m2 dY (aA 6) (aA 7)) (eC (.int 0))))
  (bA (eC (.bl false)))
  eG))
def zcB:MS:=
 dA (jB (aF (aA 2) aB)) (gN 5) zcG
def zcE:MS:=
 (aJ zcB
  (aJ (jZ (cG Ni (aF (aA 1) (aF (aA 4) aB))) (gT 2 (dB (gN 6) (dB (gN 7) iR))))
  (bA (m2 iE (m2 dY (aA 6) (aA 7)) (eC (.int 0))))))
def zb6:MS:=
 (aJ (jZ (aA 0) (gT 3 (dB (gN 2) (dB (gN 3) (dB (gN 4) iR)))))
  (aJ (dF (jV (aQ (m2 iE (hW 1) (hW 3))) (tQ (aQ (mC (iY λbs => bs.all id) (aF (dZ zcF) aB)))))
  (bA (eC (.bl false)))
  eG)
  zcE))
def Vo:AA D->AB Sl:=fP 8 zb6
theorem zhr (zct:FD P w K mg base 2 "_law_is_ratio" (aX K 1 Yb))(zbP:FD P w K mg base 1 "_law_weighed" (aX K 2 Ni))(h:FnAt K "_law_shows_none" zdm):FD P w K mg base 3 "_law_shows_none" (aX K 2 Vo):=
 dS (N:=["telling","weights","many","sets","sums","place","top","bottom"]) (k:=2) (m:=zb6) X G h λ_ _ _ _ _ _ _ hr nd=>(aT (Yj (aD 0) (lG rfl (dU (bG 2 nd) (dU (bG 3 nd) (dU (bG 4 nd) jK)))))
  (aT (dX (STw.st (kC (tF hr.units (jE 1 bn.len') (jE 3 bn.len')) (zpD (Dv (Dj (Qx rfl bn.all' (aG (SO.se (fK [] 1 ["weight"] rfl (eP (aD 1)) (λC s H fp => (bG 0 cF)) (λC s H fp => fC) (λC s H fp => (cK zct hr (aG (aD 0) aL) (AO := (aO aZ)))))) aL)))))))
  (aU (cQ Hi))
  eM)
  (aT (jS hZ rfl (jR bn.range' (aG (aD 2) aL)) (bG 5 nd)
  (aT (Yj (cK zbP hr (aG (aD 1) (aG (SO.se (fK [5] 1 ["place", "some"] rfl (eP (aD 3)) (λC s H fp => (bG 1 cF)) (λC s H fp => fC) (λC s H fp => (pM bn.int' (aG (Vr (aD 0) (aD 1)) aL))))) aL)) (AO := (aO (aO aZ)))) (lG rfl (dU (bG 6 nd) (dU (bG 7 nd) jK))))
  (aU (dX (tF hr.units (lI (aD 6) (aD 7)) aK)
  (aU (cQ Hi))
  eM))))
  (aT (Yj (cK zbP hr (aG (aD 1) (aG (aD 4) aL)) (AO := (aO (aO aZ)))) (lG rfl (dU (bG 6 nd) (dU (bG 7 nd) jK))))
  (aU (cQ (Rw hr.units (lI (aD 6) (aD 7)) aK)))))))
abbrev zdg:Stmt:=top 37
def zcC:MS:=
 (bA (cG Vo (aF (aA 0) (aF (aR 1 (eC (.int 1))) aB))))
def Yu:MS:=
 (aJ (dF (aQ (m2 bU (aR 1 (eC (.int 0))) (eC (.str "row"))))
  (bA (gU (m2 bU (mC cY (aF (aR 1 (eC (.int 1))) aB)) (aR 0 (eC (.int 0)))) (m2 bU (cG Ij (aF (aR 1 (eC (.int 1))) (aF (aR 0 (eC (.int 1))) aB))) (dZ (oC eE (aF (aR 0 (eC (.int 2))) aB))))))
  eG)
  zcC)
def Ez:AA D->AB Sl:=fP 2 Yu
theorem zhf (zaW:FD P w K mg base 1 "_law_set_sums" (aX K 2 Ij))(zbL:FD P w K mg base 3 "_law_shows_none" (aX K 2 Vo))(h:FnAt K "_law_solved_due" zdg):FD P w K mg base 4 "_law_solved_due" (aX K 2 Ez):=
 dS (N:=["telling","told"]) (k:=3) (m:=Yu) X G h λ_ _ _ _ _ _ _ hr nd=>(aT (dX (iQ hr.units (bS 1 aK) sC)
  (aU (cQ (Fh (uN hr.units (znJ bn.len' (aG (bS 1 aK) aL)) (bS 0 aK)) (Je (uN hr.units (cK zaW hr (aG (bS 1 aK) (aG (bS 0 aK) aL)) (AO:=(aO (aO aZ)))) (SO.se (znj bn.list' (aG (bS 0 aK) aL))))))))
  eM)
  (aU (cQ (cK zbL hr (aG (aD 0) (aG (bS 1 aK) aL)) (AO:=(aO (aO aZ)))))))
abbrev ze8:Stmt:=top 38
def zd4:MS:=
 (aJ (aS 6 (dC dG 0 (aF (hW 3) aB)))
  (nN 3 (aA 6) (m2 bO (aR 3 (aA 6)) (m2 bF (bN (aF (eC (.int 1)) (aF (m1 fE (eC (.int 1))) (aF (eC (.int 2)) (aF (eC (.int 3)) (aF (eC (.int 5)) (aF (m2 eL (eC (.int 10)) (eC (.int 57))) aB))))))) (dC dG 0 (aF (eC (.int 6)) aB))))))
def zd9:MS:=
 dA (jB (aF (m2 bF (bN (aF (eC (.int 0)) (aF (eC (.int 1)) (aF (eC (.int 2)) (aF (eC (.int 0)) aB))))) (aA 4)) aB)) (gN 5) zd4
def zb7:MS:=
 (bA (bN (aF (aA 1) (aF (mC iC (aF (aA 2) aB)) (aF (mC iC (aF (aA 3) aB)) aB)))))
def zdy:MS:=
 (aJ (aS 1 (m2 bO (eC (.int 1)) (dC dG 0 (aF (eC (.int 7)) aB))))
  (aJ (aS 2 (dC Ry 0 (aF (aA 1) aB)))
  (aJ (rZ 3 (Kh Ij (aF (dC Ej 0 (aF (aA 1) aB)) (aF (aA 2) aB))))
  (aJ (aS 4 (dC dG 0 (aF (eC (.int 4)) aB)))
  (aJ zd9
  (aJ (dF (aQ (m2 bU (aA 4) (eC (.int 3))))
  (rZ 3 (znH Ej 0 (aF (hW 3) aB)))
  eG)
  zb7))))))
def Ww:AA D->AA D->AB (Sl×AA D):=fM 7 zdy
theorem ziU (zbC:FD P w K mg base 2 "_law_row" (fX K 2 Ej))(zaW:FD P w K mg base 1 "_law_set_sums" (aX K 2 Ij))(ze7:FD P w K mg base 2 "_law_sets" (fX K 2 Ry))(zaj:FD P w K mg base 1 "_law_take" (fX K 2 dG))(h:FnAt K "_law_telling" ze8):FD P w K mg base 3 "_law_telling" (fX K 1 Ww):=
 Nq (N:=["pot","many","sets","sums","way","turn","at"]) (k:=2) (m:=zdy) X G h λ_ _ _ _ _ _ _ hr nd=>(aT (bV 1 (fB aK (dR 0 zaj hr (aG aK aL) (cN (aO aZ)))) nd)
  (aT (bV 2 (dR 0 ze7 hr (aG (aD 1) aL) (cN (aO aZ))) nd)
  (aT (vG 3 (Pb zaW hr (aG (dR 0 zbC hr (aG (aD 1) aL) (cN (aO aZ))) (aG (aD 2) aL)) (AO := (aO (aO aZ)))) nd)
  (aT (bV 4 (dR 0 zaj hr (aG aK aL) (cN (aO aZ))) nd)
  (aT (jS hZ rfl (jR bn.range' (aG (cW (fS (aG aK (aG aK (aG aK (aG aK aL))))) (aD 4)) aL)) (bG 5 nd)
  (aT (bV 6 (dR 0 zaj hr (aG (jE 3 bn.len') aL) (cN (aO aZ))) nd)
  (aU (zqr 3 (fB (bS 3 (aD 6)) (cW (fS (aG aK (aG (uQ aK) (aG aK (aG aK (aG aK (aG (lO aK aK) aL))))))) (dR 0 zaj hr (aG aK aL) (cN (aO aZ))))) (aD 6)))))
  (aT (dX (iQ hr.units (aD 4) aK)
  (aU (vG 3 (sR 0 zbC hr (aG (jE 3 bn.len') aL) (cN (aO aZ))) nd))
  eM)
  (aU (cQ (fS (aG (aD 1) (aG (qU bn.tuple' (aG (aD 2) aL)) (aG (qU bn.tuple' (aG (aD 3) aL)) aL))))))))))))
abbrev zeC:Stmt:=top 39
def zbW:MS:=
 (tP 2)
def zbS:MS:=
 (aJ (dF (Hh (aQ (m2 bU (aA 5) (eC (.int 5)))) (Hh (aQ (m2 pV (aA 3) (hW 2))) (aQ (m2 pV (aA 4) (hW 2)))))
  (jZ (bN (aF (aR 2 (aA 4)) (aF (aR 2 (aA 3)) aB))) (gT 2 (dB (gS 2 (aA 3)) (dB (gS 2 (aA 4)) iR))))
  eG)
  zbW)
def zbM:MS:=
 (aJ (dF (aQ (m2 bU (aA 5) (eC (.int 4))))
  (sP 2 (dZ (dM aB)) (aA 3) (m2 bO (aA 3) (eC (.int 1))))
  eG)
  zbS)
def zbg:MS:=
 (aJ (dF (aQ (m2 bU (aA 5) (eC (.int 3))))
  (vB 2 (aF (aA 3) (aF (aA 6) aB)))
  eG)
  zbM)
def zcN:MS:=
 (aJ (rZ 2 (oC eE (aF (aA 1) aB)))
  (aJ (aS 3 (dC dG 0 (aF (m2 bO (hW 2) (eC (.int 1))) aB)))
  (aJ (aS 4 (dC dG 0 (aF (m2 bO (hW 2) (eC (.int 1))) aB)))
  (aJ (aS 5 (dC dG 0 (aF (eC (.int 6)) aB)))
  (aJ (aS 6 (m2 bF (bN (aF (eC (.int 1)) (aF (m1 fE (eC (.int 1))) (aF (m2 eL (eC (.int 10)) (eC (.int 59))) (aF (m1 fE (m2 eL (eC (.int 10)) (eC (.int 59)))) aB))))) (dC dG 0 (aF (eC (.int 4)) aB))))
  (aJ (dF (Hh (aQ (m2 pV (aA 5) (eC (.int 3)))) (aQ (m2 pV (aA 3) (hW 2))))
  (nN 2 (aA 3) (m2 bF (bN (aF (m2 gE (m2 bO (aR 2 (aA 3)) (m2 dY (aA 6) (eC (.int 7)))) (eC (.int 3))) (aF (m2 gE (m2 bO (aR 2 (aA 3)) (m2 dY (aA 6) (eC (.int 5)))) (eC (.int 2))) (aF (aA 6) aB)))) (aA 5)))
  eG)
  zbg))))))
def Vt:AA D->AA D->AB (Sl×AA D):=fM 7 zcN
theorem zh8 (zaj:FD P w K mg base 1 "_law_take" (fX K 2 dG))(h:FnAt K "_law_bent_row" zeC):FD P w K mg base 2 "_law_bent_row" (fX K 2 Vt):=
 Nq (N:=["pot","row","some","at","other","way","by"]) (k:=1) (m:=zcN) X G h λ_ _ _ _ _ _ _ hr nd=>(aT (vG 2 (znj bn.list' (aG (aD 1) aL)) nd)
  (aT (bV 3 (dR 0 zaj hr (aG (fB (jE 2 bn.len') aK) aL) (cN (aO aZ))) nd)
  (aT (bV 4 (dR 0 zaj hr (aG (fB (jE 2 bn.len') aK) aL) (cN (aO aZ))) nd)
  (aT (bV 5 (dR 0 zaj hr (aG aK aL) (cN (aO aZ))) nd)
  (aT (bV 6 (cW (fS (aG aK (aG (uQ aK) (aG (lO aK aK) (aG (uQ (lO aK aK)) aL))))) (dR 0 zaj hr (aG aK aL) (cN (aO aZ)))) nd)
  (aT (dX (STw.st (Zt (zL (aD 5) aK) (zmO (zL (aD 3) (jE 2 bn.len')))))
  (aU (zqr 2 (cW (fS (aG (wU (fB (bS 2 (aD 3)) (lI (aD 6) aK)) aK) (aG (wU (fB (bS 2 (aD 3)) (lI (aD 6) aK)) aK) (aG (aD 6) aL)))) (aD 5)) (aD 3)))
  eM)
  (aT (dX (iQ hr.units (aD 5) aK)
  (aU (Jb 2 (aG (aD 3) (aG (aD 6) aL))))
  eM)
  (aT (dX (iQ hr.units (aD 5) aK)
  (aU (An 2 (SO.se (lL aL)) (aD 3) (fB (aD 3) aK)))
  eM)
  (aT (dX (STw.st (Zt (iQ hr.units (aD 5) aK) (Zt (zL (aD 3) (jE 2 bn.len')) (zmO (zL (aD 4) (jE 2 bn.len'))))))
  (aU (Yj (fS (aG (bS 2 (aD 4)) (aG (bS 2 (aD 3)) aL))) (lG rfl (dU (oP 2 (aD 3)) (dU (oP 2 (aD 4)) jK)))))
  eM)
  (aU (Js 2)))))))))))
abbrev zcS:Stmt:=top 40
def zcd:MO:=
 (oC eE (aF (aA 0) aB))
def zch:MO:=
 (dM (aF (m2 iL (eC (.int 3)) (aA 0)) (aF (aA 1) aB)))
def zcm:MO:=
 (dM (aF (m2 iL (eC (.int 2)) (aA 0)) (aF (aA 1) aB)))
def zcc:ME:=
 (mC iC (aF (aA 0) aB))
def zcq:MO:=
 cZ [] 1 (bL (aA 2)) (gN 0) eK zcc
def zbn:MS:=
 (mW 2 (bA (mC iC (aF (dZ zcq) aB))))
def zbo:MS:=
 (aJ (dF (aQ (m2 bU (aA 4) (eC (.int 7))))
  (mW 2 (Ob 2 [] 2 (bL (aA 2)) (gL 2 (dB (gN 0) (dB (gN 1) iR))) eK zcm))
  eG)
  zbn)
def zbj:MS:=
 (aJ (dF (aQ (m2 bU (aA 4) (eC (.int 6))))
  (mW 2 (Ob 2 [] 2 (bL (aA 2)) (gL 2 (dB (gN 0) (dB (gN 1) iR))) eK zch))
  eG)
  zbo)
def zbl:MS:=
 (aJ (dF (aQ (m2 bU (aA 4) (eC (.int 5))))
  (vL 2 3 (0) (1) (dC dG 0 (aF (eC (.int 2)) aB)))
  eG)
  zbj)
def zbk:MS:=
 (aJ (dF (aQ (m2 bU (aA 4) (eC (.int 4))))
  (Lg 2 (qV 3) (dM (aF (m2 iL (eC (.int 2)) (xD 2 (qV 3) (qC (.int 0)))) (aF (m2 iL (eC (.int 2)) (xD 2 (qV 3) (qC (.int 1)))) aB))))
  eG)
  zbl)
def Zd:MS:=
 (aJ (dF (aQ (m2 bU (aA 4) (eC (.int 3))))
  (Yp 2 (qV 3) (qC (.int 1)) (m2 bF (bN (aF (m2 bO (xD 2 (qV 3) (qC (.int 1))) (eC (.int 1))) (aF (m1 fE (xD 2 (qV 3) (qC (.int 1)))) (aF (eC (.int 0)) (aF (m2 iL (eC (.int 2)) (xD 2 (qV 3) (qC (.int 1)))) aB))))) (dC dG 0 (aF (eC (.int 4)) aB))))
  eG)
  zbk)
def zbU:MS:=
 (aJ (Ob 2 [] 1 (bL (aA 1)) (gN 0) eK zcd)
  (aJ (aS 3 (dC dG 0 (aF (Yt 2) aB)))
  (aJ (aS 4 (dC dG 0 (aF (eC (.int 8)) aB)))
  (aJ (dF (aQ (m2 pV (aA 4) (eC (.int 3))))
  (Yp 2 (qV 3) (qC (.int 0)) (m2 bO (xD 2 (qV 3) (qC (.int 0))) (m2 bF (bN (aF (eC (.int 1)) (aF (m1 fE (eC (.int 1))) (aF (xD 2 (qV 3) (qC (.int 1))) aB)))) (aA 4))))
  eG)
  Zd))))
def Oc:AA D->AA D->AB (Sl×AA D):=fM 5 zbU
theorem zgo (zaj:FD P w K mg base 1 "_law_take" (fX K 2 dG))(h:FnAt K "_law_bent_ratios" zcS):FD P w K mg base 2 "_law_bent_ratios" (fX K 2 Oc):=
 Nq (N:=["pot","weights","some","at","way"]) (k:=1) (m:=zbU) X G h λ_ _ _ _ _ _ _ hr nd=>(aT (zkH 2 [] 1 ["weight"] rfl (eP (aD 1)) (λC s H fp=>(bG 0 cF)) (λC s H fp=>fC) (λC s H fp=>(znj bn.list' (aG (aD 0) aL))) nd)
  (aT (bV 3 (dR 0 zaj hr (aG (xO 2 bn.len') aL) (cN (aO aZ))) nd)
  (aT (bV 4 (dR 0 zaj hr (aG aK aL) (cN (aO aZ))) nd)
  (aT (dX (zL (aD 4) aK)
  (aU (zrb 2 (fB (Hj 2 (tM 3) vD) (cW (fS (aG aK (aG (uQ aK) (aG (Hj 2 (tM 3) vD) aL)))) (aD 4))) (tM 3) vD))
  eM)
  (aT (dX (iQ hr.units (aD 4) aK)
  (aU (zrb 2 (cW (fS (aG (fB (Hj 2 (tM 3) vD) aK) (aG (uQ (Hj 2 (tM 3) vD)) (aG aK (aG (jH aK (Hj 2 (tM 3) vD)) aL))))) (dR 0 zaj hr (aG aK aL) (cN (aO aZ)))) (tM 3) vD))
  eM)
  (aT (dX (iQ hr.units (aD 4) aK)
  (aU (Kf 2 (lL (aG (jH aK (Hj 2 (tM 3) vD)) (aG (jH aK (Hj 2 (tM 3) vD)) aL))) (tM 3)))
  eM)
  (aT (dX (iQ hr.units (aD 4) aK)
  (aU (Jq 2 3 (dR 0 zaj hr (aG aK aL) (cN (aO aZ)))))
  eM)
  (aT (dX (iQ hr.units (aD 4) aK)
  (aU (zpr 2 (zkH 2 [] 2 ["top","bottom"] rfl (eP (aD 2)) (λC s H fp=>(zpJ rfl (dU (bG 0 cF) (dU (bG 1 cF) jK)))) (λC s H fp=>fC) (λC s H fp=>(lL (aG (jH aK (aD 0)) (aG (aD 1) aL)))) nd)))
  eM)
  (aT (dX (iQ hr.units (aD 4) aK)
  (aU (zpr 2 (zkH 2 [] 2 ["top","bottom"] rfl (eP (aD 2)) (λC s H fp=>(zpJ rfl (dU (bG 0 cF) (dU (bG 1 cF) jK)))) (λC s H fp=>fC) (λC s H fp=>(lL (aG (jH aK (aD 0)) (aG (aD 1) aL)))) nd)))
  eM)
  (aU (zpr 2 (cQ (qU bn.tuple' (aG (SO.se (fK [] 1 ["weight"] rfl (eP (aD 2)) (λC s H fp=>(bG 0 cF)) (λC s H fp=>fC) (λC s H fp=>(qU bn.tuple' (aG (aD 0) aL))))) aL))))))))))))))
abbrev zhg:Stmt:=top 41
def zfi:MS:=
 (aJ (aS 2 (cG Lm (aF (aA 0) (aF (aA 1) aB))))
  (bA (gU (eIsI "bool" (aA 2)) (m2 bU (aA 2) (cG Ez (aF (aA 0) (aF (aA 1) aB)))))))
def Iy:AA D->AB Sl:=fP 3 zfi
theorem zkA (zbJ:FD P w K mg base 4 "_law_solved_due" (aX K 2 Ez))(zcP:FD P w K mg base 5 "solved_right" (aX K 2 Lm))(h:FnAt K "_law_asked" zhg):FD P w K mg base 6 "_law_asked" (aX K 2 Iy):=
 dS (N:=["telling","told","found"]) (k:=5) (m:=zfi) X G h λ_ _ _ _ _ _ _ hr nd=>(aT (bV 2 (cK zcP hr (aG (aD 0) (aG (aD 1) aL)) (AO:=(aO (aO aZ)))) nd)
  (aU (cQ (Fh (zod "bool" bn.isinstance' bn.bool' (by decide+kernel) (aD 2)) (Je (uN hr.units (aD 2) (cK zbJ hr (aG (aD 0) (aG (aD 1) aL)) (AO:=(aO (aO aZ))))))))))
abbrev Wu:Stmt:=top 42
def znq:ME:=
 (cG Kp (aF (m2 gE (dC dG 0 (aF (eC (.int 5)) aB)) (eC (.int 2))) (aF (m2 bO (eC (.int 2)) (dC dG 0 (aF (eC (.int 2)) aB))) aB)))
def zkn:MO:=
 Ae [2] 1 0 2 (bL (aR 3 (eC (.int 1)))) (gN 1) eK znq
def zlb:MS:=
 (gB 5 (bN (aF (eC (.str "none")) (aF (dC Oc 2 (aF (aA 6) aB)) aB))))
def ziq:MS:=
 (aJ (dF (aQ (m2 bU (aR 4 (eC (.int 0))) (eC (.str "row"))))
  (gB 5 (bN (aF (eC (.str "row")) (aF (mC iC (aF (dC Vt 2 (aF (aR 4 (eC (.int 1))) aB)) aB)) aB))))
  (gB 5 (bN (aF (eC (.str "none")) (aF (dC Oc 2 (aF (aR 4 (eC (.int 1))) aB)) aB)))))
  zlb)
def zof:MS:=
 dA (jB (aF (eC (.int 2)) aB)) (gN 7) ziq
def zno:ME:=
 (cG Iy (aF (aA 0) (aF (aA 1) aB)))
def znS:MO:=
 cZ [3] 1 (bL (aA 5)) (gN 1) eK zno
def znA:MS:=
 (aJ (rZ 2 (Kh Sr (aF (aA 0) (aF (aA 1) aB))))
  (aJ (aS 3 (dC Ww 2 aB))
  (aJ (aS 4 (cG Xm (aF (aA 3) aB)))
  (aJ (rZ 5 (dM (aF (aA 4) (aF (bN (aF (eC (.str "row")) (aF (mC iC (aF (dC Ej 2 (aF (aR 3 (eC (.int 0))) aB)) aB)) aB))) aB))))
  (aJ (aS 6 (mC iC (aF (dZ zkn) aB)))
  (aJ (gB 5 (bN (aF (eC (.str "none")) (aF (aA 6) aB))))
  (aJ zof
  (dF (tQ (aQ (mC (iY λbs => bs.all id) (aF (dZ znS) aB))))
  (bA (eC (.bl false)))
  eG))))))))
def znu:MS:=
 dA (jB (aF (mC (Cg oM) (aF (eC (.int 1)) (aF (mC (Cg iW) (aF (hW 0) (aF (eC (.int 8)) aB))) aB))) aB)) (gN 1) znA
def sO:MS:=
 (aJ znu
  (bA (eC (.bl true))))
def Bq:AA D->AB Sl:=fP 8 sO
theorem Gp (zer:FD P w K mg base 6 "_law_asked" (aX K 2 Iy))(zba:FD P w K mg base 2 "_law_bent_ratios" (fX K 2 Oc))(zcu:FD P w K mg base 2 "_law_bent_row" (fX K 2 Vt))(zb5:FD P w K mg base 1 "_law_low" (aX K 2 Kp))(zgp:FD P w K mg base 1 "_law_pot" (aX K 2 Sr))(zbC:FD P w K mg base 2 "_law_row" (fX K 2 Ej))(zaj:FD P w K mg base 1 "_law_take" (fX K 2 dG))(zcU:FD P w K mg base 3 "_law_telling" (fX K 1 Ww))(zjC:FD P w K mg base 6 "solved" (aX K 1 Xm))(F:Fun K "law" "law" Wu f fd):FnOk P w K mg base iJ 7 f fd ["script"] (aX K 1 Bq):=
 lawP (N:=["script","cell","pot","telling","told","papers","halves","turn"]) (k:=6) (n:=1) (m:=sO) F λ_ _ _ _ _ _ _ hr nd=>(aT (jS hZ rfl (jR bn.range' (aG (yA rfl bn.max' (aG aK (aG (zq9 rfl bn.min' (aG (jE 0 bn.len') (aG aK aL))) aL))) aL)) (bG 1 nd)
  (aT (vG 2 (Pb zgp hr (aG (aD 0) (aG (aD 1) aL)) (AO := (aO (aO aZ)))) nd)
  (aT (bV 3 (dR 2 zcU hr aL (cN aZ)) nd)
  (aT (bV 4 (cK zjC hr (aG (aD 3) aL) (AO := (aO aZ))) nd)
  (aT (vG 5 (lL (aG (aD 4) (aG (fS (aG sC (aG (qU bn.tuple' (aG (dR 2 zbC hr (aG (bS 3 aK) aL) (cN (aO aZ))) aL)) aL))) aL))) nd)
  (aT (bV 6 (qU bn.tuple' (aG (SO.se (Hl [2] 1 0 2 ["pot", "some"] rfl (eP (bS 3 aK)) (λC s H fp => (bG 1 cF)) (λC s H fp => fC) (λC s H fp => (cK zb5 hr (aG (wU (dR 0 zaj hr (aG aK aL) (cN (aO aZ))) aK) (aG (fB aK (dR 0 zaj hr (aG aK aL) (cN (aO aZ)))) aL)) (AO := (aO (aO aZ))))))) aL)) nd)
  (aT (De 5 (fS (aG sC (aG (aD 6) aL))))
  (aT (jS hZ rfl (jR bn.range' (aG aK aL)) (bG 7 nd)
  (aT (dX (iQ hr.units (bS 4 aK) sC)
  (aU (De 5 (fS (aG sC (aG (qU bn.tuple' (aG (dR 2 zcu hr (aG (bS 4 aK) aL) (cN (aO aZ))) aL)) aL)))))
  (aU (De 5 (fS (aG sC (aG (dR 2 zba hr (aG (bS 4 aK) aL) (cN (aO aZ))) aL))))))
  (aU (De 5 (fS (aG sC (aG (dR 2 zba hr (aG (aD 6) aL) (cN (aO aZ))) aL)))))))
  (aU (dX (Dv (Dj (Qx rfl bn.all' (aG (SO.se (fK [3] 1 ["telling", "paper"] rfl (eP (aD 5)) (λC s H fp => (bG 1 cF)) (λC s H fp => fC) (λC s H fp => (cK zer hr (aG (aD 0) (aG (aD 1) aL)) (AO := (aO (aO aZ))))))) aL))))
  (aU (cQ Hi))
  eM))))))))))
  (aU (cQ Hi)))
end
set_option maxHeartbeats 0 in
theorem Ki {l:W.OpenLaw}{w:World}{K:AF}{h:AK}{mg:Str->AB AC}{fa:AD}(X:K.In h)(G:h.Ns AL mg)(hfa:mg "law"=some (.ref fa))(h1:FnAt K "chosen_sum" zhk)(h2:FnAt K "set_sums" zjd)(h3:FnAt K "sets_hold" zh1)(h4:FnAt K "unit_row" zjq)(h5:FnAt K "unit_rows" zh7)(h6:FnAt K "has_row" zj5)(h7:FnAt K "taken_off" zh4)(h8:FnAt K "column_taken_off" zcY)(h9:FnAt K "products_sum" zfA)(h18:FnAt K "common_divisor" zeb)(h19:FnAt K "ratio_of" zi6)(h20:FnAt K "is_ratio" zjp)(h21:FnAt K "ratios_sum" zgR)(h22:FnAt K "is_whole" ziM)(h23:FnAt K "least_no_divisor" zcR)(h24:FnAt K "none_by" zkk)(h25:FnAt K "solved" zly)(h26:FnAt K "ratios_at" zh6)(h27:FnAt K "times_sums" zha)(h28:FnAt K "all_ratios" zgG)(h29:FnAt K "weights_right" zeF)(h30:FnAt K "solved_right" zfI)(h31:FnAt K "_law_pot" zjc)(h32:FnAt K "_law_take" zhT)(h33:FnAt K "_law_whole" zg3)(h34:FnAt K "_law_row" ziD)(h35:FnAt K "_law_sets" zhZ)(h36:FnAt K "_law_set_sums" zeJ)(h37:FnAt K "_law_low" ziC)(h38:FnAt K "_law_is_ratio" zeT)(h39:FnAt K "_law_weighed" zfm)(h40:FnAt K "_law_shows_none" zdm)(h41:FnAt K "_law_solved_due" zdg)(h42:FnAt K "_law_telling" ze8)(h43:FnAt K "_law_bent_row" zeC)(h44:FnAt K "_law_bent_ratios" zcS)(h45:FnAt K "_law_asked" zhg)(h46:FnAt K "law" Wu){C:AD}(aC:W.nsIn K AL "Slant"=some (some (.ref C)))(pg:W.plainGet K C Str.empty=true)(hd:W.hasDictIn K C=true)(po:W.plainOver K C=true)(sa:W.findIn K (.ref C) "__setattr__"=some (some (.builtin "object.__setattr__")))(mkC:W.makesIn K C=true)(kc:W.keepIn K (.ref C)=true)(znk:W.findIn K (.ref C) "block"=some none)(zi4:W.findIn K (.ref C) "weights"=some none)(zpT:W.findIn K (.ref C) "ways"=some none)(zmN:W.findIn K (.ref C) "backs"=some none)(zkF:W.findIn K (.ref C) "slants"=some none){fopen_columns:AD}{odopen_columns anopen_columns:AB AD}{slopen_columns:Array (AB AC)}{ocopen_columns kVopen_columns dcopen_columns pmopen_columns cdopen_columns ctopen_columns:AC}(aopen_columns:W.findIn K (.ref C) "open_columns"=some (some (.ref fopen_columns)))(iopen_columns:W.isFn K (.ref fopen_columns)=true)(lopen_columns:K.lookup fopen_columns=some ⟨ocopen_columns,odopen_columns,.func (W.fnOf "open_columns" "Slant.open_columns" (zbf zbR) (zaS zbR) (zaq zbR) .none kVopen_columns dcopen_columns pmopen_columns anopen_columns cdopen_columns ctopen_columns),slopen_columns⟩)(copen_columns:W.codeIn K cdopen_columns "Slant.open_columns"=true)(kopen_columns:W.keepIn K (.ref fopen_columns)=true){fopen_rows:AD}{odopen_rows anopen_rows:AB AD}{slopen_rows:Array (AB AC)}{ocopen_rows kVopen_rows dcopen_rows pmopen_rows cdopen_rows ctopen_rows:AC}(aopen_rows:W.findIn K (.ref C) "open_rows"=some (some (.ref fopen_rows)))(iopen_rows:W.isFn K (.ref fopen_rows)=true)(lopen_rows:K.lookup fopen_rows=some ⟨ocopen_rows,odopen_rows,.func (W.fnOf "open_rows" "Slant.open_rows" (zbf zdp) (zaS zdp) (zaq zdp) .none kVopen_rows dcopen_rows pmopen_rows anopen_rows cdopen_rows ctopen_rows),slopen_rows⟩)(copen_rows:W.codeIn K cdopen_rows "Slant.open_rows"=true)(kopen_rows:W.keepIn K (.ref fopen_rows)=true){fleast_corner:AD}{odleast_corner anleast_corner:AB AD}{slleast_corner:Array (AB AC)}{ocleast_corner kVleast_corner dcleast_corner pmleast_corner cdleast_corner ctleast_corner:AC}(aleast_corner:W.findIn K (.ref C) "least_corner"=some (some (.ref fleast_corner)))(ileast_corner:W.isFn K (.ref fleast_corner)=true)(lleast_corner:K.lookup fleast_corner=some ⟨ocleast_corner,odleast_corner,.func (W.fnOf "least_corner" "Slant.least_corner" (zbf zbO) (zaS zbO) (zaq zbO) .none kVleast_corner dcleast_corner pmleast_corner anleast_corner cdleast_corner ctleast_corner),slleast_corner⟩)(cleast_corner:W.codeIn K cdleast_corner "Slant.least_corner"=true)(kleast_corner:W.keepIn K (.ref fleast_corner)=true){ftake_row:AD}{odtake_row antake_row:AB AD}{sltake_row:Array (AB AC)}{octake_row kVtake_row dctake_row pmtake_row cdtake_row cttake_row:AC}(atake_row:W.findIn K (.ref C) "take_row"=some (some (.ref ftake_row)))(itake_row:W.isFn K (.ref ftake_row)=true)(ltake_row:K.lookup ftake_row=some ⟨octake_row,odtake_row,.func (W.fnOf "take_row" "Slant.take_row" (zbf zev) (zaS zev) (zaq zev) .none kVtake_row dctake_row pmtake_row antake_row cdtake_row cttake_row),sltake_row⟩)(ctake_row:W.codeIn K cdtake_row "Slant.take_row"=true)(ktake_row:W.keepIn K (.ref ftake_row)=true){ftake_column:AD}{odtake_column antake_column:AB AD}{sltake_column:Array (AB AC)}{octake_column kVtake_column dctake_column pmtake_column cdtake_column cttake_column:AC}(atake_column:W.findIn K (.ref C) "take_column"=some (some (.ref ftake_column)))(itake_column:W.isFn K (.ref ftake_column)=true)(ltake_column:K.lookup ftake_column=some ⟨octake_column,odtake_column,.func (W.fnOf "take_column" "Slant.take_column" (zbf zca) (zaS zca) (zaq zca) .none kVtake_column dctake_column pmtake_column antake_column cdtake_column cttake_column),sltake_column⟩)(ctake_column:W.codeIn K cdtake_column "Slant.take_column"=true)(ktake_column:W.keepIn K (.ref ftake_column)=true){fclear_cross:AD}{odclear_cross anclear_cross:AB AD}{slclear_cross:Array (AB AC)}{occlear_cross kVclear_cross dcclear_cross pmclear_cross cdclear_cross ctclear_cross:AC}(aclear_cross:W.findIn K (.ref C) "clear_cross"=some (some (.ref fclear_cross)))(iclear_cross:W.isFn K (.ref fclear_cross)=true)(lclear_cross:K.lookup fclear_cross=some ⟨occlear_cross,odclear_cross,.func (W.fnOf "clear_cross" "Slant.clear_cross" (zbf zb8) (zaS zb8) (zaq zb8) .none kVclear_cross dcclear_cross pmclear_cross anclear_cross cdclear_cross ctclear_cross),slclear_cross⟩)(cclear_cross:W.codeIn K cdclear_cross "Slant.clear_cross"=true)(kclear_cross:W.keepIn K (.ref fclear_cross)=true){finit:AD}{odinit aninit:AB AD}{slinit:Array (AB AC)}{ocinit kVinit dcinit pminit cdinit ctinit:AC}(ainit:W.findIn K (.ref C) "__init__"=some (some (.ref finit)))(iinit:W.isFn K (.ref finit)=true)(linit:K.lookup finit=some ⟨ocinit,odinit,.func (W.fnOf "__init__" "Slant.__init__" (zbf zem) (zaS zem) (zaq zem) .none kVinit dcinit pminit aninit cdinit ctinit),slinit⟩)(cinit:W.codeIn K cdinit "Slant.__init__"=true)(kinit:W.keepIn K (.ref finit)=true){fslant_number:AD}{odslant_number anslant_number:AB AD}{slslant_number:Array (AB AC)}{ocslant_number kVslant_number dcslant_number pmslant_number cdslant_number ctslant_number:AC}(aslant_number:W.findIn K (.ref C) "slant_number"=some (some (.ref fslant_number)))(islant_number:W.isFn K (.ref fslant_number)=true)(lslant_number:K.lookup fslant_number=some ⟨ocslant_number,odslant_number,.func (W.fnOf "slant_number" "Slant.slant_number" (zbf zbQ) (zaS zbQ) (zaq zbQ) .none kVslant_number dcslant_number pmslant_number anslant_number cdslant_number ctslant_number),slslant_number⟩)(cslant_number:W.codeIn K cdslant_number "Slant.slant_number"=true)(kslant_number:W.keepIn K (.ref fslant_number)=true)(z0:W.nsIn K AL "abs"=some none)(z1:W.nsIn K AL "all"=some none)(z2:W.nsIn K AL "any"=some none)(z3:W.nsIn K AL "bool"=some none)(z4:W.nsIn K AL "enumerate"=some none)(z5:W.nsIn K AL "int"=some none)(z6:W.nsIn K AL "isinstance"=some none)(z7:W.nsIn K AL "len"=some none)(z8:W.nsIn K AL "list"=some none)(z9:W.nsIn K AL "max"=some none)(z10:W.nsIn K AL "min"=some none)(z11:W.nsIn K AL "range"=some none)(z12:W.nsIn K AL "sum"=some none)(z13:W.nsIn K AL "tuple"=some none)(z14:W.nsIn K AL "zip"=some none):
  ∃fd:FuncData,(∀(s:AE) (v:AC),BindsTo s fd ⟨[v],[]⟩ [("script",v)])/\∀base:AK,K.In base->base.Ns AL mg->FnOk l.prog w K mg base iJ 7 fa fd ["script"] (aX K 1 Bq):=by
 have cl:Cls K C:=⟨pg,hd,po,sa⟩;have bn:BN K mg:=⟨⟨C,aC,cl,by simp only[slN,List.forall_mem_cons];exact⟨znk,zi4,zpT,zmN,zkF,λ_ m=>nomatch m⟩⟩,jL X G z0,jL X G z1,jL X G z2,jL X G z3,jL X G z4,jL X G z5,jL X G z6,jL X G z7,jL X G z8,jL X G z9,jL X G z10,jL X G z11,jL X G z12,jL X G z13,jL X G z14⟩;obtain⟨a,b,c,d,e,f,T⟩:=h46.law X G hfa;refine⟨W.fnOf "law" "law" (zbf Wu) (zaS Wu) (zaq Wu) .none a b c d e f,λs v=> .of_eq rfl,λbase _ _=>?_⟩;have zey:=zkC (P:=l.prog) (w:=w) (base:=base) X G bn h1;have zgr:=zmS (P:=l.prog) (w:=w) (base:=base) X G bn zey h2;have zfB:=zl3 (P:=l.prog) (w:=w) (base:=base) X G bn zgr h3;have zgm:=zmq (P:=l.prog) (w:=w) (base:=base) X G bn h4;have zco:=zlK (P:=l.prog) (w:=w) (base:=base) X G bn zgm h5;have zhw:=zoI (P:=l.prog) (w:=w) (base:=base) X G bn h6;have zaG:=zlp (P:=l.prog) (w:=w) (base:=base) X G bn h7;have zbF:=zgh (P:=l.prog) (w:=w) (base:=base) X G bn h8;have zcZ:=zjj (P:=l.prog) (w:=w) (base:=base) X G bn h9;have md_open_columns:=zi5 (P:=l.prog) (w:=w) (base:=base) X G bn (MAtC.mk aC cl aopen_columns iopen_columns lopen_columns copen_columns kopen_columns);have md_open_rows:=zlE (P:=l.prog) (w:=w) (base:=base) X G bn (MAtC.mk aC cl aopen_rows iopen_rows lopen_rows copen_rows kopen_rows);have md_least_corner:=zjg (P:=l.prog) (w:=w) (base:=base) X G bn md_open_columns md_open_rows (MAtC.mk aC cl aleast_corner ileast_corner lleast_corner cleast_corner kleast_corner);have md_take_row:=zm5 (P:=l.prog) (w:=w) (base:=base) X G bn zaG (MAtC.mk aC cl atake_row itake_row ltake_row ctake_row ktake_row);have md_take_column:=zjT (P:=l.prog) (w:=w) (base:=base) X G bn zbF zaG (MAtC.mk aC cl atake_column itake_column ltake_column ctake_column ktake_column);have md_clear_cross:=zjH (P:=l.prog) (w:=w) (base:=base) X G bn md_open_columns md_open_rows md_take_column md_take_row (MAtC.mk aC cl aclear_cross iclear_cross lclear_cross cclear_cross kclear_cross);have md___init__:=zmv (P:=l.prog) (w:=w) (base:=base) X G bn md_clear_cross zhw md_least_corner zco ⟨C,finit,_,aC,W.mg_of X G aC,⟨mkC,ainit,iinit,kc⟩,zpw linit cinit kinit⟩;have md_slant_number:=ziv (P:=l.prog) (w:=w) (base:=base) X G bn (MAtC.mk aC cl aslant_number islant_number lslant_number cslant_number kslant_number);have zaN:=zhO (P:=l.prog) (w:=w) (base:=base) X G bn h18;have zgq:=zm6 (P:=l.prog) (w:=w) (base:=base) X G bn zaN h19;have zgg:=zm7 (P:=l.prog) (w:=w) (base:=base) X G bn zaN h20;have zcH:=zk1 (P:=l.prog) (w:=w) (base:=base) X G bn h21;have zez:=zmQ (P:=l.prog) (w:=w) (base:=base) X G bn h22;have zbA:=zgt (P:=l.prog) (w:=w) (base:=base) X G bn h23;have zfO:=zoH (P:=l.prog) (w:=w) (base:=base) X G bn zgq h24;have zjC:=zpQ (P:=l.prog) (w:=w) (base:=base) X G bn md___init__ zbA zfO zcZ md_slant_number zaG h25;have zff:=zmo (P:=l.prog) (w:=w) (base:=base) X G bn h26;have zeg:=zkv (P:=l.prog) (w:=w) (base:=base) X G bn h27
 have zeo:=zkS (P:=l.prog) (w:=w) (base:=base) X G bn zgg h28;have zcw:=zib (P:=l.prog) (w:=w) (base:=base) X G bn zeo zez zff zcH zeg h29;have zcP:=ziQ (P:=l.prog) (w:=w) (base:=base) X G bn zfB zcw h30;have zgp:=zmA (P:=l.prog) (w:=w) (base:=base) X G bn h31;have zaj:=zlF (P:=l.prog) (w:=w) (base:=base) X G bn h32;have zeh:=zkl (P:=l.prog) (w:=w) (base:=base) X G bn h33;have zbC:=zm9 (P:=l.prog) (w:=w) (base:=base) X G bn zaj h34;have ze7:=zlH (P:=l.prog) (w:=w) (base:=base) X G bn zaj h35;have zaW:=zih (P:=l.prog) (w:=w) (base:=base) X G bn h36;have zb5:=zmK (P:=l.prog) (w:=w) (base:=base) X G bn h37;have zct:=zie (P:=l.prog) (w:=w) (base:=base) X G bn zb5 zeh h38;have zbP:=zjB (P:=l.prog) (w:=w) (base:=base) X G bn h39;have zbL:=zhr (P:=l.prog) (w:=w) (base:=base) X G bn zct zbP h40;have zbJ:=zhf (P:=l.prog) (w:=w) (base:=base) X G bn zaW zbL h41;have zcU:=ziU (P:=l.prog) (w:=w) (base:=base) X G bn zbC zaW ze7 zaj h42;have zcu:=zh8 (P:=l.prog) (w:=w) (base:=base) X G bn zaj h43;have zba:=zgo (P:=l.prog) (w:=w) (base:=base) X G bn zaj h44;have zer:=zkA (P:=l.prog) (w:=w) (base:=base) X G bn zbJ zcP h45;exact Gp X G bn zer zba zcu zb5 zgp zbC zaj zcU zjC T
theorem walk {l:W.OpenLaw}{q:AJ}{loose:AA Str}{XP:(Str->AB AC)->AK->Prop}{YP:World->AK->Prop}{d:DefRec}{K:Params->AF}(hn:l.most=some 63)(hdf:d.params.defaults=[])(hm:∀ns:AA Int,ns.length<=63->Bq [.scr ns]=some (.val (.bl true)))(hY:∀(w:World) (h:AK),YP w h->(K w.params).In h)(F : ∀ (w : World) (mg : Str -> AB AC) (fa : AD) (h : AK), (K w.params).In h -> h.Ns AL mg -> mg d.name = some (.ref fa) ->
   ∃fd:FuncData,(∀(s:AE) (u:AC),BindsTo s fd ⟨[u],[]⟩ [("script",u)])/\∀base:AK,(K w.params).In base->base.Ns AL mg->FnOk l.prog w (K w.params) mg base iJ 7 fa fd ["script"] (aX (K w.params) 1 Bq)):
  W.WalkO q loose XP YP l.row.toRowW d [] (λf vs=>PySem.call f vs):=
 L2.vX (n:=63) (k:=7) (x:="script") (CX:=λ_=>iJ) (sp:=λw=>aX (K w.params) 1 Bq) hn (by decide) hdf ⟨rfl,by decide,by decide,rfl⟩ hY F
  (λw H a ns hl _ hS=>⟨H,[.scr ns],.val (.bl true),hm ns hl,rfl,Fz.refl H,.cons ⟨a,rfl,hS⟩ .nil,λ_ _ _ _ _ _ _ rr=>rr⟩) λ_ _ _ _ _ z=>z
end Prf
set_option exponentiation.threshold 5000
namespace Prf
open L2 M PySem
variable {n r m cc t c o i a b j k K N F e a' c':Nat}{x q p y Y:Int}{ds ps:AA D}{Z l:AA Nat}{zz:Nat->Nat}{z:Nat->Nat->Nat}{f g:Nat->Int}{s:AA (Nat×Nat)}{bt:Nat->Nat->Bool}{d:D}{Q:AA (AA D)×R->Prop}{L:AA (Int×Int)}
def Bd (x:Int):Prop:= -(2^220)<x/\x<2^220
def Bds (n:Nat)(r:Nat->Int):Prop:=∀i,i<n->Bd (r i)
theorem Bds.snoc {r:Nat->Int}(h:Bds n r)(hx:Bd x):Bds (n+1) λj=>if j<n then r j else x:=λi hi=>by
 dsimp only
 split
 ·rename_i q;exact h i q
 ·exact hx
def cA (ds:AA D):Prop:=∃p:Int,ds=[.int p]
theorem fT (h:cA ds){m:Int}(h0:0<m)(h1:m<2^250):Ok (dG ds [.int m]) λr=>∃(i:Nat) (ds':AA D),(i:Int)<m/\cA ds'/\r=(.val (.int i),ds'):=by
 obtain⟨p,rfl⟩:=h;simp![↓dG,↓zgw];have m0:=Int.emod_nonneg p (Int.ne_of_gt h0);refine⟨h0,zqO h0 h1,(p%m).toNat,[.int (p/m)],?_,⟨_,rfl⟩,?_⟩
 ·have:=Int.emod_lt_of_pos p h0;lia
 ·rw[show(((p%m).toNat:Nat):Int)=p%m by lia]
theorem Ja (ns:AA Int)(k:Nat)(hk:k<64):Ok (Sr [.scr ns,.int k]) λr=>∃ds,cA ds/\r= .own ds:=by
 have last:∀c:Int,Ok (zei [.val (.scr ns),.val (.int k),.val (.int c),.emp,.emp,.emp]) λp=>∃ds a,cA ds/\p=(.ret (.own ds),a):=λc=>by
  simp![↓zei];refine⟨λ_=>⟨by decide+kernel,by decide+kernel,by decide+kernel,_,_,⟨_,rfl⟩,rfl⟩,λ_=>?_⟩;simp![↓zhp,↓zhs];refine⟨Zv (by decide),rfl,mF (λ_ ρ=>∃(a b:Int) (s5:Sl),0<=b/\b<4294967296/\ρ=[.val (.scr ns),.val (.int k),.val (.int c),.val (.int a),.val (.int b),s5]) ⟨0,_,.emp,∅,∅,rfl⟩ ?_ ?_⟩
  ·rintro i _ hi ⟨a,b,s5,b0,b1,rfl⟩;simp![↓zgC];have e1:0<=(b*48271+7919*(i:Int)+104729)%2147483647:=Int.emod_nonneg _ (by decide);have e2:(b*48271+7919*(i:Int)+104729)%2147483647<2147483647:=Int.emod_lt_of_pos _ (by decide);exact⟨Zv ∅,Zv (by decide),zqW (by decide),Zv ∅,by decide+kernel,_,_,_,e1,∅,rfl⟩
  ·rintro _ ⟨a,b,s5,_,_,rfl⟩;simp![];exact⟨_,_,⟨_,rfl⟩,rfl⟩
 simp![↓Sr,↓zhD];refine⟨λh=>?_,λh=>?_⟩
 ·rw[bI (show k<ns.length by lia)];simp![];refine(last _).mono ?_;rintro _ ⟨d,a,h,rfl⟩;simp![];exact⟨_,h,rfl⟩
 ·refine(last _).mono ?_;rintro _ ⟨d,a,h,rfl⟩;simp![];exact⟨_,h,rfl⟩
theorem zhI (h:cA ds)(n:Nat)(hn:n<=1000):Ok (Ej ds [.int n]) λx=>∃(r:Nat->Int) (ds':AA D),cA ds'/\Bds n r/\x=(.own (wI n r),ds'):=by
 simp![↓Ej,↓zhz];refine(fT h (m:=5) ∅ ∅).mono ?_;rintro _ ⟨way,d1,hw,h1,rfl⟩;simp![↓zgS];refine⟨jY ∅ ∅,mF (λi ρ=>∃(r:Nat->Int) (ds':AA D) (s4 s5:Sl),cA ds'/\Bds i r/\ρ=[.par ds',.val (.int n),.val (.int way),.own (wI i r),s4,s5]) ⟨λ_=>0,d1,_,_,h1,λj hj=>∅,rfl⟩ ?_ ?_⟩
 ·rintro i _ hi ⟨r,d2,s4,s5,h2,hb,rfl⟩;simp![↓zhi];refine⟨λhlt=>?_,λhge=>?_⟩
  ·have hw':∃(m:Int) (z:Int),0<m/\m<=1000000/\0<=z/\z<=5/\[D.int 2,D.int 10,D.int 11,D.int 1000000][way]? =some (.int m)/\[D.int 0,D.int 0,D.int 5,D.int 0][way]? =some (.int z):=by
    have:way=0\/way=1\/way=2\/way=3:=∅
    rcases this with rfl|rfl|rfl|rfl
    ·exact⟨_,_,by decide,by decide,by decide,by decide,rfl,rfl⟩
    ·exact⟨_,_,by decide,by decide,by decide,by decide,rfl,rfl⟩
    ·exact⟨_,_,by decide,by decide,by decide,by decide,rfl,rfl⟩
    ·exact⟨_,_,by decide,by decide,by decide,by decide,rfl,rfl⟩
   obtain⟨m,z,m0,m1,z0,z5,em,ez⟩:=hw';simp![em];refine(fT h2 (m:=m) m0 ∅).mono ?_;rintro _ ⟨t,d3,ht,h3,rfl⟩;simp![ez,zmJ];exact⟨∅,_,d3,_,_,h3,hb.snoc (by unfold Bd;lia),rfl⟩
  ·refine(fT h2 (m:=80) ∅ ∅).mono ?_;rintro _ ⟨a,d3,ha,h3,rfl⟩;simp![];refine⟨zqW ∅,?_⟩;refine(fT h3 (m:=1000000) ∅ ∅).mono ?_;rintro _ ⟨b,d4,hb4,h4,rfl⟩;simp![];have hf:0<=1000000000000000000000000000000000000000000000000000000000*(a:Int)+(b:Int)/\1000000000000000000000000000000000000000000000000000000000*(a:Int)+(b:Int)<80000000000000000000000000000000000000000000000000001000000:=∅
   generalize 1000000000000000000000000000000000000000000000000000000000*(a:Int)+(b:Int)=far at hf
   refine(fT h4 (m:=3) ∅ ∅).mono ?_;rintro _ ⟨c,d5,hc,h5,rfl⟩;simp![];refine(fT h5 (m:=3) ∅ ∅).mono ?_;rintro _ ⟨e,d6,he,h6,rfl⟩;have he':∃z:Int,[D.int far,D.int (-far),D.int c][e]? =some (.int z)/\Bd z:=by
    have:e=0\/e=1\/e=2:=∅
    rcases this with rfl|rfl|rfl<;>exact⟨_,rfl,by unfold Bd;lia⟩
   obtain⟨z,ez,bz⟩:=he';simp![ez,zmJ];exact⟨∅,_,d6,_,_,h6,hb.snoc bz,rfl⟩
 ·rintro _ ⟨r,d2,s4,s5,h2,hb,rfl⟩;simp![];exact⟨r,d2,h2,hb,rfl⟩
structure Rise (n c:Nat)(z:Nat->Nat):Prop where
 c1:1<=c
 cn:c<=n
 up:∀i,i+1<c->z i<z (i+1)
 lt:∀i,i<c->z i<n
abbrev bX (c:Nat)(z:Nat->Nat):AA D:=wI c λj=>((z j:Nat):Int)
theorem Pu (Z:AA Nat):Z.map (λp=>D.int (p:Nat))=bX Z.length λi=>Z.getD i 0:=by
 apply pP;intro j
 by_cases hj:j<Z.length
 ·rw[bY _ hj];simp[hj,uY]
 ·rw[fD (by simp;lia),fD (by rw[cC];lia)]
theorem zJ (h0:Z≠[])(hp:Z.Pairwise (· < ·))(hl:∀p∈Z,p<n)(hn:Z.length<=n):Rise n Z.length λi=>Z.getD i 0:=by
  refine⟨qcG.mpr h0,hn,λi hi=>?_,λi hi=>?_⟩
  . have:=List.pairwise_iff_getElem.mp hp i (i+1) ∅ hi ∅
    simp only[uY,bI (show i<Z.length by lia),bI hi,Sn];exact this
  . simp only[uY,bI hi,Sn]
    exact hl _ (Vm hi)
theorem Pg (b:Nat->Bool)(h:∃p,p<n/\b p=true):∃(c:Nat) (z:Nat->Nat),Rise n c z/\(List.range n).filterMap (λp=>if b p=true then some (D.int (p:Nat))else none)=bX c z:=by
 have e:(List.range n).filterMap (λp=>if b p=true then some (D.int (p:Nat))else none)=((List.range n).filter b).map λp=>D.int (p:Nat):=by
  rw[<-Of,<-Yl,Qa];exact Ox _ λp _=>by by_cases c:b p=true<;>simp[c,Option.guard]
 obtain⟨p,hp,hb⟩:=h;have mem:p∈(List.range n).filter b:=qag.mpr ⟨qah.mpr hp,hb⟩;refine⟨_,_,zJ (λe=>by rw[e]at mem;exact AH mem Od) (qdg _ List.pairwise_lt_range) (λq hq=>qah.mp (qag.mp hq).1) (by have:=Dl b (List.range n);simpa using this),by rw[e,Pu]⟩
theorem zn2:∀(n:Nat) (c:Nat),0<c->c<2^n->∃p,p<n/\c/2^p%2=1
 |0,c,h0,h1=>by simp at h1;lia
 |n+1,c,h0,h1=>by
  by_cases h:c%2=1
  ·exact⟨0,∅,~~~h⟩
  ·obtain⟨p,hp,e⟩:=zn2 n (c/2) ∅ (by rw[Ed]at h1;lia);exact⟨p+1,∅,by rw[Ed,Nat.mul_comm,<-Nat.div_div_eq_div_mul];exact e⟩
def eT (t:Nat)(c:Nat->Nat)(z:Nat->Nat->Nat):AA D:=wL t λi=> .tup (bX (c i) (z i))
def zqV (n:Nat)(way:Nat)(i:Nat)(ρ:R):Prop:=∃(c:Nat->Nat) (z:Nat->Nat->Nat) (ds':AA D) (s4 s5 s6 s7:Sl),cA ds'/\(∀j,j<i->Rise n (c j) (z j))/\ρ=[.par ds',.val (.int n),.own (eT i c z),.val (.int way),s4,s5,s6,s7]
section sets
variable {ds:AA D}{n way i:Nat}{c:Nat->Nat}{z:Nat->Nat->Nat}{Q:Fl×R->Prop}
theorem Pv (h:cA ds)(hi:i<100)(b:∀j,j<i->Rise n (c j) (z j))(rr:Rise n cc zz)(s4 s5 s6:Sl):
  Ok (zdA [.par ds,.val (.int n),.own (eT i c z),.val (.int way),s4,s5,s6,.val (.lst (bX cc zz))]) (Turn (zqV n way (i+1)) Q):=by
 simp![↓zdA,eT];refine⟨∅,λj=>if j<i then c j else cc,λj=>if j<i then z j else zz,ds,s4,s5,s6,.val (.lst (bX cc zz)),h,λj hj=>?_,?_⟩
 ·by_cases e:j<i
  ·simp only[e,if_true];exact b j e
  ·simp only[e,cX];exact rr
 ·rw[zpY];congr 3;refine congrArg _ (Nz λj _=>?_)
  by_cases e:j<i<;>simp only[e,if_true,cX]
theorem Uu (h:cA ds)(hi:i<100)(n7:n<=7)(b:∀j,j<i->Rise n (c j) (z j))(rr:Rise n cc zz){first:Nat}(hf:first<n)(s4 s5:Sl):
  Ok (zdw [.par ds,.val (.int n),.own (eT i c z),.val (.int way),s4,s5,.val (.int first),.val (.lst (bX cc zz))]) (Turn (zqV n way (i+1)) Q):=by
 simp![↓zdw,↓zf1];refine⟨λ_=>⟨jY ∅ ∅,∅,Sy (λρ=>∃y,ρ=[.val (.int first),y]) (λp=>if decide (iA ((p:Int)-first)<2)=true then some (D.int (p:Nat))else none) ⟨_,rfl⟩ ?_ ?_⟩,λ_=>Pv h hi b rr _ _ _⟩
 ·rintro p _ hp ⟨y,rfl⟩;simp![↓zf7,↓zge];refine⟨λe=>⟨?_,_,rfl⟩,λe=>⟨?_,_,rfl⟩⟩
  ·rw[if_pos (~~~e)]
  ·rw[if_neg (~~~e)]
 ·rintro _ ⟨y,rfl⟩;obtain⟨cc',zz',rr',e⟩:=Pg (n:=n) (λp=>decide (iA ((p:Int)-first)<2)) ⟨first,hf,by simp[iA]⟩;simp only[iN]at e;simp![e];exact Pv h hi b rr' _ _ _
end sets
theorem xU (h:cA ds){n:Nat}(n1:1<=n)(n7:n<=7):Ok (Ry ds [.int n]) λx=>∃(t:Nat) (c:Nat->Nat) (z:Nat->Nat->Nat) (ds':AA D),cA ds'/\1<=t/\t<=7/\(∀i,i<t->Rise n (c i) (z i))/\x=(.own (eT t c z),ds'):=by
 simp![↓Ry,↓zgn];refine(fT h (m:=3) ∅ ∅).mono ?_;rintro _ ⟨way,d1,hw,h1,rfl⟩;simp![↓zf4];refine(fT h1 (m:=7) ∅ ∅).mono ?_;rintro _ ⟨t,d2,ht,h2,rfl⟩;simp![show(1:Int)+(t:Int)=((1+t:Nat):Int) by lia];have p2:(2:Int)^n=((2^n:Nat):Int):=by push_cast;rfl
 have pb:1<=2^n/\2^n<=128:=⟨Nat.one_le_two_pow,Yq ∅ n7⟩;have pb2:2<=2^n:=by
  have:=Yq (show 0<2 by lia) n1;simpa using this
 refine⟨jY ∅ ∅,mF (zqV n way) ⟨λ_=>0,λ_ _=>0,d2,_,_,_,_,h2,λ_ h=>∅,rfl⟩ ?_ ?_⟩
 ·rintro i _ hi ⟨c,z,d3,s4,s5,s6,s7,h3,b,rfl⟩;simp![↓zgb,p2,Int.one_mul];refine⟨∅,?_⟩;refine(fT h3 (m:=((2^n:Nat):Int)-1) ∅ ∅).mono ?_;rintro _ ⟨code,d4,hc,h4,rfl⟩;simp![show(1:Int)+(code:Int)=((1+code:Nat):Int) by lia];refine(fT h4 (m:=(n:Int)) ∅ ∅).mono ?_;rintro _ ⟨first,d5,hf,h5,rfl⟩;simp![↓zgd];refine⟨jY ∅ ∅,∅,Sy (λρ=>∃y,ρ=[.val (.int ((1+code:Nat):Int)),y]) (λp=>if decide ((1+code)/2^p%2=1)=true then some (D.int (p:Nat))else none) ⟨_,rfl⟩ ?_ ?_⟩
  ·rintro p _ hp ⟨y,rfl⟩;have e1:((1+code:Nat):Int)/2^p=(((1+code)/2^p:Nat):Int):=by push_cast;rfl
   have e2:((((1+code)/2^p:Nat):Int)%2)=(((1+code)/2^p%2:Nat):Int):=by push_cast;rfl
   simp![↓zf5,↓zfY,e1,Xd (Int.natCast_nonneg ((1+code)/2^p)),e2];refine⟨∅,λe=>⟨?_,_,rfl⟩,λe=>⟨?_,_,rfl⟩⟩
   ·rw[if_pos ∅]
   ·rw[if_neg ∅]
  ·rintro _ ⟨y,rfl⟩;obtain⟨p,hp,ep⟩:=zn2 n (1+code) ∅ ∅;obtain⟨cc,zz,rr,e⟩:=Pg (n:=n) (λp=>decide ((1+code)/2^p%2=1)) ⟨p,hp,by simp only[iN];exact ep⟩;simp only[iN]at e;simp![e];refine⟨λ_=>?_,λ_=>?_⟩
   ·refine(fT h5 (m:=2) ∅ ∅).mono ?_;rintro _ ⟨u,d6,hu,h6,rfl⟩;have em:iW (n:Int) ((first:Int)+2+(u:Int))=((min n (first+2+u):Nat):Int):=by unfold iW;split<;>lia
    simp![em,zrf,show(((min n (first+2+u):Nat):Int)-(first:Int)).toNat=min n (first+2+u)-first by lia];refine⟨⟨jY ∅ ∅,jY ∅ ∅⟩,∅,?_⟩;have er:(wL (min n (first+2+u)-first) λk=>D.int ((first:Int)+(k:Nat)))=bX (min n (first+2+u)-first) λj=>first+j:=Nz λj _=>by push_cast;rfl
    rw[er];exact Uu h6 ∅ n7 b ⟨∅,∅,λj _=>∅,λj hj=>∅⟩ ∅ _ _
   ·exact Uu h5 ∅ n7 b rr ∅ _ _
 ·rintro _ ⟨c,z,d3,s4,s5,s6,s7,h3,b,rfl⟩;simp![];exact⟨1+t,c,z,d3,h3,∅,∅,b,rfl⟩
def gQ (c:Nat->Nat)(z:Nat->Nat->Nat)(r:Nat->Int)(i:Nat):Int:=aM (c i) λj=>r (z i j)
def dE (n t:Nat)(c:Nat->Nat)(z:Nat->Nat->Nat)(S:Nat->Int):D:= .tup [.int n,.tup (eT t c z),.tup (wI t S)]
theorem ze9 {d d2:D}{r:Nat->Int}(h:Sq d n r)(n7:n<=7)(t7:t<=7){c:Nat->Nat}(hr:∀i,i<t->Rise n (c i) (z i))(h2:eE [d2]=some (wL t λi=> .tup (bX (c i) (z i)))):Ok (Ij [d,d2]) λx=>x= .own (wI t (gQ c z r)):=by
 simp![↓Ij,↓zc4,↓zdh,h2];refine mF (λi ρ=>∃s3 s4 s5,ρ=[.val d,.val d2,.own (wI i (gQ c z r)),s3,s4,s5]) ⟨_,_,_,rfl⟩ ?_ ?_
 ·rintro i _ hi ⟨s3,s4,s5,rfl⟩;have cn:=(hr i hi).cn;simp![↓zdb,↓zdt];refine mF (λj ρ=>∃s5,ρ=[.val d,.val d2,.own (wI i (gQ c z r)),.val (.tup (bX (c i) (z i))),.val (.int (aM j λu=>r (z i u))),s5]) ⟨_,rfl⟩ ?_ ?_
  ·rintro j _ hj ⟨s5,rfl⟩;simp![↓zdl,h.ix,bY _ ((hr i hi).lt j hj)];exact⟨_,rfl⟩
  ·rintro _ ⟨s5,rfl⟩;have eq:(wI (i+1) λj=>if j<i then gQ c z r j else aM (c i) λu=>r (z i u))=wI (i+1) (gQ c z r):=Nz λj hj=>by
    by_cases e:j<i
    ·simp only[e,if_true]
    ·have:j=i:=∅
     subst this;simp only[e,cX];rfl
   simp![zmJ,eq];exact⟨∅,_,_,_,rfl⟩
 ·rintro _ ⟨s3,s4,s5,rfl⟩;simp![]
def BS (x:Int):Prop:= -(2^230)<x/\x<2^230
theorem uT (hc:c<=7)(h:∀j,j<c->Bd (f j)): -(2^223)<aM c f/\aM c f<2^223:=by
 have:∀k,k<=c-> -((k:Int)*2^220)<=aM k f/\aM k f<=(k:Int)*2^220:=by
  intro k
  induction k with
  |zero=>intro _;simp[aM]
  |succ k ih=>
   intro hk;have h1:=ih ∅;have h2:=h k ∅;unfold Bd at h2;show-(((k+1:Nat):Int)*2^220)<=aM k f+f k/\aM k f+f k<=((k+1:Nat):Int)*2^220;push_cast;lia
 have:=this c (bC c);lia
theorem yB {c:Nat->Nat}{r:Nat->Int}(n7:n<=7)(hr:∀i,i<t->Rise n (c i) (z i))(hb:Bds n r):∀i,i<t-> -(2^223)<gQ c z r i/\gQ c z r i<2^223:=λi hi=>
 uT (by have:=(hr i hi).cn;lia) λj hj=>hb _ ((hr i hi).lt j hj)
theorem zjI (h:cA ds):Ok (Ww ds []) λx=>∃(n t:Nat) (c:Nat->Nat) (z:Nat->Nat->Nat) (S:Nat->Int) (ds':AA D),cA ds'/\1<=n/\n<=7/\1<=t/\t<=7/\(∀i,i<t->Rise n (c i) (z i))/\(∀i,i<t->BS (S i))/\x=(.val (dE n t c z S),ds'):=by
 simp![↓Ww,↓zdy];refine(fT h (m:=7) ∅ ∅).mono ?_;rintro _ ⟨u,d1,hu,h1,rfl⟩;simp![show(1:Int)+(u:Int)=((1+u:Nat):Int) by lia];have n1:1<=1+u:=∅
 have n7:1+u<=7:=∅
 generalize 1+u=n at n1 n7
 refine(xU h1 n1 n7).mono ?_;rintro _ ⟨t,c,z,d2,h2,t1,t7,rr,rfl⟩;simp![];refine(zhI h2 n ∅).mono ?_;rintro _ ⟨r,d3,h3,hb,rfl⟩;simp![];refine(ze9 (Sq.lst n r) n7 t7 rr rfl).mono ?_;rintro _ rfl;simp![];refine(fT h3 (m:=4) ∅ ∅).mono ?_;rintro _ ⟨way,d4,hw,h4,rfl⟩;have bs:=yB n7 rr hb;have hw':∃k:Nat,k<=2/\[D.int 0,D.int 1,D.int 2,D.int 0][way]? =some (.int (k:Nat)):=by
  have:way=0\/way=1\/way=2\/way=3:=∅
  rcases this with rfl|rfl|rfl|rfl
  ·exact⟨0,∅,rfl⟩
  ·exact⟨1,∅,rfl⟩
  ·exact⟨2,∅,rfl⟩
  ·exact⟨0,∅,rfl⟩
 obtain⟨k,k2,ek⟩:=hw';have last:∀(S:Nat->Int) (d5:AA D) (s5 s6:Sl),cA d5->(∀i,i<t->BS (S i))->Ok (zb7 [.par d5,.val (.int n),.val (.lst (eT t c z)),.own (wI t S),.val (.int way),s5,s6]) λp=>∃S,(∀i,i<t->BS (S i))/\p=(.ret (.val (dE n t c z S)),[.par d5,.val (.int n),.val (.lst (eT t c z)),.val (.lst (wI t S)),.val (.int way),s5,s6]):=λS d5 s5 s6 h5 hs=>by
  simp![↓zb7,dE];exact⟨S,hs,rfl⟩
 simp![↓zd9,ek];refine⟨jY ∅ ∅,mF (λi ρ=>∃(S:Nat->Int) (d5:AA D) (s5 s6:Sl),cA d5/\(∀p,p<t-> -(2^223)-i*2^223<S p/\S p<2^223+i*2^223)/\ρ=[.par d5,.val (.int n),.val (.lst (eT t c z)),.own (wI t S),.val (.int way),s5,s6]) ⟨_,_,_,_,h4,λp hp=>by have:=bs p hp;lia,rfl⟩ ?_ ?_⟩
 ·rintro i _ hi ⟨S,d5,s5,s6,h5,hs,rfl⟩;simp![↓zd4];refine(fT h5 (m:=(t:Int)) ∅ ∅).mono ?_;rintro _ ⟨at',d6,ha,h6,rfl⟩;have ha':at'<t:=∅
  simp![bY _ ha',cC];refine(fT h6 (m:=6) ∅ ∅).mono ?_;rintro _ ⟨e,d7,he,h7,rfl⟩;have he':∃x:Int,-(10^57)<=x/\x<=10^57/\[D.int 1,D.int (-1),D.int 2,D.int 3,D.int 5,D.int 1000000000000000000000000000000000000000000000000000000000][e]? =some (.int x):=by
   have:e=0\/e=1\/e=2\/e=3\/e=4\/e=5:=∅
   rcases this with rfl|rfl|rfl|rfl|rfl|rfl<;>exact⟨_,by decide,by decide,rfl⟩
  obtain⟨x,x1,x2,ex⟩:=he';simp![ex,bY _ ha',cC,ha',Jd];refine⟨_,d7,_,_,h7,λp hp=>?_,rfl⟩;have p1:=hs p hp;have p2:=hs at' ha';push_cast
  by_cases q:p=at'
  ·rw[if_pos q];lia
  ·rw[if_neg q];lia
 ·rintro _ ⟨S,d5,s5,s6,h5,hs,rfl⟩;have hs':∀i,i<t->BS (S i):=λi hi=>by
   have:=hs i hi;unfold BS;lia
  simp![];refine⟨λh3=>?_,λh3=>?_⟩
  ·refine(zhI h5 t ∅).mono ?_;rintro _ ⟨r2,d6,h6,hb2,rfl⟩;simp![];refine(last r2 d6 s5 s6 h6 λi hi=>by have:=hb2 i hi;unfold Bd at this;unfold BS;lia).mono ?_;rintro _ ⟨S',hS',rfl⟩;simp![];exact⟨n,t,c,z,S',d6,h6,n1,n7,t1,t7,rr,hS',rfl⟩
  ·refine(last S d5 s5 s6 h5 hs').mono ?_;rintro _ ⟨S',hS',rfl⟩;simp![];exact⟨n,t,c,z,S',d5,h5,n1,n7,t1,t7,rr,hS',rfl⟩
abbrev Mx:=Nat->Nat->Int
def un (i j:Nat):Int:=if j=i then 1 else 0
def fO (c:Nat)(z:Nat->Nat)(p:Nat):Bool:=(List.range c).any λj=>z j==p
def cD (c:Nat->Nat)(z:Nat->Nat->Nat)(i p:Nat):Int:=if fO (c i) (z i) p then 1 else 0
theorem znc (n p:Nat)(hn:n<=100):Ok (Rj [.int n,.int p]) λx=>x= .own (wI n (un p)):=by
 simp![↓Rj,↓zhH,↓zhq];refine⟨jY ∅ ∅,∅,hX (λρ=>∃y,ρ=[.val (.int p),y]) (λj=> .int (un p j)) ⟨_,rfl⟩ ?_ ?_⟩
 ·rintro j _ hj ⟨y,rfl⟩;simp![↓zgz];refine⟨λe=>⟨?_,_,rfl⟩,λe=>⟨?_,_,rfl⟩⟩
  ·unfold un;rw[if_pos ∅]
  ·unfold un;rw[if_neg ∅]
 ·rintro _ ⟨y,rfl⟩;simp![]
theorem ze6 (n:Nat)(hn:n<=100):Ok (Ew [.int n]) λx=>x= .own (wL n λi=> .lst (wI n (un i))):=by
 simp![↓Ew,↓zgx,↓zgf];refine⟨jY ∅ ∅,∅,hX (λρ=>∃y,ρ=[.val (.int n),y]) (λi=> .lst (wI n (un i))) ⟨_,rfl⟩ ?_ ?_⟩
 ·rintro i _ hi ⟨y,rfl⟩;simp![↓zfT];refine(znc n i hn).mono ?_;rintro _ rfl;simp![];exact⟨_,rfl⟩
 ·rintro _ ⟨y,rfl⟩;simp![]
theorem zoV (n:Nat)(hn:n<=100)(c:Nat)(z:Nat->Nat):Ok (Tj [.int n,.tup (bX c z)]) λx=>x= .own (wI n λp=>if fO c z p then 1 else 0):=by
 simp![↓Tj,↓ziS,↓zhS];refine⟨jY ∅ ∅,∅,hX (λρ=>∃y,ρ=[.val (.tup (bX c z)),y]) (λp=> .int (if fO c z p then 1 else 0)) ⟨_,rfl⟩ ?_ ?_⟩
 ·rintro j _ hj ⟨y,rfl⟩;have e:lU (.int j) (.tup (bX c z))=some (.bl (fO c z j)):=by
   have e1:bX c z=((List.range c).map λi=>((z i:Nat):Int)).map .int:=by unfold bX wI wL;rw[gC];rfl
   rw[show lU (.int j) (.tup (bX c z))=lU (.int j) (.lst (bX c z))from rfl,e1,inL];congr 2;unfold fO;rw[Bj,qcX,qcZ,qci]
   constructor
   ·rintro⟨i,hi,e⟩;exact⟨i,hi,by simp;lia⟩
   ·rintro⟨i,hi,e⟩;exact⟨i,hi,by simp at e;lia⟩
  simp![↓zhW,e];refine⟨λe=>⟨?_,_,rfl⟩,λe=>⟨?_,_,rfl⟩⟩
  ·rw[if_pos e]
  ·rw[if_neg (by simp[e])]
 ·rintro _ ⟨y,rfl⟩;simp![]
theorem Pf {d1 d2:D}(h1:Sq d1 n f)(h2:Sq d2 n g)(hn:n<=100)(hq:∀j,j<n->jC q (g j)=true):Ok (sU [d1,d2,.int q]) λx=>x= .own (wI n λj=>f j-q*g j):=by
 simp![↓sU,↓zgu,↓zfV,h1.it,h2.it,Rq];refine⟨∅,hX (λρ=>∃y y2,ρ=[.val (.int q),y,y2]) (λj=> .int (f j-q*g j)) ⟨_,_,rfl⟩ ?_ ?_⟩
 ·rintro j _ hj ⟨y,y2,rfl⟩;simp![↓zf9,hq j hj];exact⟨_,_,rfl⟩
 ·rintro _ ⟨y,y2,rfl⟩;simp![]
theorem zo3 {n c:Nat}(f:Nat->Int)(x:Int)(hc:c<n):bZ (wI n f) none (some (c:Int))++[D.int x]++bZ (wI n f) (some ((c:Int)+1)) none=wI n λj=>if j=c then x else f j:=by
 rw[znG,show(c:Int)+1=((c+1:Nat):Int) by lia,znK];have e:wI n f=(wI n f).take c++(wI n f).drop c:=(List.take_append_drop c _).symm;apply pP;intro j
 by_cases hj:j<n
 ·rw[bY (λj=>D.int (if j=c then x else f j)) hj]
  by_cases h1:j<c
  ·rw[hG (by simp[cC];lia),hG (by simp[cC];lia),List.getElem?_take,if_pos h1,bY _ hj,if_neg ∅]
  ·by_cases h2:j=c
   ·subst h2;rw[hG (by simp[cC];lia),uA (by simp[cC];lia),if_pos rfl];have:j-(List.take j (wI n f)).length=0:=by simp[cC];lia
    rw[this];rfl
   ·rw[uA (by simp[cC];lia),List.getElem?_drop,if_neg h2];have:c+1+(j-((wI n f).take c++[D.int x]).length)=j:=by simp[cC];lia
    rw[this,bY _ hj]
 ·rw[fD (by simp[cC];lia),fD (by simp[cC];lia)]
theorem zgs (f:Nat->Int)(hn:n<=100)(hc:c<n)(ho:o<n)(hq:jC q (f o)=true):Ok (Xj [.lst (wI n f),.int c,.int o,.int q]) λx=>x= .val (.lst (wI n λj=>if j=c then f c-q*f o else f j)):=by
 simp![↓Xj,↓zbV,bY _ hc,bY _ ho,hq];have l1:(bZ (wI n f) none (some (c:Int))).length<=100:=by rw[znG];simp[cC];lia
 have l2:(bZ (wI n f) (some ((c:Int)+1)) none).length<=100:=by rw[show(c:Int)+1=((c+1:Nat):Int) by lia,znK];simp[cC];lia
 exact⟨∅,∅,by rw[zo3 f _ hc]⟩
theorem zjF {d1 d2:D}(h1:Sq d1 n f)(h2:Sq d2 n g)(hn:n<=100)(hq:∀j,j<n->jC (f j) (g j)=true):Ok (Yf [d1,d2]) λx=>x= .val (.int (aM n λj=>f j*g j)):=by
 simp![↓Yf,↓zdz,↓zee,h1.it,h2.it,Rq];refine⟨∅,hX (λρ=>∃y y2,ρ=[y,y2]) (λj=> .int (f j*g j)) ⟨_,_,rfl⟩ ?_ ?_⟩
 ·rintro j _ hj ⟨y,y2,rfl⟩;simp![↓zea,hq j hj];exact⟨_,_,rfl⟩
 ·rintro _ ⟨y,y2,rfl⟩;simp![zkR,zg1]
def tb (t n:Nat)(b w v k:Mx):AA (AA D):=[wL t λi=> .lst (wI n (b i)),wL t λi=> .lst (wI t (w i)),wL n λj=> .lst (wI n (v j)),wL n λj=> .lst (wI n (k j))]
def sk (s:AA (Nat×Nat)):AA Int×AA D:=(s.map λp=>((p.1:Nat):Int),s.map λp=> .int (p.2:Nat))
def opR (t:Nat)(s:AA (Nat×Nat)):AA Nat:=(List.range t).filter λr=>!(s.any λp=>p.1==r)
def opC (n:Nat)(s:AA (Nat×Nat)):AA Nat:=(List.range n).filter λc=>!(s.any λp=>p.2==c)
abbrev oD (t n:Nat)(b w v k:Mx)(s:AA (Nat×Nat)):D:=obD slC slN (tb t n b w v k) (sk s)
theorem kU (s:AA (Nat×Nat))(r:Nat):jD (sk s).1 (sk s).2 (r:Int)=(s.find? λp=>p.1==r).map λp=> .int (p.2:Nat):=by
 unfold sk
 induction s with
 |nil=>rfl
 |cons p s ih=>
  show(if((p.1:Nat):Int)=r then some (D.int (p.2:Nat))else jD (s.map λp=>((p.1:Nat):Int)) (s.map λp=> .int (p.2:Nat)) r)=_;rw[Jf]
  by_cases h:p.1=r
  ·rw[if_pos ∅,show(p.1==r)=true by simp[h]];rfl
  ·rw[if_neg ∅,show(p.1==r)=false by simp[h]];exact ih
theorem Yc (s:AA (Nat×Nat))(r:Nat):(jD (sk s).1 (sk s).2 (r:Int)).isSome=s.any λp=>p.1==r:=by
 rw[kU,Option.isSome_map]
 induction s with
 |nil=>rfl
 |cons p s ih=>
  rw[Jf,wJ];cases p.1==r<;>simp_all
theorem rK (n:Nat)(b:Nat->Bool):(List.range n).filterMap (λp=>if b p=true then some (D.int (p:Nat))else none)=((List.range n).filter b).map λp=>D.int (p:Nat):=by
 rw[<-Of,<-Yl,Qa];exact Ox _ λp _=>by by_cases c:b p=true<;>simp[c,Option.guard]
section
variable {t n:Nat}{b w v k:Mx}{s:AA (Nat×Nat)}
theorem zhQ (ht:t<=100):Ok (Iv [oD t n b w v k s]) λx=>x= .own ((opR t s).map λr=> .int (r:Nat)):=by
 simp![↓Iv,↓zgv,↓zfZ,tb];refine⟨jY ∅ ∅,∅,Sy (λρ=>∃y,ρ=[.val (oD t n b w v k s),y]) (λr=>if(!(s.any λp=>p.1==r))=true then some (D.int (r:Nat))else none) ⟨_,rfl⟩ ?_ ?_⟩
 ·rintro r _ hr ⟨y,rfl⟩;simp![↓zfX,↓zf2,Yc];cases h:s.any λp=>p.1==r
  ·simp![];exactλ_=>⟨_,rfl⟩
  ·simp![];exact⟨λh=>AH trivial h,_,rfl⟩
 ·rintro _ ⟨y,rfl⟩;simp![rK]
  rfl
theorem zi8 (hd:s.Pairwise λp q=>p.1≠q.1){p:Nat×Nat}(h:p∈s):(s.find? λq=>q.1==p.1)=some p:=by
 induction s with
 |nil=>exact AH h Od
 |cons q s ih=>
  rw[List.pairwise_cons]at hd;rw[Jf];rcases qap.mp h with rfl|h
  ·simp
  ·rw[show(q.1==p.1)=false by rw[qab];exact hd.1 p h];exact ih hd.2 h
theorem zfJ (hn:n<=100)(hs:s.length<=100)(hd:s.Pairwise λp q=>p.1≠q.1):Ok (La [oD t n b w v k s]) λx=>x= .own ((opC n s).map λr=> .int (r:Nat)):=by
 simp![↓La,↓zdx,↓zdI,↓zd6,tb];refine⟨by simp[sk];lia,?_⟩;have e1:(sk s).1.map D.int=s.map λp=>D.int (p.1:Nat):=by unfold sk;rw[gC];rfl
 rw[e1];refine Zx (enc:=λp:Nat×Nat=>D.int (p.1:Nat)) (λρ=>∃y,ρ=[.val (oD t n b w v k s),y]) (λp=> .int (p.2:Nat)) ⟨_,rfl⟩ ?_ ?_
 ·rintro p _ hp ⟨y,rfl⟩;simp![↓zdZ,kU,zi8 hd hp];exact⟨_,rfl⟩
 ·rintro _ ⟨y,rfl⟩;simp![cC,tb];have e2:(s.map λp=>D.int (p.2:Nat))=(s.map λp=>((p.2:Nat):Int)).map .int:=by rw[gC];rfl
  refine⟨jY ∅ ∅,∅,Sy (λρ=>∃y,ρ=[.val (.lst (s.map λp=>D.int (p.2:Nat))),y]) (λc=>if(!(s.any λp=>p.2==c))=true then some (D.int (c:Nat))else none) ⟨_,rfl⟩ ?_ ?_⟩
  ·rintro c _ hc ⟨y,rfl⟩;have e3:(s.map λp=>((p.2:Nat):Int)).contains (c:Int)=s.any λp=>p.2==c:=by
    rw[Bj,qcX,qcZ,qci]
    constructor
    ·rintro⟨p,hp,e⟩;exact⟨p,hp,by simp;lia⟩
    ·rintro⟨p,hp,e⟩;exact⟨p,hp,by simp at e;lia⟩
   simp![↓zdX,↓zdN,e2,Lp,e3];cases h:s.any λp=>p.2==c
   ·simp![];exact⟨_,rfl⟩
   ·simp![];exact⟨_,rfl⟩
  ·rintro _ ⟨y,rfl⟩;simp![rK]
   rfl
end
abbrev Lr (n:Nat)(fs:AA (Nat->Int)):AA D:=fs.map λf=> .tup (wI n f)
def LeR3 (n:Nat)(a b:Nat->Int):Prop:=∀q,q<n->(∀p,p<q->a p=b p)->a q<=b q
theorem pB:∀a:AA Int,HT.eR a a=false
 |[]=>rfl
 |x::xs=>by
  show(if x=x then HT.eR xs xs else decide (x<x))=false;rw[if_pos rfl];exact pB xs
theorem lt_trans:∀{a b c:AA Int},HT.eR a b=true->HT.eR b c=true->HT.eR a c=true
 |[],[],_,h,_=>by cases h
 |[],_::_,[],_,h=>by cases h
 |[],_::_,_::_,_,_=>rfl
 |_::_,[],_,h,_=>by cases h
 |_::_,_::_,[],_,h=>by cases h
 |x::xs,y::ys,z::zs,h1,h2=>by
  have h1:(if x=y then HT.eR xs ys else decide (x<y))=true:=h1;have h2:(if y=z then HT.eR ys zs else decide (y<z))=true:=h2;show(if x=z then HT.eR xs zs else decide (x<z))=true
  by_cases e1:x=y
  ·subst e1;rw[if_pos rfl]at h1
   by_cases e2:x=z
   ·subst e2;rw[if_pos rfl]at h2 ⊢;exact lt_trans h1 h2
   ·rw[if_neg e2]at h2 ⊢;exact h2
  ·rw[if_neg e1]at h1;have h1:=Ss h1
   by_cases e2:y=z
   ·subst e2;rw[if_neg e1];exact gW h1
   ·rw[if_neg e2]at h2;have h2:=Ss h2;rw[if_neg ∅];exact gW ∅
theorem zhE (irr:∀i,bt i i=false)(tr:∀i j l,bt i j=true->bt j l=true->bt i l=true):∀m j,j<=m->bt j (argBest bt m)=false
 |0,j,h=>by
  have:j=0:=∅
  subst this;exact irr 0
 |m+1,j,h=>by
  show bt j (if bt (m+1) (argBest bt m)then m+1 else argBest bt m)=false
  by_cases c:bt (m+1) (argBest bt m)=true
  ·rw[if_pos c]
   by_cases e:j=m+1
   ·subst e;exact irr _
   ·cases q:bt j (m+1)with
    |false=>rfl
    |true=>
     have:=tr _ _ _ q c;rw[zhE irr tr m j ∅]at this;cases this
  ·rw[if_neg c]
   by_cases e:j=m+1
   ·subst e;simpa using c
   ·exact zhE irr tr m j ∅
theorem Dz:∀{a b:AA Int},a.length=b.length->HT.eR a b=false->∀(q:Nat) (x y:Int),a[q]? =some x->b[q]? =some y->(∀(p:Nat) (u v:Int),p<q->a[p]? =some u->b[p]? =some v->u=v)->y<=x
 |[],[],_,_,q,x,y,h,_,_=>by simp at h
 |x::xs,y::ys,hl,h,q,u,v,hu,hv,he=>by
  have h:(if x=y then HT.eR xs ys else decide (x<y))=false:=h
  by_cases e:x=y
  ·subst e;rw[if_pos rfl]at h;cases q with
   |zero=>simp at hu hv;lia
   |succ q=>exact Dz (~~~hl) h q u v (~~~hu) (~~~hv) λp u v hp h1 h2=>he (p+1) u v ∅ (~~~h1) (~~~h2)
  ·rw[if_neg e]at h;have h:=of_decide_eq_false h;cases q with
   |zero=>simp at hu hv;lia
   |succ q=>exact AH (he 0 x y ∅ (by simp) (by simp)) e
 |[],_::_,hl,_,_,_,_,_,_,_=>by simp at hl
 |_::_,[],hl,_,_,_,_,_,_,_=>by simp at hl
theorem zi0 (n:Nat):∀fs:AA (Nat->Int),Nr (Lr n fs)=some (fs.map λf=>(List.range n).map f)
 |[]=>rfl
 |f::fs=>by
  show(fL (wI n f)).bind _=_;rw[zkR];show(Nr (Lr n fs)).map _=_;rw[zi0 n fs]
  rfl
theorem qN {fs:AA (Nat->Int)}(ne:fs≠[]):∃f∈fs,Wa [.lst (Lr n fs)]=some (.tup (wI n f))/\∀g∈fs,LeR3 n f g:=by
 have hp:0<fs.length:=qcG.mpr ne
 generalize hN:(fs.map λf=>(List.range n).map f)=nss
 have hl:nss.length=fs.length:=by rw[<-hN,eI]
 have hb:Bp nss<fs.length:=by
  have:=ziE (λi j=>HT.eR (nss.getD i []) (nss.getD j [])) (nss.length-1);unfold Bp;lia
 have get:∀i (h:i<fs.length),nss.getD i []=(List.range n).map fs[i]:=λi h=>by
  rw[<-hN,uY,cJ,bI h];rfl
 refine⟨fs[Bp nss],Vm hb,?_,λg hg=>?_⟩
 ·show(Nr (Lr n fs)).bind _=_;rw[zi0,hN];show(if nss.isEmpty then none else(Lr n fs)[Bp nss]?)=_;have:nss.isEmpty=false:=by
   cases nss with
   |nil=>simp at hl;lia
   |cons=>rfl
  rw[this,cJ,bI hb]
  rfl
 ·obtain⟨j,hj,rfl⟩:=List.getElem_of_mem hg;have h:=zhE (bt:=λi j=>HT.eR (nss.getD i []) (nss.getD j [])) (λi=>pB _) (λi j l=>lt_trans) (nss.length-1) j ∅;have h:HT.eR (nss.getD j []) (nss.getD (Bp nss) [])=false:=h;rw[get j hj,get _ hb]at h;intro q hq he;refine Dz (by simp) h q _ _ (by simp[hq]) (by simp[hq]) λp u v hp h1 h2=>?_
  have hpn:p<n:=∅
  simp[hpn]at h1 h2;rw[<-h1,<-h2];exact(he p hp).symm
def zC (b:Mx)(p:Nat×Nat)(q:Nat):Int:=if q=0 then((b p.1 p.2).natAbs:Nat)else if q=1 then(p.1:Nat)else(p.2:Nat)
theorem Tn (b:Mx)(p:Nat×Nat):D.tup [.int (iA (b p.1 p.2)),.int (p.1:Nat),.int (p.2:Nat)]= .tup (wI 3 (zC b p)):=by
 have:iA (b p.1 p.2)=((b p.1 p.2).natAbs:Nat):=by unfold iA;split<;>lia
 rw[this];rfl
section
variable {t n:Nat}{b w v k:Mx}{s:AA (Nat×Nat)}
theorem zky (n:Nat)(s:AA (Nat×Nat)):(opC n s).length<=n:=by
 have:=Dl (λc=>!(s.any λp=>p.2==c)) (List.range n);rw[qco]at this;exact this
theorem zks (n:Nat)(s:AA (Nat×Nat)):(opR n s).length<=n:=by
 have:=Dl (λc=>!(s.any λp=>p.1==c)) (List.range n);rw[qco]at this;exact this
theorem As (h:r∈opR t s):r<t:=qah.mp (qag.mp h).1
theorem uE (h:r∈opC n s):r<n:=qah.mp (qag.mp h).1
theorem ziW (ht:t<=100)(hn:n<=100)(hs:s.length<=100)(hd:s.Pairwise λp q=>p.1≠q.1):Ok (Il [oD t n b w v k s]) λx=>(x= .val .non/\∀r∈opR t s,∀c∈opC n s,b r c=0)\/∃r c,x= .val (.tup [.int (r:Nat),.int (c:Nat)])/\r∈opR t s/\c∈opC n s/\b r c≠0/\∀i∈opR t s,∀j∈opC n s,b i j≠0->(b r c).natAbs<=(b i j).natAbs:=by
 simp![↓Il,↓zdu];rw[Oi rfl];simp![];refine(zfJ hn hs hd).mono ?_;rintro _ rfl;simp![↓zdO];rw[Oi rfl];simp![];refine(zhQ ht).mono ?_;rintro _ rfl;simp![];refine Uo (enc:=λr:Nat=>D.int (r:Nat)) (l:=opR t s) (λi ρ=>∃(Cl:AA (Nat×Nat)) (s3:Sl),(∀p,p∈Cl↔p.1∈(opR t s).take i/\p.2∈opC n s/\b p.1 p.2≠0)/\Cl.length<=i*100/\ρ=[.val (oD t n b w v k s),.val (.lst ((opC n s).map λr=> .int (r:Nat))),.own (Cl.map λp=> .tup (wI 3 (zC b p))),s3]) ⟨[],_,λp=>by simp,by simp,rfl⟩ ?_ ?_
 ·rintro i r _ hi ⟨Cl,s3,hCl,hl,rfl⟩;have hr:r∈opR t s:=gI hi;have hil:i<(opR t s).length:=(qas.mp hi).1;have htl:=zks t s;have hcl:=zky n s;simp![↓zdF,↓zdK];refine⟨∅,Qj (enc:=λr:Nat=>D.int (r:Nat)) (λρ=>∃y,ρ=[.val (oD t n b w v k s),.val (.int (r:Nat)),y]) (λc=>if b r c=0 then none else some (.tup (wI 3 (zC b (r,c))))) ⟨_,rfl⟩ ?_ ?_⟩
  ·rintro c _ hc ⟨y,rfl⟩;simp![↓zdG,↓zdP,tb,bY _ (As hr),bY _ (uE hc)];refine⟨λe=>⟨?_,_,rfl⟩,λe=>⟨?_,_,rfl⟩⟩
   ·rw[if_neg e,<-Tn]
   ·rw[if_pos (~~~e)]
  ·rintro _ ⟨y,rfl⟩;have el:(opC n s).filterMap (λc=>if b r c=0 then none else some (D.tup (wI 3 (zC b (r,c)))))=(((opC n s).filter λc=>b r c !=0).map λc=>(r,c)).map λp=>D.tup (wI 3 (zC b p)):=by
    rw[gC,<-Of,<-Yl,Qa];exact Ox _ λc _=>by by_cases h:b r c=0<;>simp[h,Option.guard]
   have ll:((opC n s).filter λc=>b r c !=0).length<=100:=bE (Dl _ _) ∅;simp![el];refine⟨∅,Cl++((opC n s).filter λc=>b r c !=0).map λc=>(r,c),_,λp=>?_,by simp;lia,by rw[iS]⟩;rw[qaq,hCl,Yg,hi,qaq]
   constructor
   ·rintro(⟨h1,h2⟩|h)
    ·exact⟨.inl h1,h2⟩
    ·obtain⟨c,hc,rfl⟩:=qci.mp h;obtain⟨h1,h2⟩:=qag.mp hc;exact⟨.inr (by simp),h1,~~~h2⟩
   ·rintro⟨h1|h1,h2,h3⟩
    ·exact .inl ⟨h1,h2,h3⟩
    ·have:p.1=r:= ~~~h1
     refine .inr (qci.mpr ⟨p.2,qag.mpr ⟨h2,?_⟩,by rw[<-this]⟩);rw[<-this];simpa using h3
 ·rintro _ ⟨Cl,s3,hCl,hl,rfl⟩;simp![];rw[Vp]at hCl;refine⟨λe=> .inl λr hr c hc=>?_,λe=>?_⟩
  ·have e:Cl=[]:=by
    cases Cl with
    |nil=>rfl
    |cons _ _=>exact AH e (by simp;lia)
   subst e
   by_cases h:b r c=0
   ·exact h
   ·exact AH ((hCl (r,c)).mpr ⟨hr,hc,h⟩) Od
  ·simp![↓zec];have ne:(Cl.map λp=>zC b p)≠[]:=λh=>e (by rw[List.map_eq_nil_iff.mp h];rfl)
   obtain⟨f,hf,e1,e2⟩:=qN (n:=3) ne;obtain⟨p,hp,rfl⟩:=qci.mp hf;obtain⟨p1,p2,p3⟩:=(hCl p).mp hp;rw[show(Cl.map λp=>D.tup (wI 3 (zC b p)))=Lr 3 (Cl.map λp=>zC b p) by unfold Lr;rw[gC];rfl,e1];simp![];refine .inr ⟨p.1,p.2,rfl,p1,p2,p3,λi hi j hj h=>?_⟩;have:=e2 _ (qci.mpr ⟨(i,j),(hCl (i,j)).mpr ⟨hi,hj,h⟩,rfl⟩) 0 ∅ (λp h=>∅);simp only[zC,if_true]at this;lia
theorem zjl {r c:Nat}(hd:s.Pairwise λp q=>p.1≠q.1)(h:(r,c)∈s)(hr:r<t)(hc:c<n):Ok (Wd [oD t n b w v k s,.int (r:Nat)]) λx=>x= .val (.int (b r c)):=by
 simp![↓Wd,↓zdC,tb,kU,zi8 hd h,bY _ hr,bY _ hc]
end
def fZ (b:Mx)(r o:Nat)(q:Int):Mx:=λi j=>if i=r then b r j-q*b o j else b i j
def Ow (b:Mx)(c o:Nat)(q:Int):Mx:=λi j=>if j=c then b i c-q*b i o else b i j
theorem znp (b:Mx)(r o:Nat)(q:Int):fZ b r o q=λi=>if i=r then λj=>b r j-q*b o j else b i:=by
 funext i j;unfold fZ;split<;>rfl
abbrev oT (t n:Nat)(b w v k:Mx)(s:AA (Nat×Nat)):Sl:= .ptr (.obj slC slN (tb t n b w v k) (some (sk s)))
section
variable {t n:Nat}{b w v k:Mx}{s:AA (Nat×Nat)}
theorem Ze {f:Nat->D}(h:∀i,kF (f i)=true)(n1:1<=n):(wL n f).any kF=true:=
 qcZ.mpr ⟨f 0,gI (bY f (show 0<n by lia)),h 0⟩
theorem lZ (t1:1<=t)(n1:1<=n):jP (tb t n b w v k)=true:=by
 unfold jP tb;simp only[yL,List.all_nil,Pc,cV];exact⟨Ze (λ_=>rfl) t1,Ze (λ_=>rfl) t1,Ze (λ_=>rfl) n1,Ze (λ_=>rfl) n1⟩
theorem Rm (n:Nat)(f:Nat->Int):Ea (.lst (wI n f))=true:=by
 show(wI n f).all Nm=true;rw[qch];intro d hd;obtain⟨i,_,rfl⟩:=qci.mp hd
 rfl
theorem tb0 (hr:r<t)(f:Nat->Int):(tb t n b w v k).set 0 ((wL t λi=> .lst (wI n (b i))).set r (.lst (wI n f)))=tb t n (λi=>if i=r then f else b i) w v k:=by
 unfold tb;rw[Tq _ _ hr,Qi];congr 2
 funext j
 by_cases h:j=r<;>simp only[h,if_true,cX]
theorem tb1 (hr:r<t)(f:Nat->Int):(tb t n b w v k).set 1 ((wL t λi=> .lst (wI t (w i))).set r (.lst (wI t f)))=tb t n b (λi=>if i=r then f else w i) v k:=by
 unfold tb;rw[Tq _ _ hr,Cu,Qi];congr 3
 funext j
 by_cases h:j=r<;>simp only[h,if_true,cX]
theorem tb2 (hr:r<n)(f:Nat->Int):(tb t n b w v k).set 2 ((wL n λi=> .lst (wI n (v i))).set r (.lst (wI n f)))=tb t n b w (λi=>if i=r then f else v i) k:=by
 unfold tb;rw[Tq _ _ hr,Cu,Cu,Qi];congr 4
 funext j
 by_cases h:j=r<;>simp only[h,if_true,cX]
theorem tb3 (hr:r<n)(f:Nat->Int):(tb t n b w v k).set 3 ((wL n λi=> .lst (wI n (k i))).set r (.lst (wI n f)))=tb t n b w v (λi=>if i=r then f else k i):=by
 unfold tb;rw[Tq _ _ hr,Cu,Cu,Cu,Qi];congr 5
 funext j
 by_cases h:j=r<;>simp only[h,if_true,cX]
theorem g0:(tb t n b w v k)[0]? =some (wL t λi=> .lst (wI n (b i))):=rfl
theorem g1:(tb t n b w v k)[1]? =some (wL t λi=> .lst (wI t (w i))):=rfl
theorem g2:(tb t n b w v k)[2]? =some (wL n λi=> .lst (wI n (v i))):=rfl
theorem g3:(tb t n b w v k)[3]? =some (wL n λi=> .lst (wI n (k i))):=rfl
theorem zmW (t1:1<=t)(n1:1<=n)(ht:t<=100)(hn:n<=100)(hr:r<t)(ho:o<t)(hb:∀j,j<n->jC q (b o j)=true)(hw:∀j,j<t->jC q (w o j)=true):
  Ok (Ub [oT t n b w v k s,.val (.int (r:Nat)),.val (.int (o:Nat)),.val (.int q)]) λx=>x=(.val .non,[oT t n (fZ b r o q) (fZ w r o q) v k s,.emp,.emp,.emp]):=by
 simp![↓Ub,↓zhM];rw[zG rfl rfl (lZ t1 n1)];simp![g0,bY _ hr,bY _ ho];refine(Pf (Sq.lst n (b r)) (Sq.lst n (b o)) hn hb).mono ?_;rintro _ rfl;simp![Rm];refine⟨rfl,?_⟩;simp![g0,cC,hr,tb0 hr];rw[zG rfl rfl (lZ t1 n1)];simp![g1,bY _ hr,bY _ ho];refine(Pf (Sq.lst t (w r)) (Sq.lst t (w o)) ht hw).mono ?_;rintro _ rfl;simp![Rm];refine⟨rfl,?_⟩;simp![g1,cC,hr,tb1 hr];rw[znp,znp]
theorem zjP (t1:1<=t)(n1:1<=n)(ht:t<=100)(hn:n<=100)(hc:c<n)(ho:o<n)(hb:∀i,i<t->jC q (b i o)=true)(hv:∀j,j<n->jC q (v o j)=true)(hk:∀j,j<n->jC (-q) (k c j)=true):
  Ok (Rz [oT t n b w v k s,.val (.int (c:Nat)),.val (.int (o:Nat)),.val (.int q)]) λx=>x=(.val .non,[oT t n (Ow b c o q) w (fZ v c o q) (fZ k o c (-q)) s,.emp,.emp,.emp]):=by
 simp![↓Rz,↓zel];rw[zmL rfl rfl (lZ t1 n1)];simp![↓zeD,g0,cC];refine⟨∅,hX (λρ=>∃y,ρ=[.val (.int (c:Nat)),.val (.int (o:Nat)),.val (.int q),y]) (λi=> .lst (wI n λj=>if j=c then b i c-q*b i o else b i j)) ⟨_,rfl⟩ ?_ ?_⟩
 ·rintro i _ hi ⟨y,rfl⟩;simp![↓zeN];refine(zgs (b i) hn hc ho (hb i hi)).mono ?_;rintro _ rfl;simp![];exact⟨_,rfl⟩
 ·rintro _ ⟨y,rfl⟩;simp![];refine⟨⟨?_,rfl⟩,?_⟩
  ·rw[qch];intro d hd;obtain⟨i,_,rfl⟩:=qci.mp hd;exact Rm _ _
  have e:(tb t n b w v k).set 0 (wL t λi=> .lst (wI n λj=>if j=c then b i c-q*b i o else b i j))=tb t n (Ow b c o q) w v k:=rfl;refine⟨show 0<4 by lia,?_⟩;simp![e];rw[zG rfl rfl (lZ t1 n1)];simp![g2,bY _ hc,bY _ ho];refine(Pf (Sq.lst n (v c)) (Sq.lst n (v o)) hn hv).mono ?_;rintro _ rfl;simp![Rm];refine⟨rfl,?_⟩;simp![g2,cC,hc,tb2 hc];rw[zG rfl rfl (lZ t1 n1)];simp![g3,bY _ hc,bY _ ho];refine(Pf (Sq.lst n (k o)) (Sq.lst n (k c)) hn hk).mono ?_;rintro _ rfl;simp![Rm];refine⟨rfl,?_⟩;simp![g3,cC,ho,tb3 ho];rw[znp,znp]
end
theorem Sb (x:Int)(o:Nat):∀n,aM n (λj=>if j=o then x else 0)=if o<n then x else 0
 |0=>by simp[aM]
 |n+1=>by
  show aM n _+(if n=o then x else 0)=_;rw[Sb x o n]
  by_cases h:n=o
  ·subst h;rw[if_neg ∅,if_pos rfl,if_pos ∅];lia
  ·rw[if_neg h]
   by_cases h2:o<n
   ·rw[if_pos h2,if_pos ∅];lia
   ·rw[if_neg h2,if_neg ∅];lia
theorem Ou (hi:i<n)(f:Nat->Int):aM n (λj=>un i j*f j)=f i:=by
 rw[eO (g:=λj=>if j=i then f i else 0) λj _=>by
  unfold un
  by_cases h:j=i
  ·subst h;simp
  ·simp[h],Sb,if_pos hi]
theorem sM (hi:i<n)(f:Nat->Int):aM n (λj=>f j*un i j)=f i:=by
 rw[eO (g:=λj=>un i j*f j) λj _=>qS _ _,Ou hi]
structure Inv (t n:Nat)(A b w v k:Mx):Prop where
 bl:∀i,i<t->∀j,j<n->b i j=aM t λa=>aM n λp=>w i a*A a p*v j p
 wi:∀z:Nat->Int,(∀i,i<t->aM t (λa=>w i a*z a)=0)->∀a,a<t->z a=0
 kv:∀p q,p<n->q<n->aM n (λj=>k j p*v j q)=un p q
 vk:∀i j,i<n->j<n->aM n (λp=>v i p*k j p)=un i j
section
variable {t n:Nat}{A b w v k:Mx}
theorem Inv.start (t n:Nat)(A:Mx):Inv t n A A un un un where
 bl:=λi hi j hj=>by
  rw[eO (g:=λa=>un i a*A a j) λa _=>?_,Ou hi];rw[eO (g:=λp=>(un i a*A a p)*un j p) λp _=>rfl,sM hj]
 wi:=λz h a ha=>by
  have:=h a ha;rwa[Ou ha]at this
 kv:=λp q hp hq=>by
  rw[eO (g:=λj=>un p j*un q j) λj _=>by
   unfold un
   by_cases h1:p=j<;>by_cases h2:q=j<;>simp[h1,h2,eq_comm],Ou hp]
  unfold un
  by_cases h:p=q
  ·subst h;rfl
  ·rw[if_neg h,if_neg (Ne.symm h)]
 vk:=λi j hi hj=>by
  rw[Ou hi];unfold un
  by_cases h:i=j
  ·subst h;rfl
  ·rw[if_neg h,if_neg (Ne.symm h)]
theorem Inv.row (I:Inv t n A b w v k)(hr:r<t)(ho:o<t)(hro:r≠o)(q:Int):Inv t n A (fZ b r o q) (fZ w r o q) v k where
 bl:=λi hi j hj=>by
  unfold fZ
  by_cases h:i=r
  ·simp only[h,if_true];rw[I.bl r hr j hj,I.bl o ho j hj,<-kG,<-Cv];refine eO λa _=>?_
   rw[<-kG,<-Cv];refine eO λp _=>?_
   grind
  ·simp only[h,cX];exact I.bl i hi j hj
 wi:=λz h=>by
  refine I.wi z λi hi=>?_
  have ne:∀i,i<t->i≠r->aM t (λa=>w i a*z a)=0:=λi hi hir=>by
   have:=h i hi;unfold fZ at this;simpa only[hir,cX]using this
  by_cases hir:i=r
  ·subst hir;have h1:=h i hi;unfold fZ at h1;simp only[if_true]at h1;rw[eO (g:=λa=>w i a*z a-q*(w o a*z a)) λa _=>by grind,Cv,kG,ne o ho (Ne.symm hro)]at h1;lia
  ·exact ne i hi hir
 kv:=I.kv
 vk:=I.vk
theorem Inv.col (I:Inv t n A b w v k)(hc:c<n)(ho:o<n)(hco:c≠o)(q:Int):Inv t n A (Ow b c o q) w (fZ v c o q) (fZ k o c (-q)) where
 bl:=λi hi j hj=>by
  unfold Ow fZ
  by_cases h:j=c
  ·simp only[h,if_true];rw[I.bl i hi c hc,I.bl i hi o ho,<-kG,<-Cv];refine eO λa _=>?_
   rw[<-kG,<-Cv];refine eO λp _=>?_
   grind
  ·simp only[h,cX];exact I.bl i hi j hj
 wi:=I.wi
 kv:=λp p' hp hp'=>by
  rw[<-I.kv p p' hp hp'];rw[eO (g:=λj=>k j p*v j p'+((if j=o then q*(k c p*v o p')else 0)+(if j=c then-(q*(k c p*v o p'))else 0))) λj _=>?_,Ng,Ng,Sb,Sb,if_pos ho,if_pos hc]
  ·lia
  ·unfold fZ
   by_cases h1:j=o
   ·have:¬j=c:=λz=>hco (z ▸ h1)
    have h2:¬o=c:=Ne.symm hco;simp only[h1,h2,if_true,cX]
    grind
   ·by_cases h2:j=c
    ·simp only[h1,h2,hco,if_true,cX]
     grind
    ·simp only[h1,h2,cX];lia
 vk:=λi j hi hj=>by
  have key:∀x y:Nat->Int,aM n (λp=>(x p-q*v o p)*y p)=aM n (λp=>x p*y p)-q*aM n (λp=>v o p*y p):=λx y=>by
   rw[eO (g:=λp=>x p*y p-q*(v o p*y p)) λp _=>by grind,Cv,kG]
  have key2:∀x y:Nat->Int,aM n (λp=>x p*(y p- -q*k c p))=aM n (λp=>x p*y p)+q*aM n (λp=>x p*k c p):=λx y=>by
   rw[eO (g:=λp=>x p*y p+q*(x p*k c p)) λp _=>by grind,Ng,kG]
  unfold fZ
  by_cases h1:i=c
  ·by_cases h2:j=o
   ·subst h1 h2;simp only[if_true];rw[key (λp=>v i p) (λp=>k j p- -q*k i p),key2 (λp=>v i p),key2 (λp=>v j p),I.vk i j hi hj,I.vk i i hi hi,I.vk j j hj hj,I.vk j i hj hi];unfold un;rw[if_pos rfl,if_pos rfl,if_neg hco,if_neg (Ne.symm hco)];lia
   ·simp only[h1,h2,if_true,cX];rw[key (λp=>v c p) (λp=>k j p),I.vk c j hc hj,I.vk o j ho hj];unfold un;rw[if_neg h2 (α:=Int)];lia
  ·by_cases h2:j=o
   ·simp only[h1,h2,if_true,cX];rw[key2 (λp=>v i p) (λp=>k o p),I.vk i o hi ho,I.vk i c hi hc];unfold un;rw[if_neg (Ne.symm h1) (α:=Int)];lia
   ·simp only[h1,h2,cX];exact I.vk i j hi hj
end
def rnd (b:Nat->Nat->Int)(r c:Nat)(i j:Nat):Int:=
 if i=r then(if j=c then b r c else b r j-(b r j).fdiv (b r c)*b r c)
 else if j=c then b i c-(b i c).fdiv (b r c)*b r c
 else b i j-(b i c).fdiv (b r c)*b r j-(b r j).fdiv (b r c)*(b i c-(b i c).fdiv (b r c)*b r c)
theorem Mz (h:x.natAbs<=a)(g:y.natAbs<=b):(x-y).natAbs<=a+b:=bE (Int.natAbs_sub_le x y) (Nat.add_le_add h g)
theorem pD (h:x.natAbs<=a)(g:y.natAbs<=b):(x+y).natAbs<=a+b:=bE (Tz x y) (Nat.add_le_add h g)
def m2 (b:Nat->Nat->Int)(i k j l:Nat):Int:=b i j*b k l-b i l*b k j
def d3 (b:Nat->Nat->Int)(i k o j l q:Nat):Int:=b i j*m2 b k o l q-b i l*m2 b k o j q+b i q*m2 b k o j l
theorem gP {a p:Int}(h:p≠0):(a-a.fdiv p*p).natAbs<p.natAbs:=by
 have e:a-a.fdiv p*p=a.fmod p:=by have:=Qc a p;rw[qS]at this;lia
 rw[e];have pos:∀a p:Int,0<p->(a.fmod p).natAbs<p.natAbs:=λa p h=>by
  have h1:=qdo a h;have h2:=Int.fmod_lt_of_pos a h;lia
 rcases Mj h with h|h
 ·have e2:a.fmod p= -((-a).fmod (-p)):=by rw[Int.neg_fmod_neg];lia
  have:=pos (-a) (-p) ∅;rw[e2,jF];lia
 ·exact pos a p h
theorem sX (b:Nat->Nat->Int)(r c:Nat):rnd b r c r c=b r c:=by simp[rnd]
section
variable {b:Nat->Nat->Int}{r c:Nat}
theorem iM (hj:j≠c):rnd b r c r j=b r j-(b r j).fdiv (b r c)*b r c:=by simp[rnd,hj]
theorem jI (hi:i≠r):rnd b r c i c=b i c-(b i c).fdiv (b r c)*b r c:=by simp[rnd,hi]
theorem Nb (hi:i≠r)(hj:j≠c):rnd b r c i j=b i j-(b i c).fdiv (b r c)*b r j-(b r j).fdiv (b r c)*(b i c-(b i c).fdiv (b r c)*b r c):=by simp[rnd,hi,hj]
theorem Ex (hi:i≠r)(hj:j≠c):m2 (rnd b r c) r i c j=m2 b r i c j:=by
 unfold m2;rw[sX,iM hj,jI hi,Nb hi hj]
 generalize (b i c).fdiv (b r c)=q
 generalize (b r j).fdiv (b r c)=q'
 grind
theorem zqQ {i k j l:Nat}(hi:i≠r)(hk:k≠r)(hj:j≠c)(hl:l≠c):d3 (rnd b r c) r i k c j l=d3 b r i k c j l:=by
 unfold d3 m2;rw[sX,iM hj,iM hl,jI hi,jI hk,Nb hi hj,Nb hi hl,Nb hk hj,Nb hk hl]
 generalize (b i c).fdiv (b r c)=q1
 generalize (b k c).fdiv (b r c)=q2
 generalize (b r j).fdiv (b r c)=q3
 generalize (b r l).fdiv (b r c)=q4
 grind
theorem znN (b:Nat->Nat->Int)(i j l:Nat):m2 b i i j l=0:=by unfold m2;grind
theorem zn3 (b:Nat->Nat->Int)(i k j:Nat):m2 b i k j j=0:=by unfold m2;grind
theorem znZ (b:Nat->Nat->Int)(i k j l:Nat):m2 b k i j l= -m2 b i k j l:=by unfold m2;grind
theorem Uq (b:Nat->Nat->Int)(i k j l:Nat):m2 b i k l j= -m2 b i k j l:=by unfold m2;grind
theorem zn1 (b:Nat->Nat->Int)(i k o j l q:Nat):d3 b k i o j l q= -d3 b i k o j l q:=by unfold d3 m2;grind
theorem zn8 (b:Nat->Nat->Int)(i k o j l q:Nat):d3 b i o k j l q= -d3 b i k o j l q:=by unfold d3 m2;grind
theorem zn9 (b:Nat->Nat->Int)(i k o j l q:Nat):d3 b i k o l j q= -d3 b i k o j l q:=by unfold d3 m2;grind
theorem znv (b:Nat->Nat->Int)(i k o j l q:Nat):d3 b i k o j q l= -d3 b i k o j l q:=by unfold d3 m2;grind
theorem znX (b:Nat->Nat->Int)(i o j l q:Nat):d3 b i i o j l q=0:=by unfold d3 m2;grind
theorem rY (b:Nat->Nat->Int)(i k j l q:Nat):d3 b i k k j l q=0:=by unfold d3 m2;grind
theorem znn (b:Nat->Nat->Int)(i k o j q:Nat):d3 b i k o j j q=0:=by unfold d3 m2;grind
theorem sL (b:Nat->Nat->Int)(i k o j l:Nat):d3 b i k o j l l=0:=by unfold d3 m2;grind
end
theorem iF {a b:Int}{A B:Nat}(ha:a.natAbs<=A)(hb:b.natAbs<=B):(a*b).natAbs<=A*B:=by rw[qJ];exact Nat.mul_le_mul ha hb
theorem zj2 (a b:Int):(a+b).natAbs<=a.natAbs+b.natAbs:=∅
theorem zlj {M:Nat}(h0:p≠0)(h:(p*y).natAbs<=M):y.natAbs<=M:=by
 rw[qJ]at h;have:1<=p.natAbs:=∅
 exact bE (qds _ this) h
theorem y_le {p y m t s:Int}{M P:Nat}(e:p*y=m+t*s)(hm:m.natAbs<=M)(ht:t.natAbs<p.natAbs)(hs:s.natAbs<p.natAbs)(hp:p.natAbs<=P):(p*y).natAbs<=M+P*P:=by
 rw[e];have h1:=zj2 m (t*s);have h2:=iF (A:=P) (B:=P) (bE (lW ht) hp) (bE (lW hs) hp);lia
theorem kS {p y t:Int}(h:(p*y).natAbs<=K)(ht:t.natAbs<p.natAbs):(t*y).natAbs<=K:=by
 rw[qJ]at h ⊢;exact bE (qdt _ (lW ht)) h
theorem Kd {p m d x y:Int}{D C:Nat}(h0:p≠0)(e:p*m=d+x-y)(hd:d.natAbs<=D)(hx:x.natAbs<=p.natAbs*(2*C))(hy:y.natAbs<=p.natAbs*(2*C)):m.natAbs<=D+4*C:=by
 have h1:(p*m).natAbs<=D+p.natAbs*(2*C)+p.natAbs*(2*C):=by rw[e];exact Mz (pD hd hx) hy
 rw[qJ]at h1;have hp:0<p.natAbs:=∅
 refine Nat.le_of_mul_le_mul_left (bE h1 ?_) hp;have h2:D<=p.natAbs*D:=qds _ hp;have h3:p.natAbs*(D+4*C)=p.natAbs*D+(p.natAbs*(2*C)+p.natAbs*(2*C)):=by rw[<-Nat.mul_add,<-Nat.mul_add];congr 1;lia
 lia
def Mb (Ro Co:AA Nat)(b:Nat->Nat->Int)(M:Nat):Prop:=∀i,i∈Ro->∀k,k∈Ro->∀j,j∈Co->∀l,l∈Co->(m2 b i k j l).natAbs<=M
def Db (Ro Co:AA Nat)(b:Nat->Nat->Int)(D:Nat):Prop:=∀i,i∈Ro->∀k,k∈Ro->∀o,o∈Ro->∀j,j∈Co->∀l,l∈Co->∀q,q∈Co->(d3 b i k o j l q).natAbs<=D
section
variable {b:Nat->Nat->Int}{r c:Nat}{Ro Co:AA Nat}{M P D:Nat}
theorem Ly (hi:i≠r)(hj:j≠c):b r c*rnd b r c i j=m2 b r i c j+rnd b r c i c*rnd b r c r j:=by
 have h:=Ex (b:=b) hi hj;unfold m2 at h;rw[sX]at h;rw[show m2 b r i c j=b r c*b i j-b r j*b i c from rfl,<-h]
 grind
theorem Bh (hr:r∈Ro)(hc:c∈Co)(h0:b r c≠0)(hp:(b r c).natAbs<=P)(hM:Mb Ro Co b M)(mi:i∈Ro)(mj:j∈Co)(hi:i≠r)(hj:j≠c):(b r c*rnd b r c i j).natAbs<=M+P*P:=
 y_le (Ly hi hj) (hM r hr i mi c hc j mj) (by rw[jI hi];exact gP h0) (by rw[iM hj];exact gP h0) hp
theorem zqX (hr:r∈Ro)(hc:c∈Co)(h0:b r c≠0)(hp:(b r c).natAbs<=P)(hM:Mb Ro Co b M)(mi:i∈Ro)(mj:j∈Co):(rnd b r c i j).natAbs<=M+P*P+P:=by
 by_cases hi:i=r
 ·subst hi
  by_cases hj:j=c
  ·subst hj;rw[sX];lia
  ·rw[iM hj];have:=gP (a:=b i j) h0;lia
 ·by_cases hj:j=c
  ·subst hj;rw[jI hi];have:=gP (a:=b i j) h0;lia
  ·have:=zlj h0 (Bh hr hc h0 hp hM mi mj hi hj);lia
theorem Fe (hr:r∈Ro)(hc:c∈Co)(h0:b r c≠0)(hp:(b r c).natAbs<=P)(hM:Mb Ro Co b M)(hD:Db Ro Co b D):Mb Ro Co (rnd b r c) (D+4*(M+P*P)):=by
 have K:=λ{i j:Nat} (mi:i∈Ro) (mj:j∈Co) (hi:i≠r) (hj:j≠c)=>Bh hr hc h0 hp hM mi mj hi hj
 have A:∀{i j:Nat},i∈Ro->j∈Co->i≠r->j≠c->(m2 (rnd b r c) r i c j).natAbs<=M:=λmi mj hi hj=>by rw[Ex hi hj];exact hM r hr _ mi c hc _ mj
 have Bc:∀{i j l:Nat},i∈Ro->j∈Co->l∈Co->i≠r->j≠c->l≠c->(m2 (rnd b r c) r i j l).natAbs<=2*(M+P*P):=λ{i j l} mi mj ml hi hj hl=>by
  unfold m2;have k1:=kS (K mi ml hi hl) (show(rnd b r c r j).natAbs<_ by rw[iM hj];exact gP h0);have k2:=kS (K mi mj hi hj) (show(rnd b r c r l).natAbs<_ by rw[iM hl];exact gP h0);exact bE (Mz k1 k2) ∅
 have Cc:∀{i k j:Nat},i∈Ro->k∈Ro->j∈Co->i≠r->k≠r->j≠c->(m2 (rnd b r c) i k c j).natAbs<=2*(M+P*P):=λ{i k j} mi mk mj hi hk hj=>by
  unfold m2;have k1:=kS (K mk mj hk hj) (show(rnd b r c i c).natAbs<_ by rw[jI hi];exact gP h0);have k2:=kS (K mi mj hi hj) (show(rnd b r c k c).natAbs<_ by rw[jI hk];exact gP h0);rw[qS (rnd b r c i j)];exact bE (Mz k1 k2) ∅
 have Dc:∀{i k j l:Nat},i∈Ro->k∈Ro->j∈Co->l∈Co->i≠r->k≠r->j≠c->l≠c->(m2 (rnd b r c) i k j l).natAbs<=D+4*(M+P*P):=λ{i k j l} mi mk mj ml hi hk hj hl=>by
  have e:=zqQ (b:=b) hi hk hj hl;have hd:=hD r hr i mi k mk c hc j mj l ml;rw[<-e]at hd;have c1:=Cc mi mk ml hi hk hl;have c2:=Cc mi mk mj hi hk hj;have s1:(rnd b r c r j).natAbs<(b r c).natAbs:=by rw[iM hj];exact gP h0
  have s2:(rnd b r c r l).natAbs<(b r c).natAbs:=by rw[iM hl];exact gP h0
  have q:b r c*m2 (rnd b r c) i k j l=d3 (rnd b r c) r i k c j l+rnd b r c r j*m2 (rnd b r c) i k c l-rnd b r c r l*m2 (rnd b r c) i k c j:=by
   unfold d3;rw[sX];grind
  have a1:=iF (lW s1) c1;have a2:=iF (lW s2) c2;exact Kd h0 q hd a1 a2
 intro i mi k mk j mj l ml;have le:∀{x:Int},x.natAbs<=2*(M+P*P)->x.natAbs<=D+4*(M+P*P):=λh=>∅
 have leM:∀{x:Int},x.natAbs<=M->x.natAbs<=D+4*(M+P*P):=λh=>∅
 by_cases hik:i=k
 ·subst hik;rw[znN];simp
 by_cases hjl:j=l
 ·subst hjl;rw[zn3];simp
 by_cases hi:i=r
 ·subst hi
  by_cases hj:j=c
  ·subst hj;exact leM (A mk ml (Ne.symm hik) (Ne.symm hjl))
  ·by_cases hl:l=c
   ·subst hl;rw[Uq,jF];exact leM (A mk mj (Ne.symm hik) hj)
   ·exact le (Bc mk mj ml (Ne.symm hik) hj hl)
 by_cases hk:k=r
 ·subst hk;rw[znZ,jF]
  by_cases hj:j=c
  ·subst hj;exact leM (A mi ml hi (Ne.symm hjl))
  ·by_cases hl:l=c
   ·subst hl;rw[Uq,jF];exact leM (A mi mj hi hj)
   ·exact le (Bc mi mj ml hi hj hl)
 by_cases hj:j=c
 ·subst hj;exact le (Cc mi mk ml hi hk (Ne.symm hjl))
 by_cases hl:l=c
 ·subst hl;rw[Uq,jF];exact le (Cc mi mk mj hi hk hj)
 exact Dc mi mk mj ml hi hk hj hl
theorem zpO (n:Ro.length<=3)(hr:r∈Ro)(mi:i∈Ro)(mk:k∈Ro)(mo:o∈Ro)(h1:i≠k)(h2:i≠o)(h3:k≠o):∃i' k',i'∈Ro/\k'∈Ro/\i'≠r/\k'≠r/\∀(b:Nat->Nat->Int) (j l q:Nat),(d3 b i k o j l q).natAbs=(d3 b r i' k' j l q).natAbs:=by
 have:i=r\/k=r\/o=r:=by
  match Ro,n with
  |[],_=>simp at hr
  |[a],_=>simp at hr mi mk mo;lia
  |[a,b],_=>simp at hr mi mk mo;lia
  |[a,b,c],_=>simp at hr mi mk mo;lia
  |_::_::_::_::_,n=>simp at n
 rcases this with rfl|rfl|rfl
 ·exact⟨k,o,mk,mo,h1.symm,h2.symm,λ_ _ _ _=>rfl⟩
 ·exact⟨i,o,mi,mo,h1,h3.symm,λb j l q=>by rw[zn1,jF]⟩
 ·exact⟨i,k,mi,mk,h2,h3,λb j l q=>by rw[zn8,zn1];simp⟩
theorem zpg {j l q:Nat}(n:Co.length<=3)(hc:c∈Co)(mj:j∈Co)(ml:l∈Co)(mq:q∈Co)(h1:j≠l)(h2:j≠q)(h3:l≠q):∃j' l',j'∈Co/\l'∈Co/\j'≠c/\l'≠c/\∀(b:Nat->Nat->Int) (i k o:Nat),(d3 b i k o j l q).natAbs=(d3 b i k o c j' l').natAbs:=by
 have:j=c\/l=c\/q=c:=by
  match Co,n with
  |[],_=>simp at hc
  |[a],_=>simp at hc mj ml mq;lia
  |[a,b],_=>simp at hc mj ml mq;lia
  |[a,b,c],_=>simp at hc mj ml mq;lia
  |_::_::_::_::_,n=>simp at n
 rcases this with rfl|rfl|rfl
 ·exact⟨l,q,ml,mq,h1.symm,h2.symm,λ_ _ _ _=>rfl⟩
 ·exact⟨j,q,mj,mq,h1,h3.symm,λb i k o=>by rw[zn9,jF]⟩
 ·exact⟨j,l,mj,ml,h2,h3,λb i k o=>by rw[znv,zn9];simp⟩
theorem Lo (n:Ro.length<=3)(m:Co.length<=3)(hr:r∈Ro)(hc:c∈Co)(hD:Db Ro Co b D):Db Ro Co (rnd b r c) D:=by
 intro i mi k mk o mo j mj l ml q mq
 by_cases h1:i=k
 ·subst h1;rw[znX];simp
 by_cases h3:k=o
 ·subst h3;rw[rY];simp
 by_cases h2:i=o
 ·subst h2;rw[zn8,znX];simp
 by_cases g1:j=l
 ·subst g1;rw[znn];simp
 by_cases g3:l=q
 ·subst g3;rw[sL];simp
 by_cases g2:j=q
 ·subst g2;rw[znv,znn];simp
 obtain⟨i',k',mi',mk',hi',hk',e⟩:=zpO n hr mi mk mo h1 h2 h3;obtain⟨j',l',mj',ml',hj',hl',f⟩:=zpg m hc mj ml mq g1 g2 g3;rw[e,f,zqQ hi' hk' hj' hl'];exact hD r hr i' mi' k' mk' c hc j' mj' l' ml'
theorem yX (n:Ro.length<=2)(m:Co.length<=2)(hr:r∈Ro)(hc:c∈Co)(hM:Mb Ro Co b M):Mb Ro Co (rnd b r c) M:=by
 intro i mi k mk j mj l ml
 by_cases h1:i=k
 ·subst h1;rw[znN];simp
 by_cases g1:j=l
 ·subst g1;rw[zn3];simp
 have h:i=r\/k=r:=by
  match Ro,n with
  |[],_=>simp at hr
  |[a],_=>simp at hr mi mk;lia
  |[a,b],_=>simp at hr mi mk;lia
  |_::_::_::_,n=>simp at n
 have g:j=c\/l=c:=by
  match Co,m with
  |[],_=>simp at hc
  |[a],_=>simp at hc mj ml;lia
  |[a,b],_=>simp at hc mj ml;lia
  |_::_::_::_,n=>simp at n
 rcases h with rfl|rfl
 ·rcases g with rfl|rfl
  ·rw[Ex (Ne.symm h1) (Ne.symm g1)];exact hM _ hr _ mk _ hc _ ml
  ·rw[Uq,jF,Ex (Ne.symm h1) g1];exact hM _ hr _ mk _ hc _ mj
 ·rw[znZ,jF];rcases g with rfl|rfl
  ·rw[Ex h1 (Ne.symm g1)];exact hM _ hr _ mi _ hc _ ml
  ·rw[Uq,jF,Ex h1 g1];exact hM _ hr _ mi _ hc _ mj
end
def Lst (Ro Co:AA Nat)(b:Nat->Nat->Int)(r c:Nat):Prop:=r∈Ro/\c∈Co/\b r c≠0/\∀i,i∈Ro->∀j,j∈Co->b i j≠0->(b r c).natAbs<=(b i j).natAbs
def Opn (Ro Co:AA Nat)(b:Nat->Nat->Int)(r c:Nat):Prop:=(∃i,i∈Ro/\i≠r/\rnd b r c i c≠0)\/(∃j,j∈Co/\j≠c/\rnd b r c r j≠0)
section
variable {b:Nat->Nat->Int}{r c r' c':Nat}{Ro Co:AA Nat}{M P D U k:Nat}
theorem mR (a p:Int):a-a.fdiv p*p=a.fmod p:=by have:=Qc a p;rw[qS]at this;lia
theorem Opn.small (h0:b r c≠0)(o:Opn Ro Co b r c)(hr:r∈Ro)(hc:c∈Co):∃i,i∈Ro/\∃j,j∈Co/\rnd b r c i j≠0/\(rnd b r c i j).natAbs<(b r c).natAbs:=by
 rcases o with⟨i,mi,hi,h⟩|⟨j,mj,hj,h⟩
 ·exact⟨i,mi,c,hc,h,by rw[jI hi];exact gP h0⟩
 ·exact⟨r,hr,j,mj,h,by rw[iM hj];exact gP h0⟩
theorem Lst.fall (l:Lst Ro Co b r c)(o:Opn Ro Co b r c)(l':Lst Ro Co (rnd b r c) r' c'):(rnd b r c r' c').natAbs<(b r c).natAbs:=by
 obtain⟨i,mi,j,mj,h,lt⟩:=o.small l.2.2.1 l.1 l.2.1;exact tO (l'.2.2.2 i mi j mj h) lt
def I3 (Ro Co:AA Nat)(P D U k:Nat)(b:Nat->Nat->Int):Prop:=Db Ro Co b D/\Mb Ro Co b (U*5^k)/\∃i,i∈Ro/\∃j,j∈Co/\b i j≠0/\(b i j).natAbs+k<=P
theorem I3.low (I:I3 Ro Co P D U k b)(l:Lst Ro Co b r c):(b r c).natAbs+k<=P:=by
 obtain⟨_,_,i,mi,j,mj,h,p⟩:=I;have:=l.2.2.2 i mi j mj h;lia
theorem grow (hU:D+4*(P*P)<=U):D+4*(U*5^k+P*P)<=U*5^(k+1):=by
 have h:U<=U*5^k:=Nat.le_mul_of_pos_right _ (Nat.pow_pos ∅);rw[Ed,<-Nat.mul_assoc];lia
theorem Mb.le {M N:Nat}(h:Mb Ro Co b M)(l:M<=N):Mb Ro Co b N:=λi mi k mk j mj q mq=>bE (h i mi k mk j mj q mq) l
theorem I3.mb (I:I3 Ro Co P D U k b)(hU:D+4*(P*P)<=U)(l:Lst Ro Co b r c):Mb Ro Co (rnd b r c) (U*5^(k+1)):=
 (Fe l.1 l.2.1 l.2.2.1 (show _<=P by have:=I.low l;lia) I.2.1 I.1).le (grow hU)
theorem I3.step (n:Ro.length<=3)(m:Co.length<=3)(I:I3 Ro Co P D U k b)(hU:D+4*(P*P)<=U)(l:Lst Ro Co b r c)(o:Opn Ro Co b r c):I3 Ro Co P D U (k+1) (rnd b r c):=by
 refine⟨Lo n m l.1 l.2.1 I.1,I.mb hU l,?_⟩;obtain⟨i,mi,j,mj,h,lt⟩:=o.small l.2.2.1 l.1 l.2.1;have:=I.low l;exact⟨i,mi,j,mj,h,∅⟩
theorem I3.ent (I:I3 Ro Co P D U k b)(l:Lst Ro Co b r c)(mi:i∈Ro)(mj:j∈Co):(rnd b r c i j).natAbs<=U*5^k+P*P+P:=
 zqX l.1 l.2.1 l.2.2.1 (by have:=I.low l;lia) I.2.1 mi mj
end
theorem zgH {x z:Int}(hz:0<z)(h:z<=x):2*(x.fmod z).natAbs<=x.natAbs:=by
 have h1:=qdo x hz;have h2:=Int.fmod_lt_of_pos x hz;have e:=Qc x z;have q:1<=x.fdiv z:=by
  rcases Nl (x.fdiv z) 1 with h3|h3
  ·have:z*x.fdiv z<=z*0:=qdv ∅ ∅;lia
  ·exact h3
 have:z*1<=z*x.fdiv z:=qdv q ∅;lia
theorem sgn {x z:Int}(h:0<=x*z)(hz:z≠0)(hx:x≠0):(0<z/\0<x)\/(z<0/\x<0):=by
 rcases Mj hz with h1|h1<;>rcases Mj hx with h2|h2
 ·exact .inr ⟨h1,h2⟩
 ·have:=qdw h2 h1;lia
 ·have:=qdx h2 h1;lia
 ·exact .inl ⟨h1,h2⟩
theorem zjm {x z:Int}(s:0<=x*z)(hz:z≠0)(h:z.natAbs<=x.natAbs):2*(x.fmod z).natAbs<=x.natAbs:=by
 rcases sgn s hz (by intro e;subst e;simp at h;exact hz h)with⟨h1,h2⟩|⟨h1,h2⟩
 ·exact zgH h1 ∅
 ·have:=zgH (x:= -x) (z:= -z) ∅ ∅;rw[Int.neg_fmod_neg,jF,jF]at this;exact this
theorem Dk (x:Int)(h:p≠0):0<=p*x.fmod p:=by
 rcases Mj h with h1|h1
 ·have e2:x.fmod p= -((-x).fmod (-p)):=by rw[Int.neg_fmod_neg];lia
  have:=qdo (-x) (show 0< -p by lia);rw[e2];exact qdy ∅ ∅
 ·exact Ux ∅ (qdo x h1)
theorem zow {x z:Int}(e:x.fmod z=0)(h:z.natAbs<x.natAbs):2*z.natAbs<=x.natAbs:=by
 have f:=Qc x z;rw[e,Int.add_zero]at f;rw[<-f,qJ]at h ⊢;have:2<=(x.fdiv z).natAbs:=by
  rcases Ib (x.fdiv z).natAbs 2 with h3|h3
  ·have:z.natAbs*(x.fdiv z).natAbs<=z.natAbs*1:=Nj _ ∅;lia
  ·exact h3
 have:=Nj z.natAbs this;lia
section
variable {b:Nat->Nat->Int}{r c r' c':Nat}{Ro Co:AA Nat}
theorem Lst.cross (l:Lst Ro Co b r c)(o:Opn Ro Co b r c)(l':Lst Ro Co (rnd b r c) r' c')(h:(∃i,i∈Ro/\i≠r/\x=b i c)\/(∃j,j∈Co/\j≠c/\x=b r j))(s:0<=x*b r c)(lt:(b r c).natAbs<x.natAbs):2*(rnd b r c r' c').natAbs<=x.natAbs:=by
 have f:=l.fall o l';have hh:=zjm s l.2.2.1 (lW lt)
 by_cases z:x.fmod (b r c)=0
 ·have:=zow z lt;lia
 ·have:(rnd b r c r' c').natAbs<=(x.fmod (b r c)).natAbs:=by
   rcases h with⟨i,mi,hi,rfl⟩|⟨j,mj,hj,rfl⟩
   ·have e:rnd b r c i c=(b i c).fmod (b r c):=by rw[jI hi,mR]
    rw[<-e];exact l'.2.2.2 i mi c l.2.1 (by rw[e];exact z)
   ·have e:rnd b r c r j=(b r j).fmod (b r c):=by rw[iM hj,mR]
    rw[<-e];exact l'.2.2.2 r l.1 j mj (by rw[e];exact z)
  lia
end
section
variable {b:Nat->Nat->Int}{r c r1 c1 r2 c2 r3 c3:Nat}{Ro Co:AA Nat}
theorem Xr (n:l.length<=2){a b d:Nat}(ha:a∈l)(hb:b∈l)(hd:d∈l):a=b\/d=a\/d=b:=by
 match l,n with
 |[],_=>simp at ha
 |[x],_=>simp at ha hb hd;lia
 |[x,y],_=>simp at ha hb hd;lia
 |_::_::_::_,n=>simp at n
theorem Mi {p y t s p' t' s':Int}(e:y*p'-t'*s'=y*p-t*s)(hy:y≠0)(hp:p*y<0)(ht:t≠0->y.natAbs<=t.natAbs)(hs:s≠0->y.natAbs<=s.natAbs)(ht':t'.natAbs<y.natAbs)(hs':s'.natAbs<y.natAbs)(t0:t=0->t'=0)(s0:s=0->s'=0)(st:0<=t*s)(st':0<=t'*s'):p.natAbs<=p'.natAbs:=by
 have h1:(t'*s').natAbs<=(t*s).natAbs:=by
  by_cases a:t=0
  ·rw[t0 a];simp
  by_cases a2:s=0
  ·rw[s0 a2];simp
  rw[qJ,qJ];exact Nat.mul_le_mul (by have:=ht a;lia) (by have:=hs a2;lia)
 rw[qS p y]at hp;have h2:(y*p).natAbs<=(y*p').natAbs:=by
  generalize t*s=u at*
  generalize t'*s'=u' at*
  generalize y*p=v at*
  generalize y*p'=v' at*
  lia
 rw[qJ,qJ]at h2;exact Nat.le_of_mul_le_mul_left h2 ∅
theorem Rb {x z:Int}(h:x=0):x.fmod z=0:=by subst h;simp
theorem zkz {p t s:Int}(hp:p≠0)(h1:0<=p*t)(h2:0<=p*s):0<=t*s:=by
 rcases Mj hp with h|h
 ·have a:t<=0:=by
   rcases Nl 0 t with g|g
   ·have:=qdx h g;lia
   ·exact g
  have a2:s<=0:=by
   rcases Nl 0 s with g|g
   ·have:=qdx h g;lia
   ·exact g
  exact qdy a a2
 ·have a:0<=t:=by
   rcases Nl t 0 with g|g
   ·have:=qdw h g;lia
   ·exact g
  have a2:0<=s:=by
   rcases Nl s 0 with g|g
   ·have:=qdw h g;lia
   ·exact g
  exact Ux a a2
theorem Ph (n:Ro.length<=2)(m:Co.length<=2)(l0:Lst Ro Co b r c)(o0:Opn Ro Co b r c){b1 b2 b3:Nat->Nat->Int}(e1:b1=rnd b r c)(l1:Lst Ro Co b1 r1 c1)(o1:Opn Ro Co b1 r1 c1)(e2:b2=rnd b1 r1 c1)(l2:Lst Ro Co b2 r2 c2)(o2:Opn Ro Co b2 r2 c2)(e3:b3=rnd b2 r2 c2)(l3:Lst Ro Co b3 r3 c3):2*(b3 r3 c3).natAbs<=(b r c).natAbs:=by
 have f0:(b1 r1 c1).natAbs<(b r c).natAbs:=by subst e1;exact l0.fall o0 l1
 have f1:(b2 r2 c2).natAbs<(b1 r1 c1).natAbs:=by subst e2;exact l1.fall o1 l2
 have f2:(b3 r3 c3).natAbs<(b2 r2 c2).natAbs:=by subst e3;exact l2.fall o2 l3
 have h0:=l0.2.2.1;have h1:=l1.2.2.1;have corner:b1 r c=b r c:=by rw[e1,sX]
 have corner2:b2 r1 c1=b1 r1 c1:=by rw[e2,sX]
 have tS:∀i,i≠r->b1 i c=(b i c).fmod (b r c):=λi hi=>by rw[e1,jI hi,mR]
 have sS:∀j,j≠c->b1 r j=(b r j).fmod (b r c):=λj hj=>by rw[e1,iM hj,mR]
 by_cases hr:r1=r
 ·--in the corner's row
  by_cases hc:c1=c
  ·subst hr;subst hc;rw[corner]at f0;lia
  ·have x:=l1.cross o1 (e2 ▸ l2) (x:=b1 r c) (.inr ⟨c,l0.2.1,Ne.symm hc,by rw[hr]⟩) (by rw[hr,corner,sS c1 hc];exact Dk _ h0) (by rw[corner];exact f0);rw[<-e2,corner]at x;lia
 by_cases hc:c1=c
 ·have x:=l1.cross o1 (e2 ▸ l2) (x:=b1 r c) (.inl ⟨r,l0.1,Ne.symm hr,by rw[hc]⟩) (by rw[hc,corner,tS r1 hr];exact Dk _ h0) (by rw[corner];exact f0);rw[<-e2,corner]at x;lia
 have t2:b2 r1 c=(b1 r1 c).fmod (b1 r1 c1):=by rw[e2,iM (Ne.symm hc),mR]
 have s2:b2 r c1=(b1 r c1).fmod (b1 r1 c1):=by rw[e2,jI (Ne.symm hr),mR]
 have lt:b1 r1 c≠0->(b1 r1 c1).natAbs<=(b1 r1 c).natAbs:=λh=>l1.2.2.2 r1 l1.1 c l0.2.1 h
 have ls:b1 r c1≠0->(b1 r1 c1).natAbs<=(b1 r c1).natAbs:=λh=>l1.2.2.2 r l0.1 c1 l1.2.1 h
 have ut:(b1 r1 c).natAbs<(b r c).natAbs:=by rw[e1,jI hr];exact gP h0
 have us:(b1 r c1).natAbs<(b r c).natAbs:=by rw[e1,iM hc];exact gP h0
 have gt:0<=b r c*b1 r1 c:=by rw[tS r1 hr];exact Dk _ h0
 have gs:0<=b r c*b1 r c1:=by rw[sS c1 hc];exact Dk _ h0
 rcases Nl (b r c*b1 r1 c1) 0 with neg|pos
 ·--another sign
  have big:(b r c).natAbs<=(b2 r c).natAbs:=by
   have d:=Ex (b:=b1) (r:=r1) (c:=c1) (i:=r) (j:=c) (Ne.symm hr) (Ne.symm hc);rw[<-e2]at d;unfold m2 at d;rw[corner2,corner]at d;exact Mi (y:=b1 r1 c1) (t:=b1 r1 c) (s:=b1 r c1) (t':=b2 r1 c) (s':=b2 r c1) (p:=b r c) (p':=b2 r c) d h1 neg lt ls
    (by rw[t2,<-mR];exact gP h1) (by rw[s2,<-mR];exact gP h1) (λz=>by rw[t2];exact Rb z) (λz=>by rw[s2];exact Rb z)
    (zkz h0 gt gs) (zkz h1 (by rw[t2];exact Dk _ h1) (by rw[s2];exact Dk _ h1))
  rcases Xr n l0.1 l1.1 l2.1 with a|a|a
  ·exact AH a.symm hr
  ·rcases Xr m l0.2.1 l1.2.1 l2.2.1 with g|g|g
   ·exact AH g.symm hc
   ·subst a;subst g;lia
   ·have x:=l2.cross o2 (e3 ▸ l3) (x:=b2 r1 c1) (.inl ⟨r1,l1.1,by rw[a];exact hr,by rw[g]⟩) (by rw[a,g,corner2,s2];exact Dk _ h1) (by rw[corner2];exact f1);rw[<-e3,corner2]at x;lia
  ·rcases Xr m l0.2.1 l1.2.1 l2.2.1 with g|g|g
   ·exact AH g.symm hc
   ·have x:=l2.cross o2 (e3 ▸ l3) (x:=b2 r1 c1) (.inr ⟨c1,l1.2.1,by rw[g];exact hc,by rw[a]⟩) (by rw[a,g,corner2,t2];exact Dk _ h1) (by rw[corner2];exact f1);rw[<-e3,corner2]at x;lia
   ·subst a;subst g;rw[corner2]at f1;lia
 ·--the same sign
  have key:(b2 r1 c≠0/\2*(b2 r1 c).natAbs<=(b1 r1 c).natAbs)\/(b2 r c1≠0/\2*(b2 r c1).natAbs<=(b1 r c1).natAbs):=by
   rcases o1 with⟨i,mi,hi,h⟩|⟨j,mj,hj,h⟩
   ·rcases Xr n l0.1 l1.1 mi with a|a|a
    ·exact AH a.symm hr
    ·subst a;rw[<-e2]at h;have nz:b1 i c1≠0:=λz=>h (by rw[s2];exact Rb z)
     exact .inr ⟨h,by rw[s2];exact zjm (zkz h0 gs pos) h1 (ls nz)⟩
    ·exact AH a hi
   ·rcases Xr m l0.2.1 l1.2.1 mj with a|a|a
    ·exact AH a.symm hc
    ·subst a;rw[<-e2]at h;have nz:b1 r1 j≠0:=λz=>h (by rw[t2];exact Rb z)
     exact .inl ⟨h,by rw[t2];exact zjm (zkz h0 gt pos) h1 (lt nz)⟩
    ·exact AH a hj
  rcases key with⟨nz,q⟩|⟨nz,q⟩
  ·have:=l2.2.2.2 r1 l1.1 c l0.2.1 nz;lia
  ·have:=l2.2.2.2 r l0.1 c1 l1.2.1 nz;lia
end
def bi (x y z:Bool):Int:=(if x then 1 else 0)-(if y&&z then 1 else 0)
def Wy (a b c d e f g h i:Int):Int:=a*(e*i-f*h)-b*(d*i-f*g)+c*(d*h-e*g)
theorem zqy:∀y0 y1 y2 z0 z1 z2:Bool,∀a b c d e f g h i:Bool,(Wy (bi a y0 z0) (bi b y0 z1) (bi c y0 z2) (bi d y1 z0) (bi e y1 z1) (bi f y1 z2) (bi g y2 z0) (bi h y2 z1) (bi i y2 z2)).natAbs<=3:=by decide+kernel
theorem iP {a:Int}(h:a=0\/a=1):∃A:Bool,a=if A then 1 else 0:=by
 rcases h with rfl|rfl
 ·exact⟨false,rfl⟩
 ·exact⟨true,rfl⟩
theorem Ws (x y z:Bool):((if x then 1 else 0:Int)-(if y then 1 else 0)*(if z then 1 else 0))=bi x y z:=by cases x<;>cases y<;>cases z<;>rfl
theorem Ag {y0 y1 y2 z0 z1 z2 a b c d e f g h i:Int}(hy0:y0=0\/y0=1)(hy1:y1=0\/y1=1)(hy2:y2=0\/y2=1)(hz0:z0=0\/z0=1)(hz1:z1=0\/z1=1)(hz2:z2=0\/z2=1)(ha:a=0\/a=1)(hb:b=0\/b=1)(hc:c=0\/c=1)(hd:d=0\/d=1)(he:e=0\/e=1)(hf:f=0\/f=1)(hg:g=0\/g=1)(hh:h=0\/h=1)(hi:i=0\/i=1):(Wy (a-y0*z0) (b-y0*z1) (c-y0*z2) (d-y1*z0) (e-y1*z1) (f-y1*z2) (g-y2*z0) (h-y2*z1) (i-y2*z2)).natAbs<=3:=by
 obtain⟨Y0,rfl⟩:=iP hy0;obtain⟨Y1,rfl⟩:=iP hy1;obtain⟨Y2,rfl⟩:=iP hy2;obtain⟨Z0,rfl⟩:=iP hz0;obtain⟨Z1,rfl⟩:=iP hz1;obtain⟨Z2,rfl⟩:=iP hz2;obtain⟨A,rfl⟩:=iP ha;obtain⟨B,rfl⟩:=iP hb;obtain⟨C,rfl⟩:=iP hc;obtain⟨D,rfl⟩:=iP hd;obtain⟨E,rfl⟩:=iP he;obtain⟨F,rfl⟩:=iP hf;obtain⟨G,rfl⟩:=iP hg;obtain⟨H,rfl⟩:=iP hh;obtain⟨I,rfl⟩:=iP hi;simp only[Ws];exact zqy Y0 Y1 Y2 Z0 Z1 Z2 A B C D E F G H I
def dO (l' l:AA Nat)(r:Nat):Prop:=∀i,i∈l'->i∈l/\i≠r
def Eb (Ro Co:AA Nat)(b:Nat->Nat->Int)(E:Nat):Prop:=∀i,i∈Ro->∀j,j∈Co->(b i j).natAbs<=E
section
variable {b:Nat->Nat->Int}{r c:Nat}{Ro Co Ro' Co':AA Nat}{M P D E:Nat}
theorem zq1 (l:Lst Ro Co b r c)(h:∀x:Int,(∃i,i∈Ro/\∃j,j∈Co/\x=b i j)->x.fmod (b r c)=0):¬Opn Ro Co b r c:=by
 rintro(⟨i,mi,hi,n⟩|⟨j,mj,hj,n⟩)
 ·rw[jI hi,mR]at n;exact n (h _ ⟨i,mi,c,l.2.1,rfl⟩)
 ·rw[iM hj,mR]at n;exact n (h _ ⟨r,l.1,j,mj,rfl⟩)
theorem Uk (l:Lst Ro Co b r c)(u:(b r c).natAbs=1):¬Opn Ro Co b r c:=
 zq1 l λx _=>by have:=gP (a:=x) l.2.2.1;rw[mR]at this;lia
theorem zlu (l:Lst Ro Co b r c)(h:Eb Ro Co b (b r c).natAbs):¬Opn Ro Co b r c:=
 zq1 l λx ⟨i,mi,j,mj,e⟩=>by
  by_cases z:x=0
  ·exact Rb z
  ·have h1:=h i mi j mj;have h2:=l.2.2.2 i mi j mj (by rw[<-e];exact z);rw[<-e]at h1 h2;have:b r c∣x:=Int.natAbs_dvd_natAbs.mp ⟨1,∅⟩;exact Int.fmod_eq_zero_of_dvd this
theorem Bg (o:¬Opn Ro Co b r c)(mi:i∈Ro)(hi:i≠r)(hj:j≠c):b r c*rnd b r c i j=m2 b r i c j:=by
 rw[Ly hi hj];have:rnd b r c i c=0:=Rl λn=>o (.inl ⟨i,mi,hi,n⟩)
 rw[this];simp
theorem Ov (l:Lst Ro Co b r c)(o:¬Opn Ro Co b r c)(hM:Mb Ro Co b M)(s1:dO Ro' Ro r)(s2:dO Co' Co c)(q:M<(E+1)*(b r c).natAbs):Eb Ro' Co' (rnd b r c) E:=by
 intro i mi j mj;obtain⟨a1,a2⟩:=s1 i mi;obtain⟨g1,g2⟩:=s2 j mj;have e:=Bg o a1 a2 g2;have h:=hM r l.1 i a1 c l.2.1 j g1;rw[<-e,qJ]at h;rcases Ib E (rnd b r c i j).natAbs with x|x
 ·have:=Nj (b r c).natAbs (show E+1<=(rnd b r c i j).natAbs from x);rw[Nat.mul_comm]at this;lia
 ·exact x
theorem Eb.mb (h:Eb Ro Co b E):Mb Ro Co b (2*(E*E)):=by
 intro i mi k mk j mj l ml;unfold m2;have a:=iF (h i mi j mj) (h k mk l ml);have a2:=iF (h i mi l ml) (h k mk j mj);exact bE (Mz a a2) ∅
theorem Eb.low (h:Eb Ro Co b E)(l:Lst Ro Co b r c):1<=(b r c).natAbs/\(b r c).natAbs<=E:=⟨by have:=l.2.2.1;lia,h r l.1 c l.2.1⟩
theorem Rf (h:∀i,i∈Ro->∀j,j∈Co->b i j=0\/b i j=1)(l:Lst Ro Co b r c):¬Opn Ro Co b r c/\(dO Ro' Ro r->dO Co' Co c->Eb Ro' Co' (rnd b r c) 1/\Db Ro' Co' (rnd b r c) 3):=by
 have one:b r c=1:=(h r l.1 c l.2.1).resolve_left l.2.2.1;have o:=Uk l (by rw[one];rfl);refine⟨o,λs1 s2=>?_⟩;have y:∀i,i∈Ro'->∀j,j∈Co'->rnd b r c i j=b i j-b i c*b r j:=λi mi j mj=>by
  have e:=Bg o (s1 i mi).1 (s1 i mi).2 (s2 j mj).2;unfold m2 at e;rw[one,Int.one_mul,Int.one_mul,qS (b r j)]at e;exact e
 constructor
 ·intro i mi j mj;rw[y i mi j mj];obtain⟨A,a⟩:=iP (h i (s1 i mi).1 j (s2 j mj).1);obtain⟨B,b'⟩:=iP (h i (s1 i mi).1 c l.2.1);obtain⟨C,c'⟩:=iP (h r l.1 j (s2 j mj).1);rw[a,b',c'];cases A<;>cases B<;>cases C<;>decide
 ·intro i mi k mk o' mo j mj l' ml q mq;unfold d3 m2;rw[y i mi j mj,y i mi l' ml,y i mi q mq,y k mk j mj,y k mk l' ml,y k mk q mq,y o' mo j mj,y o' mo l' ml,y o' mo q mq];have hh:=λi (mi:i∈Ro') j (mj:j∈Co')=>h i (s1 i mi).1 j (s2 j mj).1
  exact Ag (h i (s1 i mi).1 c l.2.1) (h k (s1 k mk).1 c l.2.1) (h o' (s1 o' mo).1 c l.2.1) (h r l.1 j (s2 j mj).1) (h r l.1 l' (s2 l' ml).1) (h r l.1 q (s2 q mq).1) (hh i mi j mj) (hh i mi l' ml) (hh i mi q mq) (hh k mk j mj) (hh k mk l' ml) (hh k mk q mq) (hh o' mo j mj) (hh o' mo l' ml) (hh o' mo q mq)
theorem Jn (l:Lst Ro Co b r c)(o:¬Opn Ro Co b r c)(hD:Db Ro Co b D)(s1:dO Ro' Ro r)(s2:dO Co' Co c):Mb Ro' Co' (rnd b r c) D:=by
 intro i mi k mk j mj q mq;have e:=zqQ (b:=b) (s1 i mi).2 (s1 k mk).2 (s2 j mj).2 (s2 q mq).2;have h:=hD r l.1 i (s1 i mi).1 k (s1 k mk).1 c l.2.1 j (s2 j mj).1 q (s2 q mq).1;rw[<-e]at h;have z:∀j,j∈Co'->rnd b r c r j=0:=λj mj=>Rl λn=>o (.inr ⟨j,(s2 j mj).1,(s2 j mj).2,n⟩)
 unfold d3 at h;rw[z j mj,z q mq,sX,Int.zero_mul,Int.zero_mul,Int.sub_zero,Int.add_zero]at h;exact zlj l.2.2.1 h
theorem Xl (h:Eb Ro Co b 1)(hD:Db Ro Co b 3)(l:Lst Ro Co b r c):¬Opn Ro Co b r c/\(dO Ro' Ro r->dO Co' Co c->Eb Ro' Co' (rnd b r c) 2/\Mb Ro' Co' (rnd b r c) 3):=by
 have lo:=h.low l;have o:=Uk l ∅;exact⟨o,λs1 s2=>⟨Ov l o h.mb s1 s2 ∅,Jn l o hD s1 s2⟩⟩
theorem Si (h:Eb Ro Co b 2)(hM:Mb Ro Co b 3)(l:Lst Ro Co b r c):¬Opn Ro Co b r c/\(dO Ro' Ro r->dO Co' Co c->Eb Ro' Co' (rnd b r c) 3):=by
 have lo:=h.low l;have o:¬Opn Ro Co b r c:=by
  rcases Ib (b r c).natAbs 2 with g|g
  ·exact Uk l ∅
  ·exact zlu l (by rw[show(b r c).natAbs=2 by lia];exact h)
 exact⟨o,λs1 s2=>Ov l o hM s1 s2 ∅⟩
theorem Pp (h:Eb Ro Co b 3)(l:Lst Ro Co b r c):(Opn Ro Co b r c->Eb Ro Co (rnd b r c) 9/\∃i,i∈Ro/\∃j,j∈Co/\(rnd b r c i j).natAbs=1)/\(¬Opn Ro Co b r c->dO Ro' Ro r->dO Co' Co c->Eb Ro' Co' (rnd b r c) 90):=by
 have lo:=h.low l;refine⟨λo=>?_,λo s1 s2=>Ov l o h.mb s1 s2 ∅⟩;have two:(b r c).natAbs=2:=by
  rcases Ib (b r c).natAbs 2 with g|g
  ·exact AH o (Uk l ∅)
  rcases Ib (b r c).natAbs 3 with g'|g'
  ·lia
  ·exact AH o (zlu l (by rw[show(b r c).natAbs=3 by lia];exact h))
 constructor
 ·intro i mi j mj
  by_cases hi:i=r
  ·subst hi
   by_cases hj:j=c
   ·subst hj;rw[sX];lia
   ·rw[iM hj];have:=gP (a:=b i j) l.2.2.1;lia
  ·by_cases hj:j=c
   ·subst hj;rw[jI hi];have:=gP (a:=b i j) l.2.2.1;lia
   ·have e:=Ly (b:=b) hi hj;have h1:=h.mb r l.1 i mi c l.2.1 j mj;have h2:(rnd b r c i c).natAbs<=1:=by rw[jI hi];have:=gP (a:=b i c) l.2.2.1;lia
    have h3:(rnd b r c r j).natAbs<=1:=by rw[iM hj];have:=gP (a:=b r j) l.2.2.1;lia
    have h4:=iF h2 h3;have h5:=zj2 (m2 b r i c j) (rnd b r c i c*rnd b r c r j);rw[<-e,qJ,two]at h5;lia
 ·obtain⟨i,mi,j,mj,n,lt⟩:=o.small l.2.2.1 l.1 l.2.1;exact⟨i,mi,j,mj,∅⟩
theorem Bv (h:Eb Ro Co b 9)(u:∃i,i∈Ro/\∃j,j∈Co/\(b i j).natAbs=1)(l:Lst Ro Co b r c):¬Opn Ro Co b r c/\(dO Ro' Ro r->dO Co' Co c->Eb Ro' Co' (rnd b r c) 162):=by
 have lo:=h.low l;obtain⟨i,mi,j,mj,e⟩:=u;have:=l.2.2.2 i mi j mj ∅;have o:=Uk l ∅;exact⟨o,λs1 s2=>Ov l o h.mb s1 s2 ∅⟩
end
def zR (Ro Co:AA Nat):Nat->(Nat->Nat->Int)->Prop
 |0,b=>∀r c,Lst Ro Co b r c->¬Opn Ro Co b r c
 |N+1,b=>∀r c,Lst Ro Co b r c->Opn Ro Co b r c->zR Ro Co N (rnd b r c)
section
variable {b:Nat->Nat->Int}{r c:Nat}{Ro Co Ro' Co':AA Nat}{E N s:Nat}
theorem Dt (n:Ro.length<=2)(m:Co.length<=2):∀(e:Nat) (b:Nat->Nat->Int),(∀r c,Lst Ro Co b r c->(b r c).natAbs<2^e)->zR Ro Co (3*e) b
 |0,b,h=>λr c l _=>by have:=h r c l;have:=l.2.2.1;lia
 |e+1,b,h=>by
  show zR Ro Co (3*e+1+1+1) b;intro r c l o r1 c1 l1 o1 r2 c2 l2 o2;refine Dt n m e _ λr3 c3 l3=>?_
  have h3:=Ph n m l o rfl l1 o1 rfl l2 o2 rfl l3;have:=h r c l;rw[Ed]at this;lia
theorem Eb.db (h:Eb Ro Co b E):Db Ro Co b (6*(E*E*E)):=by
 intro i mi k mk o mo j mj l ml q mq;unfold d3;have m:=h.mb;have p:∀{x y:Int},x.natAbs<=E->y.natAbs<=2*(E*E)->(x*y).natAbs<=2*(E*E*E):=λ{x y} hx hy=>by
  have:=iF hx hy;have e:E*(2*(E*E))=2*(E*E*E):=by rw[Nat.mul_left_comm,Nat.mul_assoc]
  lia
 have a1:=p (h i mi j mj) (m k mk o mo l ml q mq);have a2:=p (h i mi l ml) (m k mk o mo j mj q mq);have a3:=p (h i mi q mq) (m k mk o mo j mj l ml);exact bE (pD (Mz a1 a2) a3) ∅
theorem Eb.le (h:Eb Ro Co b E)(l:E<=F):Eb Ro Co b F:=λi mi j mj=>bE (h i mi j mj) l
theorem Db.le (h:Db Ro Co b E)(l:E<=F):Db Ro Co b F:=λi mi k mk o mo j mj q mq u mu=>bE (h i mi k mk o mo j mj q mq u mu) l
end
def U4:Nat:=25614144
def D4:Nat:=25509168
def E4:Nat:=U4*5^162+26406
def E5:Nat:=U4*5^162
def M5:Nat:=2*(E5*E5)
def F5:Nat:=M5+E5*E5+E5
def Nx (s:Nat):Nat:=if s=3 then 1 else if s=4 then 162 else if s=5 then 1206 else 0
theorem Xo:E5<2^402:=by decide+kernel
theorem Bl:F5<2^811:=by decide+kernel
theorem Ut:E4<2^811:=by decide+kernel
theorem Xz:D4+4*(162*162)<=U4:=by decide
def Stg (s:Nat)(Ro Co:AA Nat)(b:Nat->Nat->Int)(N:Nat):Prop:=Ro.length<=7-s/\Co.length<=7-s/\match s with
 |0=>N=0/\∀i,i∈Ro->∀j,j∈Co->b i j=0\/b i j=1
 |1=>N=0/\Eb Ro Co b 1/\Db Ro Co b 3
 |2=>N=0/\Eb Ro Co b 2/\Mb Ro Co b 3
 |3=>(N=1/\Eb Ro Co b 3)\/(N=0/\Eb Ro Co b 9/\∃i,i∈Ro/\∃j,j∈Co/\(b i j).natAbs=1)
 |4=>∃k,N+k=162/\Db Ro Co b D4/\Mb Ro Co b (U4*5^k)/\Eb Ro Co b E4/\(k=0->Eb Ro Co b 162)/\(0<k->∃i,i∈Ro/\∃j,j∈Co/\b i j≠0/\(b i j).natAbs+k<=162)
 |5=>Mb Ro Co b M5/\Eb Ro Co b F5/\zR Ro Co N b/\∀r c,Lst Ro Co b r c->(b r c).natAbs<=E5
 |6=>N=0/\Eb Ro Co b M5
 |_=>N=0
section
variable {b:Nat->Nat->Int}{r c:Nat}{Ro Co Ro' Co':AA Nat}{E N s:Nat}
theorem Stg.ent (h:Stg s Ro Co b N):Eb Ro Co b (2^811):=by
 obtain⟨h1,h2,h⟩:=h;have f:=Bl
 match s,h with
 |0,h=>exactλi mi j mj=>by rcases h.2 i mi j mj with e|e<;>(rw[e];decide+kernel)
 |1,h=>exact h.2.1.le (by decide+kernel)
 |2,h=>exact h.2.1.le (by decide+kernel)
 |3,h=>
  rcases h with h|h
  ·exact h.2.le (by decide+kernel)
  ·exact h.2.1.le (by decide+kernel)
 |4,h=>obtain⟨k,_,_,_,h,_⟩:=h;exact h.le (lW Ut)
 |5,h=>exact h.2.1.le (lW Bl)
 |6,h=>exact h.2.le (by unfold F5 at f;lia)
 |s+7,h=>
  intro i mi;have:Ro=[]:=List.length_eq_zero_iff.mp ∅;subst this;exact AH mi Od
theorem Vj (h:k<=162):U4*5^k<=E5:=Nj _ (Yq (by decide) h)
theorem Stg.step (S:Stg s Ro Co b N)(l:Lst Ro Co b r c):(Opn Ro Co b r c->∃N',N=N'+1/\Stg s Ro Co (rnd b r c) N')/\
  (¬Opn Ro Co b r c->∀Ro' Co',dO Ro' Ro r->dO Co' Co c->Ro'.length<=6-s->Co'.length<=6-s->Stg (s+1) Ro' Co' (rnd b r c) (Nx (s+1))):=by
 obtain⟨h1,h2,S⟩:=S;have lr:0<Ro.length:=List.length_pos_of_mem l.1
 match s,S,h1,h2 with
 |0,S,h1,h2=>
  obtain⟨e,S⟩:=S;refine⟨λo=>?_,λo Ro' Co' s1 s2 l1 l2=>?_⟩
  ·exact AH o (Rf (Ro':=[]) (Co':=[]) S l).1
  ·have:=(Rf (Ro':=Ro') (Co':=Co') S l).2 s1 s2;exact⟨l1,l2,rfl,this⟩
 |1,S,h1,h2=>
  obtain⟨e,S,D⟩:=S;refine⟨λo=>?_,λo Ro' Co' s1 s2 l1 l2=>?_⟩
  ·exact AH o (Xl (Ro':=[]) (Co':=[]) S D l).1
  ·exact⟨l1,l2,rfl,(Xl (Ro':=Ro') (Co':=Co') S D l).2 s1 s2⟩
 |2,S,h1,h2=>
  obtain⟨e,S,D⟩:=S;refine⟨λo=>?_,λo Ro' Co' s1 s2 l1 l2=>?_⟩
  ·exact AH o (Si (Ro':=[]) (Co':=[]) S D l).1
  ·exact⟨l1,l2,.inl ⟨rfl,(Si (Ro':=Ro') (Co':=Co') S D l).2 s1 s2⟩⟩
 |3,S,h1,h2=>
  have go:∀{Ro' Co':AA Nat},Ro'.length<=6-3->Co'.length<=6-3->Eb Ro' Co' (rnd b r c) 162->Stg 4 Ro' Co' (rnd b r c) (Nx 4):=λ{Ro' Co'} l1 l2 e=>
   ⟨l1,l2,0,rfl,e.db.le (by decide),e.mb.le (by decide),e.le (by decide+kernel),λ_=>e,λh=>AH h (by decide)⟩
  rcases S with⟨e,S⟩|⟨e,S,u⟩
  ·refine⟨λo=>?_,λo Ro' Co' s1 s2 l1 l2=>?_⟩
   ·obtain⟨g1,g2⟩:=(Pp (Ro':=[]) (Co':=[]) S l).1 o;exact⟨0,e,h1,h2,.inr ⟨rfl,g1,g2⟩⟩
   ·exact go l1 l2 (((Pp (Ro':=Ro') (Co':=Co') S l).2 o s1 s2).le (by decide))
  ·refine⟨λo=>?_,λo Ro' Co' s1 s2 l1 l2=>?_⟩
   ·exact AH o (Bv (Ro':=[]) (Co':=[]) S u l).1
   ·exact go l1 l2 ((Bv (Ro':=Ro') (Co':=Co') S u l).2 s1 s2)
 |4,S,h1,h2=>
  obtain⟨k,e,D,M,En,k0,k1⟩:=S;have I:I3 Ro Co 162 D4 U4 k b:=by
   refine⟨D,M,?_⟩
   by_cases h:k=0
   ·exact⟨r,l.1,c,l.2.1,l.2.2.1,by have:=k0 h r l.1 c l.2.1;lia⟩
   ·exact k1 ∅
  refine⟨λo=>?_,λo Ro' Co' s1 s2 l1 l2=>?_⟩
  ·obtain⟨D',M',u⟩:=I.step ∅ ∅ Xz l o;have low:=u;obtain⟨i,mi,j,mj,nz,le⟩:=low;refine⟨N-1,∅,h1,h2,k+1,∅,D',M',λi mi j mj=>?_,λh=>∅,λ_=>u⟩;have:=I.ent l mi mj;have m5:=Vj (k:=k) ∅;unfold E4;unfold E5 at m5;lia
  ·have m5:=Vj (k:=k) ∅;have e5:Eb Ro' Co' (rnd b r c) E5:=Ov l o M s1 s2 (by
    have:1<=(b r c).natAbs:=by have:=l.2.2.1;lia
    have:=Nj (E5+1) this;lia)
   refine⟨l1,l2,e5.mb,e5.le (by unfold F5;lia),Dt l1 l2 402 _ λr c l=>?_,λr c l=>e5 r l.1 c l.2.1⟩;exact tO (e5 r l.1 c l.2.1) Xo
 |5,S,h1,h2=>
  obtain⟨M,En,Lf,co⟩:=S;refine⟨λo=>?_,λo Ro' Co' s1 s2 l1 l2=>?_⟩
  ·cases N with
   |zero=>exact AH o (Lf r c l)
   |succ N=>
    refine⟨N,rfl,h1,h2,yX ∅ ∅ l.1 l.2.1 M,λi mi j mj=>zqX l.1 l.2.1 l.2.2.1 (co r c l) M mi mj,Lf r c l o,λr' c' l'=>?_⟩;have:=l.fall o l';have:=co r c l;lia
  ·refine⟨l1,l2,rfl,Ov l o M s1 s2 ?_⟩;have:1<=(b r c).natAbs:=by have:=l.2.2.1;lia
   have:=Nj (M5+1) this;lia
 |6,S,h1,h2=>
  have one:∀{l:AA Nat} {x y:Nat},l.length<=1->x∈l->y∈l->x=y:=λ{l x y} h hx hy=>by
   match l,h with
   |[],_=>simp at hx
   |[a],_=>simp at hx hy;lia
   |_::_::_,h=>simp at h
  refine⟨λo=>?_,λo Ro' Co' s1 s2 l1 l2=>⟨l1,l2,rfl⟩⟩;rcases o with⟨i,mi,hi,_⟩|⟨j,mj,hj,_⟩
  ·exact AH (one ∅ mi l.1) hi
  ·exact AH (one ∅ mj l.2.1) hj
 |s+7,S,h1,h2=>lia
end
theorem rS (h:x.natAbs<=2^e)(he:e<59999999):x.natAbs.log2<60000000:=by
 by_cases h0:x.natAbs=0
 ·rw[h0];decide
 ·have h1:x.natAbs<2^(e+1):=by rw[Ed];have:=Vc e;lia
  have:=(Vg h0).mpr h1;lia
theorem cI (hx:x.natAbs<=2^a)(hy:y.natAbs<=2^e)(ha:a<59999999)(he:e<59999999):jC x y=true:=by
 unfold jC;rw[gW (rS hx ha),gW (rS hy he)];rfl
theorem zX (h0:x≠0)(h:x.natAbs<=2^811):Dx x=true:=by
 unfold Dx;have h1:x.natAbs<2^812:=by rw[show(2:Nat)^812=2^811*2 from rfl];have:=Vc 811;lia
 have:x.natAbs.log2<9000:=by have:=(Vg (show x.natAbs≠0 by lia)).mpr h1;lia
 rw[gW h0,gW this];rfl
theorem Dw (x:Int)(h:p≠0):(x.fdiv p).natAbs<=x.natAbs:=by
 have pos:∀x p:Int,0<p->(x.fdiv p).natAbs<=x.natAbs:=λx p h=>by
  rw[Za x ∅];exact Int.natAbs_ediv_le_natAbs x p
 rcases Mj h with h|h
 ·have:=pos (-x) (-p) ∅;rwa[Int.neg_fdiv_neg,jF]at this
 ·exact pos x p h
def dI (b:Mx)(r c:Nat)(l:AA Nat):Mx:=λi j=>if i∈l then b i j-(b i c).fdiv (b r c)*b r j else b i j
def gF (b:Mx)(r c:Nat)(l:AA Nat):Mx:=λi j=>if j∈l then b i j-(b r j).fdiv (b r c)*b i c else b i j
def Bn (e t n:Nat)(w v k:Mx):Prop:=(∀i j,i<t->j<t->(w i j).natAbs<=2^e)/\(∀i j,i<n->j<n->(v i j).natAbs<=2^e)/\∀i j,i<n->j<n->(k i j).natAbs<=2^e
theorem Pw (hx:x.natAbs<=2^e)(hy:y.natAbs<=2^e)(hq:q.natAbs<=2^811):(x-q*y).natAbs<=2^(e+812):=by
 have h1:=iF hq hy;have h2:(2:Nat)^(e+812)=2^811*2^e+2^811*2^e:=by
  rw[sF,show(2:Nat)^812=2^811+2^811 by decide,Nat.mul_add,Nat.mul_comm]
 have h3:2^e<=2^811*2^e:=qds _ (Vc 811);rw[h2];exact Mz (bE hx h3) h1
theorem eZ {e f:Nat}(h:e<=f):(2:Nat)^e<=2^f:=Yq (by decide) h
section
variable {t n e f r o c:Nat}{A b w v k:Mx}{q:Int}{s:AA (Nat×Nat)}
theorem Bn.le (h:Bn e t n w v k)(l:e<=f):Bn f t n w v k:=⟨λi j hi hj=>bE (h.1 i j hi hj) (eZ l),λi j hi hj=>bE (h.2.1 i j hi hj) (eZ l),λi j hi hj=>bE (h.2.2 i j hi hj) (eZ l)⟩
theorem zk7 (h:∀i j,i<m->j<f->(w i j).natAbs<=2^e)(ho:o<m)(hq:q.natAbs<=2^811):∀i j,i<m->j<f->(fZ w r o q i j).natAbs<=2^(e+812):=λi j hi hj=>by
 unfold fZ
 split
 ·rename_i z;rw[<-z];exact Pw (h i j hi hj) (h o j ho hj) hq
 ·exact bE (h i j hi hj) (eZ ∅)
theorem Bn.row (h:Bn e t n w v k)(ho:o<t)(hq:q.natAbs<=2^811):Bn (e+812) t n (fZ w r o q) v k:=
 ⟨zk7 h.1 ho hq,λi j hi hj=>bE (h.2.1 i j hi hj) (eZ ∅),λi j hi hj=>bE (h.2.2 i j hi hj) (eZ ∅)⟩
theorem Bn.col (h:Bn e t n w v k)(hc:c<n)(ho:o<n)(hq:q.natAbs<=2^811):Bn (e+812) t n w (fZ v c o q) (fZ k o c (-q)):=
 ⟨λi j hi hj=>bE (h.1 i j hi hj) (eZ ∅),zk7 h.2.1 ho hq,zk7 h.2.2 hc (by rw[jF];exact hq)⟩
theorem zpU (hr:r∉l)(ho:o∉l)(hor:o≠r):fZ (dI b r c l) o r ((dI b r c l o c).fdiv (dI b r c l r c))=dI b r c (l++[o]):=by
 have e:∀i j,i∉l->dI b r c l i j=b i j:=λi j h=>by unfold dI;rw[if_neg h]
 funext i j
 unfold fZ;rw[e o c ho,e r c hr,e o j ho,e r j hr]
 by_cases h:i=o
 ·subst h;rw[if_pos rfl];unfold dI;rw[if_pos (by simp)]
 ·rw[if_neg h];unfold dI
  by_cases h2:i∈l
  ·rw[if_pos h2,if_pos (by simp[h2])]
  ·rw[if_neg h2,if_neg (by simp[h2,h])]
theorem zpF (hc:c∉l)(ho:o∉l)(hoc:o≠c):Ow (gF b r c l) o c ((gF b r c l r o).fdiv (gF b r c l r c))=gF b r c (l++[o]):=by
 have e:∀i j,j∉l->gF b r c l i j=b i j:=λi j h=>by unfold gF;rw[if_neg h]
 funext i j
 unfold Ow;rw[e r o ho,e r c hc,e i o ho,e i c hc]
 by_cases h:j=o
 ·subst h;rw[if_pos rfl];unfold gF;rw[if_pos (by simp)]
 ·rw[if_neg h];unfold gF
  by_cases h2:j∈l
  ·rw[if_pos h2,if_pos (by simp[h2])]
  ·rw[if_neg h2,if_neg (by simp[h2,h])]
def Pn (s:Sl):Prop:=∀x,lT s x=true
theorem znD:Pn .emp:=λx=>by cases x<;>rfl
theorem Rx (d:D):Pn (.val d):=λx=>by cases x<;>rfl
theorem vR (t1:1<=t)(n1:1<=n)(t7:t<=7)(n7:n<=7)(I:Inv t n A b w v k)(B:Bn e t n w v k)(he:e<=30000000)(eb:∀i,i<t->∀j,j<n->(b i j).natAbs<=2^811)(hr:r<t)(hc:c<n)(nz:b r c≠0){l:AA Nat}(nd:l.Nodup)(lt:∀o∈l,o<t)(hrl:r∉l)(ll:l.length<=7)(d4:D)(s5:Sl)(p5:Pn s5){Q:Fl×R->Prop}(hq:∀w' s5,Pn s5->Inv t n A (dI b r c l) w' v k->Bn (e+5684) t n w' v k->Q (.next,[oT t n (dI b r c l) w' v k s,.val (.int (r:Nat)),.val (.int (c:Nat)),.val (.lst (l.map λi=> .int (i:Nat))),.val d4,s5])):
  Ok (zcv [oT t n b w v k s,.val (.int (r:Nat)),.val (.int (c:Nat)),.val (.lst (l.map λi=> .int (i:Nat))),.val d4,s5]) Q:=by
 simp![↓zcv];refine Uo (enc:=λi:Nat=>D.int (i:Nat)) (l:=l) (λi ρ=>∃w' s5,Pn s5/\Inv t n A (dI b r c (l.take i)) w' v k/\Bn (e+812*i) t n w' v k/\ρ=[oT t n (dI b r c (l.take i)) w' v k s,.val (.int (r:Nat)),.val (.int (c:Nat)),.val (.lst (l.map λi=> .int (i:Nat))),.val d4,s5]) ⟨w,s5,p5,?_,B,?_⟩ ?_ ?_
 ·have:dI b r c (l.take 0)=b:=by funext i j;unfold dI;simp
  rw[this];exact I
 ·have:dI b r c (l.take 0)=b:=by funext i j;unfold dI;simp
  rw[this]
 ·rintro i o _ hi ⟨w',s5,p5,I',B',rfl⟩;have hil:i<l.length:=(qas.mp hi).1;have ho:o∈l:=gI hi;have hot:=lt o ho;have hor:o≠r:=λz=>hrl (z ▸ ho)
  have hrt:r∉l.take i:=λz=>hrl (Sz z)
  have hoi:o∉l.take i:=λz=>by
   obtain⟨j,hj,e⟩:=qc0.mp z;simp only[kA]at hj;rw[List.getElem_take]at e;have e2:l[i]'hil=o:=(qas.mp hi).2;have:=(List.getElem_inj nd).mp (e.trans e2.symm);lia
  have eq0:∀i' j,i'∉l.take i->dI b r c (l.take i) i' j=b i' j:=λi' j h=>by unfold dI;rw[if_neg h]
  have qb:((b o c).fdiv (b r c)).natAbs<=2^811:=bE (Dw _ nz) (eb o hot c hc);have st:=zpU (b:=b) (c:=c) hrt hoi hor;rw[eq0 o c hoi,eq0 r c hrt]at st;have tk:l.take (i+1)=l.take i++[o]:=by rw[Yg,hi];rfl
  simp![↓zeV];rw[zjz rfl rfl];simp![];rw[zG rfl rfl (lZ t1 n1)];simp![g0,bY _ hot,bY _ hr,bY _ hc,eq0 o c hoi,eq0 r c hrt];refine⟨zX nz (eb r hr c hc),⟨rfl,rfl⟩,?_⟩;refine(zmW t1 n1 ∅ ∅ hot hr (λj hj=>?_) (λj hj=>?_)).mono ?_
  ·rw[eq0 r j hrt];exact cI qb (eb r hr j hj) ∅ ∅
  ·exact cI qb (B'.1 r j hr hj) ∅ ∅
  rintro _ rfl;simp![];rw[st,tk];refine⟨_,_,Rx _,?_,?_,rfl⟩
  ·rw[<-st];exact I'.row hot hr hor _
  ·exact(B'.row hr qb).le ∅
 ·rintro _ ⟨w',s5,p5,I',B',rfl⟩;rw[Vp]at*;exact hq w' s5 p5 I' (B'.le ∅)
theorem zE (t1:1<=t)(n1:1<=n)(t7:t<=7)(n7:n<=7)(I:Inv t n A b w v k)(B:Bn e t n w v k)(he:e<=30000000)(eb:∀j,j<n->(b r j).natAbs<=2^811)(ec:∀i,i<t->(b i c).natAbs<=2^2000)(hr:r<t)(hc:c<n)(nz:b r c≠0){l:AA Nat}(nd:l.Nodup)(lt:∀o∈l,o<n)(hcl:c∉l)(ll:l.length<=7)(d3:D)(s5:Sl)(p5:Pn s5){Q:Fl×R->Prop}(hq:∀v' k' s5,Pn s5->Inv t n A (gF b r c l) w v' k'->Bn (e+5684) t n w v' k'->Q (.next,[oT t n (gF b r c l) w v' k' s,.val (.int (r:Nat)),.val (.int (c:Nat)),.val d3,.val (.lst (l.map λi=> .int (i:Nat))),s5])):
  Ok (zcr [oT t n b w v k s,.val (.int (r:Nat)),.val (.int (c:Nat)),.val d3,.val (.lst (l.map λi=> .int (i:Nat))),s5]) Q:=by
 simp![↓zcr];refine Uo (enc:=λi:Nat=>D.int (i:Nat)) (l:=l) (λi ρ=>∃v' k' s5,Pn s5/\Inv t n A (gF b r c (l.take i)) w v' k'/\Bn (e+812*i) t n w v' k'/\ρ=[oT t n (gF b r c (l.take i)) w v' k' s,.val (.int (r:Nat)),.val (.int (c:Nat)),.val d3,.val (.lst (l.map λi=> .int (i:Nat))),s5]) ⟨v,k,s5,p5,?_,B,?_⟩ ?_ ?_
 ·have:gF b r c (l.take 0)=b:=by funext i j;unfold gF;simp
  rw[this];exact I
 ·have:gF b r c (l.take 0)=b:=by funext i j;unfold gF;simp
  rw[this]
 ·rintro i o _ hi ⟨v',k',s5,p5,I',B',rfl⟩;have hil:i<l.length:=(qas.mp hi).1;have ho:o∈l:=gI hi;have hot:=lt o ho;have hoc:o≠c:=λz=>hcl (z ▸ ho)
  have hct:c∉l.take i:=λz=>hcl (Sz z)
  have hoi:o∉l.take i:=λz=>by
   obtain⟨j,hj,e⟩:=qc0.mp z;simp only[kA]at hj;rw[List.getElem_take]at e;have e2:l[i]'hil=o:=(qas.mp hi).2;have:=(List.getElem_inj nd).mp (e.trans e2.symm);lia
  have eq0:∀i' j,j∉l.take i->gF b r c (l.take i) i' j=b i' j:=λi' j h=>by unfold gF;rw[if_neg h]
  have qb:((b r o).fdiv (b r c)).natAbs<=2^811:=bE (Dw _ nz) (eb o hot);have st:=zpF (b:=b) (r:=r) hct hoi hoc;rw[eq0 r o hoi,eq0 r c hct]at st;have tk:l.take (i+1)=l.take i++[o]:=by rw[Yg,hi];rfl
  simp![↓zeL];rw[zjz rfl rfl];simp![];rw[zG rfl rfl (lZ t1 n1)];simp![g0,bY _ hot,bY _ hr,bY _ hc,eq0 r o hoi,eq0 r c hct];refine⟨zX nz (eb c hc),⟨rfl,rfl⟩,?_⟩;refine(zjP t1 n1 ∅ ∅ hot hc (λj hj=>?_) (λj hj=>?_) (λj hj=>?_)).mono ?_
  ·rw[eq0 j c hct];exact cI qb (ec j hj) ∅ ∅
  ·exact cI qb (B'.2.1 c j hc hj) ∅ ∅
  ·exact cI (by rw[jF];exact qb) (B'.2.2 o j hot hj) ∅ ∅
  rintro _ rfl;simp![];rw[st,tk];refine⟨_,_,_,Rx _,?_,?_,rfl⟩
  ·rw[<-st];exact I'.col hot hc hoc _
  ·exact(B'.col hot hc qb).le ∅
 ·rintro _ ⟨v',k',s5,p5,I',B',rfl⟩;rw[Vp]at*;exact hq v' k' s5 p5 I' (B'.le ∅)
end
def rest (l:AA Nat)(r:Nat):AA Nat:=l.filter λi=>i !=r
theorem zp6 (l:AA Nat)(r:Nat):l.filterMap (λi=>if i=r then none else some (D.int (i:Nat)))=(rest l r).map λi=>D.int (i:Nat):=by
 unfold rest;rw[<-Of,<-Yl,Qa];exact Ox _ λi _=>by by_cases h:i=r<;>simp[h,Option.guard]
def iK (b:Mx)(r c:Nat)(Ro Co:AA Nat):Mx:=gF (dI b r c (rest Ro r)) r c (rest Co c)
theorem znW (l:AA Nat):(l.map λi=>D.int (i:Nat)).all Ea=true:=by
 rw[qch];intro d hd;obtain⟨i,_,rfl⟩:=qci.mp hd
 rfl
section
variable {t n e r c:Nat}{A b w v k:Mx}{s:AA (Nat×Nat)}
theorem mem_rest:i∈rest l r↔i∈l/\i≠r:=by unfold rest;rw[qag];simp
theorem Mp (l:AA Nat)(r:Nat):r∉rest l r:=λh=>(mem_rest.mp h).2 rfl
theorem zpu (h:l.Nodup)(r:Nat):(rest l r).Nodup:=qdg _ h
theorem Mm (t:Nat)(s:AA (Nat×Nat)):(opR t s).Nodup:=qdg _ List.nodup_range
theorem Fo (t:Nat)(s:AA (Nat×Nat)):(opC t s).Nodup:=qdg _ List.nodup_range
theorem Oq {Ro Co:AA Nat}(hi:i∈Ro)(hj:j∈Co):iK b r c Ro Co i j=rnd b r c i j:=by
 have rr:∀j,dI b r c (rest Ro r) r j=b r j:=λj=>by unfold dI;rw[if_neg (Mp _ _)]
 unfold iK gF;rw[rr,rr]
 by_cases h1:i=r
 ·subst h1;rw[rr,rr]
  by_cases h2:j=c
  ·subst h2;rw[if_neg (Mp _ _),sX]
  ·rw[if_pos (mem_rest.mpr ⟨hj,h2⟩),iM h2]
 ·have ri:∀j,dI b r c (rest Ro r) i j=b i j-(b i c).fdiv (b r c)*b r j:=λj=>by unfold dI;rw[if_pos (mem_rest.mpr ⟨hi,h1⟩)]
  rw[ri,ri]
  by_cases h2:j=c
  ·subst h2;rw[if_neg (Mp _ _),jI h1]
  ·rw[if_pos (mem_rest.mpr ⟨hj,h2⟩),Nb h1 h2]
theorem yK (s:AA (Nat×Nat))(r c:Nat)(h:∀p∈s,p.1≠r):gY (sk s).1 (sk s).2 (r:Int) (.int (c:Nat))=sk (s++[(r,c)]):=by
 unfold gY;have:(sk s).1.contains (r:Int)=false:=by
  cases q:(sk s).1.contains (r:Int)with
  |false=>rfl
  |true=>
   obtain⟨p,hp,e⟩:=qci.mp (qcX.mp q);exact AH (by have e:((p.1:Nat):Int)=r:=e;lia) (h p hp)
 rw[this];simp[sk]
theorem zml (l:AA Nat)(f:Nat->Int):fL (l.map λi=> .int (f i))=some (l.map f):=by
 have:(l.map λi=>D.int (f i))=(l.map f).map .int:=by rw[gC];rfl
 rw[this,Ug]
theorem zjM (t1:1<=t)(n1:1<=n)(t7:t<=7)(n7:n<=7)(I:Inv t n A b w v k)(B:Bn e t n w v k)(he:e<=20000000)(eb:∀i,i<t->∀j,j<n->(b i j).natAbs<=2^811)(hd:s.Pairwise λp q=>p.1≠q.1)(hs:s.length<=7)(hr:r∈opR t s)(hc:c∈opC n s)(nz:b r c≠0):
  Ok (Pq [oT t n b w v k s,.val (.int (r:Nat)),.val (.int (c:Nat))]) λx=>∃w' v' k' s',Inv t n A (iK b r c (opR t s) (opC n s)) w' v' k'/\Bn (e+11368) t n w' v' k'/\x=(.val .non,[oT t n (iK b r c (opR t s) (opC n s)) w' v' k' s',.emp,.emp])/\
   ((Opn (opR t s) (opC n s) b r c/\s'=s)\/(¬Opn (opR t s) (opC n s) b r c/\s'=s++[(r,c)])):=by
 have hrt:=As hr;have hcn:=uE hc;have lR:(rest (opR t s) r).length<=7:=bE (Dl _ _) (bE (zks t s) t7);have lC:(rest (opC n s) c).length<=7:=bE (Dl _ _) (bE (zky n s) n7);simp![↓Pq,↓zen];rw[zmL rfl rfl (lZ t1 n1)];simp![↓zeH];rw[Oi rfl];simp![];refine(zhQ ∅).mono ?_;rintro _ rfl;simp![];refine⟨by have:=zks t s;lia,Qj (enc:=λi:Nat=>D.int (i:Nat)) (λρ=>∃y,ρ=[.val (.int (r:Nat)),y]) (λi=>if i=r then none else some (D.int (i:Nat))) ⟨_,rfl⟩ ?_ ?_⟩
 ·rintro i _ hi ⟨y,rfl⟩;simp![↓zeK,↓zeG];refine⟨λh=>⟨?_,_,rfl⟩,λh=>⟨?_,_,rfl⟩⟩
  ·rw[if_neg ∅]
  ·rw[if_pos ∅]
 rintro _ ⟨y,rfl⟩;simp![zp6];refine⟨⟨znW _,rfl⟩,?_⟩;rw[zmL rfl rfl (lZ t1 n1)];simp![↓zeE];rw[Oi rfl];simp![];refine(zfJ ∅ ∅ hd).mono ?_;rintro _ rfl;simp![];refine⟨by have:=zky n s;lia,Qj (enc:=λi:Nat=>D.int (i:Nat)) (λρ=>∃y,ρ=[.val (.int (c:Nat)),y]) (λi=>if i=c then none else some (D.int (i:Nat))) ⟨_,rfl⟩ ?_ ?_⟩
 ·rintro i _ hi ⟨y,rfl⟩;simp![↓zeO,↓zeM];refine⟨λh=>⟨?_,_,rfl⟩,λh=>⟨?_,_,rfl⟩⟩
  ·rw[if_neg ∅]
  ·rw[if_pos ∅]
 rintro _ ⟨y,rfl⟩;simp![zp6];refine⟨⟨znW _,rfl⟩,?_⟩;refine vR t1 n1 t7 n7 I B ∅ eb hrt hcn nz (zpu (Mm t s) r) (λo ho=>As (mem_rest.mp ho).1) (Mp _ _) lR _ _ znD λw1 s5 p5 I1 B1=>?_
 simp![];have rr:∀j,dI b r c (rest (opR t s) r) r j=b r j:=λj=>by unfold dI;rw[if_neg (Mp _ _)]
 have bc:∀i,i<t->(dI b r c (rest (opR t s) r) i c).natAbs<=2^2000:=λi hi=>by
  unfold dI;have h1:=eb i hi c hcn;have up:(2:Nat)^811<=2^2000:=eZ ∅
  split
  ·have h2:=iF (Dw (b i c) nz) (eb r hrt c hcn);have h3:(b i c).natAbs*2^811<=2^811*2^811:=qdt _ h1;have h4:(2:Nat)^811*2^811+2^811<=2^2000:=by decide+kernel
   lia
  ·lia
 refine zE t1 n1 t7 n7 I1 B1 ∅ (λj hj=>by rw[rr];exact eb r hrt j hj) bc hrt hcn (by rw[rr];exact nz) (zpu (Fo n s) c) (λo ho=>uE (mem_rest.mp ho).1) (Mp _ _) lC _ _ p5 λv2 k2 s5 p5 I2 B2=>?_
 simp![];obtain⟨b2,hb2⟩:∃b2,b2=iK b r c (opR t s) (opC n s):=⟨_,rfl⟩;have hb3:gF (dI b r c (rest (opR t s) r)) r c (rest (opC n s) c)=b2:=hb2.symm;rw[<-hb2];rw[hb3]at I2 ⊢;have en:∀i∈opR t s,∀j∈opC n s,b2 i j=rnd b r c i j:=λi hi j hj=>by rw[hb2];exact Oq hi hj
 have op1:((rest (opR t s) r).map λi=>b2 i c).any (λx=>x !=0)=true->Opn (opR t s) (opC n s) b r c:=λh=>by
  obtain⟨x,hx,h0⟩:=qcZ.mp h;obtain⟨i,hi,rfl⟩:=qci.mp hx;obtain⟨m1,m2⟩:=mem_rest.mp hi;exact .inl ⟨i,m1,m2,by rw[<-en i m1 c hc];simpa using h0⟩
 have op2:((rest (opC n s) c).map λi=>b2 r i).any (λx=>x !=0)=true->Opn (opR t s) (opC n s) b r c:=λh=>by
  obtain⟨x,hx,h0⟩:=qcZ.mp h;obtain⟨i,hi,rfl⟩:=qci.mp hx;obtain⟨m1,m2⟩:=mem_rest.mp hi;exact .inr ⟨i,m1,m2,by rw[<-en r hr i m1];simpa using h0⟩
 have op3:((rest (opR t s) r).map λi=>b2 i c).any (λx=>x !=0)=false->((rest (opC n s) c).map λi=>b2 r i).any (λx=>x !=0)=false->¬Opn (opR t s) (opC n s) b r c:=λh1 h2 o=>by
  rcases o with⟨i,mi,hi,h⟩|⟨j,mj,hj,h⟩
  ·have:=qaO.mp h1 _ (qci.mpr ⟨i,mem_rest.mpr ⟨mi,hi⟩,rfl⟩);rw[en i mi c hc]at this;exact h (~~~this)
  ·have:=qaO.mp h2 _ (qci.mpr ⟨j,mem_rest.mpr ⟨mj,hj⟩,rfl⟩);rw[en r hr j mj]at this;exact h (~~~this)
 have fin:∀(s':AA (Nat×Nat)),((Opn (opR t s) (opC n s) b r c/\s'=s)\/(¬Opn (opR t s) (opC n s) b r c/\s'=s++[(r,c)]))->
   ∃w' v' k' s'',Inv t n A b2 w' v' k'/\Bn (e+11368) t n w' v' k'/\(Sl.val D.non,[oT t n b2 w1 v2 k2 s',Sl.emp,Sl.emp])=(Sl.val D.non,[oT t n b2 w' v' k' s'',Sl.emp,Sl.emp])/\
    ((Opn (opR t s) (opC n s) b r c/\s''=s)\/(¬Opn (opR t s) (opC n s) b r c/\s''=s++[(r,c)])):=λs' h=>⟨w1,v2,k2,s',I2,B2.le ∅,rfl,h⟩
 rw[zG rfl rfl (lZ t1 n1)];simp![↓zeS];refine⟨∅,Zx (enc:=λi:Nat=>D.int (i:Nat)) (λρ=>∃y,ρ=[.val (oD t n b2 w1 v2 k2 s),.val (.int (c:Nat)),y]) (λi=> .int (b2 i c)) ⟨_,rfl⟩ ?_ ?_⟩
 ·rintro i _ hi ⟨y,rfl⟩;simp![↓zeI,g0,bY _ (As (mem_rest.mp hi).1),bY _ hcn];exact⟨_,rfl⟩
 rintro _ ⟨y,rfl⟩;simp![zml];have zl:(([Sl.emp,.val (.int (r:Nat)),.val (.int (c:Nat)),.val (.lst ((rest (opR t s) r).map λi=> .int (i:Nat))),.val (.lst ((rest (opC n s) c).map λi=> .int (i:Nat))),s5].zip [.val (oD t n b2 w1 v2 k2 s),.val (.int (r:Nat)),.val (.int (c:Nat)),.val (.lst ((rest (opR t s) r).map λi=> .int (i:Nat))),.val (.lst ((rest (opC n s) c).map λi=> .int (i:Nat))),s5]).all λq=>lT q.1 q.2)=true:=by
  simp only[qbc,qbb,yL,List.all_nil,znD _,Rx _ _,p5 _,Pc]
 refine⟨⟨rfl,zl⟩,λh1=>?_,λh1=>?_⟩
 ·rw[zG rfl rfl (lZ t1 n1)];simp![↓zeU];refine⟨∅,Zx (enc:=λi:Nat=>D.int (i:Nat)) (λρ=>∃y,ρ=[.val (oD t n b2 w1 v2 k2 s),.val (.int (r:Nat)),y]) (λi=> .int (b2 r i)) ⟨_,rfl⟩ ?_ ?_⟩
  ·rintro i _ hi ⟨y,rfl⟩;simp![↓zeW,g0,bY _ hrt,bY _ (uE (mem_rest.mp hi).1)];exact⟨_,rfl⟩
  rintro _ ⟨y,rfl⟩;simp![zml];refine⟨⟨rfl,zl⟩,λh2=>?_,λh2=>?_⟩
  ·refine⟨by show(s.map _).length<16777216;rw[eI];lia,?_⟩;have hp:∀p∈s,p.1≠r:=λp hp z=>by
    have:=(qag.mp hr).2;rw[Bool.not_eq_true']at this;have:=qaO.mp this p hp;exact this (by simp[z])
   rw[yK s r c hp];exact fin _ (.inr ⟨op3 (~~~h1) (~~~h2),rfl⟩)
  ·exact fin _ (.inl ⟨op2 (~~~h2),rfl⟩)
 ·exact fin _ (.inl ⟨op1 (~~~h1),rfl⟩)
end
structure Shp (t n:Nat)(b:Mx)(s:List (Nat×Nat)):Prop where
 d1:s.Pairwise λp q=>p.1≠q.1
 d2:s.Pairwise λp q=>p.2≠q.2
 lt:∀p∈s,p.1<t/\p.2<n
 nz:∀p∈s,b p.1 p.2≠0
 zr:∀p∈s,∀j,j<n->j≠p.2->b p.1 j=0
 zc:∀p∈s,∀i,i<t->i≠p.1->b i p.2=0
 sz:∀p∈s,(b p.1 p.2).natAbs<=2^811
def agr (Ro Co:AA Nat)(b b':Mx):Prop:=∀i,i∈Ro->∀j,j∈Co->b i j=b' i j
section
variable {t n r c:Nat}{b b':Mx}{s:AA (Nat×Nat)}{Ro Co:AA Nat}
theorem agr.rnd (h:agr Ro Co b b')(hr:r∈Ro)(hc:c∈Co):agr Ro Co (rnd b r c) (rnd b' r c):=λi hi j hj=>by
 unfold Prf.rnd;rw[h i hi j hj,h r hr j hj,h i hi c hc,h r hr c hc]
theorem agr.lst (h:agr Ro Co b b')(l:Lst Ro Co b r c):Lst Ro Co b' r c:=by
 obtain⟨h1,h2,h3,h4⟩:=l;refine⟨h1,h2,by rwa[<-h r h1 c h2],λi hi j hj q=>?_⟩;rw[<-h r h1 c h2,<-h i hi j hj];rw[<-h i hi j hj]at q;exact h4 i hi j hj q
theorem agr.opn (h:agr Ro Co b b')(hr:r∈Ro)(hc:c∈Co)(o:Opn Ro Co b r c):Opn Ro Co b' r c:=by
 have a:=h.rnd hr hc;rcases o with⟨i,mi,hi,z⟩|⟨j,mj,hj,z⟩
 ·exact .inl ⟨i,mi,hi,by rwa[<-a i mi c hc]⟩
 ·exact .inr ⟨j,mj,hj,by rwa[<-a r hr j mj]⟩
theorem agr.symm (h:agr Ro Co b b'):agr Ro Co b' b:=λi hi j hj=>(h i hi j hj).symm
theorem Qu (hi:i<t):i∉opR t s↔∃p∈s,p.1=i:=by
 unfold opR;rw[qag];simp[hi]
theorem Na (hi:i<n):i∉opC n s↔∃p∈s,p.2=i:=by
 unfold opC;rw[qag];simp[hi]
theorem sG:opR t (s++[(r,c)])=rest (opR t s) r:=by
 unfold opR rest;rw[List.filter_filter];congr 1
 funext i
 rw[List.any_append]
 by_cases h:r=i
 ·subst h;simp
 ·have h2:¬i=r:=λz=>h z.symm
  simp[h,h2,show(r==i)=false from qab.mpr h,show(i !=r)=true from qb5.mpr h2]
theorem rJ:opC n (s++[(r,c)])=rest (opC n s) c:=by
 unfold opC rest;rw[List.filter_filter];congr 1
 funext i
 rw[List.any_append]
 by_cases h:c=i
 ·subst h;simp
 ·have h2:¬i=c:=λz=>h z.symm
  simp[h,h2,show(c==i)=false from qab.mpr h,show(i !=c)=true from qb5.mpr h2]
theorem znm (h:r∈l):(rest l r).length<l.length:=by
 unfold rest;rcases Ib (l.filter λi=>i !=r).length l.length with z|z
 ·exact z
 ·have:=List.length_filter_eq_length_iff.mp (Nat.le_antisymm (Dl _ _) z) r h;simp at this
theorem Shp.keep (S:Shp t n b s)(hr:r∈opR t s)(hc:c∈opC n s)(hi:i<t)(hj:j<n)(h:i∉opR t s\/j∉opC n s):iK b r c (opR t s) (opC n s) i j=b i j:=by
 have rr:∀j,dI b r c (rest (opR t s) r) r j=b r j:=λj=>by unfold dI;rw[if_neg (Mp _ _)]
 by_cases h1:i∈opR t s
 ·have h2:j∉opC n s:=by rcases h with h|h;exact AH h1 h;exact h
  obtain⟨p,hp,e⟩:=(Na hj).mp h2;have z:b r j=0:=by
   have:=S.zc p hp r (As hr) λz=>AH hr ((Qu (As hr)).mpr ⟨p,hp,z.symm⟩)
   rwa[e]at this
  unfold iK gF;rw[if_neg λz=>h2 (mem_rest.mp z).1];unfold dI
  split
  ·rw[z];lia
  ·rfl
 ·obtain⟨p,hp,e⟩:=(Qu hi).mp h1;have ri:∀j,dI b r c (rest (opR t s) r) i j=b i j:=λj=>by unfold dI;rw[if_neg λz=>h1 (mem_rest.mp z).1]
  have z:b i c=0:=by
   have:=S.zr p hp c (uE hc) λz=>AH hc ((Na (uE hc)).mpr ⟨p,hp,z.symm⟩)
   rwa[e]at this
  unfold iK gF;rw[ri,ri,z]
  split
  ·lia
  ·rfl
theorem Shp.ent (S:Shp t n b s)(h:Eb (opR t s) (opC n s) b (2^811)):∀i,i<t->∀j,j<n->(b i j).natAbs<=2^811:=λi hi j hj=>by
 by_cases h1:i∈opR t s
 ·by_cases h2:j∈opC n s
  ·exact h i h1 j h2
  ·obtain⟨p,hp,e⟩:=(Na hj).mp h2
   by_cases e2:i=p.1
   ·subst e e2;exact S.sz p hp
   ·have:=S.zc p hp i hi e2;rw[e]at this;rw[this];exact gR _
 ·obtain⟨p,hp,e⟩:=(Qu hi).mp h1
  by_cases e2:j=p.2
  ·subst e e2;exact S.sz p hp
  ·have:=S.zr p hp j hj e2;rw[e]at this;rw[this];exact gR _
theorem Tw {p:Nat×Nat}(S:Shp t n b s)(hp:p∈s):p.1∉opR t s:=(Qu (S.lt p hp).1).mpr ⟨p,hp,rfl⟩
theorem Cz {p:Nat×Nat}(S:Shp t n b s)(hp:p∈s):p.2∉opC n s:=(Na (S.lt p hp).2).mpr ⟨p,hp,rfl⟩
theorem Shp.same (S:Shp t n b s)(hr:r∈opR t s)(hc:c∈opC n s):Shp t n (iK b r c (opR t s) (opC n s)) s where
 d1:=S.d1
 d2:=S.d2
 lt:=S.lt
 nz:=λp hp=>by rw[S.keep hr hc (S.lt p hp).1 (S.lt p hp).2 (.inl (Tw S hp))];exact S.nz p hp
 zr:=λp hp j hj h=>by rw[S.keep hr hc (S.lt p hp).1 hj (.inl (Tw S hp))];exact S.zr p hp j hj h
 zc:=λp hp i hi h=>by rw[S.keep hr hc hi (S.lt p hp).2 (.inr (Cz S hp))];exact S.zc p hp i hi h
 sz:=λp hp=>by rw[S.keep hr hc (S.lt p hp).1 (S.lt p hp).2 (.inl (Tw S hp))];exact S.sz p hp
theorem Shp.new (S:Shp t n b s)(hr:r∈opR t s)(hc:c∈opC n s)(nz:b r c≠0)(sz:(b r c).natAbs<=2^811)(o:¬Opn (opR t s) (opC n s) b r c):Shp t n (iK b r c (opR t s) (opC n s)) (s++[(r,c)]):=by
 have T:=S.same hr hc;have ne1:∀p∈s,p.1≠r:=λp hp z=>Tw S hp (z ▸ hr)
 have ne2:∀p∈s,p.2≠c:=λp hp z=>Cz S hp (z ▸ hc)
 have e:iK b r c (opR t s) (opC n s) r c=b r c:=by rw[Oq hr hc,sX]
 have cases:∀{p},p∈s++[(r,c)]->p∈s\/p=(r,c):=λh=>by
  rcases qaq.mp h with h|h
  ·exact .inl h
  ·exact .inr (~~~h)
 refine⟨?_,?_,λp hp=>?_,λp hp=>?_,λp hp j hj h=>?_,λp hp i hi h=>?_,λp hp=>?_⟩
 ·rw[List.pairwise_append];exact⟨S.d1,by simp,λp hp q hq=>by rw[qcB.mp hq];exact ne1 p hp⟩
 ·rw[List.pairwise_append];exact⟨S.d2,by simp,λp hp q hq=>by rw[qcB.mp hq];exact ne2 p hp⟩
 ·rcases cases hp with hp|rfl
  ·exact S.lt p hp
  ·exact⟨As hr,uE hc⟩
 ·rcases cases hp with hp|rfl
  ·exact T.nz p hp
  ·show iK _ _ _ _ _ r c≠0;rw[e];exact nz
 ·rcases cases hp with hp|rfl
  ·exact T.zr p hp j hj h
  ·show iK _ _ _ _ _ r j=0;have h:j≠c:=h
   by_cases mj:j∈opC n s
   ·rw[Oq hr mj];exact Rl λz=>o (.inr ⟨j,mj,h,z⟩)
   ·obtain⟨q,hq,e⟩:=(Na hj).mp mj;have:=T.zc q hq r (As hr) (Ne.symm (ne1 q hq));rwa[e]at this
 ·rcases cases hp with hp|rfl
  ·exact T.zc p hp i hi h
  ·show iK _ _ _ _ _ i c=0;have h:i≠r:=h
   by_cases mi:i∈opR t s
   ·rw[Oq mi hc];exact Rl λz=>o (.inl ⟨i,mi,h,z⟩)
   ·obtain⟨q,hq,e⟩:=(Qu hi).mp mi;have:=T.zr q hq c (uE hc) (Ne.symm (ne2 q hq));rwa[e]at this
 ·rcases cases hp with hp|rfl
  ·exact T.sz p hp
  ·show(iK _ _ _ _ _ r c).natAbs<=_;rw[e];exact sz
def Ts:Nat->Nat
 |0=>1376
 |1=>1375
 |2=>1374
 |3=>1372
 |4=>1209
 |5=>2
 |6=>1
 |_=>0
theorem vQ:∀{s:Nat},s<=6->Ts s=1+Nx (s+1)+Ts (s+1)
 |0,_=>rfl
 |1,_=>rfl
 |2,_=>rfl
 |3,_=>rfl
 |4,_=>rfl
 |5,_=>rfl
 |6,_=>rfl
 |_+7,h=>∅
def Far (t n:Nat)(b:Mx)(s:AA (Nat×Nat))(m:Nat):Prop:=Shp t n b s/\s.length<=7/\∃B N,agr (opR t s) (opC n s) B b/\Stg s.length (opR t s) (opC n s) B N/\N+Ts s.length<=m
variable {m:Nat}
theorem Far.eb (F:Far t n b s m):∀i,i<t->∀j,j<n->(b i j).natAbs<=2^811:=by
 obtain⟨S,_,B,N,a,g,_⟩:=F;refine S.ent λi hi j hj=>?_
 rw[<-a i hi j hj];exact g.ent i hi j hj
theorem Far.step (F:Far t n b s m)(l:Lst (opR t s) (opC n s) b r c):∃m',m=m'+1/\(Opn (opR t s) (opC n s) b r c->Far t n (iK b r c (opR t s) (opC n s)) s m')/\
  (¬Opn (opR t s) (opC n s) b r c->Far t n (iK b r c (opR t s) (opC n s)) (s++[(r,c)]) m'):=by
 have ebd:=F.eb;obtain⟨S,sl,B,N,a,g,hm⟩:=F;have l2:=a.symm.lst l;obtain⟨g1,g2⟩:=g.step l2;have s6:s.length<=6:=by
  have:=List.length_pos_of_mem l.1;have:=g.1;lia
 have tn:=vQ s6;have hr:=l.1;have hc:=l.2.1;refine⟨m-1,∅,λo=>?_,λo=>?_⟩
 ·obtain⟨N',rfl,g3⟩:=g1 (a.symm.opn hr hc o);exact⟨S.same hr hc,sl,_,N',λi hi j hj=>by rw[Oq hi hj];exact a.rnd hr hc i hi j hj,g3,∅⟩
 ·have o2:¬Opn (opR t s) (opC n s) B r c:=λz=>o (a.opn hr hc z)
  have R:=sG (t:=t) (s:=s) (r:=r) (c:=c);have C:=rJ (n:=n) (s:=s) (r:=r) (c:=c);have g3:=g2 o2 (opR t (s++[(r,c)])) (opC n (s++[(r,c)])) (λi hi=>by rw[R]at hi;exact mem_rest.mp hi) (λi hi=>by rw[C]at hi;exact mem_rest.mp hi) (by rw[R];have:=znm hr;have:=g.1;lia) (by rw[C];have:=znm hc;have:=g.2.1;lia);refine⟨S.new hr hc l.2.2.1 (ebd r (As hr) c (uE hc)) o,by rw[eS];show s.length+1<=7;lia,rnd B r c,Nx (s.length+1),λi hi j hj=>?_,?_,?_⟩
  ·rw[R]at hi;rw[C]at hj;have hi:=(mem_rest.mp hi).1;have hj:=(mem_rest.mp hj).1;rw[Oq hi hj];exact a.rnd hr hc i hi j hj
  ·rw[eS];exact g3
  ·rw[eS];show Nx (s.length+1)+Ts (s.length+1)<=m-1;lia
theorem Far.start {A:Mx}(t7:t<=7)(n7:n<=7)(h:∀i j,A i j=0\/A i j=1):Far t n A [] 1376:=by
 refine⟨⟨by simp,by simp,by simp,by simp,by simp,by simp,by simp⟩,by simp,A,0,λ_ _ _ _=>rfl,⟨?_,?_,rfl,λi _ j _=>h i j⟩,by decide⟩
 ·have:=zks t [];exact bE this t7
 ·have:=zky n [];exact bE this n7
end
structure Fin (t n:Nat)(A b w v k:Mx)(s:List (Nat×Nat)):Prop where
 I:Inv t n A b w v k
 B:∃e,e<=20000000/\Bn e t n w v k
 S:Shp t n b s
 z:∀r∈opR t s,∀c∈opC n s,b r c=0
 l:s.length<=7
 e:∀i,i<t->∀j,j<n->(b i j).natAbs<=2^811
theorem zqc (h:m<2^40):m<eW:=iI h (eZ (show 40<=10000 by lia))
section
variable {n t:Nat}{c:Nat->Nat}{z:Nat->Nat->Nat}{S:Nat->Int}
abbrev Cor (t n:Nat)(b:Mx)(s:AA (Nat×Nat))(x:D):Prop:=(x= .non/\∀r∈opR t s,∀c∈opC n s,b r c=0)\/∃r c,x= .tup [.int (r:Nat),.int (c:Nat)]/\Lst (opR t s) (opC n s) b r c
theorem zmc (n1:1<=n)(n7:n<=7)(t1:1<=t)(t7:t<=7){b w v k:Mx}(h:Shp t n b s)(sl:s.length<=7)(d:D){s2:Sl}(p2:Pn s2){Q:D×R->Prop}(hq:∀x,Cor t n b s x->Q (x,[oT t n b w v k s,.val d,s2])):Ok (dW 0 (lV Il slC slN (aA 0) aB) [oT t n b w v k s,.val d,s2]) Q:=by
 change aE Q _;rw[zG rfl rfl (lZ t1 n1)];simp![];rw[Oi rfl];simp![];refine(ziW ∅ ∅ ∅ h.d1).mono ?_;have zl:(([Sl.emp,.val d,s2].zip [.val (oD t n b w v k s),.val d,s2]).all λq=>lT q.1 q.2)=true:=by
  simp only[qbc,qbb,yL,List.all_nil,znD _,Rx _ _,p2 _,Pc]
 rintro _ (⟨rfl,h0⟩|⟨r,c,rfl,h1,h2,h3,h4⟩)
 ·simp![];exact⟨⟨rfl,zl⟩,hq _ (.inl ⟨rfl,h0⟩)⟩
 ·simp![];exact⟨⟨rfl,zl⟩,hq _ (.inr ⟨r,c,rfl,h1,h2,h3,h4⟩)⟩
theorem xX (n1:1<=n)(n7:n<=7)(t1:1<=t)(t7:t<=7):Ok (Rc [.ptr (.obj slC [] [] none),.val (dE n t c z S)]) λx=>∃b w v k s,Fin t n (cD c z) b w v k s/\x=(.val .non,[oT t n b w v k s,.emp]):=by
 simp![↓Rc,↓zhJ,dE,↓zho]
 generalize hd:D.tup [D.int (n:Nat),.tup (eT t c z),.tup (wI t S)]=d
 have i0:bF d (.int 0)=some (.int (n:Nat)):=by rw[<-hd];rfl
 have i1:bF d (.int 1)=some (.tup (eT t c z)):=by rw[<-hd];rfl
 refine⟨by unfold eT;rw[cC];lia,?_⟩;unfold eT at hd i1 ⊢;refine hX (λρ=>∃y,ρ=[.val d,y]) (λi=> .lst (wI n (cD c z i))) ⟨_,rfl⟩ ?_ ?_
 ·rintro i _ hi ⟨y,rfl⟩;simp![↓zgE,i0];refine(zoV n ∅ (c i) (z i)).mono ?_;rintro _ rfl;simp![];exact⟨rfl,_,rfl⟩
 rintro _ ⟨y,rfl⟩;rw[if_pos ⟨rfl,rfl⟩];simp![i1];refine(ze6 t ∅).mono ?_;rintro _ rfl;simp![i0];refine(ze6 n ∅).mono ?_;rintro _ rfl;simp![i0];refine(ze6 n ∅).mono ?_;rintro _ rfl;simp![];have far:Far t n (cD c z) [] 1376:=Far.start t7 n7 λi j=>by unfold cD;split<;>simp
 have b0:Bn 0 t n un un un:=by
  have:∀i j,(un i j).natAbs<=2^0:=λi j=>by unfold un;split<;>decide
  exact⟨λi j _ _=>this i j,λi j _ _=>this i j,λi j _ _=>this i j⟩
 refine zmc (s:=[]) n1 n7 t1 t7 far.1 (by simp) d znD λx hx=>?_
 simp![↓zgJ];refine Xx (λm ρ=>m<=1376/\∃b w v k s x,Inv t n (cD c z) b w v k/\Bn (11368*(1376-m)) t n w v k/\Far t n b s m/\Cor t n b s x/\ρ=[oT t n b w v k s,.val d,.val x]) ?_ eW 1376 _ (zqc ∅) ⟨bC _,_,_,_,_,_,_,Inv.start t n _,~~~b0,far,hx,rfl⟩;rintro m _ ⟨hm,b,w,v,k,s,x,I,B,F,hx,rfl⟩;simp![↓zgQ];rcases hx with⟨rfl,h0⟩|⟨r,c,rfl,l⟩
 ·simp![];exact⟨b,w,v,k,s,⟨I,⟨_,∅,B⟩,F.1,h0,F.2.1,F.eb⟩,rfl⟩
 ·simp![];obtain⟨m',rfl,f1,f2⟩:=F.step l;refine⟨m',rfl,?_⟩;simp![↓zhb];rw[zjz rfl rfl];simp![];refine(zjM t1 n1 t7 n7 I B ∅ F.eb F.1.d1 F.2.1 l.1 l.2.1 l.2.2.1).mono ?_;rintro _ ⟨w',v',k',s',I',B',rfl,hs⟩;simp![];have F':Far t n (iK b r c (opR t s) (opC n s)) s' m':=by
   rcases hs with⟨o,rfl⟩|⟨o,rfl⟩
   ·exact f1 o
   ·exact f2 o
  refine zmc n1 n7 t1 t7 F'.1 F'.2.1 d (Rx _) λx hx=>?_
  simp![];exact⟨∅,_,_,_,_,_,_,I',B'.le ∅,F',hx,rfl⟩
end
def dP:Nat->Int
 |0=>1
 |n+1=>((n+1:Nat):Int)*dP n
theorem zlf:∀n,0<dP n
 |0=>by decide
 |n+1=>Ol ∅ (zlf n)
theorem Mf {D:Int}(h:∀d:Nat,1<=d->d<=N->(d:Int)∣D):∀b a,a+b+1<=N->∃q:Int,q*dP (a+b+1)=D*dP a*dP b
 |0,a,l=>by
  obtain⟨q,e⟩:=h (a+1) ∅ ∅;refine⟨q,?_⟩;show q*(((a+1:Nat):Int)*dP a)=D*dP a*1;rw[e];grind
 |b+1,a,l=>by
  obtain⟨q1,e1⟩:=Mf h b a ∅;obtain⟨q2,e2⟩:=Mf h b (a+1) ∅;refine⟨q1-q2,?_⟩;have f1:dP (a+(b+1)+1)=((a+b+2:Nat):Int)*dP (a+b+1):=rfl;rw[show a+1+b+1=a+(b+1)+1 by lia]at e2;have f2:dP (a+1)=((a+1:Nat):Int)*dP a:=rfl;have f3:dP (b+1)=((b+1:Nat):Int)*dP b:=rfl;rw[Int.sub_mul,e2,f1,f2,f3];have e3:q1*(((a+b+2:Nat):Int)*dP (a+b+1))=((a+b+2:Nat):Int)*(D*dP a*dP b):=by rw[<-e1];grind
  rw[e3];have e4:((a+b+2:Nat):Int)=((a+1:Nat):Int)+((b+1:Nat):Int):=∅
  rw[e4];grind
theorem zpM:∀k,(2:Int)^k*(dP k*dP k)<=dP (2*k+1)
 |0=>by decide
 |k+1=>by
  have h:=zpM k;have e:dP (2*(k+1)+1)=((2*k+3:Nat):Int)*(((2*k+2:Nat):Int)*dP (2*k+1)):=rfl;have f:dP (k+1)=((k+1:Nat):Int)*dP k:=rfl;rw[e,f,Int.pow_succ];have p:=zlf (2*k+1);have c:(2:Int)*(((k+1:Nat):Int)*((k+1:Nat):Int))<=((2*k+3:Nat):Int)*((2*k+2:Nat):Int):=by
   have:((2*k+3:Nat):Int)*((2*k+2:Nat):Int)=2*(((k+1:Nat):Int)*((k+1:Nat):Int))+(2*(((k+1:Nat):Int)*((k+1:Nat):Int))+2*((k+1:Nat):Int)):=by
    rw[show((2*k+3:Nat):Int)=2*((k+1:Nat):Int)+1 by lia,show((2*k+2:Nat):Int)=2*((k+1:Nat):Int) by lia];grind
   have z:(0:Int)<=((k+1:Nat):Int)*((k+1:Nat):Int):=Ux ∅ ∅;lia
  have s1:=qdv h (show(0:Int)<=2*(((k+1:Nat):Int)*((k+1:Nat):Int))from Ux (by decide) (Ux ∅ ∅));have s2:=Int.mul_le_mul_of_nonneg_right c (Int.le_of_lt p);refine Xa (Int.le_of_eq ?_) (Xa s1 (Xa s2 (Int.le_of_eq (qdG _ _ _))))
  grind
theorem zU {D:Int}(nz:D≠0)(h:∀d:Nat,1<=d->d<=2*k+1->(d:Int)∣D):2^k<=D.natAbs:=by
 have h':∀d:Nat,1<=d->d<=2*k+1->(d:Int)∣(D.natAbs:Int):=λd h1 h2=>Int.dvd_natAbs.mpr (h d h1 h2)
 obtain⟨q,e⟩:=Mf h' k k ∅;rw[show k+k+1=2*k+1 by lia]at e;have p1:=zlf k;have p2:=zlf (2*k+1);have p3:0<dP k*dP k:=Ol p1 p1;have dp:(0:Int)<D.natAbs:=∅
 have rp:(0:Int)<q*dP (2*k+1):=by rw[e,qdG];exact Ol dp p3
 have qp:0<q:=Int.pos_of_mul_pos_left rp p2;have s1:dP (2*k+1)<=q*dP (2*k+1):=by
  have:=Int.mul_le_mul_of_nonneg_right (show 1<=q by lia) (Int.le_of_lt p2);lia
 have s2:(2:Int)^k*(dP k*dP k)<=(D.natAbs:Int)*(dP k*dP k):=by
  have:=zpM k;rw[e,qdG]at s1;lia
 have s3:=Int.le_of_mul_le_mul_right s2 p3;have:((2^k:Nat):Int)<=(D.natAbs:Nat):=by rw[Int.natCast_pow];exact s3
 exact Int.ofNat_le.mp this
theorem oG (nz:x≠0)(hx:x.natAbs<=2^e)(he:e<=30000000):Ok (Xi [.int x]) λy=>∃by_:Nat,2<=by_/\by_<=2^26/\¬(by_:Int)∣x/\y= .val (.int by_):=by
 simp![↓Xi,↓zbY,↓zcj];refine Xx (λm ρ=>∃q:Nat,2<=q/\m+q=2*e+4/\(∀d:Nat,1<=d->d<q->(d:Int)∣x)/\ρ=[.val (.int x),.val (.int q)]) ?_ eW (2*e+2) _ (zqc ∅) ⟨2,∅,∅,λd h1 h2=>?_,rfl⟩
 ·rintro m _ ⟨q,q2,hm,hd,rfl⟩;have lt:q<2*e+4:=Rl λz=>by
   have:=zU nz (k:=e+1) λd h1 h2=>hd d h1 ∅
   have:=Zs (show 1<2 by decide) (show e<e+1 by lia);lia
  simp![↓zcg];refine⟨∅,λc=>?_,λc=>?_⟩
  ·refine⟨m-1,∅,?_⟩;simp![↓zce];refine⟨q+1,∅,∅,λd h1 h2=>?_,?_⟩
   ·rcases Ib d q with h|h
    ·exact hd d h1 h
    ·have:d=q:=∅
     subst this;exact Int.dvd_of_emod_eq_zero (~~~c)
   ·rw[show((q:Nat):Int)+1=((q+1:Nat):Int) by lia]
  ·exact⟨q,q2,∅,λz=>by have:=Int.emod_eq_zero_of_dvd z;simp[this]at c,rfl⟩
 ·have:d=1:=∅
  subst this;exact Int.one_dvd x
theorem znM (x:Int):iA x=(x.natAbs:Nat):=by unfold iA;split<;>lia
theorem zkc (hy:y.natAbs<=2^900):Ok (Ce [.int x,.int y]) λz=>z= .val (.int (Int.gcd x y)):=by
 simp![↓Ce,↓zcs,znM,↓zcV];refine Xx (λm ρ=>∃(a b:Nat) (z:Sl),b<=m/\Nat.gcd a b=Int.gcd x y/\ρ=[.val (.int x),.val (.int y),.val (.int a),.val (.int b),z]) ?_ eW y.natAbs _ (tO hy (Zs (by decide) (show 900<10000 by lia))) ⟨_,_,_,bC _,rfl,rfl⟩;rintro m _ ⟨a,b,z,hb,hg,rfl⟩;simp![↓zcO];refine⟨λc=>?_,λc=>?_⟩
 ·have b0:b≠0:= ~~~c
  refine⟨m-1,∅,?_⟩;simp![↓zc0];refine⟨∅,b,a%b,_,by have:=Nat.mod_lt a (show 0<b by lia);lia,?_,by rw[Int.natCast_emod]⟩;rw[<-hg,Nat.gcd_comm a b,Nat.gcd_rec b a,Nat.gcd_comm]
 ·have b0:b=0:= ~~~c
  subst b0;rw[<-hg,Nat.gcd_zero_right]
theorem zp4 (hy:y.natAbs<=2^811):Ok (Ce [.int x,.int y]) λz=>z= .val (.int (Int.gcd x y)):=zkc (bE hy (eZ ∅))
def dv (x y:Int):Int:=if y<0 then-(Int.gcd x y:Int)else Int.gcd x y
abbrev rp (x y:Int):Int:=x.fdiv (dv x y)
abbrev rq (x y:Int):Int:=y.fdiv (dv x y)
theorem rat (hy:y≠0):dv x y≠0/\(dv x y).natAbs<=y.natAbs/\0<rq x y/\Int.gcd (rp x y) (rq x y)=1/\rp x y*y=x*rq x y/\(rp x y).natAbs<=x.natAbs/\(rq x y).natAbs<=y.natAbs:=by
 have gp:0<Int.gcd x y:=qdI x hy;have n:dv x y≠0:=by unfold dv;split<;>lia
 have ab:(dv x y).natAbs=Int.gcd x y:=by unfold dv;split<;>lia
 have le:Int.gcd x y<=y.natAbs:=Nat.le_of_dvd ∅ (Nat.gcd_dvd_right _ _);have dx:dv x y∣x:=by rw[<-Int.natAbs_dvd,ab];exact Int.gcd_dvd_left ..
 have dy:dv x y∣y:=by rw[<-Int.natAbs_dvd,ab];exact Int.gcd_dvd_right ..
 obtain⟨p,ep⟩:=dx;obtain⟨q,eq⟩:=dy;have hp:rp x y=p:=by unfold rp;conv=>lhs;rw[show x.fdiv (dv x y)=(dv x y*p).fdiv (dv x y) by rw[<-ep]];rw[Int.mul_fdiv_cancel_left _ n]
 have hq:rq x y=q:=by unfold rq;conv=>lhs;rw[show y.fdiv (dv x y)=(dv x y*q).fdiv (dv x y) by rw[<-eq]];rw[Int.mul_fdiv_cancel_left _ n]
 refine⟨n,∅,?_,?_,?_,Dw x n,Dw y n⟩
 ·rw[hq];rcases Mj hy with h|h
  ·have e:dv x y= -(Int.gcd x y:Int):=by unfold dv;rw[if_pos h]
   have e1: -(Int.gcd x y:Int)*q=y:=by rw[<-e];exact eq.symm
   rw[Int.neg_mul]at e1;have h3:0<(Int.gcd x y:Int)*q:=∅
   exact Int.pos_of_mul_pos_right h3 ∅
  ·have e:dv x y=(Int.gcd x y:Int):=by unfold dv;rw[if_neg ∅]
   have h3:0<(Int.gcd x y:Int)*q:=by rw[e]at eq;lia
   exact Int.pos_of_mul_pos_right h3 ∅
 ·rw[hp,hq];have:Int.gcd (dv x y*p) (dv x y*q)=(dv x y).natAbs*Int.gcd p q:=Int.gcd_mul_left ..;rw[<-ep,<-eq,ab]at this;exact Nat.eq_of_mul_eq_mul_left gp ∅
 ·rw[hp,hq]
  generalize dv x y=d at ep eq
  subst ep eq
  grind
theorem pY {x y:Int}(n:y≠0)(hy:y.natAbs<=2^811):Ok (Qv [.int x,.int y]) λz=>z= .val (.tup [.int (rp x y),.int (rq x y)]):=by
 have R:=rat (x:=x) n;have ok:Dx (dv x y)=true:=zX R.1 (bE R.2.1 hy);simp![↓Qv,↓zhB];refine(zp4 hy).mono ?_;rintro _ rfl;simp![];refine⟨λc=>?_,λc=>?_⟩
 ·have c:y<0:= ~~~c
  have e:dv x y= -(Int.gcd x y:Int):=by unfold dv;rw[if_pos c]
  simp![↓zex,rp,rq,<-e,ok]
 ·have c:¬y<0:= ~~~c
  have e:dv x y=(Int.gcd x y:Int):=by unfold dv;rw[if_neg c]
  simp![↓zex,rp,rq,<-e,ok]
theorem zj8 (h:Sq d t f)(ht:t<=100)(n:y≠0)(hy:y.natAbs<=2^811):Ok (On [d,.int y]) λz=>z= .val (.tup [.str "none",.tup (wL t λi=> .tup [.int (rp (f i) y),.int (rq (f i) y)])]):=by
 simp![↓On,↓zjh,↓zhX,h.it];refine⟨∅,hX (λρ=>∃z,ρ=[.val (.int y),z]) (λi=> .tup [.int (rp (f i) y),.int (rq (f i) y)]) ⟨_,rfl⟩ ?_ ?_⟩
 ·rintro i _ hi ⟨z,rfl⟩;simp![↓zh3];refine(pY n hy).mono ?_;rintro _ rfl;simp![];exact⟨_,rfl⟩
 ·rintro _ ⟨z,rfl⟩;simp![]
theorem pE:∀{m:Nat},m<=7->(∀i,i<m->(f i).natAbs<=2^e)->(aM m f).natAbs<=2^(e+3):=by
 intro m hm h;have:∀k,k<=m->(aM k f).natAbs<=k*2^e:=by
  intro k
  induction k with
  |zero=>intro _;simp[aM]
  |succ k ih=>
   intro hk;have a:=ih ∅;have b:=h k ∅;have c:=Tz (aM k f) (f k);rw[Nat.succ_mul];show(aM k f+f k).natAbs<=_;lia
 have a:=this m (bC _);rw[sF];have:m*2^e<=7*2^e:=qdt _ hm;lia
section
variable {n t:Nat}{c:Nat->Nat}{z:Nat->Nat->Nat}{S:Nat->Int}
def cS (t:Nat)(A:Mx)(f:Nat->Int)(p:Nat):Int:=aM t λa=>f a*A a p
def eX (t:Nat)(S f:Nat->Int):Int:=aM t λa=>f a*S a
variable {A b w v k:Mx}{s:AA (Nat×Nat)}
theorem Inv.bl2 (I:Inv t n A b w v k)(hi:i<t)(hj:j<n):b i j=aM n λp=>cS t A (w i) p*v j p:=by
 rw[I.bl i hi j hj,Zo];refine eO λp _=>?_
 unfold cS;rw[qS,<-kG];exact eO λa _=>by grind
theorem Inv.back (I:Inv t n A b w v k){i q:Nat}(hi:i<t)(hq:q<n):cS t A (w i) q=aM n λj=>b i j*k j q:=by
 have e1:(aM n λj=>b i j*k j q)=aM n λj=>aM n λp=>cS t A (w i) p*(k j q*v j p):=eO λj hj=>by
  rw[I.bl2 hi hj,qS,<-kG];exact eO λp _=>by grind
 rw[e1,Zo,eO (g:=λp=>un q p*cS t A (w i) p) λp hp=>by rw[kG,I.kv q p hq hp,qS],Ou hq]
def Hu (t n:Nat)(A w:Mx)(R:Nat->Int)(i:Nat):Int:=aM n λp=>cS t A (w i) p*R p
theorem Af (I:Inv t n A b w v k)(R:Nat->Int)(q:Int)(hi:i<t)(hj:j<n):Hu t n A w (λp=>R p- -q*v j p) i=Hu t n A w R i+q*b i j:=by
 rw[I.bl2 hi hj,<-kG];unfold Hu;rw[<-Ng];exact eO λp _=>by grind
theorem rL (R:Nat->Int)(f:Nat->Int):eX t (λa=>aM n λp=>A a p*R p) f=aM n λp=>cS t A f p*R p:=by
 unfold eX cS;rw[eO (g:=λa=>aM n λp=>f a*(A a p*R p)) λa _=>by rw[kG],Zo];refine eO λp _=>?_
 rw[qS,<-kG];exact eO λa _=>by grind
theorem Fin.right (F:Fin t n A b w v k s){R S:Nat->Int}(h:∀i,i<t->Hu t n A w R i=eX t S (w i)):∀a,a<t->(aM n λp=>A a p*R p)=S a:=λa ha=>by
 have:=F.I.wi (λa=>(aM n λp=>A a p*R p)-S a) (λi hi=>by
  have e:=h i hi;unfold Hu at e;rw[<-rL]at e;unfold eX at e;rw[eO (g:=λa=>w i a*(aM n λp=>A a p*R p)-w i a*S a) λa _=>by rw[Int.mul_sub],Cv,e];lia) a ha
 lia
theorem Fin.row0 (F:Fin t n A b w v k s)(hr:r<t)(h:r∈opR t s):∀j,j<n->b r j=0:=λj hj=>by
 by_cases hc:j∈opC n s
 ·exact F.z r h j hc
 ·obtain⟨p,hp,e⟩:=(Na hj).mp hc;have:=F.S.zc p hp r hr λz=>Tw F.S hp (z ▸ h)
  rwa[e]at this
def Out (n t:Nat)(A:Mx)(S:Nat->Int)(d:D):Prop:=
 (∃R:Nat->Int,d= .tup [.str "row",.tup (wI n R)]/\∀a,a<t->(aM n λp=>A a p*R p)=S a)\/
 ∃(f:Nat->Int) (Y:Int) (e:Nat),e<=20000000/\Y≠0/\Y.natAbs<=2^811/\(∀a,a<t->(f a).natAbs<=2^e)/\(∀p,p<n->Y∣cS t A f p)/\¬Y∣eX t S f/\d= .tup [.str "none",.tup (wL t λi=> .tup [.int (rp (f i) Y),.int (rq (f i) Y)])]
theorem nR (ny:y≠0)(h:x.fmod y=0):x.fdiv y*y=x:=by
 have:=Qc x y;rw[h,qS]at this;omega
theorem ndvd (h:x.fmod y≠0):¬y∣x:=λ⟨q,e⟩=>h (by rw[e];exact Int.mul_fmod_right _ _)
end
section
variable {n t:Nat}{c:Nat->Nat}{z:Nat->Nat->Nat}{S:Nat->Int}
theorem nI (h:BS x):x.natAbs<=2^230:=by
 unfold BS at h;have:((2^230:Nat):Int)=2^230:=by decide+kernel
 lia
theorem rep0 (n:Nat):(List.replicate n [D.int 0]).flatten=wI n λ_=>0:=by
 induction n with
 |zero=>rfl
 |succ n ih=>
  rw[List.replicate_succ',List.flatten_append,ih];unfold wI wL;rw[Yn,iS]
  rfl
theorem zpR (n1:1<=n)(n7:n<=7)(t1:1<=t)(t7:t<=7)(hr:∀i,i<t->Rise n (c i) (z i))(hs:∀i,i<t->BS (S i)):Ok (Xm [dE n t c z S]) λx=>∃d,Out n t (cD c z) S d/\x= .val d:=by
 simp![↓Xm,↓zkP];refine(xX n1 n7 t1 t7).mono ?_;rintro _ ⟨b,w,v,k,s,F,rfl⟩;obtain⟨e,he,B⟩:=F.B;have mo:∀i j,i<t->j<t->jC (w i j) (S j)=true:=λi j hi hj=>cI (B.1 i j hi hj) (nI (hs j hj)) ∅ ∅
 have tb:∀i,i<t->(eX t S (w i)).natAbs<=2^(e+240):=λi hi=>by
  have:=pE (e:=e+230) t7 λj hj=>by
   have:=iF (B.1 i j hi hj) (nI (hs j hj));rw[<-sF]at this;exact this
  exact bE this (eZ ∅)
 show aE _ (some _)
 generalize hd:dE n t c z S=d
 have i0:bF d (.int 0)=some (.int (n:Nat)):=by rw[<-hd];rfl
 have i2:bF d (.int 2)=some (.tup (wI t S)):=by rw[<-hd];rfl
 simp![i0,rep0,↓zi3,vO,g1];refine⟨∅,?_⟩;refine mF (λi ρ=>∃R s3 s4 s5 s6,(∀j,j<t->Hu t n (cD c z) w R j=if j<i then eX t S (w j)else 0)/\ρ=[.val d,.val (oD t n b w v k s),.val (.lst (wI n R)),s3,s4,s5,s6]) ⟨λ_=>0,_,_,_,_,λj hj=>?_,rfl⟩ ?_ ?_
 ·unfold Hu;rw[eO (g:=λ_=>0) λp _=>by simp,zhl];simp
 ·rintro r _ hrt ⟨R,s3,s4,s5,s6,hR,rfl⟩;simp![↓zju,i2];refine(zjF (Sq.lst t (w r)) (Sq.tup t S) ∅ λj hj=>mo r j hrt hj).mono ?_;rintro _ rfl;simp![Yc];have we:(aM t λj=>w r j*S j)=eX t S (w r):=rfl;rw[we];have eb:=F.e r hrt;refine⟨λh=>?_,λh=>?_⟩
  ·obtain⟨p,hp,e1⟩:∃p∈s,p.1=r:= ~~~h
   obtain⟨p1,cc⟩:=p;obtain rfl:p1=r:=e1;have hc:cc<n:=(F.S.lt _ hp).2;have nz:b p1 cc≠0:=F.S.nz _ hp;have br:∀j,j<n->b p1 j=if j=cc then b p1 cc else 0:=λj hj=>by
    split
    ·rename_i q;rw[q]
    ·rename_i q;exact F.S.zr _ hp j hj q
   rw[Oi rfl];simp![];refine(zjl F.S.d1 hp hrt hc).mono ?_;rintro _ rfl;simp![];refine⟨nz,λq=>?_,λq=>?_⟩
   ·refine(zj8 (Sq.lst t (w p1)) ∅ nz (eb cc hc)).mono ?_;rintro _ rfl;simp![];refine⟨_,.inr ⟨w p1,b p1 cc,e,he,nz,eb cc hc,λa ha=>B.1 p1 a hrt ha,λp hp=>?_,ndvd (~~~q),rfl⟩,rfl⟩;rw[F.I.back hrt hp,eO (g:=λj=>if j=cc then b p1 cc*k cc p else 0) λj hj=>by
     rw[br j hj]
     by_cases h:j=cc
     ·rw[if_pos h,if_pos h,h]
     ·rw[if_neg h,if_neg h];lia,Sb,if_pos hc]
    exact Int.dvd_mul_right _ _
   ·have q:(eX t S (w p1)).fmod (b p1 cc)=0:= ~~~q
    simp![↓ziz,kU,zi8 F.S.d1 hp,g2,bY _ hc];refine⟨zX nz (eb cc hc),?_⟩;have qb:(-(eX t S (w p1)).fdiv (b p1 cc)).natAbs<=2^(e+240):=by rw[jF];exact bE (Dw _ nz) (tb p1 hrt)
    refine(Pf (Sq.lst n R) (Sq.lst n (v cc)) ∅ λj hj=>cI qb (B.2.1 cc j hc hj) ∅ ∅).mono ?_;rintro _ rfl;simp![];refine⟨_,_,_,_,_,λj hj=>?_,rfl⟩;rw[Af F.I R _ hj hc,hR j hj]
    by_cases e2:j=p1
    ·subst e2;rw[if_neg ∅,if_pos ∅,nR nz q];lia
    ·have:b j cc=0:=F.S.zc _ hp j hj e2;rw[this]
     by_cases e3:j<p1
     ·rw[if_pos e3,if_pos ∅];lia
     ·rw[if_neg e3,if_neg ∅];lia
  ·have op:r∈opR t s:=by
    unfold opR;rw[qag,h];exact⟨qah.mpr hrt,rfl⟩
   refine⟨λq=>?_,λq=>?_⟩
   ·refine(oG q (tb r hrt) ∅).mono ?_;rintro _ ⟨y,y2,yb,yn,rfl⟩;simp![];have y8:((y:Nat):Int).natAbs<=2^811:=bE yb (eZ ∅);refine(zj8 (Sq.lst t (w r)) ∅ ∅ y8).mono ?_;rintro _ rfl;simp![];refine⟨_,.inr ⟨w r,y,e,he,∅,y8,λa ha=>B.1 r a hrt ha,λp hp=>?_,yn,rfl⟩,rfl⟩;rw[F.I.back hrt hp,eO (g:=λ_=>0) λj hj=>by rw[F.row0 hrt op j hj,Int.zero_mul],zhl];exact Int.dvd_zero _
   ·refine⟨R,_,_,_,_,λj hj=>?_,rfl⟩;rw[hR j hj]
    by_cases e2:j=r
    ·subst e2;rw[if_neg ∅,if_pos ∅,q]
    ·by_cases e3:j<r
     ·rw[if_pos e3,if_pos ∅]
     ·rw[if_neg e3,if_neg ∅]
 ·rintro _ ⟨R,s3,s4,s5,s6,hR,rfl⟩;simp![];exact⟨_,.inl ⟨R,rfl,F.right λi hi=>by rw[hR i hi,if_pos hi]⟩,rfl⟩
end
theorem Yk (k:Nat):((List.range k).map λ_=>true).all id=true:=by simp
def rst (q p:Int×Int):Int×Int:=(q.1*p.2+p.1*q.2,q.2*p.2)
def iV (q:Int×Int)(l:AA (Int×Int)):Int×Int:=l.foldl rst q
theorem uC (x y m:Nat)(hx:x<=m)(hy:y<=m):2^x+2^y<=2^(m+1):=by
 have:=eZ hx;have:=eZ hy;rw[Ed];lia
theorem Ct:∀(l:AA (Int×Int)) (i:Nat) (q:Int×Int),(∀p∈l,p.1.natAbs<=2^e/\p.2.natAbs<=2^900/\p.2≠0)->q.1.natAbs<=2^(e+950*i)->q.2.natAbs<=2^(900*i)->q.2≠0->(iV q l).1.natAbs<=2^(e+950*(i+l.length))/\(iV q l).2.natAbs<=2^(900*(i+l.length))/\(iV q l).2≠0
 |[],i,q,_,h1,h2,h3=>⟨h1,h2,h3⟩
 |p::l,i,q,h,h1,h2,h3=>by
  obtain⟨a1,a2,a3⟩:=h p gG;have b1:=iF h1 a2;have b2:=iF a1 h2;have b3:=iF h2 a2;rw[<-sF]at b1 b2 b3;have:=Ct l (i+1) (rst q p) (λp hp=>h p (fF _ hp)) (by
   have c1:=Tz (q.1*p.2) (p.1*q.2);have c2:=uC (e+950*i+900) (e+900*i) (e+950*i+900) (bC _) ∅;have c3:2^(e+950*i+900+1)<=2^(e+950*(i+1)):=eZ ∅;show(q.1*p.2+p.1*q.2).natAbs<=_;exact bE c1 (bE (Nat.add_le_add b1 b2) (bE c2 c3))) (bE b3 (eZ ∅)) (Int.mul_ne_zero h3 a3)
  rw[eH,show i+(l.length+1)=i+1+l.length by lia];exact this
theorem xA {l:AA (Int×Int)}{p:Int×Int}(h:l[i]? =some p):iV (0,1) (l.take (i+1))=rst (iV (0,1) (l.take i)) p:=by
 rw[Yg,h];unfold iV;rw[List.foldl_append];rfl
theorem zpP {α:Type}{P Q f:α->Int}:∀(l:AA α) (T B S:Int),(∀a∈l,P a*Y=f a*Q a)->T*Y=B*S->(iV (T,B) (l.map λa=>(P a,Q a))).1*Y=(iV (T,B) (l.map λa=>(P a,Q a))).2*(S+(l.map f).sum)
 |[],T,B,S,_,h=>by show T*Y=B*(S+0);rw[h,Int.add_zero]
 |a::l,T,B,S,h,e=>by
  have:=zpP l (T*Q a+P a*B) (B*Q a) (S+f a) (λx hx=>h x (fF _ hx)) (by
   have:=h a gG;have e1:(T*Q a+P a*B)*Y=(T*Y)*Q a+(P a*Y)*B:=by grind
   rw[e1,e,this];grind)
  rw[eY,eY,List.sum_cons,<-Int.add_assoc];exact this
theorem zo9:∀(l:AA (Int×Int)) (q:Int×Int),(∀p∈l,0<p.2)->0<q.2->0<(iV q l).2
 |[],_,_,h=>h
 |p::l,q,h,h2=>zo9 l (rst q p) (λx hx=>h x (fF _ hx)) (Ol h2 (h p gG))
theorem zov (n:Nat)(P:Nat->Bool)(f:Nat->Int):(((List.range n).filter P).map f).sum=aM n λj=>if P j=true then f j else 0:=by
 induction n with
 |zero=>rfl
 |succ n ih=>
  rw[Yn,List.filter_append,iS,List.sum_append,ih];show _=aM n _+_;congr 1
  by_cases h:P n=true<;>simp[h]
def cE (p:Int×Int):D:= .tup [.int p.1,.int p.2]
theorem zgB {l:AA (Int×Int)}{e:Nat}(h:∀p∈l,p.1.natAbs<=2^e/\p.2.natAbs<=2^900/\p.2≠0)(hl:l.length<=7)(he:e<=50000000):Ok (Nu [.lst (l.map cE)]) λx=>x= .val (cE (iV (0,1) l)):=by
 simp![↓Nu,↓zfn,↓zfr];refine Uo (enc:=cE) (l:=l) (λi ρ=>∃s3 s4,ρ=[.val (.lst (l.map cE)),.val (.int (iV (0,1) (l.take i)).1),.val (.int (iV (0,1) (l.take i)).2),s3,s4]) ⟨_,_,rfl⟩ ?_ ?_
 ·rintro i p _ hi ⟨s3,s4,rfl⟩;have hil:i<l.length:=(qas.mp hi).1;obtain⟨a1,a2,a3⟩:=h p (gI hi);have bd:=Ct (e:=e) (l.take i) 0 (0,1) (λp hp=>h p (Sz hp)) (by simp) (by simp) (by decide);rw[kA,qcW ∅]at bd;have w1:=cI bd.1 a2 ∅ ∅;have w2:=cI a1 bd.2.1 ∅ ∅;have w3:=cI bd.2.1 a2 ∅ ∅;simp![↓zft,cE,w1,w2,w3,xA hi];exact⟨_,_,rfl⟩
 ·rintro _ ⟨s3,s4,rfl⟩;simp![Vp]
  rfl
theorem Jx {α:Type}(l:AA α)(b:α->Bool)(F:α->D):l.filterMap (λi=>if b i=true then some (F i)else none)=(l.filter b).map F:=by
 rw[<-Of,<-Yl,Qa];exact Ox _ λp _=>by by_cases c:b p=true<;>simp[c,Option.guard]
theorem Cn (p c:Nat)(z:Nat->Nat):lU (.int p) (.tup (bX c z))=some (.bl (fO c z p)):=by
 have e1:bX c z=((List.range c).map λi=>((z i:Nat):Int)).map .int:=by unfold bX wI wL;rw[gC];rfl
 rw[show lU (.int p) (.tup (bX c z))=lU (.int p) (.lst (bX c z))from rfl,e1,inL];congr 2;unfold fO;rw[Bj,qcX,qcZ,qci]
 constructor
 ·rintro⟨i,hi,e⟩;exact⟨i,hi,by simp;lia⟩
 ·rintro⟨i,hi,e⟩;exact⟨i,hi,by simp at e;lia⟩
section
variable {n t:Nat}{c:Nat->Nat}{z:Nat->Nat->Nat}{S:Nat->Int}{P Q:Nat->Int}
def Rt (x y:Int):Prop:=1<=y/\Int.gcd x y=1
instance (x y:Int):Decidable (Rt x y):=by unfold Rt;infer_instance
theorem znf (hy:y.natAbs<=2^900):Ok (Rv [.int x,.int y]) λz=>z= .val (.bl (decide (Rt x y))):=by
 simp![↓Rv,↓zhK];refine⟨λh=>?_,λh=>by rw[kB λz=>by have:=z.1;lia]⟩;refine(zkc hy).mono ?_;rintro _ rfl;simp![];congr 2;rw[Bj,qaQ,iN];exact⟨λe=>⟨h,∅⟩,λe=>by have:=e.2;lia⟩
theorem zja {T B:Int}(b0:0<B):Ok (Oh [cE (T,B)]) λz=>z= .val (.bl (T%B==0)):=by
 simp![↓Oh,↓zhu,cE];exact b0
abbrev tX (t:Nat)(P Q:Nat->Int):D:= .tup (wL t λi=>cE (P i,Q i))
def Cd (t:Nat)(c:Nat->Nat)(z:Nat->Nat->Nat)(P Q:Nat->Int)(p:Nat):AA (Int×Int):=((List.range t).filter λi=>fO (c i) (z i) p).map λi=>(P i,Q i)
theorem zl8 (t7:t<=7)(p:Nat):Ok (Rn [.tup (eT t c z),tX t P Q,.int (p:Nat)]) λx=>x= .own ((Cd t c z P Q p).map cE):=by
 simp![↓Rn,↓zgl,↓zga,eT,Rq];refine⟨∅,Sy (λρ=>∃a b,ρ=[.val (.int (p:Nat)),a,b]) (λi=>if fO (c i) (z i) p=true then some (cE (P i,Q i))else none) ⟨_,_,rfl⟩ ?_ ?_⟩
 ·rintro i _ hi ⟨a,b,rfl⟩;simp![↓zfU,↓zf0,Cn];exact⟨λh=>⟨by rw[if_pos h],_,_,rfl⟩,λh=>⟨by rw[if_neg (by simp[h])],_,_,rfl⟩⟩
 rintro _ ⟨a,b,rfl⟩;simp![Jx];unfold Cd;rw[gC];rfl
theorem zla (t7:t<=7)(h:∀i,i<t->jC (P i) (S i)=true):Ok (Qr [tX t P Q,.tup (wI t S)]) λx=>x= .own (wL t λi=>cE (P i*S i,Q i)):=by
 simp![↓Qr,↓ze3,↓zfh,Rq];refine⟨∅,hX (λρ=>∃a b,ρ=[a,b]) (λi=>cE (P i*S i,Q i)) ⟨_,_,rfl⟩ ?_ ?_⟩
 ·rintro i _ hi ⟨a,b,rfl⟩;simp![↓zfc,cE,h i hi];exact⟨_,_,rfl⟩
 rintro _ ⟨a,b,rfl⟩;simp![]
theorem zne {r:Nat->Int}(h:Sq d n r)(n7:n<=7)(t7:t<=7)(hr:∀i,i<t->Rise n (c i) (z i)):Ok (Tu [d,.tup (eT t c z)]) λx=>x= .val (.tup (wI t (gQ c z r))):=by
 simp![↓Tu,↓zhC,↓zg6,eT];refine⟨∅,hX (λρ=>∃a,ρ=[.val d,a]) (λi=> .int (gQ c z r i)) ⟨_,rfl⟩ ?_ ?_⟩
 ·rintro i _ hi ⟨a,rfl⟩;have cn:=(hr i hi).cn;simp![↓zg5,↓zdj,↓zfq,↓zfz,bX];refine⟨∅,hX (λρ=>∃a,ρ=[.val d,a]) (λj=> .int (r (z i j))) ⟨_,rfl⟩ ?_ ?_⟩
  ·rintro j _ hj ⟨a,rfl⟩;simp![↓zfD,h.ix,bY _ ((hr i hi).lt j hj)];exact⟨_,rfl⟩
  rintro _ ⟨a,rfl⟩;simp![zkR,zg1];exact⟨rfl,_,rfl⟩
 rintro _ ⟨a,rfl⟩;simp![]
theorem zi9 {T B Y W:Int}(nb:0<B)(ny:Y≠0)(h:T*Y=B*W):(T%B==0)=decide (Y∣W):=by
 by_cases d:Y∣W
 ·rw[gW d];obtain⟨q,rfl⟩:=d;have:T=B*q:=Int.eq_of_mul_eq_mul_right ny (by rw[h];grind);rw[this,Int.mul_emod_right];rfl
 ·rw[kB d,qab];intro z;obtain⟨q,rfl⟩:=Int.dvd_of_emod_eq_zero z;exact d ⟨q,Int.eq_of_mul_eq_mul_left (show B≠0 by lia) (by rw[<-h];grind)⟩
theorem Fj (f:Nat->Int)(p:Nat):((((List.range t).filter λi=>fO (c i) (z i) p)).map f).sum=cS t (cD c z) f p:=by
 rw[zov];unfold cS cD;refine eO λi _=>?_
 cases fO (c i) (z i) p<;>simp
theorem nG:((List.range k).map λi=>decide (Rt (P i) (Q i))).all id=true↔∀i,i<k->Rt (P i) (Q i):=by
 rw[qch];exact⟨λh i hi=> ~~~h _ (qci.mpr ⟨i,qah.mpr hi,rfl⟩),λh x hx=>by
  obtain⟨i,hi,rfl⟩:=qci.mp hx;simpa using h i (qah.mp hi)⟩
theorem zlc (k9:k<=9)(h:∀i,i<k->(Q i).natAbs<=2^900):Ok (Qs [tX k P Q]) λz=>∃b:Bool,(b=true↔∀i,i<k->Rt (P i) (Q i))/\z= .val (.bl b):=by
 simp![↓Qs,↓ze5,↓zfG];refine⟨∅,hX (λρ=>∃a b,ρ=[a,b]) (λi=> .bl (decide (Rt (P i) (Q i)))) ⟨_,_,rfl⟩ ?_ ?_⟩
 ·rintro i _ hi ⟨a,b,rfl⟩;simp![↓zfg,cE];refine(znf (h i hi)).mono ?_;rintro _ rfl;simp![];exact⟨_,_,rfl⟩
 rintro _ ⟨a,b,rfl⟩;simp![Qt];exact⟨_,nG,rfl⟩
def gK:Nat->(Nat->Int)->Int
 |0,_=>1
 |t+1,Q=>gK t Q*Q t
theorem znP:∀{t i:Nat},i<t->Q i∣gK t Q
 |t+1,i,h=>by
  by_cases e:i=t
  ·subst e;exact Int.dvd_mul_left _ _
  ·exact Int.dvd_trans (znP (t:=t) ∅) (Int.dvd_mul_right _ _)
theorem zkx:∀{t:Nat},(∀i,i<t->1<=Q i)->0<gK t Q
 |0,_=>Int.one_pos
 |t+1,h=>Ol (zkx λi hi=>h i ∅) (by have:=h t ∅;lia)
def fQ (t:Nat)(P Q:Nat->Int)(i:Nat):Int:=P i*(gK t Q/Q i)
theorem Br (hi:i<t):P i*gK t Q=fQ t P Q i*Q i:=by
 unfold fQ;rw[qdG,Int.ediv_mul_cancel (znP hi)]
def WR (n t:Nat)(c:Nat->Nat)(z:Nat->Nat->Nat)(S:Nat->Int)(k:Nat)(P Q:Nat->Int):Prop:=
 k=t/\(∀i,i<t->Rt (P i) (Q i))/\(∀p,p<n->gK t Q∣cS t (cD c z) (fQ t P Q) p)/\¬gK t Q∣eX t S (fQ t P Q)
theorem zoC (n7:n<=7)(t7:t<=7)(hs:∀i,i<t->(S i).natAbs<=2^236){k e:Nat}(k9:k<=9)(he:e<=30000000)(hQ:∀i,i<k->(Q i).natAbs<=2^900)(hP:∀i,i<k->(P i).natAbs<=2^e):Ok (Pi [dE n t c z S,tX k P Q]) λx=>∃b:Bool,(b=true↔WR n t c z S k P Q)/\x= .val (.bl b):=by
 generalize hd:dE n t c z S=d
 have i0:bF d (.int 0)=some (.int (n:Nat)):=by rw[<-hd];rfl
 have i1:bF d (.int 1)=some (.tup (eT t c z)):=by rw[<-hd];rfl
 have i2:bF d (.int 2)=some (.tup (wI t S)):=by rw[<-hd];rfl
 have sl:(eT t c z).length=t:=cC _ _;simp![↓Pi,↓zcL,i1,sl,cC];have no:∀{b:Bool},b=false->(¬WR n t c z S k P Q)->∃b':Bool,(b'=true↔WR n t c z S k P Q)/\Sl.val (D.bl b)=Sl.val (D.bl b'):=λ{b} e h=>⟨false,by simp[h],by rw[e]⟩
 refine⟨λh=>no rfl λw=>h (by have:=w.1;lia),λh=>?_⟩;obtain rfl:k=t:=∅
 refine(zlc k9 hQ).mono ?_;rintro _ ⟨b,hb,rfl⟩;cases b with
 |false=>
  simp![];exact no rfl λw=>by have:=hb.mpr w.2.1;cases this
 |true=>
 have hR:=hb.mp rfl;have hQ':∀i,i<k->0<Q i/\(Q i).natAbs<=2^900/\Int.gcd (P i) (Q i)=1:=λi hi=>⟨by have:=(hR i hi).1;lia,hQ i hi,(hR i hi).2⟩
 have Y0:=zkx (Q:=Q) (t:=k) λi hi=>(hR i hi).1
 have hf:∀i,i<k->P i*gK k Q=fQ k P Q i*Q i:=λi hi=>Br hi
 simp![↓zdc,↓zda,i0];refine⟨jY ∅ ∅,∅,hX (λρ=>∃y,ρ=[.val (.tup (eT k c z)),.val (tX k P Q),y]) (λp=>cE (iV (0,1) (Cd k c z P Q p))) ⟨_,rfl⟩ ?_ ?_⟩
 ·rintro p _ hp ⟨y,rfl⟩;simp![↓zdn];refine(zl8 t7 p).mono ?_;rintro _ rfl;simp![];refine(zgB (e:=e) (λx hx=>?_) ?_ ∅).mono ?_
  ·obtain⟨i,hi,rfl⟩:=qci.mp hx;have hi:=qah.mp (qag.mp hi).1;exact⟨hP i hi,(hQ' i hi).2.1,by have:=(hQ' i hi).1;show Q i≠0;lia⟩
  ·unfold Cd;rw[eI];exact bE (Dl _ _) (by rw[qco];exact t7)
  rintro _ rfl;simp![];exact⟨_,rfl⟩
 rintro _ ⟨y,rfl⟩;simp![↓zc8,cC];refine⟨∅,hX (λρ=>∃y,ρ=[y]) (λp=> .bl (decide (gK k Q∣cS k (cD c z) (fQ k P Q) p))) ⟨_,rfl⟩ ?_ ?_⟩
 ·rintro p _ hp ⟨y,rfl⟩;have m:=zpP (P:=P) (Q:=Q) (f:=fQ k P Q) (Y:=gK k Q) ((List.range k).filter λi=>fO (c i) (z i) p) 0 1 0 (λi hi=>hf i (qah.mp (qag.mp hi).1)) (by simp);have pos:=zo9 (Cd k c z P Q p) (0,1) (λx hx=>by
   obtain⟨i,hi,rfl⟩:=qci.mp hx;exact(hQ' i (qah.mp (qag.mp hi).1)).1) (by decide)
  rw[Int.zero_add,Fj]at m;have m:(iV (0,1) (Cd k c z P Q p)).1*gK k Q=(iV (0,1) (Cd k c z P Q p)).2*cS k (cD c z) (fQ k P Q) p:=m;simp![↓zdf];refine(zja (T:=(iV (0,1) (Cd k c z P Q p)).1) pos).mono ?_;rintro _ rfl;simp![];rw[zi9 pos ∅ m];exact⟨rfl,_,rfl⟩
 rintro _ ⟨y,rfl⟩;have all:(((List.range n).map λp=>decide (gK k Q∣cS k (cD c z) (fQ k P Q) p)).all id=true)↔∀p,p<n->gK k Q∣cS k (cD c z) (fQ k P Q) p:=by
  rw[qch];exact⟨λh i hi=> ~~~h _ (qci.mpr ⟨i,qah.mpr hi,rfl⟩),λh x hx=>by
   obtain⟨i,hi,rfl⟩:=qci.mp hx;simpa using h i (qah.mp hi)⟩
 simp![Qt];cases hall:(((List.range n).map λp=>decide (gK k Q∣cS k (cD c z) (fQ k P Q) p)).all id)with
 |false=>
  simp![];exact no rfl λw=>by have:=all.mpr w.2.2.1;rw[hall]at this;cases this
 |true=>
 rw[hall]at all;have all:=all.mp rfl;simp![↓zdr,i2];refine(zla t7 λi hi=>cI (hP i hi) (hs i hi) ∅ ∅).mono ?_;rintro _ rfl;simp![];have el:(wL k λi=>cE (P i*S i,Q i))=((List.range k).map λi=>(P i*S i,Q i)).map cE:=by unfold wL;rw[gC];rfl
 rw[el];refine(zgB (e:=e+236) (λx hx=>?_) (by simp;lia) ∅).mono ?_
 ·obtain⟨i,hi,rfl⟩:=qci.mp hx;have hi:=qah.mp hi;refine⟨?_,(hQ' i hi).2.1,by have:=(hQ' i hi).1;show Q i≠0;lia⟩;rw[sF];exact iF (hP i hi) (hs i hi)
 rintro _ rfl;have m:=zpP (P:=λi=>P i*S i) (Q:=Q) (f:=λi=>fQ k P Q i*S i) (Y:=gK k Q) (List.range k) 0 1 0 (λi hi=>by
  have:=hf i (qah.mp hi);have e1:P i*S i*gK k Q=(P i*gK k Q)*S i:=by grind
  rw[e1,this];grind) (by simp)
 have pos:=zo9 ((List.range k).map λi=>(P i*S i,Q i)) (0,1) (λx hx=>by
  obtain⟨i,hi,rfl⟩:=qci.mp hx;exact(hQ' i (qah.mp hi)).1) (by decide)
 rw[Int.zero_add,zg1]at m;simp![];refine(zja (T:=(iV (0,1) ((List.range k).map λi=>(P i*S i,Q i))).1) pos).mono ?_;rintro _ rfl;simp![];rw[zi9 pos ∅ m];refine⟨!decide (gK k Q∣eX k S (fQ k P Q)),?_,rfl⟩;rw[Bool.not_eq_true',decide_eq_false_iff_not];exact⟨λh=>⟨rfl,hR,all,h⟩,λw=>w.2.2.2⟩
end
theorem divG {j:Int}(n:j≠0)(h:j.natAbs<=2^900):Dx j=true:=by
 unfold Dx;have:j.natAbs.log2<9000:=(Vg ∅).mpr (tO h (Zs (by decide) ∅));simp[n,this]
theorem zpm (y0:0<y)(hy:y.natAbs<=2^900):Ok (Kp [.int x,.int y]) λz=>z= .val (cE (x.fdiv (Int.gcd x y),y.fdiv (Int.gcd x y))):=by
 simp![↓Kp,↓zhL,znM,↓zg8];refine Xx (λm ρ=>∃(a b:Nat),b<=m/\Nat.gcd a b=Int.gcd x y/\ρ=[.val (.int x),.val (.int y),.val (.int a),.val (.int b)]) ?_ eW y.natAbs _ (tO hy (Zs (by decide) (show 900<10000 by lia))) ⟨x.natAbs,y.natAbs,bC _,rfl,by rw[show((y.natAbs:Nat):Int)=y by lia]⟩;rintro m _ ⟨a,b,hb,hg,rfl⟩;simp![↓zgD];refine⟨λc=>?_,λc=>?_⟩
 ·have b0:b≠0:=by simp at c;lia
  refine⟨m-1,∅,?_⟩;simp![↓zgI];refine⟨∅,b,a%b,by have:=Nat.mod_lt a (show 0<b by lia);lia,?_,by rw[Int.natCast_emod,Int.fmod_eq_emod_of_nonneg _ ∅]⟩;rw[<-hg,Nat.gcd_comm a b,Nat.gcd_rec b a,Nat.gcd_comm]
 ·have b0:b=0:=by simp at c;lia
  subst b0;rw[Nat.gcd_zero_right]at hg;subst hg;have gp:0<Int.gcd x y:=qdI x ∅;have le:Int.gcd x y<=y.natAbs:=Nat.le_of_dvd ∅ (Nat.gcd_dvd_right _ _);have ok:Dx ((Int.gcd x y:Nat):Int)=true:=divG ∅ (by rw[Int.natAbs_natCast];lia);simp![ok]
  rfl
theorem dEq2 (a b c d:Int):bU (cE (a,b)) (cE (c,d))=some (.bl (decide (a=c/\b=d))):=by
 rw[show cE (a,b)= .tup [.int a,.int b]from rfl,show cE (c,d)= .tup [.int c,.int d]from rfl,Ip];congr 2;rw[Bj];simp
theorem zl2 (hy:y.natAbs<=2^900):Ok (Yb [.tup [.int x,.int y]]) λz=>z= .val (.bl (decide (Rt x y))):=by
 have e2:[D.int x,D.int y]=wI 2 λi=>if i=0 then x else y:=rfl
 simp![↓Yb,↓zc3,↓zc9];refine⟨by decide,λz=>AH rfl z,λ_=>?_⟩;rw[e2];refine hX (λρ=>∃a,ρ=[a]) (λi=> .bl true) ⟨_,rfl⟩ ?_ ?_
 ·rintro i _ hi ⟨a,rfl⟩;simp![↓zdi,↓zde,↓zfy];exact⟨by decide,by decide,rfl,_,rfl⟩
 ·rintro _ ⟨a,rfl⟩;simp![Qt,Yk];rw[<-e2];simp![↓zdq];refine⟨λh=>?_,λh=>by rw[kB λz=>by have:=z.1;lia]⟩;refine(zpm ∅ hy).mono ?_;rintro _ rfl;have gp:0<Int.gcd x y:=qdI x ∅;rw[show D.tup [.int x,.int y]=cE (x,y)from rfl];simp![dEq2];congr 2;rw[Bj,iN,iN]
  constructor
  ·rintro⟨_,e⟩;refine⟨∅,?_⟩;have d:((Int.gcd x y:Nat):Int)∣y:=Int.gcd_dvd_right ..;rw[Za _ ∅]at e;have m:=Int.ediv_mul_cancel d;rw[e]at m;have:((Int.gcd x y:Nat):Int)=1:=Int.eq_of_mul_eq_mul_left (show y≠0 by lia) (by rw[m,Int.mul_one]);lia
  ·rintro⟨_,e⟩;rw[e];exact⟨Int.fdiv_one _,Int.fdiv_one _⟩
theorem zjX (t7:t<=7){P Q f g:Nat->Int}(he:e<=30000000)(hQ:∀i,i<t->0<Q i/\(Q i).natAbs<=2^900)(hP:∀i,i<t->(P i).natAbs<=2^e)(hf:∀i,i<t->P i*Y=f i*Q i){d2:D}(h2:Sq d2 t g)(hg:∀a,a<t->(g a).natAbs<=2^236):
  Ok (Ni [tX t P Q,d2]) λx=>∃T B,0<B/\T*Y=B*eX t g f/\x= .val (.tup [.int T,.int B]):=by
 simp![↓Ni,↓zdv,↓zd1,h2.it,Rq];refine mF (λi ρ=>∃T B s4 s5,0<B/\T*Y=B*aM i (λa=>f a*g a)/\B.natAbs<=2^(900*i)/\T.natAbs<=2^(e+300+1000*i)/\ρ=[.val (tX t P Q),.val d2,.val (.int T),.val (.int B),s4,s5]) ⟨0,1,_,_,by decide,by simp[aM],by decide,gR _,rfl⟩ ?_ ?_
 ·rintro i _ hi ⟨T,B,s4,s5,b0,hT,bB,bT,rfl⟩;have q0:=(hQ i hi).1;have pq:=hf i hi;have pb:=hP i hi;have qb:=(hQ i hi).2;have pg:(P i*g i).natAbs<=2^(e+236):=by rw[sF];exact iF pb (hg i hi)
  have B1:(B*Q i).natAbs<=2^(900*(i+1)):=by rw[show 900*(i+1)=900*i+900 by lia,sF];exact iF bB qb
  have T1:(T*Q i).natAbs<=2^(e+300+1000*i+900):=by rw[sF];exact iF bT qb
  have T2:(P i*g i*B).natAbs<=2^(e+236+900*i):=by rw[sF];exact iF pg bB
  have w1:=cI bT qb ∅ ∅;have w2:=cI pb (hg i hi) ∅ ∅;have w3:=cI pg bB ∅ ∅;have w4:=cI bB qb ∅ ∅;simp![↓zdQ,cE,w1,w2,w3,w4];refine⟨_,_,_,_,Ol b0 q0,?_,B1,?_,rfl⟩
  ·show _=_*(aM i _+f i*g i)
   generalize P i=P at*
   generalize Q i=Q at*
   generalize aM i (λa=>f a*g a)=W at*
   have:(T*Q+P*g i*B)*Y=(T*Y)*Q+(P*Y)*(g i*B):=by grind
   rw[this,hT,pq];grind
  ·have h1:=Tz (T*Q i) (P i*g i*B);have h3:2^(e+236+900*i)<=2^(e+300+1000*i+900):=eZ ∅;have h4:2^(e+300+1000*i+901)=2^(e+300+1000*i+900)*2:=Ed ..;have h5:2^(e+300+1000*i+901)<=2^(e+300+1000*(i+1)):=eZ ∅
   generalize 2^(e+300+1000*i+900)=p1 at*
   generalize 2^(e+300+1000*i+901)=p2 at*
   generalize 2^(e+300+1000*(i+1))=p3 at*
   generalize 2^(e+236+900*i)=p4 at*
   lia
 ·rintro _ ⟨T,B,s4,s5,b0,hT,bB,bT,rfl⟩;simp![];exact⟨T,B,b0,hT,rfl⟩
section
variable {n t:Nat}{c:Nat->Nat}{z:Nat->Nat->Nat}{S:Nat->Int}{P Q:Nat->Int}
theorem zpC {T B Y W:Int}(nb:0<B)(ny:Y≠0)(h:T*Y=B*W):T%B=0↔Y∣W:=by
 have:=zi9 nb ny h;rw[Bj,qaQ,iN]at this;exact this
theorem nZ (n7:n<=7)(t7:t<=7)(hs:∀i,i<t->(S i).natAbs<=2^236){k e:Nat}(k9:k<=9)(he:e<=30000000)(hQ:∀i,i<k->(Q i).natAbs<=2^900)(hP:∀i,i<k->(P i).natAbs<=2^e):Ok (Vo [dE n t c z S,tX k P Q]) λx=>∃b:Bool,(b=true↔WR n t c z S k P Q)/\x= .val (.bl b):=by
 have no:∀{b:Bool},b=false->(¬WR n t c z S k P Q)->∃b':Bool,(b'=true↔WR n t c z S k P Q)/\Sl.val (D.bl b)=Sl.val (D.bl b'):=λ{b} e h=>⟨false,by simp[h],by rw[e]⟩
 have sl:(eT t c z).length=t:=cC _ _;simp![↓Vo,↓zb6,dE,sl,cC,↓zcF];refine⟨λh=>no rfl λw=>h (by have:=w.1;lia),λh=>?_⟩;obtain rfl:k=t:=∅
 refine⟨∅,hX (λρ=>∃a,ρ=[a]) (λi=> .bl (decide (Rt (P i) (Q i)))) ⟨_,rfl⟩ ?_ ?_⟩
 ·rintro i _ hi ⟨a,rfl⟩;simp![↓zcy,cE];refine(zl2 (hQ i hi)).mono ?_;rintro _ rfl;simp![];exact⟨_,rfl⟩
 rintro _ ⟨a,rfl⟩;have art:=nG (P:=P) (Q:=Q) (k:=k);simp![Qt];cases hall:(((List.range k).map λi=>decide (Rt (P i) (Q i))).all id)with
 |false=>
  rw[hall]at art;simp![];exact no rfl λw=>by have:=art.mpr w.2.1;cases this
 |true=>
 rw[hall]at art;have hR:=art.mp rfl;have hQ':∀i,i<k->0<Q i/\(Q i).natAbs<=2^900:=λi hi=>⟨by have:=(hR i hi).1;lia,hQ i hi⟩
 have Y0:=zkx (Q:=Q) (t:=k) λi hi=>(hR i hi).1
 have hf:∀i,i<k->P i*gK k Q=fQ k P Q i*Q i:=λi hi=>Br hi
 simp![↓zcE,↓zcB];refine⟨jY ∅ ∅,mF (λi ρ=>(∀p,p<i->gK k Q∣cS k (cD c z) (fQ k P Q) p)/\∃s5 s6 s7,ρ=[.val (dE n k c z S),.val (tX k P Q),.val (.int n),.val (.tup (eT k c z)),.val (.tup (wI k S)),s5,s6,s7]) ⟨λp hp=>∅,_,_,_,rfl⟩ ?_ ?_⟩
 ·rintro p _ hp ⟨hd,s5,s6,s7,rfl⟩;simp![↓zcG,↓zcz,eT];refine⟨∅,hX (λρ=>∃y,ρ=[.val (.int p),y]) (λi=> .int (cD c z i p)) ⟨_,rfl⟩ ?_ ?_⟩
  ·rintro i _ hi ⟨y,rfl⟩;simp![↓zcA,Cn];exact⟨rfl,_,rfl⟩
  rintro _ ⟨y,rfl⟩;simp![];refine(zjX t7 he hQ' hP hf (Sq.lst k λi=>cD c z i p) λa ha=>?_).mono ?_
  ·unfold cD
   split<;>decide+kernel
  rintro _ ⟨T,B,b0,hT,rfl⟩;have md:=zpC b0 (show gK k Q≠0 by lia) hT;simp![];refine⟨b0,λh=>no rfl λw=>h (md.mpr (w.2.2.1 p hp)),λh=>⟨λq hq=>?_,_,_,_,rfl⟩⟩
  by_cases e:q=p
  ·subst e;exact md.mp h
  ·exact hd q ∅
 ·rintro _ ⟨hd,s5,s6,s7,rfl⟩;simp![];refine(zjX t7 he hQ' hP hf (Sq.tup k S) hs).mono ?_;rintro _ ⟨T,B,b0,hT,rfl⟩;have md:=zpC b0 (show gK k Q≠0 by lia) hT;simp![];refine⟨b0,_,?_,rfl⟩;rw[qb5];exact⟨λh=>⟨rfl,hR,hd,λd=>h (md.mpr d)⟩,λw z=>w.2.2.2 (md.mp z)⟩
end
theorem Kz (s:Nat)(a b:Nat->Int):bU (.lst (wI s a)) (.lst (wI s b))=some (.bl (eqW s a b)):=by
 have p1:Pl 1 (.lst (wI s a)):=mM (wY λc=>zn7 0 _);have p2:Pl 1 (.lst (wI s b)):=mM (wY λc=>zn7 0 _);unfold bU;rw[p1.1,p2.1,gW (bE p1.2 (by decide:1<=50))];simp only[Bool.and_self,if_true,fW];rw[Kx,Kx,zkY]
 rfl
theorem Pt:bU (.str "row") (.str "row")=some (.bl true):=by rw[Xe];rfl
theorem Jg:bU (.str "none") (.str "row")=some (.bl false):=by rw[Xe];rfl
theorem e_nn:bU (.str "none") (.str "none")=some (.bl true):=by rw[Xe];rfl
theorem rO (a:Bool):bU (.bl a) (.bl a)=some (.bl true):=by cases a<;>rfl
theorem Ka {a b:Bool}{p:Prop}(h:a=true↔p)(g:b=true↔p):a=b:=by rw[Bj,h,g]
section
variable {n t:Nat}{c:Nat->Nat}{z:Nat->Nat->Nat}{S:Nat->Int}
def jU (n t:Nat)(c:Nat->Nat)(z:Nat->Nat->Nat)(S:Nat->Int)(d:D):Prop:=Iy [dE n t c z S,d]=some (.val (.bl true))
def Ei (n t:Nat)(c:Nat->Nat)(z:Nat->Nat->Nat)(S:Nat->Int)(m:Nat)(r:Nat->Int):Prop:=m=n/\∀i,i<t->gQ c z r i=S i
theorem qG (n7:n<=7)(t7:t<=7)(hr:∀i,i<t->Rise n (c i) (z i))(m:Nat)(r:Nat->Int):Ok (Lm [dE n t c z S,.tup [.str "row",.tup (wI m r)]]) λx=>∃b:Bool,(b=true↔Ei n t c z S m r)/\x= .val (.bl b):=by
 have i0:bF (dE n t c z S) (.int 0)=some (.int (n:Nat)):=rfl;have i1:bF (dE n t c z S) (.int 1)=some (.tup (eT t c z)):=rfl;have i2:bF (dE n t c z S) (.int 2)=some (.tup (wI t S)):=rfl;simp![↓Lm,↓Zf,↓zef,↓zgi,Pt,i0,i1,i2,cC];refine⟨λh=>?_,λh=>⟨false,?_,rfl⟩⟩
 ·obtain rfl:m=n:=∅
  refine(zne (Sq.tup m r) n7 t7 hr).mono ?_;rintro _ rfl;simp![i2,Fg];exact⟨_,eqW_iff.trans ⟨λh=>⟨rfl,h⟩,λh=>h.2⟩,rfl⟩
 ·constructor
  ·intro e;cases e
  ·intro w;exact AH w.1 ∅
theorem yE (n7:n<=7)(t7:t<=7)(hr:∀i,i<t->Rise n (c i) (z i))(m:Nat)(r:Nat->Int):Ok (Ez [dE n t c z S,.tup [.str "row",.tup (wI m r)]]) λx=>∃b:Bool,(b=true↔Ei n t c z S m r)/\x= .val (.bl b):=by
 have i0:bF (dE n t c z S) (.int 0)=some (.int (n:Nat)):=rfl;have i1:bF (dE n t c z S) (.int 1)=some (.tup (eT t c z)):=rfl;have i2:bF (dE n t c z S) (.int 2)=some (.tup (wI t S)):=rfl;simp![↓Ez,↓Yu,Pt,i0,i1,i2,cC];refine⟨λh=>?_,λh=>⟨false,?_,rfl⟩⟩
 ·obtain rfl:m=n:=∅
  refine(ze9 (Sq.tup m r) n7 t7 hr rfl).mono ?_;rintro _ rfl;simp![i2,Kz];exact⟨_,eqW_iff.trans ⟨λh=>⟨rfl,h⟩,λh=>h.2⟩,rfl⟩
 ·constructor
  ·intro e;cases e
  ·intro w;exact AH w.1 ∅
theorem zq5 {p:Prop}(h:Ok (Lm [dE n t c z S,d]) λx=>∃b:Bool,(b=true↔p)/\x= .val (.bl b))(g:Ok (Ez [dE n t c z S,d]) λx=>∃b:Bool,(b=true↔p)/\x= .val (.bl b)):jU n t c z S d:=by
 have:Ok (Iy [dE n t c z S,d]) λx=>x= .val (.bl true):=by
  simp![↓Iy,↓zfi];refine h.mono ?_;rintro _ ⟨b,hb,rfl⟩;simp![];refine⟨by decide,λ_=>?_,λh=>AH h (by decide)⟩;refine g.mono ?_;rintro _ ⟨b',hb',rfl⟩;obtain rfl:=Ka hb hb';simp![rO]
 obtain⟨_,e,rfl⟩:=this;exact e
theorem zkK (n7:n<=7)(t7:t<=7)(hr:∀i,i<t->Rise n (c i) (z i))(l:AA Int):jU n t c z S (.tup [.str "row",.tup (l.map D.int)]):=by
 have el:l.map D.int=wI l.length λi=>l.getD i 0:=by
  unfold wI wL;apply pP;intro i;rw[cJ,cJ]
  by_cases h:i<l.length
  ·rw[bI h,Oa h];simp[h]
  ·rw[fD ∅,fD (by simp;lia)];rfl
 rw[el];exact zq5 (qG n7 t7 hr _ _) (yE n7 t7 hr _ _)
theorem zmh (n7:n<=7)(t7:t<=7)(hs:∀i,i<t->(S i).natAbs<=2^236){P Q:Nat->Int}(k9:k<=9)(he:e<=30000000)(hQ:∀i,i<k->(Q i).natAbs<=2^900)(hP:∀i,i<k->(P i).natAbs<=2^e):jU n t c z S (.tup [.str "none",tX k P Q]):=by
 refine zq5 (p:=WR n t c z S k P Q) ?_ ?_
 ·simp![↓Lm,↓Zf,Jg,↓zd5,e_nn];refine⟨λz=>AH z (by decide),λ_=>?_⟩;refine(zoC n7 t7 hs k9 he hQ hP).mono ?_;rintro _ ⟨b,hb,rfl⟩;simp![];exact⟨b,hb,rfl⟩
 ·simp![↓Ez,↓Yu,Jg,↓zcC];refine⟨λz=>AH z (by decide),λ_=>?_⟩;refine(nZ n7 t7 hs k9 he hQ hP).mono ?_;rintro _ ⟨b,hb,rfl⟩;simp![];exact⟨b,hb,rfl⟩
end
theorem rs1 (o:AA Int)(ds:AA D)(a1 a3 a4 a5 a6:Sl)(h:cA ds)(lo:o.length<=60):Ok (zbW [.par ds,a1,.own (o.map D.int),a3,a4,a5,a6]) λx=>∃(o:AA Int) (ds':AA D) (a:AA Sl),cA ds'/\x=(.ret (.own (o.map D.int)),.par ds'::a):=by
 simp![↓zbW];exact⟨o,ds,_,h,rfl⟩
theorem rs2 (d:D)(way at' other:Nat)(by':Int)(o:AA Int)(ds:AA D)(h:cA ds)(ho:o.length<=60):Ok (zbS [.par ds,.val d,.own (o.map D.int),.val (.int at'),.val (.int other),.val (.int way),.val (.int by')]) λx=>∃(o:AA Int) (ds':AA D) (a:AA Sl),cA ds'/\x=(.ret (.own (o.map D.int)),.par ds'::a):=by
 have fin:=λ(o:AA Int) (a1 a3 a4 a5 a6:Sl) (ho:o.length<=60)=>rs1 o ds a1 a3 a4 a5 a6 h ho
 simp![↓zbS];refine⟨λ_=>⟨λha=>⟨λhb=>?_,λ_=>fin o _ _ _ _ _ ho⟩,λ_=>fin o _ _ _ _ _ ho⟩,λ_=>fin o _ _ _ _ _ ho⟩;have ha':at'<o.length:=∅
 have hb':other<o.length:=∅
 have ga:(o.map D.int)[at']? =some (.int o[at']):=by rw[cJ,bI ha'];rfl
 have gb:(o.map D.int)[other]? =some (.int o[other]):=by rw[cJ,bI hb'];rfl
 simp![ga,gb,↓Xg,ha',hb',kM];have e2:((o.map D.int).set at' (.int o[other])).set other (.int o[at'])=((o.set at' o[other]).set other o[at']).map D.int:=by rw[List.map_set,List.map_set]
 rw[e2];exact fin _ _ _ _ _ _ (by rw[kM,kM];exact ho)
theorem rs3 (d:D)(way at' other:Nat)(by':Int)(o:AA Int)(ds:AA D)(h:cA ds)(ho:o.length<=55)(la:at'<=o.length):Ok (zbM [.par ds,.val d,.own (o.map D.int),.val (.int at'),.val (.int other),.val (.int way),.val (.int by')]) λx=>∃(o:AA Int) (ds':AA D) (a:AA Sl),cA ds'/\x=(.ret (.own (o.map D.int)),.par ds'::a):=by
 simp![↓zbM];refine⟨λ_=>⟨⟨⟨⟨∅,∅⟩,∅⟩,∅⟩,?_⟩,λ_=>rs2 d way at' other by' o ds h ∅⟩;have e2:List.take at' (o.map D.int)++[]++List.drop ((at':Int)+1).toNat (o.map D.int)=(o.take at'++o.drop (at'+1)).map D.int:=by
  rw[lE,iS,Qd,Tr,show((at':Int)+1).toNat=at'+1 by lia]
 rw[e2];exact rs2 d way at' other by' _ ds h (by rw[eS,kA,tR];lia)
theorem rs4 (d:D)(way at' other:Nat)(by':Int)(o:AA Int)(ds:AA D)(h:cA ds)(ho:o.length<=50)(la:at'<=o.length):Ok (zbg [.par ds,.val d,.own (o.map D.int),.val (.int at'),.val (.int other),.val (.int way),.val (.int by')]) λx=>∃(o:AA Int) (ds':AA D) (a:AA Sl),cA ds'/\x=(.ret (.own (o.map D.int)),.par ds'::a):=by
 simp![↓zbg];refine⟨λ_=>⟨⟨∅,∅,∅⟩,?_⟩,λ_=>rs3 d way at' other by' o ds h ∅ la⟩;have e2:List.take at' (o.map D.int)++D.int by'::List.drop at' (o.map D.int)=(o.take at'++by'::o.drop at').map D.int:=by
  rw[iS,eY,Qd,Tr]
 rw[e2];have ln:(o.take at'++by'::o.drop at').length=o.length+1:=by rw[eS,eH,kA,tR];lia
 exact rs3 d way at' other by' _ ds h (by rw[ln];lia) (by rw[ln];lia)
theorem zmu (h:cA ds){l:AA Int}(hl:l.length<=50):Ok (Vt ds [.tup (l.map D.int)]) λx=>∃(o:AA Int) (ds':AA D),cA ds'/\x=(.own (o.map D.int),ds'):=by
 simp![↓Vt,↓zcN];refine(fT h (m:=((l.length:Int)+1)) ∅ ∅).mono ?_;rintro _ ⟨at',d1,hat,h1,rfl⟩;simp![];refine(fT h1 (m:=((l.length:Int)+1)) ∅ ∅).mono ?_;rintro _ ⟨other,d2,hot,h2,rfl⟩;simp![];refine(fT h2 (m:=6) ∅ ∅).mono ?_;rintro _ ⟨way,d3,hw,h3,rfl⟩;simp![];refine(fT h3 (m:=4) ∅ ∅).mono ?_;rintro _ ⟨v,d4,hv,h4,rfl⟩;have hv':∃z:Int,[D.int 1,D.int (-1),D.int 100000000000000000000000000000000000000000000000000000000000,D.int (-100000000000000000000000000000000000000000000000000000000000)][v]? =some (.int z):=by
  have:v=0\/v=1\/v=2\/v=3:=∅
  rcases this with rfl|rfl|rfl|rfl<;>exact⟨_,rfl⟩
 obtain⟨z,ez⟩:=hv';have tail:∀o:AA Int,o.length=l.length->∀{Q:Fl×R->Prop},(∀(o:AA Int) (ds':AA D) (a:AA Sl),cA ds'->Q (.ret (.own (o.map D.int)),.par ds'::a))->Ok (zbg [.par d4,.val (.tup (l.map D.int)),.own (o.map D.int),.val (.int at'),.val (.int other),.val (.int way),.val (.int z)]) Q:=λo lo {Q} hQ=>by
  refine(rs4 _ way at' other z o d4 h4 ∅ ∅).mono ?_;rintro _ ⟨o',ds',a,hp,rfl⟩;exact hQ o' ds' a hp
 simp![ez];refine⟨λhw3=>⟨λhat'=>?_,λ_=>tail l rfl λo' ds' a hp=>?_⟩,λ_=>tail l rfl λo' ds' a hp=>?_⟩
 rotate_left
 ·simp![];exact⟨o',ds',hp,rfl⟩
 ·simp![];exact⟨o',ds',hp,rfl⟩
 have ha:at'<l.length:=∅
 have ga:(l.map D.int)[at']? =some (.int l[at']):=by rw[cJ,bI ha];rfl
 have h3:∃y:Int,[D.int (l[at']+z%7-3),D.int (l[at']+z%5-2),D.int z][way]? =some (.int y):=by
  have:way=0\/way=1\/way=2:=∅
  rcases this with rfl|rfl|rfl<;>exact⟨_,rfl⟩
 obtain⟨y,ey⟩:=h3;simp![ga,ey,ha];have e2:(l.map D.int).set at' (.int y)=(l.set at' y).map D.int:=by rw[List.map_set]
 rw[e2];refine tail _ (by rw[kM]) λo' ds' a hp=>?_
 simp![];exact⟨o',ds',hp,rfl⟩
def eD (L:AA (Int×Int)):AA Ch:=L.map λp=> .l [.int p.1,.int p.2]
structure RB (m a c:Nat)(L:List (Int×Int)):Prop where
 ln:L.length<=m
 bd:∀p∈L,p.1.natAbs<=2^a/\p.2.natAbs<=2^c
theorem RB.mono {m a c m' a' c':Nat}(h:RB m a c L)(hm:m<=m')(ha:a<=a')(hc:c<=c'):RB m' a' c' L:=⟨bE h.ln hm,λp hp=>⟨bE (h.bd p hp).1 (eZ ha),bE (h.bd p hp).2 (eZ hc)⟩⟩
theorem Cm (L:AA (Int×Int)):(eD L).length=L.length:=by unfold eD;rw[eI]
theorem pW (L:AA (Int×Int)):(eD L).map Ch.D=wL L.length λi=> .lst [.int (L.getD i (0,0)).1,.int (L.getD i (0,0)).2]:=by
 unfold eD wL;rw[gC];apply pP;intro i;rw[cJ,cJ]
 by_cases h:i<L.length
 ·rw[bI h,Oa h];simp[h,Ch.D]
 ·rw[fD ∅,fD (by simp;lia)];rfl
theorem Fm (L:AA (Int×Int)):L.map cE=wL L.length λi=>cE (L.getD i (0,0)):=by
 unfold wL;apply pP;intro i;rw[cJ,cJ]
 by_cases h:i<L.length
 ·rw[bI h,Oa h];simp[h]
 ·rw[fD ∅,fD (by simp;lia)];rfl
abbrev Ny (m a c:Nat)(x:Fl×R):Prop:=∃(L:AA (Int×Int)) (ds:AA D) (ρ:R),cA ds/\RB m a c L/\x=(.ret (.val (.tup (L.map cE))),.par ds::ρ)
section
variable {ds:AA D}{m a c:Nat}{L:AA (Int×Int)}{w at':Nat}{d:D}
theorem br5 (h:cA ds)(hb:RB m a c L)(m9:m<=100)(s3 s4:Sl):Ok (zbn [.par ds,.val d,.tre (.lst (eD L)),s3,s4]) (Ny m a c):=by
 have:=hb.ln;simp![↓zbn,pW,↓zcq];refine⟨∅,hX (λρ=>∃y,ρ=[y]) (λi=>cE (L.getD i (0,0))) ⟨_,rfl⟩ ?_ ?_⟩
 ·rintro i _ hi ⟨y,rfl⟩;simp![↓zcc];exact⟨rfl,_,rfl⟩
 rintro _ ⟨y,rfl⟩;simp![];exact⟨L,ds,_,h,hb,by rw[Fm]⟩
theorem zpx (f:Int×Int->Int×Int):(((List.range L.length).map λi=>[D.int (f (L.getD i (0,0))).1,D.int (f (L.getD i (0,0))).2]).map Ch.l)=eD (L.map f):=by
 unfold eD;rw[gC,gC];apply pP;intro i;rw[cJ,cJ]
 by_cases h:i<L.length
 ·rw[Oa h,bI h];simp[h]
 ·rw[fD (l:=List.range _) (by simp;lia),fD ∅];rfl
theorem RB.map (h:RB m a c L){f:Int×Int->Int×Int}(hf:∀p∈L,(f p).1.natAbs<=2^a'/\(f p).2.natAbs<=2^c'):RB m a' c' (L.map f):=
 ⟨by rw[eI];exact h.ln,λp hp=>by obtain⟨q,hq,rfl⟩:=qci.mp hp;exact hf q hq⟩
theorem RB.at (h:RB m a c L)(i:Nat):(L.getD i (0,0)).1.natAbs<=2^a/\(L.getD i (0,0)).2.natAbs<=2^c:=by
 by_cases hi:i<L.length
 ·rw[uY,bI hi];exact h.bd _ (Vm hi)
 ·rw[uY,fD ∅];exact⟨gR _,gR _⟩
theorem Le {k:Int}(hk:k.natAbs<=2^2):∀{x:Int} {a:Nat},x.natAbs<=2^a->(k*x).natAbs<=2^(a+2):=λ{x a} h=>by
 have:=iF hk h;rwa[<-sF,Qm]at this
theorem brM (h:cA ds)(hb:RB m a c L)(m9:m<=100)(ha:a<=30000010){k:Int}(hk:k.natAbs<=2^2){ce:MO}(hce:∀x y:Int,jC k x=true->Ok (ce [.val (.int x),.val (.int y)]) λz=>z=([.int (k*x),.int y],[.val (.int x),.val (.int y)]))(hq:∀(L:AA (Int×Int)) (xs:AA (AA D)) (ρ:R),RB m (a+2) c L->xs.map Ch.l=eD L->Q (xs,ρ)):
  aE Q (lX (Bm (gL 2 (dB (gN 0) (dB (gN 1) iR))) eK ce) (wL L.length λi=>D.lst [D.int (L.getD i (0,0)).fst,D.int (L.getD i (0,0)).snd]) [Sl.emp,Sl.emp]):=by
 refine zlt (λρ=>∃x y,ρ=[x,y]) (λi=>[.int (k*(L.getD i (0,0)).1),.int (L.getD i (0,0)).2]) ⟨_,_,rfl⟩ ?_ ?_
 ·rintro i _ hi ⟨x,y,rfl⟩;have b:=hb.at i;have w1:=cI hk b.1 ∅ ∅;simp![↓zku];refine(hce _ _ w1).mono ?_;rintro _ rfl;exact⟨rfl,rfl,_,_,rfl⟩
 ·rintro ρ _;exact hq (L.map λp=>(k*p.1,p.2)) _ _ (hb.map λp hp=>⟨Le hk (hb.bd p hp).1,(hb.bd p hp).2⟩) (zpx λp=>(k*p.1,p.2))
theorem br6 (h:cA ds)(hb:RB m a c L)(m9:m<=100)(ha:a<=30000010)(s3:Sl):Ok (zbo [.par ds,.val d,.tre (.lst (eD L)),s3,.val (.int (w:Nat))]) (Ny m (a+2) c):=by
 have:=hb.ln;simp![↓zbo,pW];refine⟨λ_=>⟨∅,brM h hb m9 ∅ (k:=2) (by decide) (λx y hw=>?_) λL' xs ρ hL e=>?_⟩,λ_=>br5 h (hb.mono (bC _) ∅ (bC _)) m9 _ _⟩
 ·simp![↓zcm,hw]
 ·simp only[e];exact br5 h hL m9 _ _
theorem br7 (h:cA ds)(hb:RB m a c L)(m9:m<=100)(ha:a<=30000000)(s3:Sl):Ok (zbj [.par ds,.val d,.tre (.lst (eD L)),s3,.val (.int (w:Nat))]) (Ny m (a+4) c):=by
 have:=hb.ln;simp![↓zbj,pW];refine⟨λ_=>⟨∅,brM h hb m9 ∅ (k:=3) (by decide) (λx y hw=>?_) λL' xs ρ hL e=>?_⟩,λ_=>br6 h (hb.mono (bC _) ∅ (bC _)) m9 ∅ _⟩
 ·simp![↓zch,hw]
 ·simp only[e];exact br6 h hL m9 ∅ _
theorem Mw (h:at'<L.length):(eD L)[at']? =some (.l [.int (L.getD at' (0,0)).1,.int (L.getD at' (0,0)).2]):=by
 unfold eD;rw[cJ,bI h,uY,bI h]
 rfl
theorem br8 (h:cA ds)(hb:RB m a c L)(m9:m<=90)(ha:a<=30000000)(hat:at'<L.length):Ok (zbl [.par ds,.val d,.tre (.lst (eD L)),.val (.int (at':Nat)),.val (.int (w:Nat))]) (Ny (m+1) (a+4) c):=by
  have ln:=hb.ln;simp![↓zbl,Cm];refine⟨λ_=>⟨⟨∅,∅,∅⟩,?_⟩,λ_=>br7 h (hb.mono ∅ (bC _) (bC _)) ∅ ha _⟩;refine(fT h (m:=2) ∅ ∅).mono ?_;rintro _ ⟨u,d1,hu,h1,rfl⟩;have sub:∀i,(∀p∈L.take i,p∈L)/\∀p∈L.drop i,p∈L:=λi=>⟨λp hp=>Sz hp,λp hp=>List.mem_of_mem_drop hp⟩
  have:u=0\/u=1:=∅
  rcases this with rfl|rfl
  . have e:(eD L).take at'++[]++(eD L).drop (at'+1)=eD (L.take at'++L.drop (at'+1)):=by unfold eD;rw[lE,iS,Qd,Tr]
    have b:RB (m+1) a c (L.take at'++L.drop (at'+1)):=⟨by rw[eS,kA,tR];lia,λp hp=>by
      rcases qaq.mp hp with hp|hp
      . exact hb.bd p ((sub _).1 p hp)
      . exact hb.bd p ((sub _).2 p hp)⟩
    simp![e];rw[if_pos (by rfl)];simp![e];exact br7 h1 b ∅ ha _
  . have e:(eD L).take at'++[.l [.int (L.getD at' (0,0)).1,.int (L.getD at' (0,0)).2],.l [.int 0,.int 1]]++(eD L).drop (at'+1)=eD (L.take at'++L.getD at' (0,0)::(0,1)::L.drop (at'+1)):=by unfold eD;rw[iS,eY,eY,Qd,Tr,tN];rfl
    have b:RB (m+1) a c (L.take at'++L.getD at' (0,0)::(0,1)::L.drop (at'+1)):=⟨by rw[eS,eH,eH,kA,tR];lia,λp hp=>by
      rcases qaq.mp hp with hp|hp
      . exact hb.bd p ((sub _).1 p hp)
      rcases qap.mp hp with rfl|hp
      . exact hb.at _
      rcases qap.mp hp with rfl|hp
      . exact⟨gR _,Nat.one_le_two_pow⟩
      . exact hb.bd p ((sub _).2 p hp)⟩
    simp![Mw hat,e];rw[if_neg (by decide),if_pos (by rfl)];simp![e];exact br7 h1 b ∅ ha _
theorem RB.set (h:RB m a c L){q:Int×Int}(ha:a<=a')(hc:c<=c')(h1:q.1.natAbs<=2^a')(h2:q.2.natAbs<=2^c'):RB m a' c' (L.set i q):=
  ⟨by rw[kM];exact h.ln,λp hp=>by
    rcases qcA hp with hp|rfl
    . exact⟨bE (h.bd p hp).1 (eZ ha),bE (h.bd p hp).2 (eZ hc)⟩
    . exact⟨h1,h2⟩⟩
theorem zmU (i:Nat)(q:Int×Int):(eD L).set i (.l [.int q.1,.int q.2])=eD (L.set i q):=by unfold eD;rw[List.map_set]
theorem Ao (hat:at'<L.length)(q:Int×Int):(eD L).take at'++[.l [.int q.1,.int q.2]]++(eD L).drop (at'+1)=eD (L.set at' q):=by
 rw[<-zmU,qc5,if_pos (by rw[Cm];exact hat),tN]
 rfl
theorem br9 (h:cA ds)(hb:RB m a c L)(m9:m<=90)(ha:a+2<=30000000)(hc:c+2<=5000)(hat:at'<L.length):Ok (zbk [.par ds,.val d,.tre (.lst (eD L)),.val (.int (at':Nat)),.val (.int (w:Nat))]) (Ny (m+1) (a+6) (c+2)):=by
  have ln:=hb.ln;have b:=hb.at at';have w1:=cI (show(2:Int).natAbs<=2^2 by decide) b.1 ∅ ∅;have w2:=cI (show(2:Int).natAbs<=2^2 by decide) b.2 ∅ ∅;simp![↓zbk,Cm,Mw hat,w1,w2];refine⟨λ_=>?_,λ_=>br8 h (hb.mono (bC _) ∅ ∅) m9 ∅ hat⟩;have r:=Ao hat (2*(L.getD at' (0,0)).1,2*(L.getD at' (0,0)).2);dsimp only at r;refine⟨hat,?_⟩;rw[r];exact br8 h (hb.set ∅ ∅ (Le (by decide) b.1) (Le (by decide) b.2)) m9 ∅ (by rw[kM];exact hat)|>.mono λx h=>by
    obtain⟨L',d',ρ,p1,p2,rfl⟩:=h;exact⟨L',d',ρ,p1,p2.mono (bC _) ∅ (bC _),rfl⟩
theorem br10 (h:cA ds)(hb:RB m a c L)(m9:m<=90)(ha:a+2<=30000000)(hc:c+4<=5000)(hat:at'<L.length):Ok (Zd [.par ds,.val d,.tre (.lst (eD L)),.val (.int (at':Nat)),.val (.int (w:Nat))]) (Ny (m+1) (a+6) (c+4)):=by
 have ln:=hb.ln;have b:=hb.at at';have w2:=cI (show(2:Int).natAbs<=2^2 by decide) b.2 ∅ ∅;simp![↓Zd,Cm,Mw hat,w2];refine⟨λ_=>?_,λ_=>(br9 h hb m9 ha ∅ hat).mono λx h=>?_⟩
 rotate_left
 ·obtain⟨L',d',ρ,p1,p2,rfl⟩:=h;exact⟨L',d',ρ,p1,p2.mono (bC _) (bC _) ∅,rfl⟩
 refine(fT h (m:=4) ∅ ∅).mono ?_;rintro _ ⟨u,d1,hu,h1,rfl⟩;obtain⟨y,ey,by'⟩:∃y:Int,[D.int ((L.getD at' (0,0)).2+1),D.int (-(L.getD at' (0,0)).2),D.int 0,D.int (2*(L.getD at' (0,0)).2)][u]? =some (.int y)/\y.natAbs<=2^(c+2):=by
  have p0:=Vc c;have p2:2^(c+2)=2^c*4:=sF ..;have b2:=b.2;have:u=0\/u=1\/u=2\/u=3:=∅
  rcases this with rfl|rfl|rfl|rfl<;>exact⟨_,rfl,∅⟩
 simp![ey,Cm,Mw hat];have r:=zmU (L:=L) at' ((L.getD at' (0,0)).1,y);dsimp only at r;refine⟨hat,?_⟩;rw[r];have hb2:RB m a (c+2) (L.set at' ((L.getD at' (0,0)).1,y)):=hb.set (q:=((L.getD at' (0,0)).1,y)) (bC _) ∅ b.1 by'
 refine(br9 h1 hb2 m9 ha ∅ (by rw[kM];exact hat)).mono λx h=>?_
 obtain⟨L',d',ρ,p1,p2,rfl⟩:=h;exact⟨L',d',ρ,p1,p2.mono (bC _) (bC _) ∅,rfl⟩
theorem zf8 (h:cA ds)(hb:RB m a c L)(l0:0<L.length)(m9:m<=90)(ha:a+10<=30000000)(ca:c<=a)(hc:c+10<=5000):Ok (Oc ds [.tup (L.map cE)]) λx=>∃(L:AA (Int×Int)) (ds:AA D),cA ds/\RB (m+1) (a+7) (c+4) L/\x=(.val (.tup (L.map cE)),ds):=by
 have ln:=hb.ln;simp![↓Oc,↓zbU,Fm,cC];refine⟨∅,zlt (λρ=>∃y,ρ=[y]) (λi=>[.int (L.getD i (0,0)).1,.int (L.getD i (0,0)).2]) ⟨_,rfl⟩ ?_ ?_⟩
 ·rintro i _ hi ⟨y,rfl⟩;simp![↓zku,↓zcd,cE];exact⟨_,rfl⟩
 rintro _ ⟨y,rfl⟩;have e:=zpx (L:=L) λp=>p
 rw[List.map_id']at e;simp![e,Cm];refine(fT h (m:=(L.length:Int)) ∅ ∅).mono ?_;rintro _ ⟨at',d1,hat,h1,rfl⟩;have hat:at'<L.length:=∅
 simp![];refine(fT h1 (m:=8) ∅ ∅).mono ?_;rintro _ ⟨w,d2,hw,h2,rfl⟩;have fin:∀{L:AA (Int×Int)} {d:D} {Q':Fl×R->Prop},at'<L.length->RB m (a+1) c L->(∀L' ds' ρ,cA ds'->RB (m+1) (a+7) (c+4) L'->Q' (.ret (.val (.tup (L'.map cE))),.par ds'::ρ))->aE Q' (Zd [.par d2,.val d,.tre (.lst (eD L)),.val (.int (at':Nat)),.val (.int (w:Nat))]):=λhat hb hq=>by
  refine(br10 h2 hb m9 ∅ ∅ hat).mono ?_;rintro _ ⟨L',d',ρ,p1,p2,rfl⟩;exact hq _ _ _ p1 p2
 have b:=hb.at at';simp![Cm,Mw hat];refine⟨λhw3=>?_,λ_=>fin hat (hb.mono (bC _) ∅ (bC _)) λL' d' ρ p1 p2=>?_⟩
 rotate_left
 ·simp![];exact⟨L',d',p1,p2,rfl⟩
 obtain⟨y,ey,by'⟩:∃y:Int,[D.int 1,D.int (-1),D.int (L.getD at' (0,0)).2][w]? =some (.int y)/\y.natAbs<=2^a:=by
  have p0:=Vc a;have p2:2^c<=2^a:=eZ ca;have b2:=b.2;have:w=0\/w=1\/w=2:=∅
  rcases this with rfl|rfl|rfl<;>exact⟨_,rfl,∅⟩
 have r:=zmU (L:=L) at' ((L.getD at' (0,0)).1+y,(L.getD at' (0,0)).2);simp![ey,Cm,Mw hat];have hb2:RB m (a+1) c (L.set at' ((L.getD at' (0,0)).1+y,(L.getD at' (0,0)).2)):=hb.set (q:=((L.getD at' (0,0)).1+y,(L.getD at' (0,0)).2)) ∅ (bC _) (by
  have:=Tz (L.getD at' (0,0)).1 y;have b1:=b.1;show((L.getD at' (0,0)).1+y).natAbs<=2^(a+1);rw[Ed];lia) b.2
 refine⟨hat,?_⟩;rw[r];refine fin (by rw[kM];exact hat) hb2 λL' d' ρ p1 p2=>?_
 simp![];exact⟨L',d',p1,p2,rfl⟩
end
theorem s_rr:bU (.str "row") (.str "row")=some (.bl true):=by rw[Xe];rfl
section
variable {n t:Nat}{c:Nat->Nat}{z:Nat->Nat->Nat}{S:Nat->Int}
theorem none_list (n7:n<=7)(t7:t<=7)(hs:∀i,i<t->(S i).natAbs<=2^236)(h:RB m a c' L)(hm:m<=9)(ha:a<=30000000)(hc:c'<=900):jU n t c z S (.tup [.str "none",.tup (L.map cE)]):=by
 have h:=h.mono hm (bC a) hc;rw[Fm];exact zmh (P:=λi=>(L.getD i (0,0)).1) (Q:=λi=>(L.getD i (0,0)).2) n7 t7 hs h.ln ha (λi _=>(h.at i).2) λi _=>(h.at i).1
theorem zpS (hp:cA ds)(t7:t<=7){s0 s1 s4 s5 s6 s7:Sl}{Q:AA D×R->Prop}(hq:∀(L:AA (Int×Int)) (ds:AA D),cA ds->L.length=t->RB 7 2 2 L->Q (L.map cE,[s0,s1,.own ds,.val (dE n t c z S),s4,s5,s6,s7])):
  aE Q (zkn [s0,s1,.own ds,.val (dE n t c z S),s4,s5,s6,s7]):=by
 have i1:bF (dE n t c z S) (.int 1)=some (.tup (eT t c z)):=rfl;simp![↓zkn,i1,eT,cC];refine⟨∅,zqn (λi acc ρ=>∃(L:AA (Int×Int)) (ds:AA D) (s:Sl),cA ds/\L.length=i/\(∀p∈L,p.1.natAbs<=2^2/\p.2.natAbs<=2^2)/\acc=L.map cE/\ρ=[.par ds,s]) ⟨[],ds,.emp,hp,rfl,λp hp=>(by cases hp),rfl,rfl⟩ ?_ ?_⟩
 ·rintro i acc _ hi ⟨L,ds,s,h,hl,hb,rfl,rfl⟩;simp![↓znq];refine(fT h (m:=5) ∅ ∅).mono ?_;rintro _ ⟨u,d1,hu,h1,rfl⟩;simp![];refine(fT h1 (m:=2) ∅ ∅).mono ?_;rintro _ ⟨v,d2,hv,h2,rfl⟩;have hv:v<2:=∅
  have hu:u<5:=∅
  simp![];refine(zpm (x:=(u:Int)-2) (y:=2+(v:Int)) ∅ (bE (show(2+(v:Int)).natAbs<=3 by lia) (by decide+kernel))).mono ?_;rintro _ rfl;have g0:((Int.gcd ((u:Int)-2) (2+(v:Int)):Nat):Int)≠0:=by
   have:=qdI ((u:Int)-2) (show 2+(v:Int)≠0 by lia);lia
  have f1:=Dw ((u:Int)-2) g0;have f2:=Dw (2+(v:Int)) g0;simp![];refine⟨L++[_],d2,_,h2,by rw[eS,hl];rfl,λp hp=>?_,by rw[iS];rfl,rfl⟩;rcases qaq.mp hp with hp|hp
  ·exact hb p hp
  ·rw[qcB.mp hp];exact⟨by dsimp only;lia,by dsimp only;lia⟩
 ·rintro acc ρ ⟨L,ds,s,h,hl,hb,rfl,rfl⟩;exact hq L ds h hl ⟨∅,hb⟩
structure Paps (n t:Nat)(c:Nat->Nat)(z:Nat->Nat->Nat)(S:Nat->Int)(m:Nat)(ps:List D):Prop where
 ln:ps.length<=m
 ok:∀d∈ps,jU n t c z S d
theorem Paps.app (h:Paps n t c z S m ps)(g:jU n t c z S d):Paps n t c z S (m+1) (ps++[d]):=
  ⟨by rw[eS];have:=h.ln;simp;lia,λx hx=>by
    rcases qaq.mp hx with hx|hx
    . exact h.ok x hx
    . rw[qcB.mp hx];exact g⟩
theorem yQ (n1:1<=n)(n7:n<=7)(t1:1<=t)(t7:t<=7)(hr:∀i,i<t->Rise n (c i) (z i))(hs:∀i,i<t->(S i).natAbs<=2^236)(hd:Out n t (cD c z) S d)(hL:RB 7 2 2 L)(l0:L.length=t)(hp:cA ds)(hm:m<=100)(hps:Paps n t c z S m ps)(s0 s1 s7:Sl){Q:Fl×R->Prop}(hq:∀ds ps,cA ds->Paps n t c z S (m+2) ps->Q (.next,[s0,s1,.own ds,.val (dE n t c z S),.val d,.own ps,.val (.tup (L.map cE)),s7])):
    aE Q (ziq [s0,s1,.own ds,.val (dE n t c z S),.val d,.own ps,.val (.tup (L.map cE)),s7]):=by
  have rest:∀{ds ps:AA D},cA ds->Paps n t c z S (m+1) ps->aE Q (zlb [s0,s1,.own ds,.val (dE n t c z S),.val d,.own ps,.val (.tup (L.map cE)),s7]):=λhp hps=>by
    have ln:=hps.ln;simp![↓zlb];refine(zf8 hp hL ∅ ∅ ∅ (bC _) ∅).mono ?_;rintro _ ⟨L',d',h',b',rfl⟩;simp![];exact⟨∅,hq _ _ h' (hps.app (none_list n7 t7 hs b' ∅ ∅ ∅))⟩
  have ln:=hps.ln;rcases hd with⟨R,rfl,hR⟩|⟨f,Y,e,he,ny,hy,hf,h1,h2,rfl⟩
  . rw[Kx n R]at hq rest ⊢
    simp![↓ziq,s_rr];refine(zmu hp (by simp;lia)).mono ?_;rintro _ ⟨o,d',h',rfl⟩;simp![];exact⟨∅,rest h' (hps.app (zkK n7 t7 hr o))⟩
  . have e1:(wL t λi=>D.tup [.int (rp (f i) Y),.int (rq (f i) Y)])=((List.range t).map λi=>(rp (f i) Y,rq (f i) Y)).map cE:=by unfold wL;rw[gC];rfl
    rw[e1]at hq rest ⊢;have b:RB 7 (max e 811) 811 ((List.range t).map λi=>(rp (f i) Y,rq (f i) Y)):=⟨by simp;lia,λp hp=>by
      obtain⟨i,hi,rfl⟩:=qci.mp hp;have R:=rat (x:=f i) ny;exact⟨bE R.2.2.2.2.2.1 (bE (hf i (qah.mp hi)) (eZ ∅)),bE R.2.2.2.2.2.2 hy⟩⟩
    simp![↓ziq,Jg];refine⟨λz=>AH z (by decide),λ_=>?_⟩;refine(zf8 hp b (by simp;lia) ∅ ∅ ∅ ∅).mono ?_;rintro _ ⟨L',d',h',b',rfl⟩;simp![];exact⟨∅,rest h' (hps.app (none_list n7 t7 hs b' ∅ ∅ ∅))⟩
theorem oY (n1:1<=n)(n7:n<=7)(t7:t<=7)(hr:∀i,i<t->Rise n (c i) (z i))(hs:∀i,i<t->(S i).natAbs<=2^236)(hd:Out n t (cD c z) S d):jU n t c z S d:=by
 rcases hd with⟨R,rfl,hR⟩|⟨f,Y,e,he,ny,hy,hf,h1,h2,rfl⟩
 ·rw[Kx n R];exact zkK n7 t7 hr _
 ·exact zmh (P:=λi=>rp (f i) Y) (Q:=λi=>rq (f i) Y) n7 t7 hs ∅ (show e<=30000000 by lia) (λi hi=>bE (rat (x:=f i) ny).2.2.2.2.2.2 (bE hy (eZ ∅))) λi hi=>bE (rat (x:=f i) ny).2.2.2.2.2.1 (hf i hi)
theorem Gm (l:AA D):l=wL l.length λi=>l.getD i .non:=by
 unfold wL;apply pP;intro i;rw[cJ]
 by_cases h:i<l.length
 ·rw[bI h,Oa h];simp[h]
 ·rw[fD (l:=List.range _) (by simp;lia),fD ∅];rfl
theorem math (ns:AA Int)(hl:ns.length<=63):Bq [.scr ns]=some (.val (.bl true)):=by
 have:Ok (Bq [.scr ns]) λr=>r= .val (.bl true):=by
  have hm:∃m:Nat,m<=8/\oM 1 (iW (ns.length:Int) 8)=(m:Int):=by
   unfold oM iW;exact⟨(if(if(8:Int)<(ns.length:Int)then 8 else(ns.length:Int))>1 then(if(8:Int)<(ns.length:Int)then 8 else(ns.length:Int))else 1).toNat,by split<;>split<;>lia,by split<;>split<;>lia⟩
  obtain⟨m,hm8,em⟩:=hm;simp![↓Bq,↓sO,em,↓znu];refine⟨jY ∅ ∅,mF (λi ρ=>∃s1 s2 s3 s4 s5 s6 s7,ρ=[.val (.scr ns),s1,s2,s3,s4,s5,s6,s7]) ⟨_,_,_,_,_,_,_,rfl⟩ ?_ ?_⟩
  ·rintro i _ hi ⟨s1,s2,s3,s4,s5,s6,s7,rfl⟩;simp![↓znA];refine(Ja ns i ∅).mono ?_;rintro _ ⟨ds,p0,rfl⟩;simp![];refine(zjI p0).mono ?_;rintro _ ⟨n,t,c,z,S,d1,p1,n1,n7,t1,t7,hr,hs,rfl⟩;have hs':∀i,i<t->(S i).natAbs<=2^236:=λi hi=>bE (nI (hs i hi)) (eZ ∅)
   have i0:bF (dE n t c z S) (.int 0)=some (.int (n:Nat)):=rfl;simp![];refine(zpR n1 n7 t1 t7 hr hs).mono ?_;rintro _ ⟨d,hd,rfl⟩;simp![i0];refine(zhI p1 n ∅).mono ?_;rintro _ ⟨r,d2,p2,hb,rfl⟩;simp![];refine zpS p2 t7 λL d3 p3 hLl hL=>?_
   simp![];have pp:Paps n t c z S 3 [d,D.tup [D.str "row",D.tup (wI n r)],D.tup [D.str "none",D.tup (L.map cE)]]:=by
    refine Paps.app (m:=2) (ps:=[d,D.tup [D.str "row",D.tup (wI n r)]]) ⟨by simp,λx hx=>?_⟩ (none_list n7 t7 hs' hL ∅ ∅ ∅);rcases qap.mp hx with rfl|hx
    ·exact oY n1 n7 t7 hr hs' hd
    ·rw[qcB.mp hx,Kx n r];exact zkK n7 t7 hr _
   simp![↓zof];refine⟨by decide,mF (λj ρ=>∃ds ps s7,cA ds/\Paps n t c z S (3+2*j) ps/\ρ=[.val (.scr ns),.val (.int (i:Nat)),.own ds,.val (dE n t c z S),.val d,.own ps,.val (.tup (L.map cE)),s7]) ⟨_,_,_,p3,pp,rfl⟩ ?_ ?_⟩
   ·rintro j _ hj ⟨ds,ps,s7,hp,hps,rfl⟩;simp![];refine yQ n1 n7 t1 t7 hr hs' hd hL hLl hp (m:=3+2*j) ∅ hps _ _ _ λds' ps' hp' hps'=>?_
    simp![];exact⟨_,_,_,hp',hps',rfl⟩
   ·rintro _ ⟨ds,ps,s7,hp,hps,rfl⟩;have ln:=hps.ln;simp![↓znS];rw[Gm ps];refine⟨by rw[cC];lia,hX (λρ=>∃y,ρ=[.val (dE n t c z S),y]) (λ_=> .bl true) ⟨_,rfl⟩ ?_ ?_⟩
    ·rintro k _ hk ⟨y,rfl⟩;have g:Iy [dE n t c z S,ps.getD k .non]=some (.val (.bl true)):=hps.ok _ (by rw[uY,bI hk];exact Vm hk);simp![↓zno,g];exact⟨_,rfl⟩
    rintro _ ⟨y,rfl⟩;simp![Qt,Yk];exact⟨_,_,_,_,_,_,_,rfl⟩
  ·rintro _ ⟨s1,s2,s3,s4,s5,s6,s7,rfl⟩;simp![]
 obtain⟨_,e,rfl⟩:=this;exact e
end
end Prf
namespace PySem.W.Fast
def tw13931851315555088095:=0
def tw5627708733710823434:=0
def tw8106999575488738238:=0
def tw15187215891291753619:=0
def tw17596098816241472352:=0
def tw2986927388419480188:=0
def tw3274999960400285486:=0
def tw843890519774542204:=0
def tw3620436842399900398:=0
def tw5866869462257197329:=0
def tw7572301169168540705:=0
def tw9622087394719115234:=0
def tw1240209223500745514:=0
def tw4246901409569636626:=0
def tw13521771512115693525:=0
def tw280652152520358481:=0
def tw6468607960734450802:=0
def tw15720464610175297674:=0
def tw1576339775069125776:=0
def tw15863048121773178391:=0
def tw10987442789536725915:=0
def tw1156693622454227582:=0
def tw8709677021172791752:=0
def tw3153956337066385173:=0
def tw12551691374495596289:=0
def tw14772575849405105259:=0
def tw6549246093454936652:=0
def tw7291312997542694879:=0
def tw6814803928180085068:=0
def tw8980782108163133531:=0
def tw12088845764201956113:=0
def tw3400347222678573017:=0
def tw152038064117387712:=0
def tw7711784500059787997:=0
def tw8549866783765659193:=0
def tw13300698970808269002:=0
def tw17054542514380303916:=0
def tw16171329233756972126:=0
def tw52110736713879372:=0
def tw14708721303293672325:=0
def tw16300697808993410161:=0
def tw4409932463800943021:=0
def tw12047462524029764575:=0
def tw2192823280023732748:=0
def tw15722612574557223178:=0
def tw17067070367436499860:=0
def tw4634977256526156257:=0
def tw6967483812677279070:=0
def tw7593457900394787329:=0
def tw538232614269683647:=0
def tw16946368781066305230:=0
def tw3040924183874268514:=0
def tw12866833221537832554:=0
def tw4719398245015869710:=0
def tw6350199360371394373:=0
def tw14185303195945913983:=0
def tw2970505419158957323:=0
def tw6657095554970574522:=0
def tw1759006890496718457:=0
def tw16413126027891553249:=0
def tw12497522704555518860:=0
def tw1601441737153877591:=0
def tw8441332258515104832:=0
def tw10705708606874092185:=0
def tw7690027408292518687:=0
def tw12601138897731981859:=0
def tw2165955627869591052:=0
def tw17561718677873766241:=0
def tw4450935978786761988:=0
def tw8945923586839054227:=0
def tw12009512927366574946:=0
def tw9953078185917200570:=0
def tw8571832883451339107:=0
def tw6309296093648015109:=0
def tw9378943495522951280:=0
def tw14185967243444960690:=0
def tw13969212756784218666:=0
def tw949768027613785252:=0
def tw15517802667281790916:=0
def tw12296686773527786302:=0
def tw8281041357808205099:=0
def tw583955438238506248:=0
def tw11151420336954432782:=0
def tw1292100176025660645:=0
def tw4190249528630978528:=0
def tw4913923592957664467:=0
def tw11238549855863333397:=0
def tw6657626785788554775:=0
def tw13739996581766227272:=0
def tw11632749888009891735:=0
def tw13661385911280735007:=0
def tw3067301564267652204:=0
def tw12979408551571669377:=0
def tw8413406302988088234:=0
def tw17316735344577141745:=0
def tw7098328819634071937:=0
def tw12995453826842091619:=0
def tw10895289384000071569:=0
def tw2791020383516339055:=0
def tw17963442012375071962:=0
def tw15162181511498726570:=0
def tw14239279653189574803:=0
def tw13614221523775322334:=0
def tw1610187684564466984:=0
def tw10304466040777384027:=0
def tw7745552999553846211:=0
def tw16590658730856803778:=0
def tw393709934403576466:=0
def tw8967651127573411785:=0
def tw7722337494360710329:=0
def tw16855703563773228906:=0
def tw15696101782215702370:=0
def tw9708124272385726931:=0
def tw6114559327594358491:=0
def tw17505661745356254069:=0
def tw15506657176276833109:=0
def tw12292710979976145809:=0
def tw2408471092559476066:=0
def tw15090127108484889325:=0
def tw5196930277308081267:=0
def tw12072987956428254618:=0
def tw4087811186076495952:=0
def tw9519845111891384342:=0
def tw15910207163944663298:=0
def tw15278357344258682024:=0
def tw13096374550010212831:=0
def tw7369547142153889308:=0
def tw2450089367870004558:=0
def tw10972935856750450949:=0
def tw3114617883111698146:=0
def tw17321013918274710709:=0
def tw10450665618123844620:=0
def tw13437247620916273523:=0
def tw14442411030799634944:=0
def tw10258286220626791775:=0
def tw5869337958186324439:=0
def tw10879002155768945869:=0
def tw8363014817472002030:=0
def tw5395598870991957591:=0
def tw3916455013263702163:=0
def tw12710907426966609540:=0
def tw5315546307103040838:=0
def tw8775167201697617336:=0
def tw7348957863482560731:=0
def tw9311286455962078983:=0
def tw17860119384352805567:=0
def tw17577772750156590703:=0
def tw10916191319743495253:=0
def tw9524976120440641126:=0
def tw11379260791002414552:=0
def tw1761080596456156480:=0
def tw7754924565574067549:=0
def tw4764300758377684979:=0
def tw16294935895757443738:=0
def tw2746600655104407013:=0
def tw8076832908375032646:=0
def tw4856046068342651705:=0
def tw10835318879313855574:=0
def tw1721972437858964628:=0
def tw6234391634800742751:=0
def tw29690607134383721:=0
def tw236945333925433089:=0
def tw14878494873094819462:=0
def tw18217589112158630772:=0
def tw11209190469783211707:=0
def tw15262904915888336986:=0
def tw2539754622976200227:=0
def tw15068251864285403211:=0
def tw17777840350244745906:=0
def tw9371432734933065689:=0
def tw10767342681159411309:=0
def tw12281711577917204541:=0
def tw14963517984448749540:=0
def tw11203841505596255237:=0
def tw10934426106068806206:=0
end PySem.W.Fast
open PyProof.Rows PySem PySem.W
set_option maxRecDepth 100000 in
set_option maxHeartbeats 0 in
theorem PySem.Challenge.cw_tellsum_k51_solutions_judged_holds : PySem.Challenge.rw_tellsum_k51_solutions_judged.Holds := by
  w_on; o_law; k_head; (case hw => w_witness2)
  k_fill
  refine Prf.walk (l := PySem.Challenge.rw_tellsum_k51_solutions_judged) rfl rfl Prf.math (λw h Y => W.kIn_of Y) ?F
  case F =>
    intro w mg fa h KX G hmg
    refine' Prf.Ki KX G hmg ?h1 ?h2 ?h3 ?h4 ?h5 ?h6 ?h7 ?h8 ?h9 ?h18 ?h19 ?h20 ?h21 ?h22 ?h23 ?h24 ?h25 ?h26 ?h27 ?h28 ?h29 ?h30 ?h31 ?h32 ?h33 ?h34 ?h35 ?h36 ?h37 ?h38 ?h39 ?h40 ?h41 ?h42 ?h43 ?h44 ?h45 ?h46 ?aC ?pg ?hd ?po ?sa ?mkC ?kc ?znk ?zi4 ?zpT ?zmN ?zkF ?aopen_columns ?iopen_columns ?lopen_columns ?copen_columns ?kopen_columns ?aopen_rows ?iopen_rows ?lopen_rows ?copen_rows ?kopen_rows ?aleast_corner ?ileast_corner ?lleast_corner ?cleast_corner ?kleast_corner ?atake_row ?itake_row ?ltake_row ?ctake_row ?ktake_row ?atake_column ?itake_column ?ltake_column ?ctake_column ?ktake_column ?aclear_cross ?iclear_cross ?lclear_cross ?cclear_cross ?kclear_cross ?ainit ?iinit ?linit ?cinit ?kinit ?aslant_number ?islant_number ?lslant_number ?cslant_number ?kslant_number ?z0 ?z1 ?z2 ?z3 ?z4 ?z5 ?z6 ?z7 ?z8 ?z9 ?z10 ?z11 ?z12 ?z13 ?z14
    (case h1 | h2 | h3 | h4 | h5 | h6 | h7 | h8 | h9 | h18 | h19 | h20 | h21 | h22 | h23 | h24 | h25 | h26 | h27 | h28 | h29 | h30 | h31 | h32 | h33 | h34 | h35 | h36 | h37 | h38 | h39 | h40 | h41 | h42 | h43 | h44 | h45 | h46 =>
      refine' M.FnAt.mk ?a ?l ?c ?k
      (case a => k_is)
      (case l => k_is)
      (case c => k_is)
      (case k => k_is))
    (case aC | pg | hd | po | sa | mkC | kc | znk | zi4 | zpT | zmN | zkF | aopen_columns | iopen_columns | lopen_columns | copen_columns | kopen_columns | aopen_rows | iopen_rows | lopen_rows | copen_rows | kopen_rows | aleast_corner | ileast_corner | lleast_corner | cleast_corner | kleast_corner | atake_row | itake_row | ltake_row | ctake_row | ktake_row | atake_column | itake_column | ltake_column | ctake_column | ktake_column | aclear_cross | iclear_cross | lclear_cross | cclear_cross | kclear_cross | ainit | iinit | linit | cinit | kinit | aslant_number | islant_number | lslant_number | cslant_number | kslant_number | z0 | z1 | z2 | z3 | z4 | z5 | z6 | z7 | z8 | z9 | z10 | z11 | z12 | z13 | z14 => k_is)
end
