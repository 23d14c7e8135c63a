import PyProof.Rows.All
import Wide.All
import OpenK.AllK
import Wide.FinOn
import Lean
import PyProof.EqAt
import PyProof.EqKinds
import PyProof.TupleCall
import PyProof.Rows.Range3
import PyProof.ZipIter
import PyProof.Draws
import PyProof.EnumMake
import PyProof.Rows.FactsTup
import PyProof.LayNew
import PyProof.Rows.SeqMore2
import PyProof.Rows.RuleIs
import KE.KRevIter
import PyProof.P3In
import KE.KSortTup
import PyProof.Rows.SortWalk
import PyProof.Rows.SetFrom
import KE.KIntText
import PyProof.StrOps2
import PySem.Challenge.RW_tellsum_k52_tellings_without_a_row
set_option Elab.async false
set_option linter.all false
set_option bootstrap.genMatcherCode false
set_option compiler.extract_closed false
set_option maxRecDepth 100000
local macro_rules | `(tactic| trivial) => `(tactic| first|exact Or.inl rfl|exact Or.inr rfl|exact Or.inr (Or.inl rfl)|exact Or.inr (Or.inr rfl))
def xE02 {P Q:Prop}{C:Prop}(h:P∧Q)(k:P→Q→C):C:=by obtain⟨p,q⟩:=h;exact k p q
def xE03 {P Q R:Prop}{C:Prop}(h:P∧Q∧R)(k:P→Q→R→C):C:=by obtain⟨p,q,r⟩:=h;exact k p q r
def xE04 {P Q R S:Prop}{C:Prop}(h:P∧Q∧R∧S)(k:P→Q→R→S→C):C:=by obtain⟨p,q,r,s⟩:=h;exact k p q r s
def xE05 {P Q R S T:Prop}{C:Prop}(h:P∧Q∧R∧S∧T)(k:P→Q→R→S→T→C):C:=by obtain⟨p,q,r,s,t⟩:=h;exact k p q r s t
def xE06 {P Q R S T U:Prop}{C:Prop}(h:P∧Q∧R∧S∧T∧U)(k:P→Q→R→S→T→U→C):C:=by obtain⟨p,q,r,s,t,u⟩:=h;exact k p q r s t u
def xE11 {P:α→Prop}{C:Prop}(h:∃a,P a)(k:∀a,P a→C):C:=by obtain⟨a,p⟩:=h;exact k a p
def xE12 {P Q:α→Prop}{C:Prop}(h:∃a,P a∧Q a)(k:∀a,P a→Q a→C):C:=by obtain⟨a,p,q⟩:=h;exact k a p q
def xE13 {P Q R:α→Prop}{C:Prop}(h:∃a,P a∧Q a∧R a)(k:∀a,P a→Q a→R a→C):C:=by obtain⟨a,p,q,r⟩:=h;exact k a p q r
def xE14 {P Q R S:α→Prop}{C:Prop}(h:∃a,P a∧Q a∧R a∧S a)(k:∀a,P a→Q a→R a→S a→C):C:=by obtain⟨a,p,q,r,s⟩:=h;exact k a p q r s
def xE15 {P Q R S T:α→Prop}{C:Prop}(h:∃a,P a∧Q a∧R a∧S a∧T a)(k:∀a,P a→Q a→R a→S a→T a→C):C:=by obtain⟨a,p,q,r,s,t⟩:=h;exact k a p q r s t
def xE21 {P:α→β→Prop}{C:Prop}(h:∃a b,P a b)(k:∀a b,P a b→C):C:=by obtain⟨a,b,p⟩:=h;exact k a b p
def xE22 {P Q:α→β→Prop}{C:Prop}(h:∃a b,P a b∧Q a b)(k:∀a b,P a b→Q a b→C):C:=by obtain⟨a,b,p,q⟩:=h;exact k a b p q
def xE23 {P Q R:α→β→Prop}{C:Prop}(h:∃a b,P a b∧Q a b∧R a b)(k:∀a b,P a b→Q a b→R a b→C):C:=by obtain⟨a,b,p,q,r⟩:=h;exact k a b p q r
def xE24 {P Q R S:α→β→Prop}{C:Prop}(h:∃a b,P a b∧Q a b∧R a b∧S a b)(k:∀a b,P a b→Q a b→R a b→S a b→C):C:=by obtain⟨a,b,p,q,r,s⟩:=h;exact k a b p q r s
def xE31 {P:α→β→γ→Prop}{C:Prop}(h:∃a b c,P a b c)(k:∀a b c,P a b c→C):C:=by obtain⟨a,b,c,p⟩:=h;exact k a b c p
def xE32 {P Q:α→β→γ→Prop}{C:Prop}(h:∃a b c,P a b c∧Q a b c)(k:∀a b c,P a b c→Q a b c→C):C:=by obtain⟨a,b,c,p,q⟩:=h;exact k a b c p q
def xE33 {P Q R:α→β→γ→Prop}{C:Prop}(h:∃a b c,P a b c∧Q a b c∧R a b c)(k:∀a b c,P a b c→Q a b c→R a b c→C):C:=by obtain⟨a,b,c,p,q,r⟩:=h;exact k a b c p q r
open Lean in
local macro_rules
| `(tactic| obtain ⟨$ps,*⟩ := $h) => do
 let ps:=ps.getElems
 let k:=ps.size
 if k<2||k>6 then Macro.throwUnsupported
 let mut bs:Array Term:= #[]
 let mut post:Array (TSyntax `tactic):= #[]
 let mut i:=0
 for p in ps do
  let q:=p.raw[0][0][0]
  if p.raw[1].getNumArgs != 0||p.raw[0][0].getNumArgs != 1 then Macro.throwUnsupported
  let x:=mkIdent (← Macro.addMacroScope (.mkSimple s!"y{i}"))
  i:=i+1
  if q.isOfKind ``Parser.Tactic.rcasesPat.one then
   let d:Ident:=⟨q[0]⟩
   if d.getId== `rfl then
    bs:=bs.push x
    let pp:TSyntax ``Parser.Tactic.rcasesPatMed:=⟨p.raw[0]⟩
    post:=post.push (← `(tactic| obtain $pp := $x))
   else
    bs:=bs.push d
    if h.raw.isIdent&&h.raw.getId==d.getId then Macro.throwUnsupported
  else if q.isOfKind ``Parser.Tactic.rcasesPat.ignore then bs:=bs.push (← `(_))
  else if q.isOfKind ``Parser.Tactic.rcasesPat.tuple then
   bs:=bs.push x
   let pp:TSyntax ``Parser.Tactic.rcasesPatMed:=⟨p.raw[0]⟩
   post:=post.push (← `(tactic| obtain $pp := $x))
  else Macro.throwUnsupported
 let mut alts:Array (TSyntax ``Parser.Tactic.tacticSeq):= #[]
 for n in [0:min 4 k] do
  let f:=mkIdent (.mkSimple s!"xE{n}{k-n}")
  alts:=alts.push (← `(tacticSeq| refine $f $h λ$bs* => ?_))
 let cl← if h.raw.isIdent then `(tactic| try clear $(⟨h.raw⟩)) else `(tactic| skip)
 `(tactic| ((first $[| $alts]*);$cl;$[$post];*))
local macro_rules | `(∅) => `((by lia))
local macro_rules | `(~~~$t) => `((by simpa using $t))
local macro_rules | `($s⁻¹) => `(($s).heap.objs.size)
set_option hygiene false in
local macro_rules | `(tactic| exists $t) => `(tactic| obtain ⟨rfl,rfl⟩ := $t)
noncomputable section
section
open PySem PySem.Spec PySem.W
abbrev AA:=@List
abbrev AB:=@Option
abbrev AC:=@Value
abbrev AD:=@Addr
abbrev AE:=@Shared
abbrev AF:=@W.Frag
abbrev AG:=@wpAny
abbrev AH:=@absurd
abbrev AI:=@Expr
abbrev AJ:=@Program
abbrev AK:=@Heap
abbrev AL:=@mainGlobals
end
abbrev gQ:=@decide_eq_false
abbrev qab:=@beq_eq_false_iff_ne
abbrev qac:=@List.getElem?_eq_none_iff
abbrev cK:=@PySem.Heap.lt_size
abbrev iJ:=@Nat.lt_of_lt_of_le
abbrev mY:=@Nat.lt_irrefl
abbrev eT:=@Nat.ne_of_lt
abbrev qah:=@List.mem_filter
abbrev qai:=@List.mem_range
abbrev qaj:=@List.mem_filterMap
abbrev fL:=@decide_eq_true
abbrev bO:=@Nat.le_trans
abbrev kY:=@Nat.le_of_lt
abbrev Wi:=@List.filterMap_cons
abbrev iW:=@List.mem_cons_self
abbrev gE:=@List.mem_cons_of_mem
abbrev qaq:=@List.mem_cons
abbrev qar:=@List.mem_append
abbrev qas:=@List.mem_append_left
abbrev qat:=@List.getElem?_eq_some_iff
abbrev qau:=@List.getElem_inj
abbrev iD:=@List.getElem?_set_ne
abbrev jT:=@PySem.wpAny_mono
abbrev Nf:=@PySem.wpAny_truthy_bool
abbrev Pa:=@Array.length_toList
abbrev qaz:=@PySem.wpAny_execs_nil
abbrev aJ:=@PySem.wpAny_bind
abbrev gV:=@PySem.wpAny_holding
abbrev Zb:=@PySem.wpAny_standAt
abbrev Ew:=@PySem.wpAny_passesOwn
abbrev fY:=@Bool.false_ne_true
abbrev qaF:=@PySem.wpAny_pure
abbrev bP:=@PySem.Heap.get?_push_of_some
abbrev dO:=@PySem.Heap.get?_push_size
abbrev aY:=@Nat.le_refl
abbrev qaJ:=@PyProof.Rows.callWith_type1
abbrev hV:=@List.mem_append_right
abbrev qaL:=@Int.fdiv_eq_ediv_of_nonneg
abbrev fX:=@PySem.sizeLine_eq
abbrev bS:=@List.size_toArray
abbrev qaO:=@List.any_eq_false
abbrev qaP:=@Array.mem_toList_iff
abbrev qaQ:=@beq_iff_eq
abbrev eS:=@List.length_cons
abbrev eV:=@List.map_cons
abbrev cO:=@List.length_map
abbrev lX:=@PySem.Heap.size_push
abbrev Ot:=@Nat.lt_succ_self
abbrev gK:=@Nat.zero_le
abbrev qO:=@List.append_nil
abbrev qaY:=@PySem.wpAny_Call_Name_kw
abbrev qaZ:=@List.nodup_cons
abbrev qa0:=@Option.isSome_iff_exists
abbrev yA:=@List.length_take
abbrev Vt:=@PySem.mem_of_lookup
abbrev pI:=@List.getElem?_append_right
abbrev Ei:=@List.getElem?_replicate
abbrev fT:=@List.getElem?_append_left
abbrev cR:=@List.getElem?_map
abbrev dY:=@List.mem_of_getElem?
abbrev iZ:=@List.length_append
abbrev Xt:=@List.length_replicate
abbrev qba:=@List.zip_nil_right
abbrev qbb:=@List.zip_cons_cons
abbrev qbc:=@List.length_nil
abbrev qbd:=@PySem.F.slot_tuple_add
abbrev qbe:=@PySem.F.entry_tuple_add
abbrev qbf:=@PySem.F.args_tuple_add_2
abbrev Za:=@Int.toNat_natCast
abbrev dG:=@if_false
abbrev kU:=@PySem.wpAny_field
abbrev qbj:=@List.length_drop
abbrev Fd:=@PySem.wpAny_callSpecial?_slot
abbrev qbl:=@PyProof.Rows.slot_tuple_getitem
abbrev tY:=@PySem.wpAny_call_entry
abbrev cD:=@Bool.and_eq_true
abbrev tE:=@PySem.wpAny_newObj_type
abbrev Vy:=@PySem.Heap.get?_update_self
abbrev vA:=@PySem.Heap.get?_update_other
abbrev uB:=@List.length_set
abbrev lL:=@List.all_cons
abbrev uA:=@List.any_cons
abbrev yG:=@List.replicate_succ
abbrev Cy:=@List.flatten_cons
abbrev qbw:=@List.append_assoc
abbrev qbx:=@List.foldl_cons
abbrev Ph:=@PySem.call_meets
abbrev Km:=@List.find?_cons
abbrev eP:=@Exists.imp
abbrev jR:=@List.getElem?_set
abbrev qbC:=@Option.ne_none_iff_exists'
abbrev iT:=@Option.bind_some
abbrev Ex:=@Option.map_some
abbrev kJ:=@decide_eq_true_eq
abbrev Pg:=@Bool.or_eq_true
abbrev Oi:=@of_decide_eq_true
abbrev Wc:=@List.eq_nil_of_length_eq_zero
abbrev bA:=@List.getElem?_eq_getElem
abbrev Ea:=@Nat.lt_of_le_of_lt
abbrev qbL:=@bne_iff_ne
abbrev Pw:=@Bool.and_true
abbrev Zc:=@PySem.F.plainAttrs_list
abbrev qbO:=@List.drop_eq_getElem_cons
abbrev qbP:=@PySem.wpAny_pyIter_tuple
abbrev Ag:=@List.getElem?_cons_succ
abbrev Yy:=@List.cons_append
abbrev Vm:=@List.forIn_cons
abbrev lB:=@List.lookup_cons
abbrev Nv:=@Option.getD_some
abbrev qbV:=@beq_self_eq_true
abbrev Sf:=@Nat.lt_succ_of_lt
abbrev Xl:=@List.forIn_nil
abbrev tN:=@Bool.false_eq_true
abbrev qbZ:=@List.all_eq_true
abbrev qb0:=@List.mem_map
abbrev qb1:=@List.getElem?_zip_eq_some
abbrev qb2:=@List.take_succ_eq_append_getElem
abbrev oO:=@List.take_of_length_le
abbrev gM:=@List.getElem?_eq_none
abbrev Aj:=@List.length_range
abbrev Hw:=@List.range_succ
abbrev kQ:=@List.map_append
abbrev gC:=@List.map_map
abbrev qb9:=@Nat.add_left_cancel
abbrev tL:=@PySem.wpAny_seqItems
abbrev Wz:=@PySem.Obj.data_mapFields
abbrev Zf:=@PySem.wpAny_setField
abbrev qcd:=@PySem.Heap.SameBut.update
abbrev qce:=@PySem.AutoSeq1.wpAny_loadPart'
abbrev Bj:=@List.not_mem_nil
abbrev Zm:=@List.getElem?_zipWith
abbrev qch:=@List.mem_or_eq_of_mem_set
abbrev qci:=@PySem.Around.under_plainId
abbrev Hs:=@PySem.F.plain_min_loop
abbrev Zv:=@PySem.wpAny_tryCatch
abbrev Fv:=@PySem.wpAny_letGo
abbrev qcm:=@PySem.plainId_quiet
abbrev qcn:=@List.length_pos_iff
abbrev jV:=@List.getD_eq_getElem?_getD
abbrev Dj:=@List.contains_cons
abbrev qcq:=@List.map_congr_left
abbrev qcr:=@List.take_succ_cons
abbrev Tf:=@Nat.zero_add
abbrev Cp:=@PySem.wpAny_setField_rec
abbrev qcu:=@PySem.wpAny_onRaise
abbrev qcv:=@PySem.wpAny_updateSeq_pair
abbrev Zr:=@PySem.wpAny_attempt
abbrev Zt:=@PySem.F.slot_zip_next
abbrev qcy:=@PySem.F.slot_dict_keyiterator_next
abbrev qcz:=@PySem.wpAny_typeNameOfWhole_keyiter
abbrev qcA:=@PySem.wpAny_typeNameOf_keyiter
abbrev qcB:=@List.mem_singleton
abbrev qcC:=@Array.getD_eq_getD_getElem?
abbrev Ye:=@Nat.lt_or_eq_of_le
abbrev Zh:=@Nat.le_of_lt_succ
abbrev qcF:=@of_decide_eq_false
abbrev qcG:=@List.getElem?_cons_zero
abbrev qcH:=@Bool.not_eq_true'
abbrev qcI:=@List.contains_eq_mem
abbrev qcJ:=@decide_eq_false_iff_not
abbrev Qf:=@List.nodup_append
abbrev qcL:=@List.contains_iff_mem
abbrev qcM:=@Bool.or_eq_false_iff
abbrev qcN:=@List.any_eq_true
abbrev qcO:=@List.mem_iff_getElem
abbrev Pf:=@List.getElem_mem
abbrev Cz:=@List.set_cons_succ
abbrev Vk:=@List.set_cons_zero
abbrev qcS:=@List.mem_of_mem_take
abbrev Qg:=@List.take_add_one
abbrev Pz:=@List.take_length
abbrev Po:=@List.filterMap_eq_map
abbrev uD:=@List.ext_getElem?
abbrev qcX:=@Nat.min_eq_left
abbrev jN:=@PySem.PassesOwn.never
abbrev lH:=@PySem.W.mg_none_of
abbrev qc0:=@List.pairwise_iff_getElem
abbrev Py:=@List.filterMap_eq_filter
abbrev Xa:=@List.filterMap_filterMap
abbrev Yx:=@List.Pairwise.filter
abbrev Ab:=@List.length_filter_le
abbrev Pv:=@Nat.pow_succ
abbrev qc6:=@Nat.pow_le_pow_right
abbrev qc7:=@Bool.eq_iff_iff
abbrev qc8:=@List.getElem?_take
abbrev qc9:=@List.getElem_of_mem
abbrev qX:=@Int.mul_comm
abbrev Ud:=@Int.mul_fdiv_add_fmod
abbrev Zk:=@Int.fmod_nonneg_of_pos
abbrev Ml:=@Int.lt_or_gt_of_ne
abbrev iS:=@Int.natAbs_neg
abbrev kX:=@Int.natAbs_mul
abbrev qdg:=@Nat.le_mul_of_pos_left
abbrev qdh:=@Nat.mul_le_mul_right
abbrev Pt:=@Int.lt_or_le
abbrev qdj:=@Int.mul_le_mul_of_nonneg_left
abbrev qdk:=@Int.mul_neg_of_pos_of_neg
abbrev qdl:=@Int.mul_neg_of_neg_of_pos
abbrev qdm:=@Int.mul_nonneg_of_nonpos_of_nonpos
abbrev Xc:=@Int.mul_nonneg
abbrev Ox:=@Int.add_zero
abbrev Dt:=@Nat.lt_or_ge
abbrev Pq:=@Nat.mul_le_mul_left
abbrev Xr:=@Classical.byContradiction
abbrev Rp:=@Int.zero_mul
abbrev Uo:=@Nat.pow_add
abbrev Sa:=@Int.dvd_zero
abbrev qdv:=@Int.dvd_mul_of_dvd_left
abbrev lN:=@List.getD_cons_zero
abbrev lT:=@List.getD_cons_succ
abbrev qdy:=@Int.le_of_dvd
namespace L2
open PyProof.Rows PySem PySem.Spec
variable {xs vs:AA V}{us its:AA AC}{x m qual:Str}{u cd:AC}{H:Hp}{o:Obj}{w:World}{h base:AK}{g:Int->Int->Int}{it C dx:AD}{g':Array GenState}{t' i j k n:Nat}{d':Drawn}{ch fp:AA AD}{e c tg:AI}{pins' AM:AA (AD×Obj)}{N ns ps:AA Str}{A:Around}{E Q:AC->AE->Prop}{v y:V}{X:Cx}{t te:TE}{s s':AE}{pos pos':Pos}{σ:St}{op:CmpOp}{f:AC->AC->Sem AC}{tc:TT}{es:AA AI}{body:AA Stmt}{p:AD×Obj}{pl:Sem Bool}{r:V->Hp->VK->Prop}{mA mg:Str->AB AC}{kw:AA (Str×AC)}{prog:AJ}{outer:AA Env}{fd:FuncData}{kindOf:Str->AB NameKind}{sc scope:Scope}{CX:uS}{params:Arguments}
abbrev cP:=Sum Int Str
def Nn:cP->AC->Bool
 | .inl k,v=>Value.isInt k v
 | .inr x,v=>Value.isStrOf x v
def keyH (w:World):cP->Int
 | .inl k=>hashInt k
 | .inr x=>hashStr w x
def tM:∀{k:cP} {v:AC},Nn k v=true->(∃i t,k=Sum.inl i/\v=Value.int i t)\/(∃x t,k=Sum.inr x/\v=Value.str x t)
 | .inl i,v,h=>by
  obtain⟨t,e⟩:=Value.isInt_shape (k:=i) (v:=v) h;exact .inl ⟨i,t,rfl,e⟩
 | .inr x,v,h=>by
  obtain⟨t,e⟩:=Value.isStrOf_shape (x:=x) (v:=v) h;exact .inr ⟨x,t,rfl,e⟩
def zpx (i:Int)(t:Tok):Nn (.inl i) (.int i t)=true:=by simp[Nn,Value.isInt]
def zo6 (x:Str)(t:Tok):Nn (.inr x) (.str x t)=true:=by simp[Nn,Value.isStrOf]
def Kd (a b:Int):decide ((Sum.inl a:cP)=Sum.inl b)=(a==b):=by
 by_cases e:a=b
 ·subst e;simp
 ·have h:¬(Sum.inl a:cP)=Sum.inl b:=λq=>e (Sum.inl.inj q)
  rw[gQ h];exact(qab.mpr e).symm
def Mg (a b:Str):decide ((Sum.inr a:cP)=Sum.inr b)=decide (a=b):=by
 by_cases e:a=b
 ·subst e;simp
 ·have h:¬(Sum.inr a:cP)=Sum.inr b:=λq=>e (Sum.inr.inj q)
  rw[gQ h,gQ e]
def Kb (a:Int)(b:Str):decide ((Sum.inl a:cP)=Sum.inr b)=false:=gQ (λq=>nomatch q)
def Eu (a:Str)(b:Int):decide ((Sum.inr a:cP)=Sum.inl b)=false:=gQ (λq=>nomatch q)
def kD (prog:AJ)(w:World):PySem.KeyKind prog w cP where
 is:=Nn
 hash:=keyH w
 inj:=λv a b ha hb=>by
  rcases tM ha with⟨i,t,rfl,rfl⟩|⟨x,t,rfl,rfl⟩
  ·rcases tM hb with⟨j,u,rfl,e⟩|⟨y,u,rfl,e⟩
   ·injection e with e1 _;rw[e1]
   ·exact nomatch e
  ·rcases tM hb with⟨j,u,rfl,e⟩|⟨y,u,rfl,e⟩
   ·exact nomatch e
   ·injection e with e1 _;rw[e1]
 byValue:=λk v h=>by
  rcases tM h with⟨i,t,rfl,rfl⟩|⟨x,t,rfl,rfl⟩<;>rfl
 pyHash:=λhv h=>by
  rcases tM hv with⟨i,t,rfl,rfl⟩|⟨x,t,rfl,rfl⟩
  ·exact wpAny_pyHash_int h
  ·exact wpAny_pyHash_str h
 eqBool:=λhu hv h=>by
  rcases tM hu with⟨i,t,rfl,rfl⟩|⟨x,t,rfl,rfl⟩
  ·rcases tM hv with⟨j,u,rfl,rfl⟩|⟨y,u,rfl,rfl⟩
   ·rw[Kd]at h;exact wpAny_eqBool_int h
   ·rw[Kb]at h;exact SeqAt.EqAt.int_str i t y u _ _ _ _ h
  ·rcases tM hv with⟨j,u,rfl,rfl⟩|⟨y,u,rfl,rfl⟩
   ·rw[Eu]at h;exact SeqAt.EqAt.str_int x t j u _ _ _ _ h
   ·rw[Mg]at h;exact wpAny_eqBool_str h
 «strs»:=λk x t v h=>by
  rcases tM h with⟨i,u,rfl,e⟩|⟨y,u,rfl,e⟩
  ·exact nomatch e
  ·injection e with e1 _
   subst e1;cases v<;>rfl
def zlF (prog:AJ)(w:World)(i:Int)(t:Tok):(kD prog w).is (.inl i) (.int i t)=true:=zpx i t
def zlB (prog:AJ)(w:World)(x:Str)(t:Tok):(kD prog w).is (.inr x) (.str x t)=true:=zo6 x t
inductive V where
 |non|bl (b:Bool)|int (i:Int)|str (x:Str)|byt (b:Array UInt8)|flt (b:UInt64)|ref (a:Addr)|ty (n:String)
 deriving DecidableEq
def RelV:V->AC->Prop
 | .non,u=>u=Value.none
 | .bl b,u=>u=Value.bool b
 | .int i,u=>∃t,u=Value.int i t
 | .str x,u=>∃t,u=Value.str x t
 | .byt b,u=>∃t,u=Value.bytes b t
 | .flt b,u=>∃t,u=Value.float b t
 | .ref a,u=>u=Value.ref a
 | .ty n,u=>u=Value.type n
abbrev Vals:AA V->AA AC->Prop:=Paired RelV
theorem Vals.length (r:Vals xs us):xs.length=us.length:=Paired.length r
def Vals.get:∀{xs:AA V} {us:AA AC} {i:Nat} {x:V},Vals xs us->xs[i]? =some x->∃u,us[i]? =some u/\RelV x u
 |_,_,_,_,.nil,e=>by simp at e
 |_,_,0,_,.cons r _,e=>by simp at e;subst e;exact⟨_,rfl,r⟩
 |_,_,i+1,x,.cons _ t,e=>by
  obtain⟨u,h1,h2⟩:=Vals.get (i:=i) (x:=x) t (~~~e);exact⟨u,~~~h1,h2⟩
theorem Vals.set {x:V}(r:RelV x u):∀{xs:AA V} {us:AA AC} (i:Nat),Vals xs us->Vals (xs.set i x) (us.set i u)
 |_,_,_,.nil=> .nil
 |_,_,0,.cons _ t=> .cons r t
 |_,_,i+1,.cons q t=> .cons q (Vals.set r i t)
def Vals.append:∀{xs ys:AA V} {us ws:AA AC},Vals xs us->Vals ys ws->Vals (xs++ys) (us++ws)
 |_,_,_,_,.nil,s=>s
 |_,_,_,_,.cons r t,s=> .cons r (Vals.append t s)
theorem Vals.take:∀{xs:AA V} {us:AA AC} (n:Nat),Vals xs us->Vals (xs.take n) (us.take n)
 |_,_,0,_=> .nil
 |_,_,_+1,.nil=> .nil
 |_,_,n+1,.cons r t=> .cons r (Vals.take n t)
theorem Vals.drop:∀{xs:AA V} {us:AA AC} (n:Nat),Vals xs us->Vals (xs.drop n) (us.drop n)
 |_,_,0,r=>r
 |_,_,_+1,.nil=> .nil
 |_,_,n+1,.cons _ t=>Vals.drop n t
def Vals.none_of:∀{xs:AA V} {us:AA AC} {i:Nat},Vals xs us->xs[i]? =none->us[i]? =none:=λ{xs us i} r e=>by
 have h1:=r.length;have h2:xs.length<=i:=qac.mp e;exact qac.mpr ∅
def RelO:AB V->AB AC->Prop
 |some v,some u=>RelV v u
 |none,none=>True
 |_,_=>False
def KV {κ:Type}:AA (κ×V)->AA (κ×AC)->Prop:=Paired λ(p:κ×V) (q:κ×AC)=>p.1=q.1/\RelV p.2 q.2
def kV:cP->V
 | .inl i=> .int i
 | .inr x=> .str x
inductive HO where
 /-- a list -/
 |lst (xs:List V)
 /-- a tuple (never changes) -/
 |tup (xs:List V)
 /-- a dict whose keys are ints and texts; one whose keys are tuples of ints and texts (the empty one is both) -/
 |dK (kvs:List (cP×V))|dT (kvs:List (List cP×V))
 /-- a set of ints: its members, its size -/
 |set (S:Int->Bool) (n:Nat)
 /-- an instance of the class at C, its dict at dx, its attributes -/
 |ins (C dx:Addr) (fs:List (Str×V))
 /-- the dict of the instance at x -/
 |own (x:Addr)
 /-- the dict of an exception -/
 |xd (fs:List (Str×V))
 /-- a bound method, f of x -/
 |met (f x:Addr)
 /-- a range object lo, lo + 1, .. below hi -/
 |rng (lo hi:Int)
 /-- a thing that is known to the object (the script; a dict while a loop walks it): read, never written while it is so -/
 |frz (o:Obj) (u:HO)
 /-- a code object's table -/
 |tbl (ps:Array Value)
 /-- any other thing, by what is true of its one object (a def of one's own: SetO a S n := HO.ext λh => ..) -/
 |ext (φ:Heap->Prop)
abbrev Hp:=AD->AB HO
def upd (H:Hp)(a:AD)(o:HO):Hp:=λb=>if b=a then some o else H b
def cW {o:HO}:upd H a o a=some o:=by unfold upd;rw[if_pos rfl]
def aW {o:HO}(h:b≠a):upd H a o b=H b:=by unfold upd;rw[if_neg h]
def kP {o:HO}(h:H a=some o)(h':H b=none):a≠b:=by
 intro e;subst e;rw[h]at h';cases h'
section
variable (P:AJ)(w:World)
def ObjOk (H:Hp)(h:AK)(a:AD):HO->Prop
 | .lst xs=>xs.length<=sizeLine/\∃(its:AA AC) (n:Nat),Vals xs its/\h.get? a=some {cls:= .type "list",data:= .seq its.toArray n}
 | .tup xs=>xs.length<=sizeLine/\∃its:AA AC,Vals xs its/\IsTup h a its.toArray
 | .dK kvs=>kvs.length<=sizeLine/\(a==sysModules)=false/\∃vs,KV kvs vs/\h.DictOf (kD P w) a vs
 | .dT kvs=>kvs.length<=sizeLine/\(a==sysModules)=false/\∃xs:AA (AA cP×AD×AC),
   Paired (λ(p:AA cP×V) (q:AA cP×AD×AC)=>p.1=q.1/\H q.2.1=some (.tup (p.1.map kV))/\RelV p.2 q.2.2) kvs xs/\
   ∃o es ep,h.get? a=some o/\o.ExactDict/\o.data= .dict es ep/\es.toList=xs.map (entryOfKey (tupleKind (kD P w)))/\(xs.map (·.1)).Nodup
 | .set S n=>h.SetOf (intKind P w) a S n
 | .ins C dx fs=>H dx=some (.own a)/\fs.length<=1000/\dx≠a/\h.get? a=some (W.instObj C dx)/\
   ∃mA,h.Ns1 dx mA/\(∀f,RelO (fs.lookup f) (mA f))/\PySem.Within mA (fs.map (·.1))
 | .own _=>∃o,h.get? a=some o
 | .xd fs=>∃mA,h.Ns1 a mA/\∀f,RelO (fs.lookup f) (mA f)
 | .rng lo hi=>∃t u v,h.get? a=some {cls:= .type "range",data:= .fields #[.int lo t,.int hi u,.int 1 v]}
 | .frz o u=>h.get? a=some o/\ObjOk H h a u
 | .tbl ps=>h.get? a=some {cls:= .none,data:= .fields ps}
 | .met f x=>h.get? a=some (W.methodObj (.ref f) (.ref x))
 | .ext φ=>φ h/\(∃o,h.get? a=some o)/\∀h1 h2:AK,φ h1->(∀o,h1.get? a=some o->h2.get? a=some o)->φ h2
def HOk (H:Hp)(h:AK):Prop:=∀a o,H a=some o->ObjOk P w H h a o
end
section
variable {P:AJ}{w:World}{H H':Hp}{h h':AK}{a:AD}{o:HO}
def ObjOk.lt (x:ObjOk P w H h a o):a<h.objs.size:=by
 cases o with
 |lst xs=>obtain⟨_,_,_,_,e⟩:=x;exact cK e
 |tup xs=>obtain⟨_,_,_,p⟩:=x;exact p.lt
 |dK kvs=>obtain⟨_,_,_,_,o,_,_,e,_⟩:=x;exact cK e
 |dT kvs=>obtain⟨_,_,_,_,o,_,_,e,_⟩:=x;exact cK e
 |set S n=>obtain⟨o,_,_,_,e,_⟩:=x;exact cK e
 |ins C dx fs=>obtain⟨_,_,_,e,_⟩:=x;exact cK e
 |own y=>obtain⟨_,e⟩:=x;exact cK e
 |xd fs=>obtain⟨_,⟨_,_,_,e,_⟩,_⟩:=x;exact cK e
 |rng lo hi=>obtain⟨_,_,_,e⟩:=x;exact cK e
 |frz ob u=>obtain⟨e,_⟩:=x;exact cK e
 |tbl ps=>exact cK (show h.get? a=some _ from x)
 |met f y=>exact cK (show h.get? a=some _ from x)
 |ext φ=>obtain⟨_,⟨_,e⟩,_⟩:=x;exact cK e
def Paired.mapP {α β:Type}{F G:α->β->Prop}:∀{l₁:AA α} {l₂:AA β},Paired F l₁ l₂->(∀a b,F a b->G a b)->Paired G l₁ l₂
 |_,_,.nil,_=> .nil
 |_,_,.cons r t,f=> .cons (f _ _ r) (Paired.mapP t f)
def ObjOk.stay (x:ObjOk P w H h a o)(k:∀b u,(b=a\/H b=some (.own a))->h.get? b=some u->h'.get? b=some u)(ho:∀b,H b=some (.own a)->H' b=some (.own a))(ht:∀b xs,H b=some (.tup xs)->H' b=some (.tup xs)):ObjOk P w H' h' a o:=by
 induction o with
 |lst xs=>obtain⟨z,its,n,r,e⟩:=x;exact⟨z,its,n,r,k _ _ (.inl rfl) e⟩
 |tup xs=>obtain⟨z,its,r,ob,e,c⟩:=x;exact⟨z,its,r,ob,k _ _ (.inl rfl) e,c⟩
 |dK kvs=>obtain⟨z,y,vs,r,ob,es,ep,e,c⟩:=x;exact⟨z,y,vs,r,ob,es,ep,k _ _ (.inl rfl) e,c⟩
 |dT kvs=>
  obtain⟨z,y,xs,r,ob,es,ep,e,c⟩:=x;exact⟨z,y,xs,Paired.mapP r λp q z=>⟨z.1,ht _ _ z.2.1,z.2.2⟩,ob,es,ep,k _ _ (.inl rfl) e,c⟩
 |set S n=>obtain⟨ob,es,ep,t,e,c⟩:=x;exact⟨ob,es,ep,t,k _ _ (.inl rfl) e,c⟩
 |ins C dx fs=>
  obtain⟨d,z,ne,e,mA,⟨od,es,ep,e2,c⟩,r⟩:=x;exact⟨ho _ d,z,ne,k _ _ (.inl rfl) e,mA,⟨od,es,ep,k _ _ (.inr d) e2,c⟩,r⟩
 |own y=>obtain⟨ob,e⟩:=x;exact⟨ob,k _ _ (.inl rfl) e⟩
 |xd fs=>obtain⟨mA,⟨od,es,ep,e,c⟩,r⟩:=x;exact⟨mA,⟨od,es,ep,k _ _ (.inl rfl) e,c⟩,r⟩
 |rng lo hi=>obtain⟨t,u,v,e⟩:=x;exact⟨t,u,v,k _ _ (.inl rfl) e⟩
 |frz ob u ih=>obtain⟨e,q⟩:=x;exact⟨k _ _ (.inl rfl) e,ih q⟩
 |tbl ps=>
  have e:h.get? a=some {cls:= .none,data:= .fields ps}:=x;show h'.get? a=some {cls:= .none,data:= .fields ps};exact k a _ (.inl rfl) e
 |met f y=>
  have e:h.get? a=some (W.methodObj (.ref f) (.ref y)):=x;show h'.get? a=some (W.methodObj (.ref f) (.ref y));exact k a _ (.inl rfl) e
 |ext φ=>obtain⟨p,⟨o,e⟩,st⟩:=x;exact⟨st _ _ p λo q=>k _ _ (.inl rfl) q,⟨o,k _ _ (.inl rfl) e⟩,st⟩
def HOk.lt (x:HOk P w H h)(e:H a=some o):a<h.objs.size:=(x a o e).lt
def HOk.fresh (x:HOk P w H h)(e:h.objs.size<=a):H a=none:=by
 cases q:H a with
 |none=>rfl
 |some u=>exact AH (iJ (x.lt q) e) (mY _)
def HOk.kept (x:HOk P w H h)(k:∀b u,h.get? b=some u->h'.get? b=some u):HOk P w H h':=λa o e=>
 (x a o e).stay (λb u _ q=>k b u q) (λ_ q=>q) λ_ _ q=>q
def HOk.laid (x:HOk P w H h)(k:∀b u,h.get? b=some u->h'.get? b=some u)(hp:h.objs.size<=a)(new:ObjOk P w (upd H a o) h' a o):HOk P w (upd H a o) h':=λb u e=>by
 have hn:=x.fresh hp
 by_cases hb:b=a
 ·subst hb;rw[cW]at e;cases e;exact new
 ·rw[aW hb]at e;exact(x b u e).stay (λc v _ q=>k c v q) (λc q=>by rw[aW (kP q hn)];exact q) λc xs q=>by rw[aW (kP q hn)];exact q
end
def Rd (H:Hp)(a:AD)(u:HO):Prop:=H a=some u\/∃o,H a=some (.frz o u)
def Rd.ok {u:HO}(r:Rd H a u)(x:HOk P w H h):ObjOk P w H h a u:=by
 rcases r with r|⟨o,r⟩
 ·exact x a u r
 ·obtain⟨_,q⟩:=x a _ r;exact q
def Wu:AB HO->Prop
 |some (.lst _)=>True
 |some (.dK _)=>True
 |some (.dT _)=>True
 |some (.set _ _)=>True
 |some (.ins _ _ _)=>True
 |some (.ext _)=>True
 |_=>False
section
variable {P:AJ}{w:World}{H:Hp}{h h':AK}{x e:AD}{o':HO}
def HOk.write (ok:HOk P w H h)(mu:Wu (H x))(he:e=x\/H e=some (.own x))(k:∀b u,b≠e->h.get? b=some u->h'.get? b=some u)(heo:∃u,h'.get? e=some u)(new:ObjOk P w (upd H x o') h' x o'):HOk P w (upd H x o') h':=λb u q=>by
 have nown:∀c y,H c=some (.own y)->c≠x:=λc y r z=>by subst z;rw[r]at mu;exact mu
 have ntup:∀c xs,H c=some (.tup xs)->c≠x:=λc xs r z=>by subst z;rw[r]at mu;exact mu
 by_cases hb:b=x
 ·subst hb;rw[cW]at q;cases q;exact new
 ·rw[aW hb]at q
  by_cases hbe:b=e
  ·have q':H b=some (.own x):=by
    rcases he with z|z
    ·exact AH (hbe.trans z) hb
    ·rw[hbe];exact z
   rw[q]at q';cases q';obtain⟨v,hv⟩:=heo;exact⟨v,by rw[hbe];exact hv⟩
  ·refine(ok b u q).stay (λc v hc r=>k c v ?_ r) (λc r=>by rw[aW (nown c b r)];exact r) λc xs r=>by rw[aW (ntup c xs r)];exact r
   rcases hc with rfl|hc
   ·exact hbe
   ·rintro rfl;rcases he with z|z
    ·exact nown c b hc z
    ·rw[hc]at z;cases z;exact hb rfl
end
structure Un (fs ex:List Addr)(H H':Hp)(h h':Heap):Prop where
 keep:∀b o,h.get? b=some o->H b=none->b∉fs->b∉ex->h'.get? b=some o
 slot:∀b o,h.get? b=some o->H b=none->b∈fs->b∉ex->∃sl,h'.get? b=some {o with slots:=sl}
 free:∀b o,h.get? b=some o->H b=none->b∉ex->H' b=none
 there:∀b o,h.get? b=some o->b∉ex->∃o',h'.get? b=some o'
 tups:∀b xs,H b=some (.tup xs)->H' b=some (.tup xs)
 frzs:∀b o u,H b=some (.frz o u)->H' b=some (.frz o u)
 tbls:∀b ps,H b=some (.tbl ps)->∃more,H' b=some (.tbl (ps++more))
section
variable {fs fs' ex ex':AA AD}{H H1 H2:Hp}{h h1 h2 h':AK}{a x e:AD}{o:HO}
def Un.any (u:Un fs ex H H1 h h1)(q:h.get? b=some ob)(n:H b=none)(hx:b∉ex):∃sl,h1.get? b=some {ob with slots:=sl}:=by
 by_cases hb:b∈fs
 ·exact u.slot b ob q n hb hx
 ·exact⟨ob.slots,u.keep b ob q n hb hx⟩
def Un.kept (k:∀b u,h.get? b=some u->h'.get? b=some u):Un fs ex H H h h':=
 ⟨λb ob q _ _ _=>k b ob q,λb ob q _ _ _=>⟨ob.slots,k b ob q⟩,λ_ _ _ n _=>n,λb ob q _=>⟨ob,k b ob q⟩,λ_ _ q=>q,λ_ _ _ q=>q,λ_ ps q=>⟨#[],by rw[q];simp⟩⟩
def Un.refl:Un fs ex H H h h:=Un.kept λ_ _ q=>q
def Un.laid (k:∀b u,h.get? b=some u->h'.get? b=some u)(hp:h.objs.size<=a)(hn:H a=none):Un fs ex H (upd H a o) h h' where
 keep:=λb u q _ _ _=>k b u q
 slot:=λb u q _ _ _=>⟨u.slots,k b u q⟩
 free:=λb u q n _=>by rw[aW (eT (iJ (cK q) hp))];exact n
 there:=λb u q _=>⟨u,k b u q⟩
 tups:=λb xs q=>by rw[aW (kP q hn)];exact q
 frzs:=λb u xs q=>by rw[aW (kP q hn)];exact q
 tbls:=λb ps q=>⟨#[],by rw[aW (kP q hn),q];simp⟩
def Un.write (mu:Wu (H x))(he:e=x\/H e=some (.own x))(k:∀b u,b≠e->h.get? b=some u->h'.get? b=some u)(heo:∃u,h'.get? e=some u):Un fs ex H (upd H x o) h h':=by
 have hx:∀b,H b=none->b≠x:=λb n z=>by subst z;rw[n]at mu;exact mu
 have hb:∀b,H b=none->b≠e:=λb n z=>by
  subst z;rcases he with r|r
  ·exact hx b n r
  ·rw[n]at r;cases r
 have hm:∀b u,H b=some u->¬Wu (some u)->b≠x:=λb u q nm z=>by subst z;rw[q]at mu;exact nm mu
 refine⟨λb u q n _ _=>k b u (hb b n) q,λb u q n _ _=>⟨u.slots,k b u (hb b n) q⟩,λb u q n _=>by rw[aW (hx b n)];exact n,λb u q _=>?_,
  λb xs q=>by rw[aW (hm b _ q λz=>z)];exact q,λb u xs q=>by rw[aW (hm b _ q λz=>z)];exact q,λb ps q=>⟨#[],by rw[aW (hm b _ q λz=>z),q];simp⟩⟩
 by_cases hbe:b=e
 ·subst hbe;exact heo
 ·exact⟨u,k b u hbe q⟩
end
def trk (h:AK)(H:Hp):AA AD:=(List.range h.objs.size).filter λa=>(H a).isSome
def gP (h:AK)(H:Hp):AK:=W.hideAll h (trk h H)
def znE (h:AK)(H:Hp):(gP h H).objs.size=h.objs.size:=W.hideAll_size _ _
def mJ (e:h.get? b=some o)(n:H b=none):(gP h H).get? b=some o:=
 W.hideAll_get _ e λhm=>by
  have q:(H b).isSome=true:=(qah.mp hm).2;rw[n]at q;simp at q
def Aq (e:(gP h H).get? b=some o):h.get? b=some o/\H b=none:=by
 have e':h.get? b=some o:=W.of_hideAll (trk h H) e;refine⟨e',?_⟩;cases q:H b with
 |none=>rfl
 |some x=>
  have hm:b∈trk h H:=qah.mpr ⟨qai.mpr (cK e'),by simp[q]⟩;have z:(gP h H).get? b=none:=W.hideAll_none (trk h H) hm;rw[z]at e;cases e
def zok (g h:AK)(L:AD):AA (AD×Obj):=(List.range h.objs.size).filterMap λa=>if a=L\/(g.get? a).isSome=true then none else(h.get? a).map λo=>(a,o)
def zlU {g h:AK}(h1:a≠L)(h2:g.get? a=none)(h3:h.get? a=some o):(a,o)∈zok g h L:=
 qaj.mpr ⟨a,qai.mpr (cK h3),by simp[h1,h2,h3]⟩
def rest (g h:AK)(L d:AD):AA (AD×Obj):=(zok g h L).filter λp=>decide (p.1≠d)
def mem_rest {g h:AK}(h1:a≠L)(h2:g.get? a=none)(h3:h.get? a=some o)(h4:a≠d):(a,o)∈rest g h L d:=
 qah.mpr ⟨zlU h1 h2 h3,fL h4⟩
structure Mod (K:W.Frag)(mg:Str->Option Value)(base:Heap):Prop where
 kin:K.In base
 glob:base.Ns mainGlobals mg
 blt:∃mb,base.Ns builtinsNs mb/\∀x:Str,x≠"__name__"->mb x=bootBuiltins x
 nolimit:base.NoLimit
structure Cx where
 prog:Program
 w:World
 K:W.Frag
 mg:Str->Option Value
 base:Heap
 A:Around
 N:List Str
 s₀:Shared
 H₀:Hp
 env:Env
 outer:List Env
 stack:List Env
 ex:List Addr
 fn:Str->Bool
 calm:Bool
 pn:List (Addr×Obj)
 xe:Value->Shared->Prop
def frs (l:AA Env):AA AD:=l.filterMap (·.frame)
abbrev Cx.fs (X:Cx):AA AD:=frs X.outer
def dP (sc:Scope)(x:Str):Prop:=sc.names.lookup x=some .local\/sc.names.lookup x=some .cell\/sc.names.lookup x=some .free
def gG (sc:Scope)(x:Str):Prop:=sc.names.lookup x=some .local\/sc.names.lookup x=some .cell
def Look (env:Env)(h:AK)(m:Str->AB AC)(x:Str)(u:AC):Prop:=
 (env.kindOf x=some .local/\m x=some u)\/((env.kindOf x=some .cell\/env.kindOf x=some .free)/\∃c,env.cells.lookup x=some c/\h.IsCell c (some u))
structure Cx.Ok (X:Cx):Prop where
 mod:Mod X.K X.mg X.base
 kind:X.env.scope.kind= .function
 glob:X.env.globals=mainGlobals
 blt:X.env.builtins=builtinsNs
 above:X.s₀.heap.objs.size<=X.env.locals
 inj:∀x y c,X.env.cells.lookup x=some c->X.env.cells.lookup y=some c->x=y
 has:∀x,(X.env.kindOf x=some .cell\/X.env.kindOf x=some .free)->∃c,X.env.cells.lookup x=some c
 cab:∀x c,X.fn x=true->X.env.cells.lookup x=some c->X.s₀.heap.objs.size<=c
 hd:X.calm=true->X.A.handled=none
 frames:X.A.frames=some X.stack
 stk:X.stack=X.outer\/(X.stack=X.env::X.outer/\X.env.frame=some X.env.locals)
 exf:∀b∈X.ex,b≠X.env.locals/\∀x c,X.env.cells.lookup x=some c->c≠b
 bs:∀b o,X.base.get? b=some o->X.s₀.heap.get? b=some o/\X.H₀ b=none
 bsz:X.base.objs.size<=X.s₀.heap.objs.size
 noex:∀b o,X.base.get? b=some o->b∉X.ex
 exfs:∀b∈X.ex,b∉X.fs
 funs:X.s₀.heap.FunFrames X.base X.outer
 frf:∀b∈X.fs,X.H₀ b=none
structure Inv (X:Cx)(AM:List (Addr×Obj))(σ:List (Option V))(H:Hp)(s:Shared):Prop where
 ok:X.Ok
 os:s.os=X.s₀.os
 bare:AllBare s.gens
 base:Un X.fs X.ex X.H₀ H X.s₀.heap s.heap
 loc:∃m,s.heap.Ns X.env.locals m/\∀(i:Nat) (x:Str) (v:V),X.N[i]? =some x->σ[i]? =some (some v)->dP X.env.scope x->∃u,RelV v u/\Look X.env s.heap m x u
 cell:∀x c,X.env.cells.lookup x=some c->∃v,s.heap.IsCell c v
 free:H X.env.locals=none
 freeC:∀x c,X.env.cells.lookup x=some c->H c=none
 pin:∀p∈X.pn++AM,s.heap.get? p.1=some p.2/\H p.1=none/\p.1≠X.env.locals/\p.1∉X.fs/\∀v,p.2.data≠ .cell v
 hok:HOk X.prog X.w H s.heap
 len:σ.length=X.N.length
section
variable {X:Cx}{AM:AA (AD×Obj)}{σ:AA (AB V)}{H H':Hp}{s:AE}{h':AK}
def Cx.Ok.nofr (ok:X.Ok)(e:X.base.get? b=some o):b∉X.fs:=λhb=>by
 have:=(ok.funs.mem hb).1;rw[e]at this;cases this
def Inv.bs (I:Inv X AM σ H s):∀b o,X.base.get? b=some o->s.heap.get? b=some o/\H b=none:=λb o e=>
 ⟨I.base.keep b o (I.ok.bs b o e).1 (I.ok.bs b o e).2 (I.ok.nofr e) (I.ok.noex b o e),I.base.free b o (I.ok.bs b o e).1 (I.ok.bs b o e).2 (I.ok.noex b o e)⟩
def Inv.bk (I:Inv X AM σ H s):∀b o,X.base.get? b=some o->s.heap.get? b=some o:=λb o e=>(I.bs b o e).1
def Inv.mod (I:Inv X AM σ H s):Mod X.K X.mg X.base:=I.ok.mod
def Inv.kIn (I:Inv X AM σ H s):X.K.In s.heap:=I.ok.mod.kin.keeps I.bk
def Inv.lt (I:Inv X AM σ H s):X.env.locals<s⁻¹:=let⟨_,hn,_⟩:=I.loc;hn.lt
def Inv.sz (I:Inv X AM σ H s):X.s₀⁻¹<=s⁻¹:=bO I.ok.above (kY I.lt)
def Inv.nofs (I:Inv X AM σ H s)(h:s⁻¹<=a):a∉X.fs:=λhb=>by
 obtain⟨_,o,ho,_⟩:=I.ok.funs.mem hb;exact AH (iJ (cK ho) (bO I.sz h)) (mY _)
def Inv.cne (I:Inv X AM σ H s):∀x c,X.env.cells.lookup x=some c->c≠X.env.locals:=λx c e z=>by
 obtain⟨v,o,ho,hd⟩:=I.cell x c e;obtain⟨m,⟨o',es,ep,ho',hd',_⟩,_⟩:=I.loc;rw[z,ho']at ho;cases ho;rw[hd']at hd;cases hd
def Inv.funs (I:Inv X AM σ H s):s.heap.FunFrames X.base X.outer:=by
 have all:∀(l:AA Env),(∀b∈frs l,b∈X.fs)->X.s₀.heap.FunFrames X.base l->s.heap.FunFrames X.base l:=by
  intro l
  induction l with
  |nil=>intro _ _;trivial
  |cons env r ih=>
   intro hs hl;obtain⟨hk,⟨L,o,hf,hn,ho,hd⟩,hr⟩:=hl;have hL:L∈X.fs:=hs L (by unfold frs;rw[Wi,hf];exact iW);obtain⟨sl,e⟩:=I.base.slot L o ho (I.ok.frf L hL) hL λz=>I.ok.exfs L z hL
   exact⟨hk,⟨L,_,hf,hn,e,hd⟩,ih (λb hb=>hs b (by unfold frs;rw[Wi,hf];exact gE _ hb)) hr⟩
 exact all X.outer (λ_ hb=>hb) I.ok.funs
def Inv.stack (I:Inv X AM σ H s):s.heap.FunFrames X.base X.stack:=by
 rcases I.ok.stk with e|⟨e,hf⟩
 ·rw[e];exact I.funs
 ·rw[e];obtain⟨m,hn,_⟩:=I.loc;refine .cons (by rw[I.ok.kind];decide) hf hn ?_ I.funs;exact Heap.get?_none_of_le (bO I.ok.bsz I.ok.above)
def Inv.stkSub (I:Inv X AM σ H s):∀b∈frs X.stack,b∈X.env.locals::X.fs:=λb hb=>by
 rcases I.ok.stk with e|⟨e,hf⟩
 ·rw[e]at hb;exact gE _ hb
 ·rw[e]at hb;unfold frs at hb;rw[Wi,hf]at hb;exact hb
def Inv.stkFree (I:Inv X AM σ H s):∀b∈frs X.stack,H b=none:=λb hb=>by
 rcases qaq.mp (I.stkSub b hb)with e|hb
 ·rw[e];exact I.free
 ·obtain⟨_,o,ho,_⟩:=I.ok.funs.mem hb;exact I.base.free b o ho (I.ok.frf b hb) λz=>I.ok.exfs b z hb
def Inv.step (I:Inv X AM σ H s)(hch:∀b∈ch,(b∈X.ex\/X.s₀⁻¹<=b)/\b≠X.env.locals/\(∀x c,X.env.cells.lookup x=some c->c≠b)/\∀p∈X.pn++AM,p.1≠b)(keep:∀b o,b≠X.env.locals->b∉X.fs->b∉ch->s.heap.get? b=some o->H b=none->h'.get? b=some o)(slot:∀b o,b≠X.env.locals->b∈X.fs->b∉ch->s.heap.get? b=some o->H b=none->∃sl,h'.get? b=some {o with slots:=sl})(free:∀b o,b∉ch->s.heap.get? b=some o->H b=none->H' b=none)(there:∀b o,b∉ch->s.heap.get? b=some o->∃o',h'.get? b=some o')(tups:∀b xs,H b=some (.tup xs)->H' b=some (.tup xs))(frzs:∀b o u,H b=some (.frz o u)->H' b=some (.frz o u))(tbls:∀b ps,H b=some (.tbl ps)->∃more,H' b=some (.tbl (ps++more)))(ns:∀m,s.heap.Ns X.env.locals m->h'.Ns X.env.locals m)(hok:HOk X.prog X.w H' h')(hg:AllBare g'):
  Inv X AM σ H' {s with heap:=h',gens:=g',drawn:=d',toks:=t'}:=by
 have neL:∀b o,X.s₀.heap.get? b=some o->b≠X.env.locals:=λb o e=>eT (iJ (cK e) I.ok.above)
 have neC:∀b o,X.s₀.heap.get? b=some o->b∉X.ex->b∉ch:=λb o e hx hb=>by
  rcases(hch b hb).1 with z|z
  ·exact hx z
  ·exact AH (iJ (cK e) z) (mY _)
 have cellK:∀x c,X.env.cells.lookup x=some c->∀v,s.heap.IsCell c v->h'.IsCell c v:=λx c e v ⟨o,ho,hd⟩=>by
  have nch:c∉ch:=λz=>(hch c z).2.2.1 x c e rfl
  by_cases hc:c∈X.fs
  ·obtain⟨sl,q⟩:=slot c o (I.cne x c e) hc nch ho (I.freeC x c e);exact⟨_,q,hd⟩
  ·exact⟨o,keep c o (I.cne x c e) hc nch ho (I.freeC x c e),hd⟩
 refine⟨I.ok,I.os,hg,⟨λb o e n hb hx=>?_,λb o e n hb hx=>?_,λb o e n hx=>?_,λb o e hx=>?_,λb xs e=>tups b xs (I.base.tups b xs e),λb o xs e=>frzs b o xs (I.base.frzs b o xs e),λb ps e=>?_⟩,?_,λx c e=>?_,?_,λx c e=>?_,λp hp=>?_,hok,I.len⟩
 ·exact keep b o (neL b o e) hb (neC b o e hx) (I.base.keep b o e n hb hx) (I.base.free b o e n hx)
 ·obtain⟨sl,e1⟩:=I.base.slot b o e n hb hx;obtain⟨sl',e2⟩:=slot b _ (neL b o e) hb (neC b o e hx) e1 (I.base.free b o e n hx);exact⟨sl',e2⟩
 ·obtain⟨o',e1⟩:=I.base.there b o e hx;exact free b o' (neC b o e hx) e1 (I.base.free b o e n hx)
 ·obtain⟨o',e1⟩:=I.base.there b o e hx;exact there b o' (neC b o e hx) e1
 ·obtain⟨m1,e1⟩:=I.base.tbls b ps e;obtain⟨m2,e2⟩:=tbls b _ e1;exact⟨m1++m2,by rw[e2,Array.append_assoc]⟩
 ·obtain⟨m,hn,hl⟩:=I.loc;refine⟨m,ns m hn,λi x v e1 e2 e3=>?_⟩;obtain⟨u,r,l⟩:=hl i x v e1 e2 e3;refine⟨u,r,?_⟩;rcases l with l|⟨k,c,e,z⟩
  ·exact .inl l
  ·exact .inr ⟨k,c,e,cellK x c e _ z⟩
 ·obtain⟨v,z⟩:=I.cell x c e;exact⟨v,cellK x c e v z⟩
 ·obtain⟨m,⟨o,_,_,ho,_⟩,_⟩:=I.loc;exact free _ o (λz=>(hch _ z).2.1 rfl) ho I.free
 ·obtain⟨v,o,ho,hd⟩:=I.cell x c e;exact free c o (λz=>(hch c z).2.2.1 x c e rfl) ho (I.freeC x c e)
 ·obtain⟨e,n,ne,nf,d⟩:=I.pin p hp;have nch:p.1∉ch:=λz=>(hch p.1 z).2.2.2 p hp rfl
  exact⟨keep p.1 p.2 ne nf nch e n,free p.1 p.2 nch e n,ne,nf,d⟩
def Inv.un (I:Inv X AM σ H s)(u:Un X.fs [] H H' s.heap h')(hok:HOk X.prog X.w H' h'):Inv X AM σ H' {s with heap:=h',toks:=t'}:=by
  obtain⟨m,⟨o,es,ep,ho,r⟩,_⟩:=id I.loc;obtain⟨sl,hL⟩:=u.any ho I.free (by simp);exact I.step (g':=s.gens) (d':=s.drawn) (ch:=[]) (λ_ z=>nomatch z) (λb o _ hb _ e n=>u.keep b o e n hb (by simp)) (λb o _ hb _ e n=>u.slot b o e n hb (by simp)) (λb o _ e n=>u.free b o e n (by simp)) (λb o _ e=>u.there b o e (by simp)) u.tups u.frzs u.tbls (λm' hm=>by
    obtain⟨o',es',ep',ho',r'⟩:=hm;rw[ho]at ho';cases ho';exact⟨_,es',ep',hL,r'⟩) hok I.bare
def Inv.call {ch:AA AD}(I:Inv X AM σ H s)(u:Un (frs X.stack) ch H H' s.heap h')(hok:HOk X.prog X.w H' h')(hg:AllBare g')(hch:∀b∈ch,(b∈X.ex\/X.s₀⁻¹<=b)/\b≠X.env.locals/\(∀x c,X.env.cells.lookup x=some c->c≠b)/\∀p∈X.pn++AM,p.1≠b):
  Inv X AM σ H' {s with heap:=h',gens:=g',drawn:=d',toks:=t'}:=by
 obtain⟨m,⟨o,es,ep,ho,r⟩,_⟩:=id I.loc;obtain⟨sl,hL⟩:=u.any ho I.free λz=>(hch _ z).2.1 rfl
 exact I.step (ch:=ch) hch (λb o hL hb hc e n=>u.keep b o e n (λz=>(qaq.mp (I.stkSub b z)).elim hL hb) hc) (λb o _ _ hc e n=>u.any e n hc) (λb o hc e n=>u.free b o e n hc) (λb o hc e=>u.there b o e hc) u.tups u.frzs u.tbls (λm' hm=>by
  obtain⟨o',es',ep',ho',r'⟩:=hm;rw[ho]at ho';cases ho';exact⟨_,es',ep',hL,r'⟩) hok hg
def Inv.turned (I:Inv X AM σ H s)(k:∀b o,b≠it->s.heap.get? b=some o->h'.get? b=some o)(hn:H it=none)(hL:it≠X.env.locals)(h1:it∈X.ex\/X.s₀⁻¹<=it)(h2:∀x c,X.env.cells.lookup x=some c->c≠it)(h3:∀p∈X.pn++AM,p.1≠it):Inv X AM σ H {s with heap:=h',toks:=t'}:=by
 have nit:∀b u,H b=some u->b≠it:=λb u e z=>by rw[z,hn]at e;cases e
 refine I.step (g':=s.gens) (d':=s.drawn) (ch:=[it]) (λb hb=>?_) (λb o _ _ hc e _=>k b o (λz=>hc (by simp[z])) e) (λb o _ _ hc e _=>⟨o.slots,k b o (λz=>hc (by simp[z])) e⟩) (λ_ _ _ _ n=>n)
  (λb o hc e=>⟨o,k b o (λz=>hc (by simp[z])) e⟩) (λ_ _ e=>e) (λ_ _ _ e=>e) (λb ps e=>⟨#[],by rw[e];simp⟩) (λm hm=>?_) (λb u e=>?_) I.bare
 ·have e:b=it:= ~~~hb
  subst e;exact⟨h1,hL,h2,h3⟩
 ·obtain⟨o,es,ep,ho,r⟩:=hm;exact⟨o,es,ep,k _ o (Ne.symm hL) ho,r⟩
 ·refine(I.hok b u e).stay (λc v hc q=>k c v ?_ q) (λ_ q=>q) λ_ _ q=>q
  rcases hc with z|z
  ·rw[z];exact nit b u e
  ·exact nit c _ z
def Inv.tok (I:Inv X AM σ H s)(t:Nat):Inv X AM σ H {s with toks:=t}:=I.un (h':=s.heap) (t':=t) Un.refl I.hok
def Inv.kept (I:Inv X AM σ H s)(k:∀b u,s.heap.get? b=some u->h'.get? b=some u):Inv X AM σ H {s with heap:=h',toks:=t'}:=I.un (Un.kept k) (I.hok.kept k)
def Inv.laid {o:HO}(I:Inv X AM σ H s)(k:∀b u,s.heap.get? b=some u->h'.get? b=some u)(hp:s⁻¹<=a)(new:ObjOk X.prog X.w (upd H a o) h' a o):
  Inv X AM σ (upd H a o) {s with heap:=h',toks:=t'}:=I.un (Un.laid k hp (I.hok.fresh hp)) (I.hok.laid k hp new)
def Inv.write {x e:AD}{o:HO}(I:Inv X AM σ H s)(mu:Wu (H x))(he:e=x\/H e=some (.own x))(k:∀b u,b≠e->s.heap.get? b=some u->h'.get? b=some u)(heo:∃u,h'.get? e=some u)(new:ObjOk X.prog X.w (upd H x o) h' x o):Inv X AM σ (upd H x o) {s with heap:=h',toks:=t'}:=I.un (Un.write mu he k heo) (I.hok.write mu he k heo new)
def Inv.pins_of (I:Inv X AM σ H s)(h:∀p∈pins',s.heap.get? p.1=some p.2/\H p.1=none/\p.1≠X.env.locals/\p.1∉X.fs/\∀v,p.2.data≠ .cell v):Inv X pins' σ H s:=
 ⟨I.ok,I.os,I.bare,I.base,I.loc,I.cell,I.free,I.freeC,λp hp=>(qar.mp hp).elim (λz=>I.pin p (qas _ z)) (h p),I.hok,I.len⟩
def zms (hN:N.Nodup)(a:N[i]? =some x)(b:N[j]? =some x):i=j:=by
 obtain⟨h1,e1⟩:=qat.mp a;obtain⟨h2,e2⟩:=qat.mp b;exact(qau hN).mp (e1.trans e2.symm)
def zog {Q:Unit->AE->Prop}(I:Inv X AM σ H s)(hN:X.N.Nodup)(hi:X.N[i]? =some x)(hx:gG X.env.scope x)(r:RelV v u)(h:∀s',Inv X AM (σ.set i (some v)) H s'->(∃a,Heap.SameBut a s.heap s'.heap/\(a=X.env.locals\/X.env.cells.lookup x=some a))->Q () s')(hf:X.fn x=true\/X.env.scope.names.lookup x=some .local:=by first|exact .inl rfl|exact .inr rfl|assumption):AG M A (storeName X.env x u) Q E s:=by
  obtain⟨m,hn,hl⟩:=id I.loc;have hcls:(X.env.scope.kind== .class||(X.env.scope.kind== .module&&X.env.locals !=X.env.globals))=false:=by rw[I.ok.kind];rfl
  have hiσ:i<σ.length:=by rw[I.len];exact(qat.mp hi).1
  have cne:=I.cne;have tracked:∀{a:AD} {h':AK},(∃o,s.heap.get? a=some o/\H a=none)->Heap.SameBut a s.heap h'->HOk X.prog X.w H h':=λ{a h'} ha hs b ob e=>by
    obtain⟨_,_,hfree⟩:=ha;refine(I.hok b ob e).stay (λc w' hc q=>(hs.2 c ?_).trans q) (λ_ q=>q) λ_ _ q=>q
    rintro rfl;rcases hc with rfl|hc
    . rw[hfree]at e;cases e
    . rw[hfree]at hc;cases hc
  rcases hx with hk|hk
  . refine wpAny_storeName_local hk hn (λh' hn' hs=>?_) hcls
    obtain⟨oL,_,_,hoL,_⟩:=id hn;refine h _ ⟨I.ok,I.os,I.bare,⟨λb o e n hb hx=>?_,λb o e n hb hx=>?_,I.base.free,λb o e hx=>?_,I.base.tups,I.base.frzs,I.base.tbls⟩,⟨_,hn',λj y v' e1 e2 e3=>?_⟩,λy c e=>?_,I.free,I.freeC,λp hp=>?_,tracked ⟨oL,hoL,I.free⟩ hs,~~~I.len⟩ ⟨_,hs,.inl rfl⟩
    . exact(hs.2 b (eT (iJ (cK e) I.ok.above))).trans (I.base.keep b o e n hb hx)
    . obtain⟨sl,e1⟩:=I.base.slot b o e n hb hx
      exact⟨sl,(hs.2 b (eT (iJ (cK e) I.ok.above))).trans e1⟩
    . obtain⟨o',e1⟩:=I.base.there b o e hx
      exact⟨o',(hs.2 b (eT (iJ (cK e) I.ok.above))).trans e1⟩
    . by_cases hj:j=i
      . subst hj
        rw[hi]at e1;cases e1;rw[List.getElem?_set_self hiσ]at e2;cases e2;exact⟨u,r,.inl ⟨hk,by simp⟩⟩
      . rw[iD (Ne.symm hj)]at e2
        obtain⟨u',r',q⟩:=hl j y v' e1 e2 e3;refine⟨u',r',?_⟩;rcases q with⟨k,e⟩|⟨k,c,e,z⟩
        . refine .inl ⟨k,?_⟩
          have:y≠x:=λe=>hj (zms hN e1 (e ▸ hi))
          simp[this,e]
        . exact .inr ⟨k,c,e,z.sameBut hs (cne y c e)⟩
    . obtain⟨w',z⟩:=I.cell y c e
      exact⟨w',z.sameBut hs (cne y c e)⟩
    . obtain⟨e,n,ne,nf,d⟩:=I.pin p hp
      exact⟨(hs.2 p.1 ne).trans e,n,ne,nf,d⟩
  . have hfn:X.fn x=true:=by
      rcases hf with z|z
      . exact z
      . rw[z]at hk;cases hk
    obtain⟨c,hc⟩:=I.ok.has x (.inl hk);obtain⟨w',z⟩:=I.cell x c hc;refine wpAny_storeName_cell I.ok.kind hk hc z (λh' hc' hs=>?_);obtain⟨oc,hoc,hocd⟩:=id z;refine h {s with heap:=h'} ⟨I.ok,I.os,I.bare,⟨λb o e n hb hx=>?_,λb o e n hb hx=>?_,I.base.free,λb o e hx=>?_,I.base.tups,I.base.frzs,I.base.tbls⟩,⟨m,hn.sameBut hs (Ne.symm (cne x c hc)),λj y v' e1 e2 e3=>?_⟩,λy c' e=>?_,I.free,I.freeC,λp hp=>?_,tracked ⟨oc,hoc,I.freeC x c hc⟩ hs,~~~I.len⟩ ⟨c,hs,.inr hc⟩
    . exact(hs.2 b (eT (iJ (cK e) (I.ok.cab x c hfn hc)))).trans (I.base.keep b o e n hb hx)
    . obtain⟨sl,e1⟩:=I.base.slot b o e n hb hx
      exact⟨sl,(hs.2 b (eT (iJ (cK e) (I.ok.cab x c hfn hc)))).trans e1⟩
    . obtain⟨o',e1⟩:=I.base.there b o e hx
      exact⟨o',(hs.2 b (eT (iJ (cK e) (I.ok.cab x c hfn hc)))).trans e1⟩
    . by_cases hj:j=i
      . subst hj
        rw[hi]at e1;cases e1;rw[List.getElem?_set_self hiσ]at e2;cases e2;exact⟨u,r,.inr ⟨.inl hk,c,hc,hc'⟩⟩
      . rw[iD (Ne.symm hj)]at e2
        obtain⟨u',r',q⟩:=hl j y v' e1 e2 e3;refine⟨u',r',?_⟩;rcases q with q|⟨k,c',e,z'⟩
        . exact .inl q
        . refine .inr ⟨k,c',e,z'.sameBut hs ?_⟩
          rintro rfl;exact hj (zms hN e1 (I.ok.inj _ _ _ e hc ▸ hi))
    . by_cases hcc:c'=c
      . subst hcc;exact⟨_,hc'⟩
      . obtain⟨w2,z2⟩:=I.cell y c' e
        exact⟨w2,z2.sameBut hs hcc⟩
    . obtain⟨e,n,ne,nf,d⟩:=I.pin p hp
      refine⟨(hs.2 p.1 ?_).trans e,n,ne,nf,d⟩;intro q;rw[q,hoc]at e;have q':oc=p.2:=Option.some.inj e;exact d w' (by rw[<-q'];exact hocd)
def zjO {Q:Unit->AE->Prop}(I:Inv X AM σ H s)(hN:X.N.Nodup)(hi:X.N[i]? =some x)(hx:gG X.env.scope x)(r:RelV v u)(h:∀s',Inv X AM (σ.set i (some v)) H s'->Q () s')(hf:X.fn x=true\/X.env.scope.names.lookup x=some .local:=by first|exact .inl rfl|exact .inr rfl|assumption):AG M A (storeName X.env x u) Q E s:=
 zog I hN hi hx r (λs' I' _=>h s' I') hf
end
abbrev XK:=AC->AB AD->Hp->Prop
abbrev St:=AA (AB V)
abbrev VK:=V->Hp->Prop
abbrev TE:=St->Hp->VK->Prop
abbrev TT:=St->Hp->(Bool->Hp->Prop)->Prop
abbrev TA:=St->Hp->(AA V->Hp->Prop)->Prop
structure Ends where
 nx:St->Hp->Prop
 rt:VK
 bk:St->Hp->Prop:=λ_ _=>False
 ct:St->Hp->Prop:=λ_ _=>False
abbrev TS:=Ends->St->Hp->Prop
def EP (X:Cx)(AM:AA (AD×Obj))(σ:St)(Q:VK)(u:AC)(s':AE):Prop:=∃v H',Inv X AM σ H' s'/\RelV v u/\Q v H'
def TP (X:Cx)(AM:AA (AD×Obj))(σ:St)(Q:Bool->Hp->Prop)(b:Bool)(s':AE):Prop:=∃H',Inv X AM σ H' s'/\Q b H'
def AP (X:Cx)(AM:AA (AD×Obj))(σ:St)(Q:AA V->Hp->Prop)(us:AA AC)(s':AE):Prop:=∃vs H',Inv X AM σ H' s'/\Vals vs us/\Q vs H'
def SP (X:Cx)(AM:AA (AD×Obj))(D:Ends)(f:Flow)(s':AE):Prop:=
 match f with
 | .next=>∃σ' H',Inv X AM σ' H' s'/\D.nx σ' H'
 | .brk=>∃σ' H',Inv X AM σ' H' s'/\D.bk σ' H'
 | .cont=>∃σ' H',Inv X AM σ' H' s'/\D.ct σ' H'
 | .ret u=>∃v σ' H',Inv X AM σ' H' s'/\RelV v u/\D.rt v H'
def PE (X:Cx)(e:AI)(t:TE):Prop:=
 ∀(AM:AA (AD×Obj)) (s:AE) (σ:St) (H:Hp) (Q:VK),Inv X AM σ H s->t σ H Q->AG (model X.prog X.w) X.A (eval e X.env) (EP X AM σ Q) X.xe s
def PT (X:Cx)(e:AI)(t:TT):Prop:=
 ∀(AM:AA (AD×Obj)) (s:AE) (σ:St) (H:Hp) (Q:Bool->Hp->Prop),Inv X AM σ H s->t σ H Q->AG (model X.prog X.w) X.A (isTrue e X.env (eval e X.env)) (TP X AM σ Q) X.xe s
def PW (X:Cx)(e:AI)(t:TT):Prop:=
 ∀(whole:Sem AC) (AM:AA (AD×Obj)) (s:AE) (σ:St) (H:Hp) (Q:Bool->Hp->Prop),Inv X AM σ H s->t σ H Q->AG (model X.prog X.w) X.A (isTrue e X.env whole) (TP X AM σ Q) X.xe s
def PW.pt {t:TT}(h:PW X e t):PT X e t:=h _
def PA (X:Cx)(es:AA AI)(t:TA):Prop:=
 ∀(pos:Pos) (AM:AA (AD×Obj)) (s:AE) (σ:St) (H:Hp) (Q:AA V->Hp->Prop),Inv X AM σ H s->t σ H Q->AG (model X.prog X.w) X.A (spliced (backTo pos (starEach es X.env))) (AP X AM σ Q) X.xe s
def PS (X:Cx)(st:Stmt)(t:TS):Prop:=
 ∀(AM:AA (AD×Obj)) (s:AE) (σ:St) (H:Hp) (D:Ends),Inv X AM σ H s->t D σ H->AG (model X.prog X.w) X.A (exec st X.env) (SP X AM D) X.xe s
def PSs (X:Cx)(st:AA Stmt)(t:TS):Prop:=
 ∀(AM:AA (AD×Obj)) (s:AE) (σ:St) (H:Hp) (D:Ends),Inv X AM σ H s->t D σ H->AG (model X.prog X.w) X.A (execs st X.env) (SP X AM D) X.xe s
def aS {α:Type}{t:Sem α}{Q Q':α->AE->Prop}(h:AG M A t Q E s)(hQ:∀a s,Q a s->Q' a s):AG M A t Q' E s:=jT h hQ λ_ _ x=>x
section
variable {X:Cx}
def Vv (i:Nat):TE:=λσ H Q=>∃v,σ[i]? =some (some v)/\Q v H
def tC (v:V):TE:=λ_ H Q=>Q v H
def eI (hN:X.N[i]? =some x)(hv:dP X.env.scope x)(hd:(x==("__debug__":Str))=false:=by decide)(hcd:(x==("__classdict__":Str))=false:=by decide):PE X (.Name x pos) (Vv i):=by
 intro AM s σ H Q I h;obtain⟨v,e,h⟩:=h;obtain⟨m,hn,hl⟩:=I.loc;obtain⟨u,r,l⟩:=hl i x v hN e hv;have fin:EP X AM σ Q u s:=⟨v,H,I,r,h⟩;rcases l with⟨hk,hm⟩|⟨hk,c,hc,hcell⟩
 ·exact wpAny_Name (wpAny_loadName_local I.ok.kind hk hn hm fin) hd
 ·rcases hk with hk|hk
  ·exact wpAny_Name (wpAny_loadName_cell I.ok.kind hk hc hcell fin) hd
  ·exact wpAny_Name (wpAny_loadName_free I.ok.kind hk hc hcell fin hcd) hd
def Je {i j pos}:PE X (.Constant (.int i) j pos) (tC (.int i)):=λ_ _ _ H _ I h=>wpAny_Constant_int ⟨.int i,H,I.tok _,⟨_,rfl⟩,h⟩
def Ry {b j pos}:PE X (.Constant (.bool b) j pos) (tC (.bl b)):=λ_ _ _ H _ I h=>Constant_bool ⟨.bl b,H,I,rfl,h⟩
def sN {j pos}:PE X (.Constant .none j pos) (tC .non):=λ_ _ _ H _ I h=>Constant_none ⟨.non,H,I,rfl,h⟩
def Fg {x j pos}:PE X (.Constant (.str x) j pos) (tC (.str x)):=λ_ _ _ H _ I h=>Calls.Constant_str ⟨.str x,H,I.tok _,⟨_,rfl⟩,h⟩
def Gl (X:Cx)(x:Str):Prop:=X.env.kindOf x=some .globalImplicit
def znZ (I:Inv X AM σ H s)(hg:Gl X x)(hm:X.mg x=some u)(h:Q u s)(hd:(x==("__debug__":Str))=false:=by decide):AG (model X.prog X.w) X.A (eval (.Name x pos) X.env) Q E s:=
 Calls.Name_function_global I.ok.kind hg (Calls.loadGlobal_global (by rw[I.ok.glob];exact I.mod.glob.keeps I.bk) hm h) hd
def Sx (I:Inv X AM σ H s)(hg:Gl X x)(hm:X.mg x=none)(hv:bootBuiltins x=some u)(h:Q u s)(hn:x≠"__name__":=by decide)(hd:(x==("__debug__":Str))=false:=by decide):AG (model X.prog X.w) X.A (eval (.Name x pos) X.env) Q E s:=by
 obtain⟨mb,h1,h2⟩:=I.mod.blt;exact Calls.Name_function_global I.ok.kind hg (Calls.loadGlobal_builtin (by rw[I.ok.glob];exact I.mod.glob.keeps I.bk) hm (by rw[I.ok.blt];exact h1.keeps I.bk) ((h2 x hn).trans hv) h) hd
variable {a b:AI}{ta tb:TE}{pos:Pos}
def PC (X:Cx)(op:CmpOp)(a b:AI)(t:TE):Prop:=
 ∀(AM:AA (AD×Obj)) (s:AE) (σ:St) (H:Hp) (Q:VK),Inv X AM σ H s->t σ H Q->
  AG (model X.prog X.w) X.A (eval a X.env) (λv s₁=>AG (model X.prog X.w) X.A (eval b X.env) (λu s₂=>AG (model X.prog X.w) X.A (compareOp op v u) (EP X AM σ Q) X.xe s₂) X.xe s₁) X.xe s
def mB (b:AI)(h:op≠ .In)(h2:op≠ .NotIn):behindInMarks op b=false:=by
 have e1:(op==CmpOp.In)=false:=by cases op<;>first|rfl|exact AH rfl h
 have e2:(op==CmpOp.NotIn)=false:=by cases op<;>first|rfl|exact AH rfl h2
 cases b<;>simp[behindInMarks,e1,e2]
def tB (t:TE):TT:=λσ H Q=>t σ H λx H1=>∃c,x= .bl c/\Q c H1
def mD (h:PC X op a b t)(h1:behindInMarks op b=false:=by first|exact mB _ (by decide) (by decide)|rfl):PT X (.Compare a [op] [b] pos) (tB t):=by
  intro AM s σ H Q I hw;refine wpAny_isTrue_Compare1 (aS (h AM s σ H _ I hw) λv s1 h1=>aS h1 λu s2 h2=>aS h2 λc s3 ⟨x,H1,I1,r1,q1⟩=>?_) h1;obtain⟨d,rfl,q⟩:=q1;cases r1;exact Nf ⟨H1,I1,q⟩
variable {tA tB':TT}{rest:AA AI}
def tAnd (t u:TT):TT:=λσ H Q=>t σ H λc H1=>if c=true then u σ H1 Q else Q false H1
def tOr (t u:TT):TT:=λσ H Q=>t σ H λc H1=>if c=true then Q true H1 else u σ H1 Q
def tNot (t:TT):TT:=λσ H Q=>t σ H λc H1=>Q (!c) H1
def zL (ha:PT X a tA):PW X (.BoolOp .And [a] pos) tA:=by
 intro wh AM s σ H Q I h;refine isTrue_and (aS (ha AM s σ H Q I h) λc s1 e=>?_);cases c with
 |true=>exact isTrue_and_nil e
 |false=>exact e
def Kq (ha:PT X a tA):PW X (.BoolOp .Or [a] pos) tA:=by
 intro wh AM s σ H Q I h;refine isTrue_or (aS (ha AM s σ H Q I h) λc s1 e=>?_);cases c with
 |false=>exact isTrue_or_nil e
 |true=>exact e
def Eo (ha:PT X a tA)(hb:PW X (.BoolOp .And (b::rest) pos) tB'):PW X (.BoolOp .And (a::b::rest) pos) (tAnd tA tB'):=by
 intro wh AM s σ H Q I h;refine isTrue_and (aS (ha AM s σ H _ I h) λc s1 ⟨H1,I1,q1⟩=>?_);cases c with
 |true=>exact hb wh AM s1 σ H1 Q I1 q1
 |false=>exact⟨H1,I1,q1⟩
def Rg (ha:PT X a tA)(hb:PW X (.BoolOp .Or (b::rest) pos) tB'):PW X (.BoolOp .Or (a::b::rest) pos) (tOr tA tB'):=by
 intro wh AM s σ H Q I h;refine isTrue_or (aS (ha AM s σ H _ I h) λc s1 ⟨H1,I1,q1⟩=>?_);cases c with
 |true=>exact⟨H1,I1,q1⟩
 |false=>exact hb wh AM s1 σ H1 Q I1 q1
def Hl (ha:PT X a tA):PT X (.UnaryOp .Not a pos) (tNot tA):=by
 intro AM s σ H Q I h;exact isTrue_not (ha AM s σ H (λc H1=>Q (!c) H1) I h)
def Ri (ta tb:TE):TE:=λσ H Q=>ta σ H λx H1=>∃c,x= .bl c/\if c=true then tb σ H1 Q else Q (.bl false) H1
def Wy (ta:TE):TE:=λσ H Q=>ta σ H λx H1=>∃c,x= .bl c/\Q (.bl (!c)) H1
def Ls {op}(h:PE X a t):PE X (.BoolOp op [a] pos) t:=λAM s σ H Q I hw=>BoolOp_one (h AM s σ H Q I hw)
def Fx (ha:PE X a ta)(hb:PE X (.BoolOp .And (b::rest) pos) tb):PE X (.BoolOp .And (a::b::rest) pos) (Ri ta tb):=by
 intro AM s σ H Q I h;refine BoolOp_and (aS (ha AM s σ H _ I h) λv s1 ⟨x,H1,I1,r1,q1⟩=>?_);obtain⟨c,rfl,q1⟩:=q1;cases r1;refine Nf ?_;cases c with
 |true=>exact hb AM s1 σ H1 Q I1 q1
 |false=>exact⟨.bl false,H1,I1,rfl,q1⟩
def Jw (ha:PE X a ta):PE X (.UnaryOp .Not a pos) (Wy ta):=by
 intro AM s σ H Q I h;refine UnaryOp_ (aS (ha AM s σ H _ I h) λv s1 ⟨x,H1,I1,r1,q1⟩=>?_);obtain⟨c,rfl,q1⟩:=q1;cases r1;exact not_of (Nf ⟨.bl (!c),H1,I1,rfl,q1⟩)
def tIf (t:TT)(ta tb:TE):TE:=λσ H Q=>t σ H λc H1=>if c=true then ta σ H1 Q else tb σ H1 Q
def nH (hc:PT X c tA)(ha:PE X a ta)(hb:PE X b tb):PE X (.IfExp c a b pos) (tIf tA ta tb):=by
 intro AM s σ H Q I h;refine wpAny_IfExp (aS (hc AM s σ H _ I h) λd s1 ⟨H1,I1,q1⟩=>?_);cases d with
 |true=>exact ha AM s1 σ H1 Q I1 q1
 |false=>exact hb AM s1 σ H1 Q I1 q1
end
def SqL (K:AF)(H:Hp)(a:AD)(xs:AA V):Prop:=
 Rd H a (.lst xs)\/
  ∃(o:Obj) (its:Array AC) (n:Nat),K.lookup a=some o/\o.cls= .type "list"/\o.dict=none/\o.data= .seq its n/\its.size<=sizeLine/\Vals xs its.toList
def SqT (K:AF)(H:Hp)(a:AD)(xs:AA V):Prop:=
 Rd H a (.tup xs)\/
  ∃(o:Obj) (its:Array AC) (n:Nat),K.lookup a=some o/\o.cls= .type "tuple"/\o.data= .seq its n/\its.size<=sizeLine/\Vals xs its.toList
def absV:AC->AB V
 | .none=>some .non
 | .bool b=>some (.bl b)
 | .int i _=>some (.int i)
 | .str x _=>some (.str x)
 | .bytes b _=>some (.byt b)
 | .float b _=>some (.flt b)
 | .ref a=>some (.ref a)
 | .type n=>some (.ty n)
 |_=>none
def RelV.abs {x:V}(r:RelV x u):absV u=some x:=by
 cases x with
 |non=>cases r;rfl
 |bl _=>cases r;rfl
 |int _=>obtain⟨t,rfl⟩:=r;rfl
 |str _=>obtain⟨t,rfl⟩:=r;rfl
 |byt _=>obtain⟨t,rfl⟩:=r;rfl
 |flt _=>obtain⟨t,rfl⟩:=r;rfl
 |ref _=>cases r;rfl
 |ty _=>cases r;rfl
def RelV.inj {x y:V}(r:RelV x u)(q:RelV y u):x=y:=Option.some.inj (r.abs.symm.trans q.abs)
def Vals.inj:∀{xs ys:AA V} {us:AA AC},Vals xs us->Vals ys us->xs=ys
 |_,_,_,.nil,.nil=>rfl
 |_,_,_,.cons r t,.cons r' t'=>by rw[r.inj r',Vals.inj t t']
section
variable {X:Cx}{AM:AA (AD×Obj)}{σ:St}{H:Hp}{s:AE}{a:AD}{xs ys:AA V}
theorem SqL.of {K:AF}(h:H a=some (.lst xs)):SqL K H a xs:= .inl (.inl h)
theorem SqT.of {K:AF}(h:H a=some (.tup xs)):SqT K H a xs:= .inl (.inl h)
def Inv.list (I:Inv X AM σ H s)(h:SqL X.K H a xs):∃its:AA AC,Vals xs its/\PlainL s.heap a its.toArray/\xs.length<=sizeLine:=by
 rcases h with h|⟨o,its,n,hk,hc,hd,hs,hz,r⟩
 ·obtain⟨z,its,n,r,e⟩:=h.ok I.hok;exact⟨its,r,⟨_,n,e,rfl,rfl,rfl⟩,z⟩
 ·refine⟨its.toList,r,⟨o,n,I.kIn a o hk,hc,hd,~~~hs⟩,?_⟩;have e:=r.length;simp only[Pa]at e;lia
def Inv.tuple (I:Inv X AM σ H s)(h:SqT X.K H a xs):∃its:AA AC,Vals xs its/\IsTup s.heap a its.toArray/\xs.length<=sizeLine:=by
 rcases h with h|⟨o,its,n,hk,hc,hs,hz,r⟩
 ·obtain⟨z,its,r,p⟩:=h.ok I.hok;exact⟨its,r,p,z⟩
 ·refine⟨its.toList,r,⟨o,I.kIn a o hk,hc,n,~~~hs⟩,?_⟩;have e:=r.length;simp only[Pa]at e;lia
def Inv.list_inj (I:Inv X AM σ H s)(h:SqL X.K H a xs)(h':SqL X.K H a ys):xs=ys:=by
 obtain⟨its,r,⟨o,n,e,_,_,d⟩,_⟩:=I.list h;obtain⟨its',r',⟨o',n',e',_,_,d'⟩,_⟩:=I.list h';rw[e]at e';cases e';rw[d]at d';injection d' with d1 _
 have:its=its':= ~~~congrArg Array.toList d1
 subst this;exact r.inj r'
def Inv.tuple_inj (I:Inv X AM σ H s)(h:SqT X.K H a xs)(h':SqT X.K H a ys):xs=ys:=by
 obtain⟨its,r,⟨o,e,_,n,d⟩,_⟩:=I.tuple h;obtain⟨its',r',⟨o',e',_,n',d'⟩,_⟩:=I.tuple h';rw[e]at e';cases e';rw[d]at d';injection d' with d1 _
 have:its=its':= ~~~congrArg Array.toList d1
 subst this;exact r.inj r'
end
abbrev Cx.wish (X:Cx)(E:AC->AE->Prop):Cx:={X with xe:=E}
abbrev Cx.nox (X:Cx):Cx:=X.wish λ_ _=>False
def Cx.Ok.wish (ok:X.Ok)(E:AC->AE->Prop):(X.wish E).Ok:=
 ⟨ok.mod,ok.kind,ok.glob,ok.blt,ok.above,ok.inj,ok.has,ok.cab,ok.hd,ok.frames,ok.stk,ok.exf,ok.bs,ok.bsz,ok.noex,ok.exfs,ok.funs,ok.frf⟩
def Cx.Ok.unwish (ok:(X.wish E).Ok):X.Ok:=
 ⟨ok.mod,ok.kind,ok.glob,ok.blt,ok.above,ok.inj,ok.has,ok.cab,ok.hd,ok.frames,ok.stk,ok.exf,ok.bs,ok.bsz,ok.noex,ok.exfs,ok.funs,ok.frf⟩
section
variable {X:Cx}{AM:AA (AD×Obj)}{σ:St}{H:Hp}{s:AE}{E:AC->AE->Prop}
def Inv.wish (I:Inv X AM σ H s)(E:AC->AE->Prop):Inv (X.wish E) AM σ H s:=⟨I.ok.wish E,I.os,I.bare,I.base,I.loc,I.cell,I.free,I.freeC,I.pin,I.hok,I.len⟩
def Inv.unwish (I:Inv (X.wish E) AM σ H s):Inv X AM σ H s:=⟨I.ok.unwish,I.os,I.bare,I.base,I.loc,I.cell,I.free,I.freeC,I.pin,I.hok,I.len⟩
def SP.unwish {f:Flow}(h:SP (X.wish E) AM D f s'):SP X AM D f s':=by
 cases f with
 |next=>obtain⟨σ',H',I,q⟩:=h;exact⟨σ',H',I.unwish,q⟩
 |brk=>obtain⟨σ',H',I,q⟩:=h;exact⟨σ',H',I.unwish,q⟩
 |cont=>obtain⟨σ',H',I,q⟩:=h;exact⟨σ',H',I.unwish,q⟩
 |ret u=>obtain⟨v,σ',H',I,r,q⟩:=h;exact⟨v,σ',H',I.unwish,r,q⟩
theorem PSs.nox {st:AA Stmt}{t:TS}(h:PSs X.nox st t):PSs X st t:=λAM s σ H D I hw=>
 jT (h AM s σ H D (I.wish _) hw) (λ_ _ q=>q.unwish) λ_ _ z=>False.elim z
end
section
variable {X:Cx}{st:Stmt}{rest:AA Stmt}{t u:TS}{e:AI}{te:TE}{pos:Pos}
def Rj:TS:=λD σ H=>D.nx σ H
def tSeq (t u:TS):TS:=λD σ H=>t {D with nx:=u D} σ H
def zlk:PSs X [] Rj:=λ_ _ σ H _ I h=>qaz ⟨σ,H,I,h⟩
def zjp (h1:PS X st t)(h2:PSs X rest u):PSs X (st::rest) (tSeq t u):=by
 intro AM s σ H D I h;refine wpAny_execs_cons (aS (h1 AM s σ H {D with nx:=u D} I h) λf s1 q=>?_);cases f with
 |next=>
  obtain⟨σ',H',I',q⟩:=q;exact h2 AM s1 σ' H' D I' q
 |ret v=>exact q
 |brk=>exact q
 |cont=>exact q
def xQ (h1:PS X st t):PSs X [st] t:=by
 intro AM s σ H D I h;refine wpAny_execs_cons (aS (h1 AM s σ H D I h) λf s1 q=>?_);cases f with
 |next=>exact qaz q
 |ret v=>exact q
 |brk=>exact q
 |cont=>exact q
def Inv.quiet (I:Inv X AM σ H s):interactive X.env=false:=by simp[interactive,I.ok.kind]
def Rw (te:TE):TS:=λD σ H=>te σ H λ_ H1=>D.nx σ H1
def Zo (he:PE X e te)(hs:swapsWith e none pos.line X.env=pure false:=by rfl):PS X (.Expr e pos) (Rw te):=by
 intro AM s σ H D I h;exact wpAny_Expr_any (aS (he AM s σ H _ I h) λv s1 ⟨x,H1,I1,r1,q1⟩=>⟨σ,H1,I1,q1⟩) I.quiet hs
def tRet (te:TE):TS:=λD σ H=>te σ H D.rt
def Sg (he:PE X e te):PS X (.Return (some e) pos) (tRet te):=by
 intro AM s σ H D I h;exact wpAny_Return_some (aS (he AM s σ H _ I h) λv s1 ⟨x,H1,I1,r1,q1⟩=>⟨x,σ,H1,I1,r1,q1⟩)
def tIfS (c:TT)(t u:TS):TS:=λD σ H=>c σ H λb H1=>if b=true then t D σ H1 else u D σ H1
def Ca (hc:PT X c tc)(ha:PSs X a t)(hb:PSs X b u):PS X (.If c a b pos) (tIfS tc t u):=by
 intro AM s σ H D I h;refine wpAny_If (aS (hc AM s σ H _ I h) λd s1 ⟨H1,I1,q1⟩=>?_);cases d with
 |true=>exact ha AM s1 σ H1 D I1 q1
 |false=>exact hb AM s1 σ H1 D I1 q1
end
abbrev TG:=V->St->Hp->(St->Hp->Prop)->Prop
abbrev tP:=AA V->St->Hp->(St->Hp->Prop)->Prop
def PG (X:Cx)(target:AI)(t:TG):Prop:=
 ∀(AM:AA (AD×Obj)) (s:AE) (σ:St) (H:Hp) (v:V) (u:AC) (Q:St->Hp->Prop),Inv X AM σ H s->RelV v u->t v σ H Q->
  AG (model X.prog X.w) X.A (assign target X.env u) (λ_ s'=>∃σ' H',Inv X AM σ' H' s'/\Q σ' H') X.xe s
def Ib (X:Cx)(ts:AA AI)(t:tP):Prop:=
 ∀(AM:AA (AD×Obj)) (s:AE) (σ:St) (H:Hp) (vs:AA V) (us:AA AC) (Q:St->Hp->Prop),Inv X AM σ H s->Vals vs us->t vs σ H Q->
  AG (model X.prog X.w) X.A (assignInOrder ((assignEach ts X.env).map (·.2)) us) (λ_ s'=>∃σ' H',Inv X AM σ' H' s'/\Q σ' H') X.xe s
abbrev Mw:=V->V->V->Hp->(Hp->Prop)->Prop
def Ys (X:Cx)(t:Mw):Prop:=
 ∀(AM:AA (AD×Obj)) (s:AE) (σ:St) (H:Hp) (o i v:V) (ov iv u:AC) (Q:Hp->Prop),Inv X AM σ H s->RelV o ov->RelV i iv->RelV v u->t o i v H Q->
  AG (model X.prog X.w) X.A (setItem ov iv u) (λ_ s'=>∃H',Inv X AM σ H' s'/\Q H') X.xe s
abbrev Zx:=V->V->Hp->VK->Prop
def PIp (X:Cx)(op:Operator)(t:Zx):Prop:=
 ∀(AM:AA (AD×Obj)) (s:AE) (σ:St) (H:Hp) (x y:V) (v u:AC) (Q:VK),Inv X AM σ H s->RelV x v->RelV y u->t x y H Q->
  AG (model X.prog X.w) X.A (inplaceOp op v u) (EP X AM σ Q) X.xe s
section
variable {X:Cx}{pos:Pos}
def Bw (i:Nat):TG:=λv σ H Q=>Q (σ.set i (some v)) H
def Yt (hN:X.N.Nodup)(hi:X.N[i]? =some x)(hx:gG X.env.scope x)(hf:X.fn x=true\/X.env.scope.names.lookup x=some .local:=by first|exact .inl rfl|exact .inr rfl|assumption):PG X (.Name x pos) (Bw i):=by
  intro AM s σ H v u Q I r h;exact wpAny_assign_Name (zjO I hN hi hx r (λs' I'=>⟨_,H,I',h⟩) hf)
def gNil:tP:=λvs σ H Q=>vs=[]/\Q σ H
def Yu (t:TG)(u:tP):tP:=λvs σ H Q=>∃v r,vs=v::r/\t v σ H λσ' H'=>u r σ' H' Q
def zpq:Ib X [] gNil:=by
 intro AM s σ H vs us Q I r h;obtain⟨e,h⟩:=h;subst e;cases r;exact assignInOrder_nil ⟨σ,H,I,h⟩
def zhv {t:TG}{u:tP}(h1:PG X e t)(h2:Ib X es u)(hs:(assignEach (e::es) X.env).map (·.2)=assign e X.env::(assignEach es X.env).map (·.2):=by rfl):Ib X (e::es) (Yu t u):=by
 intro AM s σ H vs us Q I r h;obtain⟨v,vr,e1,h⟩:=h;subst e1;cases r with
 |cons r rr=>
  rw[hs];refine assignInOrder_cons (aS (h1 AM s σ H _ _ _ I r h) λ_ s1 ⟨σ1,H1,I1,q1⟩=>?_);exact h2 AM s1 σ1 H1 _ _ Q I1 rr q1
def gTup (K:AF)(n:Nat)(t:tP):TG:=λv σ H Q=>∃a xs,v= .ref a/\SqT K H a xs/\xs.length=n/\t xs σ H Q
def tI {t:tP}(hc:X.calm=true)(h:Ib X es t)(hn:(assignEach es X.env).length=n:=by rfl)(hst:(assignEach es X.env).findIdx? (·.1)=none:=by rfl):PG X (.Tuple es k pos) (gTup X.K n t):=by
 intro AM s σ H v u Q I r hw;obtain⟨a,xs,e1,hq,hl,hw⟩:=hw;subst e1;cases r;obtain⟨its,rv,ht,hz⟩:=I.tuple hq;refine assign_Tuple_tuple (I.ok.hd hc) ht (by simp[hn,<-hl,rv.length]) hst λh' hx=>?_
 have I1:Inv X AM σ H {s with heap:=h'}:=I.kept (t':=s.toks) λb o e=>hx b o (eT (cK e)) e
 exact h AM _ σ H xs _ Q I1 (~~~rv) hw
def gSub (to ti:TE)(t:Mw):TG:=λv σ H Q=>to σ H λo H1=>ti σ H1 λi H2=>t o i v H2 λH3=>Q σ H3
def pO {o i:AI}{t:Mw}(ho:PE X o to)(hi:PE X i ti)(hs:Ys X t)(ha : ∀ v, assign (.Subscript o i pos) X.env v = (do
      let ov<-holding [v] (eval o X.env)
      let iv<-holding [v,ov] (eval i X.env)
      standAt pos
      holding [v,ov,iv] (setItem ov iv v)
      release [v,ov,iv] []):=by intro _;rfl):PG X (.Subscript o i pos) (gSub to ti t):=by
  intro AM s σ H v u Q I r h;rw[ha];refine aJ (gV (aS (ho AM s σ H _ I h) λov s1 ⟨x,H1,I1,r1,q1⟩=>?_));refine aJ (gV (aS (hi AM s1 σ H1 _ I1 q1) λiv s2 ⟨y,H2,I2,r2,q2⟩=>?_));refine aJ (Zb (aJ (gV (aS (hs AM s2 σ H2 x y v ov iv u _ I2 r1 r2 r q2) λ_ s3 ⟨H3,I3,q3⟩=>?_))));exact wpAny_release ⟨σ,H3,I3,q3⟩
def Yw (te:TE)(g:TG):TS:=λD σ H=>te σ H λx H1=>g x σ H1 D.nx
def Zz {g:TG}(he:PE X e te)(hg:PG X tg g)(hs:swapsWithSole [tg] e pos.line X.env=pure false:=by rfl)(hw:swappedStores [tg] e X.env=pure none:=by rfl)(h1:(assignEach [tg] X.env).map (·.2)=[assign tg X.env]:=by rfl):PS X (.Assign [tg] e pos) (Yw te g):=by
 intro AM s σ H D I h;refine wpAny_Assign_stores (aS (he AM s σ H _ I h) λv s1 ⟨x,H1,I1,r1,q1⟩=>?_) hs hw;rw[h1];exact aS (hg AM s1 σ H1 x v _ I1 r1 q1) λ_ s2 q=>q
def Ug (hN:X.N.Nodup)(hi:X.N[i]? =some x)(hx:gG X.env.scope x)(he:PE X e te)(hs:swapsWith e (some (.Name x pos')) pos.line X.env=pure false:=by rfl)(hf:X.fn x=true\/X.env.scope.names.lookup x=some .local:=by first|exact .inl rfl|exact .inr rfl|assumption):
  PS X (.Assign [.Name x pos'] e pos) (Yw te (Bw i)):=by
 intro AM s σ H D I h;refine wpAny_Assign_Name (aS (he AM s σ H _ I h) λv s1 ⟨y,H1,I1,r1,q1⟩=>?_) hs;exact zjO I1 hN hi hx r1 (λs2 I2=>⟨_,H1,I2,q1⟩) hf
def tAug (i:Nat)(te:TE)(ti:Zx):TS:=λD σ H=>∃x,σ[i]? =some (some x)/\te σ H λy H1=>ti x y H1 λz H2=>D.nx (σ.set i (some z)) H2
def Ka {op:Operator}(hN:X.N.Nodup)(hi:X.N[i]? =some x)(hx:gG X.env.scope x)(he:PE X e te)(ho:PIp X op ti)(hf:X.fn x=true\/X.env.scope.names.lookup x=some .local:=by first|exact .inl rfl|exact .inr rfl|assumption):
  PS X (.AugAssign (.Name x pos') op e pos) (tAug i te ti):=by
 intro AM s σ H D I h;obtain⟨v,e1,h⟩:=h;obtain⟨m,hn,hl⟩:=I.loc;have vis:dP X.env.scope x:=by rcases hx with k|k;exact .inl k;exact .inr (.inl k)
 obtain⟨u,r,l⟩:=hl i x v hi e1 vis;refine wpAny_AugAssign_Name ?_;have go:AG (model X.prog X.w) X.A (eval e X.env) (λw s₂=>AG (model X.prog X.w) X.A (inplaceOp op u w) (λr s₃=>AG (model X.prog X.w) X.A (storeName X.env x r) (λ_=>SP X AM D .next) X.xe s₃) X.xe s₂) X.xe s:=by
  refine aS (he AM s σ H _ I h) λw s1 ⟨y,H1,I1,r1,q1⟩=>?_
  refine aS (ho AM s1 σ H1 v y u w _ I1 r r1 q1) λz s2 ⟨zv,H2,I2,r2,q2⟩=>?_
  exact zjO I2 hN hi hx r2 (λs3 I3=>⟨_,H2,I3,q2⟩) hf
 rcases l with⟨hk,hm⟩|⟨hk,c,hc,hcell⟩
 ·exact wpAny_loadName_local I.ok.kind hk hn hm go
 ·rcases hk with hk|hk
  ·exact wpAny_loadName_cell I.ok.kind hk hc hcell go
  ·rcases hx with k|k
   ·have:X.env.scope.names.lookup x=some .free:=hk;rw[k]at this;cases this
   ·have:X.env.scope.names.lookup x=some .free:=hk;rw[k]at this;cases this
def ipI (f:Int->Int->Int):Zx:=λx y H Q=>∃i j,x= .int i/\y= .int j/\Q (.int (f i j)) H
def Ky:PIp X .Add (ipI λi j=>i+j):=by
 intro AM s σ H x y v u Q I r1 r2 h;obtain⟨i,j,e1,e2,q⟩:=h;subst e1;subst e2;obtain⟨t,rfl⟩:=r1;obtain⟨t',rfl⟩:=r2;exact iadd_int ⟨.int _,H,I.tok _,⟨_,rfl⟩,q⟩
end
section
variable {X:Cx}{pos:Pos}
def Mm (c:TT)(tb:TS):TS:=λD σ H=>∃W:Nat->St->Hp->Prop,(∃m,W m σ H)/\∀m σ H,W m σ H->
 c σ H λb H1=>if b=true then ∃N:St->Hp->Prop,(∀σ' H',N σ' H'->∃m',m'<m/\W m' σ' H')/\tb {D with nx:=N,ct:=N,bk:=D.nx} σ H1 else D.nx σ H1
def nS (hp:PassesOwn (model X.prog X.w) X.A X.env X.xe)(hc:PT X c tc)(hb:PSs X body tb):PS X (.While c body [] pos) (Mm tc tb):=by
 intro AM s σ H D I h;obtain⟨W,⟨m0,w0⟩,turn⟩:=h;refine wpAny_While (codeAny_whileLoop (λn s'=>∃σ' H',Inv X AM σ' H' s'/\W n σ' H') ?_ m0 ⟨σ,H,I,w0⟩);rintro n s1 ⟨σ1,H1,I1,w1⟩;refine Ew hp (aS (hc AM s1 σ1 H1 _ I1 (turn n σ1 H1 w1)) λb s2 ⟨H2,I2,q2⟩=>?_);cases b with
 |true=>
  obtain⟨N,hN,q2⟩:=q2;rw[if_pos rfl];refine Ew hp (aS (hb AM s2 σ1 H2 _ I2 q2) λf s3 q3=>?_);cases f with
  |next=>
   obtain⟨σ3,H3,I3,n3⟩:=q3;obtain⟨m',hm,w3⟩:=hN σ3 H3 n3;exact⟨m',hm,σ3,H3,I3,w3⟩
  |cont=>
   obtain⟨σ3,H3,I3,n3⟩:=q3;obtain⟨m',hm,w3⟩:=hN σ3 H3 n3;exact⟨m',hm,σ3,H3,I3,w3⟩
  |brk=>exact q3
  |ret v=>exact q3
 |false=>
  rw[if_neg fY];exact qaz ⟨σ1,H2,I2,q2⟩
end
structure It where
 go:Nat->Hp->Prop
 yld:Nat->Hp->V->Hp->Prop
 stop:Nat->Hp->Prop
def dC (X:Cx)(AM:AA (AD×Obj))(H:Hp)(b:AD):Prop:=
 H b=none/\b≠X.env.locals/\b∉X.fs/\(b∈X.ex\/X.s₀⁻¹<=b)/\(∀x c,X.env.cells.lookup x=some c->c≠b)/\∀p∈X.pn++AM,p.1≠b
def Inv.fpOk {H:Hp}(I:Inv X AM σ H s)(hb:s⁻¹<=b)(hn:H' b=none):dC X AM H' b:=by
 refine⟨hn,Nat.ne_of_gt (iJ I.lt hb),I.nofs hb,.inr (bO I.sz hb),λx c e z=>?_,λp hp z=>?_⟩
 ·obtain⟨v,q⟩:=I.cell x c e;exact AH (iJ q.lt (by rw[z];exact hb)) (mY _)
 ·exact AH (iJ (cK (I.pin p hp).1) (by rw[z];exact hb)) (mY _)
structure Turn (P:Program)(w:World)(K:W.Frag)(tg:Expr)(J:It)(fp:List Addr)(it:Addr)(tn:Nat->Heap->Prop):Prop where
 mem:it∈fp
 obj:∀i h,tn i h->∀b∈fp,∃o,h.get? b=some o/\∀v,o.data≠ .cell v
 keep:∀i h h',tn i h->(∀b∈fp,∀o,h.get? b=some o->h'.get? b=some o)->tn i h'
 item:∀(X:Cx),X.prog=P->X.w=w->X.K=K->X.calm=true->∀(i:Nat) (AM:List (Addr×Obj)) (s:Shared) (σ:St) (H:Hp) (E:Value->Shared->Prop),Inv X AM σ H s->(∀b∈fp,dC X AM H b)->tn i s.heap->J.go i H->
  wpAny (model P w) X.A (pyNext (.ref it)) (λr s1=>∃u,r=some u/\
   wpAny (model P w) X.A (letOwnedTupleGo tg (.ref it) u) (λ_ s2=>∃x H',Inv X AM σ H' s2/\RelV x u/\J.yld i H x H'/\tn (i+1) s2.heap/\∀b∈fp,H' b=none) E s1) E s
 done:∀(X:Cx),X.prog=P->X.w=w->X.K=K->X.calm=true->∀(i:Nat) (AM:List (Addr×Obj)) (s:Shared) (σ:St) (H:Hp) (E:Value->Shared->Prop),Inv X AM σ H s->(∀b∈fp,dC X AM H b)->tn i s.heap->J.stop i H->
  wpAny (model P w) X.A (pyNext (.ref it)) (λr s1=>r=none/\Inv X AM σ H s1) E s
 self:∀(A:Around) (i:Nat) (s:Shared) (Q:Value->Shared->Prop) (E:Value->Shared->Prop),tn i s.heap->Q (.ref it) s->wpAny (model P w) A (pyIter (.ref it)) Q E s
abbrev TI:=St->Hp->(It->Hp->Prop)->Prop
def PIE (X:Cx)(AM:AA (AD×Obj))(σ:St)(tg:AI)(R:It->Hp->Prop)(itv:AC)(s2:AE):Prop:=
 ∃(it:AD) (fp:AA AD) (tn:Nat->AK->Prop) (J:It) (H':Hp),itv= .ref it/\Inv X AM σ H' s2/\Turn X.prog X.w X.K tg J fp it tn/\tn 0 s2.heap/\(∀b∈fp,dC X AM H' b)/\R J H'
def PI (X:Cx)(tg iter:AI)(wi:TI):Prop:=
 ∀(AM:AA (AD×Obj)) (s:AE) (σ:St) (H:Hp) (R:It->Hp->Prop),Inv X AM σ H s->wi σ H R->
  AG (model X.prog X.w) X.A (eval iter X.env) (λv s1=>AG (model X.prog X.w) X.A (pyIter v) (PIE X AM σ tg R) X.xe s1) X.xe s
def kA {n:String}{vs:Array AC}{Q:Unit->AE->Prop}(ho:s.heap.get? it=some o)(hc:o.cls= .type n)(hd:o.data= .fields vs)(hn:["enumerate","zip","dict_itemiterator","dict_reverseitemiterator","odict_iterator","itertools.zip_longest","itertools.pairwise"].contains n=false)(hQ:Q () s):AG M A (letOwnedTupleGo tg (.ref it) u) Q E s:=by
  unfold letOwnedTupleGo;cases tg<;>first
    |exact qaF hQ
    | (cases u <;> first
        |exact qaF hQ
        | (refine aJ (wpAny_load ho ?_)
           rw[hc,hd];show AG M A (if(["enumerate","zip","dict_itemiterator","dict_reverseitemiterator","odict_iterator","itertools.zip_longest","itertools.pairwise"].contains n&&vs[0]? ==some (rawInt _))=true then _ else _) Q E s;rw[if_neg (by intro h;rw[hn,Bool.false_and]at h;cases h)];exact qaF hQ))
def Itl (K:AF)(a:AD):It:=
 ⟨λi H=>∃xs x,SqL K H a xs/\xs[i]? =some x,λi H x H'=>H'=H/\∀xs,SqL K H a xs->xs[i]? =some x,λi H=>∃xs,SqL K H a xs/\xs.length<=i⟩
def Itt (K:AF)(a:AD):It:=
 ⟨λi H=>∃xs x,SqT K H a xs/\xs[i]? =some x,λi H x H'=>H'=H/\∀xs,SqT K H a xs->xs[i]? =some x,λi H=>∃xs,SqT K H a xs/\xs.length<=i⟩
def Itr (lo:Int)(n:Nat):It:=⟨λi _=>i<n,λi H x H'=>H'=H/\x= .int (lo+i),λi _=>n<=i⟩
theorem zol {P:AJ}{K:AF}(a it:AD):Turn P w K tg (Itl K a) [it] it (λi h=>h.IsListIter it a i) where
 mem:=by simp
 obj:=λi h st b hb=>by
  have e:b=it:= ~~~hb
  subst e;obtain⟨o,e,c,d⟩:=st;exact⟨o,e,λv z=>by rw[d]at z;cases z⟩
 keep:=λi h h' st k=>st.at λo e=>k it (by simp) o e
 item:=by
  intro X hP hw hK hc i AM s σ H E I hf st hg;subst hP hw hK;obtain⟨xs,x,hq,hx⟩:=hg;obtain⟨its,rv,p,hz⟩:=I.list hq;obtain⟨u,hu,ru⟩:=rv.get hx;obtain⟨f0,f1,f2,f3,f4,f5⟩:=hf it (by simp);refine wpAny_pyNext_list_item st p.isList (x:=u) (~~~hu) λh' st' sb=>?_
  have I1:Inv X AM σ H {s with heap:=h'}:=I.turned (t':=s.toks) (λb o hb e=>(sb.2 b hb).trans e) f0 f1 f3 f4 f5;obtain⟨o,e,c,d⟩:=id st';exact⟨u,rfl,kA (s:={s with heap:=h'}) e c d (by decide) ⟨x,H,I1,ru,⟨rfl,λys hy=>by rw[I.list_inj hy hq];exact hx⟩,st',λb hb=>(hf b hb).1⟩⟩
 done:=by
  intro X hP hw hK hc i AM s σ H E I hf st hg;subst hP hw hK;obtain⟨xs,hq,hx⟩:=hg;obtain⟨its,rv,p,hz⟩:=I.list hq;obtain⟨f0,f1,f2,f3,f4,f5⟩:=hf it (by simp);have hl:=rv.length;exact wpAny_pyNext_list_end (I.ok.hd hc) st p.isList (by simp;lia) λh' eb=>⟨rfl,I.turned (t':=s.toks) (λb o hb e=>eb b o hb e) f0 f1 f3 f4 f5⟩
 self:=λ_ _ _ _ _ st h=>wpAny_pyIter_listiter st h
theorem zna {P:AJ}{K:AF}(a it:AD):Turn P w K tg (Itt K a) [it] it (λi h=>h.IsTupleIter it a i) where
 mem:=by simp
 obj:=λi h st b hb=>by
  have e:b=it:= ~~~hb
  subst e;obtain⟨o,e,c,d⟩:=st;exact⟨o,e,λv z=>by rw[d]at z;cases z⟩
 keep:=λi h h' st k=>st.at λo e=>k it (by simp) o e
 item:=by
  intro X hP hw hK hc i AM s σ H E I hf st hg;subst hP hw hK;obtain⟨xs,x,hq,hx⟩:=hg;obtain⟨its,rv,p,hz⟩:=I.tuple hq;obtain⟨u,hu,ru⟩:=rv.get hx;obtain⟨f0,f1,f2,f3,f4,f5⟩:=hf it (by simp);refine wpAny_pyNext_tuple_item st (show s.heap.IsTuple a its.toArray from p) (x:=u) (~~~hu) λh' st' sb=>?_
  have I1:Inv X AM σ H {s with heap:=h'}:=I.turned (t':=s.toks) (λb o hb e=>(sb.2 b hb).trans e) f0 f1 f3 f4 f5;obtain⟨o,e,c,d⟩:=id st';exact⟨u,rfl,kA (s:={s with heap:=h'}) e c d (by decide) ⟨x,H,I1,ru,⟨rfl,λys hy=>by rw[I.tuple_inj hy hq];exact hx⟩,st',λb hb=>(hf b hb).1⟩⟩
 done:=by
  intro X hP hw hK hc i AM s σ H E I hf st hg;subst hP hw hK;obtain⟨xs,hq,hx⟩:=hg;obtain⟨its,rv,p,hz⟩:=I.tuple hq;obtain⟨f0,f1,f2,f3,f4,f5⟩:=hf it (by simp);have hl:=rv.length;exact wpAny_pyNext_tuple_end (I.ok.hd hc) st (show s.heap.IsTuple a its.toArray from p) (by simp;lia) λh' eb=>⟨rfl,I.turned (t':=s.toks) (λb o hb e=>eb b o hb e) f0 f1 f3 f4 f5⟩
 self:=λ_ _ _ _ _ st h=>wpAny_pyIter_tupleiter st h
theorem zng {P:AJ}{w:World}{K:AF}(it:AD)(lo:Int)(n:Nat):Turn P w K tg (Itr lo n) [it] it (λi h=>IsRangeIter h it (lo+(i:Nat)*1) ((n:Int)-(i:Nat)) 1) where
 mem:=by simp
 obj:=λi h st b hb=>by
  have e:b=it:= ~~~hb
  subst e;exact⟨_,st,λv z=>by
   have z':Data.fields _=Data.cell v:=z;cases z'⟩
 keep:=λi h h' st k=>k it (by simp) _ st
 item:=by
  intro X hP hw hK hc i AM s σ H E I hf st hg;subst hP hw hK;obtain⟨f0,f1,f2,f3,f4,f5⟩:=hf it (by simp);have W:=Walks.range (prog:=X.prog) (w:=X.w) (I.ok.hd hc) it lo 1 n;refine W.item i s _ _ hg st λv h' tk hv st' kk=>?_
  obtain⟨t,rfl⟩:=hv;have I1:Inv X AM σ H {s with heap:=h',toks:=tk}:=I.turned (λb o hb e=>kk b o (~~~hb) e) f0 f1 f3 f4 f5;refine⟨_,rfl,kA (s:={s with heap:=h',toks:=tk}) (n:="range_iterator") st' rfl rfl (by decide) ⟨.int (lo+i),H,I1,⟨t,?_⟩,⟨rfl,rfl⟩,st',λb hb=>(hf b hb).1⟩⟩;rw[Int.mul_one]
 done:=by
  intro X hP hw hK hc i AM s σ H E I hf st hg;subst hP hw hK;obtain⟨f0,f1,f2,f3,f4,f5⟩:=hf it (by simp);exact wpAny_pyNext_range_end (I.ok.hd hc) st (by have:n<=i:=hg;lia) λh' eb=>⟨rfl,I.turned (t':=s.toks) (λb o hb e=>eb b o hb e) f0 f1 f3 f4 f5⟩
 self:=λ_ _ _ _ _ st h=>wpAny_pyIter_rangeiter st h
section
variable {X:Cx}{tg:AI}
theorem qD {R:It->Hp->Prop}{lo hi:Int}{t u v:Tok}{tk:Nat}(I:Inv X AM σ H s)(h1: -(2^62)<=lo)(h2:lo<2^62)(h3: -(2^62)<=hi)(h4:hi<2^62)(q:R (Itr lo (hi-lo).toNat) H):AG (model X.prog X.w) X.A (pyIter (.ref s⁻¹)) (PIE X AM σ tg R) E {s with heap:=s.heap.push {cls:= .type "range",data:= .fields #[.int lo t,.int hi u,.int 1 v]},toks:=tk}:=by
 refine wpAny_pyIter_range (IsRange.new ..) (small_one h1 h2 h3 h4) ?_;have I1:Inv X AM σ H {s with heap:=s.heap.push {cls:= .type "range",data:= .fields #[.int lo t,.int hi u,.int 1 v]},toks:=tk}:=I.kept λb o e=>bP _ e
 refine⟨(s.heap.push {cls:= .type "range",data:= .fields #[.int lo t,.int hi u,.int 1 v]}).objs.size,[(s.heap.push {cls:= .type "range",data:= .fields #[.int lo t,.int hi u,.int 1 v]}).objs.size],_,_,H,rfl,
  I1.kept (t':=tk) λb o e=>bP _ e,zng _ lo (hi-lo).toNat,?_,λb hb=>?_,q⟩
 ·have e1:lo+((0:Nat):Int)*1=lo:=by simp
  have e2:(((hi-lo).toNat:Nat):Int)-((0:Nat):Int)=Builtin.Range.rangeSize lo hi 1:=by rw[rangeSize_one];split<;>lia
  show IsRangeIter _ _ (lo+((0:Nat):Int)*1) ((((hi-lo).toNat:Nat):Int)-((0:Nat):Int)) 1;rw[e1,e2];exact dO _ rfl
 ·have e:b=(s.heap.push {cls:= .type "range",data:= .fields #[.int lo t,.int hi u,.int 1 v]}).objs.size:= ~~~hb
  subst e;exact I1.fpOk (aY _) (I1.hok.fresh (aY _))
def Tw (ta:TA):TI:=λσ H R=>ta σ H λvs H1=>∃j:Int,vs=[.int j]/\ -(2^62)<=j/\j<2^62/\R (Itr 0 j.toNat) H1
theorem zpT {a:AI}{ta:TA}{p pos:Pos}(hg:Gl X "range")(hm:X.mg "range"=none)(ha:PA X [a] ta)(hs:starEach [a] X.env=[(false,eval a X.env)]:=by rfl):PI X tg (.Call (.Name "range" p) [a] [] pos) (Tw ta):=by
 intro AM s σ H R I h;refine Call_ (Sx I hg hm boot_range (qaJ (aS (ha pos AM s σ H _ I h) λus s1 ⟨vs,H1,I1,r1,q1⟩=>?_) hs rfl));obtain⟨j,e,q1,q2,q⟩:=q1;subst e;cases r1 with
 |cons r rr=>
  cases rr;obtain⟨t,rfl⟩:=r;exact call_range_1 (qD I1 ∅ ∅ q1 q2 (~~~q))
def tFor (wi:TI)(g:TG)(tb:TS):TS:=λD σ H=>wi σ H λJ H1=>∃W:Nat->Nat->St->Hp->Prop,(∃m,W 0 m σ H1)/\∀i m σ H,W i m σ H->
 (J.stop i H/\D.nx σ H)\/(J.go i H/\∃N:St->Hp->Prop,(∀σ' H',N σ' H'->∃m',m'<m/\W (i+1) m' σ' H')/\∀x H',J.yld i H x H'->g x σ H' λσ2 H2=>tb {D with nx:=N,ct:=N,bk:=D.nx} σ2 H2)
def Wb (fp:AA AD)(h:AK):AA (AD×Obj):=fp.filterMap λb=>(h.get? b).map λo=>(b,o)
def zeT (hb:b∈fp)(e:h.get? b=some o):(b,o)∈Wb fp h:=qaj.mpr ⟨b,hb,by rw[e];rfl⟩
def zpJ (hp:p∈Wb fp h):p.1∈fp/\h.get? p.1=some p.2:=by
 obtain⟨b,hb,e⟩:=qaj.mp hp;cases q:h.get? b with
 |none=>rw[q]at e;cases e
 |some o=>
  rw[q]at e;have e':(b,o)=p:=Option.some.inj e;subst e';exact⟨hb,q⟩
def Inv.pinned (I:Inv X AM σ H s)(hf:∀b∈fp,dC X AM H b)(ho:∀b∈fp,∃o,s.heap.get? b=some o/\∀v,o.data≠ .cell v):Inv X (AM++Wb fp s.heap) σ H s:=
 I.pins_of λp hp=>(qar.mp hp).elim (λz=>I.pin p (hV _ z)) λz=>by
  obtain⟨hb,e⟩:=zpJ z;obtain⟨f0,f1,f2,_⟩:=hf p.1 hb;obtain⟨o,e',d⟩:=ho p.1 hb;rw[e]at e';cases e';exact⟨e,f0,f1,f2,d⟩
def Inv.unpinned {AM pl:AA (AD×Obj)}(I:Inv X (AM++pl) σ H s):Inv X AM σ H s:=I.pins_of λp hp=>I.pin p (hV _ (qas _ hp))
def Mi {g:TG}(hp:PassesOwn (model X.prog X.w) X.A X.env X.xe)(hc:X.calm=true)(hi:PI X tg iter wi)(hg:PG X tg g)(hb:PSs X body tb)(hs:∀x,foldedSetIterable iter X.env x=pure x:=by intro _;rfl):PS X (.For tg iter body [] pos) (tFor wi g tb):=by
  intro AM s σ H D I h;refine wpAny_For (aS (hi AM s σ H _ I h) λv s1 h1=>aS h1 λitv s2 h2=>?_) hs;obtain⟨it,fp,tn,J,H2,e,I2,T,st2,f2,W,⟨m0,w0⟩,turn⟩:=h2;subst e;have stat:∀{H':Hp},(∀b∈fp,H' b=none)->∀b∈fp,dC X AM H' b:=λhn b hb=>⟨hn b hb,(f2 b hb).2⟩
  refine codeAny_forLoop_any (λn s'=>∃i σ' H',Inv X AM σ' H' s'/\tn i s'.heap/\(∀b∈fp,H' b=none)/\W i n σ' H') ?_ m0 ⟨0,σ,H2,I2,st2,λb hb=>(f2 b hb).1,w0⟩;rintro n s3 ⟨i,σ3,H3,I3,st3,fr3,w3⟩;rcases turn i n σ3 H3 w3 with⟨stop,qn⟩|⟨go,N,hN,step⟩
  . refine Ew hp (aS (T.done X rfl rfl rfl hc i AM s3 σ3 H3 X.xe I3 (stat fr3) st3 stop) λr s4 ⟨hr,I4⟩=>?_)
    subst hr;exact qaz ⟨σ3,H3,I4,qn⟩
  . refine Ew hp (aS (T.item X rfl rfl rfl hc i AM s3 σ3 H3 X.xe I3 (stat fr3) st3 go) λr s4 ⟨u,hr,h4⟩=>?_)
    subst hr;refine Ew hp (aS h4 λ_ s5 ⟨x,H5,I5,r5,y5,st5,fr5⟩=>?_);have I5':=I5.pinned (stat fr5) (T.obj _ _ st5);refine Ew hp (aS (hg _ s5 σ3 H5 x u _ I5' r5 (step x H5 y5)) λ_ s6 ⟨σ6,H6,I6,q6⟩=>?_);refine Ew hp (aS (hb _ s6 σ6 H6 _ I6 q6) λf s7 q7=>?_);have again:∀{σ7:St} {H7:Hp},Inv X (AM++Wb fp s5.heap) σ7 H7 s7->N σ7 H7->∃m,m<n/\∃i σ' H',Inv X AM σ' H' s7/\tn i s7.heap/\(∀b∈fp,H' b=none)/\W i m σ' H':=λ{σ7 H7} I7 n7=>by
      obtain⟨m',hm,w7⟩:=hN σ7 H7 n7;refine⟨m',hm,i+1,σ7,H7,I7.unpinned,T.keep _ _ _ st5 λb hb o e=>(I7.pin (b,o) (hV _ (hV _ (zeT hb e)))).1,λb hb=>?_,w7⟩;obtain⟨o,e,d⟩:=T.obj _ _ st5 b hb;exact(I7.pin (b,o) (hV _ (hV _ (zeT hb e)))).2.1
    cases f with
    |next=>obtain⟨σ7,H7,I7,n7⟩:=q7;exact again I7 n7
    |cont=>obtain⟨σ7,H7,I7,n7⟩:=q7;exact again I7 n7
    |brk=>obtain⟨σ7,H7,I7,q7⟩:=q7;exact⟨σ7,H7,I7.unpinned,q7⟩
    |ret v=>obtain⟨x7,σ7,H7,I7,r7,q7⟩:=q7;exact⟨x7,σ7,H7,I7.unpinned,r7,q7⟩
end
abbrev R2:=V->V->Hp->VK->Prop
def OpR (X:Cx)(f:AC->AC->Sem AC)(r:R2):Prop:=
 ∀(AM:AA (AD×Obj)) (s:AE) (σ:St) (H:Hp) (x y:V) (v u:AC) (Q:VK),Inv X AM σ H s->RelV x v->RelV y u->r x y H Q->
  AG (model X.prog X.w) X.A (f v u) (EP X AM σ Q) X.xe s
def UnR (X:Cx)(f:AC->Sem AC)(r:V->Hp->VK->Prop):Prop:=
 ∀(AM:AA (AD×Obj)) (s:AE) (σ:St) (H:Hp) (x:V) (v:AC) (Q:VK),Inv X AM σ H s->RelV x v->r x H Q->
  AG (model X.prog X.w) X.A (f v) (EP X AM σ Q) X.xe s
def iA (X:Cx)(f:AC)(r:AA V->Hp->VK->Prop):Prop:=
 ∀(AM:AA (AD×Obj)) (s:AE) (σ:St) (H:Hp) (xs:AA V) (us:AA AC) (Q:VK),Inv X AM σ H s->Vals xs us->r xs H Q->
  AG (model X.prog X.w) X.A (call f us) (EP X AM σ Q) X.xe s
def TruR (X:Cx)(r:V->Hp->(Bool->Hp->Prop)->Prop):Prop:=
 ∀(AM:AA (AD×Obj)) (s:AE) (σ:St) (H:Hp) (x:V) (v:AC) (Q:Bool->Hp->Prop),Inv X AM σ H s->RelV x v->r x H Q->
  AG (model X.prog X.w) X.A (truthy v) (TP X AM σ Q) X.xe s
def Yz (r:R2)(ta tb:TE):TE:=λσ H Q=>ta σ H λx H1=>tb σ H1 λy H2=>r x y H2 Q
def tUn (r:V->Hp->VK->Prop)(ta:TE):TE:=λσ H Q=>ta σ H λx H1=>r x H1 Q
def rI (C:Int->Int->Prop)(g:Int->Int->V):R2:=λx y H Q=>∃i j,x= .int i/\y= .int j/\C i j/\Q (g i j) H
def Ak (g:Int->Int->V):R2:=λx y H Q=>∃i j,x= .int i/\y= .int j/\Q (g i j) H
def rU (g:Int->V):V->Hp->VK->Prop:=λx H Q=>∃i,x= .int i/\Q (g i) H
section
variable {X:Cx}{a b c:AI}{ta tb tc:TE}{pos:Pos}
def Ir (ha:PE X a ta)(hb:PE X b tb){R:V->V->Hp->Prop}(I:Inv X AM σ H s)(h:ta σ H λx H1=>tb σ H1 λy H2=>R x y H2){Q:AC->AE->Prop}{f:AC->AC->Sem AC}(hf:∀v u s2 x y H2,Inv X AM σ H2 s2->RelV x v->RelV y u->R x y H2->AG (model X.prog X.w) X.A (f v u) Q X.xe s2):
  AG (model X.prog X.w) X.A (eval a X.env) (λv s₁=>AG (model X.prog X.w) X.A (eval b X.env) (λu s₂=>AG (model X.prog X.w) X.A (f v u) Q X.xe s₂) X.xe s₁) X.xe s:=by
 refine aS (ha AM s σ H _ I h) λv s1 ⟨x,H1,I1,r1,q1⟩=>?_
 refine aS (hb AM s1 σ H1 _ I1 q1) λu s2 ⟨y,H2,I2,r2,q2⟩=>?_
 exact hf v u s2 x y H2 I2 r1 r2 q2
def Cb {op:Operator}{r:R2}(ho:OpR X (binaryOp op) r)(ha:PE X a ta)(hb:PE X b tb):PE X (.BinOp a op b pos) (Yz r ta tb):=by
 intro AM s σ H Q I h;exact wpAny_BinOp (Ir ha hb I h λv u s2 x y H2 I2 rx ry q=>ho AM s2 σ H2 x y v u Q I2 rx ry q)
def Wk {op:UnaryOp}(ho:UnR X (unaryOp op) r)(ha:PE X a ta):PE X (.UnaryOp op a pos) (tUn r ta):=by
 intro AM s σ H Q I h;exact UnaryOp_ (aS (ha AM s σ H _ I h) λv s1 ⟨x,H1,I1,r1,q1⟩=>ho AM s1 σ H1 x v Q I1 r1 q1)
def Df {C:Int->Int->Prop}(rule:∀(i j:Int) (t u:Tok) (s:AE) (Q:AC->AE->Prop) (E:AC->AE->Prop),C i j->Q (.int (g i j) s.toks) {s with toks:=s.toks+1}->AG (model X.prog X.w) X.A (f (.int i t) (.int j u)) Q E s):
  OpR X f (rI C λi j=> .int (g i j)):=by
 intro AM s σ H x y v u Q I rx ry h;obtain⟨i,j,rfl,rfl,hc,q⟩:=h;obtain⟨t,rfl⟩:=rx;obtain⟨t',rfl⟩:=ry;exact rule i j t t' s _ _ hc ⟨.int (g i j),H,I.tok _,⟨_,rfl⟩,q⟩
def Kr
  (rule:∀(i j:Int) (t u:Tok) (s:AE) (Q:AC->AE->Prop) (E:AC->AE->Prop),Q (.int (g i j) s.toks) {s with toks:=s.toks+1}->AG (model X.prog X.w) X.A (f (.int i t) (.int j u)) Q E s):
  OpR X f (Ak λi j=> .int (g i j)):=by
 intro AM s σ H x y v u Q I rx ry h;obtain⟨i,j,rfl,rfl,q⟩:=h;obtain⟨t,rfl⟩:=rx;obtain⟨t',rfl⟩:=ry;exact rule i j t t' s _ _ ⟨.int (g i j),H,I.tok _,⟨_,rfl⟩,q⟩
def Tb {g:Int->Int->Bool}(rule:∀(i j:Int) (t u:Tok) (s:AE) (Q:AC->AE->Prop) (E:AC->AE->Prop),Q (.bool (g i j)) s->AG (model X.prog X.w) X.A (f (.int i t) (.int j u)) Q E s):
  OpR X f (Ak λi j=> .bl (g i j)):=by
 intro AM s σ H x y v u Q I rx ry h;obtain⟨i,j,rfl,rfl,q⟩:=h;obtain⟨t,rfl⟩:=rx;obtain⟨t',rfl⟩:=ry;exact rule i j t t' s _ _ ⟨.bl (g i j),H,I,rfl,q⟩
def Uk (i j:Int):Prop:=0<=j/\j<=1000000/\i.natAbs<2^64
def zns (k:Nat):(0:Int)<=2^k:=by
 rw[two_pow_cast];exact Int.natCast_nonneg _
def op_add:OpR X (binaryOp .Add) (Ak λi j=> .int (i+j)):=Kr λ_ _ _ _ _ _ _ q=>add_int q
def Jd:OpR X (binaryOp .Sub) (Ak λi j=> .int (i-j)):=Kr λ_ _ _ _ _ _ _ q=>sub_int q
def Ic:OpR X (binaryOp .Mod) (rI (λ_ j=>0<j) λi j=> .int (i%j)):=Df λi j _ _ _ _ _ hc q=>by
 have h1:(0:Int)<j:=hc;exact mod_int' ∅ (by rw[Int.fmod_eq_emod_of_nonneg i ∅];exact q)
def Ad:OpR X (binaryOp .Mod) (rI (λ_ j=>j≠0) λi j=> .int (i.fmod j)):=Df λ_ _ _ _ _ _ _ hc q=>mod_int' hc q
def Gn:OpR X (binaryOp .Pow) (rI Uk λi j=> .int (i^j.toNat)):=Df λ_ _ _ _ _ _ _ hc q=>pow_int_small hc.1 hc.2.1 hc.2.2 q
def Lg:OpR X (binaryOp .LShift) (rI Uk λi j=> .int (i*2^j.toNat)):=Df λ_ _ _ _ _ _ _ hc q=>lshift_int_small hc.1 hc.2.1 hc.2.2 q
def He:OpR X (binaryOp .RShift) (rI (λ_ j=>0<=j) λi j=> .int (i/2^j.toNat)):=Df λi j _ _ _ _ _ hc q=>
 rshift_int hc (by rw[qaL i (zns _)];exact q)
def Jc:OpR X (binaryOp .BitAnd) (Ak λi j=> .int (Builtin.bitAnd i j)):=Kr λ_ _ _ _ _ _ _ q=>and_int q
def unI {f:AC->Sem AC}{g:Int->Int}(rule:∀(i:Int) (t:Tok) (s:AE) (Q:AC->AE->Prop) (E:AC->AE->Prop),Q (.int (g i) s.toks) {s with toks:=s.toks+1}->AG (model X.prog X.w) X.A (f (.int i t)) Q E s):
  UnR X f (rU λi=> .int (g i)):=by
 intro AM s σ H x v Q I rx h;obtain⟨i,rfl,q⟩:=h;obtain⟨t,rfl⟩:=rx;exact rule i t s _ _ ⟨.int (g i),H,I.tok _,⟨_,rfl⟩,q⟩
def Fj:UnR X (unaryOp .USub) (rU λi=> .int (-i)):=unI λ_ _ _ _ _ q=>neg_int q
end
section
variable {X:Cx}{a b c:AI}{ta tb tc:TE}{pos:Pos}
def pZ {Q:VK}{k:Bool}(I:Inv X AM σ H s)(q:Q (.bl k) H)(e:k=k'):EP X AM σ Q (.bool k') s:=by
 subst e;exact⟨.bl k,H,I,rfl,q⟩
def Ve:OpR X (compareOp .Lt) (Ak λi j=> .bl (decide (i<j))):=Tb λ_ _ _ _ _ _ _ q=>lt_int q
def Bo:OpR X (compareOp .GtE) (Ak λi j=> .bl (decide (j<=i))):=Tb λ_ _ _ _ _ _ _ q=>ge_int q
def znW:OpR X (compareOp .IsNot) (λx y H Q=>y= .non/\Q (.bl (!decide (x= .non))) H):=by
 intro AM s σ H x y v u Q I rx ry h;obtain⟨rfl,q⟩:=h;cases ry;refine isnot_none_gen (pZ I q ?_);cases x<;>first
  |(cases rx;rfl)
  |(obtain⟨t,rfl⟩:=rx;rfl)
def OpR.or {r:R2}(h:OpR X f r)(h':OpR X f r'):OpR X f (λx y H Q=>r x y H Q\/r' x y H Q):=by
 intro AM s σ H x y v u Q I rx ry q;rcases q with q|q
 ·exact h AM s σ H x y v u Q I rx ry q
 ·exact h' AM s σ H x y v u Q I rx ry q
def Oj (b:AI)(h:op≠ .In:=by decide)(h2:op≠ .NotIn:=by decide):behindInMarks op b=false:=by
 have e1:(op==CmpOp.In)=false:=by cases op<;>first|rfl|exact AH rfl h
 have e2:(op==CmpOp.NotIn)=false:=by cases op<;>first|rfl|exact AH rfl h2
 cases b<;>simp[behindInMarks,e1,e2]
def vC {r:R2}(ho:OpR X (compareOp op) r)(ha:PE X a ta)(hb:PE X b tb)(hm:behindInMarks op b=false):PE X (.Compare a [op] [b] pos) (Yz r ta tb):=by
 intro AM s σ H Q I h;exact wpAny_Compare1 (Ir ha hb I h λv u s2 x y H2 I2 rx ry q=>ho AM s2 σ H2 x y v u Q I2 rx ry q) hm
def Ue (t:TE):TT:=λσ H Q=>t σ H λx H'=>∃k,x= .bl k/\Q k H'
def zof {r:R2}(ho:OpR X (compareOp op) r)(ha:PE X a ta)(hb:PE X b tb)(hm:behindInMarks op b=false):PT X (.Compare a [op] [b] pos) (Ue (Yz r ta tb)):=by
 intro AM s σ H Q I h;refine wpAny_isTrue_Compare1 (aS (ha AM s σ H _ I h) λv s1 ⟨x,H1,I1,r1,q1⟩=>aS (hb AM s1 σ H1 _ I1 q1) λu s2 ⟨y,H2,I2,r2,q2⟩=>
  aS (ho AM s2 σ H2 x y v u _ I2 r1 r2 q2) λc s3 ⟨z,H3,I3,r3,k,e,q3⟩=>?_) hm
 subst e;cases r3;exact Nf ⟨H3,I3,q3⟩
def Qh (K:AF)(x:V)(H:Hp)(k:Bool):Prop:=
 match x with
 | .non=>k=false
 | .bl b=>k=b
 | .int i=>k=(i !=0)
 | .str y=>y.length<=sizeLine/\k=((y.length:Int) !=0)
 | .byt y=>y.size<=sizeLine/\k=((y.size:Int) !=0)
 | .ref p=>(∃xs,SqL K H p xs/\k=!xs.isEmpty)\/(∃xs,SqT K H p xs/\k=!xs.isEmpty)\/∃kvs,H p=some (.dK kvs)/\k=!kvs.isEmpty
 |_=>False
theorem zm2 {κ:Type}{kvs:AA (κ×V)}{vs:AA (κ×AC)}(r:KV kvs vs):(!vs.isEmpty)=!kvs.isEmpty:=by
 cases r<;>rfl
def ziW (r:Vals xs its):(!its.toArray.isEmpty)=!xs.isEmpty:=by
 cases r<;>simp
def Fb:(sizeLine:Nat)<2^63:=by rw[fX];decide
theorem Nd:TruR X (λx H Q=>∃k,Qh X.K x H k/\Q k H):=by
 intro AM s σ H x v Q I rx h;obtain⟨k,e,q⟩:=h;have hl:=Fb;have hs:sizeLine=16777216:=fX;cases x with
 |non=>
  cases rx;have e':k=false:=e;subst e';exact truthy_none ⟨H,I,q⟩
 |bl b=>
  cases rx;have e':k=b:=e;subst e';exact Nf ⟨H,I,q⟩
 |int i=>
  obtain⟨t,rfl⟩:=rx;have e':k=(i !=0):=e;subst e';exact PySem.P.truthy_int ⟨H,I,q⟩
 |str y=>
  obtain⟨t,rfl⟩:=rx;obtain⟨hy,e'⟩:y.length<=sizeLine/\k=((y.length:Int) !=0):=e;subst e';exact PySem.P.truthy_str ∅ ⟨H,I.tok _,q⟩
 |byt y=>
  obtain⟨t,rfl⟩:=rx;obtain⟨hy,e'⟩:y.size<=sizeLine/\k=((y.size:Int) !=0):=e;subst e';exact W.truthy_bytes ∅ ⟨H,I.tok _,q⟩
 |ref p=>
  cases rx;have e':(∃xs,SqL X.K H p xs/\k=!xs.isEmpty)\/(∃xs,SqT X.K H p xs/\k=!xs.isEmpty)\/∃kvs,H p=some (.dK kvs)/\k=!kvs.isEmpty:=e;rcases e' with⟨xs,hx,e'⟩|⟨xs,hx,e'⟩|⟨kvs,hx,e'⟩
  ·subst e';obtain⟨its,r,pl,hz⟩:=I.list hx;have AO:=r.length;exact wpAny_truthy_list pl.isList (by simp only[bS];lia) ⟨H,I.tok _,by rw[ziW r];exact q⟩
  ·subst e';obtain⟨its,r,pl,hz⟩:=I.tuple hx;have AO:=r.length;exact truthy_tuple pl (by simp only[bS];lia) ⟨H,I.tok _,by rw[ziW r];exact q⟩
  ·subst e';obtain⟨hz,hS,vs,r,m⟩:kvs.length<=sizeLine/\(p==sysModules)=false/\∃vs,KV kvs vs/\s.heap.DictOf (kD X.prog X.w) p vs:=I.hok p _ hx;have AO:kvs.length=vs.length:=Paired.length r;exact wpAny_truthy_dict hS m ∅ ⟨H,I.tok _,by rw[zm2 r];exact q⟩
 |_=>exact(show False from e).elim
def lZ (ha:PE X a ta)(he:∀whole,isTrue a X.env whole=(do let v<-whole;standAt a.pos;holding [v] (truthy v))):
  PT X a (λσ H Q=>ta σ H λx H'=>∃k,Qh X.K x H' k/\Q k H'):=by
 intro AM s σ H Q I h;exact isTrue_plain (aS (ha AM s σ H _ I h) λv s1 ⟨x,H1,I1,r1,q1⟩=>Nd AM s1 σ H1 x v Q I1 r1 q1) (he _)
def zm5:OpR X (binaryOp .Add) (λx y H Q=>∃i j,x= .str i/\y= .str j/\i.length+j.length<=sizeLine/\Q (.str (i++j)) H):=by
 intro AM s σ H x y v u Q I rx ry h;obtain⟨i,j,rfl,rfl,hz,q⟩:=h;obtain⟨t,rfl⟩:=rx;obtain⟨t',rfl⟩:=ry;exact add_str (λt' tk=>⟨.str (i++j),H,I.tok _,⟨_,rfl⟩,q⟩) hz
def oU {x:V}(r:Vals [x] us):∃u,us=[u]/\RelV x u:=by
 cases r with
 |cons r1 r2=>cases r2;exact⟨_,rfl,r1⟩
def mI {x y:V}(r:Vals [x,y] us):∃u w',us=[u,w']/\RelV x u/\RelV y w':=by
 cases r with
 |cons r1 r2=>
  cases r2 with
  |cons r3 r4=>cases r4;exact⟨_,_,rfl,r1,r3⟩
def nO:iA X (.builtin "abs") (λxs H Q=>∃i,xs=[.int i]/\Q (.int (if i<0 then-i else i)) H):=by
 intro AM s σ H xs us Q I r h;obtain⟨i,rfl,q⟩:=h;obtain⟨u,rfl,t,rfl⟩:=oU r;exact call_abs_int λu tk=>⟨.int (if i<0 then-i else i),H,I.tok _,⟨_,rfl⟩,q⟩
def zoS (hc:X.calm=true):iA X (.builtin "max") (λxs H Q=>∃i j,xs=[.int i,.int j]/\Q (.int (if j>i then j else i)) H):=by
 intro AM s σ H xs us Q I r h;obtain⟨i,j,rfl,q⟩:=h;obtain⟨u,w',rfl,⟨t,rfl⟩,⟨t',rfl⟩⟩:=mI r;refine max_two_ints (I.ok.hd hc) λh' tk k=>⟨_,H,I.kept k,?_,q⟩
 by_cases hj:j>i
 ·rw[if_pos hj,if_pos hj];exact⟨_,rfl⟩
 ·rw[if_neg hj,if_neg hj];exact⟨_,rfl⟩
def znT (hc:X.calm=true):iA X (.builtin "min") (λxs H Q=>∃i j,xs=[.int i,.int j]/\Q (.int (if j<i then j else i)) H):=by
 intro AM s σ H xs us Q I r h;obtain⟨i,j,rfl,q⟩:=h;obtain⟨u,w',rfl,⟨t,rfl⟩,⟨t',rfl⟩⟩:=mI r;refine min_two_ints (I.ok.hd hc) λh' tk k=>⟨_,H,I.kept k,?_,q⟩
 by_cases hj:j<i
 ·rw[if_pos hj,if_pos hj];exact⟨_,rfl⟩
 ·rw[if_neg hj,if_neg hj];exact⟨_,rfl⟩
end
structure ObjM (h:Heap)(x dx C:Addr)(mA:Str->Option Value):Prop where
 obj:h.get? x=some (W.instObj C dx)
 ns:h.Ns1 dx mA
 ne:dx≠x
def zpK (n:h.Ns1 dx mA):∃od,h.get? dx=some od/\∀name,W.lookIn name od=some (mA name):=by
 obtain⟨o,es,ep,ho,hd,hk,_,hm⟩:=n;refine⟨o,ho,λname=>?_⟩;have e:=hm name;unfold nsFind findBy at e;rw[<-Array.find?_toList]at e;unfold W.lookIn;rw[hd];dsimp only
 split
 ·rename_i y q;rw[q]at e;exact congrArg some e
 ·rename_i q;rw[q]at e;have a:es.toList.any (·.refKey)=false:=by
   rw[qaO];intro y hy;obtain⟨z,t,hkey⟩:=hk y (qaP.mp hy);simp[DictEntry.refKey,hkey]
  have a':¬es.toList.any (·.refKey)=true:=by rw[a];exact fY
  rw[if_neg a'];exact congrArg some e
def ObjM.look {x dx C:AD}(I:ObjM h x dx C mA):∃od,W.InstAt h x (W.instObj C dx) C (some od)/\∀name,W.lookIn name od=some (mA name):=
 let⟨od,ho,hl⟩:=zpK I.ns
 ⟨od,⟨I.obj,rfl,rfl,ho⟩,hl⟩
section
variable {prog:AJ}{w:World}{A:Around}{E:AC->AE->Prop}{s:AE}{K:AF}{x dx C f:AD}{mA:Str->AB AC}{name:Str}{v:AC}
def zH (X:K.In s.heap)(I:ObjM s.heap x dx C mA)(hg:W.plainGet K C name=true)(hh:W.hasDictIn K C=true)(ha:W.findIn K (.ref C) name=some none)(hv:mA name=some v)(hv':W.handedIn v=true)(h:Q v {s with toks:=s.toks+1}):
  AG (model prog w) A (getAttr (.ref x) name expr) Q E s:=by
 obtain⟨od,J,hl⟩:=I.look;exact W.get_value X J (W.plainGet_of hg).1 (W.findObj_own hh ha rfl (by rw[hl,hv])) hv' h
def nQ {Q:AC×AA AC->AE->Prop}(X:K.In s.heap)(I:ObjM s.heap x dx C mA)(hg:W.plainGet K C name=true)(hf:W.findIn K (.ref C) name=some (some (.ref f)))(ht:W.isFn K (.ref f)=true)(hv:mA name=none)(h:Q (.ref f,[.ref x]) s):
  AG (model prog w) A (getMethod (.ref x) name pl) Q E s:=by
 obtain⟨od,J,hl⟩:=I.look;exact W.method_fn X J (W.plainGet_of hg).1 (W.plainGet_of hg).2 hf (qaQ.mp ht) (by show(W.lookIn name od).map (·.isSome)=some false;rw[hl,hv];rfl) h
def xH {Q:Unit->AE->Prop}(X:K.In s.heap)(I:ObjM s.heap x dx C mA)(hs:W.findIn K (.ref C) "__setattr__"=some (some (.builtin "object.__setattr__")))(hp:W.plainOver K C=true)(ht:W.takerIn K C name=some none)(hh:W.hasDictIn K C=true)(hw:PySem.Within mA ns)(hsz:ns.length<=sizeLine)(h:∀h',ObjM h' x dx C (λy=>if y=name then some v else mA y)->Heap.SameBut dx s.heap h'->Q () {s with heap:=h',toks:=s.toks+2}):
  AG (model prog w) A (setAttr (.ref x) name v) Q E s:=by
 obtain⟨od,J,hl⟩:=I.look;refine W.set_plain X J hs (W.osa_open (s:={s with toks:=s.toks+1}) (r:=none) X J hp ht λb=>?_);obtain⟨cd,hc,hd'⟩:=W.any_some hh;have hx:s.heap.get? x=some ⟨.ref C,some dx,.plain,#[]⟩:=I.obj;refine aJ (qaF (aJ (aJ (wpAny_loadPart hx (aJ (W.Looks.here (s:={s with toks:=s.toks+1}) (W.looks_clsIn X hc) ?_))))));rw[hd'];refine qaF (a:=some dx) (aJ (qaF (aJ ?_)));refine wpAny_nsSet1 (s:={s with toks:=s.toks+1}) I.ns λh' hn2 hs2=>?_
 obtain⟨oD,esD,epD,hoD,hdD,hcD⟩:=hn2.count (PySem.Within.cons name v hw);refine aJ (wpAny_lookBehind hoD (by rw[hdD];exact pastItsLine_dict (bO hcD (by rw[eS];lia))) ?_);exact qaF (h _ ⟨(hs2.2 _ (Ne.symm I.ne)).trans I.obj,hn2,I.ne⟩ hs2)
def mL {R:Result->AE->Prop}{vs:AA AC}(X:K.In s.heap)(hm:W.makesIn K C=true)(hi:W.findIn K (.ref C) "__init__"=some (some (.ref f)))(hf:W.typeIn K (.ref f)=some (.type "function"))(h : codeAny (model prog w) (A.under (.builtin "type.__call__" ⟨.ref C :: vs, kw⟩)) (.call (.ref f) ⟨.ref (s⁻¹ + 1) :: vs, kw⟩) (W.InitBack (s⁻¹ + 1) R)
   {s with heap:=(s.heap.push W.emptyDict).push (W.instObj C s⁻¹)}):
  codeAny (model prog w) A (.call (.ref C) ⟨vs,kw⟩) R s:=by
 obtain⟨hh,g,d,t,os⟩:=s;exact W.make_core (W.makes_of X hm) (W.looks_findIn X hi) (λself=>W.bind_fn X self hf) (.inl rfl) h
end
def bQ (f:Str)(v:V):AA (Str×V)->AA (Str×V)
 |[]=>[(f,v)]
 |(g,x)::r=>if g=f then(g,v)::r else(g,x)::bQ f v r
def ziw (f g:Str)(v:V):∀fs:AA (Str×V),(bQ f v fs).lookup g=if g=f then some v else fs.lookup g
 |[]=>by
  show List.lookup g [(f,v)]=_
  by_cases h:g=f
  ·have hb:(g==f)=true:=qaQ.mpr h;simp only[List.lookup,hb,if_pos h]
  ·have hb:(g==f)=false:=qab.mpr h;simp only[List.lookup,hb,if_neg h]
 |(k,x)::r=>by
  have ih:=ziw f g v r;rw[show bQ f v ((k,x)::r)=(if k=f then(k,v)::r else(k,x)::bQ f v r)from rfl]
  by_cases hk:k=f
  ·rw[if_pos hk]
   by_cases h:g=k
   ·have hb:(g==k)=true:=qaQ.mpr h;simp only[List.lookup,hb,if_pos (h.trans hk)]
   ·have hb:(g==k)=false:=qab.mpr h;simp only[List.lookup,hb,if_neg (λe:g=f=>h (e.trans hk.symm))]
  ·rw[if_neg hk]
   by_cases h:g=k
   ·have hb:(g==k)=true:=qaQ.mpr h;simp only[List.lookup,hb,if_neg (λe:g=f=>hk (h.symm.trans e))]
   ·have hb:(g==k)=false:=qab.mpr h;simp only[List.lookup,hb];exact ih
def zhS (f:Str)(v:V):∀fs:AA (Str×V),f∈(bQ f v fs).map (·.1)/\∀g,g∈fs.map (·.1)->g∈(bQ f v fs).map (·.1)
 |[]=>⟨by simp[bQ],λg h=>by simp at h⟩
 |(k,x)::r=>by
  obtain⟨i1,i2⟩:=zhS f v r;rw[show bQ f v ((k,x)::r)=(if k=f then(k,v)::r else(k,x)::bQ f v r)from rfl]
  by_cases hk:k=f
  ·rw[if_pos hk];subst hk;exact⟨by simp,λg h=> ~~~h⟩
  ·rw[if_neg hk];refine⟨?_,λg h=>?_⟩
   ·rw[eV];exact gE _ i1
   ·rw[eV]at h ⊢;rcases qaq.mp h with e|e
    ·exact qaq.mpr (.inl e)
    ·exact gE _ (i2 g e)
def zie (f:Str)(v:V):∀fs:AA (Str×V),(bQ f v fs).length<=fs.length+1
 |[]=>by simp[bQ]
 |(k,x)::r=>by
  have ih:=zie f v r;rw[show bQ f v ((k,x)::r)=(if k=f then(k,v)::r else(k,x)::bQ f v r)from rfl]
  by_cases hk:k=f
  ·rw[if_pos hk,eS,eS];lia
  ·rw[if_neg hk,eS,eS];lia
def RelO.some_of {o:AB AC}(r:RelO (some v) o):∃u,o=some u/\RelV v u:=by
 cases o with
 |none=>exact(show False from r).elim
 |some u=>exact⟨u,rfl,r⟩
def RelO.none_of {o:AB AC}(r:RelO none o):o=none:=by
 cases o with
 |none=>rfl
 |some u=>exact(show False from r).elim
def zoR (r:RelV v u):W.handedIn u=true:=by
 cases v with
 |non=>cases(show u=Value.none from r);rfl
 |bl b=>cases(show u=Value.bool b from r);rfl
 |int i=>obtain⟨t,e⟩:=(show ∃t,u=Value.int i t from r);cases e;rfl
 |str x=>obtain⟨t,e⟩:=(show ∃t,u=Value.str x t from r);cases e;rfl
 |byt b=>obtain⟨t,e⟩:=(show ∃t,u=Value.bytes b t from r);cases e;rfl
 |flt b=>obtain⟨t,e⟩:=(show ∃t,u=Value.float b t from r);cases e;rfl
 |ref a=>cases(show u=Value.ref a from r);rfl
 |ty n=>cases(show u=Value.type n from r);rfl
section
variable {P:AJ}{w:World}{H H':Hp}{h h':AK}{a C dx:AD}{fs fs':AA (Str×V)}
def zlp (hok:HOk P w H h)(e:H a=some (.ins C dx fs)):∃mA,ObjM h a dx C mA/\(∀f,RelO (fs.lookup f) (mA f))/\PySem.Within mA (fs.map (·.1))/\fs.length<=1000/\H dx=some (.own a):=by
 obtain⟨d,z,ne,ob,mA,n,r,q⟩:=(show ObjOk P w H h a (.ins C dx fs)from hok a _ e);exact⟨mA,⟨ob,n,ne⟩,r,q,z,d⟩
end
structure Cls (K:W.Frag)(C:Addr):Prop where
 pg:W.plainGet K C Str.empty=true
 hd:W.hasDictIn K C=true
 po:W.plainOver K C=true
 sa:W.findIn K (.ref C) "__setattr__"=some (some (.builtin "object.__setattr__"))
theorem Cls.get {K:AF}(c:Cls K C)(f:Str):W.plainGet K C f=true:=c.pg
def NoAttr (K:AF)(C:AD)(f:Str):Prop:=W.findIn K (.ref C) f=some none
theorem NoAttr.taker {K:AF}{f:Str}(n:NoAttr K C f):W.takerIn K C f=some none:=by
 unfold W.takerIn;rw[show W.findIn K (.ref C) f=some none from n]
 rfl
structure Meth (K:W.Frag)(C:Addr)(m:Str)(f:Addr):Prop where
 at_:W.findIn K (.ref C) m=some (some (.ref f))
 fn:W.isFn K (.ref f)=true
 kp:W.keepIn K (.ref f)=true
section
variable {X:Cx}{AM:AA (AD×Obj)}{σ:St}{H:Hp}{s:AE}{a C dx:AD}{fs:AA (Str×V)}{f:Str}{v:V}{A:Around}{E:AC->AE->Prop}
def znr (I:Inv X AM σ H s)(e:H a=some (.ins C dx fs))(c:Cls X.K C)(n:NoAttr X.K C f)(l:fs.lookup f=some v)(h:∀u s',Inv X AM σ H s'->RelV v u->Q u s'):AG (model X.prog X.w) A (getAttr (.ref a) f b) Q E s:=by
 obtain⟨mA,O,r,_,_,_⟩:=zlp I.hok e;obtain⟨u,hu,ru⟩:=RelO.some_of (v:=v) (o:=mA f) (by rw[<-l];exact r f);exact zH I.kIn O (c.get f) c.hd n hu (zoR ru) (h u _ (I.tok _) ru)
def ziS {g:AD}{Q:AC×AA AC->AE->Prop}(I:Inv X AM σ H s)(e:H a=some (.ins C dx fs))(c:Cls X.K C)(k:Meth X.K C m g)(l:fs.lookup m=none)(h:Q (.ref g,[.ref a]) s):AG (model X.prog X.w) A (getMethod (.ref a) m pl) Q E s:=by
 obtain⟨mA,O,r,_,_,_⟩:=zlp I.hok e;have hn:mA m=none:=RelO.none_of (by rw[<-l];exact r m);exact nQ I.kIn O (c.get m) k.at_ k.fn hn h
def zni {Q:Unit->AE->Prop}(I:Inv X AM σ H s)(e:H a=some (.ins C dx fs))(c:Cls X.K C)(n:NoAttr X.K C f)(hl:fs.length<1000)(ry:RelV y u)(h:∀s',Inv X AM σ (upd H a (.ins C dx (bQ f y fs))) s'->Q () s'):AG (model X.prog X.w) A (setAttr (.ref a) f u) Q E s:=by
 obtain⟨mA,O,r,wi,_,ho⟩:=zlp I.hok e;have hz:(fs.map (·.1)).length<=sizeLine:=by rw[cO,fX];lia
 refine xH I.kIn O c.sa c.po n.taker c.hd wi hz λh' O' sb=>h _ ?_
 have hd:∃o,h'.get? dx=some o:=let⟨o,_,_,e',_⟩:=O'.ns;⟨o,e'⟩;refine I.write (x:=a) (e:=dx) (by rw[e];exact True.intro) (.inr ho) (λb q hb z=>(sb.2 b hb).trans z) hd ?_;refine⟨by rw[aW O.ne];exact ho,?_,O.ne,O'.obj,_,O'.ns,λg=>?_,λg hg=>?_⟩
 ·have:=zie f y fs;lia
 ·show RelO ((bQ f y fs).lookup g) (if g=f then some u else mA g);rw[ziw]
  by_cases q:g=f
  ·rw[if_pos q,if_pos q];exact ry
  ·rw[if_neg q,if_neg q];exact r g
 ·by_cases q:g=f
  ·rw[q];exact(zhS f y fs).1
  ·refine(zhS f y fs).2 g (wi g λz=>hg ?_);show(if g=f then some u else mA g)=none;rw[if_neg q];exact z
def Inv.made (I:Inv X AM σ H s):Inv X AM σ (upd (upd H s⁻¹ (.own (s⁻¹+1))) (s⁻¹+1) (.ins C s⁻¹ []))
  {s with heap:=(s.heap.push W.emptyDict).push (W.instObj C s⁻¹)}:=by
 have e1:(s.heap.push W.emptyDict).get? s⁻¹=some W.emptyDict:=dO s.heap rfl;have e2:((s.heap.push W.emptyDict).push (W.instObj C s⁻¹)).get? (s⁻¹+1)=some (W.instObj C s⁻¹):=by
  have:=dO (s.heap.push W.emptyDict) (o:=W.instObj C s⁻¹) rfl;rwa[lX]at this
 have e3:(s.heap.push W.emptyDict).Ns s⁻¹ (λ_=>none):=⟨W.emptyDict,#[],_,e1,rfl,(λe he=>AH he (by simp)),λ_=>rfl⟩;have I1:=I.laid (a:=s⁻¹) (o:= .own (s⁻¹+1)) (h':=s.heap.push W.emptyDict) (t':=s.toks) (λb u q=>bP _ q) (aY _) ⟨_,e1⟩;refine I1.laid (a:=s⁻¹+1) (o:= .ins C s⁻¹ []) (t':=s.toks) (λb u q=>bP _ q) (Nat.le_of_eq (lX _ _)) ?_;have ne:s⁻¹≠s⁻¹+1:=eT (Ot _);refine⟨by rw[aW ne,cW],gK _,ne,e2,λ_=>none,(Heap.Ns1.of_empty e3).at λo q=>bP _ q,λ_=>True.intro,λy hy=>AH rfl hy⟩
def vU {f:Str}(hb:attributeBase e f env (eval e env)=eval e env)(h:AG (model prog w) A (eval e env) (λo s₁=>AG (model prog w) A (getAttr o f true) Q E s₁) E s):AG (model prog w) A (eval (.Attribute e f pos) env) Q E s:=
 Attribute_any_ h (by rw[arm_eval_Attribute,hb])
end
def tFld (K:AF)(ta:TE)(f:Str):TE:=λσ H Q=>ta σ H λx H1=>∃a C dx fs v,x= .ref a/\H1 a=some (.ins C dx fs)/\Cls K C/\NoAttr K C f/\fs.lookup f=some v/\Q v H1
def sFld (K:AF)(ta tv:TE)(f:Str):TS:=λD σ H=>tv σ H λy H1=>ta σ H1 λx H2=>∃a C dx fs,x= .ref a/\H2 a=some (.ins C dx fs)/\Cls K C/\NoAttr K C f/\fs.length<1000/\
 D.nx σ (upd H2 a (.ins C dx (bQ f y fs)))
section
variable {X:Cx}{o e value:AI}{f:Str}{pos pos' tpos:Pos}{ta tv:TE}
def Zi (he:PE X e ta)(hb:attributeBase e f X.env (eval e X.env)=eval e X.env):PE X (.Attribute e f pos) (tFld X.K ta f):=by
 intro AM s σ H Q I h;refine vU hb (aS (he AM s σ H _ I h) λu s1 ⟨x,H1,I1,rx,a,C,dx,fs,v,ex,ea,c,n,l,q⟩=>?_);subst ex;obtain rfl:u=Value.ref a:=rx;exact znr I1 ea c n l λu' s2 I2 ru=>⟨v,H1,I2,ru,q⟩
def zn7 (ha:PE X o ta)(hv:PE X value tv)(hs:swapsWith value (some (.Attribute o f pos')) pos.line X.env=pure false):PS X (.Assign [.Attribute o f pos'] value pos) (sFld X.K ta tv f):=by
 intro AM s σ H D I h;refine plainObj_wpAny_Assign_Attribute (aS (hv AM s σ H _ I h) λu s1 ⟨y,H1,I1,ry,q⟩=>aS (ha AM s1 σ H1 _ I1 q) λov s2 ⟨x,H2,I2,rx,a,C,dx,fs,ex,ea,c,n,l,q2⟩=>?_) hs;subst ex;obtain rfl:ov=Value.ref a:=rx;exact zni I2 ea c n l ry λs3 I3=>⟨σ,_,I3,q2⟩
end
structure Room (k:Nat)(A:Around):Prop where
 hd:A.handled=none
 dp:A.depth+3*k+5<recursionLimit
 un:A.units+16*k+200<cLine
 gd:A.guards=some []
def Room.mono (r:Room k A)(h:j<=k):Room j A:=⟨r.hd,by have:=r.dp;lia,by have:=r.un;lia,r.gd⟩
theorem Room.deeper (r:Room (k+1) A)(env:Env):Room k (A.deeper env):=
 ⟨r.hd,by have:=r.dp;show A.depth+1+3*k+5<_;lia,by have:=r.un;show A.units+3+16*k+200<_;lia,r.gd⟩
def zm6 {C:AD}:(A.under (.builtin "type.__call__" ⟨.ref C::us,kw⟩)).depth=A.depth+1:=by
 first|rfl|simp[Around.under,Code.weight,Code.isCreation,Code.isGuard,Code.isCaller,Code.frames,Code.isFrame,guardIds]
def zmZ {C:AD}:(A.under (.builtin "type.__call__" ⟨.ref C::us,kw⟩)).units=A.units+1:=by
 first|rfl|simp[Around.under,Code.cUnits,Code.frames,Code.isFrame]
def zk8 {C:AD}:(A.under (.builtin "type.__call__" ⟨.ref C::us,kw⟩)).guards=A.guards:=by
 first|rfl|simp[Around.under,Code.guards,Code.isGuard,guardIds,pushGuards]
def Room.make (r:Room (k+1) A)(C:AD)(us:AA AC)(kw:AA (Str×AC)):Room k (A.under (.builtin "type.__call__" ⟨.ref C::us,kw⟩)):=
 ⟨r.hd,by have:=r.dp;rw[zm6];lia,by have:=r.un;rw[zmZ];lia,by rw[zk8];exact r.gd⟩
def Room.depth (r:Room k A):A.depth<recursionLimit:=by have:=r.dp;lia
def Room.units (r:Room k A):A.units+64<cLine:=by have:=r.un;lia
def Xh:TA:=λ_ H Q=>Q [] H
def Cd (ta:TE)(tr:TA):TA:=λσ H Q=>ta σ H λx H1=>tr σ H1 λxs H2=>Q (x::xs) H2
section
variable {X:Cx}{e:AI}{es:AA AI}{te:TE}{t:TA}{pos:Pos}
def oP:PA X [] Xh:=λ_ _ _ _ H Q I h=>Calls.spliced_nil ⟨[],H,I,.nil,h⟩
def iG (ha:PE X e te)(hr:PA X es t)(hs:starEach (e::es) X.env=(false,eval e X.env)::starEach es X.env:=by rfl):PA X (e::es) (Cd te t):=by
 intro pos AM s σ H Q I h;rw[hs];show AG _ _ (spliced ((false,eval e X.env)::backTo pos (starEach es X.env))) _ _ s;refine Calls.spliced_cons (aS (ha AM s σ H _ I h) λu s1 ⟨x,H1,I1,r1,q1⟩=>?_);exact aS (hr pos AM s1 σ H1 _ I1 q1) λus s2 ⟨xs,H2,I2,r2,q2⟩=>⟨x::xs,H2,I2,.cons r1 r2,q2⟩
def tTup (t:TA):TE:=λσ H Q=>t σ H λxs H1=>xs.length<=sizeLine/\∀p,H1 p=none->Q (.ref p) (upd H1 p (.tup xs))
def tLst (t:TA):TE:=λσ H Q=>t σ H λxs H1=>xs.length<=sizeLine/\∀p,H1 p=none->Q (.ref p) (upd H1 p (.lst xs))
def oA {x1}(h:PA X es t):PE X (.Tuple es x1 pos) (tTup t):=by
 intro AM s σ H Q I hq;refine wpAny_Tuple_spliced (aS (h pos AM s σ H _ I hq) λus s1 ⟨xs,H1,I1,r,z,q⟩=>⟨by rw[<-r.length];exact z,?_⟩);have hf:H1 s1⁻¹=none:=I1.hok.fresh (aY _);refine⟨.ref s1⁻¹,upd H1 s1⁻¹ (.tup xs),I1.laid (t':=s1.toks) (λb u e=>bP _ e) (aY _) ?_,rfl,q _ hf⟩;exact⟨z,us,r,⟨_,dO _ rfl,rfl,_,rfl⟩⟩
def Hh (h:PA X es t):PE X (.List es pos) (tLst t):=by
 intro AM s σ H Q I hq;refine wpAny_List_spliced (aS (h pos AM s σ H _ I hq) λus s1 ⟨xs,H1,I1,r,z,q⟩=>⟨by rw[<-r.length];exact z,?_⟩);have hf:H1 s1⁻¹=none:=I1.hok.fresh (aY _);refine⟨.ref s1⁻¹,upd H1 s1⁻¹ (.lst xs),I1.laid (t':=s1.toks) (λb u e=>bP _ e) (aY _) ?_,rfl,q _ hf⟩;exact⟨z,us,0,r,dO _ rfl⟩
end
abbrev Sp:=AA V->Hp->VK->XK->Prop
abbrev uS:=AA Env->Hp->AE->XK->AC->AE->Prop
structure Env0 (P:Program)(w:World)(K:W.Frag)(mg:Str->Option Value)(base:Heap)(A:Around)(outer:List Env)(s:Shared)(H:Hp):Prop where
 frames:A.frames=some outer
 mod:Mod K mg base
 bs:∀b o,base.get? b=some o->s.heap.get? b=some o/\H b=none
 bsz:base.objs.size<=s.heap.objs.size
 funs:s.heap.FunFrames base outer
 frf:∀b∈frs outer,H b=none
 hok:HOk P w H s.heap
 bare:AllBare s.gens
def CE (outer:AA Env)(P:AJ)(w:World)(H:Hp)(s:AE)(Q:VK)(u:AC)(s':AE):Prop:=
 ∃v H',s'.os=s.os/\AllBare s'.gens/\Un (frs outer) [] H H' s.heap s'.heap/\HOk P w H' s'.heap/\RelV v u/\Q v H'
def CR (CX:uS)(outer:AA Env)(P:AJ)(w:World)(H:Hp)(s:AE)(Q:VK)(E:XK)(r:Result)(s':AE):Prop:=
 match r with
 | .ok (.ret u)=>CE outer P w H s Q u s'
 | .ok _=>False
 | .error e=>CX outer H s E e s'
structure FnOk (P:Program)(w:World)(K:W.Frag)(mg:Str->Option Value)(base:Heap)(CX:uS)(k:Nat)(f:Addr)(fd:FuncData)(ps:List Str)(sp:Sp):Prop where
 len:∀vs H Q E,sp vs H Q E->vs.length=ps.length
 run:∀(A:Around) (outer:List Env) (s:Shared) (H:Hp) (args:Args) (us:List Value) (vs:List V) (Q:VK) (E:XK),Room k A->Env0 P w K mg base A outer s H->BindsTo s fd args (ps.zip us)->Vals vs us->sp vs H Q E->
  codeAny (model P w) A (.call (.ref f) args) (CR CX outer P w H s Q E) s
theorem Env0.make {P:AJ}{K:AF}(e:Env0 P w K mg base A outer s H)(C:AD)(us:AA AC)(kw:AA (Str×AC)):
  Env0 P w K mg base (A.under (.builtin "type.__call__" ⟨.ref C::us,kw⟩)) outer s H:=⟨by first|exact e.frames|(simpa[Around.under,Code.envs,Code.isFrame,pushEnvs]using e.frames),e.mod,e.bs,e.bsz,e.funs,e.frf,e.hok,e.bare⟩
section
variable {X:Cx}{AM:AA (AD×Obj)}{σ:St}{H:Hp}{s s':AE}
def Inv.env0 (I:Inv X AM σ H s):Env0 X.prog X.w X.K X.mg X.base X.A X.stack s H:=
 ⟨I.ok.frames,I.ok.mod,I.bs,bO I.ok.bsz I.sz,I.stack,I.stkFree,I.hok,I.bare⟩
def Inv.after {Q:VK}(I:Inv X AM σ H s)(h:CE X.stack X.prog X.w H s Q u s'):EP X AM σ Q u s':=by
 obtain⟨v,H',os,bare,un,hok,r,q⟩:=h;obtain⟨hh,g,d,t,os'⟩:=s';obtain rfl:os'=s.os:=os;exact⟨v,H',I.call (h':=hh) (g':=g) (d':=d) (t':=t) (ch:=[]) un hok bare (λb z=>AH z (by simp)),r,q⟩
end
def Ce (sp:Sp)(dvs:AA V)(E:XK)(t:TA):TE:=λσ H Q=>t σ H λvs H1=>sp (vs++dvs) H1 Q E
def Ef (C:AD)(m:Str)(sp:Sp)(dvs:AA V)(E:XK)(ta:TE)(t:TA):TE:=λσ H Q=>ta σ H λx H1=>∃a dx fs,x= .ref a/\H1 a=some (.ins C dx fs)/\fs.lookup m=none/\
 t σ H1 λvs H2=>sp (x::(vs++dvs)) H2 Q E
def Tq (C:AD)(sp:Sp)(dvs:AA V)(E:XK)(t:TA):TE:=λσ H Q=>t σ H λvs H1=>∀x dx,H1 x=none->H1 dx=none->dx≠x->
 sp (.ref x::(vs++dvs)) (upd (upd H1 dx (.own x)) x (.ins C dx [])) (λv H2=>v= .non/\Q (.ref x) H2) E
def Binds (K:AF)(fd:FuncData)(ps:AA Str)(ds:AA AC):Prop:=
 ∀(s:AE) (us:AA AC),K.In s.heap->(us++ds).length=ps.length->BindsTo s fd ⟨us,[]⟩ (ps.zip (us++ds))
theorem Binds.all {K:AF}(h:∀us:AA AC,us.length=ps.length->bindArgs fd ⟨us,[]⟩=pure (ps.zip us)):Binds K fd ps []:=λs us _ hl=>by
 rw[qO]at hl ⊢;exact .of_eq (h us hl)
def Es (CX:uS)(X:Cx)(E:XK):Prop:=∀(AM:AA (AD×Obj)) (σ:St) (H:Hp) (s:AE) (e:AC) (s':AE),Inv X AM σ H s->CX X.stack H s E e s'->X.xe e s'
section
variable {X:Cx}{CX:uS}{k:Nat}{f C:AD}{fd:FuncData}{ps:AA Str}{sp:Sp}{dvs:AA V}{ds:AA AC}{E:XK}{x m:Str}{p pos apos:Pos}{e o:AI}{es:AA AI}{ta:TE}{t:TA}
def zor {Q:VK}(F:FnOk X.prog X.w X.K X.mg X.base CX k f fd ps sp)(hr:Room k X.A)(hb:Binds X.K fd ps ds)(hd:Vals dvs ds)(hx:Es CX X E)(I:Inv X AM σ H s)(r:Vals vs us)(h:sp (vs++dvs) H Q E):AG (model X.prog X.w) X.A (call (.ref f) us) (EP X AM σ Q) X.xe s:=by
 have r2:Vals (vs++dvs) (us++ds):=r.append hd;have hl:(us++ds).length=ps.length:=by rw[<-r2.length];exact F.len _ _ _ _ h
 refine wpAny_call (codeAny_mono (F.run X.A X.stack s H ⟨us,[]⟩ (us++ds) (vs++dvs) Q E hr I.env0 (hb s us I.kIn hl) r2 h) λr s' hq=>?_);cases r with
 |error e=>exact hx AM σ H s e s' I hq
 |ok fl=>
  cases fl with
  |ret u=>exact I.after hq
  |next=>exact False.elim hq
  |brk=>exact False.elim hq
  |cont=>exact False.elim hq
def Ol (F:FnOk X.prog X.w X.K X.mg X.base CX k f fd ps sp)(hr:Room k X.A)(hg:Gl X x)(hm:X.mg x=some (.ref f))(hk:W.keepIn X.K (.ref f)=true)(hb:Binds X.K fd ps ds)(hd:Vals dvs ds)(hx:Es CX X E)(ha:PA X (e::es) t)(hdb:(x==("__debug__":Str))=false:=by decide)(he:starEach (e::es) X.env=(false,eval e X.env)::starEach es X.env:=by rfl)(hpl:(backTo pos (starEach es X.env)).any (·.1)=false:=by rfl):
  PE X (.Call (.Name x p) (e::es) [] pos) (Ce sp dvs E t):=by
 intro AM s σ H Q I h;refine qaY (znZ I hg hm ?_ hdb);refine W.callWith_K (h₀:=X.base) I.ok.mod.kin hk (aS (ha pos AM s σ H _ I h) λus s1 ⟨vs,H1,I1,r,q⟩=>⟨I1.kIn,?_⟩) he hpl;exact zor F hr hb hd hx I1 r q
def zoZ {pl:Sem Bool}(he:PE X o ta)(c:Cls X.K C)(hm:Meth X.K C m f)(F:FnOk X.prog X.w X.K X.mg X.base CX k f fd ps sp)(hr:Room k X.A)(hb:Binds X.K fd ps ds)(hd:Vals dvs ds)(hx:Es CX X E)(ha:PA X (e::es) t)(hst:starEach (e::es) X.env=(false,eval e X.env)::starEach es X.env:=by rfl)(hpl:(backTo pos (starEach es X.env)).any (·.1)=false:=by rfl)(ht : eval (.Call (.Attribute o m apos) (e :: es) [] pos) X.env = (do
   let ov<-eval o X.env
   standAt apos.atName
   let(f,first)<-holding [ov] (getMethod ov m pl)
   callWith pos f first (backTo pos (starEach (e::es) X.env)) (backToKw pos (keywordEach [] X.env))):=by rfl):
  PE X (.Call (.Attribute o m apos) (e::es) [] pos) (Ef C m sp dvs E ta t):=by
 intro AM s σ H Q I h;refine W.methodCall_KW (pl:=pl) (aS (he AM s σ H _ I h) λu s1 ⟨x,H1,I1,rx,a,dx,fs,ex,ea,l,q⟩=>?_) ht;subst ex;obtain rfl:u=Value.ref a:=rx;refine ziS I1 ea c hm l ?_;refine W.callWith_K (first:=[.ref a]) (h₀:=X.base) I.ok.mod.kin hm.kp (aS (ha pos AM s1 σ H1 _ I1 q) λus s2 ⟨vs,H2,I2,r,q2⟩=>⟨I2.kIn,?_⟩) hst hpl;exact zor (us:= .ref a::us) (vs:= .ref a::vs) F hr hb hd hx I2 (.cons rfl r) q2
def rH {pl:Sem Bool}(he:PE X o ta)(c:Cls X.K C)(hm:Meth X.K C m f)(F:FnOk X.prog X.w X.K X.mg X.base CX k f fd ps sp)(hr:Room k X.A)(hb:Binds X.K fd ps ds)(hd:Vals dvs ds)(hx:Es CX X E)(ht : eval (.Call (.Attribute o m apos) [] [] pos) X.env = (do
   let ov<-eval o X.env
   standAt apos.atName
   let(f,first)<-holding [ov] (getMethod ov m pl)
   callWith pos f first (backTo pos (starEach [] X.env)) (backToKw pos (keywordEach [] X.env))):=by rfl):
  PE X (.Call (.Attribute o m apos) [] [] pos) (Ef C m sp dvs E ta Xh):=by
 intro AM s σ H Q I h;refine W.methodCall_KW (pl:=pl) (aS (he AM s σ H _ I h) λu s1 ⟨x,H1,I1,rx,a,dx,fs,ex,ea,l,q⟩=>?_) ht;subst ex;obtain rfl:u=Value.ref a:=rx;refine ziS I1 ea c hm l ?_;exact W.callWith_K0 (first:=[.ref a]) I1.kIn hm.kp (zor (us:=[.ref a]) (vs:=[.ref a]) F hr hb hd hx I1 (.cons rfl .nil) q)
structure Mk (K:W.Frag)(C f:Addr):Prop where
 makes:W.makesIn K C=true
 init:W.findIn K (.ref C) "__init__"=some (some (.ref f))
 fn:W.isFn K (.ref f)=true
 kp:W.keepIn K (.ref C)=true
def sC {Q:VK}(M:Mk X.K C f)(F:FnOk X.prog X.w X.K X.mg X.base CX k f fd ps sp)(hr:Room (k+1) X.A)(hb:Binds X.K fd ps ds)(hd:Vals dvs ds)(hx:Es CX X E)(I:Inv X AM σ H s)(r:Vals vs us)(h:∀x dx,H x=none->H dx=none->dx≠x->sp (.ref x::(vs++dvs)) (upd (upd H dx (.own x)) x (.ins C dx [])) (λv H2=>v= .non/\Q (.ref x) H2) E):
  AG (model X.prog X.w) X.A (call (.ref C) us) (EP X AM σ Q) X.xe s:=by
 have hq:=h (s⁻¹+1) s⁻¹ (I.hok.fresh (Nat.le_succ _)) (I.hok.fresh (aY _)) (eT (Ot _));have I2:=Inv.made (C:=C) I;have r2:Vals (V.ref (s⁻¹+1)::(vs++dvs)) (Value.ref (s⁻¹+1)::(us++ds)):= .cons rfl (r.append hd);have hl:(Value.ref (s⁻¹+1)::us++ds).length=ps.length:=by
  have e:=r2.length;rw[F.len _ _ _ _ hq]at e;exact e.symm
 refine wpAny_call (mL (f:=f) I.kIn M.makes M.init (qaQ.mp M.fn) (codeAny_mono (F.run _ X.stack _ _ ⟨Value.ref (s⁻¹+1)::us,[]⟩ (Value.ref (s⁻¹+1)::(us++ds)) _ _ E (hr.make C us [])
  (I2.env0.make C us []) (hb _ (Value.ref (s⁻¹+1)::us) I2.kIn hl) r2 hq) λr s' hq'=>?_))
 cases r with
 |error e=>exact hx AM σ _ _ e s' I2 hq'
 |ok fl=>
  cases fl with
  |ret u=>
   obtain⟨v,H',I3,rv,ev,q3⟩:=I2.after hq';subst ev;exact⟨rv,⟨V.ref (s⁻¹+1),H',I3,rfl,q3⟩⟩
  |next=>exact False.elim hq'
  |brk=>exact False.elim hq'
  |cont=>exact False.elim hq'
def yS (M:Mk X.K C f)(F:FnOk X.prog X.w X.K X.mg X.base CX k f fd ps sp)(hr:Room (k+1) X.A)(hg:Gl X x)(hm:X.mg x=some (.ref C))(hb:Binds X.K fd ps ds)(hd:Vals dvs ds)(hx:Es CX X E)(ha:PA X (e::es) t)(hdb:(x==("__debug__":Str))=false:=by decide)(he:starEach (e::es) X.env=(false,eval e X.env)::starEach es X.env:=by rfl)(hpl:(backTo pos (starEach es X.env)).any (·.1)=false:=by rfl):
  PE X (.Call (.Name x p) (e::es) [] pos) (Tq C sp dvs E t):=by
 intro AM s σ H Q I h;refine qaY (znZ I hg hm ?_ hdb);refine W.callWith_K (h₀:=X.base) I.ok.mod.kin M.kp (aS (ha pos AM s σ H _ I h) λus s1 ⟨vs,H1,I1,r,q⟩=>⟨I1.kIn,?_⟩) he hpl;exact sC M F hr hb hd hx I1 r q
end
structure FnScope (N P:List Str)(sc:Scope):Prop where
 kind:sc.kind= .function
 co:sc.isCoroutine=false
 gen:sc.isGenerator=false
 nd:N.Nodup
 pre:N.take P.length=P
 par:∀x∈P,sc.names.lookup x=some .local\/sc.names.lookup x=some .cell
 nofree:∀y∈sc.names,y.2≠ .free
def zkk:∀{binds:AA (Str×AC)} {m:Str->AB AC},(∀v,(x,v)∉binds)->bindL kindOf binds m x=m x
 |[],_,_=>rfl
 |(n,v)::r,m,h=>by
  unfold bindL;rw[zkk λw hw=>h w (gE _ hw)]
  split
  ·have:x≠n:=by rintro rfl;exact h v iW
   simp[this]
  ·rfl
def zkT:∀{binds:AA (Str×AC)} {m:Str->AB AC},(∀v,(x,v)∉binds)->bindC kindOf binds m x=m x
 |[],_,_=>rfl
 |(n,v)::r,m,h=>by
  unfold bindC;rw[zkT λw hw=>h w (gE _ hw)]
  split
  ·rfl
  ·have:x≠n:=by rintro rfl;exact h v iW
   simp[this]
def zkm {v:AC}:∀{P:AA Str} {vs:AA AC} {i:Nat} {m:Str->AB AC},P.Nodup->P[i]? =some x->vs[i]? =some v->kindOf x=some .local->
  bindL kindOf (P.zip vs) m x=some v
 |[],_,_,_,_,h,_,_=>by simp at h
 |_::_,[],_,_,_,_,h,_=>by simp at h
 |p::P,w::vs,0,m,nd,h1,h2,hk=>by
  simp at h1 h2;subst h1;subst h2;show bindL kindOf ((p,w)::P.zip vs) m p=_;unfold bindL;rw[zkk λv hv=>(qaZ.mp nd).1 (List.of_mem_zip hv).1,if_pos hk];simp
 |p::P,w::vs,i+1,m,nd,h1,h2,hk=>by
  show bindL kindOf ((p,w)::P.zip vs) m x=_;unfold bindL;exact zkm (i:=i) (qaZ.mp nd).2 (~~~h1) (~~~h2) hk
def zku {v:AC}:∀{P:AA Str} {vs:AA AC} {i:Nat} {m:Str->AB AC},P.Nodup->P[i]? =some x->vs[i]? =some v->kindOf x≠some .local->
  bindC kindOf (P.zip vs) m x=some v
 |[],_,_,_,_,h,_,_=>by simp at h
 |_::_,[],_,_,_,_,h,_=>by simp at h
 |p::P,w::vs,0,m,nd,h1,h2,hk=>by
  simp at h1 h2;subst h1;subst h2;show bindC kindOf ((p,w)::P.zip vs) m p=_;unfold bindC;rw[zkT λv hv=>(qaZ.mp nd).1 (List.of_mem_zip hv).1,if_neg hk];simp
 |p::P,w::vs,i+1,m,nd,h1,h2,hk=>by
  show bindC kindOf ((p,w)::P.zip vs) m x=_;unfold bindC;exact zku (i:=i) (qaZ.mp nd).2 (~~~h1) (~~~h2) hk
def start (N:AA Str)(vs:AA V):St:=vs.map some++List.replicate (N.length-vs.length) none
def fC (CX:uS)(P:AJ)(w:World)(K:AF)(mg:Str->AB AC)(base:AK)(N:AA Str)(qual:Str)(scope:Scope)(f:AD)(cd:AC)(A:Around)(outer:AA Env)(s:AE)(H:Hp)(E:XK):Cx where
 prog:=P
 w:=w
 K:=K
 mg:=mg
 base:=base
 A:=A.deeper (envOfC qual scope s⁻¹ f cd)
 N:=N
 s₀:=s
 H₀:=H
 env:=envOfC qual scope s⁻¹ f cd
 outer:=outer
 stack:=envOfC qual scope s⁻¹ f cd::outer
 ex:=[]
 calm:=true
 fn:=λ_=>true
 pn:=[]
 xe:=λe s'=>AG (model P w) (A.deeper (envOfC qual scope s⁻¹ f cd)) (leaving (envOfC qual scope s⁻¹ f cd) e) (λ_ s''=>CX outer H s E e s'') (λe' s''=>CX outer H s E e' s'') s'
def zmr (h:sc.names.lookup x=some .cell):∃c,(cellsFrom n sc.names []).lookup x=some c:=by
 have q:=W.cellsFrom_some sc.names n [] (.inl h);exact qa0.mp q
theorem zoA {P:AJ}{K:AF}{f:AD}{s s1:AE}{E:XK}(S:FnScope N ps scope)(hd:A.handled=none)(e0:Env0 P w K mg base A outer s H)(hl:vs.length=ps.length)(r:Vals vs us)(x:InCallC s s⁻¹ (bindL (envOfC qual scope s⁻¹ f cd).kindOf (ps.zip us) λ_=>none) (cellsFrom (s⁻¹+1) scope.names []) (bindC (envOfC qual scope s⁻¹ f cd).kindOf (ps.zip us) λ_=>none) s1):
  Inv (fC CX P w K mg base N qual scope f cd A outer s H E) [] (start N vs) H s1:=by
 have hpl:ps.length<=N.length:=by have:=congrArg List.length S.pre;rw[yA]at this;lia
 obtain⟨h1,tk,rfl,hk⟩:=x.done;have noA:∀b:AD,b∉(fC CX P w K mg base N qual scope f cd A outer s H E).ex:=λb z=>AH (show b∈([]:AA AD)from z) (by simp)
 refine⟨⟨e0.mod,S.kind,rfl,rfl,aY _,λy z c h1 h2=>?_,λy hy=>?_,λy c _ h=>?_,λ_=>hd,Around.frames_deeper e0.frames,.inr ⟨rfl,rfl⟩,λb z=>AH z (noA b),e0.bs,e0.bsz,λb _ _=>noA b,λb z=>AH z (noA b),e0.funs,e0.frf⟩,
  rfl,e0.bare,Un.kept hk,⟨_,x.toInCall.ns,λi y v h1 h2 h3=>?_⟩,λy c h=>⟨_,x.cell y c h⟩,e0.hok.fresh (aY _),λy c h=>?_,λp hp=>AH (show p∈([]:AA (AD×Obj))from hp) (by simp),e0.hok.kept hk,?_⟩
 ·exact name_of_addr x.apart (Vt h1) (Vt h2)
 ·have hy:scope.names.lookup y=some .cell\/scope.names.lookup y=some .free:=hy;rcases hy with hy|hy
  ·exact zmr hy
  ·exact AH rfl (S.nofree _ (Vt hy))
 ·exact kY (x.above y c (Vt h))
 ·have hi:i<vs.length:=by
   unfold start at h2
   by_cases hi:i<vs.length
   ·exact hi
   ·rw[pI (~~~hi)]at h2;rw[Ei]at h2
    split at h2<;>cases h2
  have ha:vs[i]? =some v:=by
   unfold start at h2;rw[fT (~~~hi),cR]at h2;cases e:vs[i]? with
   |none=>rw[e]at h2;cases h2
   |some a=>rw[e]at h2;cases h2;rfl
  obtain⟨u,hu,rv⟩:=r.get ha;have hp:ps[i]? =some y:=by
   rw[<-S.pre,List.getElem?_take_of_lt ∅];exact h1
  have ndP:ps.Nodup:=by rw[<-S.pre];exact S.nd.sublist (List.take_sublist _ _)
  refine⟨u,rv,?_⟩;rcases S.par y (dY hp)with k|k
  ·exact .inl ⟨k,zkm ndP hp hu k⟩
  ·obtain⟨c,e⟩:=zmr (n:=s⁻¹+1) k;refine .inr ⟨.inl k,c,e,?_⟩;have q:=x.cell y c e;rw[zku ndP hp hu (by show scope.names.lookup y≠_;rw[k];decide)]at q;exact q
 ·exact e0.hok.fresh (kY (x.above y c (Vt h)))
 ·unfold start;show _=N.length;rw[iZ,cO,Xt];lia
theorem Qc {P:AJ}{K:AF}{f:AD}{name qual:Str}{dV kV doc pm cdv ct oc:AC}{an od:AB AD}{osl:Array (AB AC)}{N ps:AA Str}{sp:Sp}(lk:K.lookup f=some ⟨oc,od,.func (W.fnOf name qual params body scope dV kV doc pm an cdv ct),osl⟩)(hcd:W.codeIn K cdv qual=true)(S:FnScope N ps scope)(len:∀vs H Q E,sp vs H Q E->vs.length=ps.length)(hbody : ∀ (A : Around) (outer : AA Env) (s : AE) (H : Hp) (vs : AA V) (Q : VK) (E : XK), Room k (A.deeper (envOfC qual scope s⁻¹ f cdv)) -> sp vs H Q E ->
   ∃t,PSs (fC CX P w K mg base N qual scope f cdv A outer s H E) body t/\t {nx:=λ_ H'=>Q .non H',rt:=Q} (start N vs) H):
  FnOk P w K mg base CX (k+1) f (W.fnOf name qual params body scope dV kV doc pm an cdv ct) ps sp:=by
 refine⟨len,λA outer s H args us vs Q E hr e0 hb r hsp=>?_⟩;have hl:=len _ _ _ _ hsp;have KX:K.In s.heap:=e0.mod.kin.keeps λb o e=>(e0.bs b o e).1
 have lim:s.heap.NoLimit:=e0.mod.nolimit.keeps λb o e=>(e0.bs b o e).1
 have hkind:∀y∈ps.zip us,scope.names.lookup y.1=some .local\/(scope.names.lookup y.1=some .cell/\((cellsFrom (s⁻¹+1) scope.names []).lookup y.1).isSome=true):=λ⟨n,v⟩ hy=>by
  rcases S.par n (List.of_mem_zip hy).1 with q|q
  ·exact .inl q
  ·exact .inr ⟨q,W.cellsFrom_some _ _ _ (.inl q)⟩
 refine codeAny_call_function hr.depth (KX _ _ lk) rfl S.co S.gen rfl (W.codeRec_of KX hcd) (hb _ _ _ _ ?_);refine wpAny_newFunctionEnv_cells S.kind hkind λenv he s1 x=>?_
 subst he;refine⟨lim.keeps x.toInCall.keep,codeAny_func ?_⟩;obtain⟨t,ht,hq⟩:=hbody A outer s H vs Q E (hr.deeper _) hsp;have I:Inv (fC CX P w K mg base N qual scope f cdv A outer s H E) [] (start N vs) H s1:=zoA S hr.hd e0 hl r x;refine jT (ht [] s1 (start N vs) H _ I hq) (λfl s' hs=>?_) λe s' hs=>hs
 have fin:∀{σ':St} {H':Hp} {v:V} {u:AC},Inv (fC CX P w K mg base N qual scope f cdv A outer s H E) [] σ' H' s'->RelV v u->Q v H'->CE outer P w H s Q u s':=
  λ{σ' H' v u} J rv q=>⟨v,H',J.os,J.bare,J.base,J.hok,rv,q⟩
 cases fl with
 |ret u=>
  obtain⟨v,σ',H',J,rv,q⟩:=hs;exact fin J rv q
 |next=>
  obtain⟨σ',H',J,q⟩:=hs;exact fin (v:=V.non) (u:=Value.none) J rfl q
 |brk=>
  obtain⟨_,_,_,q⟩:=hs;exact False.elim q
 |cont=>
  obtain⟨_,_,_,q⟩:=hs;exact False.elim q
section
variable {X:Cx}{x:Str}{p pos:Pos}{e:AI}{es:AA AI}{t:TA}{id T:String}{r:AA V->Hp->VK->Prop}
def tCB (r:AA V->Hp->VK->Prop)(t:TA):TE:=λσ H Q=>t σ H λvs H1=>r vs H1 Q
def zjV (hc:iA X (.builtin id) r)(hg:Gl X x)(hm:X.mg x=none)(hv:bootBuiltins x=some (.builtin id))(ha:PA X (e::es) t)(hn:x≠"__name__":=by decide)(hdb:(x==("__debug__":Str))=false:=by decide)(he:starEach (e::es) X.env=(false,eval e X.env)::starEach es X.env:=by rfl)(hpl:(backTo pos (starEach es X.env)).any (·.1)=false:=by rfl):PE X (.Call (.Name x p) (e::es) [] pos) (tCB r t):=by
 intro AM s σ H Q I h;refine qaY (Sx I hg hm hv ?_ hn hdb);exact PyProof.Rows.callWith_builtin1 (aS (ha pos AM s σ H _ I h) λus s1 ⟨vs,H1,I1,r1,q1⟩=>hc AM s1 σ H1 vs us Q I1 r1 q1) he hpl
def Pc (hc:iA X (.type T) r)(hg:Gl X x)(hm:X.mg x=none)(hv:bootBuiltins x=some (.type T))(ha:PA X (e::es) t)(hn:x≠"__name__":=by decide)(hdb:(x==("__debug__":Str))=false:=by decide)(he:starEach (e::es) X.env=(false,eval e X.env)::starEach es X.env:=by rfl)(hpl:(backTo pos (starEach es X.env)).any (·.1)=false:=by rfl):PE X (.Call (.Name x p) (e::es) [] pos) (tCB r t):=by
 intro AM s σ H Q I h;refine qaY (Sx I hg hm hv ?_ hn hdb);exact qaJ (aS (ha pos AM s σ H _ I h) λus s1 ⟨vs,H1,I1,r1,q1⟩=>hc AM s1 σ H1 vs us Q I1 r1 q1) he hpl
end
end L2
namespace HT
open PyProof.Rows PySem
def cY:AA Int->AA Int->Bool
 |[],[]=>false
 |[],_::_=>true
 |_::_,[]=>false
 |x::xs,y::ys=>if x=y then cY xs ys else decide (x<y)
theorem Xi (x y:Int)(xs ys:AA Int):cY (x::xs) (y::ys)=if x=y then cY xs ys else decide (x<y):=rfl
theorem zjx:cY [] []=false:=rfl
theorem ziH (y:Int)(ys:AA Int):cY [] (y::ys)=true:=rfl
theorem ziN (x:Int)(xs:AA Int):cY (x::xs) []=false:=rfl
def qM (A:Around)(s:AE)(a:Int)(t:Tok)(c:Int)(u:Tok):∃e,SeqAt.EqAt A s (.int a t) (.int c u) e/\(e=true↔a=c):=
 ⟨(a==c),SeqAt.EqAt.int_int a t c u,by simp⟩
def sT (A:Around)(s:AE)(a:Int)(t:Tok)(c:Int)(u:Tok)(prog:AJ)(w:World)(E:AC->AE->Prop)(Q:AC->AE->Prop)(h:Q (.bool (decide (a<c))) s):
  AG (model prog w) A (richCompare .Lt (.int a t) (.int c u)) Q E s:=
 (PyProof.Rows.lt_int h:AG (model prog w) A (compareOp .Lt (.int a t) (.int c u)) Q E s)
section
open PySem.SeqAt
open PySem.AutoSeq1 (wpAny_loadPart')
open PySem.MeetsSeq PySem.MeetsSeq2 PySem.MeetsSeq3
def zjv (l b:AD)(items items2:Array AC)(n n2:Nat)(dd dd2:AB AD)(sl sl2:Array (AB AC))(ns ms:AA Int)(hi:IntsAre items.toList ns)(hj:IntsAre items2.toList ms):
  Meets (Builtin.«tuple.__lt__» ⟨[.ref l,.ref b],[]⟩)
   (λ_ R s => s.heap.get? l = some { cls := .type "tuple", dict := dd, data := .seq items n, slots := sl } /\ s.heap.get? b = some { cls := .type "tuple", dict := dd2, data := .seq items2 n2, slots := sl2 } /\
    R (.ok (.ret (.bool (cY ns ms)))) s):=
 .of_wp λprog w A R s h=>by
  obtain⟨hp,g,d,tk,os⟩:=s;obtain⟨hl,hb,h⟩:=h;have f2:=AutoSeq1.sub_tuple_tuple;have z1:items.size=ns.length:=by rw[<-hi.length];simp
  have z2:items2.size=ms.length:=by rw[<-hj.length];simp
  wp_walk using wpAny_loadPart' hl,wpAny_loadPart' hb,wpAny_forIn_list _ (λrest b s'=>b.1=none/\s'=⟨hp,g,d,tk,os⟩/\∃(vs ws:AA AC) (ns' ms':AA Int),rest=vs.zip ws/\
   IntsAre vs ns'/\IntsAre ws ms'/\ns'.length+items2.size=ms'.length+items.size/\R (.ok (.ret (.bool (cY ns' ms')))) ⟨hp,g,d,tk,os⟩) _
  case turn=>
   rintro⟨y,x⟩ rest b s' ⟨hb',rfl,vs,ws,ns',ms',hz,hvi,hwi,AO,hR⟩;cases hvi with
   |nil=>rw[List.zip_nil_left]at hz;cases hz
   |cons a t hvi'=>
    cases hwi with
    |nil=>rw[qba]at hz;cases hz
    |cons c u hwi'=>
     rw[qbb]at hz;injection hz with hyx hrest
     injection hyx with hy hx
     subst hy hx;rw[Xi]at hR;simp only[eS]at AO;obtain⟨e,he,hiff⟩:=qM A.in1 ⟨hp,g,d,tk,os⟩ a t c u;refine aJ (he prog w _ _ ?_);cases e with
     |true=>
      rw[if_pos (hiff.mp rfl)]at hR
      wp_walk
      exact⟨rfl,rfl,_,_,_,_,hrest,hvi',hwi',∅,hR⟩
     |false=>
      rw[if_neg (λq=>AH (hiff.mpr q) fY)]at hR;have hri:=sT A.in1 ⟨hp,g,d,tk,os⟩ a t c u prog w
      wp_walk using hri
      exact⟨_,rfl,~~~hR⟩
  case fin=>
   rintro⟨b1,b2⟩ s' ⟨hb',rfl,vs,ws,ns',ms',hz,hvi,hwi,AO,hR⟩;simp only at hb';subst hb';have hv:cY ns' ms'=decide (items.size<items2.size):=by
    cases hvi with
    |nil=>
     cases hwi with
     |nil=>
      simp only[qbc]at AO;rw[zjx];exact(gQ ∅).symm
     |cons c u hw=>
      simp only[qbc,eS]at AO;rw[ziH];exact(fL ∅).symm
    |cons a t hv=>
     cases hwi with
     |nil=>
      simp only[qbc,eS]at AO;rw[ziN];exact(gQ ∅).symm
     |cons c u hw=>
      rw[qbb]at hz;cases hz
   rw[hv]at hR
   wp_walk
   exact⟨_,rfl,by simpa[Builtin.Tuple.tupleCompareSizes]using hR⟩
  case h=>
   exact⟨rfl,rfl,items.toList,items2.toList,ns,ms,rfl,hi,hj,∅,h⟩
end
section
variable {prog:AJ}{w:World}{A:Around}{E:AC->AE->Prop}{s:AE}
def znf {Q:AC->AE->Prop}(hl:IsTup s.heap l items)(hb:IsTup s.heap b items2)(hi:IntsAre items.toList ns)(hj:IntsAre items2.toList ms)(hu:A.units<cLine)(h:Q (.bool (cY ns ms)) s):AG (model prog w) A (compareOp .Lt (.ref l) (.ref b)) Q E s:=by
 obtain⟨⟨cls,dd,data,sl⟩,ho,hc,n,hd⟩:=id hl;obtain⟨⟨cls2,dd2,data2,sl2⟩,ho2,hc2,n2,hd2⟩:=id hb;simp only at hc hd hc2 hd2;subst hc hd hc2 hd2;exact richCompare_meets_room (op:= .Lt) ⟨_,ho,rfl⟩ ⟨_,ho2,rfl⟩ PySem.F.slot_tuple_lt PySem.F.entry_tuple_lt (PySem.F.args_tuple_lt_2 _ _) (zjv l b items items2 n n2 dd dd2 sl sl2 ns ms hi hj)
  ⟨ho,ho2,show Value.bool (cY ns ms)≠Value.notImplemented/\Q (.bool (cY ns ms)) s from⟨(λx=>nomatch x),h⟩⟩ hu
def wJ {Q:AC->AE->Prop}(ht:IsTup s.heap t vs.toArray)(hb:IsTup s.heap b ws.toArray)(hv:vs≠[])(h1:ws=[]->Q (.ref t) s)(h2:ws≠[]->Q (.ref s⁻¹) {s with heap:=s.heap.push {cls:= .type "tuple",data:= .seq (vs++ws).toArray}})(hsz:vs.length+ws.length<=sizeLine):AG (model prog w) A (binaryOp .Add (.ref t) (.ref b)) Q E s:=by
 obtain⟨⟨cls,dd,data,sl⟩,ho,hc,n,hd⟩:=id ht;obtain⟨⟨cls2,dd2,data2,sl2⟩,ho2,hc2,n2,hd2⟩:=id hb;simp only at hc hd hc2 hd2;subst hc hd hc2 hd2;have e:vs.toArray++ws.toArray=(vs++ws).toArray:=by simp
 by_cases hw:ws=[]
 ·exact concat_meets ⟨_,ho,rfl⟩ ⟨_,ho2,rfl⟩ noFill_tuple_add seq_tuple_add qbd qbe (qbf _ _)
   (tuple_addW1 t b vs.toArray ws.toArray n n2 dd dd2 sl sl2 (~~~hv) (by simp[hw])) ⟨ho,ho2,h1 hw⟩
 ·refine concat_meets ⟨_,ho,rfl⟩ ⟨_,ho2,rfl⟩ noFill_tuple_add seq_tuple_add qbd qbe (qbf _ _)
   (tuple_addW2 t b vs.toArray ws.toArray n n2 dd dd2 sl sl2 (~~~hv) (~~~hw) (by rw[bS,bS];exact hsz)) ⟨ho,ho2,?_⟩
  rw[e];exact h2 hw
def sIx (n d:Nat):AB Int->Nat
 |none=>d
 |some v=>if v<0 then(v+(n:Int)).toNat else min v.toNat n
theorem zl7 (n d:Nat):sIx n d none=d:=rfl
def zoM (n d k:Nat):sIx n d (some (k:Int))=min k n:=by
 show(if(k:Int)<0 then((k:Int)+(n:Int)).toNat else min (k:Int).toNat n)=min k n;rw[if_neg ∅,Za]
def Js (n d:Nat)(hd:d<=n)(o:AB Int):sIx n d o<=n:=by
 cases o with
 |none=>exact hd
 |some v=>
  show(if v<0 then(v+(n:Int)).toNat else min v.toNat n)<=n
  by_cases hv:v<0
  ·rw[if_pos hv];lia
  ·rw[if_neg hv];exact Nat.min_le_right _ _
def zoT (v:Int)(n d:Nat):(if v<0 then max (v+(n:Int)) 0 else min v (n:Int))=((sIx n d (some v):Nat):Int):=by
 show(if v<0 then max (v+(n:Int)) 0 else min v (n:Int))=(((if v<0 then(v+(n:Int)).toNat else min v.toNat n):Nat):Int)
 by_cases hv:v<0
 ·simp only[if_pos hv];lia
 ·simp only[if_neg hv];lia
theorem znp (lo hi:AB Int)(n:Nat):Builtin.Slice.sliceAdjust lo hi 1 (n:Int)=(((sIx n 0 lo:Nat):Int),((sIx n n hi:Nat):Int)):=by
 have h1:¬((1:Int)<0):=∅
 unfold Builtin.Slice.sliceAdjust;simp only[h1,dG];refine Prod.ext ?_ ?_
 ·cases lo with
  |none=>rfl
  |some v=>exact zoT v n 0
 ·cases hi with
  |none=>rfl
  |some v=>exact zoT v n n
def znx (i j:Nat):Builtin.Slice.slicePlaces (i:Int) (j:Int) 1=j-i:=by
 unfold Builtin.Slice.slicePlaces;have h1:(1:Int)>0:=∅
 simp only[h1,if_true,Int.ediv_one]
 split<;>lia
def zi3 {Q:AB Int->AE->Prop}(p:IsPart v o)(h:Q o s):AG (model prog w) A (Builtin.Slice.slicePartIndex v) Q E s:=by
 cases p with
 |none=>exact slicePart_none h
 |int i t=>exact slicePart_int h
theorem zd5 {sl:AD}{vl vu:AC}{lo hi:AB Int}{n:Nat}{Q:Int×Int×Nat->AE->Prop}(hs:s.heap.IsSliceOf sl vl vu .none)(pl:IsPart vl lo)(pu:IsPart vu hi)(h:Q (((sIx n 0 lo:Nat):Int),1,sIx n n hi-sIx n 0 lo) s):AG (model prog w) A (Builtin.Slice.sliceApplied (.ref sl) (pure (n:Int))) Q E s:=by
 obtain⟨os,hos,hcs,hds⟩:=id hs;unfold Builtin.Slice.sliceApplied Builtin.Slice.sliceFields;refine aJ (aJ (kU hos hds (x:=vl) rfl (aJ (kU hos hds (x:=vu) rfl (aJ (kU hos hds (x:= .none) rfl (qaF ?_)))))));refine aJ (slicePart_none ?_);show AG _ _ (if((1:Int)==0)=true then _ else _) _ _ s;rw[if_neg (by decide)];refine aJ (zi3 pl (aJ (zi3 pu (aJ (qaF ?_)))));show AG _ _ (match Builtin.Slice.sliceAdjust lo hi 1 (n:Int)with|(lo,hi)=>pure (lo,(1:Int),Builtin.Slice.slicePlaces lo hi 1)) _ _ s;rw[znp lo hi n];show AG _ _ (pure (((sIx n 0 lo:Nat):Int),(1:Int),Builtin.Slice.slicePlaces ((sIx n 0 lo:Nat):Int) ((sIx n n hi:Nat):Int) 1)) _ _ s;rw[znx];exact qaF h
theorem pP (xs:Array AC)(i k:Nat):((List.range k).filterMap λ(m:Nat)=>xs[((i:Int)+(m:Int)*1).toNat]?).toArray=((xs.toList.drop i).take k).toArray:=by
 have e:(λ(m:Nat)=>xs[((i:Int)+(m:Int)*1).toNat]?)=λm=>xs[i+m]?:=by
  funext m
  have:((i:Int)+(m:Int)*1).toNat=i+m:=∅
  rw[this]
 rw[e];have:=pick_run xs i k;rw[List.filterMap_map]at this;have e2:((λx=>xs[x]?) ∘ λx=>i+x)=λm=>xs[i+m]?:=rfl
 rw[e2]at this;rw[this]
theorem zgP {t sl:AD}{items:Array AC}{vl vu:AC}{lo hi:AB Int}{Q:AC->AE->Prop}(ht:IsTup s.heap t items)(hs:s.heap.IsSliceOf sl vl vu .none)(pl:IsPart vl lo)(pu:IsPart vu hi)(hw:¬(sIx items.size 0 lo=0/\sIx items.size items.size hi=items.size))(h:Q (.ref s⁻¹) {s with heap:=s.heap.push {cls:= .type "tuple",data:= .seq ((items.toList.drop (sIx items.size 0 lo)).take (sIx items.size items.size hi-sIx items.size 0 lo)).toArray}})(hsz:items.size<=sizeLine):AG (model prog w) A (getItem (.ref t) (.ref sl)) Q E s:=by
 have htake:sizeOk (.seq ((items.toList.drop (sIx items.size 0 lo)).take (sIx items.size items.size hi-sIx items.size 0 lo)).toArray):=by
  show((items.toList.drop (sIx items.size 0 lo)).take (sIx items.size items.size hi-sIx items.size 0 lo)).toArray.size<=sizeLine;rw[bS,yA,qbj,Pa];lia
 have hj:sIx items.size items.size hi<=items.size:=Js _ _ (aY _) hi;obtain⟨os,hos,hcs,hds⟩:=id hs;have hTs:s.TypeIs (.ref sl) "slice":=⟨os,hos,hcs⟩;unfold getItem
 try with_reducible refine gV ?_
 first|refine aJ (qaF ?_)|skip
 refine aJ (wpAny_sequenceKey ht.typeIs (by decide) ?_);refine aJ (Fd (name:=Str.ofString "__getitem__") ht.typeIs qbl
  (tY qbl ht.typeIs entry_tuple_getitem ?_ (args_tuple_getitem _ _)))
 show AG _ _ (Builtin.Tuple.tupleItemsOf (.ref t)>>=_) _ _ s;refine aJ (tupleItemsOf_ ht ?_);refine aJ (wpAny_typeOf hTs ?_);rw[if_pos (by decide)];refine aJ (zd5 hs pl pu ?_);have hno:¬((((sIx items.size 0 lo:Nat):Int)==0&&(1:Int)==1&&(sIx items.size items.size hi-sIx items.size 0 lo)==items.size)=true):=by
  intro q;rw[cD,cD]at q;have q1:((sIx items.size 0 lo:Nat):Int)=0:=eq_of_beq q.1.1;have q2:sIx items.size items.size hi-sIx items.size 0 lo=items.size:=eq_of_beq q.2;exact hw ⟨∅,∅⟩
 show AG _ _ (if(((sIx items.size 0 lo:Nat):Int)==0&&(1:Int)==1&&(sIx items.size items.size hi-sIx items.size 0 lo)==items.size)=true then _ else _) _ _ s;rw[if_neg hno,pP]
 first
  |exact aJ (m:=Builtin.Tuple.tupleExact _) (tE (qaF ⟨_,rfl,qaF h⟩) htake)
  |exact aJ (m:=Builtin.Tuple.tupleExact _) (tE (aJ (qaF (qaF ⟨_,rfl,qaF h⟩))) htake)
  |exact aJ (aJ (m:=Builtin.Tuple.tupleExact _) (tE (qaF (qaF ⟨_,rfl,qaF h⟩)) htake))
  |exact aJ (aJ (m:=Builtin.Tuple.tupleExact _) (tE (qaF ⟨_,rfl,qaF h⟩) htake))
end
end HT
namespace L2
open PyProof.Rows PySem PySem.Spec
variable {ns:AA Int}{r r':V->AB Int->AB Int->Hp->VK->Prop}{xs:AA V}{us its its':AA AC}{n j t':Nat}{i:Int}{AM:AA (AD×Obj)}{σ:St}{H:Hp}{s:AE}{p:AD}{f:Array AC->Array AC}{A:Around}{y x:V}{u v:AC}
abbrev TO:=St->Hp->(AB Int->Hp->Prop)->Prop
def PO (X:Cx)(e:AB AI)(t:TO):Prop:=
 ∀(AM:AA (AD×Obj)) (s:AE) (σ:St) (H:Hp) (Q:AB Int->Hp->Prop),Inv X AM σ H s->t σ H Q->
  AG (model X.prog X.w) X.A (evalPart e X.env) (λu s'=>∃o H',Inv X AM σ H' s'/\IsPart u o/\Q o H') X.xe s
def zG:TO:=λ_ H Q=>Q none H
def Ur (t:TE):TO:=λσ H Q=>t σ H λx H1=>∃i,x= .int i/\Q (some i) H1
def zeX:∀{us:AA AC},Vals (ns.map V.int) us->IntsAre us ns:=by
 induction ns with
 |nil=>intro us r;rw[List.map_nil]at r;cases r;exact .nil
 |cons n ns ih=>
  intro us r;rw[eV]at r;cases r with
  |cons r1 r2=>
   obtain⟨t,e⟩:=r1;subst e;exact .cons n t (ih r2)
section
variable {X:Cx}{e:AI}{te:TE}{lo hi:AB AI}{tl th:TO}{pos p2:Pos}
def zA:PO X none zG:=by
 intro AM s σ H Q I h;rw[evalPart_none];exact qaF ⟨none,H,I,.none,h⟩
def zV (h:PE X e te):PO X (some e) (Ur te):=by
 intro AM s σ H Q I hw;rw[evalPart_some];refine aS (h AM s σ H _ I hw) λu s1 ⟨x,H1,I1,r1,q1⟩=>?_
 obtain⟨i,rfl,q⟩:=q1;obtain⟨t,rfl⟩:=r1;exact⟨some i,H1,I1,.int i t,q⟩
def SlR (X:Cx)(r:V->AB Int->AB Int->Hp->VK->Prop):Prop:=
 ∀(AM:AA (AD×Obj)) (s:AE) (σ:St) (H:Hp) (x:V) (v vl vu:AC) (lo hi:AB Int) (sl:AD) (Q:VK),Inv X AM σ H s->RelV x v->s.heap.IsSliceOf sl vl vu .none->IsPart vl lo->IsPart vu hi->r x lo hi H Q->
  ∃T id,typeLookup (.type T) "__getitem__"=pure (some (.builtin id))/\s.TypeIs v T/\AG (model X.prog X.w) X.A (getItem v (.ref sl)) (EP X AM σ Q) X.xe s
def SlR.or (h:SlR X r)(h':SlR X r'):SlR X (λx lo hi H Q=>r x lo hi H Q\/r' x lo hi H Q):=by
 intro AM s σ H x v vl vu lo hi sl Q I rx hs pl pu q;rcases q with q|q
 ·exact h AM s σ H x v vl vu lo hi sl Q I rx hs pl pu q
 ·exact h' AM s σ H x v vl vu lo hi sl Q I rx hs pl pu q
def tSl (r:V->AB Int->AB Int->Hp->VK->Prop)(te:TE)(tl th:TO):TE:=λσ H Q=>te σ H λx H1=>tl σ H1 λl H2=>th σ H2 λu H3=>r x l u H3 Q
def tF (hr:SlR X r)(he:PE X e te)(hl:PO X lo tl)(hu:PO X hi th):PE X (.Subscript e (.Slice lo hi none p2) pos) (tSl r te tl th):=by
 intro AM s σ H Q I h;refine Subscript_ (aS (he AM s σ H _ I h) λv s1 ⟨x,H1,I1,r1,q1⟩=>?_);refine wpAny_Slice (aS (hl AM s1 σ H1 _ I1 q1) λvl s2 ⟨l,H2,I2,pl,q2⟩=>aS (hu AM s2 σ H2 _ I2 q2) λvu s3 ⟨u,H3,I3,pu,q3⟩=>?_);rw[evalPart_none];refine qaF ?_;have I4:Inv X AM σ H3 {s3 with heap:=s3.heap.push {cls:= .type "slice",data:= .fields #[vl,vu,.none]}}:=I3.kept (t':=s3.toks) λb ob q=>bP _ q
 obtain⟨T,id,hT,ht,hg⟩:=hr AM {s3 with heap:=s3.heap.push {cls:= .type "slice",data:= .fields #[vl,vu,.none]}} σ H3 x v vl vu l u s3⁻¹ Q I4 r1 (Heap.IsSliceOf.new ..) pl pu q3;show AG (model X.prog X.w) X.A (subscriptTail e (.Slice lo hi none p2) v (.ref s3⁻¹)) (EP X AM σ Q) X.xe {s3 with heap:=s3.heap.push {cls:= .type "slice",data:= .fields #[vl,vu,.none]}};exact tail_any (ops:=[.ref s3⁻¹,v]) ht hT hg (by with_unfolding_all rfl)
def fU (xs:AA V)(lo hi:AB Int):AA V:=(xs.drop (HT.sIx xs.length 0 lo)).take (HT.sIx xs.length xs.length hi-HT.sIx xs.length 0 lo)
def zhG (xs:AA V)(lo hi:AB Int):(fU xs lo hi).length<=xs.length:=by
 unfold fU;rw[yA,qbj];lia
def rSlT (K:AF):V->AB Int->AB Int->Hp->VK->Prop:=λx lo hi H Q=>∃a xs,x= .ref a/\SqT K H a xs/\
 ¬(HT.sIx xs.length 0 lo=0/\HT.sIx xs.length xs.length hi=xs.length)/\∀p,H p=none->Q (.ref p) (upd H p (.tup (fU xs lo hi)))
def sl_tup:SlR X (rSlT X.K):=by
 intro AM s σ H x v vl vu lo hi sl Q I rx hs pl pu h;obtain⟨a,xs,rfl,hx,hw,q⟩:=h;cases rx;obtain⟨its,r,ht,hz⟩:=I.tuple hx;have AO:its.toArray.size=xs.length:=by rw[bS];exact r.length.symm
 refine⟨"tuple",_,PyProof.Rows.slot_tuple_getitem.lookup,ht.typeIs,?_⟩;refine HT.zgP ht hs pl pu (by rw[AO];exact hw) ?_ (by rw[AO];exact hz);rw[AO];refine⟨.ref s⁻¹,_,I.laid (t':=s.toks) (o:= .tup (fU xs lo hi)) (λb ob q=>bP _ q) (aY _) ?_,rfl,q _ (I.hok.fresh (aY _))⟩;exact⟨bO (zhG xs lo hi) hz,_,(r.drop (HT.sIx xs.length 0 lo)).take (HT.sIx xs.length xs.length hi-HT.sIx xs.length 0 lo),IsTup.new _ _⟩
def Vp (K:AF):R2:=λx y H Q=>∃a b xs ys,x= .ref a/\y= .ref b/\SqT K H a xs/\SqT K H b ys/\xs≠[]/\xs.length+ys.length<=sizeLine/\
 (ys=[]->Q (.ref a) H)/\(ys≠[]->∀p,H p=none->Q (.ref p) (upd H p (.tup (xs++ys))))
def Vals.nil_iff (r:Vals xs us):us=[]↔xs=[]:=by
 cases r with
 |nil=>simp
 |cons _ _=>simp
def op_catT:OpR X (binaryOp .Add) (Vp X.K):=by
 intro AM s σ H x y v u Q I rx ry h;obtain⟨a,b,xs,ys,rfl,rfl,ha,hb,hx,hz,q1,q2⟩:=h;cases rx;cases ry;obtain⟨its,r1,p1,_⟩:=I.tuple ha;obtain⟨its2,r2,p2,_⟩:=I.tuple hb;refine HT.wJ p1 p2 (λz=>hx (r1.nil_iff.mp z)) (λz=>⟨.ref a,H,I,rfl,q1 (r2.nil_iff.mp z)⟩) (λz=>?_) (by rw[<-r1.length,<-r2.length];exact hz);refine⟨.ref s⁻¹,_,I.laid (t':=s.toks) (o:= .tup (xs++ys)) (λb ob q=>bP _ q) (aY _) ?_,rfl,q2 (λw=>z (r2.nil_iff.mpr w)) _ (I.hok.fresh (aY _))⟩;exact⟨by rw[iZ];exact hz,_,r1.append r2,IsTup.new _ _⟩
end
def iE (n:Nat)(i:Int):AB Nat:=if 0<=i then(if i<n then some i.toNat else none)else if-(n:Int)<=i then some (i+n).toNat else none
def atI {α:Type}(xs:AA α)(i:Int):AB α:=(iE xs.length i).bind λj=>xs[j]?
def zow {n:Nat}(h:iE n i=some j):seqIndex? i n=some j/\j<n/\ -(n:Int)<=i/\i<n:=by
 unfold iE at h
 by_cases h0:0<=i
 ·rw[if_pos h0]at h
  by_cases h1:i<n
  ·rw[if_pos h1]at h;have e:i.toNat=j:=Option.some.inj h;exact⟨by rw[seqIndex_of h0 h1,e],∅,∅,h1⟩
  ·rw[if_neg h1]at h;cases h
 ·rw[if_neg h0]at h
  by_cases h1: -(n:Int)<=i
  ·rw[if_pos h1]at h;have e:(i+n).toNat=j:=Option.some.inj h;exact⟨by rw[seqIndex_neg ∅ h1,e],∅,h1,∅⟩
  ·rw[if_neg h1]at h;cases h
def zlJ {α:Type}{xs:AA α}{v:α}(h:atI xs i=some v):∃j,seqIndex? i xs.length=some j/\xs[j]? =some v/\j<xs.length/\ -(xs.length:Int)<=i/\i<xs.length:=by
 unfold atI at h;cases e:iE xs.length i with
 |none=>rw[e]at h;cases h
 |some j=>
  rw[e]at h;obtain⟨h1,h2,h3,h4⟩:=zow e;exact⟨j,h1,h,h2,h3,h4⟩
def zji (b:AI):Prop:=∀o i,subscripted b false o i=operate [o,i] (getItem o i)
def IxR (X:Cx)(r:R2):Prop:=
 ∀(value slice:AI) (AM:AA (AD×Obj)) (s:AE) (σ:St) (H:Hp) (x y:V) (v u:AC) (Q:VK),Inv X AM σ H s->RelV x v->RelV y u->r x y H Q->
  subscripted slice false v u=operate [v,u] (getItem v u)->AG (model X.prog X.w) X.A (subscriptTail value slice v u) (EP X AM σ Q) X.xe s
def MtR (X:Cx)(id:String)(r:V->AA V->Hp->VK->Prop):Prop:=
 ∀(AM:AA (AD×Obj)) (s:AE) (σ:St) (H:Hp) (x:V) (xs:AA V) (v:AC) (us:AA AC) (Q:VK),Inv X AM σ H s->RelV x v->Vals xs us->r x xs H Q->
  AG (model X.prog X.w) X.A (call (.builtin id) (v::us)) (EP X AM σ Q) X.xe s
section
variable {X:Cx}{a b:AI}{ta tb:TE}{pos:Pos}
def IxR.or {r r':R2}(h:IxR X r)(h':IxR X r'):IxR X (λx y H Q=>r x y H Q\/r' x y H Q):=by
 intro value slice AM s σ H x y v u Q I rx ry q hs;rcases q with q|q
 ·exact h value slice AM s σ H x y v u Q I rx ry q hs
 ·exact h' value slice AM s σ H x y v u Q I rx ry q hs
def Di {r:R2}(hr:IxR X r)(ha:PE X a ta)(hb:PE X b tb)(hs:zji b):PE X (.Subscript a b pos) (Yz r ta tb):=by
 intro AM s σ H Q I h;exact Subscript_ (Ir ha hb I h λv u s2 x y H2 I2 rx ry q=>hr a b AM s2 σ H2 x y v u Q I2 rx ry q (hs _ _))
def Ul (K:AF):R2:=λx y H Q=>∃p xs i v,x= .ref p/\y= .int i/\SqL K H p xs/\atI xs i=some v/\Q v H
def Vx (K:AF):R2:=λx y H Q=>∃p xs i v,x= .ref p/\y= .int i/\SqT K H p xs/\atI xs i=some v/\Q v H
def Xx:R2:=λx y H Q=>∃z i c,x= .str z/\y= .int i/\z.length<=sizeLine/\atI z.cps.toList i=some c/\Q (.str ⟨#[c]⟩) H
def ix_list:IxR X (Ul X.K):=by
 intro value slice AM s σ H x y v u Q I rx ry h hs;obtain⟨p,xs,i,z,rfl,rfl,hq,he,q⟩:=h;cases rx;obtain⟨t,rfl⟩:=ry;obtain⟨its,r,pl,hz⟩:=I.list hq;obtain⟨j,h1,h2,h3,h4,h5⟩:=zlJ he;obtain⟨w,ew,rw'⟩:=r.get h2;have hl:=r.length;have hn:=Fb;have fin:EP X AM σ Q w s:=⟨z,H,I,rw',q⟩
 by_cases h0:0<=i
 ·have hj:i.toNat=j:=by
   rw[seqIndex_of h0 h5]at h1;exact Option.some.inj h1
  exact item_listR pl.isList h0 ∅ (by rw[hj];simpa using ew) fin hs
 ·have hj:(i+(its.toArray.size:Int)).toNat=j:=by
   rw[seqIndex_neg ∅ h4]at h1;rw[bS,<-hl];exact Option.some.inj h1
  exact subscriptTail_builtinR (x:=w) pl.isList.typeIs slot_list_getitem.lookup
   (wpAny_getItem_list_neg (Q:=λr s'=>r=w/\EP X AM σ Q r s') pl.isList ∅ (by rw[bS]<;>lia) ∅ (by rw[hj];simpa using ew) ⟨rfl,fin⟩) hs
def ix_tup:IxR X (Vx X.K):=by
 intro value slice AM s σ H x y v u Q I rx ry h hs;obtain⟨p,xs,i,z,rfl,rfl,hq,he,q⟩:=h;cases rx;obtain⟨t,rfl⟩:=ry;obtain⟨its,r,pl,hz⟩:=I.tuple hq;obtain⟨j,h1,h2,h3,h4,h5⟩:=zlJ he;obtain⟨w,ew,rw'⟩:=r.get h2;have hl:=r.length;have hn:=Fb;have fin:EP X AM σ Q w s:=⟨z,H,I,rw',q⟩;exact subscriptTail_builtinR (x:=w) pl.typeIs slot_tuple_getitem.lookup
  (getItem_tuple (j:=j) (Q:=λr s'=>r=w/\EP X AM σ Q r s') pl ∅ ∅ (by rw[bS,<-hl];exact h1) (~~~ew) ⟨rfl,fin⟩) hs
def Jv:IxR X Xx:=by
 intro value slice AM s σ H x y v u Q I rx ry h hs;obtain⟨z,i,c,rfl,rfl,hz,he,q⟩:=h;obtain⟨t,rfl⟩:=rx;obtain⟨t',rfl⟩:=ry;obtain⟨j,h1,h2,h3,h4,h5⟩:=zlJ he;have hl:z.cps.toList.length=z.length:=by simp[Str.length]
 rw[hl]at h1 h4 h5;have hn:=Fb;exact tail_any (typeIs_str s z t) slot_str_getitem.lookup (getItem_str (c:=c) (by
  have e1:decide (i< -(2^63:Int))=false:=gQ ∅;have e2:decide (i>=2^63)=false:=gQ ∅;rw[e1,e2,Bool.or_false]) (by rw[h1];simpa using h2) ⟨.str ⟨#[c]⟩,H,I.tok _,⟨_,rfl⟩,q⟩) hs
def rIx (K:AF):R2:=λx y H Q=>Ul K x y H Q\/Vx K x y H Q\/Xx x y H Q
def oQ:IxR X (rIx X.K):=ix_list.or (ix_tup.or Jv)
def zm8 (its:AA AC)(n j:Nat)(u:AC):Obj.mapSeq (·.setIfInBounds j u) {cls:= .type "list",data:= .seq its.toArray n}={cls:= .type "list",data:= .seq (its.set j u).toArray n}:=by
 simp[Obj.mapSeq]
def Inv.lst (I:Inv X AM σ H s)(h:H p=some (.lst xs)):
  ∃(its:AA AC) (n:Nat),Vals xs its/\s.heap.get? p=some {cls:= .type "list",data:= .seq its.toArray n}/\xs.length<=sizeLine:=by
 obtain⟨z,its,n,r,e⟩:=I.hok p _ h;exact⟨its,n,r,e,z⟩
def Inv.lstUpd {xs:AA V}{n:Nat}{f:Obj->Obj}(I:Inv X AM σ H s)(h:H p=some (.lst xs))(ho:s.heap.get? p=some {cls:= .type "list",data:= .seq its.toArray n})(hf:f {cls:= .type "list",data:= .seq its.toArray n}={cls:= .type "list",data:= .seq its'.toArray n'})(r:Vals ys its')(hz:ys.length<=sizeLine)(t:Nat):
  Inv X AM σ (upd H p (.lst ys)) {s with heap:=s.heap.update p f,toks:=t}:=by
 have e:(s.heap.update p f).get? p=some {cls:= .type "list",data:= .seq its'.toArray n'}:=by
  rw[Vy f ho (by rw[hf]<;>rfl),hf]
 refine I.write (x:=p) (e:=p) (by rw[h];trivial) (.inl rfl) (λb u hb q=>(vA _ _ (Ne.symm hb)).trans q) ⟨_,e⟩ ?_;exact⟨hz,its',n',r,e⟩
def Qj:V->V->V->Hp->(Hp->Prop)->Prop:=λo i v H Q=>∃p xs k j,o= .ref p/\i= .int k/\H p=some (.lst xs)/\iE xs.length k=some j/\Q (upd H p (.lst (xs.set j v)))
def zmK:Ys X Qj:=by
 intro AM s σ H o i v ov iv u Q I ro ri rv h;obtain⟨p,xs,k,j,rfl,rfl,hp,hj,q⟩:=h;cases ro;obtain⟨t,rfl⟩:=ri;obtain⟨its,n,r,ho,hz⟩:=I.lst hp;obtain⟨h1,h2,h3,h4⟩:=zow hj;have hl:=r.length;have hn:=Fb;have I':Inv X AM σ (upd H p (.lst (xs.set j v))) {s with heap:=s.heap.update p (Obj.mapSeq (·.setIfInBounds j u))}:=
  I.lstUpd hp ho (zm8 its n j u) (r.set rv j) (by rw[uB];exact hz) s.toks
 by_cases h0:0<=k
 ·have hk:k.toNat=j:=by
   rw[seqIndex_of h0 h4]at h1;exact Option.some.inj h1
  exact W.ki_setAt ho h0 ∅ (by rw[bS,<-hl];exact h4) (by rw[hk];exact⟨_,I',q⟩)
 ·have hk:(k+(its.toArray.size:Int)).toNat=j:=by
   rw[seqIndex_neg ∅ h3]at h1;rw[bS,<-hl];exact Option.some.inj h1
  exact W.ki_setBack ho ∅ (by rw[bS,<-hl];exact h3) ∅ (by rw[hk];exact⟨_,I',q⟩)
def zkj (lo hi:AB Int)(n:Nat):(sliceBounds lo hi none n).1=((HT.sIx n 0 lo:Nat):Int)/\(sliceBounds lo hi none n).2.1=((HT.sIx n n hi:Nat):Int)/\(sliceBounds lo hi none n).2.2=1:=by
 refine⟨?_,?_,rfl⟩
 ·cases lo with
  |none=>simp[sliceBounds,HT.sIx]
  |some i=>
   simp only[sliceBounds,HT.sIx,Option.getD_none,show(1:Int)>0 by decide,if_true]
   by_cases h:i<0
   ·simp only[h,if_true]<;>lia
   ·simp only[h,dG]<;>lia
 ·cases hi with
  |none=>simp[sliceBounds,HT.sIx]
  |some i=>
   simp only[sliceBounds,HT.sIx,Option.getD_none,show(1:Int)>0 by decide,if_true]
   by_cases h:i<0
   ·simp only[h,if_true]<;>lia
   ·simp only[h,dG]<;>lia
def zjD (its:AA AC)(lo hi:AB Int):slicePick its.toArray lo hi none=((its.drop (HT.sIx its.length 0 lo)).take (HT.sIx its.length its.length hi-HT.sIx its.length 0 lo)).toArray:=by
 obtain⟨h1,h2,h3⟩:=zkj lo hi its.toArray.size;unfold slicePick;rw[h1,h2,h3];simp only[sliceRange_one,pick_run,bS]<;>rfl
def rSlL (K:AF):V->AB Int->AB Int->Hp->VK->Prop:=λx lo hi H Q=>∃a xs,x= .ref a/\SqL K H a xs/\∀p,H p=none->Q (.ref p) (upd H p (.lst (fU xs lo hi)))
def sl_list:SlR X (rSlL X.K):=by
 intro AM s σ H x v vl vu lo hi sl Q I rx hs pl pu h;obtain⟨a,xs,rfl,hx,q⟩:=h;cases rx;obtain⟨its,r,ht,hz⟩:=I.list hx;have AO:=r.length;refine⟨"list",_,slot_list_getitem.lookup,ht.isList.typeIs,?_⟩;refine wpAny_getItem_list_slice ht.isList hs pl pu .none (by simp) ?_ (by rw[bS]<;>lia)
 rw[zjD,<-AO];refine⟨.ref s⁻¹,_,I.laid (t':=s.toks) (o:= .lst (fU xs lo hi)) (λb ob q=>bP _ q) (aY _) ?_,rfl,q _ (I.hok.fresh (aY _))⟩;exact⟨bO (zhG xs lo hi) hz,_,0,(r.drop (HT.sIx xs.length 0 lo)).take (HT.sIx xs.length xs.length hi-HT.sIx xs.length 0 lo),dO _ rfl⟩
def tX:V->Bool
 | .non=>true
 | .bl _=>true
 | .int _=>true
 | .str _=>true
 |_=>false
def vP:V->V->Bool
 | .non,.non=>true
 | .bl a,.bl b=>a==b
 | .bl a,.int b=>(if a then 1 else 0)==b
 | .int a,.bl b=>a==(if b then 1 else 0)
 | .int a,.int b=>a==b
 | .str a,.str b=>a==b
 |_,_=>false
def Fi (ry:RelV y u)(rx:RelV x v)(fy:tX y=true)(fx:tX x=true):SeqAt.EqAt A s u v (vP y x):=by
 cases y with
 |non=>
  cases ry;cases x with
  |non=>cases rx;exact SeqAt.EqAt.same _
  |bl b=>cases rx;exact SeqAt.EqAt.none_bool b
  |int b=>obtain⟨t,rfl⟩:=rx;exact SeqAt.EqAt.none_int b t
  |str b=>obtain⟨t,rfl⟩:=rx;exact SeqAt.EqAt.none_str b t
  |_=>exact AH (show false=true from fx) fY
 |bl a=>
  cases ry;cases x with
  |non=>cases rx;exact SeqAt.EqAt.bool_none a
  |bl b=>cases rx;exact SeqAt.EqAt.bool_bool a b
  |int b=>obtain⟨t,rfl⟩:=rx;exact SeqAt.EqAt.bool_int a b t
  |str b=>obtain⟨t,rfl⟩:=rx;exact SeqAt.EqAt.bool_str a b t
  |_=>exact AH (show false=true from fx) fY
 |int a=>
  obtain⟨t',rfl⟩:=ry;cases x with
  |non=>cases rx;exact SeqAt.EqAt.int_none a t'
  |bl b=>cases rx;exact SeqAt.EqAt.int_bool a t' b
  |int b=>obtain⟨t,rfl⟩:=rx;exact SeqAt.EqAt.int_int a t' b t
  |str b=>obtain⟨t,rfl⟩:=rx;exact SeqAt.EqAt.int_str a t' b t
  |_=>exact AH (show false=true from fx) fY
 |str a=>
  obtain⟨t',rfl⟩:=ry;cases x with
  |non=>cases rx;exact SeqAt.EqAt.str_none a t'
  |bl b=>cases rx;exact SeqAt.EqAt.str_bool a t' b
  |int b=>obtain⟨t,rfl⟩:=rx;exact SeqAt.EqAt.str_int a t' b t
  |str b=>obtain⟨t,rfl⟩:=rx;exact SeqAt.EqAt.str_str a t' b t
  |_=>exact AH (show false=true from fx) fY
 |_=>exact AH (show false=true from fy) fY
def jC (x:V)(u:AC):Bool:=match u with
 | .none=>vP .non x
 | .bool b=>vP (.bl b) x
 | .int i _=>vP (.int i) x
 | .str z _=>vP (.str z) x
 |_=>false
def oB (r:RelV y u)(f:tX y=true):jC x u=vP y x:=by
 cases y with
 |non=>cases r;rfl
 |bl b=>cases r;rfl
 |int i=>obtain⟨t,rfl⟩:=r;rfl
 |str z=>obtain⟨t,rfl⟩:=r;rfl
 |_=>exact AH (show false=true from f) fY
def Sv:∀{xs:AA V} {us:AA AC},Vals xs us->xs.all tX=true->us.any (jC x)=xs.any λy=>vP y x
 |_,_,.nil,_=>rfl
 |y::xs,u::us,.cons r t,f=>by
  rw[lL,cD]at f;rw[uA,uA,oB r f.1,Sv t f.2]
def Qd (rx:RelV x v)(fx:tX x=true):∀{xs:AA V} {us:AA AC},Vals xs us->xs.all tX=true->∀u∈us,SeqAt.EqAt A s u v (jC x u)
 |_,_,.nil,_=>λu hu=>by cases hu
 |y::xs,u::us,.cons r t,f=>λu' hu=>by
  rw[lL,cD]at f;rcases qaq.mp hu with rfl|hu
  ·rw[oB r f.1];exact Fi r rx f.1 fx
  ·exact Qd rx fx t f.2 u' hu
def lQ (x:V)(xs:AA V):Bool:=xs.any λy=>vP y x
def rIn (K:AF)(neg:Bool):R2:=λx y H Q=>∃p xs,y= .ref p/\(SqL K H p xs\/SqT K H p xs)/\tX x=true/\xs.all tX=true/\Q (.bl (if neg then !lQ x xs else lQ x xs)) H
def znV:OpR X (compareOp .In) (rIn X.K false):=by
 intro AM s σ H x y v u Q I rx ry h;obtain⟨p,xs,rfl,hq,fx,fs,q⟩:=h;cases ry;rcases hq with hq|hq
 ·obtain⟨its,r,pl,hz⟩:=I.list hq;refine SeqAt.in_listAt (jC x) pl.isList (λw hw=>Qd rx fx r fs w (~~~hw)) ⟨.bl _,H,I,rfl,?_⟩;rw[show its.toArray.any (jC x)=its.any (jC x) by simp,Sv r fs];exact q
 ·obtain⟨its,r,pl,hz⟩:=I.tuple hq;refine SeqAt.in_tupleAt (jC x) pl (λw hw=>Qd rx fx r fs w (~~~hw)) ⟨.bl _,H,I,rfl,?_⟩;rw[show its.toArray.any (jC x)=its.any (jC x) by simp,Sv r fs];exact q
def zkg:OpR X (compareOp .NotIn) (rIn X.K true):=by
 intro AM s σ H x y v u Q I rx ry h;obtain⟨p,xs,rfl,hq,fx,fs,q⟩:=h;cases ry;rcases hq with hq|hq
 ·obtain⟨its,r,pl,hz⟩:=I.list hq;refine SeqAt.notIn_listAt (jC x) pl.isList (λw hw=>Qd rx fx r fs w (~~~hw)) ⟨.bl _,H,I,rfl,?_⟩;rw[show its.toArray.any (jC x)=its.any (jC x) by simp,Sv r fs];exact q
 ·obtain⟨its,r,pl,hz⟩:=I.tuple hq;refine SeqAt.notIn_tupleAt (jC x) pl (λw hw=>Qd rx fx r fs w (~~~hw)) ⟨.bl _,H,I,rfl,?_⟩;rw[show its.toArray.any (jC x)=its.any (jC x) by simp,Sv r fs];exact q
def zgZ:iA X (.builtin "len") (λxs H Q=>∃p ys,xs=[.ref p]/\(SqL X.K H p ys\/SqT X.K H p ys)/\Q (.int ys.length) H):=by
 intro AM s σ H xs us Q I r h;obtain⟨p,ys,rfl,hq,q⟩:=h;obtain⟨u,rfl,rx⟩:=oU r;cases rx;have hn:=Fb;rcases hq with hq|hq
 ·obtain⟨its,r',pl,hz⟩:=I.list hq;have AO:=r'.length;exact Calls.call_len_list pl.isList (by simp only[bS]<;>lia) ⟨.int ys.length,H,I.tok _,⟨s.toks+1,by rw[bS,AO]⟩,q⟩
 ·obtain⟨its,r',pl,hz⟩:=I.tuple hq;have AO:=r'.length;exact len_tuple pl (by simp only[bS]<;>lia) ⟨.int ys.length,H,I.tok _,⟨s.toks+1,by rw[bS,AO]⟩,q⟩
def zkx:iA X (.type "list") (λxs H Q=>∃p ys,xs=[.ref p]/\(SqL X.K H p ys\/SqT X.K H p ys)/\∀l,H l=none->Q (.ref l) (upd H l (.lst ys))):=by
 intro AM s σ H xs us Q I r h;obtain⟨p,ys,rfl,hq,q⟩:=h;obtain⟨u,rfl,rx⟩:=oU r;cases rx;have fin:∀(its:AA AC),Vals ys its->ys.length<=sizeLine->∀(h':AK) (c':Nat),(∀b o',s.heap.get? b=some o'->h'.get? b=some o')->
   h'.get? s⁻¹=some {cls:= .type "list",dict:=none,data:= .seq its.toArray c',slots:= #[]}->EP X AM σ Q (.ref s⁻¹) {s with heap:=h'}:=λits r' hz h' c' kp e=>
  ⟨.ref s⁻¹,_,I.laid (t':=s.toks) kp (aY _) (show ObjOk X.prog X.w _ h' _ (.lst ys)from⟨hz,its,c',r',e⟩),rfl,q _ (I.hok.fresh (aY _))⟩
 rcases hq with hq|hq
 ·obtain⟨its,r',pl,hz⟩:=I.list hq;have AO:=r'.length;obtain⟨o,ho,hc,n,hd⟩:=pl.isList;exact call_list_seq p (.inl rfl) ho hc hd (λh' c' kp e=>fin its r' hz h' c' kp e) (by simp only[bS]<;>lia)
 ·obtain⟨its,r',pl,hz⟩:=I.tuple hq;have AO:=r'.length;obtain⟨o,ho,hc,n,hd⟩:=pl;exact call_list_seq p (.inr rfl) ho hc hd (λh' c' kp e=>fin its r' hz h' c' kp e) (by simp only[bS]<;>lia)
def zjw:iA X (.type "tuple") (λxs H Q=>∃p ys,xs=[.ref p]/\((SqL X.K H p ys/\∀l,H l=none->Q (.ref l) (upd H l (.tup ys)))\/(SqT X.K H p ys/\Q (.ref p) H))):=by
 intro AM s σ H xs us Q I r h;obtain⟨p,ys,rfl,h⟩:=h;obtain⟨u,rfl,rx⟩:=oU r;cases rx;rcases h with⟨hq,q⟩|⟨hq,q⟩
 ·obtain⟨its,r',pl,hz⟩:=I.list hq;have AO:=r'.length;refine call_tuple_list pl.isList (λh' kp=>?_) (by simp only[bS]<;>lia)
  have I1:Inv X AM σ H {s with heap:=h'}:=I.kept (t':=s.toks) kp;have I2:Inv X AM σ (upd H h'.objs.size (.tup ys)) {s with heap:=h'.push {cls:= .type "tuple",data:= .seq its.toArray}}:=
   I1.laid (t':=s.toks) (λb o e=>bP _ e) (aY _) (show ObjOk X.prog X.w _ _ _ (.tup ys)from⟨hz,its,r',IsTup.new _ _⟩)
  exact⟨.ref h'.objs.size,_,I2,rfl,q _ (I1.hok.fresh (aY _))⟩
 ·obtain⟨its,r',pl,hz⟩:=I.tuple hq;exact call_tuple_same pl ⟨.ref p,H,I,rfl,q⟩
def tyV (K:AF)(T:String)(x:V)(H:Hp):Prop:=match x with
 | .str _=>T="str"
 | .int _=>T="int"
 | .ref p=>(T="list"/\∃xs,SqL K H p xs)\/(T="tuple"/\∃o,K.lookup p=some o/\o.cls= .type "tuple"/\o.dict=none)\/
   (T="dict"/\((∃kvs,H p=some (.dK kvs))\/∃kvs,H p=some (.dT kvs)))\/(T="set"/\∃S n,H p=some (.set S n))
 |_=>False
def Na (I:Inv X AM σ H s)(r:RelV x v)(ty:tyV X.K T x H):
  s.TypeIs v T/\∀a,v= .ref a->∃ob,s.heap.get? a=some ob/\ob.dict=none:=by
 cases x with
 |str z=>
  obtain⟨t,rfl⟩:=r;cases(show T="str" from ty);exact⟨typeIs_str s z t,λ_ e=>nomatch e⟩
 |int i=>
  obtain⟨t,rfl⟩:=r;cases(show T="int" from ty);exact⟨typeIs_int s i t,λ_ e=>nomatch e⟩
 |ref p=>
  cases r;rcases ty with⟨rfl,xs,hq⟩|⟨rfl,o,hk,hc,hd⟩|⟨rfl,hk⟩|⟨rfl,S,n,hk⟩
  ·obtain⟨its,_,pl,_⟩:=I.list hq;refine⟨pl.isList.typeIs,λa e=>?_⟩;cases e;obtain⟨o,n,e,c,hd,_⟩:=pl;exact⟨o,e,hd⟩
  ·refine⟨⟨o,I.kIn p o hk,hc⟩,λa e=>?_⟩;cases e;exact⟨o,I.kIn _ o hk,hd⟩
  ·have z:∃o,s.heap.get? p=some o/\o.ExactDict:=by
    rcases hk with⟨kvs,hk⟩|⟨kvs,hk⟩
    ·obtain⟨_,_,_,_,o,_,_,e,ex,_⟩:=I.hok p _ hk;exact⟨o,e,ex⟩
    ·obtain⟨_,_,_,_,o,_,_,e,ex,_⟩:=I.hok p _ hk;exact⟨o,e,ex⟩
   obtain⟨o,e,ex⟩:=z;refine⟨⟨o,e,ex.1⟩,λa e2=>?_⟩;cases e2;exact⟨o,e,ex.2.1⟩
  ·obtain⟨o,_,_,_,e,ex,_⟩:=I.hok p _ hk;refine⟨⟨o,e,ex.1⟩,λa e2=>?_⟩;cases e2;exact⟨o,e,ex.2.1⟩
 |_=>exact False.elim ty
def tBM (K:AF)(T:String)(r:V->AA V->Hp->VK->Prop)(to:TE)(t:TA):TE:=λσ H Q=>to σ H λx H1=>tyV K T x H1/\t σ H1 λxs H2=>r x xs H2 Q
variable {o e:AI}{es:AA AI}{to:TE}{t:TA}{name:Str}{apos cpos:Pos}{T id:String}{r:V->AA V->Hp->VK->Prop}
def kO (pa:PlainAttrs T)(slot:Slot T name id)(hty:typeOf (.builtin id)=pure (.type "method_descriptor"))(hm:MtR X id r)(ho:PE X o to)(ha:PA X (e::es) t)(hbase:attributeBase o name X.env (eval o X.env)=eval o X.env:=by rfl)(hfew : ((backTo cpos (starEach (e :: es) X.env)).all (λx => !x.1) && (backToKw cpos (keywordEach [] X.env)).all (λx => x.1.isSome)
   &&decide ((e::es).length+([]:AA Keyword).length+(if([]:AA Keyword).isEmpty then 0 else 1)<30))=true:=by rfl)(hline:(apos.endLine==cpos.line)=true:=by rfl)(hs:starEach (e::es) X.env=(false,eval e X.env)::starEach es X.env:=by rfl)(hplain:(backTo cpos (starEach es X.env)).any (·.1)=false:=by rfl):
  PE X (.Call (.Attribute o name apos) (e::es) [] cpos) (tBM X.K T r to t):=by
 intro AM s σ H Q I h;refine wpAny_Call_method_late hbase hfew hline rfl (aS (ho AM s σ H _ I h) λv s1 ⟨x,H1,I1,r1,ty,q1⟩=>?_);obtain⟨h1,h2⟩:=Na I1 r1 ty;refine⟨T,id,pa,slot,hty,h1,h2,?_⟩;have hA:=ha cpos AM s1 σ H1 _ I1 q1;rw[hs]at hA ⊢;refine Calls.callWith_builtin (by show(false||(backTo cpos (starEach es X.env)).any (·.1))=false;rw[hplain]<;>rfl) (Calls.evalArgs_plain ?_)
 exact aS hA λus s2 ⟨vs,H2,I2,r2,q2⟩=>hm AM s2 σ H2 x vs v us Q I2 r1 r2 q2
end
def MtM (X:Cx)(id:String)(r:V->AA V->Hp->VK->Prop):Prop:=
 ∀(AM:AA (AD×Obj)) (s:AE) (σ:St) (H:Hp) (x:V) (xs:AA V) (v:AC) (us:AA AC) (Q:VK),Inv X AM σ H s->RelV x v->Vals xs us->r x xs H Q->
  AG (model X.prog X.w) X.A (call (.builtin id) (v::us)) (EP X AM σ Q) X.xe s
theorem Vals.one:∀{x:V} {us:AA AC},Vals [x] us->∃u,us=[u]/\RelV x u
 |_,_,.cons r .nil=>⟨_,rfl,r⟩
def Vals.two:∀{x y:V} {us:AA AC},Vals [x,y] us->∃u v,us=[u,v]/\RelV x u/\RelV y v
 |_,_,_,.cons r (.cons q .nil)=>⟨_,_,rfl,r,q⟩
def Vals.eraseIdx:∀{xs:AA V} {us:AA AC} (i:Nat),Vals xs us->Vals (xs.eraseIdx i) (us.eraseIdx i)
 |_,_,_,.nil=> .nil
 |_,_,0,.cons _ t=>t
 |_,_,i+1,.cons r t=> .cons r (Vals.eraseIdx i t)
def Vals.rep (h:Vals xs us):∀k,Vals (List.replicate k xs).flatten (List.replicate k us).flatten
 |0=> .nil
 |k+1=>by
  rw[yG,yG,Cy,Cy];exact Vals.append h (Vals.rep h k)
def zkU {α:Type}:∀(l:AA α) (i:Nat),(l.eraseIdx i).length<=l.length
 |[],_=>aY _
 |_::_,0=>Nat.le_succ _
 |_::r,i+1=>Nat.succ_le_succ (zkU r i)
def zkP (its:AA AC):∀(k:Nat) (acc:AA AC),
  List.foldl (λx1 x2=>x1++x2) acc.toArray (List.replicate k its.toArray)=(acc++(List.replicate k its).flatten).toArray
 |0,acc=>by simp
 |k+1,acc=>by
  have e:acc.toArray++its.toArray=(acc++its).toArray:=by simp
  have e2:(acc++its)++(List.replicate k its).flatten=acc++(List.replicate (k+1) its).flatten:=by
   rw[yG,Cy,qbw]
  rw[<-e2,<-zkP its k (acc++its),<-e,yG,qbx]
section
variable {X:Cx}{AM:AA (AD×Obj)}{σ:St}{H:Hp}{s:AE}{l b:AD}{xs ys zs:AA V}
def Inv.lset (I:Inv X AM σ H s)(hH:H l=some (.lst xs))(e:s.heap.get? l=some {cls:= .type "list",data:= .seq its.toArray n})(hf:f its.toArray=its'.toArray)(hv:Vals ys its')(hz:ys.length<=sizeLine):
  Inv X AM σ (upd H l (.lst ys)) {s with heap:=s.heap.update l (Obj.mapSeq f),toks:=t'}:=by
 have q:=PySem.IsL.update e f;rw[hf]at q;refine I.write (x:=l) (e:=l) (by rw[hH];exact trivial) (.inl rfl) (λb' u hb hu=>(vA s.heap (Obj.mapSeq f) (Ne.symm hb)).trans hu) ⟨_,q⟩ ?_;exact⟨hz,its',_,hv,q⟩
def Inv.lnew (I:Inv X AM σ H s)(hv:Vals ys its)(hz:ys.length<=sizeLine):
  Inv X AM σ (upd H s⁻¹ (.lst ys)) {s with heap:=s.heap.push {cls:= .type "list",data:= .seq its.toArray},toks:=t'}:=
 I.laid (λ_ _ q=>bP _ q) (aY _) ⟨hz,its,0,hv,dO _ rfl⟩
def Inv.fresh (I:Inv X AM σ H s):H s⁻¹=none:=I.hok.fresh (aY _)
def Inv.lstM (I:Inv X AM σ H s)(hH:H l=some (.lst xs)):xs.length<=sizeLine/\∃(its:AA AC) (n:Nat),Vals xs its/\xs.length=its.length/\s.heap.get? l=some {cls:= .type "list",data:= .seq its.toArray n}:=by
 obtain⟨z,its,n,r,e⟩:=I.hok l _ hH;exact⟨z,its,n,r,r.length,e⟩
def zmA (h:n<=sizeLine):Builtin.List.listTooLong n=false:=by
 unfold Builtin.List.listTooLong;exact gQ ∅
end
section
variable {X:Cx}
def uK:V->AA V->Hp->VK->Prop:=λx vs H Q=>∃l xs y,x= .ref l/\vs=[y]/\H l=some (.lst xs)/\xs.length<sizeLine/\Q .non (upd H l (.lst (xs++[y])))
def zkZ:MtM X "list.append" uK:=by
 intro AM s σ H x vs v us Q I rx rv h;obtain⟨l,xs,y,rfl,rfl,hH,hz,q⟩:=h;cases rx;obtain⟨u,rfl,ru⟩:=rv.one;obtain⟨z,its,n,r,hl,e⟩:=I.lstM hH;refine Ph F.slot_list_append ⟨_,e,rfl⟩ F.entry_list_append (F.args_list_append_2 _ _) (PySem.list_append l its.toArray n u (by rw[bS];lia)) ⟨e,?_⟩;refine⟨.non,_,I.lset (its':=its++[u]) hH e (by simp) (r.append (.cons ru .nil)) ?_,rfl,q⟩;rw[iZ,List.length_singleton];lia
def zW:V->AA V->Hp->VK->Prop:=λx vs H Q=>∃l b xs zs,x= .ref l/\vs=[.ref b]/\H l=some (.lst xs)/\H b=some (.lst zs)/\xs.length+zs.length<=sizeLine/\Q .non (upd H l (.lst (xs++zs)))
def zpp:MtM X "list.extend" zW:=by
 intro AM s σ H x vs v us Q I rx rv h;obtain⟨l,b,xs,zs,rfl,rfl,hH,hB,hz,q⟩:=h;cases rx;obtain⟨u,rfl,ru⟩:=rv.one;cases ru;obtain⟨z,its,n,r,hl,e⟩:=I.lstM hH;obtain⟨z2,its2,n2,r2,hl2,e2⟩:=I.lstM hB;have hsz:its.toArray.size+its2.toArray.size<=sizeLine:=by rw[bS,bS];lia
 have hlong:¬(!its.toArray.isEmpty&&Builtin.List.listTooLong (its.toArray.size+its2.toArray.size))=true:=by
  rw[zmA hsz,Bool.and_false];exact fY
 refine Ph F.slot_list_extend ⟨_,e,rfl⟩ F.entry_list_extend (F.args_list_extend_2 _ _)
  (AutoSeq1.list_extend_list_list_0 l its.toArray n b its2.toArray n2 hlong (by rw[bS];lia) ∅) ⟨e,e2,?_⟩
 refine⟨.non,_,I.lset (its':=its++its2) hH e (by simp) (r.append r2) ?_,rfl,q⟩;rw[iZ];lia
def Jm:V->AA V->Hp->VK->Prop:=λx vs H Q=>∃l xs i k y,x= .ref l/\vs=[.int i]/\H l=some (.lst xs)/\ -(2^63)<=i/\i<2^63/\seqIndex? i xs.length=some k/\xs[k]? =some y/\Q y (upd H l (.lst (xs.eraseIdx k)))
def sW:MtM X "list.pop" Jm:=by
 intro AM s σ H x vs v us Q I rx rv h;obtain⟨l,xs,i,k,y,rfl,rfl,hH,h1,h2,hk,hy,q⟩:=h;cases rx;obtain⟨u,rfl,ru⟩:=rv.one;obtain⟨t,rfl⟩:=ru;obtain⟨z,its,n,r,hl,e⟩:=I.lstM hH;obtain⟨w,hw,rw'⟩:=r.get hy;refine Ph F.slot_list_pop ⟨_,e,rfl⟩ F.entry_list_pop (F.args_list_pop_2 _ _)
  (MeetsSeq.list_pop_at l its.toArray n i t k w (fitsIndex_both h1 h2) (by rw[bS,<-hl];exact hk) (by rw[<-Array.getElem?_toList];exact hw) (by rw[bS];lia)) ⟨e,?_⟩
 refine⟨y,_,I.lset (its':=its.eraseIdx k) hH e ?_ (r.eraseIdx k) ?_,rw',q⟩
 ·show its.toArray.eraseIdxIfInBounds k=(its.eraseIdx k).toArray;rw[List.eraseIdxIfInBounds_toArray]
 ·have:=zkU xs k;lia
def rCat:R2:=λx y H Q=>∃l b xs zs,x= .ref l/\y= .ref b/\H l=some (.lst xs)/\H b=some (.lst zs)/\xs.length+zs.length<=sizeLine/\∀p,H p=none->Q (.ref p) (upd H p (.lst (xs++zs)))
def op_cat:OpR X (binaryOp .Add) rCat:=by
 intro AM s σ H x y v u Q I rx ry h;obtain⟨l,b,xs,zs,rfl,rfl,hH,hB,hz,q⟩:=h;cases rx;cases ry;obtain⟨z,its,n,r,hl,e⟩:=I.lstM hH;obtain⟨z2,its2,n2,r2,hl2,e2⟩:=I.lstM hB;refine PySem.P.add_list e e2 ?_ (by rw[bS,bS];lia);have ea:its.toArray++its2.toArray=(its++its2).toArray:=by simp
 rw[ea];exact⟨.ref _,_,I.lnew (t':=s.toks) (r.append r2) (by rw[iZ];lia),rfl,q _ I.fresh⟩
def rRep:R2:=λx y H Q=>∃l k xs,x= .ref l/\y= .int k/\H l=some (.lst xs)/\ -(2^63)<=k/\k<2^63/\xs.length*k.toNat<=sizeLine/\
 ∀p,H p=none->Q (.ref p) (upd H p (.lst (List.replicate k.toNat xs).flatten))
def Af {α:Type}(xs:AA α)(k:Nat):(List.replicate k xs).flatten.length=k*xs.length:=by
 induction k with
 |zero=>simp
 |succ k ih=>rw[yG,Cy,iZ,ih,Nat.succ_mul,Nat.add_comm]
def pK:OpR X (binaryOp .Mult) rRep:=by
 intro AM s σ H x y v u Q I rx ry h;obtain⟨l,k,xs,rfl,rfl,hH,h1,h2,hz,q⟩:=h;cases rx;obtain⟨t,rfl⟩:=ry;obtain⟨z,its,n,r,hl,e⟩:=I.lstM hH;have AO:its.toArray.size*k.toNat<=sizeLine:=by rw[bS,<-hl];exact hz
 have hcap:¬its.toArray.size*k.toNat>(2^63-1)/8:=by
  have:(sizeLine:Nat)<=(2^63-1)/8:=by decide
  lia
 have hfit:¬(!Builtin.List.listFitsIndex k)=true:=by
  rw[fitsIndex_both h1 h2];exact fY
 have hlong:¬Builtin.List.listTooLong (its.toArray.size*k.toNat)=true:=by
  rw[zmA AO];exact fY
 have hnew:List.foldl (λx1 x2=>x1++x2) #[] (List.replicate (if its.toArray.isEmpty=true then 0 else k.toNat) its.toArray)=(List.replicate k.toNat its).flatten.toArray:=by
  have f0:∀m,List.foldl (λx1 x2=>x1++x2) #[] (List.replicate m its.toArray)=(List.replicate m its).flatten.toArray:=λm=>by
   have:=zkP its m [];rw[List.nil_append]at this;exact this
  rw[f0];cases its with
  |nil=>simp
  |cons a r'=>rw[if_neg (by simp)]
 refine wpAny_binaryOp_repeat_ref (T:="list") (U:="int") (by decide) ⟨_,e,rfl⟩ (λs'=>typeIs_int s' k t) noFill_list_mul F.fills_int_mul F.slot_int_rmul repeat_list F.slot_int_index.lookup
  (Ph F.slot_int_rmul (typeIs_int s k t) F.entry_int_rmul (F.args_int_rmul_2 _ _) (int___rmul___int_list k t l its.toArray n)
   ⟨e,rfl,⟨_,e,rfl⟩,Ph F.slot_list_mul ⟨_,e,rfl⟩ F.entry_list_mul (F.args_list_mul_2 _ _) (AutoListH.list___mul___list_int_3 l its.toArray n k t hfit hcap hlong) ⟨e,?_⟩⟩)
 rw[hnew];exact⟨.ref _,_,I.lnew (t':=s.toks) (r.rep k.toNat) (by rw[Af,Nat.mul_comm];exact hz),rfl,q _ I.fresh⟩
end
end L2
namespace Att
open PyProof.Rows PySem PySem.Calls PySem.W
def zhM :∀(ns:AA Int) (vs:AA AC),WellAll P h vs (ns.map WData.int)->IntsAre vs ns:=by
 intro ns
 induction ns with
 |nil=>
  intro vs w;rw[List.map_nil]at w;cases w;exact .nil
 |cons n ns ih=>
  intro vs w;rw[eV]at w;cases w with
  |cons a b=>
   cases a;exact .cons _ _ (ih _ b)
theorem zoJ {l:OpenLaw}{n:Nat}(hn:l.most=some n){P:Params}{h:AK}{args:AA WData}{vals:AA AC}(hpre:l.row.toRowW.claim.pre args=true)(hwl:WellAll P h vals args):
  ∃a vs ns,vals=[Value.ref a]/\args=[WData.list (ns.map WData.int)]/\h.get? a=some {cls:= .type "list",data:= .seq vs.toArray}/\IntsAre vs ns/\ns.length<=n:=by
 have hsh:WShape.hasAll [] args [.list .int]=true:=(pre_splitW hpre).1;have hc:l.pre.holds [] {args:=args}=true:=(pre_splitW hpre).2;obtain⟨d,r,rfl,h1,h2⟩:=hasAllW_cons hsh;obtain rfl:=hasAllW_nil h2;obtain⟨xs,rfl,h3⟩:=hasW_list h1;obtain⟨ns,rfl⟩:=items_int h3;have AO:ns.length<=n:=by
  unfold OpenLaw.pre at hc;have h4:(WTm.not (.lt (.lit (.int (n:Int))) (.len (.arg 0)))).holds [] {args:=[.list (ns.map .int)]}=true:=by
   have h4:=(holds_andW hc).1;rw[hn]at h4;exact h4
  have h5:=condW_of h4 (w_not (w_lt w_lit (w_len_list (w_arg rfl))));rw[cO]at h5;refine Nat.le_of_not_lt λq=>?_
  have q':(n:Int)<((ns.length:Nat):Int):=∅
  first
   |(rw[fL q']at h5;exact AH h5 (by decide))
   |(simp at h5;lia)
 cases hwl with
 |cons w1 w2=>
  cases w2;cases w1 with
  |list ho hall=>exact⟨_,_,ns,rfl,rfl,ho,zhM ns _ hall,AO⟩
def zpD (l:OpenLaw)(args:AA WData):l.row.toRowW.claim.post args (.bool true) args=true:=
 postW_of (r:=l.row.toRowW) (X:=(true==true))
  (show WShape.has [] (.bool true) .bool=true by first|rfl|decide|simp[WShape.has,WShape.arms,WShape.armsAll])
  (show(WTm.eq .res (.lit (.bool true))).value [] {args:=args,res:=some (.bool true),after:=args}=some (.bool (true==true))from w_eq_bool (w_res rfl) w_lit) rfl
theorem attach_call {l:OpenLaw}{n:Nat}{q:AJ}{loose:AA Str}{XP:(Str->AB AC)->AK->Prop}{YP:World->AK->Prop}{d:DefRec}(hn:l.most=some n)(hdf:d.params.defaults=[])(call : ∀ (w : World) (s₀ s₁ : AE) (mg mb : Str -> AB AC) (fa : AD) (o : Obj) (pm cd doc : AC) (a : AD) (vs : AA AC) (ns : AA Int),
   Ground q loose [] XP w s₀ mg mb s₁.heap->YP w s₁.heap->
   s₁.heap.get? fa=some o->o.data= .func (docDef d.name d.params d.body d.scope pm cd doc)->s₁.heap.CodeRec cd d.name->mg d.name=some (.ref fa)->
   s₁.heap.get? a=some {cls:= .type "list",data:= .seq vs.toArray}->IntsAre vs ns->ns.length<=n->s₁.gens= #[]->
   codeAny (model l.prog w) callerA (.call (.ref fa) ⟨[.ref a],[]⟩) (λr s'=>r= .ok (.ret (.bool true))/\OldK s₁.heap s'.heap/\s'.os=s₁.os/\AllBare s'.gens) s₁):
  WalkO q loose XP YP l.row.toRowW d [] (λf vs=>PySem.call f vs):=by
 intro w s₀ s₁ mg mb G Y fa o pm cd doc dV kV ho hd hcd hD hmg hg args vals as hpre hlay hrd hwl hlo;obtain rfl:dV= .none:=Dflts.none hD hdf;obtain rfl:kV= .none:=Dflts.noKw hD;obtain⟨a,vs,ns,rfl,rfl,hobj,hints,AO⟩:=zoJ hn hpre hwl;refine enter_call (codeAny_mono (call w s₀ s₁ mg mb fa o pm cd doc a vs ns G Y ho (fd_plain hd) hcd hmg hobj hints AO hg) λr s' hq=>?_);obtain⟨rfl,h2,h3,h4⟩:=hq;exact⟨.inl ⟨.bool true,.bool true,[],rfl,λ_=>rfl,.bool true,zpD l _,λ_=>⟨List.Pairwise.nil,λ_ hm=>(nomatch hm)⟩⟩,h2,h3,h4⟩
end Att
namespace L2
open PyProof.Rows PySem PySem.Spec
variable {w:World}{CX:World->uS}{k:Nat}{fd:FuncData}{x qual:Str}{sp:Sp}{vs:AA AC}{ns:AA Int}{l:W.OpenLaw}{q prog:AJ}{loose ps:AA Str}{XP:(Str->AB AC)->AK->Prop}{YP:World->AK->Prop}{d:DefRec}{f:AD}{oc u:AC}{osl:Array (AB AC)}{xs:AA V}{o:AB V}{y:V}{h':AK}{A:Around}{E Q:AC->AE->Prop}{s:AE}
def Zp:∀{vs:AA AC} {ns:AA Int},IntsAre vs ns->Vals (ns.map V.int) vs
 |_,_,.nil=> .nil
 |_,_,.cons n t h=> .cons ⟨t,rfl⟩ (Zp h)
def Le (H:Hp):Prop:=∀b,H b=none\/∃o xs,H b=some (.frz o (.lst xs))
theorem rW {P:AJ}{K:AF}{mg mb:Str->AB AC}{CX:uS}{fa a:AD}{s₁:AE}(KX:K.In s₁.heap)(hns:s₁.heap.Ns AL mg)(hb:s₁.heap.Ns builtinsNs mb)(hbb:∀x:Str,x≠"__name__"->mb x=bootBuiltins x)(hlim:s₁.heap.NoLimit)(hg:s₁.gens= #[])(ha:s₁.heap.get? a=some {cls:= .type "list",data:= .seq vs.toArray})(hi:IntsAre vs ns)(hl:ns.length<=sizeLine)(hr:Room k callerA)(F:∀base:AK,K.In base->base.Ns AL mg->FnOk P w K mg base CX k fa fd [x] sp)(hbind:∀(s:AE) (u:AC),BindsTo s fd ⟨[u],[]⟩ [(x,u)])(hsp:∀H:Hp,Le H->SqL K H a (ns.map V.int)->sp [.ref a] H (λv _=>v= .bl true) λ_ _ _=>False)(hCX:∀H e s',CX [] H s₁ (λ_ _ _=>False) e s'->False):
  codeAny (model P w) callerA (.call (.ref fa) ⟨[.ref a],[]⟩) (λr s'=>r= .ok (.ret (.bool true))/\OldK s₁.heap s'.heap/\s'.os=s₁.os/\AllBare s'.gens) s₁:=by
 have rv:=Zp hi;have lenV:=hi.length;have core:∀H:Hp,Le H->SqL K H a (ns.map V.int)->HOk P w H s₁.heap->(∀b,H b≠none->b=a)->(H a≠none->K.lookup a=none)->
   codeAny (model P w) callerA (.call (.ref fa) ⟨[.ref a],[]⟩) (λr s'=>r= .ok (.ret (.bool true))/\OldK s₁.heap s'.heap/\s'.os=s₁.os/\AllBare s'.gens) s₁:=by
  intro H hO hS hok hA hK;have base_of:∀{b:AD} {o:Obj},s₁.heap.get? b=some o->H b=none->(gP s₁.heap H).get? b=some o:=λe n=>mJ e n
  have noA:∀{b:AD} {o:Obj} {es:Array DictEntry} {ep:Nat},s₁.heap.get? b=some o->o.data= .dict es ep->H b=none:=λ{b o es ep} e d=>by
   cases q:H b with
   |none=>rfl
   |some u=>
    have e':b=a:=hA b (by rw[q];simp);subst e';rw[ha]at e;cases e;have d':Data.seq vs.toArray _=Data.dict es ep:=d;cases d'
  have nsK:∀{b:AD} {m:Str->AB AC},s₁.heap.Ns b m->(gP s₁.heap H).Ns b m:=λ{b m} ⟨o,es,ep,e,d,r⟩=>⟨o,es,ep,base_of e (noA e d),d,r⟩
  have hKb:K.In (gP s₁.heap H):=λb o e=>base_of (KX b o e) (by
   cases q:H b with
   |none=>rfl
   |some u=>
    have e':b=a:=hA b (by rw[q];simp);subst e';rw[hK (by rw[q];simp)]at e;cases e)
  have hM:Mod K mg (gP s₁.heap H):=⟨hKb,nsK hns,⟨mb,nsK hb,hbb⟩,let⟨mc,h1,h2⟩:=hlim;⟨mc,nsK h1,h2⟩⟩;have e0:Env0 P w K mg (gP s₁.heap H) callerA [] s₁ H:=⟨rfl,hM,λb o e=>Aq e,Nat.le_of_eq (znE _ _),trivial,λb hb=>AH (show b∈([]:AA AD)from hb) (by simp),hok,.of_eq hg⟩;refine codeAny_mono ((F _ hKb (nsK hns)).run callerA [] s₁ H ⟨[.ref a],[]⟩ [.ref a] [.ref a] _ _ hr e0 (hbind s₁ (.ref a)) (.cons rfl .nil) (hsp H hO hS)) λr s' h=>?_
  cases r with
  |error e=>exact(hCX H e s' h).elim
  |ok fl=>
   cases fl with
   |next=>exact False.elim h
   |brk=>exact False.elim h
   |cont=>exact False.elim h
   |ret u=>
    obtain⟨v,H',os,bare,un,hok',r',q⟩:=h;have q':v= .bl true:=q;subst q';obtain rfl:u=Value.bool true:=r';refine⟨rfl,OldK.of_keep λb o e=>?_,os,bare⟩;cases q:H b with
    |none=>exact un.keep b o e q (by intro z;exact AH (show b∈([]:AA AD)from z) (by simp)) (by simp)
    |some u=>
     rcases hO b with z|⟨ob,xs,z⟩
     ·rw[q]at z;cases z
     ·have z2:=un.frzs b ob _ z;obtain⟨e1,_⟩:=hok b _ z;obtain⟨e2,_⟩:=hok' b _ z2;rw[e]at e1;cases e1;exact e2
 cases hk:K.lookup a with
 |some o=>
  have e:=KX a o hk;rw[ha]at e;cases e;refine core (λ_=>none) (λ_=> .inl rfl) (.inr ⟨_,vs.toArray,_,hk,rfl,rfl,rfl,by rw[bS,lenV];exact hl,~~~rv⟩) (λb u z=>by have z':(none:AB HO)=some u:=z;cases z') (λb z=>AH rfl z) λz=>AH rfl z
 |none=>
  refine core (λb=>if b=a then some (.frz {cls:= .type "list",data:= .seq vs.toArray} (.lst (ns.map V.int)))else none) (λb=>?_) (.inl (.inr ⟨{cls:= .type "list",data:= .seq vs.toArray},if_pos rfl⟩)) (λb u z=>?_) (λb z=>?_) λ_=>hk
  ·by_cases hb:b=a
   ·exact .inr ⟨_,_,if_pos hb⟩
   ·exact .inl (if_neg hb)
  ·by_cases hb:b=a
   ·have z':=(if_pos hb).symm.trans z;cases z';subst hb;exact⟨ha,by rw[cO];exact hl,vs,_,rv,ha⟩
   ·have z':=(if_neg hb).symm.trans z;cases z'
  ·by_cases hb:b=a
   ·exact hb
   ·exact AH (if_neg hb) z
theorem wK {n k:Nat}{K:Params->AF}{sp:World->Sp}(hn:l.most=some n)(hn2:n<=sizeLine)(hdf:d.params.defaults=[])(hr:Room k callerA)(hY:∀(w:World) (h:AK),YP w h->(K w.params).In h)(F : ∀ (w : World) (mg : Str -> AB AC) (fa : AD) (h : AK), (K w.params).In h -> h.Ns AL mg -> mg d.name = some (.ref fa) ->
   ∃fd:FuncData,(∀(s:AE) (u:AC),BindsTo s fd ⟨[u],[]⟩ [(x,u)])/\
    ∀base:AK,(K w.params).In base->base.Ns AL mg->FnOk l.prog w (K w.params) mg base (CX w) k fa fd [x] (sp w))(hsp:∀(w:World) (H:Hp) (a:AD) (ns:AA Int),ns.length<=n->Le H->SqL (K w.params) H a (ns.map V.int)->sp w [.ref a] H (λv _=>v= .bl true) λ_ _ _=>False)(hCX:∀(w:World) (H:Hp) (s:AE) (e:AC) (s':AE),CX w [] H s (λ_ _ _=>False) e s'->False):
  W.WalkO q loose XP YP l.row.toRowW d [] (λf vs=>PySem.call f vs):=by
 refine Att.attach_call hn hdf λw s₀ s₁ mg mb fa o pm cd doc a vs ns G Y ho hd hcd hmg hobj hints AO hg=>?_
 have KX:=hY w _ Y;obtain⟨fd,hb,hF⟩:=F w mg fa _ KX G.T.g hmg;exact rW KX G.T.g G.T.b G.T.builtins G.T.nolimit hg hobj hints (bO AO hn2) hr hF hb (λH hO hS=>hsp w H a ns AO hO hS) λH e s'=>hCX w H s₁ e s'
def Cn (s:Stmt)(j:Nat):Stmt:=match s with
 | .ClassDef _ _ _ body _ _ _ _ _ _ _=>body.getD j (.Pass ⟨0,0,0,0⟩)
 |_=> .Pass ⟨0,0,0,0⟩
def za7 (s:Stmt):Arguments:=match s with
 | .FunctionDef _ a _ _ _ _ _ _ _ _=>a
 |_=>{posonlyargs:=[],args:=[],vararg:=none,kwonlyargs:=[],kw_defaults:=[],kwarg:=none,defaults:=[]}
def zaH (s:Stmt):AA Stmt:=match s with
 | .FunctionDef _ _ b _ _ _ _ _ _ _=>b
 |_=>[]
def zao (s:Stmt):Scope:=match s with
 | .FunctionDef _ _ _ _ _ _ sc _ _ _=>sc
 |_=>{kind:= .function,names:=[],isGenerator:=false,isCoroutine:=false}
abbrev gX:uS:=λ_ _ _ _ _ _=>False
abbrev E0:XK:=λ_ _ _=>False
def tW :Es gX X E0:=λ_ _ _ _ _ _ _ h=>h.elim
structure Fun (K:W.Frag)(x qual:Str)(st:Stmt)(f:Addr)(fd:FuncData):Prop where
 ex:∃(oc:Value) (od:Option Addr) (kV doc pm:Value) (an:Option Addr) (cdv ct:Value) (osl:Array (Option Value)),
  fd=W.fnOf x qual (za7 st) (zaH st) (zao st) .none kV doc pm an cdv ct/\K.lookup f=some ⟨oc,od,.func fd,osl⟩/\W.codeIn K cdv qual=true
 kp:W.keepIn K (.ref f)=true
section
variable {P:AJ}{w:World}{K:AF}{mg:Str->AB AC}{base:AK}
theorem Fun.ok {st:Stmt}{N ps:AA Str}(F:Fun K x qual st f fd)(S:FnScope N ps (zao st))(len:∀vs H Q E,sp vs H Q E->vs.length=ps.length)(hbody : ∀ (cdv : AC) (A : Around) (outer : AA Env) (s : AE) (H : Hp) (vs : AA V) (Q : VK) (E : XK), Room k (A.deeper (envOfC qual (zao st) s⁻¹ f cdv)) -> sp vs H Q E ->
   ∃t,PSs (fC gX P w K mg base N qual (zao st) f cdv A outer s H E).nox (zaH st) t/\t {nx:=λ_ H'=>Q .non H',rt:=Q} (start N vs) H):FnOk P w K mg base gX (k+1) f fd ps sp:=by
 obtain⟨oc,od,kV,doc,pm,an,cdv,ct,osl,rfl,lk,hcd⟩:=F.ex;refine Qc lk hcd S len λA outer s H vs Q E hr hsp=>?_
 obtain⟨t,h,q⟩:=hbody cdv A outer s H vs Q E hr hsp;exact⟨t,h.nox,q⟩
theorem Fun.binds {st:Stmt}(F:Fun K x qual st f fd)(h:∀(kV doc pm:AC) (an:AB AD) (cdv ct:AC) (us:AA AC),us.length=ps.length->bindArgs (W.fnOf x qual (za7 st) (zaH st) (zao st) .none kV doc pm an cdv ct) ⟨us,[]⟩=pure (ps.zip us)):Binds K fd ps []:=by
 obtain⟨oc,od,kV,doc,pm,an,cdv,ct,osl,rfl,lk,hcd⟩:=F.ex;exact .all (h kV doc pm an cdv ct)
theorem zoH {st:Stmt}{od an:AB AD}{kV doc pm cdv ct:AC}(l:K.lookup f=some ⟨oc,od,.func (W.fnOf x qual (za7 st) (zaH st) (zao st) .none kV doc pm an cdv ct),osl⟩)(c:W.codeIn K cdv qual=true)(k:W.keepIn K (.ref f)=true):Fun K x qual st f (W.fnOf x qual (za7 st) (zaH st) (zao st) .none kV doc pm an cdv ct):=⟨⟨oc,od,kV,doc,pm,an,cdv,ct,osl,rfl,l,c⟩,k⟩
end
def Same (H H':Hp):Prop:=∀b o,H b=some o->H' b=some o
theorem Same.seq {K:AF}{H H':Hp}{a:AD}(e:Same H H')(h:SqL K H a xs):SqL K H' a xs:=by
 rcases h with(h|⟨o,h⟩)|h
 ·exact .inl (.inl (e _ _ h))
 ·exact .inl (.inr ⟨o,e _ _ h⟩)
 ·exact .inr h
section
variable {κ:Type}[DecidableEq κ]
def eK (kvs:AA (κ×V))(k:κ):AB V:=(kvs.find? λkv=>decide (kv.1=k)).map (·.2)
def eL (kvs:AA (κ×V))(k:κ)(v:V):AA (κ×V):=
 if(kvs.any λkv=>decide (kv.1=k))=true then kvs.map (λkv=>if kv.1=k then(kv.1,v)else kv)else kvs++[(k,v)]
def zl0 {k:κ}(e:p.1=k):eK (p::r) k=some p.2:=by simp[eK,Km,e]
def zjY {k:κ}(e:¬p.1=k):eK (p::r) k=eK r k:=by simp[eK,Km,e]
def zlv (kvs:AA (κ×V))(k:κ)(v:V):(eL kvs k v).length<=kvs.length+1:=by
 unfold eL
 split
 ·rw[cO];lia
 ·rw[iZ,eS,qbc];lia
def RelO.isSome_eq {u:AB AC}(r:RelO o u):o.isSome=u.isSome:=by
 cases o with
 |none=>cases u with
  |none=>rfl
  |some _=>exact(show False from r).elim
 |some _=>cases u with
  |none=>exact(show False from r).elim
  |some _=>rfl
theorem KV.val {kvs:AA (κ×V)}{vs:AA (κ×AC)}(r:KV kvs vs)(k:κ):RelO (eK kvs k) (valueAt vs k):=by
 unfold KV at r
 induction r with
 |nil=>exact True.intro
 | @cons p q ps qs h t ih=>
  obtain⟨h1,h2⟩:=h
  by_cases e:p.1=k
  ·have e':q.1=k:=h1.symm.trans e;have b:valueAt (q::qs) k=some q.2:=by simp[valueAt,Km,e']
   rw[zl0 e,b];exact h2
  ·have e':¬q.1=k:=λz=>e (h1.trans z)
   have b:valueAt (q::qs) k=valueAt qs k:=by simp[valueAt,Km,e']
   rw[zjY e,b];exact ih
def KV.any {vs:AA (κ×AC)}(r:KV kvs vs)(k:κ):(kvs.any λkv=>decide (kv.1=k))=vs.any λkv=>decide (kv.1=k):=by
 unfold KV at r
 induction r with
 |nil=>rfl
 |cons h t ih=>rw[uA,uA,ih,h.1]
def KV.repl {vs:AA (κ×AC)}(r:KV kvs vs)(k:κ)(ry:RelV y u):
  KV (kvs.map λkv=>if kv.1=k then(kv.1,y)else kv) (vs.map λkv=>if kv.1=k then(kv.1,u)else kv):=by
 unfold KV at r ⊢
 induction r with
 |nil=>exact .nil
 | @cons p q ps qs h t ih=>
  rw[eV,eV];refine .cons ?_ ih;obtain⟨h1,h2⟩:=h
  by_cases e:p.1=k
  ·rw[if_pos e,if_pos (h1.symm.trans e)];exact⟨h1,ry⟩
  ·rw[if_neg e,if_neg (λz=>e (h1.trans z))];exact⟨h1,h2⟩
def KV.put {vs:AA (κ×AC)}(r:KV kvs vs)(k:κ)(ry:RelV y u):KV (eL kvs k y) (stored vs k u):=by
 unfold eL stored;rw[r.any k]
 by_cases e:(vs.any λkv=>decide (kv.1=k))=true
 ·rw[if_pos e,if_pos e];exact r.repl k ry
 ·rw[if_neg e,if_neg e];exact Paired.snoc r ⟨rfl,ry⟩
def KV.keys {vs:AA (κ×AC)}(r:KV kvs vs):kvs.map (·.1)=vs.map (·.1):=by
 unfold KV at r
 induction r with
 |nil=>rfl
 |cons h t ih=>rw[eV,eV,ih,h.1]
theorem KV.length {kvs:AA (κ×V)}{vs:AA (κ×AC)}(r:KV kvs vs):kvs.length=vs.length:=Paired.length r
end
def Uu {k:cP}(r:RelV (kV k) u):(kD P w).is k u=true:=by
 cases k with
 |inl i=>obtain⟨t,e⟩:=(show ∃t,u=Value.int i t from r);subst e;exact zlF P w i t
 |inr x=>obtain⟨t,e⟩:=(show ∃t,u=Value.str x t from r);subst e;exact zlB P w x t
section
variable {X:Cx}{AM:AA (AD×Obj)}{σ:St}{H:Hp}{s:AE}{a:AD}{y v:V}{u r:AC}{o:AB V}{A:Around}{E:AC->AE->Prop}
def Inv.big (I:Inv X AM σ H s):sysModules<s⁻¹:=by
 have h:AL<s⁻¹:=(I.mod.glob.keeps I.bk).lt;exact Nat.lt_trans (by decide) h
def wW (I:Inv X AM σ H s)(mu:Wu (H a))(hs:Heap.SameBut a s.heap h')(he:∃q,h'.get? a=some q)(new:ObjOk X.prog X.w (upd H a ob) h' a ob):
  Inv X AM σ (upd H a ob) {s with heap:=h',toks:=t'}:=
 I.write (x:=a) (e:=a) mu (.inl rfl) (λb q hb z=>(hs.2 b hb).trans z) he new
end
def Fu (i:AI):Prop:=∀ov iv,subscripted i false ov iv=operate [ov,iv] (getItem ov iv)
theorem uT {env:Env}{value slice:AI}{pos:Pos}{T id:String}(hl:typeLookup (.type T) "__getitem__"=pure (some (.builtin id)))(hs:Fu slice)(h:AG (model prog w) A (eval value env) (λo s₁=>AG (model prog w) A (eval slice env) (λi s₂=>s₂.TypeIs o T/\AG (model prog w) A (getItem o i) Q E s₂) E s₁) E s):
  AG (model prog w) A (eval (.Subscript value slice pos) env) Q E s:=by
 refine Subscript_ (jT h (λo s₁ h₁=>jT h₁ (λi s₂ h₂=>?_) λ_ _ x=>x) λ_ _ x=>x);obtain⟨hT,h₂⟩:=h₂;unfold subscriptTail;refine aJ ?_;rw[getitemInPython_of_ne hT.not_modules];refine aJ (wpAny_specialOf hT hl ?_);have fin:AG (model prog w) A (subscripted slice false o i) (λr s₃=>AG (model prog w) A (letTemporaryGo value o r>>=λ_=>pure r) Q E s₃) E s₂:=by
  rw[hs o i];exact wpAny_operating (jT h₂ (λr s₃ h₃=>aJ (wpAny_letTemporaryGo (qaF h₃))) λ_ _ x=>x)
 first
  |exact qaF (aJ fin)
  |exact aJ (qaF (aJ fin))
  |exact aJ fin
end L2
namespace M
open L2 PySem
variable {C:Prop}{c:Ch}{G G' H:Hp}{o:Obj}{xs ys:AA V}{ks:AA (AA Int)}{A A':AA AD}{p l:AD}{x v:V}{d:D}{ds es:AA D}{i:Nat}{ls:AA (AA D)}{dk:AB (AA Int×AA D)}{t:T}{ov:AB (AB V)}{s:Sl}{X:Cx}{e:AI}{m:MO}{ρ ρ':R}{f:D->D->AB D}{ma:ME}{op:Operator}{r:V->Hp->VK->Prop}{g:D->AB D}
theorem aP {α β:Type}{o:AB α}{f:α->AB β}{b:β}(h:o.bind f=some b)(k:∀a,o=some a->f a=some b->C):C:=by
 cases o with
 |none=>cases h
 |some a=>exact k a rfl h
theorem aZ {α α' β:Type}{o:AB (α×α')}{f:α×α'->AB β}{b:β}(h:o.bind f=some b)(k:∀x y,o=some (x,y)->f (x,y)=some b->C):C:=aP h λa=>k a.1 a.2
theorem bB {α β:Type}{o:AB α}{f:α->β}{b:β}(h:o.map f=some b)(k:∀a,o=some a->f a=b->C):C:=by
 cases o with
 |none=>cases h
 |some a=>exact k a rfl (Option.some.inj h)
theorem iM {α α' β:Type}{o:AB (α×α')}{f:α×α'->β}{b:β}(h:o.map f=some b)(k:∀x y,o=some (x,y)->f (x,y)=b->C):C:=bB h λa=>k a.1 a.2
theorem aG {α:Type}{a:α}(h:none=some a):C:=by cases h
theorem bM {α β:Type}{a c:α}{b d:β}(h:some (a,b)=some (c,d)):a=c/\b=d:=by cases h;exact⟨rfl,rfl⟩
theorem aT {α:Type}{c:Prop}[Decidable c]{a:AB α}{b:α}(h:(if c then a else none)=some b)(k:c->a=some b->C):C:=by
 by_cases z:c
 ·rw[if_pos z]at h;exact k z h
 ·rw[if_neg z]at h;exact aG h
inductive D where
 |non|bl (b:Bool)|int (i:Int)|str (x:Str)|lst (ds:List D)|tup (ds:List D)|scr (ns:List Int)|exc (c:Str)|dic (ks:List Int) (ds:List D)|dit (ks:List (List Int)) (ds:List D)|obj (c:Str) (ns:List Str) (ls:List D) (ks:List Int) (ds:List D)
def Wg (a C:AD)(h:AK):Prop:=∃o,h.get? a=some o/\o.cls= .ref C
def kI (n:Int):cP:=Sum.inl n
def kn (a:AD)(o:Obj):HO:= .ext (λh=>h.get? a=some o)
def hI:cP->Int
 | .inl k=>hashInt k
 | .inr _=>0
def DtN (o:Obj)(xs:AA (AA cP×AD×AC)):Prop:=o.ExactDict/\(∃es ep,o.data= .dict es ep/\es.toList=xs.map λx=>⟨reduceHash (Builtin.Tuple.tupleHashOf (x.1.map hI)),.ref x.2.1,x.2.2⟩)/\(xs.map (·.1)).Nodup
structure DtI (G:Hp)(a:Addr)(o:Obj)(xs:List (List cP×Addr×Value))(ks:List (List Int))(ys:List (List cP×V)):Prop where
 sys:(a==sysModules)=false
 dn:DtN o xs
 len:ys.length<=sizeLine
 key:ys.map (·.1)=ks.map (·.map kI)
 kt:Paired (λ(p:List cP×V) (q:List cP×Addr×Value)=>p.1=q.1/\G q.2.1=some (.tup (p.1.map kV))/\RelV p.2 q.2.2) ys xs
structure DkN (a:Addr)(o:Obj)(zs:List (Int×Tok×Value))(ks:List Int)(ys:List (cP×V)):Prop where
 sys:(a==sysModules)=false
 ex:o.ExactDict
 dat:∃es ep,o.data= .dict es ep/\es.toList=zs.map λz=>⟨hashInt z.1,.int z.1 z.2.1,z.2.2⟩
 nd:ks.Nodup
 len:ys.length<=sizeLine
 zk:zs.map (·.1)=ks
 key:ys.map (·.1)=ks.map kI
 kv:Paired (λ(p:cP×V) (q:Int×Tok×Value)=>p.1=kI q.1/\RelV p.2 q.2.2) ys zs
mutual
def RepD (K:W.Frag)(G:Hp)(v:V):D->Prop
 | .non=>v= .non
 | .bl b=>v= .bl b
 | .int i=>v= .int i
 | .str x=>v= .str x
 | .lst ds=>∃a xs,v= .ref a/\G a=some (.lst xs)/\RepL K G xs ds
 | .tup ds=>∃a xs,v= .ref a/\G a=some (.tup xs)/\RepL K G xs ds
 | .scr ns=>∃a,v= .ref a/\SqL K G a (ns.map V.int)
 | .exc c=>∃a C,v= .ref a/\W.nsIn K mainGlobals c=some (some (.ref C))/\G a=some (.ext (Wg a C))
 | .dic ks ds=>∃a ys,v= .ref a/\Rd G a (.dK ys)/\ys.map (·.1)=ks.map kI/\RepL K G (ys.map (·.2)) ds
 | .dit ks ds=>∃a ys o xs,v= .ref a/\G a=some (kn a o)/\DtI G a o xs ks ys/\RepL K G (ys.map (·.2)) ds
 | .obj c ns ls ks ds=>∃a C dx vs ws p o zs ys,v= .ref a/\W.nsIn K mainGlobals c=some (some (.ref C))/\G a=some (.ins C dx vs)/\vs.map (·.1)=ns/\vs.map (·.2)=ws++[.ref p]/\RepL K G ws ls/\G p=some (kn p o)/\DkN p o zs ks ys/\RepL K G (ys.map (·.2)) ds
def RepL (K:W.Frag)(G:Hp)(xs:List V):List D->Prop
 |[]=>xs=[]
 |d::ds=>∃x ys,xs=x::ys/\RepD K G x d/\RepL K G ys ds
end
def Fz (G H:Hp):Prop:=∀a o,G a=some o->H a=some o
def DtI.mono {xs:AA (AA cP×AD×AC)}{ys:AA (AA cP×V)}(d:DtI G a o xs ks ys)(h:Fz G G'):DtI G' a o xs ks ys:={d with kt:=Paired.mapP d.kt λ_ _ z=>⟨z.1,h _ _ z.2.1,z.2.2⟩}
def Fz.refl (G:Hp):Fz G G:=λ_ _ h=>h
def Fz.trans {A C:Hp}(h:Fz A B)(k:Fz B C):Fz A C:=λa o e=>k a o (h a o e)
def Fz.free (h:Fz G H)(e:H p=none):G p=none:=by
 cases q:G p with
 |none=>rfl
 |some o=>rw[h p o q]at e;cases e
def Fz.new (e:G p=none)(o:HO):Fz G (upd G p o):=λa u q=>by
 rw[aW (kP q e)];exact q
def Fz.upd2 (h:Fz G H)(p:AD)(o:HO):Fz (upd G p o) (upd H p o):=λa u q=>by
 by_cases e:a=p
 ·subst e;rw[cW]at q ⊢;exact q
 ·rw[aW e]at q ⊢;exact h a u q
def Fz.right (h:Fz G H)(e:G p=none)(o:HO):Fz G (upd H p o):=λa u q=>by
 rw[aW (kP q e)];exact h a u q
def Fz.sql {G H:Hp}(h:Fz G H)(q:SqL K G a xs):SqL K H a xs:=Same.seq (H:=G) (H':=H) h q
mutual
theorem RepD.mono {K:W.Frag}(h:Fz G G'):∀{v:V} {d:D},RepD K G v d->RepD K G' v d:=by
 intro v d r;cases d with
 |lst _=>exact eP (λa=>eP λxs=>And.imp id (And.imp (h a _) (RepL.mono h))) r
 |tup _=>exact eP (λa=>eP λxs=>And.imp id (And.imp (h a _) (RepL.mono h))) r
 |scr _=>exact eP (λa=>And.imp id h.sql) r
 |exc _=>exact eP (λa=>eP λC=>And.imp id (And.imp id (h a _))) r
 |dic _ _=>exact eP (λa=>eP λys=>And.imp id (And.imp (Or.imp (h a _) (eP λo=>h a _)) (And.imp id (RepL.mono h)))) r
 |dit _ _=>exact eP (λa=>eP λys=>eP λo=>eP λxs=>And.imp id (And.imp (h a _) (And.imp (λf=>f.mono h) (RepL.mono h)))) r
 |obj _ _ _ _ _=>exact eP (λa=>eP λC=>eP λdx=>eP λvs=>eP λws=>eP λp=>eP λo=>eP λzs=>eP λys=>And.imp id (And.imp id (And.imp (h a _) (And.imp id (And.imp id (And.imp (RepL.mono h) (And.imp (h p _) (And.imp id (RepL.mono h))))))))) r
 |_=>exact r
theorem RepL.mono {K:W.Frag}(h:Fz G G'):∀{xs:List V} {ds:List D},RepL K G xs ds->RepL K G' xs ds:=by
 intro xs ds r;cases ds with
 |nil=>exact r
 |cons _ _=>exact eP (λx=>eP λys=>And.imp id (And.imp (RepD.mono h) (RepL.mono h))) r
end
section
variable {K:AF}{G:Hp}
theorem RepL.nil:RepL K G [] []:=rfl
def RepL.cons {x:V}{d:D}(h:RepD K G x d)(t:RepL K G xs ds):RepL K G (x::xs) (d::ds):=⟨x,xs,rfl,h,t⟩
theorem RepL.length:∀{xs:AA V} {ds:AA D},RepL K G xs ds->xs.length=ds.length
 |_,[],e=>by cases e;rfl
 |_,_::_,⟨x,ys,e,_,r⟩=>by subst e;rw[eS,eS,RepL.length r]
def RepL.get:∀{xs:AA V} {ds:AA D} {i:Nat} {d:D},RepL K G xs ds->ds[i]? =some d->∃x,xs[i]? =some x/\RepD K G x d
 |_,[],_,_,_,h=>by simp at h
 |_,_::_,0,_,⟨x,ys,e,q,r⟩,h=>by subst e;simp at h;subst h;exact⟨x,rfl,q⟩
 |_,_::_,i+1,_,⟨x,ys,e,q,r⟩,h=>by
  subst e;obtain⟨y,h1,h2⟩:=RepL.get (i:=i) r (~~~h);exact⟨y,~~~h1,h2⟩
def RepL.append:∀{xs ys:AA V} {ds es:AA D},RepL K G xs ds->RepL K G ys es->RepL K G (xs++ys) (ds++es)
 |_,_,[],_,e,r=>by cases e;exact r
 |_,_,_::_,_,⟨x,zs,e,q,r⟩,s=>by subst e;exact⟨x,zs++_,rfl,q,RepL.append r s⟩
def RepL.snoc (h:RepL K G xs ds)(q:RepD K G x d):RepL K G (xs++[x]) (ds++[d]):=h.append (.cons q .nil)
theorem RepL.take:∀{xs:AA V} {ds:AA D} (n:Nat),RepL K G xs ds->RepL K G (xs.take n) (ds.take n)
 |_,_,0,_=>by simp;exact .nil
 |_,[],n+1,e=>by cases e;exact .nil
 |_,_::_,n+1,⟨x,zs,e,q,r⟩=>by subst e;exact⟨x,zs.take n,rfl,q,RepL.take n r⟩
theorem RepL.drop:∀{xs:AA V} {ds:AA D} (n:Nat),RepL K G xs ds->RepL K G (xs.drop n) (ds.drop n)
 |_,_,0,r=> ~~~r
 |_,[],n+1,e=>by cases e;exact .nil
 |_,_::_,n+1,⟨x,zs,e,q,r⟩=>by subst e;exact RepL.drop n r
theorem RepL.set:∀{xs:AA V} {ds:AA D} (i:Nat) {x:V} {d:D},RepL K G xs ds->RepD K G x d->RepL K G (xs.set i x) (ds.set i d)
 |_,[],_,_,_,e,_=>by cases e;exact .nil
 |_,_::_,0,_,_,⟨x,zs,e,q,r⟩,h=>by subst e;exact⟨_,zs,rfl,h,r⟩
 |_,_::_,i+1,_,_,⟨x,zs,e,q,r⟩,h=>by subst e;exact⟨x,_,rfl,q,RepL.set i r h⟩
def RepL.rep (h:RepL K G xs ds):∀k,RepL K G (List.replicate k xs).flatten (List.replicate k ds).flatten
 |0=> .nil
 |k+1=>by rw[yG,yG,Cy,Cy];exact h.append (RepL.rep h k)
def RepL.ints:∀(ns:AA Int),RepL K G (ns.map V.int) (ns.map D.int)
 |[]=> .nil
 |n::ns=>⟨.int n,ns.map V.int,rfl,rfl,RepL.ints ns⟩
def RepL.ints_eq:∀{ns:AA Int} {xs:AA V},RepL K G xs (ns.map D.int)->xs=ns.map V.int
 |[],_,e=>e
 |n::ns,_,⟨x,ys,e,q,r⟩=>by subst e;cases(show x=V.int n from q);rw[RepL.ints_eq r];rfl
theorem RepL.at {i:Int}(h:RepL K G xs ds)(e:atI ds i=some d):∃x,atI xs i=some x/\RepD K G x d:=by
 unfold atI at e ⊢;rw[h.length];cases q:iE ds.length i with
 |none=>rw[q]at e;exact aG e
 |some j=>rw[q]at e;exact h.get e
end
inductive Ch where
 |d (x:D)|l (xs:List D)|t (xss:List (List D))
inductive T where
 |lst (cs:List Ch)|tup (cs:List Ch)|ins (c:Str) (fs:List (Str×Ch))|dic (ks:List Int) (ds:List D)|dit (ks:List (List Int)) (ds:List D)|obj (c:Str) (ns:List Str) (ls:List (List D)) (dk:Option (List Int×List D))
inductive Sl where
 |emp|val (d:D)|own (ds:List D)|par (ds:List D)|two (ds es:List D)|tre (t:T)|ptr (t:T)
abbrev R:=AA Sl
def Sl.items:Sl->AB (AA D)
 | .own ds=>some ds
 | .par ds=>some ds
 |_=>none
structure Bs where
 G:Hp
 H:Hp
 O:List (Nat×Addr)
def RepTb (K:AF)(G H:Hp):AA V->AA (AA D)->AA AD->Prop
 |[],[],A=>A=[]
 |x::xs,ds::dss,A=>∃r ys A2,x= .ref r/\H r=some (.lst ys)/\RepL K G ys ds/\RepTb K G H xs dss A2/\A=r::A2
 |_,_,_=>False
def RepC (K:AF)(G H:Hp)(x:V):Ch->AA AD->Prop
 | .d y,A=>RepD K G x y/\A=[]
 | .l ds,A=>∃l xs,x= .ref l/\H l=some (.lst xs)/\RepL K G xs ds/\A=[l]
 | .t xss,A=>∃p xs A',x= .ref p/\H p=some (.lst xs)/\RepTb K G H xs xss A'/\A=p::A'
def RepCs (K:AF)(G H:Hp):AA V->AA Ch->AA AD->Prop
 |[],[],A=>A=[]
 |x::xs,c::cs,A=>∃A1 A2,RepC K G H x c A1/\RepCs K G H xs cs A2/\A=A1++A2
 |_,_,_=>False
def RepO (K:AF)(G H:Hp)(xs:AA V)(ls:AA (AA D)):AB (AA Int×AA D)->AA AD->Prop
 |none,A=>RepTb K G H xs ls A
 |some q,A=>∃ws p o zs ys A',xs=ws++[.ref p]/\RepTb K G H ws ls A'/\H p=some (kn p o)/\DkN p o zs q.1 ys/\RepL K G (ys.map (·.2)) q.2/\A=A'++[p]
def RepT (K:AF)(G H:Hp)(v:V):T->AA AD->Prop
 | .lst cs,A=>∃p xs A',v= .ref p/\H p=some (.lst xs)/\RepCs K G H xs cs A'/\A=p::A'
 | .tup cs,A=>∃p xs A',v= .ref p/\H p=some (.tup xs)/\RepCs K G H xs cs A'/\A=p::A'
 | .ins c fs,A=>∃p C dx vs A',v= .ref p/\W.nsIn K AL c=some (some (.ref C))/\H p=some (.ins C dx vs)/\H dx=some (.own p)/\vs.map (·.1)=fs.map (·.1)/\RepCs K G H (vs.map (·.2)) (fs.map (·.2)) A'/\A=p::dx::A'
 | .dic ks ds,A=>∃p ys,v= .ref p/\H p=some (.dK ys)/\ys.map (·.1)=ks.map kI/\RepL K G (ys.map (·.2)) ds/\A=[p]
 | .dit ks ds,A=>∃p ys o xs,v= .ref p/\H p=some (kn p o)/\DtI G p o xs ks ys/\RepL K G (ys.map (·.2)) ds/\A=[p]
 | .obj c ns ls dk,A=>∃p C dx vs A',v= .ref p/\W.nsIn K AL c=some (some (.ref C))/\H p=some (.ins C dx vs)/\H dx=some (.own p)/\vs.map (·.1)=ns/\RepO K G H (vs.map (·.2)) ls dk A'/\A=p::dx::A'
section
variable {K:AF}{G G' H H':Hp}
def RepTb.move:∀{xs:AA V} {dss:AA (AA D)} {A:AA AD},RepTb K G H xs dss A->Fz G G'->(∀a∈A,H' a=H a)->RepTb K G' H' xs dss A
 |[],[],_,h,_,_=>h
 |x::xs,ds::dss,A,⟨r,ys,A2,e1,e2,e3,e4,e5⟩,hg,hh=>⟨r,ys,A2,e1,by rw[hh r (by rw[e5];simp)];exact e2,e3.mono hg,e4.move hg λa m=>hh a (by rw[e5];simp[m]),e5⟩
 |[],_::_,_,h,_,_=>h.elim
 |_::_,[],_,h,_,_=>h.elim
def RepTb.det:∀{xs:AA V} {dss:AA (AA D)} {A A':AA AD},RepTb K G H xs dss A->RepTb K G' H' xs dss A'->A=A'
 |[],[],_,_,h,h'=>by rw[show _=[]from h,show _=[]from h']
 |x::xs,ds::dss,_,_,⟨r,ys,A2,e1,_,_,e4,e5⟩,⟨r',ys',A2',e1',_,_,e4',e5'⟩=>by
  rw[e1]at e1';cases e1';rw[e5,e5',e4.det e4']
 |[],_::_,_,_,h,_=>h.elim
 |_::_,[],_,_,h,_=>h.elim
def RepTb.here:∀{xs:AA V} {dss:AA (AA D)} {A:AA AD},RepTb K G H xs dss A->∀{a:AD},a∈A->∃xs,H a=some (.lst xs)
 |[],[],_,h,a,m=>by rw[show _=[]from h]at m;cases m
 |x::xs,ds::dss,_,⟨r,ys,A2,e1,e2,_,e4,e5⟩,a,m=>by
  rw[e5]at m;rcases qaq.mp m with rfl|m
  ·exact⟨ys,e2⟩
  ·exact e4.here m
 |[],_::_,_,h,_,_=>h.elim
 |_::_,[],_,h,_,_=>h.elim
def RepO.move (h:RepO K G H xs ls dk A)(hg:Fz G G')(hh:∀a∈A,H' a=H a):RepO K G' H' xs ls dk A:=by
 cases dk with
 |none=>exact RepTb.move h hg hh
 |some q=>
  obtain⟨ws,p,o,zs,ys,A',e,r,q1,q2,q3,rfl⟩:=h;exact⟨ws,p,o,zs,ys,A',e,r.move hg λa m=>hh a (by simp[m]),by rw[hh p (by simp)];exact q1,q2,q3.mono hg,rfl⟩
def RepO.det (h:RepO K G H xs ls dk A)(h':RepO K G' H' xs ls dk A'):A=A':=by
 cases dk with
 |none=>exact RepTb.det h h'
 |some q=>
  obtain⟨ws,p,_,_,ys,B,e,r,_,_,_,rfl⟩:=h;obtain⟨ws',p',_,_,ys',B',e',r',_,_,_,rfl⟩:=h';rw[e]at e';obtain⟨rfl,q2⟩:=List.append_inj' e' rfl;cases q2;rw[r.det r']
def RepO.here (h:RepO K G H xs ls dk A)(m:a∈A):(∃xs,H a=some (.lst xs))\/∃o,H a=some (kn a o):=by
 cases dk with
 |none=>exact .inl (RepTb.here h m)
 |some q=>
  obtain⟨ws,p,o,zs,ys,B,e,r,q1,_,_,rfl⟩:=h;rcases qar.mp m with m|m
  ·exact .inl (r.here m)
  ·simp at m;subst m;exact .inr ⟨o,q1⟩
def RepC.move (h:RepC K G H x c A)(hg:Fz G G')(hh:∀a∈A,H' a=H a):RepC K G' H' x c A:=by
 cases c with
 |d y=>exact⟨h.1.mono hg,h.2⟩
 |l ds=>obtain⟨l,xs,e,q,r,rfl⟩:=h;exact⟨l,xs,e,by rw[hh l (by simp)];exact q,r.mono hg,rfl⟩
 |t xss=>obtain⟨p,xs,A',e,q,r,rfl⟩:=h;exact⟨p,xs,A',e,by rw[hh p (by simp)];exact q,r.move hg λa m=>hh a (by simp[m]),rfl⟩
def RepCs.move:∀{xs:AA V} {cs:AA Ch} {A:AA AD},RepCs K G H xs cs A->Fz G G'->(∀a∈A,H' a=H a)->RepCs K G' H' xs cs A
 |[],[],_,h,_,_=>h
 |x::xs,c::cs,A,⟨A1,A2,h1,h2,e⟩,hg,hh=>⟨A1,A2,h1.move hg λa m=>hh a (by rw[e];exact qas _ m),h2.move hg λa m=>hh a (by rw[e];exact hV _ m),e⟩
 |[],_::_,_,h,_,_=>h.elim
 |_::_,[],_,h,_,_=>h.elim
def RepT.move (h:RepT K G H v t A)(hg:Fz G G')(hh:∀a∈A,H' a=H a):RepT K G' H' v t A:=by
 cases t with
 |lst cs=>obtain⟨p,xs,A',e,q,r,rfl⟩:=h;exact⟨p,xs,A',e,by rw[hh p (by simp)];exact q,r.move hg λa m=>hh a (by simp[m]),rfl⟩
 |tup cs=>obtain⟨p,xs,A',e,q,r,rfl⟩:=h;exact⟨p,xs,A',e,by rw[hh p (by simp)];exact q,r.move hg λa m=>hh a (by simp[m]),rfl⟩
 |ins c fs=>obtain⟨p,C,dx,vs,A',e,n,q,q2,f,r,rfl⟩:=h;exact⟨p,C,dx,vs,A',e,n,by rw[hh p (by simp)];exact q,by rw[hh dx (by simp)];exact q2,f,r.move hg λa m=>hh a (by simp[m]),rfl⟩
 |dic ks ds=>obtain⟨p,ys,e,q,f,r,rfl⟩:=h;exact⟨p,ys,e,by rw[hh p (by simp)];exact q,f,r.mono hg,rfl⟩
 |dit ks ds=>obtain⟨p,ys,o,xs,e,q,f,r,rfl⟩:=h;exact⟨p,ys,o,xs,e,by rw[hh p (by simp)];exact q,f.mono hg,r.mono hg,rfl⟩
 |obj c ns ls dk=>obtain⟨p,C,dx,vs,A',e,n,q,q2,f,r,rfl⟩:=h;exact⟨p,C,dx,vs,A',e,n,by rw[hh p (by simp)];exact q,by rw[hh dx (by simp)];exact q2,f,r.move hg λa m=>hh a (by simp[m]),rfl⟩
def RepC.det (h:RepC K G H x c A)(h':RepC K G' H' x c A')(hh:∀a∈A,H' a=H a):A=A':=by
 cases c with
 |d y=>rw[h.2,h'.2]
 |l ds=>obtain⟨l,xs,e,_,_,rfl⟩:=h;obtain⟨l',xs',e',_,_,rfl⟩:=h';rw[e]at e';cases e';rfl
 |t xss=>
  obtain⟨p,xs,B,e,q,r,rfl⟩:=h;obtain⟨p',xs',B',e',q',r',rfl⟩:=h';rw[e]at e';cases e';rw[hh p (by simp),q]at q';cases q';rw[r.det r']
def RepCs.det:∀{xs:AA V} {cs:AA Ch} {A A':AA AD},RepCs K G H xs cs A->RepCs K G' H' xs cs A'->(∀a∈A,H' a=H a)->A=A'
 |[],[],_,_,h,h',_=>by rw[show _=[]from h,show _=[]from h']
 |x::xs,c::cs,_,_,⟨A1,A2,h1,h2,e⟩,⟨B1,B2,k1,k2,e'⟩,hh=>by rw[e,e',h1.det k1 λa m=>hh a (by rw[e];exact qas _ m),h2.det k2 λa m=>hh a (by rw[e];exact hV _ m)]
 |[],_::_,_,_,h,_,_=>h.elim
 |_::_,[],_,_,h,_,_=>h.elim
def RepT.det (h:RepT K G H v t A)(h':RepT K G' H' v t A')(hh:∀a∈A,H' a=H a):A=A':=by
 cases t with
 |lst cs=>
  obtain⟨p,xs,B,e,q,r,rfl⟩:=h;obtain⟨p',xs',B',e',q',r',rfl⟩:=h';rw[e]at e';cases e';rw[hh p (by simp),q]at q';cases q';rw[r.det r' λa m=>hh a (by simp[m])]
 |tup cs=>
  obtain⟨p,xs,B,e,q,r,rfl⟩:=h;obtain⟨p',xs',B',e',q',r',rfl⟩:=h';rw[e]at e';cases e';rw[hh p (by simp),q]at q';cases q';rw[r.det r' λa m=>hh a (by simp[m])]
 |ins c fs=>
  obtain⟨p,C,dx,vs,B,e,n,q,q2,f,r,rfl⟩:=h;obtain⟨p',C',dx',vs',B',e',n',q',q2',f',r',rfl⟩:=h';rw[e]at e';cases e';rw[hh p (by simp),q]at q';cases q';rw[r.det r' λa m=>hh a (by simp[m])]
 |dic ks ds=>obtain⟨p,ys,e,q,f,r,rfl⟩:=h;obtain⟨p',ys',e',q',f',r',rfl⟩:=h';rw[e]at e';cases e';rfl
 |dit ks ds=>obtain⟨p,ys,o,xs,e,q,f,r,rfl⟩:=h;obtain⟨p',ys',o',xs',e',q',f',r',rfl⟩:=h';rw[e]at e';cases e';rfl
 |obj c ns ls dk=>
  obtain⟨p,C,dx,vs,B,e,n,q,q2,f,r,rfl⟩:=h;obtain⟨p',C',dx',vs',B',e',n',q',q2',f',r',rfl⟩:=h';rw[e]at e';cases e';rw[hh p (by simp),q]at q';cases q';rw[r.det r']
def RepC.here (h:RepC K G H x c A)(m:a∈A):∃xs,H a=some (.lst xs):=by
 cases c with
 |d y=>rw[h.2]at m;cases m
 |l ds=>obtain⟨l,xs,_,q,_,rfl⟩:=h;simp at m;subst m;exact⟨xs,q⟩
 |t xss=>
  obtain⟨p,xs,A',_,q,r,rfl⟩:=h;rcases qaq.mp m with rfl|m
  ·exact⟨xs,q⟩
  ·exact r.here m
def RepCs.here:∀{xs:AA V} {cs:AA Ch} {A:AA AD},RepCs K G H xs cs A->∀{a:AD},a∈A->∃xs,H a=some (.lst xs)
 |[],[],_,h,a,m=>by rw[show _=[]from h]at m;cases m
 |x::xs,c::cs,_,⟨A1,A2,h1,h2,e⟩,a,m=>by
  rw[e]at m;rcases qar.mp m with m|m
  ·exact h1.here m
  ·exact h2.here m
 |[],_::_,_,h,_,_=>h.elim
 |_::_,[],_,h,_,_=>h.elim
def RepT.here (h:RepT K G H v t A)(m:a∈A):H a≠none:=by
 cases t with
 |lst cs=>
  obtain⟨p,xs,B,e,q,r,rfl⟩:=h;rcases qaq.mp m with rfl|m
  ·rw[q];simp
  ·obtain⟨ys,z⟩:=r.here m;rw[z];simp
 |tup cs=>
  obtain⟨p,xs,B,e,q,r,rfl⟩:=h;rcases qaq.mp m with rfl|m
  ·rw[q];simp
  ·obtain⟨ys,z⟩:=r.here m;rw[z];simp
 |ins c fs=>
  obtain⟨p,C,dx,vs,B,e,n,q,q2,f,r,rfl⟩:=h;rcases qaq.mp m with rfl|m
  ·rw[q];simp
  rcases qaq.mp m with rfl|m
  ·rw[q2];simp
  ·obtain⟨ys,z⟩:=r.here m;rw[z];simp
 |dic ks ds=>obtain⟨p,ys,e,q,f,r,rfl⟩:=h;simp at m;subst m;rw[q];simp
 |dit ks ds=>obtain⟨p,ys,o,xs,e,q,f,r,rfl⟩:=h;simp at m;subst m;rw[q];simp
 |obj c ns ls dk=>
  obtain⟨p,C,dx,vs,B,e,n,q,q2,f,r,rfl⟩:=h;rcases qaq.mp m with rfl|m
  ·rw[q];simp
  rcases qaq.mp m with rfl|m
  ·rw[q2];simp
  ·rcases r.here m with⟨ys,z⟩|⟨ys,z⟩<;>(rw[z];simp)
end
def T.isObj:T->Bool
 | .obj _ _ _ _=>true
 |_=>false
def SlotOk (K:AF)(B:Bs)(G H:Hp)(i:Nat)(ov:AB (AB V)):Sl->Prop
 | .emp=>True
 | .two _ _=>True
 | .val d=>∃v,ov=some (some v)/\RepD K G v d
 | .own ds=>∃l xs,ov=some (some (.ref l))/\G l=none/\H l=some (.lst xs)/\RepL K G xs ds/\B.H l=none
 | .par ds=>∃l xs,ov=some (some (.ref l))/\G l=none/\H l=some (.lst xs)/\RepL K G xs ds/\(i,l)∈B.O
 | .tre t=>∃v A,ov=some (some v)/\RepT K G H v t A/\A.Nodup/\∀a∈A,G a=none/\B.H a=none
 | .ptr t=>∃v A,ov=some (some v)/\RepT K G H v t A/\(A.Nodup/\∃p,v= .ref p/\(i+4096,p)∈B.O/\(t.isObj=true->(i+8192,p)∈B.O))/\∀a∈A,G a=none/\((i,a)∈B.O\/(B.H a=none/\∃p,v= .ref p/\(i+8192,p)∈B.O))
def Wr (ρ:R)(i:Nat):Prop:=∃s ds,ρ[i]? =some s/\s.items=some ds
def bR (K:AF)(G H:Hp)(ov:AB (AB V))(a:AD):Sl->Prop
 | .own _=>ov=some (some (.ref a))
 | .par _=>ov=some (some (.ref a))
 | .tre t=>∃v A,ov=some (some v)/\RepT K G H v t A/\a∈A
 | .ptr t=>∃v A,ov=some (some v)/\RepT K G H v t A/\a∈A
 |_=>False
def Nw (K:AF)(G H:Hp)(σ:St)(ρ:R)(a:AD):Prop:=∀(i:Nat) (s:Sl),ρ[i]? =some s->¬bR K G H σ[i]? a s
structure SI (K:W.Frag)(B:Bs)(G H:Hp)(σ:St)(ρ:R):Prop where
 fz:Fz G H
 g0:Fz B.G G
 new:∀b o,G b=some o->B.G b≠none\/B.H b=none
 keep:∀b o,B.H b=some o->(∀i,(i,b)∉B.O)->H b=some o
 there:∀b,H b=none->B.H b=none
 len:σ.length=ρ.length
 ob:∀i b,(i,b)∈B.O->B.H b≠none
 slot:∀i s,ρ[i]? =some s->SlotOk K B G H i σ[i]? s
 dis:∀(i j:Nat) (s t:Sl) (a:Addr),i≠j->ρ[i]? =some s->ρ[j]? =some t->bR K G H σ[i]? a s->¬bR K G H σ[j]? a t
section
variable {K:AF}{B:Bs}{G G' H H':Hp}{σ:St}{ρ:R}
def SlotOk.own (h:SlotOk K B G H i ov s)(w:bR K G H ov a s):G a=none/\H a≠none/\(B.H a=none\/(i,a)∈B.O):=by
 cases s with
 |emp=>exact w.elim
 |two _ _=>exact w.elim
 |val d=>exact w.elim
 |own ds=>obtain⟨l,xs,e,g,k,r,n⟩:=h;rw[show ov=_ from w]at e;cases e;exact⟨g,by rw[k];simp,.inl n⟩
 |par ds=>obtain⟨l,xs,e,g,k,r,n⟩:=h;rw[show ov=_ from w]at e;cases e;exact⟨g,by rw[k];simp,.inr n⟩
 |tre t=>
  obtain⟨v,A,e,r,nd,f⟩:=h;obtain⟨v',A',e',r',m⟩:=w;rw[e]at e';cases e';rw[<-r.det r' λ_ _=>rfl]at m;exact⟨(f a m).1,r.here m,.inl (f a m).2⟩
 |ptr t=>
  obtain⟨v,A,e,r,nd,f⟩:=h;obtain⟨v',A',e',r',m⟩:=w;rw[e]at e';cases e';rw[<-r.det r' λ_ _=>rfl]at m;exact⟨(f a m).1,r.here m,(f a m).2.elim .inr λz=> .inl z.1⟩
def SlotOk.mono (h:SlotOk K B G H i ov s)(hg:Fz G G')(hw:∀a,bR K G H ov a s->G a=none->H a≠none->G' a=none/\H' a=H a):SlotOk K B G' H' i ov s:=by
 have ow:=λa (w:bR K G H ov a s)=>h.own w
 cases s with
 |emp=>trivial
 |two _ _=>trivial
 |val d=>obtain⟨v,e,r⟩:=h;exact⟨v,e,r.mono hg⟩
 |own ds=>
  obtain⟨l,xs,e,g,k,r,n⟩:=h;obtain⟨h1,h2⟩:=hw l e g (by rw[k];simp);exact⟨l,xs,e,h1,h2.trans k,r.mono hg,n⟩
 |par ds=>
  obtain⟨l,xs,e,g,k,r,n⟩:=h;obtain⟨h1,h2⟩:=hw l e g (by rw[k];simp);exact⟨l,xs,e,h1,h2.trans k,r.mono hg,n⟩
 |tre t=>
  obtain⟨v,A,e,r,nd,f⟩:=h;have w:=λa m=>hw a ⟨v,A,e,r,m⟩ (f a m).1 (r.here m)
  exact⟨v,A,e,r.move hg λa m=>(w a m).2,nd,λa m=>⟨(w a m).1,(f a m).2⟩⟩
 |ptr t=>
  obtain⟨v,A,e,r,nd,f⟩:=h;have w:=λa m=>hw a ⟨v,A,e,r,m⟩ (f a m).1 (r.here m)
  exact⟨v,A,e,r.move hg λa m=>(w a m).2,nd,λa m=>⟨(w a m).1,(f a m).2⟩⟩
def SlotOk.back (h:SlotOk K B G H i ov s)(hw:∀a,bR K G H ov a s->G a=none->H a≠none->G' a=none/\H' a=H a)(w:bR K G' H' ov a s):bR K G H ov a s:=by
 cases s with
 |emp=>exact w
 |two _ _=>exact w
 |val d=>exact w
 |own ds=>exact w
 |par ds=>exact w
 |tre t=>
  obtain⟨v,A,e,r,nd,f⟩:=h;obtain⟨v',A',e',r',m⟩:=w;rw[e]at e';cases e';have q:=r.det r' λa m=>(hw a ⟨v,A,e,r,m⟩ (f a m).1 (r.here m)).2
  subst q;exact⟨v,A,e,r,m⟩
 |ptr t=>
  obtain⟨v,A,e,r,nd,f⟩:=h;obtain⟨v',A',e',r',m⟩:=w;rw[e]at e';cases e';have q:=r.det r' λa m=>(hw a ⟨v,A,e,r,m⟩ (f a m).1 (r.here m)).2
  subst q;exact⟨v,A,e,r,m⟩
def SI.move (I:SI K B G H σ ρ)(fz:Fz G' H')(fg:Fz G G')(new:∀b o,G' b=some o->B.G b≠none\/B.H b=none)(keep:∀b o,B.H b=some o->(∀i,(i,b)∉B.O)->H' b=some o)(there:∀b,H' b=none->B.H b=none)(ow:∀(i:Nat) (s:Sl) (a:AD),ρ[i]? =some s->bR K G H σ[i]? a s->G a=none->H a≠none->G' a=none/\H' a=H a):SI K B G' H' σ ρ where
 fz:=fz
 g0:=I.g0.trans fg
 new:=new
 keep:=keep
 there:=there
 len:=I.len
 ob:=I.ob
 slot:=λi s e=>(I.slot i s e).mono fg λa w g h=>ow i s a e w g h
 dis:=λi j s t a n e1 e2 w1 w2=>I.dis i j s t a n e1 e2 ((I.slot i s e1).back (λa w g h=>ow i s a e1 w g h) w1) ((I.slot j t e2).back (λa w g h=>ow j t a e2 w g h) w2)
theorem SI.chg (I:SI K B G H σ ρ){ov:AB V}{s':Sl}(fz:Fz G' H')(fg:Fz G G')(new:∀b o,G' b=some o->B.G b≠none\/B.H b=none)(keep:∀b o,B.H b=some o->(∀i,(i,b)∉B.O)->H' b=some o)(there:∀b,H' b=none->B.H b=none)(ow:∀(j:Nat) (s:Sl) (a:AD),j≠i->ρ[j]? =some s->bR K G H σ[j]? a s->G a=none->H a≠none->G' a=none/\H' a=H a/\¬bR K G' H' (some ov) a s')(sl:SlotOk K B G' H' i (some ov) s'):SI K B G' H' (σ.set i ov) (ρ.set i s'):=by
 have atI:∀{s},(ρ.set i s')[i]? =some s->s=s'/\(σ.set i ov)[i]? =some ov:=λ{s} e=>by
  rw[jR,if_pos rfl]at e ⊢
  split at e
  ·rename_i h;cases e;rw[if_pos (by rw[I.len];exact h)];exact⟨rfl,rfl⟩
  ·exact aG e
 have atJ:∀{j s},j≠i->(ρ.set i s')[j]? =some s->ρ[j]? =some s/\(σ.set i ov)[j]? =σ[j]?:=λ{j s} n e=>by
  rw[iD (Ne.symm n)]at e ⊢;exact⟨e,rfl⟩
 refine⟨fz,I.g0.trans fg,new,keep,there,by rw[uB,uB];exact I.len,I.ob,λj s e=>?_,λj k s t a n e1 e2 w1 w2=>?_⟩
 ·by_cases z:j=i
  ·subst z;obtain⟨rfl,q⟩:=atI e;rw[q];exact sl
  ·obtain⟨e1,q⟩:=atJ z e;rw[q];exact(I.slot j s e1).mono fg λa w g h=>⟨(ow j s a z e1 w g h).1,(ow j s a z e1 w g h).2.1⟩
 ·have one:∀j s,j≠i->(ρ.set i s')[j]? =some s->bR K G' H' (σ.set i ov)[j]? a s->ρ[j]? =some s/\bR K G H σ[j]? a s:=λj s z e w=>by
   obtain⟨e1,q⟩:=atJ z e;rw[q]at w;exact⟨e1,(I.slot j s e1).back (λa w g h=>⟨(ow j s a z e1 w g h).1,(ow j s a z e1 w g h).2.1⟩) w⟩
  by_cases z1:j=i
  ·subst z1;obtain⟨rfl,q1⟩:=atI e1;obtain⟨f2,w2⟩:=one k t (Ne.symm n) e2 w2;obtain⟨o1,o2,_⟩:=(I.slot k t f2).own w2;rw[q1]at w1;exact(ow k t a (Ne.symm n) f2 w2 o1 o2).2.2 w1
  ·have p1:=one j s z1 e1 w1
   by_cases z2:k=i
   ·subst z2;obtain⟨rfl,q2⟩:=atI e2;obtain⟨o1,o2,_⟩:=(I.slot j s p1.1).own p1.2;rw[q2]at w2;exact(ow j s a z1 p1.1 p1.2 o1 o2).2.2 w2
   ·have p2:=one k t z2 e2 w2;exact I.dis j k s t a n p1.1 p2.1 p1.2 p2.2
theorem SI.nw (I:SI K B G H σ ρ)(hp:H p=none):Nw K G H σ ρ p:=λi s e w=>((I.slot i s e).own w).2.1 hp
def SI.nw_move (I:SI K B G H σ ρ)(n:Nw K G H σ ρ p)(ow:∀(i:Nat) (s:Sl) (a:AD),ρ[i]? =some s->bR K G H σ[i]? a s->G a=none->H a≠none->G' a=none/\H' a=H a):Nw K G' H' σ ρ p:=
 λi s e w=>n i s e ((I.slot i s e).back (λa w g h=>ow i s a e w g h) w)
def SI.allocF (I:SI K B G H σ ρ)(hp:H p=none)(o:HO):SI K B (upd G p o) (upd H p o) σ ρ:=
 I.move (I.fz.upd2 p o) (Fz.new (I.fz.free hp) o) (λb u e=>by
  by_cases q:b=p
  ·subst q;exact .inr (I.there b hp)
  ·rw[aW q]at e;exact I.new b u e) (λb u e n=>by
  have q:=I.keep b u e n;rw[aW (kP q hp)];exact q) (λb e=>by
  by_cases q:b=p
  ·subst q;rw[cW]at e;cases e
  ·rw[aW q]at e;exact I.there b e) (λi s a _ _ g h=>by
  have q:a≠p:=λz=>h (by rw[z];exact hp)
  rw[aW q,aW q];exact⟨g,rfl⟩)
def SI.allocO (I:SI K B G H σ ρ)(hp:H p=none)(o:HO):SI K B G (upd H p o) σ ρ:=
 I.move (I.fz.right (I.fz.free hp) o) (Fz.refl G) I.new (λb u e n=>by
  have q:=I.keep b u e n;rw[aW (kP q hp)];exact q) (λb e=>by
  by_cases q:b=p
  ·subst q;rw[cW]at e;cases e
  ·rw[aW q]at e;exact I.there b e) (λi s a _ _ g h=>by
  have q:a≠p:=λz=>h (by rw[z];exact hp)
  rw[aW q];exact⟨g,rfl⟩)
def SI.frz (I:SI K B G H σ ρ){o:HO}(hl:H l=some o)(hB:B.H l=none)(hn:Nw K G H σ ρ l)(hg:G l=none):SI K B (upd G l o) H σ ρ:=
 I.move (λa u q=>by
  by_cases e:a=l
  ·subst e;rw[cW]at q;cases q;exact hl
  ·rw[aW e]at q;exact I.fz a u q) (Fz.new hg o) (λb u e=>by
  by_cases q:b=l
  ·subst q;exact .inr hB
  ·rw[aW q]at e;exact I.new b u e) I.keep I.there (λi s a e w g _=>by
  refine⟨?_,rfl⟩;rw[aW (λz=>?_)]
  ·exact g
  ·subst z;exact hn i s e w)
theorem SI.set (I:SI K B G H σ ρ)(h:RepD K G v d):SI K B G H (σ.set i (some v)) (ρ.set i (.val d)):=
 I.chg I.fz (Fz.refl G) I.new I.keep I.there (λ_ _ _ _ _ _ g _=>⟨g,rfl,id⟩) ⟨v,rfl,h⟩
def SI.setO (I:SI K B G H σ ρ)(hg:G l=none)(hl:H l=some (.lst xs))(h:RepL K G xs ds)(hB:B.H l=none)(hn:Nw K G H σ ρ l):
  SI K B G H (σ.set i (some (.ref l))) (ρ.set i (.own ds)):=
 I.chg I.fz (Fz.refl G) I.new I.keep I.there (λj s a _ e w g _=>⟨g,rfl,λz=>by cases(show some (some (V.ref l))=some (some (.ref a))from z);exact hn j s e w⟩) ⟨l,xs,rfl,hg,hl,h,hB⟩
theorem SI.wr (I:SI K B G H σ ρ)(e:ρ[i]? =some s)(q:s.items=some ds):∃l xs,σ[i]? =some (some (.ref l))/\G l=none/\H l=some (.lst xs)/\RepL K G xs ds:=by
 have h:=I.slot i s e;cases s with
 |emp=>exact aG q
 |two _ _=>exact aG q
 |val d=>exact aG q
 |tre _=>exact aG q
 |ptr _=>exact aG q
 |own es=>cases q;obtain⟨l,xs,h1,h2,h3,h4,_⟩:=h;exact⟨l,xs,h1,h2,h3,h4⟩
 |par es=>cases q;obtain⟨l,xs,h1,h2,h3,h4,_⟩:=h;exact⟨l,xs,h1,h2,h3,h4⟩
def Sl.put (s:Sl)(ds:AA D):Sl:=match s with
 | .own _=> .own ds
 | .par _=> .par ds
 |s=>s
theorem kM (q:s.items=some ds){a:AD}:bR K G H ov a s↔ov=some (some (.ref a)):=by
 cases s with
 |own _=>exact Iff.rfl
 |par _=>exact Iff.rfl
 |_=>exact aG q
theorem zgu (q:s.items=some ds)(es:AA D):(s.put es).items=some es:=by
 cases s with
 |own _=>rfl
 |par _=>rfl
 |_=>exact aG q
def Ee {α:Type}{l:AA α}{x:α}(e:l[i]? =some x):l.set i x=l:=by
 obtain⟨h,rfl⟩:=qat.mp e;exact List.set_getElem_self h
def SI.chgW (I:SI K B G H σ ρ){i:Nat}(e:ρ[i]? =some s)(q:s.items=some ds)(hl:σ[i]? =some (some (.ref l)))(fz:Fz G' H')(fg:Fz G G')(nw:∀b o,G' b=some o->G b≠none\/H b=none)(kp:∀b o,b≠l->H b=some o->H' b=some o)(gl:G' l=none)(hl':H' l=some (.lst ys))(r:RepL K G' ys es):SI K B G' H' σ (ρ.set i (s.put es)):=by
 obtain⟨l',xs,e1,e2,e3,e4⟩:=I.wr e q;rw[hl]at e1;cases e1;have sl:=I.slot i s e;have nb:∀b o,B.H b=some o->(∀i,(i,b)∉B.O)->b≠l:=λb o h1 h2 z=>by
  subst z;rcases(sl.own ((kM q).mpr hl)).2.2 with z|z
  ·rw[h1]at z;cases z
  ·exact h2 i z
 have h:=I.chg (i:=i) (ov:=some (.ref l)) (s':=s.put es) (G':=G') (H':=H') fz fg (λb o k=>?_) (λb o k1 k2=>kp b o (nb b o k1 k2) (I.keep b o k1 k2)) (λb k=>?_) (λj t a z ej w g ha=>?_) ?_
 ·rwa[Ee hl]at h
 ·rcases nw b o k with h|h
  ·cases q2:G b with
   |none=>exact AH q2 h
   |some u=>exact I.new b u q2
  ·exact .inr (I.there b h)
 ·refine I.there b ?_;cases q2:H b with
  |none=>rfl
  |some u=>
   by_cases z:b=l
   ·subst z;rw[hl']at k;cases k
   ·rw[kp b u z q2]at k;cases k
 ·have na:a≠l:=λw'=>by subst w';exact I.dis j i t s a z ej e w ((kM q).mpr hl)
  obtain⟨u,hu⟩:=qbC.mp ha;refine⟨?_,(kp a u na hu).trans hu.symm,λz=>na ?_⟩
  ·cases q2:G' a with
   |none=>rfl
   |some u=>
    rcases nw a u q2 with z|z
    ·exact AH g z
    ·exact AH z ha
  ·cases(kM (zgu q es)).mp z;rfl
 ·cases s with
  |own es'=>obtain⟨l',xs',k1,k2,k3,k4,k5⟩:=sl;rw[hl]at k1;cases k1;exact⟨_,ys,rfl,gl,hl',r,k5⟩
  |par es'=>obtain⟨l',xs',k1,k2,k3,k4,k5⟩:=sl;rw[hl]at k1;cases k1;exact⟨_,ys,rfl,gl,hl',r,k5⟩
  |_=>cases q
def SI.write (I:SI K B G H σ ρ)(e:ρ[i]? =some s)(q:s.items=some ds)(hl:σ[i]? =some (some (.ref l)))(h:RepL K G ys es):
  SI K B G (upd H l (.lst ys)) σ (ρ.set i (s.put es)):=by
 obtain⟨l',xs,e1,e2,e3,e4⟩:=I.wr e q;rw[hl]at e1;cases e1;exact I.chgW e q hl (I.fz.right e2 _) (Fz.refl G) (λb o k=> .inl (by rw[k];simp)) (λb o z k=>by rw[aW z];exact k) e2 cW h
def SI.freeze (I:SI K B G H σ ρ){i:Nat}(e:ρ[i]? =some (.own ds)):∃l xs,σ[i]? =some (some (.ref l))/\Fz G (upd G l (.lst xs))/\RepD K (upd G l (.lst xs)) (.ref l) (.lst ds)/\
  SI K B (upd G l (.lst xs)) H σ (ρ.set i (.val (.lst ds))):=by
 obtain⟨l,xs,h1,h2,h3,h4,h5⟩:=I.slot i _ e;have fz:=Fz.new h2 (.lst xs);have rep:RepD K (upd G l (.lst xs)) (.ref l) (.lst ds):=⟨l,xs,rfl,cW,h4.mono fz⟩;refine⟨l,xs,h1,fz,rep,?_⟩;have h:=I.chg (i:=i) (ov:=some (.ref l)) (s':= .val (.lst ds)) (G':=upd G l (.lst xs)) (H':=H) (λa u q=>?_) fz (λb u q=>?_) I.keep I.there (λj t a z ej w g _=>⟨?_,rfl,id⟩) ⟨.ref l,rfl,rep⟩
 ·rwa[Ee h1]at h
 ·by_cases z:a=l
  ·subst z;rw[cW]at q;cases q;exact h3
  ·rw[aW z]at q;exact I.fz a u q
 ·by_cases z:b=l
  ·subst z;exact .inr h5
  ·rw[aW z]at q;exact I.new b u q
 ·rw[aW (λq=>by subst q;exact I.dis j i t _ a z ej e w h1)];exact g
end
abbrev ME:=R->AB (D×R)
abbrev MO:=R->AB (AA D×R)
abbrev MT:=R->AB (Bool×R)
abbrev MA:=R->AB (AA D×R)
def SEb (X:Cx)(e:AI)(m:ME)(t:TE):Prop:=∀B G H σ ρ d ρ' (Q:VK),SI X.K B G H σ ρ->m ρ=some (d,ρ')->(∀G' H' v,SI X.K B G' H' σ ρ'->Fz G G'->RepD X.K G' v d->Q v H')->t σ H Q
def SE (X:Cx)(e:AI)(m:ME):Prop:=∃t,PE X e t/\SEb X e m t
def SE.el {m:ME}(h:SE X e m)(k:∀t,PE X e t->SEb X e m t->C):C:=h.elim λt q=>k t q.1 q.2
def SOb (X:Cx)(e:AI)(m:MO)(t:TE):Prop:=∀B G H σ ρ ds ρ' (Q:VK),SI X.K B G H σ ρ->m ρ=some (ds,ρ')->
  (∀G' H' l xs,SI X.K B G' H' σ ρ'->Fz G G'->G' l=none->H' l=some (.lst xs)->RepL X.K G' xs ds->B.H l=none->Nw X.K G' H' σ ρ' l->Q (.ref l) H')->t σ H Q
def SO (X:Cx)(e:AI)(m:MO):Prop:=∃t,PE X e t/\SOb X e m t
def SO.el (h:SO X e m)(k:∀t,PE X e t->SOb X e m t->C):C:=h.elim λt q=>k t q.1 q.2
def Rx (X:Cx)(e:AI)(m:MT)(t:TT):Prop:=∀B G H σ ρ d ρ' (Q:Bool->Hp->Prop),SI X.K B G H σ ρ->m ρ=some (d,ρ')->(∀G' H',SI X.K B G' H' σ ρ'->Fz G G'->Q d H')->t σ H Q
def STt (X:Cx)(e:AI)(m:MT):Prop:=∃t,PT X e t/\Rx X e m t
def STt.el {m:MT}(h:STt X e m)(k:∀t,PT X e t->Rx X e m t->C):C:=h.elim λt q=>k t q.1 q.2
def SAb (X:Cx)(es:AA AI)(m:MA)(t:TA):Prop:=∀B G H σ ρ ds ρ' (Q:AA V->Hp->Prop),SI X.K B G H σ ρ->m ρ=some (ds,ρ')->(∀G' H' vs,SI X.K B G' H' σ ρ'->Fz G G'->RepL X.K G' vs ds->Q vs H')->t σ H Q
def SA (X:Cx)(es:AA AI)(m:MA):Prop:=∃t,PA X es t/\SAb X es m t
def SA.el {es:AA AI}{m:MA}(h:SA X es m)(k:∀t,PA X es t->SAb X es m t->C):C:=h.elim λt q=>k t q.1 q.2
def Gh (I:SI K B G H σ ρ)(hg:G l=none)(hl:H l=some (.lst xs))(h:RepL K G xs ds)(hB:B.H l=none)(hn:Nw K G H σ ρ l):
  SI K B (upd G l (.lst xs)) H σ ρ/\Fz G (upd G l (.lst xs))/\RepD K (upd G l (.lst xs)) (.ref l) (.lst ds):=
 ⟨I.frz hl hB hn hg,Fz.new hg _,⟨l,xs,rfl,cW,h.mono (Fz.new hg _)⟩⟩
def cE (m:MO):ME:=λρ=>(m ρ).map λp=>(.lst p.1,p.2)
theorem SO.se (h:SO X e m):SE X e (cE m):=by
 refine h.el λt p s=>?_
 refine⟨t,p,λB G H σ ρ d ρ' Q I hm k=>?_⟩;unfold cE at hm;cases q:m ρ with
 |none=>rw[q]at hm;exact aG hm
 |some r=>
  obtain⟨ds,ρ1⟩:=r;rw[q]at hm;exists bM hm;refine s B G H σ ρ ds _ Q I q λG' H' l xs I' fz hg hl hr hB hn=>?_
  obtain⟨I2,f2,r2⟩:=Gh I' hg hl hr hB hn;exact k _ _ _ I2 (fz.trans f2) r2
def eC (d:D):ME:=λρ=>some (d,ρ)
def aA (i:Nat):ME:=λρ=>match ρ[i]? with
 |some (.val d)=>some (d,ρ)
 |some (.own ds)=>some (.lst ds,ρ.set i (.val (.lst ds)))
 |_=>none
section
variable {X:Cx}{pos:Pos}
theorem aD (i:Nat){x:Str}(hN:X.N[i]? =some x:=by rfl)(hv:dP X.env.scope x:=by trivial)(hd:(x==("__debug__":Str))=false:=by decide)(hcd:(x==("__classdict__":Str))=false:=by decide):SE X (.Name x pos) (aA i):=by
 refine⟨_,eI hN hv hd hcd,λB G H σ ρ d ρ' Q I hm k=>?_⟩;unfold aA at hm;cases e:ρ[i]? with
 |none=>rw[e]at hm;exact aG hm
 |some s=>
  rw[e]at hm;cases s with
  |emp=>exact aG hm
  |two _ _=>exact aG hm
  |tre _=>exact aG hm
  |ptr _=>exact aG hm
  |par ds=>exact aG hm
  |val d'=>
   exists bM hm;obtain⟨v,h1,h2⟩:=I.slot i _ e;exact⟨v,h1,k G H v I (Fz.refl G) h2⟩
  |own ds=>
   exists bM hm;obtain⟨l,xs,h1,f,r,I'⟩:=I.freeze e;exact⟨.ref l,h1,k _ H _ I' f r⟩
theorem aL {i:Int}{j}:SE X (.Constant (.int i) j pos) (eC (.int i)):=⟨_,Je,λB G H σ ρ d ρ' Q I hm k=>by exists bM hm;exact k G H _ I (Fz.refl G) rfl⟩
theorem Nz {b:Bool}{j}:SE X (.Constant (.bool b) j pos) (eC (.bl b)):=⟨_,Ry,λB G H σ ρ d ρ' Q I hm k=>by exists bM hm;exact k G H _ I (Fz.refl G) rfl⟩
theorem Nh {j}:SE X (.Constant .none j pos) (eC .non):=⟨_,sN,λB G H σ ρ d ρ' Q I hm k=>by exists bM hm;exact k G H _ I (Fz.refl G) rfl⟩
theorem Dv {x:Str}{j}:SE X (.Constant (.str x) j pos) (eC (.str x)):=⟨_,Fg,λB G H σ ρ d ρ' Q I hm k=>by exists bM hm;exact k G H _ I (Fz.refl G) rfl⟩
end
def aB:MA:=λρ=>some ([],ρ)
def aE (m:ME)(r:MA):MA:=λρ=>(m ρ).bind λp=>(r p.2).map λq=>(p.1::q.1,q.2)
section
variable {X:Cx}{e:AI}{es:AA AI}{m:ME}{r:MA}
theorem aK:SA X [] aB:=⟨_,oP,λB G H σ ρ ds ρ' Q I hm k=>by exists bM hm;exact k G H [] I (Fz.refl G) .nil⟩
theorem aF (h:SE X e m)(hr:SA X es r)(hs:starEach (e::es) X.env=(false,eval e X.env)::starEach es X.env:=by rfl):SA X (e::es) (aE m r):=by
 refine h.el λt p s=>?_
 refine hr.el λu q z=>?_
 refine⟨_,iG p q hs,λB G H σ ρ ds ρ' Q I hm k=>?_⟩;unfold aE at hm;cases e1:m ρ with
 |none=>rw[e1]at hm;exact aG hm
 |some a=>
  obtain⟨d,ρ1⟩:=a;rw[e1]at hm;cases e2:r ρ1 with
  |none=>simp[e2]at hm
  |some b=>
   obtain⟨es',ρ2⟩:=b;simp only[iT,e2,Ex,Option.some.injEq,Prod.mk.injEq]at hm;exists hm;exact s B G H σ ρ d ρ1 _ I e1 λG1 H1 v I1 f1 r1=>z B G1 H1 σ ρ1 es' ρ2 _ I1 e2 λG2 H2 vs I2 f2 r2=>k G2 H2 (v::vs) I2 (f1.trans f2) (.cons (r1.mono f2) r2)
end
def V2 (X:Cx)(r:R2)(f:D->D->AB D):Prop:=∀B G H σ ρ x y a b d (Q:VK),SI X.K B G H σ ρ->RepD X.K G x a->RepD X.K G y b->f a b=some d->(∀G' H' v,SI X.K B G' H' σ ρ->Fz G G'->RepD X.K G' v d->Q v H')->r x y H Q
def V1 (X:Cx)(r:V->Hp->VK->Prop)(f:D->AB D):Prop:=∀B G H σ ρ x a d (Q:VK),SI X.K B G H σ ρ->RepD X.K G x a->f a=some d->(∀G' H' v,SI X.K B G' H' σ ρ->Fz G G'->RepD X.K G' v d->Q v H')->r x H Q
def VC (X:Cx)(r:AA V->Hp->VK->Prop)(f:AA D->AB D):Prop:=∀B G H σ ρ xs ds d (Q:VK),SI X.K B G H σ ρ->RepL X.K G xs ds->f ds=some d->(∀G' H' v,SI X.K B G' H' σ ρ->Fz G G'->RepD X.K G' v d->Q v H')->r xs H Q
def m2 (f:D->D->AB D)(ma mb:ME):ME:=λρ=>(ma ρ).bind λp=>(mb p.2).bind λq=>(f p.1 q.1).map λd=>(d,q.2)
def m1 (f:D->AB D)(ma:ME):ME:=λρ=>(ma ρ).bind λp=>(f p.1).map λd=>(d,p.2)
def mC (f:AA D->AB D)(ma:MA):ME:=λρ=>(ma ρ).bind λp=>(f p.1).map λd=>(d,p.2)
theorem qY {ma mb:ME}(h:m2 f ma mb ρ=some (d,ρ')):∃a ρ1 b,ma ρ=some (a,ρ1)/\mb ρ1=some (b,ρ')/\f a b=some d:=by
 unfold m2 at h;cases e1:ma ρ with
 |none=>rw[e1]at h;exact aG h
 |some p=>
  obtain⟨a,ρ1⟩:=p;rw[e1]at h;cases e2:mb ρ1 with
  |none=>simp[e2]at h
  |some q=>
   obtain⟨b,ρ2⟩:=q;simp only[iT,e2]at h;cases e3:f a b with
   |none=>rw[e3]at h;exact aG h
   |some c=>rw[e3]at h;exists bM h;exact⟨a,ρ1,b,rfl,e2,e3⟩
theorem rX {f:D->AB D}(h:m1 f ma ρ=some (d,ρ')):∃a,ma ρ=some (a,ρ')/\f a=some d:=by
 unfold m1 at h;cases e1:ma ρ with
 |none=>rw[e1]at h;exact aG h
 |some p=>
  obtain⟨a,ρ1⟩:=p;rw[e1]at h;simp only[iT]at h;cases e3:f a with
  |none=>rw[e3]at h;exact aG h
  |some c=>rw[e3]at h;exists bM h;exact⟨a,rfl,e3⟩
theorem Hu {f:AA D->AB D}{ma:MA}(h:mC f ma ρ=some (d,ρ')):∃a,ma ρ=some (a,ρ')/\f a=some d:=by
 unfold mC at h;cases e1:ma ρ with
 |none=>rw[e1]at h;exact aG h
 |some p=>
  obtain⟨a,ρ1⟩:=p;rw[e1]at h;simp only[iT]at h;cases e3:f a with
  |none=>rw[e3]at h;exact aG h
  |some c=>rw[e3]at h;exists bM h;exact⟨a,rfl,e3⟩
section
variable {X:Cx}{a b:AI}{ma mb:ME}{pos:Pos}{f:D->D->AB D}
def zmo {r:R2}(hv:V2 X r f)(sa:∀B G H σ ρ d ρ' (Q:VK),SI X.K B G H σ ρ->ma ρ=some (d,ρ')->(∀G' H' v,SI X.K B G' H' σ ρ'->Fz G G'->RepD X.K G' v d->Q v H')->ta σ H Q)(sb:∀B G H σ ρ d ρ' (Q:VK),SI X.K B G H σ ρ->mb ρ=some (d,ρ')->(∀G' H' v,SI X.K B G' H' σ ρ'->Fz G G'->RepD X.K G' v d->Q v H')->tb σ H Q):
  ∀B G H σ ρ d ρ' (Q:VK),SI X.K B G H σ ρ->m2 f ma mb ρ=some (d,ρ')->(∀G' H' v,SI X.K B G' H' σ ρ'->Fz G G'->RepD X.K G' v d->Q v H')->Yz r ta tb σ H Q:=by
 intro B G H σ ρ d ρ' Q I hm k;obtain⟨x,ρ1,y,e1,e2,e3⟩:=qY hm;exact sa B G H σ ρ x ρ1 _ I e1 λG1 H1 v I1 f1 r1=>sb B G1 H1 σ ρ1 y ρ' _ I1 e2 λG2 H2 u I2 f2 r2=>
  hv B G2 H2 σ ρ' v u x y d Q I2 (r1.mono f2) r2 e3 λG3 H3 z I3 f3 r3=>k G3 H3 z I3 (f1.trans (f2.trans f3)) r3
def lO {r:R2}(ho:OpR X (binaryOp op) r)(hv:V2 X r f)(ha:SE X a ma)(hb:SE X b mb):SE X (.BinOp a op b pos) (m2 f ma mb):=by
 refine ha.el λta pa sa=>?_
 refine hb.el λtb pb sb=>?_
 exact⟨_,Cb ho pa pb,zmo hv sa sb⟩
def tD {op:CmpOp}{r:R2}(ho:OpR X (compareOp op) r)(hv:V2 X r f)(ha:SE X a ma)(hb:SE X b mb)(hm:behindInMarks op b=false):SE X (.Compare a [op] [b] pos) (m2 f ma mb):=by
 refine ha.el λta pa sa=>?_
 refine hb.el λtb pb sb=>?_
 exact⟨_,vC ho pa pb hm,zmo hv sa sb⟩
def Xb {op:UnaryOp}(ho:UnR X (unaryOp op) r)(hv:V1 X r g)(ha:SE X a ma):SE X (.UnaryOp op a pos) (m1 g ma):=by
 refine ha.el λta pa sa=>?_
 refine⟨_,Wk ho pa,λB G H σ ρ d ρ' Q I hm k=>?_⟩;obtain⟨x,e1,e2⟩:=rX hm;exact sa B G H σ ρ x ρ' _ I e1 λG1 H1 v I1 f1 r1=>hv B G1 H1 σ ρ' v x d Q I1 r1 e2 λG2 H2 z I2 f2 r2=>k G2 H2 z I2 (f1.trans f2) r2
def Vj {r:R2}(hr:IxR X r)(hv:V2 X r f)(ha:SE X a ma)(hb:SE X b mb)(hs:zji b):SE X (.Subscript a b pos) (m2 f ma mb):=by
 refine ha.el λta pa sa=>?_
 refine hb.el λtb pb sb=>?_
 exact⟨_,Di hr pa pb hs,zmo hv sa sb⟩
end
section
variable {X:Cx}{x:Str}{p pos:Pos}{e:AI}{es:AA AI}{ma:MA}{id T:String}{r:AA V->Hp->VK->Prop}{f:AA D->AB D}
def pA {t:TA}(hv:VC X r f)(sa:∀B G H σ ρ ds ρ' (Q:AA V->Hp->Prop),SI X.K B G H σ ρ->ma ρ=some (ds,ρ')->(∀G' H' vs,SI X.K B G' H' σ ρ'->Fz G G'->RepL X.K G' vs ds->Q vs H')->t σ H Q):
  ∀B G H σ ρ d ρ' (Q:VK),SI X.K B G H σ ρ->mC f ma ρ=some (d,ρ')->(∀G' H' v,SI X.K B G' H' σ ρ'->Fz G G'->RepD X.K G' v d->Q v H')->tCB r t σ H Q:=by
 intro B G H σ ρ d ρ' Q I hm k;obtain⟨ds,e1,e2⟩:=Hu hm;exact sa B G H σ ρ ds ρ' _ I e1 λG1 H1 vs I1 f1 r1=>hv B G1 H1 σ ρ' vs ds d Q I1 r1 e2 λG2 H2 z I2 f2 r2=>k G2 H2 z I2 (f1.trans f2) r2
def Bq (hc:iA X (.builtin id) r)(hv:VC X r f)(hb:bootBuiltins x=some (.builtin id))(hm:X.mg x=none)(ha:SA X (e::es) ma)(hg:Gl X x:=by rfl)(hn:x≠"__name__":=by decide)(hdb:(x==("__debug__":Str))=false:=by decide)(he:starEach (e::es) X.env=(false,eval e X.env)::starEach es X.env:=by rfl)(hpl:(backTo pos (starEach es X.env)).any (·.1)=false:=by rfl):SE X (.Call (.Name x p) (e::es) [] pos) (mC f ma):=by
 refine ha.el λt pa sa=>?_
 exact⟨_,zjV hc hg hm hb pa hn hdb he hpl,pA hv sa⟩
def zpl (hc:iA X (.type T) r)(hv:VC X r f)(hb:bootBuiltins x=some (.type T))(hm:X.mg x=none)(ha:SA X (e::es) ma)(hg:Gl X x:=by rfl)(hn:x≠"__name__":=by decide)(hdb:(x==("__debug__":Str))=false:=by decide)(he:starEach (e::es) X.env=(false,eval e X.env)::starEach es X.env:=by rfl)(hpl:(backTo pos (starEach es X.env)).any (·.1)=false:=by rfl):SE X (.Call (.Name x p) (e::es) [] pos) (mC f ma):=by
 refine ha.el λt pa sa=>?_
 exact⟨_,Pc hc hg hm hb pa hn hdb he hpl,pA hv sa⟩
end
end M
namespace M
open L2 PySem PySem.Spec
open PyProof.Rows hiding St
variable {v:V}{ds cs out:AA D}{p l DD:AD}{xs vs ys:AA V}{c:Int->Int->Bool}{g:D->R->AB R}{x qual:Str}{d:D}{C:Prop}{X:Cx}{ma:MA}{pos pos':Pos}{k i j n t:Nat}{G H H' G' Hc Gc:Hp}{us its:AA AC}{u:AC}{A:Around}{B:Bs}{σ σc:St}{ρ ρ':R}{s:Sl}{Q E:AC->AE->Prop}{e tg it:AI}{f:D->R->AB (AB D×R)}{op:CmpOp}{m:MS}{mc:MT}{tgs es ifs:AA AI}{h:AA D->R->AB R}{body:AA Stmt}{N ps:AA Str}{fd:FuncData}{env:Env}{scope:Scope}{cl:AA (Str×AD)}{h':AK}{prog:AJ}{w:World}{use:AB (AC->Sem Unit)}{ov:AB (AB V)}{cap:AA Nat}{o:AB D}{O:AA (Nat×AD)}{tg':AD->AE->Hp->AA AD->TG}{tt:AD->AE->Hp->AA AD->TT}{te:AD->AE->Hp->AA AD->TE}{JJ:Hp->Hp->St->R->Prop}{wi:TI}{ns:AA Int}
section
variable {X:Cx}{K:AF}{B:Bs}{G H:Hp}{σ:St}{ρ:R}
def SI.lst (I:SI K B G H σ ρ)(h:RepD K G v (.lst ds)):∃a xs,v= .ref a/\H a=some (.lst xs)/\RepL K G xs ds:=by
 obtain⟨a,xs,e,q,r⟩:=h;exact⟨a,xs,e,I.fz a _ q,r⟩
def SI.tup (I:SI K B G H σ ρ)(h:RepD K G v (.tup ds)):∃a xs,v= .ref a/\H a=some (.tup xs)/\RepL K G xs ds:=by
 obtain⟨a,xs,e,q,r⟩:=h;exact⟨a,xs,e,I.fz a _ q,r⟩
def SI.newT (I:SI K B G H σ ρ)(hp:H p=none)(h:RepL K G xs ds):SI K B (upd G p (.tup xs)) (upd H p (.tup xs)) σ ρ/\Fz G (upd G p (.tup xs))/\RepD K (upd G p (.tup xs)) (.ref p) (.tup ds):=
 ⟨I.allocF hp _,Fz.new (I.fz.free hp) _,⟨p,xs,rfl,cW,h.mono (Fz.new (I.fz.free hp) _)⟩⟩
def SI.newL (I:SI K B G H σ ρ)(hp:H p=none)(h:RepL K G xs ds):SI K B (upd G p (.lst xs)) (upd H p (.lst xs)) σ ρ/\Fz G (upd G p (.lst xs))/\RepD K (upd G p (.lst xs)) (.ref p) (.lst ds):=
 ⟨I.allocF hp _,Fz.new (I.fz.free hp) _,⟨p,xs,rfl,cW,h.mono (Fz.new (I.fz.free hp) _)⟩⟩
end
def iC (c:Int->Int->Bool)(g:Int->Int->D):D->D->AB D
 | .int i,.int j=>if c i j then some (g i j)else none
 |_,_=>none
theorem zmv {g:Int->Int->D}{x y d:D}(h:iC c g x y=some d)(k:∀i j,x= .int i->y= .int j->c i j=true->g i j=d->C):C:=by
 cases x with
 |int i=>cases y with
  |int j=>exact aT h λz h=>k i j rfl rfl z (Option.some.inj h)
  |_=>exact aG h
 |_=>exact aG h
def Ci {C:Int->Int->Prop}{g:Int->Int->Int}(hc:∀i j,c i j=true->C i j):V2 X (rI C λi j=> .int (g i j)) (iC c λi j=> .int (g i j)):=λB G H σ ρ x y a b d Q I ra rb hf k=>zmv hf λi j ea eb h ed=>by
 subst ea eb ed;exact⟨i,j,ra,rb,hc i j h,k G H _ I (Fz.refl G) rfl⟩
def zot {g:Int->Int->Int}:V2 X (Ak λi j=> .int (g i j)) (iC (λ_ _=>true) λi j=> .int (g i j)):=λB G H σ ρ x y a b d Q I ra rb hf k=>zmv hf λi j ea eb h ed=>by
 subst ea eb ed;exact⟨i,j,ra,rb,k G H _ I (Fz.refl G) rfl⟩
def znR {g:Int->Int->Bool}:V2 X (Ak λi j=> .bl (g i j)) (iC (λ_ _=>true) λi j=> .bl (g i j)):=λB G H σ ρ x y a b d Q I ra rb hf k=>zmv hf λi j ea eb h ed=>by
 subst ea eb ed;exact⟨i,j,ra,rb,k G H _ I (Fz.refl G) rfl⟩
def dZ:D->D->AB D:=iC (λ_ _=>true) λi j=> .int (i-j)
def kG (j:Int):Bool:=decide (0<j)&&decide (j.natAbs.log2<9000)
def rE:OpR X (binaryOp .FloorDiv) (rI (λ_ j=>0<j/\j.natAbs.log2<9000) λi j=> .int (i/j)):=Df λi j _ _ _ _ _ hc q=>by
 have h1:(0:Int)<j:=hc.1;exact PyProof.Rows.floordiv_int ∅ (by rw[qaL i ∅];exact q) (.inl (PyProof.noPylong_of_log2 hc.2))
def lY:D->D->AB D:=iC (λ_ j=>kG j) λi j=> .int (i/j)
def eM:D->D->AB D:=iC (λ_ j=>decide (0<j)) λi j=> .int (i%j)
def eX:D->D->AB D:=iC (λi j=>decide (0<=j)&&decide (j<=1000000)&&decide (i.natAbs<2^64)) λi j=> .int (i^j.toNat)
def Nb:D->D->AB D:=iC (λi j=>decide (0<=j)&&decide (j<=1000000)&&decide (i.natAbs<2^64)) λi j=> .int (i*2^j.toNat)
def Lu:D->D->AB D:=iC (λ_ j=>decide (0<=j)) λi j=> .int (i/2^j.toNat)
def zC:D->D->AB D:=iC (λ_ _=>true) λi j=> .int (Builtin.bitAnd i j)
def On:D->D->AB D:=iC (λ_ _=>true) λi j=> .bl (decide (i<j))
def Rv:D->D->AB D:=iC (λ_ _=>true) λi j=> .bl (decide (j<=i))
section
variable {X:Cx}{a b:AI}{ma mb:ME}{pos:Pos}
def qI (ha:SE X a ma)(hb:SE X b mb):SE X (.BinOp a .Sub b pos) (m2 dZ ma mb):=lO Jd zot ha hb
def zoL (ha:SE X a ma)(hb:SE X b mb):SE X (.BinOp a .FloorDiv b pos) (m2 lY ma mb):=lO rE (Ci λi j h=>by simpa[kG]using h) ha hb
def tV (ha:SE X a ma)(hb:SE X b mb):SE X (.BinOp a .Mod b pos) (m2 eM ma mb):=lO Ic (Ci λi j h=> ~~~h) ha hb
def vD (ha:SE X a ma)(hb:SE X b mb):SE X (.BinOp a .Pow b pos) (m2 eX ma mb):=lO Gn (Ci λi j h=>by simp only[cD,kJ]at h;exact⟨h.1.1,h.1.2,h.2⟩) ha hb
def Lb (ha:SE X a ma)(hb:SE X b mb):SE X (.BinOp a .LShift b pos) (m2 Nb ma mb):=lO Lg (Ci λi j h=>by simp only[cD,kJ]at h;exact⟨h.1.1,h.1.2,h.2⟩) ha hb
def Ki (ha:SE X a ma)(hb:SE X b mb):SE X (.BinOp a .RShift b pos) (m2 Lu ma mb):=lO He (Ci λi j h=> ~~~h) ha hb
def zm3 (ha:SE X a ma)(hb:SE X b mb):SE X (.BinOp a .BitAnd b pos) (m2 zC ma mb):=lO Jc zot ha hb
def Xy (ha:SE X a ma)(hb:SE X b mb):SE X (.Compare a [.GtE] [b] pos) (m2 Rv ma mb):=tD Bo znR ha hb (Oj _)
end
def dU:D->AB D
 | .int i=>some (.int (-i))
 |_=>none
def Da {ma:ME}(ha:SE X a ma):SE X (.UnaryOp .USub a pos) (m1 dU ma):=
 Xb Fj (λB G H σ ρ x a d Q I ra hf k=>by
  cases a<;>simp only[dU]at hf<;>try cases hf
  exact⟨_,ra,k G H _ I (Fz.refl G) rfl⟩) ha
def vN (i j:Int):Bool:=(decide (i.natAbs<2^64)||decide (j.natAbs<2^64))||(decide (i.natAbs<2^4000)&&decide (j.natAbs<2^4000))
def cG:D->D->AB D
 | .int i,.int j=>if vN i j then some (.int (i*j))else none
 | .lst ds,.int k=>if decide (-1000000<=k)&&decide (k<=1000000)&&decide (ds.length*k.toNat<=1000000)then some (.lst (List.replicate k.toNat ds).flatten)else none
 |_,_=>none
def zi2 {k:Int}(h:k.natAbs<2^4000):Builtin.Int.intBits k<=4000:=by
 unfold Builtin.Int.intBits
 split
 ·exact gK _
 ·have:k.natAbs.log2<4000:=by
   rcases Nat.eq_zero_or_pos k.natAbs with h0|hp
   ·rw[h0];decide
   ·exact(Nat.log2_lt (Nat.ne_of_gt hp)).mpr h
  lia
def qT {i j:Int}(h:vN i j=true):IntMulOk i j:=by
 unfold vN at h;simp only[Pg,cD,kJ]at h;rcases h with(h|h)|⟨h1,h2⟩
 ·exact .of_left (intBits_le_64 ∅ ∅)
 ·exact .of_right (intBits_le_64 ∅ ∅)
 ·have b1:=zi2 h1;have b2:=zi2 h2;unfold IntMulOk;intro z;simp only[cD]at z;have z2:=z.2;unfold Builtin.Int.intTooBig at z2
  revert z2
  generalize Builtin.Int.intBits i=p at*
  generalize Builtin.Int.intBits j=q at*
  intro z2;have z3:=Oi z2;have hb:=bitsLine_eq;lia
def op_mulG:OpR X (binaryOp .Mult) (rI IntMulOk λi j=> .int (i*j)):=Df λ_ _ _ _ _ _ _ hc q=>mul_int q hc
theorem iI {a b:AI}{ma mb:ME}(ha:SE X a ma)(hb:SE X b mb):SE X (.BinOp a .Mult b pos) (m2 cG ma mb):=by
 refine lO (op_mulG.or pK) (λB G H σ ρ x y a b d Q I ra rb hf k=>?_) ha hb;cases a with
 |int i=>cases b with
  |int j=>
   refine aT hf λh hf=>?_
   obtain rfl:=Option.some.inj hf;exact .inl ⟨i,j,ra,rb,qT h,k G H _ I (Fz.refl G) rfl⟩
  |_=>exact aG hf
 |lst ds=>cases b with
  |int j=>
   refine aT hf λh hf=>?_
   obtain rfl:=Option.some.inj hf;simp only[cD,kJ]at h;obtain⟨a,xs,rfl,ha,r⟩:=I.lst ra;have hl:=r.length;refine .inr ⟨a,j,xs,rfl,rb,ha,∅,∅,by rw[hl,fX];lia,λp hp=>?_⟩;obtain⟨I2,f2,r2⟩:=I.newL hp (r.rep j.toNat);exact k _ _ _ I2 f2 r2
  |_=>exact aG hf
 |_=>exact aG hf
def bH:D->D->AB D
 | .int i,.int j=>some (.int (i+j))
 | .tup a,.tup b=>if a.length+b.length<=16777216 then some (.tup (a++b))else none
 | .lst a,.lst b=>if a.length+b.length<=16777216 then some (.lst (a++b))else none
 | .str a,.str b=>if a.length+b.length<=16777216 then some (.str (a++b))else none
 |_,_=>none
def op_catT0:OpR X (binaryOp .Add) (λx y H Q=>∃a b ys,x= .ref a/\y= .ref b/\SqT X.K H a []/\SqT X.K H b ys/\Q (.ref b) H):=by
 intro AM s σ H x y v u Q I rx ry h;obtain⟨a,b,ys,rfl,rfl,ha,hb,q⟩:=h;cases rx;cases ry;obtain⟨its,r1,p1,_⟩:=I.tuple ha;obtain⟨its2,r2,p2,_⟩:=I.tuple hb;obtain rfl:its=[]:=by cases r1;rfl
 obtain⟨⟨cls,dd,data,sl⟩,ho,hc,n,hd⟩:=id p1;obtain⟨⟨cls2,dd2,data2,sl2⟩,ho2,hc2,n2,hd2⟩:=id p2;simp only at hc hd hc2 hd2;subst hc hd hc2 hd2;exact concat_meets ⟨_,ho,rfl⟩ ⟨_,ho2,rfl⟩ noFill_tuple_add seq_tuple_add qbd qbe (qbf _ _)
   (tuple_addW0 a b _ _ n n2 dd dd2 sl sl2 (by simp)) ⟨ho,ho2,⟨.ref b,H,I,rfl,q⟩⟩
theorem dW {a b:AI}{ma mb:ME}(ha:SE X a ma)(hb:SE X b mb):SE X (.BinOp a .Add b pos) (m2 bH ma mb):=by
 refine lO (op_add.or (op_catT.or (op_catT0.or (op_cat.or zm5)))) (λB G H σ ρ x y a b d Q I ra rb hf k=>?_) ha hb;cases a with
 |int i=>cases b with
  |int j=>obtain rfl:=Option.some.inj hf;exact .inl ⟨_,_,ra,rb,k G H _ I (Fz.refl G) rfl⟩
  |_=>exact aG hf
 |str i=>cases b with
  |str j=>
   refine aT hf λh hf=>?_
   obtain rfl:=Option.some.inj hf;exact .inr (.inr (.inr (.inr ⟨i,j,ra,rb,by rw[fX];exact h,k G H _ I (Fz.refl G) rfl⟩)))
  |_=>exact aG hf
 |lst as=>cases b with
  |lst bs=>
   refine aT hf λh hf=>?_
   obtain rfl:=Option.some.inj hf;obtain⟨a,xs,rfl,ha,r⟩:=I.lst ra;obtain⟨b,ys,rfl,hb,r2⟩:=I.lst rb;refine .inr (.inr (.inr (.inl ⟨a,b,xs,ys,rfl,rfl,ha,hb,by rw[r.length,r2.length,fX];exact h,λp hp=>?_⟩)));obtain⟨I2,f2,r2⟩:=I.newL hp (r.append r2);exact k _ _ _ I2 f2 r2
  |_=>exact aG hf
 |tup as=>cases b with
  |tup bs=>
   refine aT hf λh hf=>?_
   obtain rfl:=Option.some.inj hf;obtain⟨a,xs,rfl,ha,r⟩:=I.tup ra;obtain⟨b,ys,rfl,hb,r2⟩:=I.tup rb
   by_cases z:xs=[]
   ·subst z;have z':as=[]:=Wc r.length.symm;subst z';exact .inr (.inr (.inl ⟨a,b,ys,rfl,rfl,SqT.of ha,SqT.of hb,k G H _ I (Fz.refl G) rb⟩))
   ·refine .inr (.inl ⟨a,b,xs,ys,rfl,rfl,SqT.of ha,SqT.of hb,z,by rw[r.length,r2.length,fX];exact h,λw=>?_,λw p hp=>?_⟩)
    ·subst w;have w':bs=[]:=Wc r2.length.symm;subst w';rw[qO]at k;exact k G H _ I (Fz.refl G) ra
    ·obtain⟨I2,f2,r2⟩:=I.newT hp (r.append r2);exact k _ _ _ I2 f2 r2
  |_=>exact aG hf
 |_=>exact aG hf
mutual
def bC:D->Bool
 | .scr _=>false
 | .exc _=>false
 | .dic _ _=>false
 | .dit _ _=>false
 | .obj _ _ _ _ _=>false
 | .lst ds=>cQ ds
 | .tup ds=>cQ ds
 |_=>true
def cQ:List D->Bool
 |[]=>true
 |d::ds=>bC d&&cQ ds
end
mutual
def eE:D->D->Bool
 | .non,.non=>true
 | .bl a,.bl b=>a==b
 | .int a,.int b=>a==b
 | .str a,.str b=>a==b
 | .bl a,.int b=>(if a then 1 else 0)==b
 | .int a,.bl b=>a==(if b then 1 else 0)
 | .lst a,.lst b=>dA a b
 | .tup a,.tup b=>dA a b
 |_,_=>false
def dA:List D->List D->Bool
 |[],[]=>true
 |a::as,b::bs=>eE a b&&dA as bs
 |_,_=>false
end
def Xp:∀{as bs:AA D},as.length≠bs.length->dA as bs=false
 |[],[],h=>AH rfl h
 |[],_::_,_=>rfl
 |_::_,[],_=>rfl
 |a::as,b::bs,h=>by
  have:=Xp (as:=as) (bs:=bs) (λe=>h (by simp[e]));simp[dA,this]
mutual
theorem zjB:∀d,bC d=true->eE d d=true
 | .non,_=>rfl
 | .bl b,_=>by simp[eE]
 | .int b,_=>by simp[eE]
 | .str b,_=>by simp[eE]
 | .lst ds,h=>by simp only[bC]at h;simp only[eE];exact zii ds h
 | .tup ds,h=>by simp only[bC]at h;simp only[eE];exact zii ds h
 | .scr _,h=>by simp[bC]at h
 | .exc _,h=>by simp[bC]at h
 |(.dic _ _),h=>by simp[bC]at h
 |(.dit _ _),h=>by simp[bC]at h
 |(.obj _ _ _ _ _),h=>by simp[bC]at h
theorem zii:∀ds,cQ ds=true->dA ds ds=true
 |[],_=>rfl
 |d::ds,h=>by
  simp only[cQ,cD]at h;simp only[dA,cD];exact⟨zjB d h.1,zii ds h.2⟩
end
mutual
def depth:D->Nat
 | .lst ds=>uX ds+1
 | .tup ds=>uX ds+1
 |_=>0
def uX:List D->Nat
 |[]=>0
 |d::ds=>max (depth d) (uX ds)
end
def zi5:∀{l:AA D} {i:Nat} {d:D},l[i]? =some d->depth d<=uX l
 |[],_,_,h=>by simp at h
 |c::l,0,d,h=>by simp at h;subst h;simp only[uX];lia
 |c::l,i+1,d,h=>by
  have:=zi5 (l:=l) (i:=i) (d:=d) (~~~h);simp only[uX];lia
def Qp:∀{l:AA D} {i:Nat} {d:D},l[i]? =some d->cQ l=true->bC d=true
 |[],_,_,h,_=>by simp at h
 |c::l,0,d,h,z=>by simp at h;subst h;simp only[cQ,cD]at z;exact z.1
 |c::l,i+1,d,h,z=>by simp only[cQ,cD]at z;exact Qp (l:=l) (i:=i) (~~~h) z.2
mutual
theorem RepD.inj {K:W.Frag}:∀{a b:D} {x:V},bC a=true->bC b=true->RepD K G x a->RepD K G x b->a=b
 | .non,b,x,_,nb,ra,rb=>by
  cases(show x=V.non from ra);cases b<;>simp_all [RepD,bC]
 | .bl c,b,x,_,nb,ra,rb=>by
  cases(show x=V.bl c from ra);cases b<;>simp_all [RepD,bC]
 | .int c,b,x,_,nb,ra,rb=>by
  cases(show x=V.int c from ra);cases b<;>simp_all [RepD,bC]
 | .str c,b,x,_,nb,ra,rb=>by
  cases(show x=V.str c from ra);cases b<;>simp_all [RepD,bC]
 | .lst ds,b,x,na,nb,ra,rb=>by
  obtain⟨p,xs,rfl,q,r⟩:=ra;cases b with
  |lst es=>
   obtain⟨p2,ys,e,q2,r2⟩:=rb;cases e;rw[q]at q2;cases q2;simp only[bC]at na nb;rw[RepL.inj na nb r r2]
  |tup es=>
   obtain⟨p2,ys,e,q2,r2⟩:=rb;cases e;rw[q]at q2;cases q2
  |scr _=>simp[bC]at nb
  |exc _=>simp[bC]at nb
  |dic _ _=>simp[bC]at nb
  |dit _ _=>simp[bC]at nb
  |obj _ _ _ _ _=>simp[bC]at nb
  |non=>simp[RepD]at rb
  |bl _=>simp[RepD]at rb
  |int _=>simp[RepD]at rb
  |str _=>simp[RepD]at rb
 | .tup ds,b,x,na,nb,ra,rb=>by
  obtain⟨p,xs,rfl,q,r⟩:=ra;cases b with
  |tup es=>
   obtain⟨p2,ys,e,q2,r2⟩:=rb;cases e;rw[q]at q2;cases q2;simp only[bC]at na nb;rw[RepL.inj na nb r r2]
  |lst es=>
   obtain⟨p2,ys,e,q2,r2⟩:=rb;cases e;rw[q]at q2;cases q2
  |scr _=>simp[bC]at nb
  |exc _=>simp[bC]at nb
  |dic _ _=>simp[bC]at nb
  |dit _ _=>simp[bC]at nb
  |obj _ _ _ _ _=>simp[bC]at nb
  |non=>simp[RepD]at rb
  |bl _=>simp[RepD]at rb
  |int _=>simp[RepD]at rb
  |str _=>simp[RepD]at rb
 | .scr _,_,_,na,_,_,_=>by simp[bC]at na
 | .exc _,_,_,na,_,_,_=>by simp[bC]at na
 |(.dic _ _),_,_,na,_,_,_=>by simp[bC]at na
 |(.dit _ _),_,_,na,_,_,_=>by simp[bC]at na
 |(.obj _ _ _ _ _),_,_,na,_,_,_=>by simp[bC]at na
theorem RepL.inj {K:W.Frag}:∀{as bs:List D} {xs:List V},cQ as=true->cQ bs=true->RepL K G xs as->RepL K G xs bs->as=bs
 |[],[],_,_,_,_,_=>rfl
 |[],_::_,xs,_,_,e,h=>by
  obtain⟨_,_,e2,_⟩:=h;cases(show xs=[]from e);cases e2
 |_::_,[],xs,_,_,h,e=>by
  obtain⟨_,_,e2,_⟩:=h;cases(show xs=[]from e);cases e2
 |a::as,b::bs,xs,na,nb,h,h2=>by
  obtain⟨x,ys,e,q,r⟩:=h;obtain⟨x2,ys2,e2,q2,r2⟩:=h2;subst e;cases e2;simp only[cQ,cD]at na nb;rw[RepD.inj na.1 nb.1 q q2,RepL.inj na.2 nb.2 r r2]
end
def Eg (ds es:AA D)(j:Nat):Bool:=match ds[j]?,es[j]? with
 |some a,some b=>eE a b
 |_,_=>false
def Vu:∀(as bs:AA D),as.length=bs.length->(List.range as.length).all (Eg as bs)=dA as bs
 |[],[],_=>by simp[dA]
 |a::as,b::bs,h=>by
  have ih:=Vu as bs (~~~h);rw[eS,List.range_succ_eq_map,lL,List.all_map];simp only[dA,<-ih];congr 1
 |[],_::_,h=>by simp at h
 |_::_,[],h=>by simp at h
section
variable {X:Cx}{AM:AA (AD×Obj)}{σ:St}{H G:Hp}{s:AE}
def zoG (r:Vals xs us)(h:RepL X.K G xs ds)(e:us[j]? =some u):∃x d,ds[j]? =some d/\RelV x u/\RepD X.K G x d:=by
 have hl:=r.length;have hl2:=h.length;have hj:j<us.length:=(qat.mp e).1;have ej:ds[j]? =some ds[j]:=bA ∅;obtain⟨x,q1,q2⟩:=h.get ej;obtain⟨u',h1,h2⟩:=r.get q1;have:u'=u:=by rw[h1]at e;exact Option.some.inj e
 subst this;exact⟨x,_,ej,h2,q2⟩
inductive Sh (K:W.Frag) (G:Hp) (s:Shared):D->Value->Prop
 |non:Sh K G s .non .none
 |bl (c:Bool):Sh K G s (.bl c) (.bool c)
 |int (c:Int) (t:Tok):Sh K G s (.int c) (.int c t)
 |str (c:Str) (t:Tok):Sh K G s (.str c) (.str c t)
 |lst {ds:List D} {p:Addr} {xs:List V} {its:List Value} (q:G p=some (.lst xs)) (r:RepL K G xs ds) (rv:Vals xs its) (pl:PlainL s.heap p its.toArray):Sh K G s (.lst ds) (.ref p)
 |tup {ds:List D} {p:Addr} {xs:List V} {its:List Value} (q:G p=some (.tup xs)) (r:RepL K G xs ds) (rv:Vals xs its) (pl:IsTup s.heap p its.toArray):Sh K G s (.tup ds) (.ref p)
def Pd (I:Inv X AM σ H s)(fz:Fz G H){x:V}(na:bC d=true)(ra:RepD X.K G x d)(rx:RelV x u):Sh X.K G s d u:=by
 cases d with
 |non=>rw[show x=V.non from ra]at rx;rw[show u=Value.none from rx];exact .non
 |bl c=>rw[show x=V.bl c from ra]at rx;rw[show u=Value.bool c from rx];exact .bl c
 |int c=>rw[show x=V.int c from ra]at rx;exact Exists.elim rx λt e=>by rw[e];exact .int c t
 |str c=>rw[show x=V.str c from ra]at rx;exact Exists.elim rx λt e=>by rw[e];exact .str c t
 |lst ds=>
  obtain⟨p,xs,e,q,r⟩:=ra;rw[e]at rx;rw[show u=Value.ref p from rx];exact(I.list (SqL.of (fz _ _ q))).elim λits h=> .lst q r h.1 h.2.1
 |tup ds=>
  obtain⟨p,xs,e,q,r⟩:=ra;rw[e]at rx;rw[show u=Value.ref p from rx];exact(I.tuple (SqT.of (fz _ _ q))).elim λits h=> .tup q r h.1 h.2.1
 |_=>exact nomatch (show false=true from na)
def zjI (I:Inv X AM σ H s)(fz:Fz G H)(ih:∀(a b:D) (u v:AC),depth a<n->bC a=true->bC b=true->Sh X.K G s a u->Sh X.K G s b v->SeqAt.EqAt A s u v (eE a b)){ds es:AA D}{xs ys:AA V}{its:AA AC}(hd:uX ds<n)(nd:cQ ds=true)(ne:cQ es=true)(r:RepL X.K G xs ds)(r2:RepL X.K G ys es)(rv:Vals xs its)(rv2:Vals ys its2)(j:Nat)(h1:j<its.toArray.size)(h2:j<its2.toArray.size):SeqAt.EqAt A s its.toArray[j] its2.toArray[j] (Eg ds es j):=by
 rw[bS]at h1 h2;obtain⟨x1,d1,e1,k1,m1⟩:=zoG rv r (j:=j) (u:=its[j]) (bA h1);obtain⟨x2,d2,e2,k2,m2⟩:=zoG rv2 r2 (j:=j) (u:=its2[j]) (bA h2);rw[show Eg ds es j=eE d1 d2 by unfold Eg;rw[e1,e2]];exact ih d1 d2 _ _ (Ea (zi5 e1) hd) (Qp e1 nd) (Qp e2 ne) (Pd I fz (Qp e1 nd) m1 k1) (Pd I fz (Qp e2 ne) m2 k2)
def zoE (I:Inv X AM σ H s)(fz:Fz G H)(n:Nat):∀(A:Around) (a b:D) (u v:AC),depth a<n->bC a=true->bC b=true->A.units+n<cLine->Sh X.K G s a u->Sh X.K G s b v->
  SeqAt.EqAt A s u v (eE a b)/\SeqAt.RcAt A s u v (eE a b):=by
 induction n with
 |zero=>intro A a b u v hd;exact AH hd (Nat.not_lt_zero _)
 |succ n ih=>
  intro A a b u v hd na nb hu ha hb;have hu':A.units<cLine:=∅
  cases ha with
  |non=>cases hb with
   |non=>exact⟨.same _,.none_none⟩
   |bl c=>exact⟨.none_bool _,.none_bool _⟩
   |int c t=>exact⟨.none_int _ _,.none_int _ _⟩
   |str c t=>exact⟨.none_str _ _,.none_str _ _⟩
   |lst _ _ _ pl=>exact⟨.none_list pl.isList hu',.none_list pl.isList hu'⟩
   |tup _ _ _ pl=>exact⟨.none_tuple pl hu',.none_tuple pl hu'⟩
  |bl c0=>cases hb with
   |non=>exact⟨.bool_none _,.bool_none _⟩
   |bl c=>exact⟨.bool_bool _ _,.bool_bool _ _⟩
   |int c t=>exact⟨.bool_int _ _ _,.bool_int _ _ _⟩
   |str c t=>exact⟨.bool_str _ _ _,.bool_str _ _ _⟩
   |lst _ _ _ pl=>exact⟨.bool_list _ pl.isList hu',.bool_list _ pl.isList hu'⟩
   |tup _ _ _ pl=>exact⟨.bool_tuple _ pl hu',.bool_tuple _ pl hu'⟩
  |int c0 t0=>cases hb with
   |non=>exact⟨.int_none _ _,.int_none _ _⟩
   |bl c=>exact⟨.int_bool _ _ _,.int_bool _ _ _⟩
   |int c t=>exact⟨.int_int _ _ _ _,.int_int _ _ _ _⟩
   |str c t=>exact⟨.int_str _ _ _ _,.int_str _ _ _ _⟩
   |lst _ _ _ pl=>exact⟨.int_list _ _ pl.isList hu',.int_list _ _ pl.isList hu'⟩
   |tup _ _ _ pl=>exact⟨.int_tuple _ _ pl hu',.int_tuple _ _ pl hu'⟩
  |str c0 t0=>cases hb with
   |non=>exact⟨.str_none _ _,.str_none _ _⟩
   |bl c=>exact⟨.str_bool _ _ _,.str_bool _ _ _⟩
   |int c t=>exact⟨.str_int _ _ _ _,.str_int _ _ _ _⟩
   |str c t=>exact⟨.str_str _ _ _ _,.str_str _ _ _ _⟩
   |lst _ _ _ pl=>exact⟨.str_list _ _ pl.isList hu',.str_list _ _ pl.isList hu'⟩
   |tup _ _ _ pl=>exact⟨.str_tuple _ _ pl hu',.str_tuple _ _ pl hu'⟩
  | @lst ds p xs its q r rv pl=>cases hb with
   |non=>exact⟨.list_none pl.isList hu',.list_none pl.isList hu'⟩
   |bl c=>exact⟨.list_bool _ pl.isList hu',.list_bool _ pl.isList hu'⟩
   |int c t=>exact⟨.list_int _ _ pl.isList hu',.list_int _ _ pl.isList hu'⟩
   |str c t=>exact⟨.list_str _ _ pl.isList hu',.list_str _ _ pl.isList hu'⟩
   |tup _ _ _ pl2=>exact⟨.list_tuple pl.isList pl2 hu',.list_tuple pl.isList pl2 hu'⟩
   | @lst es p2 ys its2 q2 r2 rv2 pl2=>
    have l1:=rv.length;have l2:=r.length;have l3:=rv2.length;have l4:=r2.length;have rc:SeqAt.RcAt A s (.ref p) (.ref p2) (dA ds es):=by
     by_cases hl:ds.length=es.length
     ·have z:=SeqAt.RcAt.lists (A:=A) (s:=s) (e:=Eg ds es) pl.isList pl2.isList (by rw[bS,bS];lia) hu' (zjI I fz (λa b u v h1 h2 h3 h4 h5=>(ih A.in1 a b u v h1 h2 h3 (by show A.units+1+n<cLine;lia) h4 h5).1) (Nat.lt_of_succ_lt_succ hd) na nb r r2 rv rv2);rw[bS,<-l1,l2,Vu ds es hl]at z;exact z
     ·rw[Xp hl];refine .lists_lengths pl.isList pl2.isList ?_ hu';rw[bS,bS,qbL];lia
    refine⟨?_,rc⟩
    by_cases hp:p=p2
    ·subst hp;rw[show D.lst ds= .lst es from RepD.inj na nb ⟨p,xs,rfl,q,r⟩ ⟨p,ys,rfl,q2,r2⟩,zjB _ nb];exact .same _
    ·exact .of_refs hp rc
  | @tup ds p xs its q r rv pl=>cases hb with
   |non=>exact⟨.tuple_none pl hu',.tuple_none pl hu'⟩
   |bl c=>exact⟨.tuple_bool _ pl hu',.tuple_bool _ pl hu'⟩
   |int c t=>exact⟨.tuple_int _ _ pl hu',.tuple_int _ _ pl hu'⟩
   |str c t=>exact⟨.tuple_str _ _ pl hu',.tuple_str _ _ pl hu'⟩
   |lst _ _ _ pl2=>exact⟨.tuple_list pl pl2.isList hu',.tuple_list pl pl2.isList hu'⟩
   | @tup es p2 ys its2 q2 r2 rv2 pl2=>
    have l1:=rv.length;have l2:=r.length;have l3:=rv2.length;have l4:=r2.length;have rc:SeqAt.RcAt A s (.ref p) (.ref p2) (dA ds es):=by
     have z:=SeqAt.RcAt.tuples (A:=A) (s:=s) (e:=Eg ds es) pl pl2 hu' (zjI I fz (λa b u v h1 h2 h3 h4 h5=>(ih A.in1 a b u v h1 h2 h3 (by show A.units+1+n<cLine;lia) h4 h5).1) (Nat.lt_of_succ_lt_succ hd) na nb r r2 rv rv2);rw[bS,bS]at z
     by_cases hl:ds.length=es.length
     ·rw[show min its.length its2.length=ds.length by lia,show(its.length==its2.length)=true from qaQ.mpr ∅,Pw,Vu ds es hl]at z;exact z
     ·rw[show(its.length==its2.length)=false from qab.mpr ∅,Bool.and_false]at z;rw[Xp hl];exact z
    refine⟨?_,rc⟩
    by_cases hp:p=p2
    ·subst hp;rw[show D.tup ds= .tup es from RepD.inj na nb ⟨p,xs,rfl,q,r⟩ ⟨p,ys,rfl,q2,r2⟩,zjB _ nb];exact .same _
    ·exact .of_refs hp rc
def Jz (I:Inv X AM σ H s)(fz:Fz G H)(n:Nat)(A:Around)(a b:D)(x y:V)(u v:AC)(hd:depth a<=n)(na:bC a=true)(nb:bC b=true)(hu:A.units+n+1<cLine)(ra:RepD X.K G x a)(rb:RepD X.K G y b)(rx:RelV x u)(ry:RelV y v):
  SeqAt.EqAt A s u v (eE a b)/\SeqAt.RcAt A s u v (eE a b):=zoE I fz (n+1) A a b u v (Nat.lt_succ_of_le hd) na nb hu (Pd I fz na ra rx) (Pd I fz nb rb ry)
end
def cX (a b:D):AB D:=if bC a&&bC b&&decide (depth a<=50)then some (.bl (eE a b))else none
def gI (a b:D):AB D:=if bC a&&bC b&&decide (depth a<=50)then some (.bl (!eE a b))else none
def uG (K:AF)(c:Bool->Bool):R2:=λx y H Q=>∃G a b,Fz G H/\RepD K G x a/\RepD K G y b/\bC a=true/\bC b=true/\depth a<=50/\Q (.bl (c (eE a b))) H
def oZ (hu:X.A.units+64<cLine):OpR X (compareOp .Eq) (uG X.K id):=by
 intro AM s σ H x y v u Q I rx ry h;obtain⟨G,a,b,fz,ra,rb,na,nb,hd,q⟩:=h;exact(Jz I fz 50 X.A a b x y v u hd na nb ∅ ra rb rx ry).2 _ _ _ _ ⟨.bl _,H,I,rfl,q⟩
theorem Yk {a b:AI}{ma mb:ME}(hu:X.A.units+64<cLine)(ha:SE X a ma)(hb:SE X b mb):SE X (.Compare a [.Eq] [b] pos) (m2 cX ma mb):=by
 refine tD (oZ hu) (λB G H σ ρ x y a b d Q I ra rb hf k=>?_) ha hb (Oj _);unfold cX at hf;refine aT hf λh hf=>?_
 ·skip
  simp only[cD,kJ]at h;cases hf;exact⟨G,a,b,I.fz,ra,rb,h.1.1,h.1.2,h.2,k G H _ I (Fz.refl G) rfl⟩
section
variable {X:Cx}{AM:AA (AD×Obj)}{σ:St}{H G:Hp}{s:AE}
def zO (I:Inv X AM σ H s)(fz:Fz G H)(A:Around)(a b:D)(u v:AC)(hd:depth a<=50)(na:bC a=true)(nb:bC b=true)(hu:A.units+64<cLine)(ha:Sh X.K G s a u)(hb:Sh X.K G s b v):SeqAt.RcNeAt A s u v (!eE a b):=by
 have hu':A.units<cLine:=∅
 have ih:∀(a b:D) (u v:AC),depth a<50->bC a=true->bC b=true->Sh X.K G s a u->Sh X.K G s b v->SeqAt.EqAt A.in1 s u v (eE a b):=λa b u v h1 h2 h3 h4 h5=>(zoE I fz 50 A.in1 a b u v h1 h2 h3 (by show A.units+1+50<cLine;lia) h4 h5).1
 cases ha with
 |non=>cases hb with
  |non=>exact .none_none
  |bl c=>exact .none_bool _
  |int c t=>exact .none_int _ _
  |str c t=>exact .none_str _ _
  |lst _ _ _ pl=>exact .none_list pl.isList hu'
  |tup _ _ _ pl=>exact .none_tuple pl hu'
 |bl c0=>cases hb with
  |non=>exact .bool_none _
  |bl c=>exact .bool_bool _ _
  |int c t=>exact .bool_int _ _ _
  |str c t=>exact .bool_str _ _ _
  |lst _ _ _ pl=>exact .bool_list _ pl.isList hu'
  |tup _ _ _ pl=>exact .bool_tuple _ pl hu'
 |int c0 t0=>cases hb with
  |non=>exact .int_none _ _
  |bl c=>exact .int_bool _ _ _
  |int c t=>exact .int_int _ _ _ _
  |str c t=>exact .int_str _ _ _ _
  |lst _ _ _ pl=>exact .int_list _ _ pl.isList hu'
  |tup _ _ _ pl=>exact .int_tuple _ _ pl hu'
 |str c0 t0=>cases hb with
  |non=>exact .str_none _ _
  |bl c=>exact .str_bool _ _ _
  |int c t=>exact .str_int _ _ _ _
  |str c t=>exact .str_str _ _ _ _
  |lst _ _ _ pl=>exact .str_list _ _ pl.isList hu'
  |tup _ _ _ pl=>exact .str_tuple _ _ pl hu'
 | @lst ds p xs its q r rv pl=>cases hb with
  |non=>exact .list_none pl.isList hu'
  |bl c=>exact .list_bool _ pl.isList hu'
  |int c t=>exact .list_int _ _ pl.isList hu'
  |str c t=>exact .list_str _ _ pl.isList hu'
  |tup _ _ _ pl2=>exact .list_tuple pl.isList pl2 hu'
  | @lst es p2 ys its2 q2 r2 rv2 pl2=>
   have l1:=rv.length;have l2:=r.length;have l3:=rv2.length;have l4:=r2.length;show SeqAt.RcNeAt A s (.ref p) (.ref p2) (!dA ds es)
   by_cases hl:ds.length=es.length
   ·have z:=SeqAt.RcNeAt.lists (A:=A) (s:=s) (e:=Eg ds es) pl.isList pl2.isList (by rw[bS,bS];lia) hu' (zjI I fz ih (Nat.lt_of_succ_le hd) na nb r r2 rv rv2);rw[bS,<-l1,l2,Vu ds es hl]at z;exact z
   ·rw[Xp hl];refine .lists_lengths pl.isList pl2.isList ?_ hu';rw[bS,bS,qbL];lia
 | @tup ds p xs its q r rv pl=>cases hb with
  |non=>exact .tuple_none pl hu'
  |bl c=>exact .tuple_bool _ pl hu'
  |int c t=>exact .tuple_int _ _ pl hu'
  |str c t=>exact .tuple_str _ _ pl hu'
  |lst _ _ _ pl2=>exact .tuple_list pl pl2.isList hu'
  | @tup es p2 ys its2 q2 r2 rv2 pl2=>
   have l1:=rv.length;have l2:=r.length;have l3:=rv2.length;have l4:=r2.length;show SeqAt.RcNeAt A s (.ref p) (.ref p2) (!dA ds es);have z:=SeqAt.RcNeAt.tuples (A:=A) (s:=s) (e:=Eg ds es) pl pl2 hu' (zjI I fz ih (Nat.lt_of_succ_le hd) na nb r r2 rv rv2);rw[bS,bS]at z
   by_cases hl:ds.length=es.length
   ·rw[show min its.length its2.length=ds.length by lia,show(its.length==its2.length)=true from qaQ.mpr ∅,Pw,Vu ds es hl]at z;exact z
   ·rw[show(its.length==its2.length)=false from qab.mpr ∅,Bool.and_false]at z;rw[Xp hl];exact z
def Lq (I:Inv X AM σ H s)(fz:Fz G H)(A:Around)(a b:D)(x y:V)(u v:AC)(hd:depth a<=50)(na:bC a=true)(nb:bC b=true)(hu:A.units+64<cLine)(ra:RepD X.K G x a)(rb:RepD X.K G y b)(rx:RelV x u)(ry:RelV y v):
  SeqAt.RcNeAt A s u v (!eE a b):=zO I fz A a b u v hd na nb hu (Pd I fz na ra rx) (Pd I fz nb rb ry)
end
def Iw (hu:X.A.units+64<cLine):OpR X (compareOp .NotEq) (uG X.K not):=by
 intro AM s σ H x y v u Q I rx ry h;obtain⟨G,a,b,fz,ra,rb,na,nb,hd,q⟩:=h;exact Lq I fz X.A a b x y v u hd na nb hu ra rb rx ry _ _ _ _ ⟨.bl _,H,I,rfl,q⟩
def Te:V2 X (uG X.K not) gI:=by
 intro B G H σ ρ x y a b d Q I ra rb hf k;unfold gI at hf;refine aT hf λh hf=>?_
 ·skip
  simp only[cD,kJ]at h;cases hf;exact⟨G,a,b,I.fz,ra,rb,h.1.1,h.1.2,h.2,k G H _ I (Fz.refl G) rfl⟩
def Xz:V2 X (uG X.K id) cX:=by
 intro B G H σ ρ x y a b d Q I ra rb hf k;unfold cX at hf;refine aT hf λh hf=>?_
 ·skip
  simp only[cD,kJ]at h;cases hf;exact⟨G,a,b,I.fz,ra,rb,h.1.1,h.1.2,h.2,k G H _ I (Fz.refl G) rfl⟩
def bG:D->D->AB D
 | .lst ds,.int i=>atI ds i
 | .tup ds,.int i=>atI ds i
 | .scr ns,.int i=>(atI ns i).map .int
 |_,_=>none
theorem zJ {α β:Type}(f:α->β){xs:AA α}{i:Int}{v:α}(h:atI xs i=some v):atI (xs.map f) i=some (f v):=by
 unfold atI at h ⊢;rw[cO];cases q:iE xs.length i with
 |none=>rw[q]at h;exact aG h
 |some j=>
  rw[q]at h;show(xs.map f)[j]? =_;rw[cR,show xs[j]? =some v from h]
  rfl
def ReadD (K:AF)(G H:Hp)(v:V):D->Prop
 | .lst ds=>∃a xs,v= .ref a/\H a=some (.lst xs)/\RepL K G xs ds
 |d=>RepD K G v d
theorem ReadD.of {K:AF}(fz:Fz G H)(h:RepD K G v d):ReadD K G H v d:=by
 cases d with
 |lst ds=>obtain⟨a,xs,e,q,r⟩:=h;exact⟨a,xs,e,fz a _ q,r⟩
 |_=>exact h
def Sl.read:Sl->AB D
 | .emp=>none
 | .two _ _=>none
 | .tre _=>none
 | .ptr _=>none
 | .val d=>some d
 | .own ds=>some (.lst ds)
 | .par ds=>some (.lst ds)
def gZ (ρ:R)(j:Nat):Bool:=match ρ[j]? with
 |some (.val _)=>true
 |some (.own _)=>true
 |some (.par _)=>true
 |_=>false
theorem SI.has {K:AF}(I:SI K B G H σ ρ)(h:gZ ρ j=true):∃v,σ[j]? =some (some v):=by
 unfold gZ at h;cases e:ρ[j]? with
 |none=>rw[e]at h;cases h
 |some s=>
  rw[e]at h;have q:=I.slot j s e;cases s with
  |emp=>cases h
  |two _ _=>cases h
  |tre _=>cases h
  |ptr _=>cases h
  |val d=>obtain⟨v,e,_⟩:=q;exact⟨v,e⟩
  |own d=>obtain⟨l,_,e,_⟩:=q;exact⟨_,e⟩
  |par d=>obtain⟨l,_,e,_⟩:=q;exact⟨_,e⟩
theorem SI.read {K:AF}(I:SI K B G H σ ρ)(hv:σ[j]? =some (some v))(e:ρ[j]? =some s)(q:s.read=some d):ReadD K G H v d:=by
 have h:=I.slot j s e;cases s with
 |emp=>exact aG q
 |two _ _=>exact aG q
 |tre _=>exact aG q
 |ptr _=>exact aG q
 |val d'=>
  cases q;obtain⟨w,e1,r⟩:=h;rw[hv]at e1;cases e1;exact .of I.fz r
 |own ds=>
  cases q;obtain⟨l,xs,e1,_,h3,h4,_⟩:=h;rw[hv]at e1;cases e1;exact⟨l,xs,rfl,h3,h4⟩
 |par ds=>
  cases q;obtain⟨l,xs,e1,_,h3,h4,_⟩:=h;rw[hv]at e1;cases e1;exact⟨l,xs,rfl,h3,h4⟩
theorem zpA {K:AF}{x y:V}{a b d:D}{Q:VK}(I:SI K B G H σ ρ)(ra:ReadD K G H x a)(rb:RepD K G y b)(hf:bG a b=some d)(k:∀v,RepD K G v d->Q v H):rIx K x y H Q:=by
 cases a<;>cases b<;>simp only[bG]at hf<;>try exact aG hf
 ·rename_i ds i;obtain⟨p,xs,rfl,hp,r⟩:=ra;obtain⟨v,e,q⟩:=r.at hf;exact .inl ⟨p,xs,i,v,rfl,rb,SqL.of hp,e,k _ q⟩
 ·rename_i ds i;obtain⟨p,xs,rfl,hp,r⟩:=I.tup ra;obtain⟨v,e,q⟩:=r.at hf;exact .inr (.inl ⟨p,xs,i,v,rfl,rb,SqT.of hp,e,k _ q⟩)
 ·rename_i ns i;obtain⟨p,rfl,hp⟩:=ra;cases e:atI ns i with
  |none=>rw[e]at hf;exact aG hf
  |some n=>
   rw[e]at hf;cases hf;exact .inl ⟨p,_,i,.int n,rfl,rb,I.fz.sql hp,zJ V.int e,k _ rfl⟩
def Yg:V2 X (rIx X.K) bG:=λB G H σ ρ x y a b d Q I ra rb hf k=>zpA I (.of I.fz ra) rb hf λv q=>k G H v I (Fz.refl G) q
def dH {ma:ME}(ha:SE X a ma)(hb:SE X b mb)(hs:zji b:=by exactλ_ _=>rfl):SE X (.Subscript a b pos) (m2 bG ma mb):=Vj oQ Yg ha hb hs
def aU (j:Nat)(mi:ME):ME:=λρ=>if gZ ρ j then(mi ρ).bind λp=>(p.2[j]?.bind Sl.read).bind λd=>(bG d p.1).map λe=>(e,p.2)else none
theorem cV {b:AI}{mb:ME}(j:Nat)(hb:SE X b mb)(hN:X.N[j]? =some x:=by rfl)(hv:dP X.env.scope x:=by trivial)(hd:(x==("__debug__":Str))=false:=by decide)(hcd:(x==("__classdict__":Str))=false:=by decide)(hs:zji b:=by exactλ_ _=>rfl):SE X (.Subscript (.Name x pos') b pos) (aU j mb):=by
  refine hb.el λtb pb sb=>?_
  refine⟨_,Di oQ (eI hN hv hd hcd) pb hs,λB G H σ ρ d ρ' Q I hm k=>?_⟩;unfold aU at hm;refine aT hm λhh hm=>?_
  . skip
    obtain⟨v,ev⟩:=I.has hh;cases e1:mb ρ with
    |none=>rw[e1]at hm;exact aG hm
    |some q=>
      obtain⟨i,ρ1⟩:=q;rw[e1]at hm;simp only[iT]at hm;cases e2:ρ1[j]? with
      |none=>rw[e2]at hm;exact aG hm
      |some s=>
        rw[e2]at hm;simp only[iT]at hm;cases e3:s.read with
        |none=>rw[e3]at hm;exact aG hm
        |some a=>
          rw[e3]at hm;simp only[iT]at hm;cases e4:bG a i with
          |none=>rw[e4]at hm;exact aG hm
          |some c=>
            rw[e4]at hm;cases hm;exact⟨v,ev,sb B G H σ ρ i ρ' _ I e1 λG1 H1 y I1 f1 r1=>zpA I1 (I1.read ev e2 e3) r1 e4 λw q=>k G1 H1 w I1 f1 q⟩
def cJ:AA D->AB D
 |[.lst ds]=>some (.int ds.length)
 |[.tup ds]=>some (.int ds.length)
 |[.scr ns]=>some (.int ns.length)
 |_=>none
theorem zl4 {K:AF}{x:V}{a d:D}{Q:VK}(I:SI K B G H σ ρ)(ra:ReadD K G H x a)(hf:cJ [a]=some d)(k:∀v,RepD K G v d->Q v H):
  ∃p ys,[x]=[V.ref p]/\(SqL K H p ys\/SqT K H p ys)/\Q (.int ys.length) H:=by
 cases a<;>simp only[cJ]at hf<;>try cases hf
 ·obtain⟨p,xs,rfl,hp,r⟩:=ra;exact⟨p,xs,rfl,.inl (SqL.of hp),by rw[r.length];exact k _ rfl⟩
 ·obtain⟨p,xs,rfl,hp,r⟩:=I.tup ra;exact⟨p,xs,rfl,.inr (SqT.of hp),by rw[r.length];exact k _ rfl⟩
 ·obtain⟨p,rfl,hp⟩:=ra;exact⟨p,_,rfl,.inl (I.fz.sql hp),by rw[cO];exact k _ rfl⟩
theorem RepL.one {K:AF}(h:RepL K G xs [d]):∃x,xs=[x]/\RepD K G x d:=by
 obtain⟨x,ys,e,q,r⟩:=h;cases(show ys=[]from r);exact⟨x,e,q⟩
theorem RepL.two {K:AF}{a b:D}(h:RepL K G xs [a,b]):∃x y,xs=[x,y]/\RepD K G x a/\RepD K G y b:=by
 obtain⟨x,ys,e,q,r⟩:=h;obtain⟨y,e2,q2⟩:=r.one;subst e2;exact⟨x,y,e,q,q2⟩
theorem qV (h:cJ ds=some d):∃a,ds=[a]:=by
 match ds,h with
 |[a],_=>exact⟨a,rfl⟩
 |[],h=>exact aG h
 |_::_::_,h=>simp[cJ]at h
theorem Mr:VC X (λxs H Q=>∃p ys,xs=[.ref p]/\(SqL X.K H p ys\/SqT X.K H p ys)/\Q (.int ys.length) H) cJ:=by
 intro B G H σ ρ xs ds d Q I r hf k;obtain⟨a,rfl⟩:=qV hf;obtain⟨x,rfl,ra⟩:=r.one;exact zl4 I (.of I.fz ra) hf λv q=>k G H v I (Fz.refl G) q
def zpO {p pos:Pos}(ml:X.mg "len"=none)(ha:SA X [e] ma)(hg:Gl X "len":=by rfl)(he:starEach [e] X.env=(false,eval e X.env)::starEach [] X.env:=by rfl):SE X (.Call (.Name "len" p) [e] [] pos) (mC cJ ma):=
 Bq zgZ Mr PySem.boot_len ml ha hg (by decide) (by decide) he rfl
def fB (j:Nat):ME:=λρ=>(ρ[j]?.bind Sl.read).bind λd=>(cJ [d]).map λe=>(e,ρ)
theorem iP {p pos pos':Pos}(j:Nat)(ml:X.mg "len"=none)(hN:X.N[j]? =some x:=by rfl)(hv:dP X.env.scope x:=by trivial)(hd:(x==("__debug__":Str))=false:=by decide)(hcd:(x==("__classdict__":Str))=false:=by decide)(hg:Gl X "len":=by rfl)(he:starEach [.Name x pos'] X.env=(false,eval (.Name x pos') X.env)::starEach [] X.env:=by rfl):SE X (.Call (.Name "len" p) [.Name x pos'] [] pos) (fB j):=by
 refine⟨_,zjV zgZ hg ml PySem.boot_len (iG (eI hN hv hd hcd) oP he) (by decide) (by decide) he rfl,λB G H σ ρ d ρ' Q I hm k=>?_⟩;unfold fB at hm;cases e2:ρ[j]? with
 |none=>rw[e2]at hm;exact aG hm
 |some s=>
  rw[e2]at hm;simp only[iT]at hm;cases e3:s.read with
  |none=>rw[e3]at hm;exact aG hm
  |some a=>
   rw[e3]at hm;simp only[iT]at hm;cases e4:cJ [a]with
   |none=>rw[e4]at hm;exact aG hm
   |some c=>
    rw[e4]at hm;exists bM hm;have hh:gZ ρ j=true:=by
     unfold gZ;rw[e2];cases s<;>first|rfl|exact aG e3
    obtain⟨v,ev⟩:=I.has hh;exact⟨v,ev,zl4 I (I.read ev e2 e3) e4 λw q=>k G H w I (Fz.refl G) q⟩
def fI:AA D->AB D
 |[.lst ds]=>some (.tup ds)
 |[.tup ds]=>some (.tup ds)
 |[.scr ns]=>some (.tup (ns.map .int))
 |_=>none
theorem qN:VC X (λxs H Q=>∃p ys,xs=[.ref p]/\((SqL X.K H p ys/\∀l,H l=none->Q (.ref l) (upd H l (.tup ys)))\/(SqT X.K H p ys/\Q (.ref p) H))) fI:=by
 intro B G H σ ρ xs ds d Q I r hf k
 match ds,hf with
 |[a],hf=>
  obtain⟨x,rfl,ra⟩:=r.one;cases a<;>simp only[fI]at hf<;>try cases hf
  ·obtain⟨p,ys,rfl,hp,q⟩:=I.lst ra;refine⟨p,ys,rfl,.inl ⟨SqL.of hp,λl hl=>?_⟩⟩;obtain⟨I2,f2,r2⟩:=I.newT hl q;exact k _ _ _ I2 f2 r2
  ·obtain⟨p,ys,e,hp,q⟩:=I.tup ra;subst e;exact⟨p,ys,rfl,.inr ⟨SqT.of hp,k G H _ I (Fz.refl G) ra⟩⟩
  ·obtain⟨p,rfl,hp⟩:=ra;refine⟨p,_,rfl,.inl ⟨I.fz.sql hp,λl hl=>?_⟩⟩;obtain⟨I2,f2,r2⟩:=I.newT hl (RepL.ints _);exact k _ _ _ I2 f2 r2
 |[],hf=>exact aG hf
 |_::_::_,hf=>simp[fI]at hf
def mG {p pos:Pos}(ml:X.mg "tuple"=none)(ha:SA X [e] ma)(hg:Gl X "tuple":=by rfl)(he:starEach [e] X.env=(false,eval e X.env)::starEach [] X.env:=by rfl)(hb:bootBuiltins "tuple"=some (.type "tuple"):=by decide+kernel):
  SE X (.Call (.Name "tuple" p) [e] [] pos) (mC fI ma):=
 zpl zjw qN hb ml ha hg (by decide) (by decide) he rfl
def eO:AA D->AB (AA D)
 |[.lst ds]=>some ds
 |[.tup ds]=>some ds
 |[.scr ns]=>some (ns.map .int)
 |_=>none
def oC (f:AA D->AB (AA D))(ma:MA):MO:=λρ=>(ma ρ).bind λp=>(f p.1).map λd=>(d,p.2)
theorem Lh {f:AA D->AB (AA D)}{d:AA D}(h:oC f ma ρ=some (d,ρ')):∃a,ma ρ=some (a,ρ')/\f a=some d:=by
 unfold oC at h;cases e1:ma ρ with
 |none=>rw[e1]at h;exact aG h
 |some p=>
  obtain⟨a,ρ1⟩:=p;rw[e1]at h;simp only[iT]at h;cases e3:f a with
  |none=>rw[e3]at h;exact aG h
  |some c=>rw[e3]at h;exists bM h;exact⟨a,rfl,e3⟩
theorem SI.newO {K:AF}(I:SI K B G H σ ρ)(hp:H p=none)(xs:AA V):SI K B G (upd H p (.lst xs)) σ ρ/\G p=none/\(upd H p (.lst xs)) p=some (.lst xs)/\B.H p=none/\Nw K G (upd H p (.lst xs)) σ ρ p:=
 ⟨I.allocO hp _,I.fz.free hp,cW,I.there p hp,I.nw_move (I.nw hp) λi s a _ _ g h=>⟨g,aW λz=>h (by rw[z];exact hp)⟩⟩
section
variable {X:Cx}{es:AA AI}{ma:MA}{pos:Pos}
def bL (ma:MA):ME:=λρ=>(ma ρ).bind λp=>if p.1.length<=16777216 then some (.tup p.1,p.2)else none
theorem eQ {x1}(h:SA X es ma):SE X (.Tuple es x1 pos) (bL ma):=by
 refine h.el λt pa sa=>?_
 refine⟨_,oA pa,λB G H σ ρ d ρ' Q I hm k=>?_⟩;unfold bL at hm;cases e1:ma ρ with
 |none=>rw[e1]at hm;exact aG hm
 |some q=>
  obtain⟨ds,ρ1⟩:=q;rw[e1]at hm;simp only[iT]at hm;refine aT hm λhl hm=>?_
  ·skip
   cases hm;refine sa B G H σ ρ ds ρ' _ I e1 λG1 H1 vs I1 f1 r1=>⟨by rw[r1.length,fX];exact hl,λp hp=>?_⟩
   obtain⟨I2,f2,r2⟩:=I1.newT hp r1;exact k _ _ _ I2 (f1.trans f2) r2
def bN (ma:MA):MO:=λρ=>(ma ρ).bind λp=>if p.1.length<=16777216 then some (p.1,p.2)else none
theorem dX (h:SA X es ma):SO X (.List es pos) (bN ma):=by
 refine h.el λt pa sa=>?_
 refine⟨_,Hh pa,λB G H σ ρ d ρ' Q I hm k=>?_⟩;unfold bN at hm;cases e1:ma ρ with
 |none=>rw[e1]at hm;exact aG hm
 |some q=>
  obtain⟨ds,ρ1⟩:=q;rw[e1]at hm;simp only[iT]at hm;refine aT hm λhl hm=>?_
  ·skip
   cases hm;refine sa B G H σ ρ _ ρ' _ I e1 λG1 H1 vs I1 f1 r1=>⟨by rw[r1.length,fX];exact hl,λp hp=>?_⟩
   obtain⟨I2,g2,h2,b2,n2⟩:=I1.newO hp vs;exact k G1 _ p vs I2 f1 g2 h2 r1 b2 n2
end
theorem uF {α β:Type}{o:AB α}{f:α->AB β}{b:β}(h:o.bind f=some b):∃a,o=some a/\f a=some b:=by
 cases o with
 |none=>exact aG h
 |some a=>exact⟨a,rfl,h⟩
theorem Od {α β:Type}{o:AB α}{f:α->β}{b:β}(h:o.map f=some b):∃a,o=some a/\f a=b:=by
 cases o with
 |none=>exact aG h
 |some a=>cases h;exact⟨a,rfl,rfl⟩
def xK:D->AB Bool
 | .bl b=>some b
 | .int i=>some (i !=0)
 | .non=>some false
 | .lst ds=>some (!ds.isEmpty)
 | .tup ds=>some (!ds.isEmpty)
 |_=>none
def aO (ma:ME):MT:=λρ=>(ma ρ).bind λp=>(xK p.1).map λb=>(b,p.2)
section
variable {X:Cx}{a b c:AI}{ma mb mc:ME}{pos:Pos}
theorem zph {K:AF}(h:RepL K G xs ds):(!xs.isEmpty)=!ds.isEmpty:=by
 have:=h.length;cases xs<;>cases ds<;>simp_all
theorem Ov (ha:SE X a ma)(he:∀whole,isTrue a X.env whole=(do let v<-whole;standAt a.pos;holding [v] (truthy v)):=by exactλ_=>rfl):STt X a (aO ma):=by
  refine ha.el λta pa sa=>?_
  refine⟨_,lZ pa he,λB G H σ ρ d ρ' Q I hm k=>?_⟩;refine aZ hm λx ρ1 e1 e2=>?_
  refine bB e2 λt e3 e4=>?_
  exists Prod.mk.inj e4;refine sa B G H σ ρ x ρ1 _ I e1 λG1 H1 v I1 f1 r1=>⟨t,?_,k G1 H1 I1 f1⟩
  cases x<;>simp only[xK]at e3<;>try cases e3
  . cases r1;exact rfl
  . cases r1;exact rfl
  . cases r1;exact rfl
  . obtain⟨p,xs,rfl,hp,r⟩:=I1.lst r1
    exact .inl ⟨xs,SqL.of hp,(zph r).symm⟩
  . obtain⟨p,xs,rfl,hp,r⟩:=I1.tup r1
    exact .inr (.inl ⟨xs,SqT.of hp,(zph r).symm⟩)
def De {f:D->D->AB D}(ho:OpR X (compareOp op) r)(hv:V2 X r f)(hB:∀x y d,f x y=some d->∃t,d= .bl t)(ha:SE X a ma)(hb:SE X b mb)(hm:behindInMarks op b=false):STt X (.Compare a [op] [b] pos) (aO (m2 f ma mb)):=by
 refine ha.el λta pa sa=>?_
 refine hb.el λtb pb sb=>?_
 refine⟨_,zof ho pa pb hm,λB G H σ ρ d ρ' Q I hm k=>?_⟩;refine aZ hm λx ρ1 e1 e2=>?_
 refine bB e2 λt e3 e4=>?_
 exists Prod.mk.inj e4;obtain⟨_,_,_,_,_,e5⟩:=qY e1;obtain⟨t',rfl⟩:=hB _ _ _ e5;obtain rfl:t'=t:=Option.some.inj e3;refine zmo hv sa sb B G H σ ρ (.bl t') ρ1 _ I e1 λG1 H1 v I1 f1 r1=>?_
 cases(show v=V.bl t' from r1);exact⟨t',rfl,k G1 H1 I1 f1⟩
def nD {g:Int->Int->Bool}(x y d:D)(h:iC (λ_ _=>true) (λi j=> .bl (g i j)) x y=some d):∃t,d= .bl t:=zmv h λ_ _ _ _ _ e=>⟨_,e.symm⟩
theorem Uc (x y d:D)(h:cX x y=some d):∃t,d= .bl t:=by
 unfold cX at h
 split at h
 ·cases h;exact⟨_,rfl⟩
 ·exact aG h
theorem Yo (x y d:D)(h:gI x y=some d):∃t,d= .bl t:=by
 unfold gI at h
 split at h
 ·cases h;exact⟨_,rfl⟩
 ·exact aG h
def kE (ha:SE X a ma)(hb:SE X b mb):STt X (.Compare a [.Lt] [b] pos) (aO (m2 On ma mb)):=De Ve znR nD ha hb (Oj _)
def Wf (ha:SE X a ma)(hb:SE X b mb):STt X (.Compare a [.GtE] [b] pos) (aO (m2 Rv ma mb)):=De Bo znR nD ha hb (Oj _)
def kW (hu:X.A.units+64<cLine)(ha:SE X a ma)(hb:SE X b mb):STt X (.Compare a [.Eq] [b] pos) (aO (m2 cX ma mb)):=De (oZ hu) Xz Uc ha hb (Oj _)
def uE (hu:X.A.units+64<cLine)(ha:SE X a ma)(hb:SE X b mb):STt X (.Compare a [.NotEq] [b] pos) (aO (m2 gI ma mb)):=De (Iw hu) Te Yo ha hb (Oj _)
end
def Qm (X:Cx)(e:AI)(m:MT)(t:TT):Prop:=∀B G H σ ρ d ρ' (Q:Bool->Hp->Prop),SI X.K B G H σ ρ->m ρ=some (d,ρ')->(∀G' H',SI X.K B G' H' σ ρ'->Fz G G'->Q d H')->t σ H Q
def STw (X:Cx)(e:AI)(m:MT):Prop:=∃t,PW X e t/\Qm X e m t
def STw.el {m:MT}(h:STw X e m)(k:∀t,PW X e t->Qm X e m t->C):C:=h.elim λt q=>k t q.1 q.2
theorem STw.st {m:MT}(h:STw X e m):STt X e m:=h.el λt p s=>⟨t,p.pt,s⟩
def kN (a b:MT):MT:=λρ=>(a ρ).bind λp=>if p.1 then b p.2 else some (false,p.2)
def gY (a b:MT):MT:=λρ=>(a ρ).bind λp=>if p.1 then some (true,p.2)else b p.2
def tK (a:MT):MT:=λρ=>(a ρ).map λp=>(!p.1,p.2)
section
variable {X:Cx}{a b c:AI}{ma mb:MT}{pos:Pos}{rest:AA AI}
def wX (h:STt X a ma):STw X (.BoolOp .And [a] pos) ma:=h.el λt p s=>⟨t,zL p,s⟩
def zps (h:STt X a ma):STw X (.BoolOp .Or [a] pos) ma:=h.el λt p s=>⟨t,Kq p,s⟩
def El (ha:STt X a ma)(hb:STw X (.BoolOp .And (b::rest) pos) mb):STw X (.BoolOp .And (a::b::rest) pos) (kN ma mb):=by
 refine ha.el λta pa sa=>?_
 refine hb.el λtb pb sb=>?_
 refine⟨_,Eo pa pb,λB G H σ ρ d ρ' Q I hm k=>?_⟩;refine aZ hm λx ρ1 e1 e2=>?_
 refine sa B G H σ ρ x ρ1 _ I e1 λG1 H1 I1 f1=>?_
 cases x with
 |true=>exact sb B G1 H1 σ ρ1 d ρ' Q I1 e2 λG2 H2 I2 f2=>k G2 H2 I2 (f1.trans f2)
 |false=>exists bM e2;exact k G1 H1 I1 f1
def kL (ha:STt X a ma)(hb:STw X (.BoolOp .Or (b::rest) pos) mb):STw X (.BoolOp .Or (a::b::rest) pos) (gY ma mb):=by
 refine ha.el λta pa sa=>?_
 refine hb.el λtb pb sb=>?_
 refine⟨_,Rg pa pb,λB G H σ ρ d ρ' Q I hm k=>?_⟩;refine aZ hm λx ρ1 e1 e2=>?_
 refine sa B G H σ ρ x ρ1 _ I e1 λG1 H1 I1 f1=>?_
 cases x with
 |false=>exact sb B G1 H1 σ ρ1 d ρ' Q I1 e2 λG2 H2 I2 f2=>k G2 H2 I2 (f1.trans f2)
 |true=>exists bM e2;exact k G1 H1 I1 f1
def Oe (ha:STt X a ma):STt X (.UnaryOp .Not a pos) (tK ma):=by
 refine ha.el λta pa sa=>?_
 refine⟨_,Hl pa,λB G H σ ρ d ρ' Q I hm k=>?_⟩;refine iM hm λx ρ1 e1 e2=>?_
 cases e2;exact sa B G H σ ρ x ρ1 _ I e1 λG1 H1 I1 f1=>k G1 H1 I1 f1
end
def lG (a b:ME):ME:=λρ=>(a ρ).bind λp=>match p.1 with
 | .bl true=>b p.2
 | .bl false=>some (.bl false,p.2)
 |_=>none
def wH:D->AB D
 | .bl b=>some (.bl (!b))
 |_=>none
section
variable {X:Cx}{a b c:AI}{ma mb:ME}{pos:Pos}{rest:AA AI}{op:BoolOp}
def zoa (h:SE X a ma):SE X (.BoolOp op [a] pos) ma:=h.el λt p s=>⟨t,Ls p,s⟩
theorem znF (ha:SE X a ma)(hb:SE X (.BoolOp .And (b::rest) pos) mb):SE X (.BoolOp .And (a::b::rest) pos) (lG ma mb):=by
 refine ha.el λta pa sa=>?_
 refine hb.el λtb pb sb=>?_
 refine⟨_,Fx pa pb,λB G H σ ρ d ρ' Q I hm k=>?_⟩;refine aZ hm λx ρ1 e1 e2=>?_
 refine sa B G H σ ρ x ρ1 _ I e1 λG1 H1 v I1 f1 r1=>?_
 cases x<;>try exact aG e2
 rename_i y;refine⟨y,r1,?_⟩;cases y with
 |true=>exact sb B G1 H1 σ ρ1 d ρ' Q I1 e2 λG2 H2 v I2 f2 r2=>k G2 H2 v I2 (f1.trans f2) r2
 |false=>exists bM e2;exact k G1 H1 _ I1 f1 rfl
def Jy (ha:SE X a ma):SE X (.UnaryOp .Not a pos) (m1 wH ma):=by
 refine ha.el λta pa sa=>?_
 refine⟨_,Jw pa,λB G H σ ρ d ρ' Q I hm k=>?_⟩;obtain⟨x,e1,e2⟩:=rX hm;refine sa B G H σ ρ x ρ' _ I e1 λG1 H1 v I1 f1 r1=>?_
 cases x<;>simp only[wH]at e2<;>try cases e2
 exact⟨_,r1,k G1 H1 _ I1 f1 rfl⟩
def eIf (c:MT)(a b:ME):ME:=λρ=>(c ρ).bind λp=>if p.1 then a p.2 else b p.2
def zmn (hc:STt X c mc)(ha:SE X a ma)(hb:SE X b mb):SE X (.IfExp c a b pos) (eIf mc ma mb):=by
 refine hc.el λtc pc sc=>?_
 refine ha.el λta pa sa=>?_
 refine hb.el λtb pb sb=>?_
 refine⟨_,nH pc pa pb,λB G H σ ρ d ρ' Q I hm k=>?_⟩;refine aZ hm λx ρ1 e1 e2=>?_
 refine sc B G H σ ρ x ρ1 _ I e1 λG1 H1 I1 f1=>?_
 cases x with
 |true=>exact sa B G1 H1 σ ρ1 d ρ' Q I1 e2 λG2 H2 v I2 f2 r2=>k G2 H2 v I2 (f1.trans f2) r2
 |false=>exact sb B G1 H1 σ ρ1 d ρ' Q I1 e2 λG2 H2 v I2 f2 r2=>k G2 H2 v I2 (f1.trans f2) r2
end
inductive Fl where
 |next|brk|cont|ret (r:Sl)
abbrev MS:=R->AB (Fl×R)
def Ui (K:AF)(B:Bs)(G H:Hp)(v:V):Sl->Prop
 | .val d=>RepD K G v d
 | .own ds=>∃l xs,v= .ref l/\G l=none/\H l=some (.lst xs)/\RepL K G xs ds/\B.H l=none
 | .tre t=>∃A,RepT K G H v t A/\A.Nodup/\∀a∈A,G a=none/\B.H a=none
 | .two ds es=>∃t l xs m ys,v= .ref t/\H t=some (.tup [.ref l,.ref m])/\l≠m/\G l=none/\H l=some (.lst xs)/\RepL K G xs ds/\B.H l=none/\G m=none/\H m=some (.lst ys)/\RepL K G ys es/\B.H m=none
 |_=>False
def Post (K:AF)(B:Bs)(G:Hp)(E:Ends)(fl:Fl)(ρ':R):Prop:=match fl with
 | .next=>∀G' H' σ',SI K B G' H' σ' ρ'->Fz G G'->E.nx σ' H'
 | .brk=>∀G' H' σ',SI K B G' H' σ' ρ'->Fz G G'->E.bk σ' H'
 | .cont=>∀G' H' σ',SI K B G' H' σ' ρ'->Fz G G'->E.ct σ' H'
 | .ret r=>∀G' H' σ' v,SI K B G' H' σ' ρ'->Fz G G'->Ui K B G' H' v r->E.rt v H'
theorem Post.mono {K:AF}{G G1:Hp}{E:Ends}{fl:Fl}(h:Post K B G E fl ρ')(f:Fz G G1):Post K B G1 E fl ρ':=by
 cases fl with
 |next=>exactλG' H' σ' I g=>h G' H' σ' I (f.trans g)
 |brk=>exactλG' H' σ' I g=>h G' H' σ' I (f.trans g)
 |cont=>exactλG' H' σ' I g=>h G' H' σ' I (f.trans g)
 |ret r=>exactλG' H' σ' v I g=>h G' H' σ' v I (f.trans g)
def SSb (X:Cx)(st:Stmt)(m:MS)(t:TS):Prop:=∀B G H σ ρ fl ρ' (E:Ends),SI X.K B G H σ ρ->m ρ=some (fl,ρ')->Post X.K B G E fl ρ'->t E σ H
def SS (X:Cx)(st:Stmt)(m:MS):Prop:=∃t,PS X st t/\SSb X st m t
theorem SS.el {st:Stmt}(h:SS X st m)(k:∀t,PS X st t->SSb X st m t->C):C:=h.elim λt q=>k t q.1 q.2
def Vi (X:Cx)(st:AA Stmt)(m:MS)(t:TS):Prop:=∀B G H σ ρ fl ρ' (E:Ends),SI X.K B G H σ ρ->m ρ=some (fl,ρ')->Post X.K B G E fl ρ'->t E σ H
def SSs (X:Cx)(st:AA Stmt)(m:MS):Prop:=∃t,PSs X st t/\Vi X st m t
theorem SSs.el {st:AA Stmt}(h:SSs X st m)(k:∀t,PSs X st t->Vi X st m t->C):C:=h.elim λt q=>k t q.1 q.2
def eN:MS:=λρ=>some (.next,ρ)
def aI (a b:MS):MS:=λρ=>(a ρ).bind λp=>match p.1 with
 | .next=>b p.2
 |f=>some (f,p.2)
section
variable {X:Cx}{st:Stmt}{rest:AA Stmt}{m n:MS}{e:AI}{me:ME}{pos:Pos}
def fZ:SSs X [] eN:=⟨_,zlk,λB G H σ ρ fl ρ' E I hm k=>by exists bM hm;exact k G H σ I (Fz.refl G)⟩
def aV (h:SS X st m):SSs X [st] m:=h.el λt p s=>⟨t,xQ p,s⟩
def aR (h:SS X st m)(hr:SSs X rest n):SSs X (st::rest) (aI m n):=by
 refine h.el λt p s=>?_
 refine hr.el λu q z=>?_
 refine⟨_,zjp p q,λB G H σ ρ fl ρ' E I hm k=>?_⟩;refine aZ hm λf ρ1 e1 e2=>?_
 refine s B G H σ ρ f ρ1 _ I e1 ?_;cases f with
 |next=>exactλG1 H1 σ1 I1 f1=>z B G1 H1 σ1 ρ1 fl ρ' E I1 e2 (k.mono f1)
 |brk=>exists bM e2;exact k
 |cont=>exists bM e2;exact k
 |ret r=>exists bM e2;exact k
def Yv (m:ME):MS:=λρ=>(m ρ).map λp=>(.next,p.2)
def zlE (h:SE X e me)(hs:swapsWith e none pos.line X.env=pure false:=by rfl):SS X (.Expr e pos) (Yv me):=by
 refine h.el λt p s=>?_
 refine⟨_,Zo p hs,λB G H σ ρ fl ρ' E I hm k=>?_⟩;refine iM hm λd ρ1 e1 e2=>?_
 cases e2;exact s B G H σ ρ d ρ1 _ I e1 λG1 H1 v I1 f1 _=>k G1 H1 σ I1 f1
def bK (m:ME):MS:=λρ=>(m ρ).map λp=>(.ret (.val p.1),p.2)
def dS (h:SE X e me):SS X (.Return (some e) pos) (bK me):=by
 refine h.el λt p s=>?_
 refine⟨_,Sg p,λB G H σ ρ fl ρ' E I hm k=>?_⟩;refine iM hm λd ρ1 e1 e2=>?_
 cases e2;exact s B G H σ ρ d ρ1 _ I e1 λG1 H1 v I1 f1 r1=>k G1 H1 σ v I1 f1 r1
def jA (m:MO):MS:=λρ=>(m ρ).map λp=>(.ret (.own p.1),p.2)
def kB (h:SO X e mo):SS X (.Return (some e) pos) (jA mo):=by
 refine h.el λt p s=>?_
 refine⟨_,Sg p,λB G H σ ρ fl ρ' E I hm k=>?_⟩;refine iM hm λd ρ1 e1 e2=>?_
 cases e2;exact s B G H σ ρ d ρ1 _ I e1 λG1 H1 l xs I1 f1 g1 h1 r1 b1 _=>k G1 H1 σ _ I1 f1 ⟨l,xs,rfl,g1,h1,r1,b1⟩
theorem SI.emp {K:AF}(I:SI K B G H σ ρ)(i:Nat):SI K B G H σ (ρ.set i .emp):=by
 by_cases hi:i<ρ.length
 ·have hs:σ[i]? =some (σ[i]'(by rw[I.len];exact hi)):=bA _;have h:=I.chg (i:=i) (ov:=σ[i]'(by rw[I.len];exact hi)) (s':= .emp) I.fz (Fz.refl G) I.new I.keep I.there (λ_ _ _ _ _ _ g _=>⟨g,rfl,id⟩) trivial;rwa[Ee hs]at h
 ·rw[List.set_eq_of_length_le ∅];exact I
def pE (i:Nat):MS:=λρ=>match ρ[i]? with
 |some (.val d)=>some (.ret (.val d),ρ)
 |some (.own ds)=>some (.ret (.own ds),ρ.set i .emp)
 |_=>none
def Fo (i:Nat)(hN:X.N[i]? =some x:=by rfl)(hv:dP X.env.scope x:=by trivial)(hd:(x==("__debug__":Str))=false:=by decide)(hcd:(x==("__classdict__":Str))=false:=by decide):SS X (.Return (some (.Name x pos')) pos) (pE i):=by
 refine⟨_,Sg (eI hN hv hd hcd),λB G H σ ρ fl ρ' E I hm k=>?_⟩;unfold pE at hm;cases e:ρ[i]? with
 |none=>rw[e]at hm;exact aG hm
 |some s=>
  rw[e]at hm;have h:=I.slot i s e;cases s with
  |emp=>exact aG hm
  |two _ _=>exact aG hm
  |tre _=>exact aG hm
  |ptr _=>exact aG hm
  |par ds=>exact aG hm
  |val d=>exists bM hm;obtain⟨v,h1,h2⟩:=h;exact⟨v,h1,k G H σ v I (Fz.refl G) h2⟩
  |own ds=>
   exists bM hm;obtain⟨l,xs,h1,h2,h3,h4,h5⟩:=h;exact⟨.ref l,h1,k G H σ _ (I.emp i) (Fz.refl G) ⟨l,xs,rfl,h2,h3,h4,h5⟩⟩
def eD (c:MT)(a b:MS):MS:=λρ=>(c ρ).bind λp=>if p.1 then a p.2 else b p.2
def fE {c:AI}{ma:MS}(hc:STt X c mc)(ha:SSs X a ma)(hb:SSs X b mb):SS X (.If c a b pos) (eD mc ma mb):=by
 refine hc.el λtc pc sc=>?_
 refine ha.el λta pa sa=>?_
 refine hb.el λtb pb sb=>?_
 refine⟨_,Ca pc pa pb,λB G H σ ρ fl ρ' E I hm k=>?_⟩;refine aZ hm λx ρ1 e1 e2=>?_
 refine sc B G H σ ρ x ρ1 _ I e1 λG1 H1 I1 f1=>?_
 cases x with
 |true=>exact sa B G1 H1 σ ρ1 fl ρ' E I1 e2 (k.mono f1)
 |false=>exact sb B G1 H1 σ ρ1 fl ρ' E I1 e2 (k.mono f1)
end
def SGb (X:Cx)(tg:AI)(g:D->R->AB R)(t:TG):Prop:=∀B G H σ ρ v d ρ' (Q:St->Hp->Prop),SI X.K B G H σ ρ->RepD X.K G v d->g d ρ=some ρ'->(∀G' H' σ',SI X.K B G' H' σ' ρ'->Fz G G'->Q σ' H')->t v σ H Q
def SG (X:Cx)(tg:AI)(g:D->R->AB R):Prop:=∃t,PG X tg t/\SGb X tg g t
def SG.el (h:SG X tg g)(k:∀t,PG X tg t->SGb X tg g t->C):C:=h.elim λt q=>k t q.1 q.2
def Xv (X:Cx)(tgs:AA AI)(g:AA D->R->AB R)(t:tP):Prop:=∀B G H σ ρ vs ds ρ' (Q:St->Hp->Prop),SI X.K B G H σ ρ->RepL X.K G vs ds->g ds ρ=some ρ'->(∀G' H' σ',SI X.K B G' H' σ' ρ'->Fz G G'->Q σ' H')->t vs σ H Q
def SGs (X:Cx)(tgs:AA AI)(g:AA D->R->AB R):Prop:=∃t,Ib X tgs t/\Xv X tgs g t
def SGs.el {g:AA D->R->AB R}(h:SGs X tgs g)(k:∀t,Ib X tgs t->Xv X tgs g t->C):C:=h.elim λt q=>k t q.1 q.2
def gN (i:Nat):D->R->AB R:=λd ρ=>some (ρ.set i (.val d))
def tO:AA D->R->AB R:=λds ρ=>match ds with
 |[]=>some ρ
 |_=>none
def hG (g:D->R->AB R)(h:AA D->R->AB R):AA D->R->AB R:=λds ρ=>match ds with
 |d::ds=>(g d ρ).bind λρ1=>h ds ρ1
 |[]=>none
def gT (n:Nat)(g:AA D->R->AB R):D->R->AB R:=λd ρ=>match d with
 | .tup ds=>if ds.length=n then g ds ρ else none
 |_=>none
section
variable {X:Cx}{pos:Pos}
def bU (i:Nat)(hN:X.N.Nodup)(hi:X.N[i]? =some x:=by rfl)(hx:gG X.env.scope x:=by trivial)(hf:X.fn x=true\/X.env.scope.names.lookup x=some .local:=by trivial):SG X (.Name x pos) (gN i):=
 ⟨_,Yt hN hi hx hf,λB G H σ ρ v d ρ' Q I r hm k=>by cases hm;exact k G H _ (I.set r) (Fz.refl G)⟩
def Cf:SGs X [] tO:=⟨_,zpq,λB G H σ ρ vs ds ρ' Q I r hm k=>by
 cases ds with
 |nil=>cases hm;exact⟨r,k G H σ I (Fz.refl G)⟩
 |cons=>exact aG hm⟩
def iQ {e:AI}(h1:SG X e g)(h2:SGs X es h)(hs:(assignEach (e::es) X.env).map (·.2)=assign e X.env::(assignEach es X.env).map (·.2):=by rfl):SGs X (e::es) (hG g h):=by
 refine h1.el λt p s=>?_
 refine h2.el λu q z=>?_
 refine⟨_,zhv p q hs,λB G H σ ρ vs ds ρ' Q I r hm k=>?_⟩;cases ds with
 |nil=>exact aG hm
 |cons d ds=>
  obtain⟨x,ys,rfl,rx,ry⟩:=r;refine aP hm λρ1 e1 e2=>?_
  exact⟨x,ys,rfl,s B G H σ ρ x d ρ1 _ I rx e1 λG1 H1 σ1 I1 f1=>z B G1 H1 σ1 ρ1 ys ds ρ' Q I1 (ry.mono f1) e2 λG2 H2 σ2 I2 f2=>k G2 H2 σ2 I2 (f1.trans f2)⟩
def Mq {g:AA D->R->AB R}(hc:X.calm=true)(h:SGs X es g)(hn:(assignEach es X.env).length=n:=by rfl)(hst:(assignEach es X.env).findIdx? (·.1)=none:=by rfl):SG X (.Tuple es k pos) (gT n g):=by
 refine h.el λt p s=>?_
 refine⟨_,tI hc p hn hst,λB G H σ ρ v d ρ' Q I r hm k=>?_⟩;cases d<;>try exact aG hm
 rename_i ds;simp only[gT]at hm;refine aT hm λhl hm=>?_
 ·skip
  obtain⟨a,xs,e,ha,rx⟩:=I.tup r;exact⟨a,xs,e,SqT.of ha,by rw[rx.length];exact hl,s B G H σ ρ xs ds ρ' Q I rx hm k⟩
variable {e tg:AI}{me:ME}{mo:MO}
def Hn (m:ME)(g:D->R->AB R):MS:=λρ=>(m ρ).bind λp=>(g p.1 p.2).map λρ'=>(.next,ρ')
def Gd (he:SE X e me)(hg:SG X tg g)(hs:swapsWithSole [tg] e pos.line X.env=pure false:=by rfl)(hw:swappedStores [tg] e X.env=pure none:=by rfl)(h1:(assignEach [tg] X.env).map (·.2)=[assign tg X.env]:=by rfl):SS X (.Assign [tg] e pos) (Hn me g):=by
 refine he.el λt p s=>?_
 refine hg.el λu q z=>?_
 refine⟨_,Zz p q hs hw h1,λB G H σ ρ fl ρ' E I hm k=>?_⟩;refine aZ hm λd ρ1 e1 h2=>?_
 refine bB h2 λρ2 e2 e3=>?_
 exists Prod.mk.inj e3;exact s B G H σ ρ d ρ1 _ I e1 λG1 H1 v I1 f1 r1=>z B G1 H1 σ ρ1 v d ρ2 _ I1 r1 e2 λG2 H2 σ2 I2 f2=>k G2 H2 σ2 I2 (f1.trans f2)
def aN (i:Nat)(m:ME):MS:=λρ=>(m ρ).map λp=>(.next,p.2.set i (.val p.1))
def cC (i:Nat)(he:SE X e me)(hN:X.N.Nodup)(hi:X.N[i]? =some x:=by rfl)(hx:gG X.env.scope x:=by trivial)(hs:swapsWith e (some (.Name x pos')) pos.line X.env=pure false:=by rfl)(hf:X.fn x=true\/X.env.scope.names.lookup x=some .local:=by trivial):SS X (.Assign [.Name x pos'] e pos) (aN i me):=by
  refine he.el λt p s=>?_
  refine⟨_,Ug hN hi hx p hs hf,λB G H σ ρ fl ρ' E I hm k=>?_⟩;refine iM hm λd ρ1 e1 e3=>?_
  cases e3;exact s B G H σ ρ d ρ1 _ I e1 λG1 H1 v I1 f1 r1=>k G1 H1 _ (I1.set r1) f1
def jP (i:Nat)(m:MO):MS:=λρ=>(m ρ).map λp=>(.next,p.2.set i (.own p.1))
def Jg (i:Nat)(he:SO X e mo)(hN:X.N.Nodup)(hi:X.N[i]? =some x:=by rfl)(hx:gG X.env.scope x:=by trivial)(hs:swapsWith e (some (.Name x pos')) pos.line X.env=pure false:=by rfl)(hf:X.fn x=true\/X.env.scope.names.lookup x=some .local:=by trivial):SS X (.Assign [.Name x pos'] e pos) (jP i mo):=by
  refine he.el λt p s=>?_
  refine⟨_,Ug hN hi hx p hs hf,λB G H σ ρ fl ρ' E I hm k=>?_⟩;refine iM hm λd ρ1 e1 e3=>?_
  cases e3;exact s B G H σ ρ d ρ1 _ I e1 λG1 H1 l xs I1 f1 g1 h1 r1 b1 n1=>k G1 H1 _ (I1.setO g1 h1 r1 b1 n1) f1
def jD (i:Nat)(m:ME):MS:=λρ=>if(ρ[i]?.bind Sl.items).isSome then(m ρ).bind λp=>p.2[i]?.bind λs=>s.items.bind λds=>if ds.length<16777216 then some (.next,p.2.set i (s.put (ds++[p.1])))else none else none
def zmb (i:Nat){pos':Pos}(he:SE X e me)(hN:X.N[i]? =some x:=by rfl)(hv:dP X.env.scope x:=by trivial)(hd:(x==("__debug__":Str))=false:=by decide)(hcd:(x==("__classdict__":Str))=false:=by decide)(hbase:attributeBase (.Name x pos') "append" X.env (eval (.Name x pos') X.env)=eval (.Name x pos') X.env:=by rfl)(hfew : ((backTo cpos (starEach [e] X.env)).all (λx => !x.1) && (backToKw cpos (keywordEach [] X.env)).all (λx => x.1.isSome)
   &&decide ([e].length+([]:AA Keyword).length+(if([]:AA Keyword).isEmpty then 0 else 1)<30))=true:=by rfl)(hline:(apos.endLine==cpos.line)=true:=by rfl)(hs:starEach [e] X.env=(false,eval e X.env)::starEach [] X.env:=by rfl):SS X (.Expr (.Call (.Attribute (.Name x pos') "append" apos) [e] [] cpos) pos) (jD i me):=by
 refine he.el λt p s=>?_
 refine⟨_,Zo (kO Zc PySem.F.slot_list_append PySem.F.type_list_append zkZ (eI hN hv hd hcd) (iG p oP hs) hbase hfew hline hs rfl) (by rfl),λB G H σ ρ fl ρ' E I hm k=>?_⟩;unfold jD at hm;refine aT hm λhso hm=>?_
 ·skip
  obtain⟨ds0,hso⟩:=qa0.mp hso;refine aP hso λs0 e0 q0=>?_
  obtain⟨l,xs0,h1,h2,h3,h4⟩:=I.wr e0 q0;refine aZ hm λd ρ1 e1 hm=>?_
  refine aP hm λs1 e2 hm=>?_
  refine aP hm λds e3 hm=>?_
  refine aT hm λhl hm=>?_
  ·skip
   exists bM hm;refine⟨.ref l,h1,.inl ⟨rfl,_,SqL.of h3⟩,s B G H σ ρ d ρ1 _ I e1 λG1 H1 v I1 f1 r1=>?_⟩;obtain⟨l',xs,k1,k2,k3,k4⟩:=I1.wr e2 e3;rw[h1]at k1;cases k1;refine⟨l,xs,v,rfl,rfl,k3,by rw[k4.length,fX];exact hl,?_⟩;exact k G1 _ σ (I1.write e2 e3 h1 (k4.snoc r1)) f1
def pF (j:Nat)(mi me:ME):MS:=λρ=>(me ρ).bind λp=>if gZ p.2 j then(mi p.2).bind λq=>match q.1 with
 | .int k=>q.2[j]?.bind λs=>s.items.bind λds=>(iE ds.length k).bind λn=>some (.next,q.2.set j (s.put (ds.set n p.1)))
 |_=>none else none
def nX (j:Nat){i:AI}{pos':Pos}(he:SE X e me)(hi:SE X i mi)(hN:X.N[j]? =some x:=by rfl)(hv:dP X.env.scope x:=by trivial)(hd:(x==("__debug__":Str))=false:=by decide)(hcd:(x==("__classdict__":Str))=false:=by decide)(ha : ∀ v, assign (.Subscript (.Name x pos') i tpos) X.env v = (do
   let ov<-holding [v] (eval (.Name x pos') X.env)
   let iv<-holding [v,ov] (eval i X.env)
   standAt tpos
   holding [v,ov,iv] (setItem ov iv v)
   release [v,ov,iv] []):=by exactλ_=>rfl)(hs:swapsWithSole [.Subscript (.Name x pos') i tpos] e pos.line X.env=pure false:=by rfl)(hw:swappedStores [.Subscript (.Name x pos') i tpos] e X.env=pure none:=by rfl)(h1:(assignEach [.Subscript (.Name x pos') i tpos] X.env).map (·.2)=[assign (.Subscript (.Name x pos') i tpos) X.env]:=by rfl):SS X (.Assign [.Subscript (.Name x pos') i tpos] e pos) (pF j mi me):=by
 refine he.el λt p s=>?_
 refine hi.el λu q z=>?_
 refine⟨_,Zz p (pO (eI hN hv hd hcd) q zmK ha) hs hw h1,λB G H σ ρ fl ρ' E I hm k=>?_⟩;refine aZ hm λd ρ1 e1 hm=>?_
 refine s B G H σ ρ d ρ1 _ I e1 λG1 H1 v I1 f1 r1=>?_
 refine aT hm λhh hm=>?_
 ·skip
  obtain⟨w,ew⟩:=I1.has hh;refine aZ hm λkd ρ2 e2 hm=>?_
  cases kd<;>try exact aG hm
  rename_i kk;refine aP hm λs2 e3 hm=>?_
  refine aP hm λds e4 hm=>?_
  refine aP hm λn e5 hm=>?_
  exists bM hm;refine⟨w,ew,z B G1 H1 σ ρ1 (.int kk) ρ2 _ I1 e2 λG2 H2 y I2 f2 r2=>?_⟩;obtain⟨l,xs,k1,k2,k3,k4⟩:=I2.wr e3 e4;rw[ew]at k1;cases k1;refine⟨l,xs,kk,n,rfl,r2,k3,by rw[k4.length];exact e5,?_⟩;exact k G2 _ σ (I2.write e3 e4 ew (k4.set n (r1.mono f2))) (f1.trans f2)
end
structure Itm (K:W.Frag)(J:It)(G:Hp)(items:List D):Prop where
 go:∀H i,Fz G H->i<items.length->J.go i H
 yld:∀H i x H',Fz G H->J.yld i H x H'->∀d,items[i]? =some d->(H'=H/\RepD K G x d)\/∃p xs ds,H p=none/\H'=upd H p (.tup xs)/\x= .ref p/\d= .tup ds/\RepL K G xs ds
 stop:∀H i,Fz G H->items.length<=i->J.stop i H
def yW (X:Cx)(tg it:AI)(m:MA)(wi:TI):Prop:=∀B G H σ ρ ds ρ' (Q:It->Hp->Prop),SI X.K B G H σ ρ->m ρ=some (ds,ρ')->(∀J G' H',SI X.K B G' H' σ ρ'->Fz G G'->Itm X.K J G' ds->Q J H')->wi σ H Q
def SIt (X:Cx)(tg it:AI)(m:MA):Prop:=∃wi,PI X tg it wi/\yW X tg it m wi
def SIt.el {m:MA}(h:SIt X tg it m)(k:∀wi,PI X tg it wi->yW X tg it m wi->C):C:=h.elim λwi q=>k wi q.1 q.2
def eB (f:D->R->AB (Fl×R)):AA D->R->AB (Fl×R)
 |[],ρ=>some (.next,ρ)
 |d::ds,ρ=>(f d ρ).bind λp=>match p.1 with
  | .next=>eB f ds p.2
  | .cont=>eB f ds p.2
  | .brk=>some (.next,p.2)
  | .ret r=>some (.ret r,p.2)
def dQ (mi:MA)(g:D->R->AB R)(mb:MS):MS:=λρ=>(mi ρ).bind λp=>eB (λd ρ=>(g d ρ).bind λρ'=>mb ρ') p.1 p.2
theorem SI.yld {K:AF}{x:V}(I:SI K B G H σ ρ)(h:(H'=H/\RepD K G x d)\/∃p xs ds,H p=none/\H'=upd H p (.tup xs)/\x= .ref p/\d= .tup ds/\RepL K G xs ds):∃G',SI K B G' H' σ ρ/\Fz G G'/\RepD K G' x d:=by
 rcases h with⟨rfl,r⟩|⟨p,xs,ds,hp,rfl,rfl,rfl,r⟩
 ·exact⟨G,I,Fz.refl G,r⟩
 ·obtain⟨I2,f2,r2⟩:=I.newT hp r;exact⟨_,I2,f2,r2⟩
def lJ (hp:PassesOwn (model X.prog X.w) X.A X.env X.xe)(hc:X.calm=true)(hi:SIt X tg it mi)(hg:SG X tg g)(hb:SSs X body mb)(hs:∀x,foldedSetIterable it X.env x=pure x:=by exactλ_=>rfl):SS X (.For tg it body [] pos) (dQ mi g mb):=by
  refine hi.el λwi pi si=>?_
  refine hg.el λtg' pg sg=>?_
  refine hb.el λtb pb sb=>?_
  refine⟨_,Mi hp hc pi pg pb hs,λB G H σ ρ fl ρ' E I hm k=>?_⟩;refine aZ hm λds ρ1 e1 hm=>?_
  refine si B G H σ ρ ds ρ1 _ I e1 λJ G1 H1 I1 f1 IT=>?_
  refine⟨λi m σ H=>m=ds.length-i/\i<=ds.length/\∃G2 ρ2,SI X.K B G2 H σ ρ2/\Fz G1 G2/\eB (λd ρ=>(g d ρ).bind λρ'=>mb ρ') (ds.drop i) ρ2=some (fl,ρ'),⟨ds.length,by simp,gK _,G1,ρ1,I1,Fz.refl _,~~~hm⟩,?_⟩;rintro i m σ2 H2 ⟨rfl,hi,G2,ρ2,I2,f2,e2⟩
  by_cases hlt:i<ds.length
  . rw[qbO hlt]at e2
    simp only[eB]at e2;refine aZ e2 λf ρ3 e3 e4=>?_
    refine aP e3 λρ2' e5 e6=>?_
    have fz2:Fz G1 H2:=f2.trans I2.fz;refine .inr ⟨IT.go H2 i fz2 hlt,λσ' H'=>(∃G3,SI X.K B G3 H' σ' ρ3/\Fz G1 G3)/\(f= .next\/f= .cont),?_,λx H' y=>?_⟩
    . rintro σ' H' ⟨⟨G3,I3,f3⟩,hf⟩
      refine⟨ds.length-(i+1),∅,rfl,hlt,G3,ρ3,I3,f3,?_⟩;rcases hf with rfl|rfl<;>exact e4
    . have yy:=IT.yld H2 i x H' fz2 y ds[i] (bA hlt)
      have yy2:(H'=H2/\RepD X.K G2 x ds[i])\/∃p xs es,H2 p=none/\H'=upd H2 p (.tup xs)/\x= .ref p/\ds[i]= .tup es/\RepL X.K G2 xs es:=by
        rcases yy with⟨a,b⟩|⟨p,xs,es,a,b,c,d,e⟩
        . exact .inl ⟨a,b.mono f2⟩
        . exact .inr ⟨p,xs,es,a,b,c,d,e.mono f2⟩
      obtain⟨G3,I3,f3,r3⟩:=I2.yld yy2;refine sg B G3 H' σ2 ρ2 x ds[i] ρ2' _ I3 r3 e5 λG4 H4 σ4 I4 f4=>sb B G4 H4 σ4 ρ2' f ρ3 _ I4 e6 ?_
      have ff:Fz G1 G4:=f2.trans (f3.trans f4);cases f with
      |next=>exactλG5 H5 σ5 I5 f5=>⟨⟨G5,I5,ff.trans f5⟩,.inl rfl⟩
      |cont=>exactλG5 H5 σ5 I5 f5=>⟨⟨G5,I5,ff.trans f5⟩,.inr rfl⟩
      |brk=>exists bM e4;exactλG5 H5 σ5 I5 f5=>k G5 H5 σ5 I5 (f1.trans (ff.trans f5))
      |ret r=>exists bM e4;exactλG5 H5 σ5 v I5 f5=>k G5 H5 σ5 v I5 (f1.trans (ff.trans f5))
  . have e:i=ds.length:=∅
    subst e;rw[List.drop_length]at e2;exists bM e2;exact .inl ⟨IT.stop H2 _ (f2.trans I2.fz) (aY _),k G2 H2 σ2 I2 (f1.trans f2)⟩
section
variable {X:Cx}{tg it:AI}{me:ME}
def cA (m:ME):MA:=λρ=>(m ρ).bind λp=>(eO [p.1]).map λds=>(ds,p.2)
def Sk {l:AI}(hl:PE X l tl):PI X tg l (λσ H R=>tl σ H λx H1=>∃a,x= .ref a/\(((∃xs,SqL X.K H1 a xs)/\R (Itl X.K a) H1)\/((∃xs,SqT X.K H1 a xs)/\R (Itt X.K a) H1))):=by
 intro AM s σ H R I h;refine aS (hl AM s σ H _ I h) λv s1 ⟨x,H1,I1,r1,q1⟩=>?_
 obtain⟨a,e,q⟩:=q1;subst e;cases r1;rcases q with⟨⟨xs,hq⟩,q⟩|⟨⟨xs,hq⟩,q⟩
 ·obtain⟨its,rv,p,hz⟩:=I1.list hq;refine wpAny_pyIter_list p.isList ?_;refine⟨s1⁻¹,[s1⁻¹],_,_,H1,rfl,I1.kept (t':=s1.toks) λb o e=>bP _ e,zol a _,⟨_,dO _ rfl,rfl,rfl⟩,λb hb=>?_,q⟩;have e:b=s1⁻¹:= ~~~hb
  subst e;exact I1.fpOk (aY _) (I1.hok.fresh (aY _))
 ·obtain⟨its,rv,p,hz⟩:=I1.tuple hq;refine qbP (show s1.heap.IsTuple a its.toArray from p) ?_;refine⟨s1⁻¹,[s1⁻¹],_,_,H1,rfl,I1.kept (t':=s1.toks) λb o e=>bP _ e,zna a _,⟨_,dO _ rfl,rfl,rfl⟩,λb hb=>?_,q⟩;have e:b=s1⁻¹:= ~~~hb
  subst e;exact I1.fpOk (aY _) (I1.hok.fresh (aY _))
theorem zmF {K:AF}{a:AD}(hg:SqL K G a xs)(r:RepL K G xs ds):Itm K (Itl K a) G ds where
 go:=λH i f hi=>by
  have hl:=r.length;exact⟨xs,xs[i],f.sql hg,bA ∅⟩
 yld:=λH i x H' f y d e=>by
  obtain⟨rfl,y⟩:=y;have hx:=y xs (f.sql hg);obtain⟨x',h1,h2⟩:=r.get e;rw[hx]at h1;cases h1;exact .inl ⟨rfl,h2⟩
 stop:=λH i f hi=>⟨xs,f.sql hg,by rw[r.length];exact hi⟩
theorem xA {K:AF}{a:AD}(hg:G a=some (.tup xs))(r:RepL K G xs ds):Itm K (Itt K a) G ds where
 go:=λH i f hi=>by
  have hl:=r.length;exact⟨xs,xs[i],SqT.of (f _ _ hg),bA ∅⟩
 yld:=λH i x H' f y d e=>by
  obtain⟨rfl,y⟩:=y;have hx:=y xs (SqT.of (f _ _ hg));obtain⟨x',h1,h2⟩:=r.get e;rw[hx]at h1;cases h1;exact .inl ⟨rfl,h2⟩
 stop:=λH i f hi=>⟨xs,SqT.of (f _ _ hg),by rw[r.length];exact hi⟩
def fJ (h:SE X it me):SIt X tg it (cA me):=by
 refine h.el λt p s=>?_
 refine⟨_,Sk p,λB G H σ ρ ds ρ' Q I hm k=>?_⟩;refine aZ hm λd ρ1 e1 hm=>?_
 refine bB hm λes e2 e3=>?_
 cases e3;refine s B G H σ ρ d ρ1 _ I e1 λG1 H1 v I1 f1 r1=>?_
 cases d<;>simp only[eO]at e2<;>try cases e2
 ·obtain⟨a,xs,rfl,ha,r⟩:=r1;exact⟨a,rfl,.inl ⟨⟨xs,SqL.of (I1.fz _ _ ha)⟩,k _ G1 H1 I1 f1 (zmF (SqL.of ha) r)⟩⟩
 ·obtain⟨a,xs,rfl,ha,r⟩:=r1;exact⟨a,rfl,.inr ⟨⟨xs,SqT.of (I1.fz _ _ ha)⟩,k _ G1 H1 I1 f1 (xA ha r)⟩⟩
 ·obtain⟨a,rfl,ha⟩:=r1;exact⟨a,rfl,.inl ⟨⟨_,I1.fz.sql ha⟩,k _ G1 H1 I1 f1 (zmF ha (RepL.ints _))⟩⟩
end
def iL (lo:Int)(n:Nat):AA D:=(List.range n).map λ(i:Nat)=>D.int (lo+(i:Int))
theorem zo8 {K:AF}(lo:Int)(n:Nat):Itm K (Itr lo n) G (iL lo n) where
 go:=λH i f hi=>by show i<n;simpa[iL]using hi
 yld:=λH i x H' f y d e=>by
  exists y;unfold iL at e;rw[cR]at e;cases q:(List.range n)[i]? with
  |none=>rw[q]at e;exact aG e
  |some j=>
   rw[q]at e;have hj:j=i:=by
    have:=qat.mp q;obtain⟨h1,h2⟩:=this;simpa using h2.symm
   subst hj;cases e;exact .inl ⟨rfl,rfl⟩
 stop:=λH i f hi=>by show n<=i;simpa[iL]using hi
def lK (j:Int):Bool:=decide (-1000000000000<=j)&&decide (j<=1000000000000)
def zR {j:Int}(h:lK j=true): -(2^62)<=j/\j<2^62:=by
 unfold lK at h;simp only[cD,kJ]at h;lia
def iK (ma:MA):MA:=λρ=>(ma ρ).bind λp=>match p.1 with
 |[.int j]=>if lK j then some (iL 0 j.toNat,p.2)else none
 |_=>none
def iR2 (ma:MA):MA:=λρ=>(ma ρ).bind λp=>match p.1 with
 |[.int i,.int j]=>if lK i&&lK j then some (iL i (j-i).toNat,p.2)else none
 |_=>none
section
variable {X:Cx}{tg a b:AI}{ma:MA}{p pos:Pos}
def kH (hm:X.mg "range"=none)(ha:SA X [a] ma)(hg:Gl X "range":=by rfl)(hs:starEach [a] X.env=[(false,eval a X.env)]:=by rfl):SIt X tg (.Call (.Name "range" p) [a] [] pos) (iK ma):=by
 obtain⟨t,pa,sa⟩:=ha;refine⟨_,zpT hg hm pa hs,λB G H σ ρ ds ρ' Q I hm k=>?_⟩;obtain⟨⟨es,ρ1⟩,e1,h2⟩:=uF hm;dsimp only at h2;refine sa B G H σ ρ es ρ1 _ I e1 λG1 H1 vs I1 f1 r1=>?_
 split at h2
 ·rename_i j
  split at h2
  ·rename_i hj;cases h2;obtain⟨x,rfl,rx⟩:=r1.one;cases(show x=V.int j from rx);exact⟨j,rfl,(zR hj).1,(zR hj).2,k _ G1 H1 I1 f1 (zo8 0 _)⟩
  ·exact aG h2
 ·exact aG h2
end
def ResF (K:AF)(G' H' H:Hp)(v:V):Sl->Prop
 | .val d=>RepD K G' v d
 | .own ds=>∃l xs,v= .ref l/\G' l=none/\H' l=some (.lst xs)/\RepL K G' xs ds/\H l=none
 | .tre t=>∃A,RepT K G' H' v t A/\A.Nodup/\∀a∈A,G' a=none/\H a=none
 | .two ds es=>∃t l xs m ys,v= .ref t/\H' t=some (.tup [.ref l,.ref m])/\l≠m/\G' l=none/\H' l=some (.lst xs)/\RepL K G' xs ds/\H l=none/\G' m=none/\H' m=some (.lst ys)/\RepL K G' ys es/\H m=none
 |_=>False
def aX (K:AF)(n:Nat)(F:AA D->AB Sl):Sp:=λvs H Q _=>∃G ds r,F ds=some r/\ds.length=n/\Fz G H/\RepL K G vs ds/\
 ∀G' H' v,Fz G G'->Fz G' H'->(∀b o,G' b=some o->G b≠none\/H b=none)->Fz H H'->ResF K G' H' H v r->Q v H'
def gH (K:AF)(n:Nat)(F:AA D->AA D->AB (Sl×AA D)):Sp:=λvs H Q _=>∃G l xs cs ws ds r out,vs= .ref l::ws/\F cs ds=some (r,out)/\ds.length+1=n/\Fz G H/\G l=none/\H l=some (.lst xs)/\RepL K G xs cs/\RepL K G ws ds/\
 ∀G' H' v ys,Fz G G'->Fz G' H'->(∀b o,G' b=some o->G b≠none\/H b=none)->(∀b o,b≠l->H b=some o->H' b=some o)->G' l=none->H' l=some (.lst ys)->RepL K G' ys out->ResF K G' H' H v r->Q v H'
def fP (N:Nat)(m:MS):AA D->AB Sl:=λds=>(m (ds.map .val++List.replicate (N-ds.length) .emp)).bind λp=>match p.1 with
 | .ret r=>some r
 | .next=>some (.val .non)
 |_=>none
def fM (N:Nat)(m:MS):AA D->AA D->AB (Sl×AA D):=λcs ds=>(m (.par cs::(ds.map .val++List.replicate (N-(ds.length+1)) .emp))).bind λp=>match p.1,(p.2[0]?:AB Sl)with
 |Fl.ret r,some (Sl.par out)=>some (r,out)
 |Fl.next,some (Sl.par out)=>some (.val .non,out)
 |_,_=>none
def zhO (h:vs.length<=N.length):(L2.start N vs).length=N.length:=by
 unfold L2.start;rw[iZ,cO,Xt];lia
theorem SI.start {K:AF}(fz:Fz G H)(r:RepL K G vs ds)(h:ds.length<=N.length):
  SI K ⟨G,H,[]⟩ G H (L2.start N vs) (ds.map .val++List.replicate (N.length-ds.length) .emp) where
 fz:=fz
 g0:=Fz.refl G
 new:=λb o e=> .inl (by show G b≠none;rw[e];simp)
 keep:=λb o e _=>e
 there:=λb e=>e
 ob:=λi b m=>by cases m
 len:=by rw[zhO (by rw[r.length];exact h),iZ,cO,Xt];lia
 slot:=λi s e=>by
  by_cases hi:i<ds.length
  ·rw[fT (~~~hi),cR,bA hi]at e;cases e;obtain⟨x,h1,h2⟩:=r.get (bA hi);refine⟨x,?_,h2⟩;unfold L2.start;rw[fT (by rw[cO,r.length];exact hi),cR,h1]
   rfl
  ·rw[pI (~~~hi),Ei]at e
   split at e
   ·cases e;trivial
   ·exact aG e
 dis:=λi j s _ a _ e _ w=>by
  exfalso
  by_cases hi:i<ds.length
  ·rw[fT (~~~hi),cR,bA hi]at e;cases e;exact w
  ·rw[pI (~~~hi),Ei]at e
   split at e
   ·cases e;exact w
   ·exact aG e
theorem SI.startM {K:AF}(fz:Fz G H)(hg:G l=none)(hl:H l=some (.lst xs))(rc:RepL K G xs cs)(r:RepL K G vs ds)(h:ds.length+1<=N.length):
  SI K ⟨G,H,[(0,l)]⟩ G H (L2.start N (.ref l::vs)) (.par cs::(ds.map .val++List.replicate (N.length-(ds.length+1)) .emp)) where
 fz:=fz
 g0:=Fz.refl G
 new:=λb o e=> .inl (by show G b≠none;rw[e];simp)
 keep:=λb o e _=>e
 there:=λb e=>e
 ob:=λi b m=>by
  have:b=l:=((~~~m):i=0/\b=l).2;subst this;show H b≠none;rw[hl];simp
 len:=by
  have:=r.length;rw[zhO (by rw[eS,r.length];exact h),eS,iZ,cO,Xt];lia
 slot:=λi s e=>by
  cases i with
  |zero=>simp at e;subst e;exact⟨l,xs,rfl,hg,hl,rc,by simp⟩
  |succ i=>
   rw[Ag]at e
   by_cases hi:i<ds.length
   ·rw[fT (~~~hi),cR,bA hi]at e;cases e;obtain⟨x,h1,h2⟩:=r.get (bA hi);refine⟨x,?_,h2⟩;unfold L2.start;rw[eV,Yy,Ag,fT (by rw[cO,r.length];exact hi),cR,h1]
    rfl
   ·rw[pI (~~~hi),Ei]at e
    split at e
    ·cases e;trivial
    ·exact aG e
 dis:=λi j s t a hij hi hj w1 w2=>by
  have z:∀(i:Nat) (s:Sl),(Sl.par cs::(ds.map .val++List.replicate (N.length-(ds.length+1)) .emp))[i]? =some s->bR K G H (L2.start N (.ref l::vs))[i]? a s->i=0:=λi s e q=>by
   cases i with
   |zero=>rfl
   |succ i=>
    exfalso;rw[Ag]at e
    by_cases hi:i<ds.length
    ·rw[fT (~~~hi),cR,bA hi]at e;cases e;exact q
    ·rw[pI (~~~hi),Ei]at e
     split at e
     ·cases e;exact q
     ·exact aG e
  exact hij ((z i s hi w1).trans (z j t hj w2).symm)
section
variable {P:AJ}{w:World}{K:AF}{mg:Str->AB AC}{base:AK}
theorem zpd {st:Stmt}{f:AD}(F:Fun K x qual st f fd)(S:FnScope N ps (zao st))(hn:ps.length=n)(hN:n<=N.length)(body:∀(cdv:AC) (A:Around) (outer:AA Env) (s:AE) (H:Hp) (E:XK),Room k (A.deeper (envOfC qual (zao st) s⁻¹ f cdv))->SSs (fC gX P w K mg base N qual (zao st) f cdv A outer s H E).nox (zaH st) m):
  FnOk P w K mg base gX (k+1) f fd ps (aX K n (fP N.length m)):=by
 refine F.ok S (λvs H Q E h=>?_) (λcdv A outer s H vs Q E hr h=>?_)
 ·obtain⟨G,ds,r,_,h2,_,h4,_⟩:=h;rw[h4.length,h2,hn]
 ·obtain⟨G,ds,r,e1,h2,fz,h4,kk⟩:=h;obtain⟨t,pt,so⟩:=body cdv A outer s H E hr;refine⟨t,pt,?_⟩;refine aZ e1 λfl ρ' e2 e3=>?_
  refine so ⟨G,H,[]⟩ G H (L2.start N vs) _ fl ρ' _ (SI.start fz h4 ∅) e2 ?_;have fin:∀G' H' σ' v,SI K ⟨G,H,[]⟩ G' H' σ' ρ'->Fz G G'->ResF K G' H' H v r->Q v H':=λG' H' σ' v I f rr=>kk G' H' v f I.fz I.new (λb o e=>I.keep b o e (by simp)) rr
  cases fl with
  |next=>cases e3;exactλG' H' σ' I f=>fin G' H' σ' .non I f rfl
  |brk=>exact aG e3
  |cont=>exact aG e3
  |ret r'=>
   cases e3;refineλG' H' σ' v I f rr=>fin G' H' σ' v I f ?_
   cases r with
   |val d=>exact rr
   |own ds=>exact rr
   |emp=>exact rr
   |two _ _=>exact rr
   |tre _=>exact rr
   |ptr _=>exact rr
   |par ds=>exact rr
theorem Ig {st:Stmt}{f:AD}(F:Fun K x qual st f fd)(S:FnScope N ps (zao st))(hn:ps.length=n)(hN:n<=N.length)(body:∀(cdv:AC) (A:Around) (outer:AA Env) (s:AE) (H:Hp) (E:XK),Room k (A.deeper (envOfC qual (zao st) s⁻¹ f cdv))->SSs (fC gX P w K mg base N qual (zao st) f cdv A outer s H E).nox (zaH st) m):
  FnOk P w K mg base gX (k+1) f fd ps (gH K n (fM N.length m)):=by
 refine F.ok S (λvs H Q E h=>?_) (λcdv A outer s H vs Q E hr h=>?_)
 ·obtain⟨G,l,xs,cs,ws,ds,r,out,rfl,_,h2,_,_,_,_,h4,_⟩:=h;rw[eS,h4.length,h2,hn]
 ·obtain⟨G,l,xs,cs,ws,ds,r,out,rfl,e1,h2,fz,hg,hl,rc,h4,kk⟩:=h;obtain⟨t,pt,so⟩:=body cdv A outer s H E hr;refine⟨t,pt,?_⟩;refine aZ e1 λfl ρ' e2 e3=>?_
  refine so ⟨G,H,[(0,l)]⟩ G H _ _ fl ρ' _ (SI.startM fz hg hl rc h4 ∅) e2 ?_;have fin:∀G' H' σ' v,ρ'[0]? =some (.par out)->SI K ⟨G,H,[(0,l)]⟩ G' H' σ' ρ'->Fz G G'->ResF K G' H' H v r->Q v H':=λG' H' σ' v e0 I f rr=>by
   obtain⟨l',ys,k1,k2,k3,k4,k5⟩:=I.slot 0 _ e0;have:l'=l:= ~~~k5
   subst this;exact kk G' H' v ys f I.fz I.new (λb o hb e=>I.keep b o e (λi hm=>by simp at hm;exact hb hm.2)) k2 k3 k4 rr
  cases e0:ρ'[0]? with
  |none=>rw[e0]at e3;cases fl<;>exact aG e3
  |some s0=>
   rw[e0]at e3;cases s0 with
   |emp=>cases fl<;>exact aG e3
   |two _ _=>cases fl<;>exact aG e3
   |tre _=>cases fl<;>exact aG e3
   |ptr _=>cases fl<;>exact aG e3
   |val d=>cases fl<;>exact aG e3
   |own d=>cases fl<;>exact aG e3
   |par o2=>
    cases fl with
    |next=>exists bM e3;exactλG' H' σ' I f=>fin G' H' σ' .non e0 I f rfl
    |brk=>exact aG e3
    |cont=>exact aG e3
    |ret r'=>
     cases e3;refineλG' H' σ' v I f rr=>fin G' H' σ' v e0 I f ?_
     cases r with
     |val d=>exact rr
     |own ds=>exact rr
     |emp=>exact rr
     |two _ _=>exact rr
     |tre _=>exact rr
     |ptr _=>exact rr
     |par ds=>exact rr
end
structure FD (P:Program)(w:World)(K:W.Frag)(mg:Str->Option Value)(base:Heap)(k:Nat)(x:Str)(sp:Sp):Prop where
 ex:∃f fd ps,FnOk P w K mg base gX k f fd ps sp/\mg x=some (.ref f)/\W.keepIn K (.ref f)=true/\Binds K fd ps []
theorem zpu {K:AF}(nw:∀b o,G' b=some o->G b≠none\/H b=none)(kp:Fz H H'):∀(i:Nat) (s:Sl) (a:AD),ρ[i]? =some s->bR K G H σ[i]? a s->G a=none->H a≠none->G' a=none/\H' a=H a:=λi s a _ _ g h=>by
 obtain⟨u,hu⟩:=qbC.mp h;refine⟨?_,(kp a u hu).trans hu.symm⟩;cases q:G' a with
 |none=>rfl
 |some u=>
  rcases nw a u q with z|z
  ·exact AH g z
  ·exact AH z h
theorem SI.grow {K:AF}(I:SI K B G H σ ρ)(f:Fz G G')(fz:Fz G' H')(nw:∀b o,G' b=some o->G b≠none\/H b=none)(kp:Fz H H'):SI K B G' H' σ ρ:=
 I.move fz f (λb o e=>by
  rcases nw b o e with h|h
  ·cases q:G b with
   |none=>exact AH q h
   |some u=>exact I.new b u q
  ·exact .inr (I.there b h)) (λb o e n=>kp b o (I.keep b o e n)) (λb e=>I.there b (kp.free e)) (zpu nw kp)
theorem SI.own_ne {K:AF}(I:SI K B G H σ ρ)(hp:H p=none)(nw:∀b o,G' b=some o->G b≠none\/H b=none)(kp:Fz H H'):Nw K G' H' σ ρ p:=I.nw_move (I.nw hp) (zpu nw kp)
def cM (F:AA D->AB Sl)(ma:MA):ME:=λρ=>(ma ρ).bind λp=>(F p.1).bind λr=>match r with
 | .val d=>some (d,p.2)
 | .own ds=>some (.lst ds,p.2)
 |_=>none
def Bz (F:AA D->AB Sl)(ma:MA):MO:=λρ=>(ma ρ).bind λp=>(F p.1).bind λr=>match r with
 | .own ds=>some (ds,p.2)
 |_=>none
section
variable {X:Cx}{x:Str}{p pos:Pos}{e:AI}{es:AA AI}{ma:MA}{k k' n:Nat}{F:AA D->AB Sl}
theorem dB (fd:FD X.prog X.w X.K X.mg X.base k x (aX X.K n F))(hr:Room k' X.A)(ha:SA X (e::es) ma)(hn:(e::es).length=n:=by rfl)(hk:k<=k':=by decide)(hg:Gl X x:=by rfl)(hdb:(x==("__debug__":Str))=false:=by decide)(he:starEach (e::es) X.env=(false,eval e X.env)::starEach es X.env:=by rfl)(hpl:(backTo pos (starEach es X.env)).any (·.1)=false:=by rfl)(AO:∀ρ as ρ',ma ρ=some (as,ρ')->as.length=n):SE X (.Call (.Name x p) (e::es) [] pos) (cM F ma):=by
 obtain⟨f,fdd,ps,G0,h1,h2,h3⟩:=fd.ex;refine ha.el λt pa sa=>?_
 refine⟨_,Ol G0 (hr.mono hk) hg h1 h2 h3 .nil tW pa hdb he hpl,λB G H σ ρ d ρ' Q I hm kk=>?_⟩;refine aZ hm λas ρ1 e1 hm=>?_
 refine aP hm λr e2 hm=>?_
 refine sa B G H σ ρ as ρ1 _ I e1 λG1 H1 vs I1 f1 r1=>?_
 show aX X.K n F (vs++[]) H1 Q E0;rw[qO];refine⟨G1,as,r,e2,AO ρ as ρ1 e1,I1.fz,r1,λG2 H2 v f2 fz2 nw kp rr=>?_⟩;have I2:=I1.grow f2 fz2 nw kp;cases r with
 |val d'=>exists bM hm;exact kk G2 H2 v I2 (f1.trans f2) rr
 |own ds=>
  exists bM hm;obtain⟨l,xs,rfl,g3,h3,r3,b3⟩:=rr;obtain⟨I3,f3,r4⟩:=Gh I2 g3 h3 r3 (I1.there l b3) (I1.own_ne b3 nw kp);exact kk _ H2 _ I3 (f1.trans (f2.trans f3)) r4
 |emp=>exact aG hm
 |two _ _=>exact aG hm
 |tre _=>exact aG hm
 |ptr _=>exact aG hm
 |par _=>exact aG hm
def zjy (fd:FD X.prog X.w X.K X.mg X.base k x (aX X.K n F))(hr:Room k' X.A)(ha:SA X (e::es) ma)(hn:(e::es).length=n:=by rfl)(hk:k<=k':=by decide)(hg:Gl X x:=by rfl)(hdb:(x==("__debug__":Str))=false:=by decide)(he:starEach (e::es) X.env=(false,eval e X.env)::starEach es X.env:=by rfl)(hpl:(backTo pos (starEach es X.env)).any (·.1)=false:=by rfl)(AO:∀ρ as ρ',ma ρ=some (as,ρ')->as.length=n):SO X (.Call (.Name x p) (e::es) [] pos) (Bz F ma):=by
 obtain⟨f,fdd,ps,G0,h1,h2,h3⟩:=fd.ex;refine ha.el λt pa sa=>?_
 refine⟨_,Ol G0 (hr.mono hk) hg h1 h2 h3 .nil tW pa hdb he hpl,λB G H σ ρ d ρ' Q I hm kk=>?_⟩;refine aZ hm λas ρ1 e1 hm=>?_
 refine aP hm λr e2 hm=>?_
 refine sa B G H σ ρ as ρ1 _ I e1 λG1 H1 vs I1 f1 r1=>?_
 show aX X.K n F (vs++[]) H1 Q E0;rw[qO];refine⟨G1,as,r,e2,AO ρ as ρ1 e1,I1.fz,r1,λG2 H2 v f2 fz2 nw kp rr=>?_⟩;have I2:=I1.grow f2 fz2 nw kp;cases r with
 |val d'=>exact aG hm
 |own ds=>
  exists bM hm;obtain⟨l,xs,rfl,g3,h3,r3,b3⟩:=rr;exact kk G2 H2 l xs I2 (f1.trans f2) g3 h3 r3 (I1.there l b3) (I1.own_ne b3 nw kp)
 |emp=>exact aG hm
 |two _ _=>exact aG hm
 |tre _=>exact aG hm
 |ptr _=>exact aG hm
 |par _=>exact aG hm
end
def yU (ma:MA)(n:Nat):Prop:=∀ρ as ρ',ma ρ=some (as,ρ')->as.length=n
def bD:yU aB 0:=λρ as ρ' h=>by exists bM h;rfl
def aQ {m:ME}(h:yU r n):yU (aE m r) (n+1):=λρ as ρ' e=>by
 refine aZ e λd ρ1 _ h2=>?_
 refine iM h2 λds ρ2 e3 e4=>?_
 cases e4;rw[eS,h ρ1 ds ρ2 e3]
def dI (F:AA D->AA D->AB (Sl×AA D))(j:Nat)(ma:MA):ME:=λρ=>if(ρ[j]?.bind Sl.items).isSome then(ma ρ).bind λp=>p.2[j]?.bind λs=>s.items.bind λcs=>(F cs p.1).bind λr=>match r.1 with
 | .val d=>some (d,p.2.set j (s.put r.2))
 | .own ds=>some (.lst ds,p.2.set j (s.put r.2))
 |_=>none else none
theorem SI.growW {K:AF}(I:SI K B G H σ ρ)(e:ρ[j]? =some s)(q:s.items=some cs)(hl:σ[j]? =some (some (.ref l)))(f:Fz G G')(fz:Fz G' H')(nw:∀b o,G' b=some o->G b≠none\/H b=none)(kp:∀b o,b≠l->H b=some o->H' b=some o)(gl:G' l=none)(hl':H' l=some (.lst ys))(r:RepL K G' ys out):SI K B G' H' σ (ρ.set j (s.put out)):=
 I.chgW e q hl fz f nw kp gl hl' r
theorem SI.own_neW {K:AF}(I:SI K B G H σ ρ)(e:ρ[j]? =some s)(q:s.items=some cs)(hl:σ[j]? =some (some (.ref l)))(hp:H p=none)(nw:∀b o,G' b=some o->G b≠none\/H b=none)(kp:∀b o,b≠l->H b=some o->H' b=some o):Nw K G' H' σ (ρ.set j (s.put out)) p:=λi t et w=>by
 obtain⟨l',xs,e1,e2,e3,e4⟩:=I.wr e q;rw[hl]at e1;cases e1;have hpl:p≠l:=λz=>by rw[z,e3]at hp;cases hp
 by_cases z:i=j
 ·subst z;rw[jR,if_pos rfl]at et
  split at et
  ·cases et;have:=(kM (zgu q out)).mp w;rw[hl]at this;exact hpl (V.ref.inj (Option.some.inj (Option.some.inj this))).symm
  ·cases et
 ·rw[iD (Ne.symm z)]at et;have sl:=I.slot i t et;refine(sl.own (sl.back (λa w g h=>?_) w)).2.1 hp;have na:a≠l:=λw'=>by subst w';exact I.dis i j t s a z et e w ((kM q).mpr hl)
  obtain⟨u,hu⟩:=qbC.mp h;refine⟨?_,(kp a u na hu).trans hu.symm⟩;cases q2:G' a with
  |none=>rfl
  |some u=>
   rcases nw a u q2 with z|z
   ·exact AH g z
   ·exact AH z h
section
variable {X:Cx}{x y:Str}{p py pos:Pos}{es:AA AI}{ma:MA}{k k' n:Nat}{F:AA D->AA D->AB (Sl×AA D)}
def qG {t:TA}{Q:VK}(sa:∀B G H σ ρ ds ρ' (Q:AA V->Hp->Prop),SI X.K B G H σ ρ->ma ρ=some (ds,ρ')->(∀G' H' vs,SI X.K B G' H' σ ρ'->Fz G G'->RepL X.K G' vs ds->Q vs H')->t σ H Q)(AO:∀ρ as ρ',ma ρ=some (as,ρ')->as.length+1=n)(I:SI X.K B G H σ ρ)(h0:ρ[j]?.bind Sl.items=some ds0)(e1:ma ρ=some (as,ρ1)){s:Sl}(e2:ρ1[j]? =some s){cs:AA D}(e3:s.items=some cs){out:AA D}(e4:F cs as=some (r,out))(kk:∀G' H' v,SI X.K B G' H' σ (ρ1.set j (s.put out))->Fz G G'->True->(∃H1,ResF X.K G' H' H1 v r/\(∀b,H1 b=none->B.H b=none)/\∀b,H1 b=none->Nw X.K G' H' σ (ρ1.set j (s.put out)) b)->Q v H'):
  Ce (gH X.K n F) [] E0 (Cd (Vv j) t) σ H Q:=by
 obtain⟨s0,k0,q0⟩:=uF h0;obtain⟨l,xs0,h1,h2,h3,h4⟩:=I.wr k0 q0;refine⟨.ref l,h1,sa B G H σ ρ as ρ1 _ I e1 λG1 H1 vs I1 f1 r1=>?_⟩;show gH X.K n F ((.ref l::vs)++[]) H1 Q E0;rw[qO];obtain⟨l',xs,m1,m2,m3,m4⟩:=I1.wr e2 e3;rw[h1]at m1;cases m1;refine⟨G1,l,xs,cs,vs,as,r,out,rfl,e4,AO ρ as ρ1 e1,I1.fz,m2,m3,m4,r1,λG2 H2 v ys f2 fz2 nw kp gl hl r2 rr=>?_⟩;exact kk G2 H2 v (I1.growW e2 e3 h1 f2 fz2 nw kp gl hl r2) (f1.trans f2) trivial ⟨H1,rr,λb hb=>I1.there b hb,λb hb=>I1.own_neW e2 e3 h1 hb nw kp⟩
def eJ (j:Nat)(fd:FD X.prog X.w X.K X.mg X.base k x (gH X.K n F))(hr:Room k' X.A)(ha:SA X es ma)(AO:∀ρ as ρ',ma ρ=some (as,ρ')->as.length+1=n)(hN:X.N[j]? =some y:=by rfl)(hv:dP X.env.scope y:=by trivial)(hd:(y==("__debug__":Str))=false:=by decide)(hcd:(y==("__classdict__":Str))=false:=by decide)(hk:k<=k':=by decide)(hg:Gl X x:=by rfl)(hdb:(x==("__debug__":Str))=false:=by decide)(he:starEach (.Name y py::es) X.env=(false,eval (.Name y py) X.env)::starEach es X.env:=by rfl)(hpl:(backTo pos (starEach es X.env)).any (·.1)=false:=by rfl):SE X (.Call (.Name x p) (.Name y py::es) [] pos) (dI F j ma):=by
 obtain⟨f,fdd,ps,G0,h1,h2,h3⟩:=fd.ex;refine ha.el λt pa sa=>?_
 refine⟨_,Ol G0 (hr.mono hk) hg h1 h2 h3 .nil tW (iG (eI hN hv hd hcd) pa he) hdb he hpl,λB G H σ ρ d ρ' Q I hm kk=>?_⟩;unfold dI at hm;refine aT hm λhso hm=>?_
 ·skip
  obtain⟨ds0,hso⟩:=qa0.mp hso;refine aZ hm λas ρ1 e1 hm=>?_
  refine aP hm λs e2 hm=>?_
  refine aP hm λcs e3 hm=>?_
  refine aZ hm λr out e4 hm=>?_
  refine qG sa AO I hso e1 e2 e3 e4 λG' H' v I' f' _ ⟨H1,rr,bb,nn⟩=>?_
  cases r with
  |val d'=>exists bM hm;exact kk G' H' v I' f' rr
  |own ds=>
   exists bM hm;obtain⟨l,xs,rfl,g3,h3,r3,b3⟩:=rr;obtain⟨I3,f3,r4⟩:=Gh I' g3 h3 r3 (bb l b3) (nn l b3);exact kk _ H' _ I3 (f'.trans f3) r4
  |emp=>exact aG hm
  |two _ _=>exact aG hm
  |tre _=>exact aG hm
  |ptr _=>exact aG hm
  |par _=>exact aG hm
end
def mU (env:Env)(cs:AA (Str×AD))(x:Str×NameKind):AA (Str×AD):=if x.2== .free then(x.1,(env.cells.lookup x.1).getD 0)::cs else cs
def fV (scope:Scope)(env:Env):AA (Str×AD):=scope.names.foldl (mU env) []
def zha:∀(names:AA (Str×NameKind)) (cs:AA (Str×AD)),(∀y∈names,y.2= .free->∃c,env.cells.lookup y.1=some c)->
  (forIn names cs (λx r=>if x.2==NameKind.free then do let a<-cellOf env x.1;pure (ForInStep.yield ((x.1,a)::r))else pure (ForInStep.yield r)):Sem (AA (Str×AD)))=pure (names.foldl (mU env) cs)
 |[],cs,_=>rfl
 |(n,k)::r,cs,h=>by
  have ih:=λcs'=>zha r cs' (λy hy=>h y (gE _ hy))
  rw[Vm,qbx]
  by_cases hk:(k==NameKind.free)=true
  ·obtain⟨c,hc⟩:=h (n,k) iW (~~~hk);have e:mU env cs (n,k)=(n,c)::cs:=by unfold mU;simp[hk,hc]
   rw[e,<-ih];simp only[hk,if_true];unfold cellOf;simp only at hc;rw[hc]
   rfl
  ·have e:mU env cs (n,k)=cs:=by unfold mU;simp[hk]
   rw[e,<-ih];simp only[hk]
   rfl
def zmV {env:Env}(h:∀y∈scope.names,y.2= .free->∃c,env.cells.lookup y.1=some c):closureFor scope env=pure (fV scope env):=by
 unfold closureFor fV;have e:=zha (env:=env) scope.names [] h;simp only[bind_pure];exact e
def zcV {c:AD}:∀{names:AA (Str×NameKind)} {cs:AA (Str×AD)},(∀y∈names,y.2= .free->∃c,env.cells.lookup y.1=some c)->(cs.lookup x=some c->env.cells.lookup x=some c)->
  (names.foldl (mU env) cs).lookup x=some c->env.cells.lookup x=some c
 |[],cs,_,h0,h=>h0 h
 |(n,k)::r,cs,hn,h0,h=>by
  rw[qbx]at h;refine zcV (names:=r) (λy hy=>hn y (gE _ hy)) ?_ h;intro q;unfold mU at q
  split at q
  ·rename_i hk;obtain⟨c',hc⟩:=hn (n,k) iW (~~~hk);rw[lB]at q;simp only at hc
   by_cases z:(x==n)=true
   ·rw[z]at q;have zz:x=n:= ~~~z
    subst zz;simp only[hc,Nv]at q;rw[hc];exact q
   ·have z':(x==n)=false:= ~~~z
    rw[z']at q;exact h0 q
  ·exact h0 q
def zeo:∀{names:AA (Str×NameKind)} {cs:AA (Str×AD)},((x,NameKind.free)∈names\/(cs.lookup x).isSome=true)->((names.foldl (mU env) cs).lookup x).isSome=true
 |[],cs,h=>by
  rcases h with h|h
  ·simp at h
  ·exact h
 |(n,k)::r,cs,h=>by
  rw[qbx];refine zeo (names:=r) ?_;rcases h with h|h
  ·rcases qaq.mp h with h|h
   ·cases h;refine .inr ?_;unfold mU;simp
   ·exact .inl h
  ·refine .inr ?_;unfold mU
   split
   ·rw[lB]
    by_cases z:(x==n)=true
    ·rw[z];rfl
    ·have z':(x==n)=false:= ~~~z
     rw[z'];exact h
   ·exact h
def ziA {c:AD}:∀{names:AA (Str×NameKind)} {n:Nat} {acc:AA (Str×AD)},(cellsFrom n names acc).lookup x=some c->(n<=c/\(x,NameKind.cell)∈names)\/acc.lookup x=some c
 |[],n,acc,h=> .inr h
 |(m,k)::r,n,acc,h=>by
  unfold cellsFrom at h
  split at h
  ·rename_i hk;have hk':k= .cell:= ~~~hk
   subst hk';rcases ziA h with⟨h1,h2⟩|h1
   ·exact .inl ⟨Nat.le_of_succ_le h1,gE _ h2⟩
   ·rw[lB]at h1;cases q:x==m with
    |true=>
     rw[q]at h1;cases h1;rw[qaQ.mp q];exact .inl ⟨aY _,iW⟩
    |false=>rw[q]at h1;exact .inr h1
  ·rcases ziA h with⟨h1,h2⟩|h1
   ·exact .inl ⟨h1,gE _ h2⟩
   ·exact .inr h1
def Zw:∀{names:AA (Str×NameKind)} {n:Nat} {acc:AA (Str×AD)},(x,NameKind.cell)∉names->(cellsFrom n names acc).lookup x=acc.lookup x
 |[],n,acc,_=>rfl
 |(m,k)::r,n,acc,h=>by
  unfold cellsFrom
  split
  ·rename_i hk;have hk':k= .cell:= ~~~hk
   subst hk';rw[Zw λz=>h (gE _ z),lB];cases q:x==m with
   |true=>exact AH (by rw[qaQ.mp q];exact iW) h
   |false=>rfl
  ·exact Zw λz=>h (gE _ z)
def zmp:∀{names:AA (Str×NameKind)} {n:Nat} {acc:AA (Str×AD)},(x,NameKind.cell)∈names->∃c,(cellsFrom n names acc).lookup x=some c/\n<=c
 |(m,k)::r,n,acc,h=>by
  unfold cellsFrom
  by_cases hr:(x,NameKind.cell)∈r
  ·split
   ·obtain⟨c,h1,h2⟩:=zmp (n:=n+1) (acc:=(m,n)::acc) hr;exact⟨c,h1,Nat.le_of_succ_le h2⟩
   ·exact zmp hr
  ·rcases qaq.mp h with e|e
   ·cases e;rw[if_pos (qbV _),Zw hr,lB,qbV];exact⟨n,rfl,aY _⟩
   ·exact AH e hr
def zn9:∀{names:AA (Str×NameKind)} {n:Nat} {acc:AA (Str×AD)},(∀x c,acc.lookup x=some c->c<n)->(∀x y c,acc.lookup x=some c->acc.lookup y=some c->x=y)->
  ∀x y c,(cellsFrom n names acc).lookup x=some c->(cellsFrom n names acc).lookup y=some c->x=y
 |[],n,acc,_,hi=>hi
 |(m,k)::r,n,acc,hl,hi=>by
  unfold cellsFrom
  split
  ·refine zn9 (λx c h=>?_) (λx y c h1 h2=>?_)
   ·rw[lB]at h;cases q:x==m with
    |true=>rw[q]at h;cases h;exact Ot _
    |false=>rw[q]at h;exact Sf (hl x c h)
   ·rw[lB]at h1 h2;cases q:x==m with
    |true=>
     rw[q]at h1;cases h1;cases q2:y==m with
     |true=>rw[qaQ.mp q,qaQ.mp q2]
     |false=>rw[q2]at h2;exact AH (hl y n h2) (mY _)
    |false=>
     rw[q]at h1;cases q2:y==m with
     |true=>rw[q2]at h2;cases h2;exact AH (hl x n h1) (mY _)
     |false=>rw[q2]at h2;exact hi x y c h1 h2
  ·exact zn9 hl hi
def zlG:∀{names:AA (Str×NameKind)} {h:AK} {acc:AA (Str×AD)},(∀x c,acc.lookup x=some c->∃v,h.IsCell c v)->∀x c,(cellsFrom h.objs.size names acc).lookup x=some c->∃v,(pushCells h names).IsCell c v
 |[],h,acc,ha=>ha
 |(m,k)::r,h,acc,ha=>by
  unfold cellsFrom pushCells
  split
  ·intro x c e;rw[<-lX h {cls:= .type "cell",data:= .cell none}]at e;refine zlG (λy d q=>?_) x c e;rw[lB]at q;cases z:y==m with
   |true=>rw[z]at q;cases q;exact⟨none,_,dO _ rfl,rfl⟩
   |false=>
    rw[z]at q;obtain⟨v,hv⟩:=ha y d q;exact⟨v,hv.keeps λb o e=>bP _ e⟩
  ·exact zlG ha
def zlx {s:AE}{Q:Env->AE->Prop}(hQ : ∀ h' : AK, h'.Ns s⁻¹ (λ_ => none) -> (∀ a o, s.heap.get? a = some o -> h'.get? a = some o) ->
   ((∀x c,cl.lookup x=some c->∃v,s.heap.IsCell c v)->∀x c,(cellsFrom (s⁻¹+1) scope.names cl).lookup x=some c->∃v,h'.IsCell c v)->
   Q (newEnv scope s⁻¹ globals (cellsFrom (s⁻¹+1) scope.names cl) qual none .none (some env) builtinsNs) {s with heap:=h'}):
  AG M A (newFunctionEnv scope globals cl [] qual none .none (some env)) Q E s:=by
 simp only[newFunctionEnv,Option.isSome_some,if_true];refine aJ (wpAny_alloc ?_);refine aJ (wpAny_layCells _ (λname kind cells=>by cases hkc:kind==NameKind.cell<;>simp[hkc]) _ _ _ _ ?_)
 rw[show({s with heap:=s.heap.push {cls:= .type "dict",data:= .dict #[]}}:AE)⁻¹=s⁻¹+1 from lX ..];refine aJ ?_;rw[Xl];refine qaF (qaF (hQ _ ((Heap.Ns.new s.heap (.type "dict")).keeps (pushCells_keeps _ _)) (λa o e=>pushCells_keeps _ _ a o (bP _ e)) λhc x c e=>?_));rw[<-lX s.heap {cls:= .type "dict",data:= .dict #[]}]at e;refine zlG (λy d q=>?_) x c e;obtain⟨v,hv⟩:=hc y d q;exact⟨v,hv.keeps λb o e=>bP _ e⟩
def Nu (scope:Scope)(env:Env)(C:AD):AA (Str×AD):=cellsFrom (C+1) scope.names (fV scope env)
def Jt (scope:Scope)(x:Str):Bool:=match scope.names.lookup x with
 |some .cell=>true
 |_=>false
def cF (X:Cx)(N:AA Str)(scope:Scope)(C:AD)(s:AE)(H:Hp)(fp:AA AD):Cx:=
 {X with N:=N,s₀:=s,H₀:=H,env:=compEnvC scope (Nu scope X.env C) C X.env,outer:=X.stack,ex:=fp,fn:=Jt scope,pn:=[],xe:=λ_ _=>False}
structure BlkOk (X:Cx)(scope:Scope):Prop where
 kind:scope.kind= .function
 uniq:∀y∈scope.names,scope.names.lookup y.1=some y.2
 free:∀y∈scope.names,y.2= .free->X.env.kindOf y.1=some .cell\/X.env.kindOf y.1=some .free
def zeR {α:Type}{v:α}:∀{l:AA (Str×α)},l.lookup x=some v->(x,v)∈l
 |[],h=>by simp at h
 |(n,w)::r,h=>by
  rw[lB]at h
  by_cases z:(x==n)=true
  ·rw[z]at h;have zz:x=n:= ~~~z
   subst zz;cases h;exact iW
  ·have z':(x==n)=false:= ~~~z
   rw[z']at h;exact gE _ (zeR h)
def zcT {env:Env}{x:Str}:∀{names:AA (Str×NameKind)},(names.map λ(n,k)=>if(k==NameKind.free&&env.scope.kind== .function&&env.kindOf n==some .cell)then(n,NameKind.cell)else(n,k)).lookup x=
  (names.lookup x).map λk=>if(k==NameKind.free&&env.scope.kind== .function&&env.kindOf x==some .cell)then NameKind.cell else k
 |[]=>rfl
 |(n,k)::r=>by
  have ih:=zcT (env:=env) (x:=x) (names:=r);show List.lookup x ((if(k==NameKind.free&&env.scope.kind== .function&&env.kindOf n==some .cell)=true then(n,NameKind.cell)else(n,k))::_)=_;cases hx:x==n with
  |true=>
   have zz:x=n:= ~~~hx
   by_cases hc:(k==NameKind.free&&env.scope.kind== .function&&env.kindOf n==some .cell)=true
   ·rw[if_pos hc];simp only[lB,hx,Ex];rw[zz,if_pos hc]
   ·rw[if_neg hc];simp only[lB,hx,Ex];rw[zz,if_neg hc]
  |false=>
   by_cases hc:(k==NameKind.free&&env.scope.kind== .function&&env.kindOf n==some .cell)=true
   ·rw[if_pos hc];simp only[lB,hx];exact ih
   ·rw[if_neg hc];simp only[lB,hx];exact ih
section
variable {X:Cx}{AM:AA (AD×Obj)}{σ:St}{H:Hp}{s:AE}{scope:Scope}{N:AA Str}{fp:AA AD}{C:AD}
def ziy (I:Inv X AM σ H s)(b:BlkOk X scope):∀y∈scope.names,y.2= .free->∃c,X.env.cells.lookup y.1=some c:=λy hy hf=>I.ok.has y.1 (b.free y hy hf)
def zF (h:(relabel scope X.env).names.lookup x=some .cell\/(relabel scope X.env).names.lookup x=some .free):(x,NameKind.free)∈scope.names\/(x,NameKind.cell)∈scope.names:=by
 have e:(relabel scope X.env).names.lookup x=(scope.names.lookup x).map λk=>if(k==NameKind.free&&X.env.scope.kind== .function&&X.env.kindOf x==some .cell)then NameKind.cell else k:=zcT
 rw[e]at h;cases q:scope.names.lookup x with
 |none=>rw[q]at h;simp at h
 |some k=>
  have hm:=zeR q
  by_cases hk:k= .free
  ·subst hk;exact .inl hm
  ·rw[q]at h;have hkf:(k==NameKind.free)=false:= ~~~hk
   simp only[Ex,hkf,Bool.false_and,tN,dG,Option.some.injEq]at h;rcases h with h|h
   ·subst h;exact .inr hm
   ·exact AH h hk
def Yf (I:Inv X AM σ H s)(b:BlkOk X scope){c:AD}(h:(fV scope X.env).lookup x=some c):X.env.cells.lookup x=some c:=zcV (ziy I b) (by simp) h
def zgW (I:Inv X AM σ H s)(b:BlkOk X scope){c:AD}(h:(Nu scope X.env C).lookup x=some c):C<c\/X.env.cells.lookup x=some c:=by
 rcases ziA h with⟨h1,_⟩|h1
 ·exact .inl h1
 ·exact .inr (Yf I b h1)
def zl3 (b:BlkOk X scope)(h:(x,NameKind.free)∈scope.names):(Nu scope X.env C).lookup x=(fV scope X.env).lookup x:=Zw λz=>by
 have h1:=b.uniq _ h;have h2:=b.uniq _ z;simp only at h1 h2;rw[h1]at h2;cases h2
def La (I:Inv X AM σ H s)(b:BlkOk X scope)(hC:s⁻¹<=C)(hf:∀b∈fp,dC X AM H b)(hfC:∀b∈fp,b<C):(cF X N scope C s H fp).Ok where
 mod:=I.ok.mod
 kind:=b.kind
 glob:=I.ok.glob
 blt:=I.ok.blt
 above:=hC
 inj:=zn9 (λx c h=>by
  obtain⟨v,hv⟩:=I.cell x c (Yf I b h);exact Sf (iJ hv.lt hC)) λx y c h1 h2=>I.ok.inj x y c (Yf I b h1) (Yf I b h2)
 has:=λx hx=>by
  rcases zF (x:=x) hx with hm|hm
  ·show ∃c,(Nu scope X.env C).lookup x=some c;rw[zl3 b hm];exact qa0.mp (zeo (.inl hm))
  ·obtain⟨c,h,_⟩:=zmp (n:=C+1) (acc:=fV scope X.env) hm;exact⟨c,h⟩
 cab:=λx c h e=>by
  have h':Jt scope x=true:=h;unfold Jt at h'
  split at h'
  ·rename_i q;obtain⟨c',h1,h2⟩:=zmp (n:=C+1) (acc:=fV scope X.env) (zeR q);have e':some c'=some c:=h1.symm.trans e;cases e';exact bO hC (Nat.le_of_succ_le h2)
  ·cases h'
 hd:=I.ok.hd
 frames:=I.ok.frames
 stk:= .inl rfl
 exf:=λa ha=>⟨eT (hfC a ha),λx c e z=>by
  rcases zgW I b e with q|q
  ·exact Nat.lt_asymm q (z ▸ hfC a ha)
  ·exact(hf a ha).2.2.2.2.1 x c q z⟩
 bs:=I.bs
 bsz:=bO I.ok.bsz I.sz
 noex:=λa o e ha=>by
  rcases(hf a ha).2.2.2.1 with z|z
  ·exact I.ok.noex a o e z
  ·exact AH (iJ (cK e) (bO I.ok.bsz z)) (mY _)
 exfs:=λa ha hs=>by
  rcases qaq.mp (I.stkSub a hs)with z|z
  ·exact(hf a ha).2.1 z
  ·exact(hf a ha).2.2.1 z
 funs:=I.stack
 frf:=I.stkFree
theorem zon {tk:Nat}(I:Inv X AM σ H s)(b:BlkOk X scope)(hf:∀b∈fp,dC X AM H b)(hfs:∀b∈fp,b<s⁻¹)(hns:h'.Ns s⁻¹ (λ_=>none))(hk:∀a o,s.heap.get? a=some o->h'.get? a=some o)(hcl:∀x c,(Nu scope X.env s⁻¹).lookup x=some c->∃v,h'.IsCell c v)(hl:σc.length=N.length)(hσ:∀(i:Nat) (x:Str) (v:V),N[i]? =some x->σc[i]? =some (some v)->(x,NameKind.free)∈scope.names/\∃j:Nat,X.N[j]? =some x/\σ[j]? =some (some v))(hloc:∀(i:Nat) (x:Str) (v:V),N[i]? =some x->σc[i]? =some (some v)->¬(relabel scope X.env).names.lookup x=some .local):
  Inv (cF X N scope s⁻¹ s H fp) [] σc H {s with heap:=h',toks:=tk}:=by
 have ok:=La (N:=N) I b (aY _) hf hfs;refine⟨ok,rfl,I.bare,Un.kept hk,⟨_,hns,λi x v h1 h2 h3=>?_⟩,λx c e=>?_,I.hok.fresh (aY _),λx c e=>?_,λp hp=>AH (show p∈([]:AA (AD×Obj))from hp) (by simp),I.hok.kept hk,hl⟩
 ·obtain⟨hm,j,hj,hv⟩:=hσ i x v h1 h2;have hkind:=b.free _ hm rfl;obtain⟨m,hn,hloc'⟩:=I.loc;have hvis:dP X.env.scope x:=by
   rcases hkind with z|z
   ·exact .inr (.inl z)
   ·exact .inr (.inr z)
  obtain⟨u,ru,lk⟩:=hloc' j x v hj hv hvis;refine⟨u,ru,?_⟩;rcases lk with⟨z,_⟩|⟨_,c,ec,hc⟩
  ·exfalso;rcases hkind with w|w<;>simp only at w<;>rw[z]at w<;>cases w
  ·refine .inr ⟨?_,c,?_,?_⟩
   ·rcases h3 with z|z|z
    ·exact AH z (hloc i x v h1 h2)
    ·exact .inl z
    ·exact .inr z
   ·have hs:((fV scope X.env).lookup x).isSome=true:=zeo (.inl hm);obtain⟨c',ec'⟩:=qa0.mp hs;have:=zcV (ziy I b) (by simp) ec';rw[ec]at this;cases this;exact(zl3 b hm).trans ec'
   ·obtain⟨o,ho,hd⟩:=hc;exact⟨o,hk _ _ ho,hd⟩
 ·exact hcl x c e
 ·rcases zgW I b e with q|q
  ·exact I.hok.fresh (kY q)
  ·exact I.freeC x c q
def znK {h':AK}(I:Inv X AM σ H s)(hf:∀b∈fp,dC X AM H b)(J:Inv (cF X N scope s⁻¹ s H fp) [] σc H' s1)(hs:Heap.SameBut s⁻¹ s1.heap h'):Inv X AM σ H' {s1 with heap:=h'}:=by
 have kp:∀a o,a≠s⁻¹->s1.heap.get? a=some o->h'.get? a=some o:=λa o ha e=>hs.extBut a o ha e
 have free:H' s⁻¹=none:=J.free;have ntr:∀a u,H' a=some u->a≠s⁻¹:=λa u e z=>by rw[z,free]at e;exact aG e
 have lt:∀a o,s.heap.get? a=some o->a≠s⁻¹:=λa o e=>eT (cK e)
 have u:Un (frs X.stack) fp H H' s.heap s1.heap:=J.base;have u':Un (frs X.stack) fp H H' s.heap h':=by
  refine⟨λa o e n hb hx=>kp a o (lt a o e) (u.keep a o e n hb hx),λa o e n hb hx=>?_,u.free,λa o e hx=>?_,u.tups,u.frzs,u.tbls⟩
  ·obtain⟨sl,q⟩:=u.slot a o e n hb hx;exact⟨sl,kp a _ (lt a o e) q⟩
  ·obtain⟨o',q⟩:=u.there a o e hx;exact⟨o',kp a _ (lt a o e) q⟩
 have hok:HOk X.prog X.w H' h':=λa o e=>(J.hok a o e).stay (λc v hc q=>by
  refine kp c v ?_ q;rcases hc with rfl|hc
  ·exact ntr _ _ e
  ·exact ntr _ _ hc) (λ_ q=>q) λ_ _ q=>q
 obtain⟨hh,g,d,t,os'⟩:=s1;have os:os'=s.os:=J.os;subst os;have z:=I.call (h':=h') (g':=g) (d':=d) (t':=t) (ch:=fp) u' hok J.bare (λa ha=>⟨(hf a ha).2.2.2.1,(hf a ha).2.1,(hf a ha).2.2.2.2.1,(hf a ha).2.2.2.2.2⟩);exact z
end
def Pj (X:Cx)(ifs:AA AI)(t:TT):Prop:=∀(AM:AA (AD×Obj)) (s:AE) (σ:St) (H:Hp) (Q:Bool->Hp->Prop),Inv X AM σ H s->t σ H Q->
 AG (model X.prog X.w) X.A (forIn ifs true λc r=>if r=true then do let ok<-isTrue c X.env (eval c X.env);pure (ForInStep.yield ok)else pure (ForInStep.yield r)) (TP X AM σ Q) X.xe s
def yL:Pj X [] (λ_ H Q=>Q true H):=λAM s σ H Q I h=>wpAny_tests_nil ⟨H,I,h⟩
def Am {c:AI}{t:TT}(h:PT X c t):Pj X [c] t:=λAM s σ H Q I hw=>wpAny_tests_one (h AM s σ H Q I hw)
def zlP {R:Result->AE->Prop}{s:AE}{it:AC}(I:Nat->AE->Prop)(turn : ∀ n s, I n s -> AG (model prog w) A (pyNext it) (λr s₁ => match r with
   |none=>R (.ok .next) s₁
   | some v => AG (model prog w) A (letOwnedTupleGo target it v) (λ_ s₁' => AG (model prog w) A (assign target env v) (λ_ s₂ =>
     AG (model prog w) A (forIn ifs true λc r=>if r=true then do let ok<-isTrue c env (eval c env);pure (ForInStep.yield ok)else pure (ForInStep.yield r)) (λok s₃=>
      if ok=true then AG (model prog w) A (eval elt env) (λx s₄=>
       AG (model prog w) A (call (.builtin "list.append") [acc,x]) (λ_ s₅=>∃m,m<n/\I m s₅) (λ_ _=>False) s₄) (λ_ _=>False) s₃
      else ∃m,m<n/\I m s₃) (λ_ _=>False) s₂) (λ_ _=>False) s₁') (λ_ _=>False) s₁) (λ_ _=>False) s)(n:Nat)(h:I n s):codeAny (model prog w) A (.compLoop (.ListComp elt [⟨target,iter,ifs,0⟩] scope pos) 0 it acc env) R s:=by
 refine codeAny_loop rfl I (λn s hI=>?_) n h;show AG _ A ((compTurn (.ListComp elt [⟨target,iter,ifs,0⟩] scope pos) 0 it acc env).onRaise (λx=>do noteFrame x env;theTreesLotGoes x)) _ _ s;refine wpAny_noted ?_;rw[compTurn_list];have no:∀{E:AC->AE->Prop},∀x s',(λ(_:AC) (_:AE)=>False) x s'->E x s':=λ_ _ z=>z.elim
 refine aJ (Zb (aJ (jT (turn n s hI) (λr s₁ h₁=>?_) no)));cases r with
 |none=>exact qaF h₁
 |some v=>
  refine aJ (jT h₁ (λ_ s₁' h₁'=>?_) no);refine aJ (jT h₁' (λ_ s₂ h₂=>aJ (jT h₂ (λok s₃ h₃=>?_) no)) no);cases ok with
  |false=>exact qaF ⟨rfl,h₃⟩
  |true=>
   exact aJ (aJ (jT h₃ (λx s₄ h₄=>aJ (jT h₄ (λ_ s₅ h₅=>qaF (qaF ⟨rfl,h₅⟩)) no)) no))
def Yr (σ0:St->St)(wi:TI)(g:AD->AE->Hp->AA AD->TG)(tt:AD->AE->Hp->AA AD->TT)(te:AD->AE->Hp->AA AD->TE):TE:=λσ H Q=>wi σ H λJ H1=>∀D,H1 D=none->∃W:Nat->Nat->St->Hp->Prop,(∃m,W 0 m (σ0 σ) (upd H1 D (.lst [])))/\∀i m σ H,W i m σ H->
 (J.stop i H /\ Q (.ref D) H) \/ (J.go i H /\ ∀ C s₀ H₀ fp x H', J.yld i H x H' -> g C s₀ H₀ fp x σ H' λσ2 H2 => tt C s₀ H₀ fp σ2 H2 λok H3 => if ok = true then te C s₀ H₀ fp σ2 H3 λv H4 => ∃ xs, H4 D = some (.lst xs) /\ xs.length < sizeLine /\ ∃ m', m' < m /\ W (i + 1) m' σ2 (upd H4 D (.lst (xs ++ [v])))
  else ∃m',m'<m/\W (i+1) m' σ2 H3)
section
variable {X:Cx}{elt iter tg:AI}{ifs:AA AI}{scope:Scope}{pos:Pos}{N:AA Str}{σ0:St->St}{wi:TI}{g:AD->AE->Hp->AA AD->TG}{tt:AD->AE->Hp->AA AD->TT}{te:AD->AE->Hp->AA AD->TE}
structure Cap (X:Cx)(scope:Scope)(N:List Str)(σ0:St->St):Prop where
 len:∀σ,(σ0 σ).length=N.length
 src:∀(σ:St) (i:Nat) (x:Str) (v:V),N[i]? =some x->(σ0 σ)[i]? =some (some v)->(x,NameKind.free)∈scope.names/\∃j:Nat,X.N[j]? =some x/\σ[j]? =some (some v)
 loc:∀(σ:St) (i:Nat) (x:Str) (v:V),N[i]? =some x->(σ0 σ)[i]? =some (some v)->¬(relabel scope X.env).names.lookup x=some .local
theorem znJ {E:AC->AE->Prop}(hc:X.calm=true)(b:BlkOk X scope)(cap:Cap X scope N σ0)(hi:PI X tg iter wi)(hg:∀C s H fp,PG (cF X N scope C s H fp) tg (g C s H fp))(ht:∀C s H fp,Pj (cF X N scope C s H fp) ifs (tt C s H fp))(he:∀C s H fp,PE (cF X N scope C s H fp) elt (te C s H fp)){AM:AA (AD×Obj)}{s:AE}{σ:St}{H:Hp}{Q:VK}(I:Inv X AM σ H s)(h:Yr σ0 wi g tt te σ H Q){QQ:AC->AE->Prop}{p0:Pos}(hs:∀x,foldedSetIterable iter X.env x=pure x)(fin : match use with
   |none=>∀u s',EP X AM σ Q u s'->QQ u s'
   |some f=>∀(D:AD) (fp:AA AD) (C:AD) (H1 H':Hp) (σc:St) (s1 s':AE),Inv X AM σ H1 s1->(∀b∈fp,dC X AM H1 b)->C=s1⁻¹->Inv (cF X N scope C s1 H1 fp) [] σc H' s'->Q (.ref D) H'->
     AG (model X.prog X.w) X.A (f (.ref D)) (λ_ s''=>∃m,s''.heap.Ns C m/\∀h',Heap.SameBut C s''.heap h'->QQ .none {s'' with heap:=h'}) X.xe s'):
  AG (model X.prog X.w) X.A (comprehension (.ListComp elt [⟨tg,iter,ifs,0⟩] scope pos) scope X.env p0 (newList []) false (eval iter X.env) use) QQ X.xe s:=by
 refine wpAny_comprehension_free (cl:=fV scope X.env) (g:=⟨tg,iter,ifs,0⟩) (gs:=[]) rfl hs (zmV (ziy I b)) b.kind (λx hx hl=>hl ▸ b.uniq x hx) ?_;refine aS (hi AM s σ H _ I h) λv s1 h1=>aS h1 λitv s2 h2=>?_
 obtain⟨it,fp,tn,J,H2,e,I2,T,st2,f2,h3⟩:=h2;subst e;refine tE ?_ (by show(0:Nat)<=sizeLine;exact gK _);have hD:H2 s2⁻¹=none:=I2.fresh;obtain⟨W,⟨m0,w0⟩,turn⟩:=h3 _ hD;have I3:Inv X AM σ (upd H2 s2⁻¹ (.lst [])) {s2 with heap:=s2.heap.push {cls:= .type "list",data:= .seq ([]:AA AC).toArray}}:=I2.lnew (t':=s2.toks) .nil (gK _);have f3:∀b∈fp,dC X AM (upd H2 s2⁻¹ (.lst [])) b:=λb hb=>by
  obtain⟨a1,a2⟩:=f2 b hb;obtain⟨o,ho,_⟩:=T.obj _ _ st2 b hb;exact⟨by rw[aW (eT (cK ho))];exact a1,a2⟩
 have st3:tn 0 (s2.heap.push {cls:= .type "list",data:= .seq ([]:AA AC).toArray}):=T.keep _ _ _ st2 λb hb o e=>bP _ e
 generalize hs3:({s2 with heap:=s2.heap.push {cls:= .type "list",data:= .seq ([]:AA AC).toArray}}:AE)=s3 at I3
 have hs3':s3.heap=s2.heap.push {cls:= .type "list",data:= .seq ([]:AA AC).toArray}:=by rw[<-hs3]
 rw[<-hs3']at st3;have hfs:∀b∈fp,b<s3⁻¹:=λb hb=>by
  obtain⟨o,ho,_⟩:=T.obj _ _ st3 b hb;exact cK ho
 show AG _ _ (newFunctionEnv scope X.env.globals (fV scope X.env) [] X.env.qual none .none (some X.env)) _ _ s3;refine zlx λh' hns hk hcl=>?_
 have hcl:=hcl λx c e=>I3.cell x c (Yf I3 b e)
 generalize hDD:s2⁻¹=DD at*
 have B0:Inv (cF X N scope s3⁻¹ s3 (upd H2 DD (.lst [])) fp) [] (σ0 σ) (upd H2 DD (.lst [])) {s3 with heap:=h'}:=
  zon (tk:=s3.toks) I3 b f3 hfs hns hk hcl (cap.len σ) (cap.src σ) (cap.loc σ)
 have stat:∀{H':Hp},(∀b∈fp,H' b=none)->∀b∈fp,dC (cF X N scope s3⁻¹ s3 (upd H2 DD (.lst [])) fp) [] H' b:=λhn b' hb=>by
  refine⟨hn b' hb,eT (hfs b' hb),λz=>?_,.inl hb,λx c e=>?_,λp hp=>AH (show p∈([]:AA (AD×Obj))from hp) (by simp)⟩
  ·rcases qaq.mp (I3.stkSub b' z)with w|w
   ·exact(f3 b' hb).2.1 w
   ·exact(f3 b' hb).2.2.1 w
  ·intro z;rcases zgW I3 b e with q|q
   ·exact Nat.lt_asymm q (z ▸ hfs b' hb)
   ·exact(f3 b' hb).2.2.2.2.1 x c q z
 have tn0:tn 0 h':=T.keep _ _ _ st3 λb' hb o e=>hk b' o e
 have post:∀(s':AE) (σc:St) (H':Hp),Inv (cF X N scope s3⁻¹ s3 (upd H2 DD (.lst [])) fp) [] σc H' s'->Q (.ref DD) H'->compPost (model X.prog X.w) X.A X.xe use QQ (.ref DD) s3⁻¹ (.ok .next) s':=λs' σc H' J' q=>by
  cases use with
  |none=>
   obtain⟨m,hn,_⟩:=J'.loc;exact⟨m,hn,λh'' hs''=>fin _ _ ⟨.ref DD,H',znK I3 f3 J' hs'',rfl,q⟩⟩
  |some f=>exact fin DD fp _ _ H' σc s3 s' I3 f3 rfl J' q
 have loop:codeAny (model X.prog X.w) X.A (.compLoop (.ListComp elt [⟨tg,iter,ifs,0⟩] scope pos) 0 (.ref it) (.ref DD) (compEnvC scope (Nu scope X.env s3⁻¹) s3⁻¹ X.env)) (compPost (model X.prog X.w) X.A X.xe use QQ (.ref DD) s3⁻¹) {s3 with heap:=h'}:=by
  refine zlP (λn s'=>∃i σ' H',Inv (cF X N scope s3⁻¹ s3 (upd H2 DD (.lst [])) fp) [] σ' H' s'/\tn i s'.heap/\(∀b∈fp,H' b=none)/\W i n σ' H') ?_ m0 ⟨0,σ0 σ,_,B0,tn0,λb' hb=>(f3 b' hb).1,w0⟩;rintro n s5 ⟨i,σ5,H5,I5,st5,fr5,w5⟩;rcases turn i n σ5 H5 w5 with⟨stop,qn⟩|⟨go,step⟩
  ·refine aS (T.done (cF X N scope s3⁻¹ s3 (upd H2 DD (.lst [])) fp) rfl rfl rfl hc i [] s5 σ5 H5 (λ_ _=>False) I5 (stat fr5) st5 stop) λr s6 ⟨hr,I6⟩=>?_
   subst hr;exact post s6 σ5 H5 I6 qn
  ·refine aS (T.item (cF X N scope s3⁻¹ s3 (upd H2 DD (.lst [])) fp) rfl rfl rfl hc i [] s5 σ5 H5 (λ_ _=>False) I5 (stat fr5) st5 go) λr s6 ⟨u,hr,h6⟩=>?_
   subst hr;refine aS h6 λ_ s7 ⟨x,H7,I7,r7,y7,st7,fr7⟩=>?_
   have I7':=I7.pinned (stat fr7) (T.obj _ _ st7);have again:∀{σ8:St} {H8:Hp} {s8:AE} {m':Nat},Inv (cF X N scope s3⁻¹ s3 (upd H2 DD (.lst [])) fp) ([]++Wb fp s7.heap) σ8 H8 s8->m'<n->W (i+1) m' σ8 H8->
     ∃m,m<n/\∃i σ' H',Inv (cF X N scope s3⁻¹ s3 (upd H2 DD (.lst [])) fp) [] σ' H' s8/\tn i s8.heap/\(∀b∈fp,H' b=none)/\W i m σ' H':=λ{σ8 H8 s8 m'} I8 hm w8=>by
    refine⟨m',hm,i+1,σ8,H8,I8.unpinned,T.keep _ _ _ st7 λb' hb o e=>(I8.pin (b',o) (hV _ (hV _ (zeT hb e)))).1,λb' hb=>?_,w8⟩;obtain⟨o,e,d⟩:=T.obj _ _ st7 b' hb;exact(I8.pin (b',o) (hV _ (hV _ (zeT hb e)))).2.1
   refine aS (hg _ _ _ _ _ s7 σ5 H7 x u _ I7' r7 (step _ _ _ _ x H7 y7)) λ_ s8 ⟨σ8,H8,I8,q8⟩=>?_
   refine aS (ht _ _ _ _ _ s8 σ8 H8 _ I8 q8) λok s9 ⟨H9,I9,q9⟩=>?_
   cases ok with
   |false=>
    obtain⟨m',hm,w9⟩:=q9;exact again I9 hm w9
   |true=>
    refine aS (he _ _ _ _ _ s9 σ8 H9 _ I9 q9) λu10 s10 ⟨v10,H10,I10,r10,xs,hx,hz,m',hm,w10⟩=>?_
    refine aS (zkZ _ s10 σ8 H10 (.ref DD) [v10] (.ref DD) [u10] (λv H'=>v= .non/\H'=upd H10 DD (.lst (xs++[v10]))) I10 rfl (.cons r10 .nil) ⟨DD,xs,v10,rfl,rfl,hx,hz,rfl,rfl⟩) λ_ s11 ⟨_,H11,I11,_,_,e11⟩=>?_
    subst e11;exact again I11 hm w10
 exact codeAny_compStart_list loop (T.self _ _ _ _ _ tn0 loop)
def Du (hc:X.calm=true)(b:BlkOk X scope)(cap:Cap X scope N σ0)(hi:PI X tg iter wi)(hg:∀C s H fp,PG (cF X N scope C s H fp) tg (g C s H fp))(ht:∀C s H fp,Pj (cF X N scope C s H fp) ifs (tt C s H fp))(he:∀C s H fp,PE (cF X N scope C s H fp) elt (te C s H fp))(hs:∀x,foldedSetIterable iter X.env x=pure x:=by exactλ_=>rfl):PE X (.ListComp elt [⟨tg,iter,ifs,0⟩] scope pos) (Yr σ0 wi g tt te):=by
  intro AM s σ H Q I h;rw[eval_ListComp];exact znJ (use:=none) (E:=X.xe) hc b cap hi hg ht he I h hs (λu s' q=>q)
end
def hX (ρ:R):Bool:=ρ.all λs=>match s with
 | .own _=>false
 | .par _=>false
 | .tre _=>false
 | .ptr _=>false
 |_=>true
theorem zmc (h:hX ρ=true){K:AF}{a:AD}(e:ρ[i]? =some s):¬bR K G H ov a s:=λw=>by
 unfold hX at h;rw[qbZ]at h;have:=h s (dY e);cases s with
 |emp=>exact w
 |two _ _=>exact w
 |val d=>exact w
 |_=>exact AH (show false=true from this) fY
def zho (h:hX ρ=true)(e:ρ[i]? =some s):(∀t,s≠ .tre t)/\∀t,s≠ .ptr t:=by
 unfold hX at h;rw[qbZ]at h;have:=h s (dY e)
 constructor
 ·rintro t rfl;exact AH (show false=true from this) fY
 ·rintro t rfl;exact AH (show false=true from this) fY
def Zs (h:hX ρ=true):¬Wr ρ i:=λ⟨s,ds,e,q⟩=>by
 unfold hX at h;rw[qbZ]at h;have:=h s (dY e);cases s with
 |emp=>exact aG q
 |two _ _=>exact aG q
 |tre _=>exact aG q
 |ptr _=>exact aG q
 |val d=>exact aG q
 |own d=>exact AH (show false=true from this) fY
 |par d=>exact AH (show false=true from this) fY
structure VS (K:W.Frag)(G:Hp)(σ:St)(ρ:R):Prop where
 len:σ.length=ρ.length
 no:hX ρ=true
 val:∀(i:Nat) d,ρ[i]? =some (.val d)->∃v,σ[i]? =some (some v)/\RepD K G v d
theorem VS.si {K:AF}(h:VS K G σ ρ)(fz:Fz G H):SI K ⟨G,H,[]⟩ G H σ ρ where
 fz:=fz
 g0:=Fz.refl G
 new:=λb o e=> .inl (by show G b≠none;rw[e];simp)
 keep:=λb o e _=>e
 there:=λb e=>e
 ob:=λi b m=>by cases m
 len:=h.len
 slot:=λi s e=>by
  cases s with
  |emp=>trivial
  |two _ _=>trivial
  |tre t=>exact AH rfl ((zho h.no e).1 t)
  |ptr t=>exact AH rfl ((zho h.no e).2 t)
  |val d=>exact h.val i d e
  |own ds=>exact AH ⟨_,ds,e,rfl⟩ (Zs h.no (i:=i))
  |par ds=>exact AH ⟨_,ds,e,rfl⟩ (Zs h.no (i:=i))
 dis:=λi j s _ a _ e _ w=>AH w (zmc h.no e)
theorem VS.of {K:AF}(I:SI K B G H σ ρ)(h:hX ρ=true):VS K G σ ρ:=⟨I.len,h,λi d e=>I.slot i _ e⟩
def fz1 (i:Nat)(ρ:R):R:=match ρ[i]? with
 |some (.own ds)=>ρ.set i (.val (.lst ds))
 |_=>ρ
def fzL:AA Nat->R->R
 |[],ρ=>ρ
 |i::is,ρ=>fzL is (fz1 i ρ)
theorem SI.fz1 {K:AF}(I:SI K B G H σ ρ)(i:Nat):∃G',SI K B G' H σ (M.fz1 i ρ)/\Fz G G':=by
 unfold M.fz1;cases e:ρ[i]? with
 |none=>exact⟨G,I,Fz.refl G⟩
 |some s=>
  cases s with
  |own ds=>obtain⟨l,xs,_,f,_,I'⟩:=I.freeze e;exact⟨_,I',f⟩
  |emp=>exact⟨G,I,Fz.refl G⟩
  |two _ _=>exact⟨G,I,Fz.refl G⟩
  |tre _=>exact⟨G,I,Fz.refl G⟩
  |ptr _=>exact⟨G,I,Fz.refl G⟩
  |val _=>exact⟨G,I,Fz.refl G⟩
  |par _=>exact⟨G,I,Fz.refl G⟩
theorem SI.fzL {K:AF}:∀(is:AA Nat) {G:Hp} {ρ:R},SI K B G H σ ρ->∃G',SI K B G' H σ (M.fzL is ρ)/\Fz G G'
 |[],G,ρ,I=>⟨G,I,Fz.refl G⟩
 |i::is,G,ρ,I=>by
  obtain⟨G1,I1,f1⟩:=I.fz1 i;obtain⟨G2,I2,f2⟩:=SI.fzL is I1;exact⟨G2,I2,f1.trans f2⟩
def jJ (ρ:R)(i:Nat):Sl:=match ρ[i]? with
 |some (.val d)=> .val d
 |_=> .emp
def znu (ρ:R)(i:Nat):jJ ρ i= .emp\/∃d,jJ ρ i= .val d:=by
 unfold jJ
 split
 ·exact .inr ⟨_,rfl⟩
 ·exact .inl rfl
def eY (cap:AA Nat)(t:Nat)(ρ:R):R:=cap.map (jJ ρ)++List.replicate t .emp
def cU (cap:AA Nat)(t:Nat)(σ:St):St:=cap.map (λi=>(σ[i]?).join)++List.replicate t none
theorem qZ {K:AF}(I:SI K B G H σ ρ)(cap:AA Nat)(t:Nat):VS K G (cU cap t σ) (eY cap t ρ) where
 len:=by unfold cU eY;simp
 no:=by
  unfold hX eY;rw[qbZ];intro s hs;rcases qar.mp hs with h|h
  ·obtain⟨i,_,rfl⟩:=qb0.mp h;rcases znu ρ i with e|⟨d,e⟩
   ·rw[e]
   ·rw[e]
  ·rw[List.eq_of_mem_replicate h]
 val:=λi d e=>by
  unfold eY at e
  by_cases hi:i<cap.length
  ·rw[fT (~~~hi),cR,bA hi]at e;have e':jJ ρ cap[i]= .val d:= ~~~e
   unfold jJ at e'
   split at e'
   ·rename_i d' q;cases e';obtain⟨v,h1,h2⟩:=I.slot _ _ q;refine⟨v,?_,h2⟩;unfold cU;rw[fT (~~~hi),cR,bA hi];simp[h1]
   ·cases e'
  ·rw[pI (~~~hi),Ei]at e
   split at e
   ·cases e
   ·exact aG e
def gO (f:D->R->AB (AB D×R)):AA D->R->AB (AA D×R)
 |[],ρ=>some ([],ρ)
 |d::ds,ρ=>(f d ρ).bind λp=>(gO f ds p.2).map λq=>(p.1.toList++q.1,q.2)
def kC (g:D->R->AB R)(mt:MT)(me:ME):D->R->AB (AB D×R):=λd ρ=>(g d ρ).bind λρ1=>(mt ρ1).bind λp=>if p.1 then(me p.2).bind λq=>if hX q.2 then some (some q.1,q.2)else none else if hX p.2 then some (none,p.2)else none
def cT (cap:AA Nat)(t:Nat)(mi:MA)(g:D->R->AB R)(mt:MT)(me:ME):MO:=λρ=>(mi ρ).bind λp=>if p.1.length<=16777216 then(gO (kC g mt me) p.1 (eY cap t (fzL cap p.2))).map λq=>(q.1,fzL cap p.2)else none
def Xf (X:Cx)(ifs:AA AI)(m:MT)(t:TT):Prop:=∀B G H σ ρ d ρ' (Q:Bool->Hp->Prop),SI X.K B G H σ ρ->m ρ=some (d,ρ')->(∀G' H',SI X.K B G' H' σ ρ'->Fz G G'->Q d H')->t σ H Q
def Dk (X:Cx)(ifs:AA AI)(m:MT):Prop:=∃t,Pj X ifs t/\Xf X ifs m t
def fA:MT:=λρ=>some (true,ρ)
def fQ:Dk X [] fA:=⟨_,yL,λB G H σ ρ d ρ' Q I hm k=>by exists bM hm;exact k G H I (Fz.refl G)⟩
def vY {c:AI}{m:MT}(h:STt X c m):Dk X [c] m:=h.el λt p s=>⟨t,Am p,s⟩
def jB (env:Env)(scope:Scope):Bool:=(scope.names.all λx=>scope.names.lookup x.1==some x.2&&(x.2 != .free||(env.kindOf x.1==some .cell||env.kindOf x.1==some .free)))
def Th (hk:scope.kind= .function)(h:jB X.env scope=true):BlkOk X scope:=by
 unfold jB at h;rw[qbZ]at h;refine⟨hk,λx hx=>?_,λx hx hf=>?_⟩
 ·have:=h x hx;simp only[cD,Pg,qbL,qaQ]at this;exact this.1
 ·have:=h x hx;simp only[cD,Pg,qbL,qaQ]at this;exact(this.2).resolve_left (λz=>z hf)
def jL (names:AA (Str×NameKind))(N XN:AA Str)(cap:AA Nat)(t:Nat):Bool:=N.length==cap.length+t&&(cap.zip N).all λp=>XN[p.1]? ==some p.2&&names.lookup p.2==some .free
def Wx (h:jL scope.names N X.N cap t=true):Cap X scope N (cU cap t):=by
 unfold jL at h;rw[cD,qbZ]at h;obtain⟨hl,h⟩:=h;have hl:N.length=cap.length+t:= ~~~hl
 have key:∀σ i x v,N[i]? =some x->(cU cap t σ)[i]? =some (some v)->∃j,cap[i]? =some j/\σ[j]? =some (some v)/\X.N[j]? =some x/\scope.names.lookup x=some .free:=λσ i x v h1 h2=>by
  unfold cU at h2
  by_cases hi:i<cap.length
  ·rw[fT (~~~hi),cR,bA hi]at h2;have h3:(σ[cap[i]]?).join=some v:= ~~~h2
   have hz:(cap[i],x)∈cap.zip N:=by
    refine dY (i:=i) ?_;rw[qb1];exact⟨bA hi,h1⟩
   have:=h _ hz;simp only[cD,qaQ]at this;refine⟨cap[i],bA hi,?_,this.1,this.2⟩;cases q:σ[cap[i]]? with
   |none=>rw[q]at h3;exact aG h3
   |some o=>rw[q]at h3;rw[show o=some v from h3]
  ·rw[pI (~~~hi),Ei]at h2
   split at h2<;>cases h2
 refine⟨λσ=>by unfold cU;simp[hl],λσ i x v h1 h2=>?_,λσ i x v h1 h2 z=>?_⟩
 ·obtain⟨j,_,a,b,c⟩:=key σ i x v h1 h2;exact⟨zeR c,j,b,a⟩
 ·obtain⟨j,_,a,b,c⟩:=key σ i x v h1 h2;have e:(relabel scope X.env).names.lookup x=(scope.names.lookup x).map λk=>if(k==NameKind.free&&X.env.scope.kind== .function&&X.env.kindOf x==some .cell)then NameKind.cell else k:=zcT
  rw[e,c]at z;simp only[Ex,Option.some.injEq]at z
  split at z<;>cases z
def jS (ok:R->Bool)(g:D->R->AB R)(mt:MT)(me:ME):D->R->AB (AB D×R):=λd ρ=>(g d ρ).bind λρ1=>(mt ρ1).bind λp=>if p.1 then(me p.2).bind λq=>if ok q.2 then some (some q.1,q.2)else none else if ok p.2 then some (none,p.2)else none
theorem Wj {α β:Type}{a c:α}{b d:β}(h:some (a,b)=some (c,d))(k:a=c->b=d->C):C:=k (bM h).1 (bM h).2
theorem pT {ok:R->Bool}{mt:MT}{me:ME}(h:jS ok g mt me d ρ=some (o,ρ'))(k:∀ρ1 b ρ2,g d ρ=some ρ1->mt ρ1=some (b,ρ2)->((b=true/\∃dv,me ρ2=some (dv,ρ')/\o=some dv)\/(b=false/\o=none/\ρ2=ρ'))->ok ρ'=true->C):C:=by
 unfold jS at h;refine aP h λρ1 e1 h=>aZ h λb ρ2 e2 h=>?_
 cases b with
 |true=>exact aZ h λdv ρ3 e3 h=>aT h λz h=>Wj h λq1 q2=>by subst q2;exact k ρ1 _ ρ2 e1 e2 (.inl ⟨rfl,dv,e3,q1.symm⟩) z
 |false=>exact aT h λz h=>Wj h λq1 q2=>by subst q2;exact k ρ1 _ ρ2 e1 e2 (.inr ⟨rfl,q1.symm,rfl⟩) z
def zmU {d:D}(h:gO f (d::ds) ρ=some (out,ρ'))(k:∀o ρ1 rest,f d ρ=some (o,ρ1)->gO f ds ρ1=some (rest,ρ')->out=o.toList++rest->C):C:=by
 simp only[gO]at h;exact aZ h λo ρ1 e1 h=>iM h λrest ρ2 e2 h=>by
  exists Prod.mk.inj h;exact k o ρ1 rest e1 e2 rfl
structure LcG (K:W.Frag)(O:List (Nat×Addr))(G2 H1:Hp)(DD:Addr)(Hc Gc:Hp)(xs:List V):Prop where
 fc:Fz G2 Gc
 fcH:Fz Gc Hc
 nw:∀b o,Gc b=some o->G2 b≠none\/H1 b=none
 kp:∀b o,(∀i,(i,b)∉O)->H1 b=some o->Hc b=some o
 gD:Gc DD=none
 hDc:Hc DD=some (.lst xs)
def none_of (h:∀o,H b=some o->False):H b=none:=by
 cases q:H b with
 |none=>rfl
 |some u=>exact(h u q).elim
theorem LcG.next {K:AF}{G2 H1:Hp}(J:LcG K O G2 H1 DD Hc Gc xs)(hO:∀i,(i,DD)∉O){σ':St}(I:SI K ⟨Gc,Hc,O⟩ G' H' σ' ρ'):LcG K O G2 H1 DD H' G' xs where
 fc:=J.fc.trans I.g0
 fcH:=I.fz
 nw:=λb o e=>(I.new b o e).elim (λh=>by
  cases q:Gc b with
  |none=>exact AH q h
  |some u=>exact J.nw b u q) λh=> .inr (none_of λu q=>Classical.byCases (p:=∀i,(i,b)∉O) (λn=>aG ((show Hc b=none from h).symm.trans (J.kp b u n q))) λn=>n λi m=>I.ob i b m h)
 kp:=λb o n e=>I.keep b o (J.kp b o n e) n
 gD:=none_of λu q=>(I.new DD u q).elim (λh=>h J.gD) λh=>aG ((show Hc DD=none from h).symm.trans J.hDc)
 hDc:=I.keep DD _ J.hDc hO
theorem LcG.put {K:AF}{G2 H1:Hp}(J:LcG K O G2 H1 DD Hc Gc xs)(hD:H1 DD=none)(ys:AA V):LcG K O G2 H1 DD (upd Hc DD (.lst ys)) Gc ys where
 fc:=J.fc
 fcH:=J.fcH.right J.gD _
 nw:=J.nw
 kp:=λb o n e=>(aW (kP e hD)).trans (J.kp b o n e)
 gD:=J.gD
 hDc:=cW
section
variable {X:Cx}{elt iter tg:AI}{ifs:AA AI}{scope:Scope}{pos:Pos}{N:AA Str}{cap:AA Nat}{t:Nat}{mi:MA}{g:D->R->AB R}{mt:MT}{me:ME}
structure LcB (X:Cx)(scope:Scope)(N:List Str)(elt tg:Expr)(ifs:List Expr)(g:D->R->Option R)(mt:MT)(me:ME)(tg':Addr->Shared->Hp->List Addr->TG)(tt:Addr->Shared->Hp->List Addr->TT)(te:Addr->Shared->Hp->List Addr->TE):Prop where
 sg:∀C s H fp,SGb (cF X N scope C s H fp) tg g (tg' C s H fp)
 st:∀C s H fp,Xf (cF X N scope C s H fp) ifs mt (tt C s H fp)
 se:∀C s H fp,SEb (cF X N scope C s H fp) elt me (te C s H fp)
def LcW (σs:St)(J:It)(DD:AD)(H1:Hp)(tg':AD->AE->Hp->AA AD->TG)(tt:AD->AE->Hp->AA AD->TT)(te:AD->AE->Hp->AA AD->TE)(Q:VK):Prop:=∃W:Nat->Nat->St->Hp->Prop,(∃m,W 0 m σs (upd H1 DD (.lst [])))/\∀i m σ H,W i m σ H->
 (J.stop i H /\ Q (.ref DD) H) \/ (J.go i H /\ ∀ C s₀ H₀ fp x H', J.yld i H x H' -> tg' C s₀ H₀ fp x σ H' λσ2 H2 => tt C s₀ H₀ fp σ2 H2 λok H3 => if ok = true then te C s₀ H₀ fp σ2 H3 λv H4 => ∃ xs, H4 DD = some (.lst xs) /\ xs.length < sizeLine /\ ∃ m', m' < m /\ W (i + 1) m' σ2 (upd H4 DD (.lst (xs ++ [v])))
  else ∃m',m'<m/\W (i+1) m' σ2 H3)
def zk6 (blk:LcB X scope N elt tg ifs g mt me tg' tt te){Q:VK}(IT:Itm X.K J G1 items)(f2:Fz G1 G2)(fH:Fz G2 H1)(hD:H1 DD=none)(AO:items.length<=16777216)(hO:∀i,(i,DD)∉O)(jsi:∀G H σ ρ,JJ G H σ ρ->Fz G H->SI X.K ⟨G,H,O⟩ G H σ ρ)(joi:∀Gb Hb G H σ ρ,SI X.K ⟨Gb,Hb,O⟩ G H σ ρ->ok ρ=true->JJ G H σ ρ)(jup:∀G H σ ρ xs,JJ G H σ ρ->JJ G (upd H DD (.lst xs)) σ ρ)(j0:JJ G2 H1 σs ρs)(e2:gO (jS ok g mt me) items ρs=some (all,ρf))(k:∀Gc Hc σc xs,LcG X.K O G2 H1 DD Hc Gc xs->RepL X.K Gc xs all->JJ Gc Hc σc ρf->Q (.ref DD) Hc):LcW σs J DD H1 tg' tt te Q:=by
 refine⟨λi m σc Hc=>m=items.length-i/\i<=items.length/\∃Gc ρc acc xs rest,LcG X.K O G2 H1 DD Hc Gc xs/\RepL X.K Gc xs acc/\xs.length<=i/\JJ Gc Hc σc ρc/\gO (jS ok g mt me) (items.drop i) ρc=some (rest,ρf)/\all=acc++rest,
  ⟨items.length,rfl,gK _,G2,ρs,[],[],all,⟨Fz.refl _,fH.right (fH.free hD) _,λb o e=> .inl (by rw[e];exact nofun),λb o _ e=>(aW (kP e hD)).trans e,fH.free hD,cW⟩,.nil,aY _,jup _ _ _ _ _ j0,e2,rfl⟩,?_⟩
 rintro i m σc Hc ⟨rfl,hi,Gc,ρc,acc,xs,rest,J0,ra,hx,jj,ec,eall⟩
 by_cases hlt:i<items.length
 ·refine .inr ⟨IT.go Hc i (f2.trans (J0.fc.trans J0.fcH)) hlt,λC s₀ H₀ fp x H' y=>?_⟩;rw[qbO hlt]at ec;refine zmU ec λo ρ3 rest2 h3 h4 er=>pT h3 λρ5 b ρ6 h5 h6 hb hok=>?_
  have f3':Fz G1 Gc:=f2.trans J0.fc;have yy2:(H'=Hc/\RepD X.K Gc x items[i])\/∃p xs es,Hc p=none/\H'=upd Hc p (.tup xs)/\x= .ref p/\items[i]= .tup es/\RepL X.K Gc xs es:=(IT.yld Hc i x H' (f3'.trans J0.fcH) y items[i] (bA hlt)).imp (λq=>⟨q.1,q.2.mono f3'⟩) λ⟨p,xs,es,a,b,c,d,e⟩=>⟨p,xs,es,a,b,c,d,e.mono f3'⟩
  obtain⟨G3,I3,f3,r3⟩:=(jsi _ _ _ _ jj J0.fcH).yld yy2;refine blk.sg C s₀ H₀ fp _ G3 H' σc ρc x items[i] ρ5 _ I3 r3 h5 λG4 H4 σ4 I4 f4=>blk.st C s₀ H₀ fp _ G4 H4 σ4 ρ5 b ρ6 _ I4 h6 λG5 H5 I5 f5=>?_
  have hlt2:items.length-(i+1)<items.length-i:=∅
  rcases hb with⟨rfl,dv,h7,rfl⟩|⟨rfl,rfl,rfl⟩
  ·refine blk.se C s₀ H₀ fp _ G5 H5 σ4 ρ6 dv _ _ I5 h7 λG6 H6 v I6 f6 r6=>?_
   have J1:=J0.next hO I6;exact⟨xs,J1.hDc,by rw[fX];lia,_,hlt2,rfl,hlt,G6,_,acc++[dv],xs++[v],rest2,J1.put hD _,(ra.mono I6.g0).snoc r6,by rw[iZ,List.length_singleton];lia,jup _ _ _ _ _ (joi _ _ _ _ _ _ I6 hok),h4,by rw[eall,er,qbw];rfl⟩
  ·exact⟨_,hlt2,rfl,hlt,G5,_,acc,xs,rest2,J0.next hO I5,ra.mono I5.g0,∅,joi _ _ _ _ _ _ I5 hok,h4,by rw[eall,er];rfl⟩
 ·have e:i=items.length:=∅
  subst e;rw[List.drop_length]at ec;have hr:=bM ec;obtain⟨q1,q2⟩:=hr;subst q1 q2;rw[qO]at eall;subst eall;exact .inl ⟨IT.stop Hc _ (f2.trans (J0.fc.trans J0.fcH)) (aY _),k Gc Hc σc xs J0 ra jj⟩
theorem zhq (si:yW X tg iter mi wi)(blk:LcB X scope N elt tg ifs g mt me tg' tt te):
  ∀B G H σ ρ ds ρ' (Q:VK),SI X.K B G H σ ρ->cT cap t mi g mt me ρ=some (ds,ρ')->
   (∀G' H' l xs,SI X.K B G' H' σ ρ'->Fz G G'->G' l=none->H' l=some (.lst xs)->RepL X.K G' xs ds->B.H l=none->Nw X.K G' H' σ ρ' l->Q (.ref l) H')->Yr (cU cap t) wi tg' tt te σ H Q:=λB G H σ ρ ds ρ' Q I hm k=>
 aZ hm λitems ρ1 e1 hm=>si B G H σ ρ items ρ1 _ I e1 λJ G1 H1 I1 f1 IT DD hD=>aT hm λAO hm=>iM hm λall ρf e2 e3=>by
  exists Prod.mk.inj e3;obtain⟨G2,I2,f2⟩:=SI.fzL cap I1;exact zk6 blk (O:=[]) (JJ:=λG _ σ ρ=>VS X.K G σ ρ) IT f2 I2.fz hD AO (λi m=>nomatch m) (λG H σ ρ h f=>h.si f) (λ_ _ _ _ _ _ I h=>VS.of I h) (λ_ _ _ _ _ h=>h) (qZ I2 cap t) e2
   λGc Hc σc xs J ra _=>k Gc Hc DD xs (I2.grow J.fc J.fcH J.nw λb o e=>J.kp b o nofun e) (f1.trans (f2.trans J.fc)) J.gD J.hDc ra (I2.there DD hD) (I2.own_ne hD J.nw λb o e=>J.kp b o nofun e)
def LcB.mk' (hg:∀C s H fp,SG (cF X N scope C s H fp) tg g)(ht:∀C s H fp,Dk (cF X N scope C s H fp) ifs mt)(he:∀C s H fp,SE (cF X N scope C s H fp) elt me):LcB X scope N elt tg ifs g mt me (λC s H fp=>(hg C s H fp).choose) (λC s H fp=>(ht C s H fp).choose) (λC s H fp=>(he C s H fp).choose):=⟨λC s H fp=>(hg C s H fp).choose_spec.2,λC s H fp=>(ht C s H fp).choose_spec.2,λC s H fp=>(he C s H fp).choose_spec.2⟩
def fN (cap:AA Nat)(t:Nat)(N:AA Str)(hc:X.calm=true)(hi:SIt X tg iter mi)(hg:∀C s H fp,SG (cF X N scope C s H fp) tg g)(ht:∀C s H fp,Dk (cF X N scope C s H fp) ifs mt)(he:∀C s H fp,SE (cF X N scope C s H fp) elt me)(hk:scope.kind= .function:=by rfl)(hb:jB X.env scope=true:=by kernel_rfl)(hcap:jL scope.names N X.N cap t=true:=by kernel_rfl)(hs:∀x,foldedSetIterable iter X.env x=pure x:=by exactλ_=>rfl):SO X (.ListComp elt [⟨tg,iter,ifs,0⟩] scope pos) (cT cap t mi g mt me):=by
  refine hi.el λwi pi si=>?_
  exact⟨_,Du hc (Th hk hb) (Wx hcap) pi (λC s H fp=>(hg C s H fp).choose_spec.1) (λC s H fp=>(ht C s H fp).choose_spec.1) (λC s H fp=>(he C s H fp).choose_spec.1) hs,
    zhq si (.mk' hg ht he)⟩
end
section
variable {X:Cx}{elt iter tg:AI}{ifs:AA AI}{scope:Scope}{pos lpos pos':Pos}{N:AA Str}{cap:AA Nat}{t:Nat}{mi:MA}{g:D->R->AB R}{mt:MT}{me:ME}
def zjA (hN:X.N.Nodup)(hxi:X.N[i]? =some x)(hx:gG X.env.scope x)(hf:X.fn x=true\/X.env.scope.names.lookup x=some .local)(hsw:swapsWith (.ListComp elt [⟨tg,iter,ifs,0⟩] scope lpos) (some (.Name x pos')) pos.line X.env=pure true)(hc:X.calm=true)(b:BlkOk X scope)(cap:Cap X scope N σ0)(hi:PI X tg iter wi)(hg:∀C s H fp,PG (cF X N scope C s H fp) tg (tg' C s H fp))(ht:∀C s H fp,Pj (cF X N scope C s H fp) ifs (tt C s H fp))(he:∀C s H fp,PE (cF X N scope C s H fp) elt (te C s H fp))(hs:∀x,foldedSetIterable iter X.env x=pure x):PS X (.Assign [.Name x pos'] (.ListComp elt [⟨tg,iter,ifs,0⟩] scope lpos) pos) (λE σ H=>Yr σ0 wi tg' tt te σ H λv H'=>E.nx (σ.set i (some v)) H'):=by
 intro AM s σ H E I h;rw[exec_Assign_Name_used _ _ _ _ hsw];refine aJ (Zb (aJ ?_));show AG _ _ (do let _<-comprehension (.ListComp elt [⟨tg,iter,ifs,0⟩] scope lpos) scope X.env _ (newList []) false (eval iter X.env) (some (assign (.Name x pos') X.env))) _ _ s;refine aJ (aS (znJ (use:=some (assign (.Name x pos') X.env)) (QQ:=λ_ s'=>SP X AM E .next s') (E:=X.xe) hc b cap hi hg ht he I h hs ?_) λ_ s' hq=>qaF (qaF hq));intro D fp C H1 H' σc s1 s' I1 f1 eC J q;subst eC;have I2:Inv X AM σ H' s':=by
  have z:=znK (h':=s'.heap) I1 f1 J (Heap.SameBut.refl _ _);exact z
 obtain⟨m,⟨o,es,ep,ho,hd,hrest⟩,_⟩:=J.loc;have fpk:dC X AM H' s1⁻¹:=I1.fpOk (aY _) J.free;have I3:Inv X (AM++[(s1⁻¹,o)]) σ H' s':=I2.pins_of λp hp=>by
  rcases qar.mp hp with hp|hp
  ·exact I2.pin p (hV _ hp)
  ·have e:p=(s1⁻¹,o):= ~~~hp
   subst e;exact⟨ho,fpk.1,fpk.2.1,fpk.2.2.1,λv z=>by rw[hd]at z;cases z⟩
 refine aS (Yt hN hxi hx hf (AM++[(s1⁻¹,o)]) s' σ H' (.ref D) (.ref D) (λσ2 H2=>E.nx σ2 H2) I3 rfl q) λ_ s'' ⟨σ2,H2,I4,q4⟩=>?_
 have pC:=I4.pin (s1⁻¹,o) (hV _ (hV _ (by simp)));refine⟨m,⟨o,es,ep,pC.1,hd,hrest⟩,λh' hs'=>?_⟩;have I5:Inv X AM σ2 H2 s'':=I4.unpinned;have fp2:dC X AM H2 s1⁻¹:=I1.fpOk (aY _) pC.2.1;have I6:=I5.turned (t':=s''.toks) (h':=h') (it:=s1⁻¹) (λb' o' hb e=>hs'.extBut b' o' hb e) fp2.1 fp2.2.1 fp2.2.2.2.1 fp2.2.2.2.2.1 fp2.2.2.2.2.2;exact⟨σ2,H2,I6,q4⟩
def nN (i:Nat)(cap:AA Nat)(t:Nat)(N:AA Str)(hc:X.calm=true)(hi:SIt X tg iter mi)(hg:∀C s H fp,SG (cF X N scope C s H fp) tg g)(ht:∀C s H fp,Dk (cF X N scope C s H fp) ifs mt)(he:∀C s H fp,SE (cF X N scope C s H fp) elt me)(hN:X.N.Nodup)(hxi:X.N[i]? =some x:=by rfl)(hx:gG X.env.scope x:=by trivial)(hf:X.fn x=true\/X.env.scope.names.lookup x=some .local:=by trivial)(hsw:swapsWith (.ListComp elt [⟨tg,iter,ifs,0⟩] scope lpos) (some (.Name x pos')) pos.line X.env=pure true:=by rfl)(hk:scope.kind= .function:=by rfl)(hb:jB X.env scope=true:=by kernel_rfl)(hcap:jL scope.names N X.N cap t=true:=by kernel_rfl)(hs:∀x,foldedSetIterable iter X.env x=pure x:=by exactλ_=>rfl):SS X (.Assign [.Name x pos'] (.ListComp elt [⟨tg,iter,ifs,0⟩] scope lpos) pos) (jP i (cT cap t mi g mt me)):=by
  refine hi.el λwi pi si=>?_
  refine⟨_,zjA hN hxi hx hf hsw hc (Th hk hb) (Wx hcap) pi (λC s H fp=>(hg C s H fp).choose_spec.1) (λC s H fp=>(ht C s H fp).choose_spec.1) (λC s H fp=>(he C s H fp).choose_spec.1) hs,λB G H σ ρ fl ρ' E I hm k=>?_⟩;refine iM hm λd ρ1 e1 e3=>?_
  exists Prod.mk.inj e3;exact zhq si (.mk' hg ht he) B G H σ ρ d ρ1 _ I e1 λG1 H1 l xs I1 f1 g1 h1 r1 b1 n1=>k G1 H1 _ (I1.setO g1 h1 r1 b1 n1) f1
end
section
variable {X:Cx}{AM:AA (AD×Obj)}{σ:St}{H:Hp}{s:AE}
def Va {A:Around}(hh:A.handled=none)(I:Inv X AM σ H s)(hq:SqL X.K H p ys\/SqT X.K H p ys)(k : ∀ (its : AA AC) (s₂ : AE) (St : Nat -> AK -> Prop), Vals ys its -> Walks X.prog X.w A s⁻¹ [s⁻¹, p] [s⁻¹] its.length (λi v => its[i]? = some v) St -> St 0 s₂.heap -> (∀ b ∈ [s⁻¹, p], b < s₂⁻¹) ->
   (∀h' tk,(∀b o,b∉[s⁻¹]->s₂.heap.get? b=some o->h'.get? b=some o)->Inv X AM σ H {s₂ with heap:=h',toks:=tk})->Q (.ref s⁻¹) s₂):AG (model X.prog X.w) A (pyIter (.ref p)) Q E s:=by
 have fin:∀o,∀h' tk,(∀b o',b∉[s⁻¹]->(s.heap.push o).get? b=some o'->h'.get? b=some o')->Inv X AM σ H {({s with heap:=s.heap.push o}:AE)with heap:=h',toks:=tk}:=λo h' tk hk=>by
  have z:=I.kept (h':=h') (t':=tk) λb o' e=>hk b o' (~~~eT (cK e)) (bP _ e)
  exact z
 rcases hq with hq|hq
 ·obtain⟨its,r,pl,hz⟩:=I.list hq;have hlt:p<s⁻¹:=by obtain⟨_,_,e,_⟩:=pl;exact cK e
  refine wpAny_pyIter_list pl.isList (k its _ (λi h=>h.IsListIter s⁻¹ p i/\h.IsList p its.toArray) r ?_ ⟨⟨_,dO _ rfl,rfl,rfl⟩,pl.isList.push _⟩ (λb hb=>?_) (fin _))
  ·have w:=Walks.list (prog:=X.prog) (w:=X.w) (A:=A) hh s⁻¹ p (eT hlt) its.toArray;simpa using w
  ·show b<(s.heap.push _).objs.size;rw[lX];simp at hb;rcases hb with z|z
   ·rw[z];exact Ot _
   ·rw[z];exact Sf hlt
 ·obtain⟨its,r,pl,hz⟩:=I.tuple hq;have hlt:p<s⁻¹:=pl.lt;refine qbP (show s.heap.IsTuple p its.toArray from pl) (k its _ (λi h=>h.IsTupleIter s⁻¹ p i/\h.IsTuple p its.toArray) r ?_ ⟨⟨_,dO _ rfl,rfl,rfl⟩,(show s.heap.IsTuple p its.toArray from pl).push _⟩ (λb hb=>?_) (fin _))
  ·have w:=Walks.tuple (prog:=X.prog) (w:=X.w) (A:=A) hh s⁻¹ p (eT hlt) its.toArray;simpa using w
  ·show b<(s.heap.push _).objs.size;rw[lX];simp at hb;rcases hb with z|z
   ·rw[z];exact Ot _
   ·rw[z];exact Sf hlt
end
def zi1 (ns:AA Int):∀j,preSum (λi=>ns.getD i 0) j=(ns.take j).sum
 |0=>by simp[preSum]
 |j+1=>by
  rw[preSum,zi1 ns j]
  by_cases h:j<ns.length
  ·rw[qb2 h,List.sum_append];simp[h]
  ·rw[oO ∅,oO ∅];simp[gM (by lia:ns.length<=j)]
def sL (r:Vals (ns.map V.int) its){v:AC}(e:its[i]? =some v):∃t,v= .int (ns.getD i 0) t:=by
 have hl:=r.length;have hi:i<its.length:=(qat.mp e).1;rw[cO]at hl;have e2:(ns.map V.int)[i]? =some (.int ns[i]):=by rw[cR,bA ∅];rfl
 obtain⟨u,h1,t,h2⟩:=r.get e2;rw[e]at h1;cases h1;exact⟨t,by rw[h2];simp[show i<ns.length by lia]⟩
def Re (K:AF):AA V->Hp->VK->Prop:=λxs H Q=>∃(p:AD) (ns:AA Int),xs=[.ref p]/\(SqL K H p (ns.map V.int)\/SqT K H p (ns.map V.int))/\Q (.int ns.sum) H
def zox (hc:X.calm=true):iA X (.builtin "sum") (Re X.K):=by
 intro AM s σ H xs us Q I r h;obtain⟨p,ns,rfl,hq,q⟩:=h;obtain⟨u,rfl,ru⟩:=oU r;cases ru;refine call_sum_walkG (Va (A:=X.A.in1) (I.ok.hd hc) I hq λits s₂ St rv W st hfp fin=>?_);refine⟨_,_,_,_,_,_,λi=>ns.getD i 0,rfl,W,st,hfp,λi v e=>sL rv e,λh' tk t' hk=>⟨.int ns.sum,H,fin h' tk hk,⟨t',?_⟩,q⟩⟩;have hl:=rv.length;rw[cO]at hl;rw[zi1,<-hl,oO (aY _)]
def eG:AA D->AB (AA Int)
 |[]=>some []
 | .int i::ds=>(eG ds).map (i:: ·)
 |_=>none
def Rn:∀{ds:AA D} {ns:AA Int},eG ds=some ns->ds=ns.map .int
 |[],ns,h=>by cases h;rfl
 |d::ds,ns,h=>by
  cases d<;>simp only[eG]at h<;>try exact aG h
  refine bB h λms e1 e2=>?_
  subst e2;rw[Rn e1];rfl
@[simp] theorem intsOf_map:∀(ns:AA Int),eG (ns.map .int)=some ns
 |[]=>rfl
 |n::ns=>by simp[eG,intsOf_map ns]
def rC:AA D->AB D
 |[d]=>(eO [d]).bind λds=>(eG ds).map λns=> .int ns.sum
 |_=>none
theorem zhy {K:AF}(I:SI K B G H σ ρ){x:V}(r:RepD K G x d)(e:eO [d]=some ds):∃p ys,x= .ref p/\(SqL K H p ys\/SqT K H p ys)/\RepL K G ys ds:=by
 cases d<;>simp only[eO]at e<;>try cases e
 ·obtain⟨p,ys,ex,hp,q⟩:=I.lst r;exact⟨p,ys,ex,.inl (SqL.of hp),q⟩
 ·obtain⟨p,ys,ex,hp,q⟩:=I.tup r;exact⟨p,ys,ex,.inr (SqT.of hp),q⟩
 ·obtain⟨p,ex,hp⟩:=r;exact⟨p,_,ex,.inl (I.fz.sql hp),RepL.ints _⟩
theorem Kn:VC X (Re X.K) rC:=by
 intro B G H σ ρ xs ds d Q I r hf k
 match ds,hf with
 |[a],hf=>
  refine aP hf λes e1 hf=>?_
  refine bB hf λns e2 e3=>?_
  subst e3;obtain⟨x,rfl,ra⟩:=r.one;obtain⟨p,ys,rfl,hq,ry⟩:=zhy I ra e1;rw[Rn e2]at ry;rw[RepL.ints_eq ry]at hq;exact⟨p,ns,rfl,hq,k G H _ I (Fz.refl G) rfl⟩
 |[],hf=>exact aG hf
 |_::_::_,hf=>exact aG hf
def qK {p pos:Pos}(hc:X.calm=true)(ml:X.mg "sum"=none)(ha:SA X [e] ma)(hg:Gl X "sum":=by rfl)(he:starEach [e] X.env=(false,eval e X.env)::starEach [] X.env:=by rfl):SE X (.Call (.Name "sum" p) [e] [] pos) (mC rC ma):=
 Bq (zox hc) Kn (by decide+kernel) ml ha hg (by decide) (by decide) he rfl
def uY:AA D->AB (AA Bool)
 |[]=>some []
 | .bl b::ds=>(uY ds).map (b:: ·)
 |_=>none
def zja:∀{ds:AA D} {bs:AA Bool},uY ds=some bs->ds=bs.map .bl
 |[],ns,h=>by cases h;rfl
 |d::ds,ns,h=>by
  cases d<;>simp only[uY]at h<;>try exact aG h
  refine bB h λms e1 e2=>?_
  subst e2;rw[zja e1];rfl
@[simp] theorem boolsOf_map:∀(bs:AA Bool),uY (bs.map .bl)=some bs
 |[]=>rfl
 |n::ns=>by simp[uY,boolsOf_map ns]
theorem RepL.bools_eq {K:AF}:∀{bs:AA Bool} {xs:AA V},RepL K G xs (bs.map D.bl)->xs=bs.map V.bl
 |[],_,e=>e
 |n::ns,_,⟨x,ys,e,q,r⟩=>by subst e;cases(show x=V.bl n from q);rw[RepL.bools_eq r];rfl
theorem zoj {bs:AA Bool}(r:Vals (bs.map V.bl) its){v:AC}(e:its[i]? =some v):∃b,bs[i]? =some b/\v= .bool b:=by
 have hl:=r.length;have hi:i<its.length:=(qat.mp e).1;rw[cO]at hl;have e2:(bs.map V.bl)[i]? =some (.bl bs[i]):=by rw[cR,bA ∅];rfl
 obtain⟨u,h1,h2⟩:=r.get e2;rw[e]at h1;cases h1;exact⟨bs[i],bA ∅,h2⟩
def Ww (K:AF)(f:AA Bool->Bool):AA V->Hp->VK->Prop:=λxs H Q=>∃(p:AD) (bs:AA Bool),xs=[.ref p]/\(SqL K H p (bs.map V.bl)\/SqT K H p (bs.map V.bl))/\Q (.bl (f bs)) H
theorem znD (hc:X.calm=true):iA X (.builtin "all") (Ww X.K λbs=>bs.all id):=by
 intro AM s σ H xs us Q I r h;obtain⟨p,bs,rfl,hq,q⟩:=h;obtain⟨u,rfl,ru⟩:=oU r;cases ru;refine call_all_walk (Va (A:=X.A.in1) (I.ok.hd hc) I hq λits s₂ St rv W st hfp fin=>?_);have hl:=rv.length;rw[cO]at hl;refine⟨_,_,_,_,_,_,λi=>(bs[i]?).getD true,rfl,W,st,λi v s' Q' E' hP hQ=>?_,λh' tk hk=>⟨.bl (bs.all id),H,fin h' tk hk,?_,q⟩⟩
 ·obtain⟨b,e,rfl⟩:=zoj rv hP;simp only[e,Nv]at hQ;exact Nf hQ
 ·rw[<-hl,LSm.range_all];rfl
def rS (f:AA Bool->Bool):AA D->AB D
 |[d]=>(eO [d]).bind λds=>(uY ds).map λbs=> .bl (f bs)
 |_=>none
theorem Gs (f:AA Bool->Bool):VC X (Ww X.K f) (rS f):=by
 intro B G H σ ρ xs ds d Q I r hf k
 match ds,hf with
 |[a],hf=>
  refine aP hf λes e1 hf=>?_
  refine bB hf λns e2 e3=>?_
  subst e3;obtain⟨x,rfl,ra⟩:=r.one;obtain⟨p,ys,rfl,hq,ry⟩:=zhy I ra e1;rw[zja e2]at ry;rw[RepL.bools_eq ry]at hq;exact⟨p,ns,rfl,hq,k G H _ I (Fz.refl G) rfl⟩
 |[],hf=>exact aG hf
 |_::_::_,hf=>exact aG hf
def mW {p pos:Pos}(hc:X.calm=true)(ml:X.mg "all"=none)(ha:SA X [e] ma)(hg:Gl X "all":=by rfl)(he:starEach [e] X.env=(false,eval e X.env)::starEach [] X.env:=by rfl):SE X (.Call (.Name "all" p) [e] [] pos) (mC (rS λbs=>bs.all id) ma):=
 Bq (znD hc) (Gs _) (by decide+kernel) ml ha hg (by decide) (by decide) he rfl
def Ed (g:Int->Int->Int):AA D->AB D
 |[.int i,.int j]=>some (.int (g i j))
 |_=>none
def Cg (g:Int->Int->Int):VC X (λxs H Q=>∃i j,xs=[.int i,.int j]/\Q (.int (g i j)) H) (Ed g):=by
 intro B G H σ ρ xs ds d Q I r hf k;unfold Ed at hf
 split at hf
 ·rename_i i j;cases hf;obtain⟨x,y,rfl,rx,ry⟩:=r.two;cases(show x=V.int i from rx);cases(show y=V.int j from ry);exact⟨i,j,rfl,k G H _ I (Fz.refl G) rfl⟩
 ·exact aG hf
def mK (i j:Int):Int:=if j>i then j else i
def iO (i j:Int):Int:=if j<i then j else i
def zM {p pos:Pos}(hc:X.calm=true)(ml:X.mg "max"=none)(ha:SA X [a,b] ma)(hg:Gl X "max":=by rfl)(he:starEach [a,b] X.env=(false,eval a X.env)::starEach [b] X.env:=by rfl)(hpl:(backTo pos (starEach [b] X.env)).any (·.1)=false:=by rfl):SE X (.Call (.Name "max" p) [a,b] [] pos) (mC (Ed mK) ma):=
 Bq (zoS hc) (Cg mK) (by decide+kernel) ml ha hg (by decide) (by decide) he hpl
def zoV {p pos:Pos}(hc:X.calm=true)(ml:X.mg "min"=none)(ha:SA X [a,b] ma)(hg:Gl X "min":=by rfl)(he:starEach [a,b] X.env=(false,eval a X.env)::starEach [b] X.env:=by rfl)(hpl:(backTo pos (starEach [b] X.env)).any (·.1)=false:=by rfl):SE X (.Call (.Name "min" p) [a,b] [] pos) (mC (Ed iO) ma):=
 Bq (znT hc) (Cg iO) (by decide+kernel) ml ha hg (by decide) (by decide) he hpl
def gS (i:Int):Int:=if i<0 then-i else i
def jH:AA D->AB D
 |[.int i]=>some (.int (gS i))
 |_=>none
def zmE {p pos:Pos}(ml:X.mg "abs"=none)(ha:SA X [a] ma)(hg:Gl X "abs":=by rfl)(he:starEach [a] X.env=(false,eval a X.env)::starEach [] X.env:=by rfl):SE X (.Call (.Name "abs" p) [a] [] pos) (mC jH ma):=
 Bq nO (λB G H σ ρ xs ds d Q I r hf k=>by
  unfold jH at hf
  split at hf
  ·rename_i i;cases hf;obtain⟨x,rfl,rx⟩:=r.one;cases(show x=V.int i from rx);exact⟨i,rfl,k G H _ I (Fz.refl G) rfl⟩
  ·exact aG hf) (by decide+kernel) ml ha hg (by decide) (by decide) he rfl
def bY {α:Type}(xs:AA α)(lo hi:AB Int):AA α:=(xs.drop (HT.sIx xs.length 0 lo)).take (HT.sIx xs.length xs.length hi-HT.sIx xs.length 0 lo)
theorem RepL.cut {K:AF}(h:RepL K G xs ds)(lo hi:AB Int):RepL K G (fU xs lo hi) (bY ds lo hi):=by
 unfold fU bY;rw[h.length];exact(h.drop _).take _
section
variable {prog:AJ}{w:World}{A:Around}{E:AC->AE->Prop}{s:AE}
theorem zfE {t sl:AD}{items:Array AC}{vl vu:AC}{lo hi:AB Int}(ht:IsTup s.heap t items)(hs:s.heap.IsSliceOf sl vl vu .none)(pl:IsPart vl lo)(pu:IsPart vu hi)(hw:HT.sIx items.size 0 lo=0/\HT.sIx items.size items.size hi=items.size)(h:Q (.ref t) s):AG (model prog w) A (getItem (.ref t) (.ref sl)) Q E s:=by
 obtain⟨os,hos,hcs,hds⟩:=id hs;have hTs:s.TypeIs (.ref sl) "slice":=⟨os,hos,hcs⟩;unfold getItem
 try with_reducible refine gV ?_
 first|refine aJ (qaF ?_)|skip
 refine aJ (wpAny_sequenceKey ht.typeIs (by decide) ?_);refine aJ (Fd (name:=Str.ofString "__getitem__") ht.typeIs qbl
  (tY qbl ht.typeIs entry_tuple_getitem ?_ (args_tuple_getitem _ _)))
 show AG _ _ (Builtin.Tuple.tupleItemsOf (.ref t)>>=_) _ _ s;refine aJ (tupleItemsOf_ ht ?_);refine aJ (wpAny_typeOf hTs ?_);rw[if_pos (by decide)];refine aJ (HT.zd5 hs pl pu ?_);have hyes:(((HT.sIx items.size 0 lo:Nat):Int)==0&&(1:Int)==1&&(HT.sIx items.size items.size hi-HT.sIx items.size 0 lo)==items.size)=true:=by
  rw[hw.1,hw.2];simp
 show AG _ _ (if(((HT.sIx items.size 0 lo:Nat):Int)==0&&(1:Int)==1&&(HT.sIx items.size items.size hi-HT.sIx items.size 0 lo)==items.size)=true then _ else _) _ _ s;rw[if_pos hyes];refine aJ (m:=Builtin.Tuple.tupleIsExact _) ?_;unfold Builtin.Tuple.tupleIsExact;refine aJ (wpAny_typeOf ht.typeIs (qaF ?_));rw[if_pos (by decide)];refine aJ (wpAny_rule ?_);exact qaF ⟨_,rfl,qaF h⟩
end
def Rz (K:AF):V->AB Int->AB Int->Hp->VK->Prop:=λx lo hi H Q=>∃a xs,x= .ref a/\SqT K H a xs/\(HT.sIx xs.length 0 lo=0/\HT.sIx xs.length xs.length hi=xs.length)/\Q (.ref a) H
def vB:SlR X (Rz X.K):=by
 intro AM s σ H x v vl vu lo hi sl Q I rx hs pl pu h;obtain⟨a,xs,rfl,hx,hw,q⟩:=h;cases rx;obtain⟨its,r,ht,hz⟩:=I.tuple hx;have AO:its.toArray.size=xs.length:=by rw[bS];exact r.length.symm
 refine⟨"tuple",_,PyProof.Rows.slot_tuple_getitem.lookup,ht.typeIs,?_⟩;exact zfE ht hs pl pu (by rw[AO];exact hw) ⟨.ref a,H,I,rfl,q⟩
abbrev MP:=R->AB (AB Int×R)
def Yq (X:Cx)(e:AB AI)(m:MP)(t:TO):Prop:=∀B G H σ ρ o ρ' (Q:AB Int->Hp->Prop),SI X.K B G H σ ρ->m ρ=some (o,ρ')->(∀G' H',SI X.K B G' H' σ ρ'->Fz G G'->Q o H')->t σ H Q
def SPt (X:Cx)(e:AB AI)(m:MP):Prop:=∃t,PO X e t/\Yq X e m t
def SPt.el {e:AB AI}{m:MP}(h:SPt X e m)(k:∀t,PO X e t->Yq X e m t->C):C:=h.elim λt q=>k t q.1 q.2
def zP:MP:=λρ=>some (none,ρ)
def Bg (m:ME):MP:=λρ=>(m ρ).bind λp=>match p.1 with
 | .int i=>some (some i,p.2)
 |_=>none
def Ik:SPt X none zP:=⟨_,zA,λB G H σ ρ o ρ' Q I hm k=>by exists bM hm;exact k G H I (Fz.refl G)⟩
def Ll {m:ME}(h:SE X e m):SPt X (some e) (Bg m):=by
 refine h.el λt p s=>?_
 refine⟨_,zV p,λB G H σ ρ o ρ' Q I hm k=>?_⟩;refine aZ hm λd ρ1 e1 hm=>?_
 refine s B G H σ ρ d ρ1 _ I e1 λG1 H1 v I1 f1 r1=>?_
 cases d<;>try cases hm
 rename_i i;exact⟨i,r1,k G1 H1 I1 f1⟩
def sF (d:D)(lo hi:AB Int):AB D:=match d with
 | .lst ds=>some (.lst (bY ds lo hi))
 | .tup ds=>some (.tup (bY ds lo hi))
 | .scr ns=>some (.lst ((bY ns lo hi).map .int))
 |_=>none
def gR (ma:ME)(ml mh:MP):ME:=λρ=>(ma ρ).bind λp=>(ml p.2).bind λq=>(mh q.2).bind λr=>(sF p.1 q.1 r.1).map λd=>(d,r.2)
def zn4 (ns:AA Int)(lo hi:AB Int):fU (ns.map V.int) lo hi=(bY ns lo hi).map V.int:=by
 unfold fU bY;rw[cO,<-List.map_drop,<-List.map_take]
theorem Ga {lo hi:AB AI}{ma:ME}{ml mh:MP}{pos p2:Pos}(he:SE X e ma)(hl:SPt X lo ml)(hu:SPt X hi mh):SE X (.Subscript e (.Slice lo hi none p2) pos) (gR ma ml mh):=by
 refine he.el λta pa sa=>?_
 refine hl.el λtl pl sl=>?_
 refine hu.el λth ph sh=>?_
 refine⟨_,tF (sl_list.or (sl_tup.or vB)) pa pl ph,λB G H σ ρ d ρ' Q I hm k=>?_⟩;refine aZ hm λx ρ1 e1 hm=>?_
 refine aZ hm λl ρ2 e2 hm=>?_
 refine aZ hm λu ρ3 e3 hm=>?_
 refine bB hm λc e4 e5=>?_
 exists Prod.mk.inj e5;refine sa B G H σ ρ x ρ1 _ I e1 λG1 H1 v I1 f1 r1=>sl B G1 H1 σ ρ1 l ρ2 _ I1 e2 λG2 H2 I2 f2=>sh B G2 H2 σ ρ2 u ρ3 _ I2 e3 λG3 H3 I3 f3=>?_
 have r3:=r1.mono (f2.trans f3);dsimp only at e4;cases x with
 |exc _=>exact aG e4
 |dic _ _=>exact aG e4
 |dit _ _=>exact aG e4
 |obj _ _ _ _ _=>exact aG e4
 |non=>exact aG e4
 |bl _=>exact aG e4
 |int _=>exact aG e4
 |str _=>exact aG e4
 |lst ds=>
  cases e4;obtain⟨a,xs,rfl,ha,r⟩:=I3.lst r3;refine .inl ⟨a,xs,rfl,SqL.of ha,λp hp=>?_⟩;obtain⟨I4,f4,r4⟩:=I3.newL hp (r.cut l u);exact k _ _ _ I4 (f1.trans (f2.trans (f3.trans f4))) r4
 |tup ds=>
  cases e4;obtain⟨a,xs,rfl,ha,r⟩:=I3.tup r3
  by_cases hw:HT.sIx xs.length 0 l=0/\HT.sIx xs.length xs.length u=xs.length
  ·refine .inr (.inr ⟨a,xs,rfl,SqT.of ha,hw,?_⟩);have e:bY ds l u=ds:=by
    unfold bY;rw[<-r.length,hw.1,hw.2,List.drop_zero,Nat.sub_zero,oO (by rw[r.length];exact aY _)]
   rw[e]at k;exact k G3 H3 _ I3 (f1.trans (f2.trans f3)) r3
  ·refine .inr (.inl ⟨a,xs,rfl,SqT.of ha,hw,λp hp=>?_⟩);obtain⟨I4,f4,r4⟩:=I3.newT hp (r.cut l u);exact k _ _ _ I4 (f1.trans (f2.trans (f3.trans f4))) r4
 |scr ns=>
  cases e4;obtain⟨a,rfl,ha⟩:=r3;refine .inl ⟨a,_,rfl,I3.fz.sql ha,λp hp=>?_⟩;rw[zn4];obtain⟨I4,f4,r4⟩:=I3.newL hp (RepL.ints (bY ns l u));exact k _ _ _ I4 (f1.trans (f2.trans (f3.trans f4))) r4
def dN (h:yU ma n):∀ρ as ρ',ma ρ=some (as,ρ')->as.length+1=n+1:=λρ as ρ' e=>congrArg (· +1) (h ρ as ρ' e)
section
variable {X:Cx}{elt iter tg:AI}{ifs:AA AI}{scope:Scope}{pos lpos pos':Pos}{N:AA Str}{cap:AA Nat}{t:Nat}{mi:MA}{g:D->R->AB R}{mt:MT}{me:ME}
def zgn (i:Nat)(cap:AA Nat)(t:Nat)(N:AA Str)(hc:X.calm=true)(hi:SIt X tg iter mi)(hg:∀C s H fp,SG (cF X N scope C s H fp) tg g)(ht:∀C s H fp,Dk (cF X N scope C s H fp) ifs mt)(he:∀C s H fp,SE (cF X N scope C s H fp) elt me)(hN:X.N.Nodup)(hxi:X.N[i]? =some x:=by rfl)(hx:gG X.env.scope x:=by trivial)(hf:X.fn x=true\/X.env.scope.names.lookup x=some .local:=by trivial)(hsw:swapsWith (.ListComp elt [⟨tg,iter,ifs,0⟩] scope lpos) (some (.Name x pos')) pos.line X.env=pure true:=by rfl)(hk:scope.kind= .function:=by rfl)(hb:jB X.env scope=true:=by kernel_rfl)(hcap:jL scope.names N X.N cap t=true:=by kernel_rfl)(hs:∀x,foldedSetIterable iter X.env x=pure x:=by exactλ_=>rfl):SS X (.Assign [.Name x pos'] (.ListComp elt [⟨tg,iter,ifs,0⟩] scope lpos) pos) (aN i (cE (cT cap t mi g mt me))):=by
  refine hi.el λwi pi si=>?_
  refine⟨_,zjA hN hxi hx hf hsw hc (Th hk hb) (Wx hcap) pi (λC s H fp=>(hg C s H fp).choose_spec.1) (λC s H fp=>(ht C s H fp).choose_spec.1) (λC s H fp=>(he C s H fp).choose_spec.1) hs,λB G H σ ρ fl ρ' E I hm k=>?_⟩;refine iM hm λd ρ1 e1 e3=>?_
  refine iM e1 λds ρ2 e4 e5=>?_
  exists Prod.mk.inj e5;exists Prod.mk.inj e3;refine zhq si (.mk' hg ht he) B G H σ ρ ds ρ2 _ I e4 λG1 H1 l xs I1 f1 g1 h1 r1 b1 n1=>?_
  obtain⟨I2,f2,r2⟩:=Gh I1 g1 h1 r1 b1 n1;exact k _ H1 _ (I2.set r2) (f1.trans f2)
end
def Xm:AA V->Hp->VK->Prop:=λxs H Q=>∃i j,xs=[.int i,.int j]/\∀p,H p=none->Q (.ref p) (upd H p (.rng i j))
def znU:iA X (.type "range") Xm:=by
 intro AM s σ H xs us Q I r h;obtain⟨i,j,rfl,q⟩:=h;obtain⟨u,w',rfl,⟨t,rfl⟩,⟨t',rfl⟩⟩:=mI r;refine call_range_2 ⟨.ref s⁻¹,_,I.laid (o:= .rng i j) (λb o e=>bP _ e) (aY _) ⟨t,t',s.toks,dO _ rfl⟩,rfl,q _ I.fresh⟩
def Su:AA V->Hp->VK->Prop:=λxs H Q=>∃j,xs=[.int j]/\∀p,H p=none->Q (.ref p) (upd H p (.rng 0 j))
def zoF:iA X (.type "range") Su:=by
 intro AM s σ H xs us Q I r h;obtain⟨j,rfl,q⟩:=h;obtain⟨u,rfl,t,rfl⟩:=oU r;refine call_range_1 ⟨.ref s⁻¹,_,I.laid (o:= .rng 0 j) (λb o e=>bP _ e) (aY _) ⟨_,_,_,dO _ rfl⟩,rfl,q _ I.fresh⟩
def Fw:AA V->Hp->VK->Prop:=λxs H Q=>∃p i j,xs=[.ref p]/\H p=some (.rng i j)/\(-(2^62)<=i/\i<2^62/\ -(2^62)<=j/\j<2^62)/\(j-i).toNat<=16777216/\∀l,H l=none->Q (.ref l) (upd H l (.lst ((List.range (j-i).toNat).map λ(k:Nat)=>V.int (i+k))))
theorem ziV (hc:X.calm=true):iA X (.type "list") Fw:=by
 intro AM s σ H xs us Q I r h;obtain⟨p,i,j,rfl,hp,⟨h1,h2,h3,h4⟩,hz,q⟩:=h;obtain⟨u,rfl,ru⟩:=oU r;cases ru;obtain⟨t,t',t'',e⟩:=I.hok p _ hp;refine call_list_range (a:=i) (b:=j) (c:=1) (t:=t) (u:=t') (v:=t'') (n:=(j-i).toNat) (I.ok.hd hc) e (small_one h1 h2 h3 h4) (by rw[rangeSize_one];split<;>lia) ∅ λh' tk acc' c' hk hl ⟨hs1,hs2⟩=>?_
 refine⟨.ref s⁻¹,_,I.laid (h':=h') (t':=tk) (o:= .lst ((List.range (j-i).toNat).map λ(k:Nat)=>V.int (i+k))) hk (aY _) ⟨by rw[cO,Aj,fX];exact hz,acc'.toList,c',?_,~~~hl⟩,rfl,q _ I.fresh⟩;have key:∀(n:Nat) (l:AA AC),l.length=n->(∀k v,l[k]? =some v->∃t,v=Value.int (i+(k:Nat)*1) t)->Vals ((List.range n).map λ(k:Nat)=>V.int (i+k)) l:=by
  intro n
  induction n with
  |zero=>intro l hl _;have:l=[]:=Wc hl;subst this;exact .nil
  |succ n ih=>
   intro l hl hv;have e:l=l.take n++[l[n]'∅]:=by
    rw[<-qb2 ∅,oO ∅]
   rw[Hw,kQ,e];refine Vals.append (ih (l.take n) (by rw[yA];lia) λk v hk=>?_) (.cons ?_ .nil)
   ·have hkn:k<n:=by
     have:=(qat.mp hk).1;rw[yA]at this;lia
    rw[List.getElem?_take_of_lt hkn]at hk;exact hv k v hk
   ·obtain⟨t,ht⟩:=hv n _ (bA ∅);exact⟨t,by rw[ht,Int.mul_one]⟩
 exact key _ acc'.toList (by rw[Pa];exact hs1) λk v hk=>hs2 k v (~~~hk)
theorem ziX {K:AF}(i:Int)(n:Nat):RepL K G ((List.range n).map λ(k:Nat)=>V.int (i+k)) (iL i n):=by
 have e1:((List.range n).map λ(k:Nat)=>V.int (i+k))=((List.range n).map λ(k:Nat)=>i+(k:Int)).map V.int:=by rw[gC];rfl
 have e2:iL i n=((List.range n).map λ(k:Nat)=>i+(k:Int)).map D.int:=by unfold iL;rw[gC];rfl
 rw[e1,e2];exact RepL.ints _
def oR (m:MA):MO:=λρ=>(m ρ).bind λp=>if p.1.length<=16777216 then some p else none
theorem zoQ {a b:AI}{p q pos pos':Pos}(ml:X.mg "list"=none)(mr:X.mg "range"=none)(ha:SA X [a,b] ma)(hc:X.calm=true:=by rfl)(hg:Gl X "list":=by rfl)(hgr:Gl X "range":=by rfl)(he:starEach [a,b] X.env=(false,eval a X.env)::starEach [b] X.env:=by rfl)(hpl:(backTo pos' (starEach [b] X.env)).any (·.1)=false:=by rfl)(he2:starEach [.Call (.Name "range" q) [a,b] [] pos'] X.env=(false,eval (.Call (.Name "range" q) [a,b] [] pos') X.env)::starEach [] X.env:=by rfl):
  SO X (.Call (.Name "list" p) [.Call (.Name "range" q) [a,b] [] pos'] [] pos) (oR (iR2 ma)):=by
 refine ha.el λt pa sa=>?_
 refine⟨_,Pc (ziV hc) hg ml (by decide+kernel) (iG (Pc znU hgr mr (by decide+kernel) pa (by decide) (by decide) he hpl) oP he2) (by decide) (by decide) he2 rfl,λB G H σ ρ ds ρ' Q I hm k=>?_⟩;refine aZ hm λitems ρ1 e1 hm=>?_
 refine aZ e1 λes ρ2 e2 h2=>?_
 dsimp only at hm h2;refine aT hm λAO hm=>?_
 ·skip
  exists Prod.mk.inj (Option.some.inj hm);refine sa B G H σ ρ es ρ2 _ I e2 λG1 H1 vs I1 f1 r1=>?_
  split at h2
  ·rename_i i j;refine aT h2 λhj h2=>?_
   ·skip
    simp only[cD]at hj;exists Prod.mk.inj (Option.some.inj h2);obtain⟨x,y,rfl,rx,ry⟩:=r1.two;cases(show x=V.int i from rx);cases(show y=V.int j from ry);refine⟨i,j,rfl,λp hp=>⟨p,i,j,rfl,cW,⟨(zR hj.1).1,(zR hj.1).2,(zR hj.2).1,(zR hj.2).2⟩,by simpa[iL]using AO,λl hl=>?_⟩⟩;have I2:=I1.allocO hp (.rng i j);obtain⟨I3,g3,h3,b3,n3⟩:=I2.newO hl ((List.range (j-i).toNat).map λ(k:Nat)=>V.int (i+k));exact k G1 _ l _ I3 f1 g3 h3 (ziX i _) b3 n3
  ·exact aG h2
end M
namespace M
open L2 PySem
@[simp] theorem atI_nat' {α:Type}(xs:AA α)(i:Nat):atI xs (i:Int)=xs[i]?:=by
 unfold atI iE;rw[if_pos (by lia)]
 by_cases h:i<xs.length
 ·rw[if_pos (by lia)];simp
 ·rw[if_neg (by lia)];simp[gM (by lia:xs.length<=i)]
end M
namespace M
open L2 PyProof.Rows PySem PySem.Spec
def Se (i:Nat)(g:Int->Int->Int)(me:ME):MS:=λρ=>match ρ[i]? with
 |some (.val (.int a))=>(me ρ).bind λp=>match p.1 with
  | .int b=>some (.next,p.2.set i (.val (.int (g a b))))
  |_=>none
 |_=>none
section
variable {X:Cx}{e:AI}{me:ME}{pos:Pos}
def vJ (i:Nat)(ho:PIp X op (ipI g))(he:SE X e me)(hN:X.N.Nodup)(hi:X.N[i]? =some x:=by rfl)(hx:gG X.env.scope x:=by trivial)(hf:X.fn x=true\/X.env.scope.names.lookup x=some .local:=by trivial):SS X (.AugAssign (.Name x pos') op e pos) (Se i g me):=by
  refine he.el λt p s=>?_
  refine⟨_,Ka hN hi hx p ho hf,λB G H σ ρ fl ρ' E I hm k=>?_⟩;unfold Se at hm
  split at hm
  . rename_i a e0
    refine aZ hm λd ρ1 e1 h2=>?_
    dsimp only at h2
    split at h2
    . rename_i b
      exists bM h2;obtain⟨v,h1,hv⟩:=I.slot i _ e0;cases(show v=V.int a from hv);refine⟨_,h1,s B G H σ ρ (.int b) ρ1 _ I e1 λG1 H1 w I1 f1 r1=>?_⟩;cases(show w=V.int b from r1);exact⟨a,b,rfl,rfl,k G1 H1 _ (I1.set (d:= .int (g a b)) rfl) f1⟩
    . exact aG h2
  . exact aG hm
def zoU (i:Nat)(he:SE X e me)(hN:X.N.Nodup)(hi:X.N[i]? =some x:=by rfl)(hx:gG X.env.scope x:=by trivial)(hf:X.fn x=true\/X.env.scope.names.lookup x=some .local:=by trivial):SS X (.AugAssign (.Name x pos') .Add e pos) (Se i (λi j=>i+j) me):=vJ i Ky he hN hi hx hf
end
end M
namespace M
open L2 PySem PySem.Spec
open PyProof.Rows hiding St
def yB (ma mb:ME):MO:=λρ=>(ma ρ).bind λp=>(mb p.2).bind λq=>match p.1,q.1 with
 | .lst xs,.int k=>if lK k&&decide (xs.length*k.toNat<=16777216)then some ((List.replicate k.toNat xs).flatten,q.2)else none
 |_,_=>none
theorem RepL.times {K:AF}{G:Hp}{xs:AA V}{ds:AA D}(h:RepL K G xs ds):∀n:Nat,RepL K G (List.replicate n xs).flatten (List.replicate n ds).flatten
 |0=>RepL.nil
 |n+1=>by
  rw[yG,Cy,yG,Cy];exact h.append (h.times n)
def rR (ha:SE X a ma)(hb:SE X b mb):SO X (.BinOp a .Mult b pos) (yB ma mb):=by
 refine ha.el λta pa sa=>?_
 refine hb.el λtb pb sb=>?_
 refine⟨_,Cb pK pa pb,λB G H σ ρ d ρ' Q I hm k=>?_⟩;refine aZ hm λx ρ1 e1 hm=>?_
 refine aZ hm λy ρ2 e2 hm=>?_
 refine sa B G H σ ρ x ρ1 _ I e1 λG1 H1 v I1 f1 r1=>sb B G1 H1 σ ρ1 y ρ2 _ I1 e2 λG2 H2 u I2 f2 r2=>?_
 dsimp only at hm
 split at hm
 ·rename_i xs n _;refine aT hm λhs hm=>?_
  ·skip
   exists bM hm;simp only[cD,kJ]at hs;cases(show u=V.int n from r2);obtain⟨l,ys,rfl,hl,r⟩:=I2.lst (r1.mono f2);have a1:=zR hs.1;refine⟨l,n,ys,rfl,rfl,hl,∅,∅,by rw[r.length,fX];exact hs.2,λp hp=>?_⟩;obtain⟨I3,g3,h3,b3,n3⟩:=I2.newO hp (List.replicate n.toNat ys).flatten;exact k G2 _ p _ I3 (f1.trans f2) g3 h3 (r.times _) b3 n3
 ·exact aG hm
def Ub:D->AB V
 | .non=>some .non
 | .bl b=>some (.bl b)
 | .int i=>some (.int i)
 | .str x=>some (.str x)
 |_=>none
def Hv:AA D->AB (AA V)
 |[]=>some []
 |d::ds=>(Ub d).bind λv=>(Hv ds).map (v:: ·)
theorem qU {K:AF}{G:Hp}{x v:V}{d:D}(r:RepD K G x d)(e:Ub d=some v):x=v/\tX v=true:=by
 cases d<;>simp only[Ub]at e<;>cases e<;>exact⟨r,rfl⟩
theorem zlX {K:AF}{G:Hp}:∀{ys xs:AA V} {ds:AA D},RepL K G ys ds->Hv ds=some xs->ys=xs/\xs.all tX=true
 |ys,xs,[],r,e=>by cases e;cases(show ys=[]from r);exact⟨rfl,rfl⟩
 |ys,xs,d::ds,r,e=>by
  obtain⟨y,zs,rfl,ry,rz⟩:=r;refine aP e λv e1 e=>?_
  obtain⟨vs,e2,rfl⟩:=Od e;obtain⟨rfl,f1⟩:=qU ry e1;obtain⟨rfl,f2⟩:=zlX rz e2;exact⟨rfl,by rw[lL,f1,f2];rfl⟩
def Bf (neg:Bool)(a b:D):AB D:=(Ub a).bind λx=>(eO [b]).bind λds=>(Hv ds).map λxs=> .bl (if neg then !lQ x xs else lQ x xs)
def tT:D->D->AB D:=Bf false
def zn1:D->D->AB D:=Bf true
theorem Dg {X:Cx}(neg:Bool):V2 X (rIn X.K neg) (Bf neg):=by
 intro B G H σ ρ x y a b d Q I ra rb hf k;refine aP hf λv e1 hf=>?_
 refine aP hf λds e2 hf=>?_
 obtain⟨xs,e3,rfl⟩:=Od hf;obtain⟨rfl,f1⟩:=qU ra e1;obtain⟨p,ys,rfl,hq,ry⟩:=zhy I rb e2;obtain⟨rfl,f2⟩:=zlX ry e3;exact⟨p,ys,rfl,hq,f1,f2,k G H _ I (Fz.refl G) rfl⟩
def Bp (neg:Bool):∀x y d,Bf neg x y=some d->∃t,d= .bl t:=by
 intro x y d hf;refine aP hf λv e1 hf=>?_
 refine aP hf λds e2 hf=>?_
 obtain⟨xs,e3,rfl⟩:=Od hf;exact⟨_,rfl⟩
def Eh (ha:SE X a ma)(hb:SE X b mb)(hm:behindInMarks .In b=false:=by rfl):STt X (.Compare a [.In] [b] pos) (aO (m2 tT ma mb)):=De znV (Dg false) (Bp false) ha hb hm
def qB (ha:SE X a ma)(hb:SE X b mb)(hm:behindInMarks .NotIn b=false:=by rfl):STt X (.Compare a [.NotIn] [b] pos) (aO (m2 zn1 ma mb)):=De zkg (Dg true) (Bp true) ha hb hm
end M
namespace M
open L2 PySem PySem.Spec
open PyProof.Rows hiding St
open Sem (wp)
variable {i:Nat}{t:Bool}{h h':AK}{it l:AD}{is xs:Array AC}{Q:AC->AE->Prop}
def cB (h:b∈[x,y])(h1:x≠z)(h2:y≠z):b≠z:=by
 simp at h;rcases h with rfl|rfl<;>assumption
theorem nA {N a b:Nat}(h:a≠b):N+a≠N+b:=λe=>h (qb9 e)
def nB (h:0≠b):N≠N+b:=λe=>h (qb9 (show N+0=N+b from e))
def nC (h:b≠0):N+b≠N:=λe=>h (qb9 (show N+b=N+0 from e))
theorem nL {a N b:Nat}(h:a<N):a≠N+b:=eT (iJ h (Nat.le_add_right _ _))
def cH (h:a≠b):a≠b:=h
def SrcIt:Bool->AK->AD->AD->Nat->Prop
 |true,h,it,a,i=>h.IsTupleIter it a i
 |false,h,it,a,i=>h.IsListIter it a i
def SrcH:Bool->AK->AD->Array AC->Prop
 |true,h,a,its=>h.IsTuple a its
 |false,h,a,its=>h.IsList a its
def SrcIt.at {it:AD}(x:SrcIt t h it a i)(e:∀o,h.get? it=some o->h'.get? it=some o):SrcIt t h' it a i:=by
 cases t
 ·exact Heap.IsListIter.at x e
 ·exact Heap.IsTupleIter.at x e
def SrcH.at (x:SrcH t h a is)(e:∀o,h.get? a=some o->h'.get? a=some o):SrcH t h' a is:=by
 cases t
 ·exact Heap.IsList.at x e
 ·obtain⟨o,ho,r⟩:=x;exact⟨o,e _ ho,r⟩
def SrcIt.obj {it:AD}(x:SrcIt t h it a i):∃o,h.get? it=some o/\∀v,o.data≠ .cell v:=by
 cases t<;>(obtain⟨o,e,c,d⟩:=x;exact⟨o,e,λv z=>by rw[d]at z;cases z⟩)
def SrcH.lt (x:SrcH t h a is):a<h.objs.size:=by
 cases t<;>(obtain⟨o,e,_⟩:=x;exact cK e)
section
variable {prog:AJ}{w:World}{A:Around}{E:AC->AE->Prop}{s:AE}
def zmC {items}(hit:s.heap.IsTupleIter it l i)(hl:s.heap.IsTuple l items)(k : (∃ x, items[i]? = some x /\ ∀ h', h'.IsTupleIter it l (i + 1) -> Heap.SameBut it s.heap h' -> Q x { s with heap := h' }) \/
   (items[i]? =none/\A.handled=none/\∀h' e,Heap.ExtBut it s.heap h'->(∃o,h'.get? e=some o/\o.cls= .type "StopIteration")->E (.ref e) {s with heap:=h'})):
  AG (model prog w) A (Builtin.SmallTypes.nextOf (.ref it)) Q E s:=by
 obtain⟨o,ho,hc,hd⟩:=id hit;obtain⟨ol,hol,-,nl,hdl⟩:=hl;have ne:¬((Value.ref l==Value.none)=true):=fY;unfold Builtin.SmallTypes.nextOf;refine aJ (Fd (name:=Str.ofString "__next__") hit.typeIs slot_tupleiter_next (tY slot_tupleiter_next hit.typeIs entry_tupleiter_next ?_ (args_tupleiter_next _)));refine(?_:AG _ _ (field (.ref it) 0>>=_) _ _ s);refine aJ (kU ho hd (x:= .ref l) rfl (?_:AG _ _ (if(Value.ref l==Value.none)=true then _ else _) _ _ s));rw[if_neg ne];refine(?_:AG _ _ (field (.ref it) 1>>=_) _ _ s);refine aJ (kU ho hd (x:= .int i 0) rfl (?_:AG _ _ (seqItems? (.ref l)>>=_) _ _ s));refine aJ (tL hol hdl ?_);rcases k with⟨x,hx,k⟩|⟨hx,hh,k⟩<;>simp only[Za,hx]
 ·have upd:∀h':AK,h'.get? it=some (o.mapFields λa=>a.setIfInBounds 1 (rawInt (((i:Nat):Int)+1)))->h'.IsTupleIter it l (i+1):=λh' e=>⟨_,e,(Obj.cls_mapFields ..).trans hc,by rw[Wz hd];simp[rawInt]⟩
  refine aJ (Zf ho hd (by simp) (qaF ⟨x,rfl,qaF (k _ ?_ (qcd ..))⟩));refine⟨_,Vy _ ho (Obj.isFreed_of_fields (Wz hd _)),(Obj.cls_mapFields ..).trans hc,?_⟩;rw[Wz hd];simp[rawInt]
 ·refine aJ (wpAny_rule (aJ (Zf ho hd (by simp) (?_:AG _ _ (newExc (.type "StopIteration") []>>=_) _ _ _))));refine aJ ?_;simp only[newExc,newTuple];refine aJ (tE (aJ (m:=firstArgMember _ _) (wpAny_of_eq (a:=Value.none) (by first|rfl|(simp only[firstArgMember];rfl)) (tE ?_ (by size_fits)))) (by size_fits));simp only[raiseNew];refine aJ (wpAny_handled ?_)
  first|rw[show A.in1.handled=none from hh]|rw[hh]
  exact aJ (qaF (wpAny_throw (k _ _ (((qcd ..).extBut.push _).push _) ⟨_,dO _ rfl,rfl⟩)))
def Oo (hh:A.handled=none)(it l:AD)(hne:l≠it)(items:Array AC):Draws prog w A it [it,l] items.size (λi v=>items[i]? =some v) (λi h=>SrcIt t h it l i/\SrcH t h l items):=by
 cases t
 ·exact Draws.list hh it l hne items
 ·refine⟨λ_ _ st=>?_,λ_ _ _ st hk=>⟨SrcIt.at st.1 λo e=>hk it (by simp) o e,SrcH.at st.2 λo e=>hk l (by simp) o e⟩,λi s Q E hi st hQ=>?_,λs Q E st hE=>zmC st.1 st.2 (.inr ⟨by simp,hh,hE⟩)⟩
  ·obtain⟨o,e,-⟩:=SrcIt.obj st.1;exact⟨o,e⟩
  ·exact zmC st.1 st.2 (.inl ⟨items[i],by simp[hi],λh' a b=>hQ _ h' s.toks (by simp[hi]) ⟨a,SrcH.at st.2 λo e=>(b.2 l hne).trans e⟩ b⟩)
def cN (t:Bool)(a:AD):Obj:={cls:= .type (if t then "tuple_iterator" else "list_iterator"),data:= .fields #[.ref a,.int 0 0]}
def zli {it:AD}(e:h.get? it=some (cN t a)):SrcIt t h it a 0:=by
 cases t<;>exact⟨_,e,rfl,rfl⟩
def zh7 (t:Bool)(a:AD):(cN t a).isFreed=false:=by cases t<;>rfl
def zeY {items}(hl:SrcH t s.heap a items)(hQ:Q (.ref s⁻¹) {s with heap:=s.heap.push (cN t a)}):
  AG (model prog w) A (pyIter (.ref a)) Q E s:=by
 cases t
 ·exact wpAny_pyIter_list hl hQ
 ·exact qbP hl hQ
end
abbrev kZ (vs:Array AC):Obj:={cls:= .type "tuple",data:= .seq vs}
abbrev zip_ (ti to:AD):Obj:={cls:= .type "zip",data:= .fields #[.none,.bool false,.bool false,.ref ti,.ref to]}
abbrev z2a (h:AK)(t1 t2:Bool)(l1 l2:AD):AK:=(h.push (cN t1 l1)).push (cN t2 l2)
abbrev Zq (h:AK)(t1 t2:Bool)(l1 l2:AD):AK:=(z2a h t1 t2 l1 l2).push (kZ #[.ref h.objs.size,.ref (h.push (cN t1 l1)).objs.size])
abbrev z2c (h:AK)(t1 t2:Bool)(l1 l2:AD):AK:=(Zq h t1 t2 l1 l2).push (kZ #[.none,.none])
abbrev Oz (h:AK)(t1 t2:Bool)(l1 l2:AD):AK:=(z2c h t1 t2 l1 l2).push (zip_ (z2a h t1 t2 l1 l2).objs.size (Zq h t1 t2 l1 l2).objs.size)
def znB (t1 t2:Bool)(l1 l2:AD)(xs ys:Array AC):Meets (Builtin.«zip.__new__» ⟨[.type "zip",.ref l1,.ref l2],[]⟩) (λ_ R s=>SrcH t1 s.heap l1 xs/\SrcH t2 s.heap l2 ys/\
   R (.ok (.ret (.ref (z2c s.heap t1 t2 l1 l2).objs.size))) {s with heap:=Oz s.heap t1 t2 l1 l2}):=
 .of_wp λprog w A R s h=>by
  obtain⟨hp,g,d,tk,os⟩:=s;obtain⟨b1,b2,h⟩:=h;have hsub:=sub_zip;have L1:SrcH t1 (Shared.heap ⟨hp,g,d,tk,os⟩) l1 xs:=b1;have L2:SrcH t2 (Shared.heap ⟨hp.push (cN t1 l1),g,d,tk,os⟩) l2 ys:=SrcH.at b2 λo e=>bP _ e
  wp_walk using zeY L1,zeY L2
  exact⟨_,rfl,h⟩
section
variable {prog:AJ}{w:World}{A:Around}{E:AC->AE->Prop}{s:AE}
def zoh {xs:Array AC}(h1:SrcH t1 s.heap l1 xs)(h2:SrcH t2 s.heap l2 ys)(k : ∀ h', IsZip h' (s⁻¹ + 4) (s⁻¹ + 2) (s⁻¹ + 3) .none -> IsPair h' (s⁻¹ + 2) (.ref s⁻¹) (.ref (s⁻¹ + 1)) ->
   IsPair h' (s⁻¹+3) .none .none->SrcIt t1 h' s⁻¹ l1 0->SrcIt t2 h' (s⁻¹+1) l2 0->
   (∀c o,s.heap.get? c=some o->h'.get? c=some o)->Q (.ref (s⁻¹+4)) {s with heap:=h'}):AG (model prog w) A (call (.type "zip") [.ref l1,.ref l2]) Q E s:=by
 refine callType_new F.called_zip (by decide) (F.typeCall_zip_2 _ _) (F.newCall_zip_2 _ _) (λobj=>F.args_object_init_3 obj _ _) F.entry_zip_new (znB t1 t2 l1 l2 xs ys) ⟨h1,h2,(?_:_/\_)⟩;have y1:(s.heap.push (cN t1 l1)).objs.size=s⁻¹+1:=lX ..;have y2:(z2a s.heap t1 t2 l1 l2).objs.size=s⁻¹+2:=by rw[lX,y1]
 have y3:(Zq s.heap t1 t2 l1 l2).objs.size=s⁻¹+3:=by rw[lX,y2]
 have y4:(z2c s.heap t1 t2 l1 l2).objs.size=s⁻¹+4:=by rw[lX,y3]
 have g5:(Oz s.heap t1 t2 l1 l2).get? (z2c s.heap t1 t2 l1 l2).objs.size=some _:=dO _ rfl;have g4:(Oz s.heap t1 t2 l1 l2).get? (Zq s.heap t1 t2 l1 l2).objs.size=some _:=bP _ (dO _ rfl);have g3:(Oz s.heap t1 t2 l1 l2).get? (z2a s.heap t1 t2 l1 l2).objs.size=some _:=bP _ (bP _ (dO _ rfl));have g2:(Oz s.heap t1 t2 l1 l2).get? (s.heap.push (cN t1 l1)).objs.size=some (cN t2 l2):=bP _ (bP _ (bP _ (dO _ (zh7 ..))));have g1:(Oz s.heap t1 t2 l1 l2).get? s⁻¹=some (cN t1 l1):=bP _ (bP _ (bP _ (bP _ (dO _ (zh7 ..)))));rw[y2,y3,y4]at g5;rw[y1,y2]at g3;rw[y3]at g4;rw[y1]at g2;rw[y4];exact⟨⟨_,g5,rfl⟩,k _ g5 g3 g4 (zli g1) (zli g2) λc o x=>bP _ (bP _ (bP _ (bP _ (bP _ x))))⟩
abbrev en_ (it:AD):Obj:={cls:= .type "enumerate",data:= .fields #[.none,.bool false,.ref it,rawInt 0,.none,.none]}
def znh (t:Bool)(l:AD)(o:Obj)(xs:Array AC):Meets (Builtin.«enumerate.__new__» ⟨[.type "enumerate",.ref l],[]⟩) (λ_ R s=>s.heap.get? l=some o/\SrcH t s.heap l xs/\
   R (.ok (.ret (.ref (s.heap.push (cN t l)).objs.size))) {s with heap:=(s.heap.push (cN t l)).push (en_ s⁻¹)}):=
 .of_wp λprog w A R s h=>by
  obtain⟨hp,g,d,tk,os⟩:=s;obtain⟨hl,b,h⟩:=h;have hsub:=sub_enumerate;have hL:SrcH t (Shared.heap ⟨hp,g,d,tk,os⟩) l xs:=b
  wp_walk using qce hl
  refine wpAny_stack_any λst=>qaF ?_
  split
  ·rename_i c _ _ _ _ _;cases(c==Value.type "enumerate")<;>(wp_walk using qce hl,zeY hL;exact⟨_,rfl,h⟩)
  ·wp_walk using qce hl,zeY hL
   exact⟨_,rfl,h⟩
def zpR (h1:SrcH t s.heap l xs)(k:∀h',IsEnum h' (s⁻¹+1) s⁻¹ 0 .none->SrcIt t h' s⁻¹ l 0->(∀b o,s.heap.get? b=some o->h'.get? b=some o)->Q (.ref (s⁻¹+1)) {s with heap:=h'}):
  AG (model prog w) A (call (.type "enumerate") [.ref l]) Q E s:=by
 have⟨o,ho⟩:∃o,s.heap.get? l=some o:=by cases t<;>(obtain⟨o,e,-⟩:=h1;exact⟨o,e⟩)
 refine callType_new F.called_enumerate (by decide) (F.typeCall_enumerate_1 _) (F.newCall_enumerate_1 _) (λobj=>F.args_object_init_2 obj _) F.entry_enumerate_new (znh t l o xs) ⟨ho,h1,(?_:_/\_)⟩;have y1:(s.heap.push (cN t l)).objs.size=s⁻¹+1:=lX ..;have g2:((s.heap.push (cN t l)).push (en_ s⁻¹)).get? (s.heap.push (cN t l)).objs.size=some _:=dO _ rfl;have g1:((s.heap.push (cN t l)).push (en_ s⁻¹)).get? s⁻¹=some (cN t l):=bP _ (dO _ (zh7 ..));rw[y1]at g2;rw[y1];exact⟨⟨_,g2,rfl⟩,k _ g2 (zli g1) λb o x=>bP _ (bP _ x)⟩
end
end M
namespace M
local macro_rules | `(tactic| ac_rfl) => `(tactic| first | exact M.nA (by decide) | exact M.nB (by decide) | exact M.nC (by decide) | exact M.nL (by assumption) | exact Nat.ne_of_lt (by assumption) | lia)
open L2 PySem PySem.Spec
open PyProof.Rows hiding St
open Sem (wp)
variable {t' ek:Nat}{h':AK}{fp:AA AD}{vs xs:AA V}{its:AA AC}{t:Bool}{X:Cx}{AM:AA (AD×Obj)}{σ:St}{H:Hp}{s:AE}{elts:AA AI}{ep p pos:Pos}{es:AA D}
section
variable {X:Cx}{AM:AA (AD×Obj)}{σ:St}{H:Hp}{s:AE}
def zlQ (I:Inv X AM σ H s)(k:∀b o,b∉fp->s.heap.get? b=some o->h'.get? b=some o)(hf:∀b∈fp,dC X AM H b):Inv X AM σ H {s with heap:=h',toks:=t'}:=by
 have nit:∀b u,H b=some u->b∉fp:=λb u e z=>by rw[(hf b z).1]at e;exact aG e
 refine I.step (g':=s.gens) (d':=s.drawn) (ch:=fp) (λb hb=>?_) (λb o _ _ hc e _=>k b o hc e) (λb o _ _ hc e _=>⟨o.slots,k b o hc e⟩) (λ_ _ _ _ n=>n)
  (λb o hc e=>⟨o,k b o hc e⟩) (λ_ _ e=>e) (λ_ _ _ e=>e) (λb ps e=>⟨#[],by rw[e];simp⟩) (λm hm=>?_) (λb u e=>?_) I.bare
 ·obtain⟨f0,f1,f2,f3,f4,f5⟩:=hf b hb;exact⟨f3,f1,f4,f5⟩
 ·obtain⟨o,es,ep,ho,r⟩:=hm;exact⟨o,es,ep,k _ o (λz=>(hf _ z).2.1 rfl) ho,r⟩
 ·refine(I.hok b u e).stay (λc v hc q=>k c v ?_ q) (λ_ q=>q) λ_ _ q=>q
  rcases hc with z|z
  ·rw[z];exact nit b u e
  ·exact nit c _ z
def zoC {t':Nat}{h':AK}{fp:AA AD}(I:Inv X AM σ H s)(k:∀b o,b∉fp->s.heap.get? b=some o->h'.get? b=some o)(hf:∀b∈fp,dC X AM H b)(hl:∀b∈fp,b<s⁻¹)(hT:h'.get? s⁻¹=some (kZ its.toArray))(hz:vs.length<=sizeLine)(r:Vals vs its):Inv X AM σ (upd H s⁻¹ (.tup vs)) {s with heap:=h',toks:=t'}:=by
 have I1:=I.laid (t':=s.toks) (a:=s⁻¹) (o:= .tup vs) (h':=s.heap.push (kZ its.toArray)) (λb u q=>bP _ q) (aY _) ⟨hz,its,r,IsTup.new _ _⟩;refine zlQ (s:={s with heap:=s.heap.push (kZ its.toArray),toks:=s.toks}) (t':=t') (fp:=fp) I1 (λb o hb e=>?_) λb hb=>?_
 ·have e':(s.heap.push (kZ its.toArray)).get? b=some o:=e;rcases Heap.get?_push_cases e' with⟨rfl,rfl⟩|q
  ·exact hT
  ·exact k b o hb q
 ·obtain⟨f0,fr⟩:=hf b hb;refine⟨?_,fr⟩;rw[aW (eT (hl b hb))];exact f0
end
def SrcSq (t:Bool)(K:AF)(H:Hp)(a:AD)(xs:AA V):Prop:=match t with
 |true=>SqT K H a xs
 |false=>SqL K H a xs
theorem SrcSq.heap {a:AD}(I:Inv X AM σ H s)(h:SrcSq t X.K H a xs):∃its:AA AC,Vals xs its/\SrcH t s.heap a its.toArray/\xs.length<=sizeLine:=by
 cases t
 ·obtain⟨its,r,p,z⟩:=I.list h;exact⟨its,r,p.isList,z⟩
 ·obtain⟨its,r,p,z⟩:=I.tuple h;exact⟨its,r,p,z⟩
def SrcSq.inj {xs:AA V}(I:Inv X AM σ H s)(h:SrcSq t X.K H a xs)(h':SrcSq t X.K H a ys):xs=ys:=by
 cases t
 ·exact I.list_inj h h'
 ·exact I.tuple_inj h h'
def Kh (K:AF)(t1:Bool)(a1:AD)(t2:Bool)(a2:AD)(n:Nat):It where
 go:=λi H=>i<n/\∃xs ys,SrcSq t1 K H a1 xs/\SrcSq t2 K H a2 ys/\n=min xs.length ys.length
 yld:=λi H x H'=>∃p x1 x2,H p=none/\H'=upd H p (.tup [x1,x2])/\x= .ref p/\∀xs ys,SrcSq t1 K H a1 xs->SrcSq t2 K H a2 ys->xs[i]? =some x1/\ys[i]? =some x2
 stop:=λi H=>n<=i/\∃xs ys,SrcSq t1 K H a1 xs/\SrcSq t2 K H a2 ys/\n=min xs.length ys.length
def Ti (h:c∉([N,N+1,N+2,N+3,N+4]:AA Nat)):c≠N/\c≠N+1/\c≠N+3/\c≠N+4:=
 ⟨λe=>h (e ▸ .head _),λe=>h (e ▸ .tail _ (.head _)),λe=>h (e ▸ .tail _ (.tail _ (.tail _ (.head _)))),λe=>h (e ▸ .tail _ (.tail _ (.tail _ (.tail _ (.head _)))))⟩
def Ite (K:AF)(t1:Bool)(a1:AD)(n:Nat):It where
 go:=λi H=>i<n/\∃xs,SrcSq t1 K H a1 xs/\n=xs.length
 yld:=λi H x H'=>∃p x1,H p=none/\H'=upd H p (.tup [.int i,x1])/\x= .ref p/\∀xs,SrcSq t1 K H a1 xs->xs[i]? =some x1
 stop:=λi H=>n<=i/\∃xs,SrcSq t1 K H a1 xs/\n=xs.length
theorem zom {P:AJ}{w:World}{K:AF}(t1:Bool)(a1:Nat)(n N:Nat)(l1:a1<N):
  Turn P w K (.Tuple elts ek ep) (Ite K t1 a1 n) ([N+1,N]:AA Nat) (N+1:Nat) (λi h=>i<=n/\(∃old,IsEnum h (N+1:Nat) N i old)/\SrcIt t1 h N a1 i) where
 mem:=by simp
 obj:=λi h st b hb=>by
  obtain⟨-,⟨old,h1⟩,h0⟩:=st;simp only[qaq,Bj,or_false]at hb;rcases hb with rfl|rfl
  ·exact⟨_,h1,λv z=>by cases z⟩
  ·exact h0.obj
 keep:=λi h h' st k=>by
  obtain⟨hi,⟨old,h1⟩,h0⟩:=st;exact⟨hi,⟨old,k _ (by simp) _ h1⟩,h0.at λo e=>k _ (by simp) o e⟩
 item:=by
  intro X hP hw hK hc i AM s σ H E I hf st hg;subst hP hw hK;obtain⟨hi,⟨old,h1⟩,h0⟩:=st;obtain⟨hn,xs,q1,en⟩:=hg;obtain⟨us,ru,hu,zu⟩:=q1.heap I;have lu:=ru.length;have D1:=Oo (prog:=X.prog) (w:=X.w) (A:=X.A.in1) (t:=t1) (I.ok.hd hc) N a1 (cH (by ac_rfl)) us.toArray;refine wpAny_pyNext_enum_itemD D1 h1 ⟨h0,hu⟩ (by simp;lia) (cH (by ac_rfl)) (λz=>cB (z:=N+1) z ∅ ∅ rfl) λx h' tk p1 ho g0 gT gz kk=>?_
  obtain⟨x1,hx1⟩:∃x1,xs[i]? =some x1:=⟨xs[i]'∅,bA _⟩;obtain⟨u1,hu1,r1⟩:=ru.get hx1;have e1:u1=x:=by
   have:us[i]? =some x:= ~~~p1
   rw[hu1]at this;cases this;rfl
  subst e1;refine⟨_,rfl,wpAny_letOwnedTupleGo_enum (s:={s with heap:=h',toks:=tk+1}) ho λh'' he' sb=>?_⟩
  replace sb:Heap.SameBut (N+1:Nat) h' h'':=sb
  have lz:N+1<s⁻¹:=cK h1;have kk':∀b o,b∉([N+1,N]:AA Nat)->s.heap.get? b=some o->h''.get? b=some o:=λb o hb e=>
   (sb.2 b λz=>hb (by simp[z])).trans (kk b o (λz=>hb (by simp[z])) (λz=>hb (by simp[z])) e)
  have I1:=zoC (t':=tk+1) (vs:=[.int i,x1]) (its:=[.int i tk,u1]) I kk' hf (λb hb=>by
   have:b=N+1\/b=N:= ~~~hb
   exact Ea (show(b:Nat)<=N+1 by rcases this with h|h<;>rw[h]<;>simp) lz) ((sb.2 _ (cH (by ac_rfl))).trans gT) (by simp;rw[fX];decide) (.cons ⟨_,rfl⟩ (.cons r1 .nil))
  refine⟨.ref s⁻¹,_,I1,rfl,⟨_,x1,I.hok.fresh (aY _),rfl,rfl,λxs' b1=>?_⟩,⟨hn,⟨_,~~~he'⟩,SrcIt.at g0.1 λo e=>(sb.2 _ (cH (by ac_rfl))).trans e⟩,λb hb=>?_⟩
  ·rw[SrcSq.inj I b1 q1];exact hx1
  ·have:b=N+1\/b=N:= ~~~hb
   rw[aW (eT (Ea (show(b:Nat)<=N+1 by rcases this with h|h<;>rw[h]<;>simp) lz))]
   exact(hf b hb).1
 done:=by
  intro X hP hw hK hc i AM s σ H E I hf st hg;subst hP hw hK;obtain⟨hi,⟨old,h1⟩,h0⟩:=st;obtain⟨hn,xs,q1,en⟩:=hg;obtain⟨us,ru,hu,zu⟩:=q1.heap I;have lu:=ru.length;have D1:=Oo (prog:=X.prog) (w:=X.w) (A:=X.A.in1) (t:=t1) (I.ok.hd hc) N a1 (cH (by ac_rfl)) us.toArray;have W:=WalksT.enumerateD D1 (N+1:Nat) (cH (by ac_rfl)) (λz=>cB (z:=N+1) z ∅ ∅ rfl) (by simp);have ei:i=us.toArray.size:=by simp;lia
  subst ei;exact W.done s _ _ ⟨⟨old,h1⟩,h0,hu⟩ λh' tk kk=>⟨rfl,zlQ I kk hf⟩
 self:=λ_ _ _ _ _ st h=>by
  obtain⟨hi,⟨old,h1⟩,h0⟩:=st;exact wpAny_pyIter_enum h1 h
def tH:bootBuiltins "zip"=some (.type "zip"):=by decide+kernel
def ziJ:bootBuiltins "enumerate"=some (.type "enumerate"):=by decide+kernel
section
variable {X:Cx}{elts:AA AI}{ek:Nat}{ep:Pos}
theorem wU {a:AI}{ta:TA}(hg:Gl X "enumerate")(hm:X.mg "enumerate"=none)(ha:PA X [a] ta)(hs:starEach [a] X.env=(false,eval a X.env)::starEach [] X.env:=by rfl)(hs2:(backTo pos (starEach [] X.env)).any (·.1)=false:=by rfl):
  PI X (.Tuple elts ek ep) (.Call (.Name "enumerate" p) [a] [] pos) (λσ H R=>ta σ H λvs H1=>∃t1 a1 xs,vs=[.ref a1]/\SrcSq t1 X.K H1 a1 xs/\R (Ite X.K t1 a1 xs.length) H1):=by
 intro AM s σ H R I h;refine Call_ (Sx I hg hm ziJ (qaJ (aS (ha pos AM s σ H _ I h) λus s1 ⟨vs,H1,I1,r1,q1⟩=>?_) hs hs2));obtain⟨t1,a1,xs,e,q1,q⟩:=q1;subst e;cases r1 with
 |cons r rr=>
  cases rr;cases r;obtain⟨us,ru,hu,-⟩:=q1.heap I1;refine zpR hu λh' g1 g0 kk=>wpAny_pyIter_enum g1 ⟨_,_,_,_,H1,rfl,I1.kept (t':=s1.toks) kk,zom t1 a1 xs.length s1⁻¹ hu.lt,⟨gK _,⟨_,g1⟩,g0⟩,λb hb=>?_,q⟩
  have:b=s1⁻¹+1\/b=s1⁻¹:= ~~~hb
  have le:s1⁻¹<=b:=by rcases this with h|h<;>rw[h]<;>simp
  exact I1.fpOk le (I1.hok.fresh le)
end
theorem zpt {K:AF}{G:Hp}{x:V}{d:D}(r:RepD K G x d)(e:eO [d]=some es):∃t a xs,x= .ref a/\(∀H,Fz G H->SrcSq t K H a xs)/\RepL K G xs es:=by
 cases d<;>simp only[eO]at e<;>try cases e
 ·obtain⟨a,xs,rfl,ha,r⟩:=r;exact⟨false,a,xs,rfl,λH f=>SqL.of (f _ _ ha),r⟩
 ·obtain⟨a,xs,rfl,ha,r⟩:=r;exact⟨true,a,xs,rfl,λH f=>SqT.of (f _ _ ha),r⟩
 ·obtain⟨a,rfl,ha⟩:=r;exact⟨false,a,_,rfl,λH f=>f.sql ha,RepL.ints _⟩
def Ku (xs ys:AA D):AA D:=List.zipWith (λx y=>D.tup [x,y]) xs ys
def Jn (xs:AA D):AA D:=List.zipWith (λx (i:Nat)=>D.tup [.int i,x]) xs (List.range xs.length)
def Ow (ma:MA):MA:=λρ=>(ma ρ).bind λp=>match p.1 with
 |[a,b]=>(eO [a]).bind λxs=>(eO [b]).bind λys=>some (Ku xs ys,p.2)
 |_=>none
def iEn (ma:MA):MA:=λρ=>(ma ρ).bind λp=>(eO p.1).map λxs=>(Jn xs,p.2)
theorem zjl {a:AI}{ma:MA}(hm:X.mg "enumerate"=none)(ha:SA X [a] ma)(hg:Gl X "enumerate":=by rfl)(hs:starEach [a] X.env=(false,eval a X.env)::starEach [] X.env:=by rfl)(hs2:(backTo pos (starEach [] X.env)).any (·.1)=false:=by rfl):
  SIt X (.Tuple elts ek ep) (.Call (.Name "enumerate" p) [a] [] pos) (iEn ma):=by
 refine ha.el λt pa sa=>?_
 refine⟨_,wU hg hm pa hs hs2,λB G H σ ρ ds ρ' Q I hm k=>?_⟩;refine aZ hm λes ρ1 e1 h2=>?_
 refine bB h2 λxs ex h2=>?_
 cases h2;refine sa B G H σ ρ es ρ1 _ I e1 λG1 H1 vs I1 f1 r1=>?_
 match es,ex,r1 with
 |[],ex,_=>exact aG ex
 |_::_::_,ex,_=>exact AH ex (by simp[eO])
 |[d],ex,r1=>
  obtain⟨x,rfl,rx⟩:=r1.one;obtain⟨t1,a1,us,rfl,s1,c1⟩:=zpt rx ex;have n1:=c1.length;refine⟨t1,a1,us,rfl,s1 _ I1.fz,k _ G1 H1 I1 f1 ⟨λH i f hi=>?_,λH i x H' f y d e=>?_,λH i f hi=>?_⟩⟩
  ·exact⟨by simp[Jn]at hi;lia,us,s1 _ f,rfl⟩
  ·obtain⟨p,x1,hp,eh,ex',q⟩:=y;have q1:=q us (s1 _ f);have hi:i<us.length:=(qat.mp q1).1;have g1:xs[i]? =some (xs[i]'∅):=bA _;simp only[Jn,Zm]at e;rw[g1,show(List.range xs.length)[i]? =some i from by rw[List.getElem?_range ∅]]at e;cases e;obtain⟨v1,b1,r1⟩:=c1.get g1;rw[q1]at b1;cases b1;exact .inr ⟨p,_,_,hp,eh,ex',rfl,⟨_,_,rfl,rfl,_,_,rfl,r1,rfl⟩⟩
  ·exact⟨by simp[Jn]at hi;lia,us,s1 _ f,rfl⟩
end M
namespace M
open L2 PySem PySem.Spec
open PyProof.Rows hiding St
def Nt:D->Bool
 | .non=>true
 |_=>false
theorem Gk {K:AF}{G:Hp}{x:V}{d:D}(r:RepD K G x d):decide (x= .non)=Nt d:=by
 cases d with
 |non=>cases(show x=V.non from r);rfl
 |bl b=>cases(show x=V.bl b from r);rfl
 |int i=>cases(show x=V.int i from r);rfl
 |str s=>cases(show x=V.str s from r);rfl
 |lst ds=>obtain⟨a,xs,rfl,-⟩:=r;rfl
 |tup ds=>obtain⟨a,xs,rfl,-⟩:=r;rfl
 |scr ns=>obtain⟨a,rfl,-⟩:=r;rfl
 |exc c=>obtain⟨a,C,rfl,-⟩:=r;rfl
 |dic _ _=>obtain⟨a,ys,rfl,-⟩:=r;rfl
 |dit _ _=>obtain⟨a,ys,o,xs,rfl,-⟩:=r;rfl
 |obj _ _ _ _ _=>obtain⟨_,_,_,_,_,_,_,_,_,rfl,-⟩:=r;rfl
def wC:D->D->AB D
 |a,.non=>some (.bl (!Nt a))
 |_,_=>none
theorem yN {X:Cx}:V2 X (λx y H Q=>y= .non/\Q (.bl (!decide (x= .non))) H) wC:=by
 intro B G H σ ρ x y a b d Q I ra rb hf k;cases b<;>simp only[wC]at hf<;>cases hf
 exact⟨rb,k G H _ I (Fz.refl G) (by rw[Gk ra];rfl)⟩
def wF:∀x y d,wC x y=some d->∃t,d= .bl t:=by
 intro x y d hf;cases y<;>simp only[wC]at hf<;>cases hf
 exact⟨_,rfl⟩
section
variable {X:Cx}{a b:AI}{ma mb:ME}{pos:Pos}
def zmq (ha:SE X a ma)(hb:SE X b mb)(hm:behindInMarks .IsNot b=false:=by rfl):STt X (.Compare a [.IsNot] [b] pos) (aO (m2 wC ma mb)):=De znW yN wF ha hb hm
end
theorem zn6 {X:Cx}{a:AI}{ma:MA}{p q pos pos':Pos}(ml:X.mg "list"=none)(mr:X.mg "range"=none)(ha:SA X [a] ma)(hc:X.calm=true:=by rfl)(hg:Gl X "list":=by rfl)(hgr:Gl X "range":=by rfl)(he:starEach [a] X.env=(false,eval a X.env)::starEach [] X.env:=by rfl)(hpl:(backTo pos' (starEach [] X.env)).any (·.1)=false:=by rfl)(he2:starEach [.Call (.Name "range" q) [a] [] pos'] X.env=(false,eval (.Call (.Name "range" q) [a] [] pos') X.env)::starEach [] X.env:=by rfl):
  SO X (.Call (.Name "list" p) [.Call (.Name "range" q) [a] [] pos'] [] pos) (oR (iK ma)):=by
 refine ha.el λt pa sa=>?_
 refine⟨_,Pc (ziV hc) hg ml (by decide+kernel) (iG (Pc zoF hgr mr (by decide+kernel) pa (by decide) (by decide) he hpl) oP he2) (by decide) (by decide) he2 rfl,λB G H σ ρ ds ρ' Q I hm k=>?_⟩;refine aZ hm λitems ρ1 e1 hm=>?_
 refine aZ e1 λes ρ2 e2 h2=>?_
 dsimp only at hm h2;refine aT hm λAO hm=>?_
 ·skip
  exists Prod.mk.inj (Option.some.inj hm);refine sa B G H σ ρ es ρ2 _ I e2 λG1 H1 vs I1 f1 r1=>?_
  split at h2
  ·rename_i j;refine aT h2 λhj h2=>?_
   ·skip
    exists Prod.mk.inj (Option.some.inj h2);obtain⟨x,rfl,rx⟩:=r1.one;cases(show x=V.int j from rx);refine⟨j,rfl,λp hp=>⟨p,0,j,rfl,cW,⟨by decide,by decide,(zR hj).1,(zR hj).2⟩,by simpa[iL]using AO,λl hl=>?_⟩⟩;have I2:=I1.allocO hp (.rng 0 j);have ej:(j-0).toNat=j.toNat:=by rw[Int.sub_zero]
    rw[ej]at*;obtain⟨I3,g3,h3,b3,n3⟩:=I2.newO hl ((List.range j.toNat).map λ(k:Nat)=>V.int (0+k));exact k G1 _ l _ I3 f1 g3 h3 (ziX 0 _) b3 n3
  ·exact aG h2
def onlyP (b:Nat)(ρ:R):Bool:=match ρ[b]? with
 |some (.par _)=>hX (ρ.set b .emp)
 |_=>false
def uO (b:Nat)(ρ:R):AA D:=match ρ[b]? with
 |some (.par cs)=>cs
 |_=>[]
theorem VS.setEmp {K:AF}{G:Hp}{σ:St}{ρ:R}(h:VS K G σ ρ)(b:Nat):VS K G σ (ρ.set b .emp) where
 len:=by rw[uB];exact h.len
 no:=by
  have h0:=h.no;unfold hX at*;rw[qbZ]at*;intro s hs;rcases qch hs with z|z
  ·exact h0 s z
  ·rw[z]
 val:=λi d e=>by
  rw[jR]at e
  split at e
  ·split at e
   ·cases e
   ·exact aG e
  ·exact h.val i d e
def PaAt (K:AF)(b:Nat)(l:AD)(G H:Hp)(σ:St)(ρ:R):Prop:=∃cs ys,ρ[b]? =some (.par cs)/\σ[b]? =some (some (.ref l))/\G l=none/\H l=some (.lst ys)/\RepL K G ys cs
theorem PaAt.upd {K:AF}{b:Nat}{l DD:AD}{G H:Hp}{σ:St}{ρ:R}(h:PaAt K b l G H σ ρ)(n:l≠DD)(xs:AA V):PaAt K b l G (L2.upd H DD (.lst xs)) σ ρ:=h.imp λ_ h=>h.imp λ_ h=>⟨h.1,h.2.1,h.2.2.1,(aW n).trans h.2.2.2.1,h.2.2.2.2⟩
def zl5 (h1:cap[b]? =some w)(h2:σ[w]? =some (some (.ref l))):b<cap.length/\(cU cap t σ)[b]? =some (some (.ref l)):=by
 have hb:b<cap.length:=(qat.mp h1).1;have hbe:cap[b]=w:=(qat.mp h1).2;refine⟨hb,?_⟩;unfold cU;rw[fT (by rw[cO];exact hb),cR,bA hb,hbe,Ex,h2]
 rfl
def zhI (cap:AA Nat)(t:Nat)(ρ:R):(eY cap t ρ).length=cap.length+t:=by unfold eY;simp
def dIsB:D->D->AB D
 | .bl a,.bl b=>some (.bl (a==b))
 |_,_=>none
def Li:D->D->AB D
 | .bl a,.bl b=>some (.bl (a !=b))
 |_,_=>none
section
variable {X:Cx}
def vS:OpR X (compareOp .IsNot) (λx y H Q=>∃a b,x= .bl a/\y= .bl b/\Q (.bl (a !=b)) H):=by
 intro AM s σ H x y v u Q I rx ry h;obtain⟨a,b,rfl,rfl,q⟩:=h;cases rx;cases ry;exact isnot_bool (pZ I q rfl)
def xR:V2 X (λx y H Q=>∃a b,x= .bl a/\y= .bl b/\Q (.bl (a !=b)) H) Li:=by
 intro B G H σ ρ x y a b d Q I ra rb hf k;cases a<;>cases b<;>simp only[Li]at hf<;>cases hf
 exact⟨_,_,ra,rb,k G H _ I (Fz.refl G) rfl⟩
def vV:∀x y d,Li x y=some d->∃t,d= .bl t:=by
 intro x y d hf;cases x<;>cases y<;>simp only[Li]at hf<;>cases hf
 exact⟨_,rfl⟩
variable {a b:AI}{ma mb:ME}{pos:Pos}
def Al (ha:SE X a ma)(hb:SE X b mb)(hm:behindInMarks .IsNot b=false:=by rfl):STt X (.Compare a [.IsNot] [b] pos) (aO (m2 Li ma mb)):=De vS xR vV ha hb hm
end
end M
namespace M
open L2 PySem
def zgM:∀{ds:AA D} {ns:AA Int},eG ds=some ns->ds=ns.map .int
 |[],_,h=>by cases h;rfl
 | .int i::ds,_,h=>by
  refine bB h λms e1 e2=>?_
  cases e2;rw[zgM e1];rfl
 | .non::_,_,h=>by exact aG h
 | .bl _::_,_,h=>by exact aG h
 | .str _::_,_,h=>by exact aG h
 | .lst _::_,_,h=>by exact aG h
 | .tup _::_,_,h=>by exact aG h
 | .scr _::_,_,h=>by exact aG h
 | .exc _::_,_,h=>by exact aG h
 |(.dic _ _)::_,_,h=>by exact aG h
 |(.dit _ _)::_,_,h=>by exact aG h
 |(.obj _ _ _ _ _)::_,_,h=>by exact aG h
def vX (i:Nat)(m:ME):MS:=λρ=>if(ρ[i]?.bind Sl.items).isSome then(m ρ).bind λp=>p.2[i]?.bind λs=>s.items.bind λds=>match p.1 with
 | .lst es=>if ds.length+es.length<=16777216 then some (.next,p.2.set i (s.put (ds++es)))else none
 |_=>none else none
section
variable {X:Cx}{e:AI}{me:ME}{pos:Pos}
def Kp (i:Nat)(he:SE X e me)(hN:X.N[i]? =some x:=by rfl)(hv:dP X.env.scope x:=by trivial)(hd:(x==("__debug__":Str))=false:=by decide)(hcd:(x==("__classdict__":Str))=false:=by decide)(hbase:attributeBase (.Name x pos') "extend" X.env (eval (.Name x pos') X.env)=eval (.Name x pos') X.env:=by rfl)(hfew : ((backTo cpos (starEach [e] X.env)).all (λx => !x.1) && (backToKw cpos (keywordEach [] X.env)).all (λx => x.1.isSome)
   &&decide ([e].length+([]:AA Keyword).length+(if([]:AA Keyword).isEmpty then 0 else 1)<30))=true:=by rfl)(hline:(apos.endLine==cpos.line)=true:=by rfl)(hs:starEach [e] X.env=(false,eval e X.env)::starEach [] X.env:=by rfl):SS X (.Expr (.Call (.Attribute (.Name x pos') "extend" apos) [e] [] cpos) pos) (vX i me):=by
 refine he.el λt p s=>?_
 refine⟨_,Zo (kO Zc PySem.F.slot_list_extend PySem.F.type_list_extend zpp (eI hN hv hd hcd) (iG p oP hs) hbase hfew hline hs rfl) (by rfl),λB G H σ ρ fl ρ' E I hm k=>?_⟩;unfold vX at hm;refine aT hm λhso hm=>?_
 ·skip
  obtain⟨ds0,hso⟩:=qa0.mp hso;refine aP hso λs0 e0 q0=>?_
  obtain⟨l,xs0,h1,h2,h3,h4⟩:=I.wr e0 q0;refine aZ hm λd ρ1 e1 hm=>?_
  refine aP hm λs1 e2 hm=>?_
  refine aP hm λds e3 hm=>?_
  cases d with
  |lst es=>
   dsimp only at hm;refine aT hm λhl hm=>?_
   ·skip
    exists bM hm;refine⟨.ref l,h1,.inl ⟨rfl,_,SqL.of h3⟩,s B G H σ ρ (.lst es) ρ1 _ I e1 λG1 H1 v I1 f1 r1=>?_⟩;obtain⟨l',xs,k1,k2,k3,k4⟩:=I1.wr e2 e3;rw[h1]at k1;cases k1;obtain⟨b,zs,rfl,hb,rb⟩:=r1;refine⟨l,b,xs,zs,rfl,rfl,k3,I1.fz _ _ hb,by rw[k4.length,rb.length,fX];exact hl,?_⟩;exact k G1 _ σ (I1.write e2 e3 h1 (k4.append rb)) f1
  |_=>exact aG hm
end
end M
namespace M
open L2 PySem PySem.Spec
open PyProof.Rows hiding St
def iR2L (ma:MA):MA:=λρ=>(ma ρ).bind λp=>match p.1 with
 |[.int i,.int j]=>some (iL i (j-i).toNat,p.2)
 |_=>none
end M
namespace HT
open PySem PySem.Spec
def So (prog:AJ)(w:World)(A:Around)(P:Nat->AC->Prop)(bt:Nat->Nat->Bool)(s₂:AE)(wr:AA AD):Prop:=
 ∀i j vi vj h' tk (Q E:AC->AE->Prop),P i vi->P j vj->(∀b o,b∉wr->s₂.heap.get? b=some o->h'.get? b=some o)->Q (.bool (bt i j)) {s₂ with heap:=h',toks:=tk}->
  AG (model prog w) A (richCompare .Lt vi vj) Q E {s₂ with heap:=h',toks:=tk}
def zhz:(toString "min"++toString ".loop":String)="min.loop":=by decide
section
variable {prog:AJ}{w:World}{A:Around}{R:Result->AE->Prop}{I:AD}{fp wr:AA AD}{n:Nat}{P:Nat->AC->Prop}{St:Nat->AK->Prop}
def znP (W:Walks prog w A.in1 I fp wr n P St)(bt:Nat->Nat->Bool)(s₂:AE)(lt:So prog w A.in1 P bt s₂ wr)(S:AD)(hSf:S∉fp)(hS0:s₂.heap.get? S=none)(hR:∀v h' tk,P (argBest bt (n-1)) v->(∀b o,b∉wr->s₂.heap.get? b=some o->h'.get? b=some o)->R (.ok (.ret v)) {s₂ with heap:=h',toks:=tk}):
  ∀(k j:Nat) (h:AK) (tk:Nat) (vb:AC) (c:Nat),n-(j+1)=k->j+1<=n->St (j+1) h->P (argBest bt j) vb->
  h.get? S=some {cls:= .type "list",dict:=none,data:= .seq #[vb,vb] c,slots:= #[]}->(∀b o,b∉wr->s₂.heap.get? b=some o->h.get? b=some o)->
  codeAny (model prog w) A (.builtin "min.loop" ⟨[.ref I,.none,.ref S],[]⟩) R {s₂ with heap:=h,toks:=tk}:=by
 have hSw:S∉wr:=λz=>hSf (W.sub _ z)
 have neS:∀b o,s₂.heap.get? b=some o->S≠b:=λb o e z=>by rw[<-z,hS0]at e;cases e
 intro k
 induction k with
 |zero=>
  intro j h tk vb c hk hj hst hPb hS hkp;have hin:j+1=n:=∅
  refine codeAny_builtin F.entry_min_loop ?_;rw[qci Hs _];show AG _ A.in1 (seqItems? (.ref S)>>=_) _ _ _;refine aJ (tL hS rfl ?_);show AG _ A.in1 (tryCatch (pyNext (.ref I)) _>>=_) _ _ _;refine aJ (Zv (W.done _ _ _ (hin ▸ hst) λh' tk' hk'=>?_));have hS':=hk' S _ hSw hS;show AG _ A.in1 (updateSeq S (λ_=> #[])>>=_) _ _ _;refine aJ ?_;refine wpAny_updateSeq hS' rfl (aJ (Fv (qaF ?_)));exact hR vb _ tk' (by rw[<-hin];exact hPb) λb o hbw e=>(vA _ _ (neS b o e)).trans (hk' b o hbw (hkp b o hbw e))
 |succ k ih=>
  intro j h tk vb c hk hj hst hPb hS hkp;have hlt:j+1<n:=∅
  refine codeAny_builtin F.entry_min_loop ?_;rw[qci Hs _];show AG _ A.in1 (seqItems? (.ref S)>>=_) _ _ _;refine aJ (tL hS rfl ?_);show AG _ A.in1 (tryCatch (pyNext (.ref I)) _>>=_) _ _ _;refine aJ (Zv (W.item (j+1) _ _ _ hlt hst λv h' tk' hP hst' hk'=>?_));have hS':=hk' S _ hSw hS;have hkp':∀b o,b∉wr->s₂.heap.get? b=some o->h'.get? b=some o:=λb o hb e=>hk' b o hb (hkp b o hb e)
  show AG _ A.in1 (tryCatch (holding [v,v] (richCompare .Lt v vb>>=_)) _>>=_) _ _ _;refine aJ (Zv (gV (aJ (lt (j+1) (argBest bt j) v vb h' tk' _ _ hP hPb hkp' ?_))));refine aJ (gV (Nf ?_));refine aJ (Fv (qaF ?_));cases hb:bt (j+1) (argBest bt j)with
  |true=>
   simp only[if_true];refine aJ ?_;refine wpAny_updateSeq hS' rfl (aJ (Fv ?_));rw[zhz];refine qaF ⟨qcm Hs _,ih (j+1) _ tk' v _ ∅ hlt (W.frame _ _ _ hst' λb hbf o e=>?_) (by simp only[argBest,hb,if_true];exact hP) (Vy _ hS' rfl) λb o hbw e=>?_⟩
   ·exact(vA _ _ (λz:S=b=>hSf (by rw[z];exact hbf))).trans e
   ·exact(vA _ _ (neS b o e)).trans (hkp' b o hbw e)
  |false=>
   simp only[tN,dG];refine aJ (Fv ?_);rw[zhz];exact qaF ⟨qcm Hs _,ih (j+1) _ tk' vb c ∅ hlt hst' (by simp only[argBest,hb,tN,dG];exact hPb) hS' hkp'⟩
end
section
variable {prog:AJ}{w:World}{A:Around}{E:AC->AE->Prop}{s:AE}
def zoe {Q:AC->AE->Prop}(h : AG (model prog w) A.in1 (pyIter x) (λit s₂ => ∃ I fp wr n P St bt, it = .ref I /\ Walks prog w A.in1 I fp wr n P St /\ St 0 s₂.heap /\ (∀ b ∈ fp, b < s₂⁻¹) /\ 0 < n /\ So prog w A.in1 P bt s₂ wr /\
   ∀v h' tk,P (argBest bt (n-1)) v->(∀b o,b∉wr->s₂.heap.get? b=some o->h'.get? b=some o)->Q v {s₂ with heap:=h',toks:=tk}) E s):
  AG (model prog w) A (call (.builtin "min") [x]) Q E s:=by
 refine call_function_tree F.kind_min F.plain_min F.entry_min (F.args_min1 _) ?_;show AG _ A.in1 (Builtin.Builtins.bindParams "min" ["key","default"] 0 ⟨[],[]⟩>>=_) _ _ s;refine aJ (wpAny_of_eq (show Builtin.Builtins.bindParams "min" ["key","default"] 0 ⟨[],[]⟩=pure [none,none]from rfl) ?_);refine aJ (qaF ?_);refine aJ (jT h (λit s₂ h₂=>?_) λ_ _ e=>e);obtain⟨I,fp,wr,n,P,St,bt,rfl,W,hst,hfp,hn,lt,hQ⟩:=h₂;refine aJ (tE ?_);have hSf:s₂⁻¹∉fp:=λhm=>mY _ (hfp _ hm)
 have hSw:s₂⁻¹∉wr:=λz=>hSf (W.sub _ z)
 have hS0:s₂.heap.get? s₂⁻¹=none:=by
  cases q:s₂.heap.get? s₂⁻¹ with
  |none=>rfl
  |some o=>exact AH (cK q) (mY _)
 have neS:∀b o,s₂.heap.get? b=some o->s₂⁻¹≠b:=λb o e z=>by rw[<-z,hS0]at e;cases e
 rw[zhz];refine qaF ⟨qcm Hs _,codeAny_builtin F.entry_min_loop ?_⟩;rw[qci Hs _];have hS:(s₂.heap.push {cls:= .type "list",data:= .seq #[]}).get? s₂⁻¹=some {cls:= .type "list",data:= .seq #[]}:=dO _ rfl;show AG _ A.in1 (seqItems? (.ref s₂⁻¹)>>=_) _ _ _;refine aJ (tL hS rfl ?_);show AG _ A.in1 (tryCatch (pyNext (.ref I)) _>>=_) _ _ _;refine aJ (Zv (W.item 0 _ _ _ hn (W.frame _ _ _ hst λb _ o e=>bP _ e) λv h' tk hP hst' hk'=>?_));have hS':=hk' _ _ hSw hS;show AG _ A.in1 (updateSeq s₂⁻¹ (λ_=> #[v,v])>>=_) _ _ _;refine aJ ?_;refine wpAny_updateSeq hS' rfl ?_;rw[zhz];refine qaF ⟨qcm Hs _,znP W bt s₂ lt s₂⁻¹ hSf hS0 hQ _ 0 _ tk v _ rfl hn (W.frame _ _ _ hst' λb hbf o e=>?_) hP (Vy _ hS' rfl) λb o hbw e=>?_⟩
 ·exact(vA _ _ (λz:s₂⁻¹=b=>hSf (by rw[z];exact hbf))).trans e
 ·exact(vA _ _ (neS b o e)).trans (hk' b o hbw (bP _ e))
end
end HT
namespace M
open L2 PySem PySem.Spec
open PyProof.Rows hiding St
def Et:AA D->AB (AA (AA Int))
 |[]=>some []
 | .tup ds::r=>(eG ds).bind λns=>(Et r).map λnss=>ns::nss
 |_::_=>none
def Cr (nss:AA (AA Int)):Nat:=argBest (λi j=>HT.cY (nss.getD i []) (nss.getD j [])) (nss.length-1)
def Yn:AA D->AB D
 |[.lst ds]=>(Et ds).bind λnss=>if nss.isEmpty then none else ds[Cr nss]?
 |_=>none
theorem zhB {as:AA AD}{its:AA AC}(r:Vals (as.map V.ref) its){i:Nat}{v:AC}(e:its[i]? =some v):∃a,as[i]? =some a/\v= .ref a:=by
 have hl:=r.length;have hi:i<its.length:=(qat.mp e).1;rw[cO]at hl;have e2:(as.map V.ref)[i]? =some (.ref as[i]):=by rw[cR,bA ∅];rfl
 obtain⟨u,h1,h2⟩:=r.get e2;rw[e]at h1;cases h1;exact⟨_,bA ∅,h2⟩
theorem zir {K:AF}{G:Hp}:∀{ys:AA V} {ds:AA D} {nss:AA (AA Int)},RepL K G ys ds->Et ds=some nss->∃as:AA AD,ys=as.map V.ref/\as.length=nss.length/\∀(i:Nat) a ns,as[i]? =some a->nss[i]? =some ns->G a=some (.tup (ns.map V.int))
 |_,[],nss,r,e=>by cases e;cases r;exact⟨[],rfl,rfl,λi a ns h=>by simp at h⟩
 |_,d::ds,nss,⟨x,ys,e0,q,r⟩,e=>by
  subst e0;cases d with
  |tup es=>
   refine aP e λns e1 e=>?_
   refine bB e λms e2 e3=>?_
   subst e3;obtain⟨as,rfl,hl,h⟩:=zir r e2;obtain⟨a,zs,rfl,ha,rz⟩:=q;rw[Rn e1]at rz;rw[RepL.ints_eq rz]at ha;refine⟨a::as,rfl,by rw[eS,eS,hl],λi b ns' h1 h2=>?_⟩;cases i with
   |zero=>simp at h1 h2;subst h1 h2;exact ha
   |succ i=>exact h i b ns' (~~~h1) (~~~h2)
  |non=>exact aG e
  |bl _=>exact aG e
  |int _=>exact aG e
  |str _=>exact aG e
  |lst _=>exact aG e
  |scr _=>exact aG e
  |exc _=>exact aG e
  |dic _ _=>exact aG e
  |dit _ _=>exact aG e
  |obj _ _ _ _ _=>exact aG e
def Dm (K:AF):AA V->Hp->VK->Prop:=λxs H Q=>∃(p:AD) (as:AA AD) (nss:AA (AA Int)),xs=[.ref p]/\nss≠[]/\as.length=nss.length/\SqL K H p (as.map V.ref)/\(∀(i:Nat) a ns,as[i]? =some a->nss[i]? =some ns->SqT K H a (ns.map V.int))/\∀a,as[Cr nss]? =some a->Q (.ref a) H
theorem zo3 {A:Around}(h:A.units+64<cLine):A.in1.units<cLine:=by
 have:A.in1.units=A.units+1\/A.in1.units=A.units:=by first|exact .inr rfl|exact .inl rfl|(simp[Around.in1,Around.units])
 lia
theorem znn {X:Cx}(hc:X.calm=true)(hu:X.A.units+64<cLine):iA X (.builtin "min") (Dm X.K):=by
 intro AM s σ H xs us Q I r h;obtain⟨p,as,nss,rfl,ne,hl,hq,ht,q⟩:=h;obtain⟨u,rfl,ru⟩:=oU r;cases ru;refine HT.zoe (Va (A:=X.A.in1) (I.ok.hd hc) I (.inl hq) λits s₂ St rv W st hfp fin=>?_);have hl2:=rv.length;rw[cO]at hl2;have hp:0<its.length:=by rw[<-hl2,hl];exact qcn.mpr ne
 have hu':X.A.in1.units<cLine:=zo3 hu;have get:∀i a,as[i]? =some a->SqT X.K H a ((nss.getD i []).map V.int):=λi a e=>by
  have hi:i<nss.length:=by rw[<-hl];exact(qat.mp e).1
  rw[jV,bA hi];exact ht i a _ e (bA hi)
 refine⟨_,_,_,_,_,_,λi j=>HT.cY (nss.getD i []) (nss.getD j []),rfl,W,st,hfp,hp,λi j vi vj h' tk Q' E' hi hj hk qq=>?_,λv h' tk hP hk=>?_⟩
 ·obtain⟨a,ea,rfl⟩:=zhB rv hi;obtain⟨b,eb,rfl⟩:=zhB rv hj;have I':=fin h' tk hk;obtain⟨its1,r1,p1,_⟩:=I'.tuple (get i a ea);obtain⟨its2,r2,p2,_⟩:=I'.tuple (get j b eb);exact HT.znf p1 p2 (zeX r1) (zeX r2) hu' qq
 ·obtain⟨a,ea,rfl⟩:=zhB rv hP;refine⟨.ref a,H,fin h' tk hk,rfl,q a ?_⟩;unfold Cr;rw[<-hl,hl2];exact ea
def xD :VC X (Dm X.K) Yn:=by
 intro B G H σ ρ xs ds d Q I r hf k
 match ds,hf with
 |[.lst es],hf=>
  refine aP hf λnss e1 hf=>?_
  split at hf
  ·exact aG hf
  ·rename_i ne;obtain⟨x,rfl,ra⟩:=r.one;obtain⟨p,ys,rfl,hp,ry⟩:=I.lst ra;obtain⟨as,rfl,hl,h⟩:=zir ry e1;refine⟨p,as,nss,rfl,λz=>ne (by rw[z];rfl),hl,SqL.of hp,λi a ns h1 h2=>SqT.of (I.fz _ _ (h i a ns h1 h2)),λa ea=>?_⟩;obtain⟨y,e2,ry2⟩:=ry.get hf;rw[cR,ea]at e2;cases e2;exact k G H _ I (Fz.refl G) ry2
 |[],hf=>exact aG hf
 |[.non],hf=>exact aG hf
 |[.bl _],hf=>exact aG hf
 |[.int _],hf=>exact aG hf
 |[.str _],hf=>exact aG hf
 |[.tup _],hf=>exact aG hf
 |[.scr _],hf=>exact aG hf
 |[.exc _],hf=>exact aG hf
 |[.dic _ _],hf=>exact aG hf
 |[.dit _ _],hf=>exact aG hf
 |[.obj _ _ _ _ _],hf=>exact aG hf
 |a::b::c,hf=>exact AH hf (by unfold Yn;simp)
def yM (hc:X.calm=true)(hu:X.A.units+64<cLine)(ml:X.mg "min"=none)(ha:SA X [e] ma)(hg:Gl X "min":=by rfl)(he:starEach [e] X.env=(false,eval e X.env)::starEach [] X.env:=by rfl):SE X (.Call (.Name "min" p) [e] [] pos) (mC Yn ma):=
 Bq (znn hc hu) xD (by decide+kernel) ml ha hg (by decide) (by decide) he rfl
theorem nn {α:Type}{o:AB α}{x:α}(e:o=some x):o≠none:=by rw[e];exactλz=>by cases z
abbrev MX:=R->AB Str
def tU (mc:MT)(mb:MS):Nat->MS
 |0,_=>none
 |n+1,ρ=>(mc ρ).bind λp=>if p.1 then(mb p.2).bind λq=>match q.1 with
  | .next=>tU mc mb n q.2
  | .cont=>tU mc mb n q.2
  | .brk=>some (.next,q.2)
  | .ret r=>some (.ret r,q.2)
  else some (.next,p.2)
def zkb (fuel:Nat)(hp:PassesOwn (model X.prog X.w) X.A X.env X.xe)(hc:STt X c mc)(hb:SSs X body mb):SS X (.While c body [] pos) (tU mc mb fuel):=by
 refine hc.el λtc pc sc=>?_
 refine hb.el λtb pb sb=>?_
 refine⟨_,nS hp pc pb,λB G H σ ρ fl ρ' E I hm k=>?_⟩;refine⟨λm σ' H'=>∃G' ρ1,SI X.K B G' H' σ' ρ1/\Fz G G'/\tU mc mb m ρ1=some (fl,ρ'),⟨fuel,G,ρ,I,Fz.refl G,hm⟩,λm σ1 H1 w=>?_⟩;obtain⟨G1,ρ1,I1,f1,e1⟩:=w;cases m with
 |zero=>exact aG e1
 |succ m=>
  refine aZ e1 λb ρ2 e2 e1=>?_
  refine sc B G1 H1 σ1 ρ1 b ρ2 _ I1 e2 λG2 H2 I2 f2=>?_
  dsimp only at e1;cases b with
  |false=>
   rw[if_neg (by simp)]at e1 ⊢;exists bM e1;exact k G2 H2 σ1 I2 (f1.trans f2)
  |true=>
   rw[if_pos rfl]at e1 ⊢;refine aZ e1 λf ρ3 e3 e1=>?_
   refine⟨λσ' H'=>∃G' ρ1,SI X.K B G' H' σ' ρ1/\Fz G G'/\tU mc mb m ρ1=some (fl,ρ'),λσ' H' h=>⟨m,Ot m,h⟩,?_⟩;refine sb B G2 H2 σ1 ρ2 f ρ3 _ I2 e3 ?_;have ff:=f1.trans f2;cases f with
   |next=>exactλG' H' σ' I3 f3=>⟨G',ρ3,I3,ff.trans f3,e1⟩
   |cont=>exactλG' H' σ' I3 f3=>⟨G',ρ3,I3,ff.trans f3,e1⟩
   |brk=>exists bM e1;exactλG' H' σ' I3 f3=>k G' H' σ' I3 (ff.trans f3)
   |ret r=>exists bM e1;exactλG' H' σ' v I3 f3 rr=>k G' H' σ' v I3 (ff.trans f3) rr
end M
namespace M
open L2 PySem
def lV:Sl->Sl->Bool
 | .own ds,.own es=>match eG ds,eG es with
  |some a,some b=>a==b
  |_,_=>false
 | .par ds,.par es=>match eG ds,eG es with
  |some a,some b=>a==b
  |_,_=>false
 | .own _,_=>false
 | .par _,_=>false
 | .tre _,_=>false
 | .ptr _,_=>false
 |_,_=>true
def zkN (h:(match eG ds,eG es with
  |some a,some b=>a==b
  |_,_=>false)=true):∃ns:AA Int,ds=ns.map .int/\es=ns.map .int:=by
 cases a:eG ds with
 |none=>rw[a]at h;cases h
 |some x=>
  cases b:eG es with
  |none=>rw[a,b]at h;cases h
  |some y=>
   rw[a,b]at h;have e:x=y:= ~~~h
   subst e;exact⟨x,zgM a,zgM b⟩
end M
namespace M
open L2 PySem PySem.Spec
open PyProof.Rows hiding St
def Sl.putT (s:Sl)(t:T):Sl:=match s with
 | .tre _=> .tre t
 | .ptr _=> .ptr t
 |s=>s
def Sl.tree:Sl->AB T
 | .tre t=>some t
 |_=>none
section
variable {K:AF}{B:Bs}{G G' H H':Hp}{σ:St}{ρ:R}
def SI.setT (I:SI K B G H σ ρ)(r:RepT K G H v t A)(nd:A.Nodup)(hA:∀a∈A,G a=none/\B.H a=none/\Nw K G H σ ρ a):SI K B G H (σ.set i (some v)) (ρ.set i (.tre t)):=
 I.chg I.fz (Fz.refl G) I.new I.keep I.there (λj s a _ e w g _=>⟨g,rfl,λ⟨v2,A2,k1,k2,k3⟩=>by
  cases k1;rw[k2.det r λ_ _=>rfl]at k3;exact(hA a k3).2.2 j s e w⟩) ⟨v,A,rfl,r,nd,λa m=>⟨(hA a m).1,(hA a m).2.1⟩⟩
open Classical in
end
section
variable {J κ:Type}[DecidableEq J][DecidableEq κ]
def iU:AA J->AA D->J->AB D
 |k::ks,d::ds,j=>if k=j then some d else iU ks ds j
 |_,_,_=>none
def gJ (ks:AA J)(ds:AA D)(j:J)(d:D):AA J×AA D:=if ks.contains j then(ks,List.zipWith (λk x=>if k=j then d else x) ks ds)else(ks++[j],ds++[d])
variable {K:AF}{G:Hp}{em:J->κ}
def zlm (inj:∀a b,em a=em b->a=b):∀{ks:AA J} {ds:AA D} {ys:AA (κ×V)} {j:J} {d:D},ys.map (·.1)=ks.map em->RepL K G (ys.map (·.2)) ds->iU ks ds j=some d->∃v,eK ys (em j)=some v/\RepD K G v d
 |[],_,_,_,_,_,_,h=>by exact aG h
 |_::_,[],_,_,_,_,_,h=>by exact aG h
 |k::ks,x::ds,[],j,d,e,_,_=>by cases e
 |k::ks,x::ds,y::ys,j,d,e,⟨z,zs,e1,r1,r2⟩,h=>by
  cases e1;have e2:=List.cons.inj e;unfold iU at h
  by_cases q:k=j
  ·rw[if_pos q]at h;cases h;subst q;exact⟨y.2,zl0 e2.1,r1⟩
  ·rw[if_neg q]at h;obtain⟨v,h1,h2⟩:=zlm inj e2.2 r2 h;refine⟨v,?_,h2⟩;rw[zjY λz=>q (inj _ _ (e2.1.symm.trans z)),h1]
def Sm (inj:∀a b,em a=em b->a=b):∀{ks:AA J} {ds:AA D} {ys:AA (κ×V)} {j:J},ys.map (·.1)=ks.map em->RepL K G (ys.map (·.2)) ds->iU ks ds j=none->eK ys (em j)=none
 |[],_,[],_,_,_,_=>rfl
 |[],_,_::_,_,e,_,_=>by cases e
 |_::_,_,[],_,e,_,_=>by cases e
 |k::ks,[],y::ys,_,_,r,_=>by cases r
 |k::ks,x::ds,y::ys,j,e,⟨z,zs,e1,r1,r2⟩,h=>by
  cases e1;have e2:=List.cons.inj e;unfold iU at h
  by_cases q:k=j
  ·rw[if_pos q]at h;cases h
  ·rw[if_neg q]at h;rw[zjY λz=>q (inj _ _ (e2.1.symm.trans z)),Sm inj e2.2 r2 h]
def zkK (inj:∀a b,em a=em b->a=b)(e:ys.map (·.1)=ks.map em)(r:RepL K G (ys.map (·.2)) ds):(eK ys (em j)).isSome=(iU ks ds j).isSome:=by
 cases h:iU ks ds j with
 |none=>rw[Sm inj e r h];rfl
 |some d=>obtain⟨v,h1,_⟩:=zlm inj e r h;rw[h1];rfl
def Lo (inj:∀a b,em a=em b->a=b)(e:ys.map (·.1)=ks.map em)(r:RepL K G (ys.map (·.2)) ds)(rv:RepD K G v d):
  (eL ys (em j) v).map (·.1)=(gJ ks ds j d).1.map em/\RepL K G ((eL ys (em j) v).map (·.2)) (gJ ks ds j d).2:=by
 have any:(ys.any λkv=>decide (kv.1=em j))=ks.contains j:=by
  clear r
  induction ys generalizing ks with
  |nil=>cases ks with
   |nil=>rfl
   |cons _ _=>cases e
  |cons y ys ih=>cases ks with
   |nil=>cases e
   |cons k ks=>
    have e2:=List.cons.inj e;rw[uA,ih e2.2,Dj];congr 1
    by_cases q:j=k
    ·subst q;simp[e2.1]
    ·rw[gQ (λz=>q (inj _ _ (e2.1.symm.trans z)).symm)];simp[q]
 unfold eL gJ;rw[any]
 by_cases q:ks.contains j=true
 ·rw[if_pos q,if_pos q]
  constructor
  ·rw[gC,<-e];apply qcq;intro a _;simp only[Function.comp]
   split<;>rfl
  ·clear any q;rw[gC]
   induction ys generalizing ks ds with
   |nil=>cases ks with
    |nil=>exact RepL.nil
    |cons _ _=>cases e
   |cons y ys ih=>cases ks with
    |nil=>cases e
    |cons k ks=>
     have e2:=List.cons.inj e;cases ds with
     |nil=>cases r
     |cons x ds=>
      obtain⟨z,zs,e1,r1,r2⟩:=r;cases e1;refine RepL.cons ?_ (ih e2.2 r2);simp only[Function.comp]
      by_cases q:k=j
      ·rw[if_pos q,if_pos (by rw[<-q];exact e2.1)];exact rv
      ·rw[if_neg q,if_neg λz=>q (inj _ _ (e2.1.symm.trans z))];exact r1
 ·rw[if_neg q,if_neg q];rw[kQ,kQ,kQ,e];exact⟨rfl,r.append (.cons rv .nil)⟩
end
def Ey (a b:Int)(h:kI a=kI b):a=b:=by cases h;rfl
def Sl.dic:Sl->AB (AA Int×AA D)
 | .tre (.dic ks ds)=>some (ks,ds)
 | .val (.dic ks ds)=>some (ks,ds)
 |_=>none
def tDI (j:Nat)(neg:Bool)(mk:ME):MT:=λρ=>(mk ρ).bind λp=>match p.1 with
 | .int k=>(p.2[j]?.bind Sl.dic).map λq=>(((iU q.1 q.2 k).isSome !=neg),p.2)
 |_=>none
def Bh (F:AA D->AA D->AB (Sl×AA D))(mo:MO)(ma:MA):ME:=λρ=>(mo ρ).bind λp=>(ma p.2).bind λq=>(F p.1 q.1).bind λr=>match r.1 with
 | .val d=>some (d,q.2)
 | .own ds=>some (.lst ds,q.2)
 |_=>none
end M
namespace HT
open L2 PyProof.Rows PySem PySem.Spec
section
variable {prog:AJ}{w:World}{A:Around}{E:AC->AE->Prop}{I:AD}{fp wr:AA AD}{n:Nat}{St:Nat->AK->Prop}
theorem zkw {its:AA AC}(W:Walks prog w A I fp wr n (λi v=>its[i]? =some v) St):∀(m i:Nat) (s:AE) (Q:AA AC->AE->Prop),i+m<=n->St i s.heap->
  (∀h' tk,St (i+m) h'->(∀b o,b∉wr->s.heap.get? b=some o->h'.get? b=some o)->Q ((its.drop i).take m) {s with heap:=h',toks:=tk})->AG (model prog w) A (draw (.ref I) m) Q E s
 |0,i,s,Q,_,st,hq=>qaF (~~~hq s.heap s.toks st λ_ _ _ e=>e)
 |m+1,i,s,Q,hi,st,hq=>by
  show AG _ _ (pyNext (.ref I)>>=_) Q E s;refine aJ (W.item i s _ _ ∅ st λv h1 tk1 hv st1 k1=>?_);refine aJ (gV (zkw W m (i+1) _ _ ∅ st1 λh2 tk2 st2 k2=>qaF ?_));have:=hq h2 tk2 (by rw[show i+(m+1)=i+1+m by lia];exact st2) λb o nb e=>k2 b o nb (k1 b o nb e)
  obtain⟨hl,ev⟩:=qat.mp hv;rw[qbO hl,qcr,ev]at this;exact this
end
end HT
namespace L2
open PyProof.Rows PySem PySem.Spec
variable {X:Cx}{pos:Pos}
def Sn (K:AF)(n:Nat)(t:tP):TG:=λv σ H Q=>∃a xs,v= .ref a/\SqL K H a xs/\xs.length=n/\t xs σ H Q
theorem uL {es:AA AI}{k:Nat}{t:tP}{n:Nat}(hc:X.calm=true)(h:Ib X es t)(hn:(assignEach es X.env).length=n:=by rfl)(hst:(assignEach es X.env).findIdx? (·.1)=none:=by rfl):PG X (.Tuple es k pos) (Sn X.K n t):=by
 intro AM s σ H v u Q I r hw;obtain⟨a,xs,e1,hq,hl,hw⟩:=hw;subst e1;cases r;obtain⟨its0,rv0,pl,hz⟩:=I.list hq;rw[assign_Tuple];refine aJ (Zb ?_);unfold unpack;rw[hst,hn];refine aJ (gV ?_);unfold unpackItems;refine aJ ?_;unfold notIterableAtAll;refine aJ (wpAny_specialOf pl.isList.typeIs PySem.F.slot_list_iter.lookup ?_);refine qaF ?_;simp only[tN,dG];refine aJ (gV (M.Va (A:=X.A) (I.ok.hd hc) I (.inl hq) λits s₂ St rv W st hfp fin=>?_));have ln:its.length=n:=by rw[<-rv.length,hl]
 refine aJ (gV (HT.zkw W n 0 s₂ _ ∅ st λh1 tk1 st1 k1=>?_));have hall:List.take n (List.drop 0 its)=its:=by rw[List.drop_zero];exact oO ∅
 rw[hall,if_neg ∅];refine aJ (gV (W.done _ _ _ (by rw[ln,<-Tf n];exact st1) λh2 tk2 k2=>?_));simp only[Option.isSome_none,tN,dG];refine qaF ?_;exact h AM _ σ H xs _ Q (fin h2 tk2 λb o nb e=>k2 b o nb (k1 b o nb e)) rv hw
end L2
namespace M
open L2 PySem PySem.Spec
open PyProof.Rows hiding St
def Ch.sl:Ch->Sl
 | .d x=> .val x
 | .l ds=> .own ds
 | .t xss=> .tre (.lst (xss.map .l))
def pX:AA Nat->AA Ch->R->R
 |i::is,c::cs,ρ=>pX is cs (ρ.set i c.sl)
 |_,_,ρ=>ρ
def sUnT (j:Nat)(is:AA Nat):MS:=λρ=>match ρ[j]? with
 |some (.tre (.lst cs))=>if cs.length=is.length then some (.next,pX is cs (ρ.set j .emp))else none
 |_=>none
end M
namespace M
open L2 PySem PySem.Spec
open PyProof.Rows hiding St
open Classical in
def fMT (N:Nat)(m:MS):AA D->T->AA D->AB (Sl×AA D):=λcs t ds=>(m (.par cs:: .tre t::(ds.map .val++List.replicate (N-(ds.length+2)) .emp))).bind λp=>match p.1,(p.2[0]?:AB Sl)with
 |Fl.ret r,some (Sl.par out)=>some (r,out)
 |Fl.next,some (Sl.par out)=>some (.val .non,out)
 |_,_=>none
abbrev MP':=R->AB (AA Ch×R)
def cOwn (i:Nat)(r:MP'):MP':=λρ=>match ρ[i]? with
 |some (.own ds)=>(r (ρ.set i .emp)).map λq=>(.l ds::q.1,q.2)
 |_=>none
end M
namespace M
open L2 PySem PySem.Spec
open PyProof.Rows hiding St
def Ch.D:Ch->M.D
 | .d x=>x
 | .l ds=> .lst ds
 | .t xss=> .lst (xss.map .lst)
section
variable {K:AF}{B:Bs}{G G' H H':Hp}{σ:St}{ρ:R}
def zjL (fg:Fz G Gz):∀{xs:AA V} {dss:AA (AA D)} {A:AA AD},RepTb K G H xs dss A->(∀a∈A,Gz a=H a)->RepL K Gz xs (dss.map .lst)
 |[],[],_,_,_=>rfl
 |x::xs,ds::dss,_,⟨r,ys,A2,e1,e2,e3,e4,e5⟩,h=>⟨x,xs,rfl,⟨r,ys,e1,by rw[h r (by rw[e5];simp)];exact e2,e3.mono fg⟩,zjL fg e4 λa m=>h a (by rw[e5];simp[m])⟩
 |[],_::_,_,h,_=>h.elim
 |_::_,[],_,h,_=>h.elim
def zht (fg:Fz G Gz):∀{xs:AA V} {cs:AA Ch} {A:AA AD},RepCs K G H xs cs A->(∀a∈A,Gz a=H a)->RepL K Gz xs (cs.map Ch.D)
 |[],[],_,_,_=>rfl
 |x::xs,.d y::cs,_,⟨A1,A2,r1,r2,e⟩,h=>⟨x,xs,rfl,r1.1.mono fg,zht fg r2 λa m=>h a (by rw[e];exact hV _ m)⟩
 |x::xs,.l ds::cs,_,⟨A1,A2,⟨l,ys,e1,e2,e3,e4⟩,r2,e⟩,h=>⟨x,xs,rfl,⟨l,ys,e1,by rw[h l (by rw[e,e4];simp)];exact e2,e3.mono fg⟩,zht fg r2 λa m=>h a (by rw[e];exact hV _ m)⟩
 |x::xs,.t xss::cs,_,⟨A1,A2,⟨p,ys,A3,e1,e2,e3,e4⟩,r2,e⟩,h=>⟨x,xs,rfl,⟨p,ys,e1,by rw[h p (by rw[e,e4];simp)];exact e2,zjL fg e3 λa m=>h a (by rw[e,e4];simp[m])⟩,zht fg r2 λa m=>h a (by rw[e];exact hV _ m)⟩
 |[],_::_,_,h,_=>h.elim
 |_::_,[],_,h,_=>h.elim
def znG (I:SI K B G H σ ρ)(e:ρ[i]? =some s)(w:bR K G H σ[i]? a s):Nw K G H σ (ρ.set i .emp) a:=λj t ej w'=>by
 by_cases z:j=i
 ·subst z;rw[jR,if_pos rfl]at ej
  split at ej
  ·cases ej;exact w'
  ·exact aG ej
 ·rw[iD (Ne.symm z)]at ej;exact I.dis j i t s a z ej e w' w
open Classical in
def gU (G H:Hp)(A:AA AD):Hp:=λb=>if b∈A then H b else G b
def iX {G H:Hp}(h:b∈A):gU G H A b=H b:=by unfold gU;rw[if_pos h]
def kS {G H:Hp}(h:b∉A):gU G H A b=G b:=by unfold gU;rw[if_neg h]
def zo2 {G H:Hp}(hA:∀a∈A,G a=none):Fz G (gU G H A):=λb o e=>by
 rw[kS λm=>by rw[hA b m]at e;cases e];exact e
def SI.frzA (I:SI K B G H σ ρ)(hA:∀a∈A,G a=none/\B.H a=none/\Nw K G H σ ρ a):SI K B (gU G H A) H σ ρ:=
 I.move (λa u q=>by
  by_cases m:a∈A
  ·rw[iX m]at q;exact q
  ·rw[kS m]at q;exact I.fz a u q) (zo2 λa m=>(hA a m).1) (λb u q=>by
  by_cases m:b∈A
  ·exact .inr (hA b m).2.1
  ·rw[kS m]at q;exact I.new b u q) I.keep I.there (λi s a e w g _=>⟨by rw[kS λm=>(hA a m).2.2 i s e w];exact g,rfl⟩)
end
def sTA (i j:Nat):MS:=λρ=>match ρ[i]?,ρ[j]? with
 |some (.tre (.lst cs)),some (.own ds)=>if cs.length<16777216 then some (.next,(ρ.set j .emp).set i (.tre (.lst (cs++[.l ds]))))else none
 |_,_=>none
abbrev MQ:=R->AB D
def eTI (j:Nat)(mi mk:MQ):ME:=λρ=>(mi ρ).bind λa=>(mk ρ).bind λb=>match a,b,ρ[j]? with
 | .int n,.int m,some (.tre (.lst cs))=>(atI cs n).bind λc=>match c with
  | .l ds=>(atI ds m).map λd=>(d,ρ)
  |_=>none
 |_,_,_=>none
section
variable {X:Cx}{x y:Str}{pos p' q' tpos:Pos}
variable {e:AI}{es:AA AI}{ma:MA}{k k' n:Nat}{F:AA D->AB Sl}
variable {a b:AI}{mi mk:MQ}
def sPar (i j:Nat)(ma:MA):MS:=λρ=>(ma ρ).bind λp=>match p.1 with
 |[c,d]=>some (.next,(p.2.set i (.val c)).set j (.val d))
 |_=>none
end
end M
namespace M
local macro_rules | `(tactic| ac_rfl) => `(tactic| first | exact M.nA (by decide) | exact M.nB (by decide) | exact M.nC (by decide) | exact M.nL (by assumption) | exact Nat.ne_of_lt (by assumption) | lia)
open L2 PySem PySem.Spec
open PyProof.Rows hiding St
open Sem (wp)
variable {Q E:AC->AE->Prop}{i:Nat}{prog:AJ}{w:World}{A:Around}{s:AE}{tg:AI}{u:AC}{X:Cx}{p pos:Pos}
abbrev lF (h:AK)(z TI TO:AD)(f0:AC)(b:Bool):Prop:=h.get? z=some {cls:= .type "zip",data:= .fields #[f0,.bool b,.bool false,.ref TI,.ref TO]}
def ZipAt (h:AK)(z TI TO:AD):Prop:=∃f0 b,lF h z TI TO f0 b/\(f0= .none\/∃T:Nat,f0=rawInt T)
section
variable {prog:AJ}{w:World}{A:Around}{E:AC->AE->Prop}{s:AE}
def zpP {Q:AB Obj->AE->Prop}(h:Q (s.heap.get? a) s):AG (model prog w) A (loadIfAlive a) Q E s:=λΓ p hΓ=>by
 show Sem.wp _ _ (Sem.loadIfAlive a Sem.pure) _ _ p s;rw[Sem.wp_loadIfAlive];exact(qaF (M:=model prog w) (A:=A) (E:=E) h) Γ p hΓ
theorem zoq {z TI TO:AD}{f0:AC}{b:Bool}(hz:lF s.heap z TI TO f0 b)(hf:f0= .none\/∃T:Nat,f0=rawInt T){Q:Bool->AE->Prop}(h1:Q true s)(h2:∀h',lF h' z TI TO f0 true->Heap.SameBut z s.heap h'->Q false {s with heap:=h'}):AG (model prog w) A (Builtin.SmallTypes.ownedTupleIsFree (.ref z)) Q E s:=by
 unfold Builtin.SmallTypes.ownedTupleIsFree;refine aJ (kU hz rfl (x:=f0) rfl ?_);rcases hf with rfl|⟨T,rfl⟩
 ·exact qaF h1
 ·refine(?_:AG _ _ (loadIfAlive _>>=_) _ _ _);refine aJ (zpP ?_);cases e:s.heap.get? (T:Int).toNat with
  |none=>exact qaF h1
  |some o=>
   refine(?_:AG _ _ (field (.ref z) 1>>=_) _ _ _);refine aJ (kU hz rfl (x:= .bool b) rfl ?_);cases b
   ·refine(?_:AG _ _ (setField (.ref z) 1 (.bool true)>>=_) _ _ _);exact aJ (Cp hz (by simp) λg1 z1 s1=>qaF (h2 g1 z1 s1))
   ·exact qaF (h2 s.heap hz ⟨rfl,λ_ _=>rfl⟩)
variable {N a1 a2:Nat}{n1 n2:Nat}{P1 P2:Nat->AC->Prop}{S1 S2:Nat->AK->Prop}
theorem znA {a b:AC}(D1:Draws prog w A N [N,a1] n1 P1 S1)(D2:Draws prog w A (N+1) [N+1,a2] n2 P2 S2)(l1:a1<N)(l2:a2<N)(hz':ZipAt s.heap (N+4) (N+2) (N+3))(hTI:IsPair s.heap (N+2) (.ref N) (.ref (N+1)))(hTO:IsPair s.heap (N+3) a b)(h1:S1 i s.heap)(h2:S2 i s.heap)(i1:i<n1)(i2:i<n2)(k : ∀ x y h' tk, P1 i x -> P2 i y -> ZipAt h' (N + 4) (N + 2) (N + 3) -> (∃ a b, IsPair h' (N + 3) a b) -> S1 (i + 1) h' -> S2 (i + 1) h' -> IsPair h' s⁻¹ x y ->
   (∀c o,c≠N->c≠N+1->c≠N+3->c≠N+4->s.heap.get? c=some o->h'.get? c=some o)->Q (.ref s⁻¹) {s with heap:=h',toks:=tk}):
  AG (model prog w) A (Builtin.«zip.__next__» ⟨[.ref (N+4)],[]⟩) (λfin s'=>∃v,fin= .done (.ret v)/\Q v s') E s:=by
 obtain⟨f0,bb,hz,hf⟩:=hz';refine(?_:AG _ _ (field (.ref (N+4)) 2>>=_) _ _ _);refine aJ (kU hz rfl (x:= .bool false) rfl (?_:AG _ _ (field (.ref (N+4)) 3>>=_) _ _ _));refine aJ (kU hz rfl (x:= .ref (N+2)) rfl (aJ (tL hTI rfl (?_:AG _ _ (Builtin.SmallTypes.ownedTupleIsFree (.ref (N+4))>>=_) _ _ _))));refine aJ (zoq hz hf ?_ λg0 z0 s0=>?_)
 ·simp only[if_true];refine aJ (wpAny_rule (aJ (kU hz rfl (x:= .ref (N+3)) rfl (aJ (Cp hz (by simp) λg1 z1 s1=>aJ ?_)))))
  replace z1:lF g1 (N+4) (N+2) (N+3) .ellipsis bb:=z1
  simp only[List.zipIdx_cons,List.zipIdx_nil,Vm,Xl];refine aJ (aJ (qcu (?_:AG _ _ (Builtin.SmallTypes.nextOf (.ref N)>>=_) _ _ _)));have e1:S1 i g1:=D1.frame _ _ _ h1 λb hb o e=>(s1.2 b (cB hb (by ac_rfl) (by ac_rfl))).trans e
  refine aJ (D1.item i _ _ _ i1 e1 λx g2 t2 p1 f2 s2=>qaF ?_);have q2:IsPair g2 (N+3) a b:=(s2.2 _ (cH (by ac_rfl))).trans ((s1.2 _ (cH (by ac_rfl))).trans hTO);refine aJ (tL q2 rfl (aJ (qcv q2 λg3 q3 s3=>aJ (Fv (qaF ?_)))))
  replace q3:IsPair g3 (N+3) x b:=q3
  refine aJ (aJ (qcu (?_:AG _ _ (Builtin.SmallTypes.nextOf (.ref (N+1))>>=_) _ _ _)));have e3:S2 i g3:=D2.frame _ _ _ h2 λb hb o e=>(s3.2 b (cB hb (by ac_rfl) (by ac_rfl))).trans ((s2.2 b (cB hb (by ac_rfl) (by ac_rfl))).trans ((s1.2 b (cB hb (by ac_rfl) (by ac_rfl))).trans e))
  refine aJ (D2.item i _ _ _ i2 e3 λy g4 t4 p2 f4 s4=>qaF ?_);have q4:IsPair g4 (N+3) x b:=(s4.2 _ (cH (by ac_rfl))).trans q3;refine aJ (tL q4 rfl (aJ (qcv q4 λg5 q5 s5=>aJ (Fv (qaF (qaF ?_))))))
  replace q5:IsPair g5 (N+3) x y:=q5
  have sz:g5.objs.size=s⁻¹:=by rw[s5.1,s4.1,s3.1,s2.1,s1.1]
  have z5:lF g5 (N+4) (N+2) (N+3) .ellipsis bb:=(s5.2 _ (cH (by ac_rfl))).trans ((s4.2 _ (cH (by ac_rfl))).trans ((s3.2 _ (cH (by ac_rfl))).trans ((s2.2 _ (cH (by ac_rfl))).trans z1)));have zl:(N+4:Nat)<g5.objs.size:=cK z5;have k5:∀c o,c≠N->c≠N+1->c≠N+3->c≠N+4->s.heap.get? c=some o->g5.get? c=some o:=λc o c1 c2 c3 c4 e=>(s5.2 c c3).trans ((s4.2 c c2).trans ((s3.2 c c3).trans ((s2.2 c c1).trans ((s1.2 c c4).trans e))))
  have f5:S1 (i+1) g5:=D1.frame _ _ _ f2 λb hb o e=>(s5.2 b (cB hb (by ac_rfl) (by ac_rfl))).trans ((s4.2 b (cB hb (by ac_rfl) (by ac_rfl))).trans ((s3.2 b (cB hb (by ac_rfl) (by ac_rfl))).trans e))
  have f5':S2 (i+1) g5:=D2.frame _ _ _ f4 λb hb o e=>(s5.2 b (cB hb (by ac_rfl) (by ac_rfl))).trans e
  refine aJ (tL q5 rfl (aJ (wpAny_newTuple (?_:AG _ _ (Builtin.SmallTypes.ownedTupleHandOut (.ref (N+4)) (.ref g5.objs.size)>>=_) _ _ _))));refine aJ ?_;unfold Builtin.SmallTypes.ownedTupleHandOut;refine aJ (Cp (show lF (g5.push {cls:= .type "tuple",data:= .seq #[x,y]}) (N+4) (N+2) (N+3) .ellipsis bb from bP _ z5) (by simp) λg7 z7 s7=>?_)
  replace z7:lF g7 (N+4) (N+2) (N+3) (rawInt g5.objs.size) bb:=z7
  refine Cp z7 (by simp) λg8 z8 s8=>qaF ⟨_,rfl,?_⟩
  replace z8:lF g8 (N+4) (N+2) (N+3) (rawInt g5.objs.size) false:=z8
  have up:∀c o,c≠N+4->g5.get? c=some o->g8.get? c=some o:=λc o c1 e=>(s8.2 c c1).trans ((s7.2 c c1).trans (bP _ e))
  have T8:IsPair g8 g5.objs.size x y:=(s8.2 _ (cH (by ac_rfl))).trans ((s7.2 _ (cH (by ac_rfl))).trans (dO _ rfl));rw[sz]at z8 T8;refine(?_:Q (.ref g5.objs.size) _);rw[sz];exact k x y g8 _ p1 p2 ⟨_,_,z8,.inr ⟨_,rfl⟩⟩ ⟨_,_,up _ _ (cH (by ac_rfl)) q5⟩ (D1.frame _ _ _ f5 λb hb o e=>up b o (cB hb (by ac_rfl) (by ac_rfl)) e) (D2.frame _ _ _ f5' λb hb o e=>up b o (cB hb (by ac_rfl) (by ac_rfl)) e) T8 λc o c1 c2 c3 c4 e=>up c o c4 (k5 c o c1 c2 c3 c4 e)
 ·simp only[tN,dG];simp only[List.forIn_toArray,Vm,Xl];have e0:S1 i g0:=D1.frame _ _ _ h1 λb hb o e=>(s0.2 b (cB hb (by ac_rfl) (by ac_rfl))).trans e
  refine aJ (aJ (aJ (gV (?_:AG _ _ (Builtin.SmallTypes.nextOf (.ref N)>>=_) _ _ _))));refine aJ (D1.item i _ _ _ i1 e0 λx g2 t2 p1 f2 s2=>qaF (qaF ?_));refine aJ (aJ (gV (?_:AG _ _ (Builtin.SmallTypes.nextOf (.ref (N+1))>>=_) _ _ _)));have e3:S2 i g2:=D2.frame _ _ _ h2 λb hb o e=>(s2.2 b (cB hb (by ac_rfl) (by ac_rfl))).trans ((s0.2 b (cB hb (by ac_rfl) (by ac_rfl))).trans e)
  refine aJ (D2.item i _ _ _ i2 e3 λy g4 t4 p2 f4 s4=>qaF (qaF (qaF ?_)));have sz:g4.objs.size=s⁻¹:=by rw[s4.1,s2.1,s0.1]
  have z4:lF g4 (N+4) (N+2) (N+3) f0 true:=(s4.2 _ (cH (by ac_rfl))).trans ((s2.2 _ (cH (by ac_rfl))).trans z0);have f4':S1 (i+1) g4:=D1.frame _ _ _ f2 λb hb o e=>(s4.2 b (cB hb (by ac_rfl) (by ac_rfl))).trans e
  refine(?_:AG _ _ (newTuple [x,y]>>=_) _ _ _);refine aJ (wpAny_newTuple (qaF ⟨_,rfl,?_⟩));have k5:∀c o,c≠N->c≠N+1->c≠N+3->c≠N+4->s.heap.get? c=some o->g4.get? c=some o:=λc o c1 c2 c3 c4 e=>(s4.2 c c2).trans ((s2.2 c c1).trans ((s0.2 c c4).trans e))
  have q4:IsPair g4 (N+3) a b:=(s4.2 _ (cH (by ac_rfl))).trans ((s2.2 _ (cH (by ac_rfl))).trans ((s0.2 _ (cH (by ac_rfl))).trans hTO));have T8:IsPair (g4.push {cls:= .type "tuple",data:= .seq #[x,y]}) g4.objs.size x y:=dO _ rfl;rw[sz]at T8;refine(?_:Q (.ref g4.objs.size) _);rw[sz];exact k x y _ _ p1 p2 ⟨_,_,bP _ z4,hf⟩ ⟨_,_,bP _ q4⟩ (D1.frame _ _ _ f4' λb hb o e=>bP _ e) (D2.frame _ _ _ f4 λb hb o e=>bP _ e) T8 λc o c1 c2 c3 c4 e=>bP _ (k5 c o c1 c2 c3 c4 e)
theorem zpF {a b:AC}{Q:Fin->AE->Prop}(D1:Draws prog w A N [N,a1] n1 P1 S1)(D2:Draws prog w A (N+1) [N+1,a2] n2 P2 S2)(l1:a1<N)(l2:a2<N)(hz':ZipAt s.heap (N+4) (N+2) (N+3))(hTI:IsPair s.heap (N+2) (.ref N) (.ref (N+1)))(hTO:IsPair s.heap (N+3) a b)(h1:S1 i s.heap)(h2:S2 i s.heap)(hi:i=n1\/(i<n1/\i=n2))(k:∀h' e tk,(∀c o,c≠N->c≠N+1->c≠N+3->c≠N+4->s.heap.get? c=some o->h'.get? c=some o)->(∃o,h'.get? e=some o/\o.cls= .type "StopIteration")->E (.ref e) {s with heap:=h',toks:=tk}):
  AG (model prog w) A (Builtin.«zip.__next__» ⟨[.ref (N+4)],[]⟩) Q E s:=by
 obtain⟨f0,bb,hz,hf⟩:=hz';refine(?_:AG _ _ (field (.ref (N+4)) 2>>=_) _ _ _);refine aJ (kU hz rfl (x:= .bool false) rfl (?_:AG _ _ (field (.ref (N+4)) 3>>=_) _ _ _));refine aJ (kU hz rfl (x:= .ref (N+2)) rfl (aJ (tL hTI rfl (?_:AG _ _ (Builtin.SmallTypes.ownedTupleIsFree (.ref (N+4))>>=_) _ _ _))));refine aJ (zoq hz hf ?_ λg0 z0 s0=>?_)
 ·simp only[if_true];refine aJ (wpAny_rule (aJ (kU hz rfl (x:= .ref (N+3)) rfl (aJ (Cp hz (by simp) λg1 z1 s1=>aJ ?_)))))
  replace z1:lF g1 (N+4) (N+2) (N+3) .ellipsis bb:=z1
  simp only[List.zipIdx_cons,List.zipIdx_nil,Vm,Xl];refine aJ (aJ (qcu (?_:AG _ _ (Builtin.SmallTypes.nextOf (.ref N)>>=_) _ _ _)));have e1:S1 i g1:=D1.frame _ _ _ h1 λb hb o e=>(s1.2 b (cB hb (by ac_rfl) (by ac_rfl))).trans e
  rcases hi with rfl|⟨i1,rfl⟩
  ·refine aJ (D1.done _ _ _ e1 λg2 e x2 he=>?_);obtain⟨oe,hoe,hce⟩:=he;have z2:lF g2 (N+4) (N+2) (N+3) .ellipsis bb:=x2 _ _ (cH (by ac_rfl)) z1;have hez:e≠N+4:=λx=>by subst x;rw[z2]at hoe;cases hoe;simp at hce
   exact Cp z2 (by simp) λg3 _ s3=>k g3 e _ (λc o c1 c2 c3 c4 x=>(s3.2 c c4).trans (x2 c o c1 ((s1.2 c c4).trans x))) ⟨oe,(s3.2 _ hez).trans hoe,hce⟩
  ·refine aJ (D1.item i _ _ _ i1 e1 λx g2 t2 p1 f2 s2=>qaF ?_);have q2:IsPair g2 (N+3) a b:=(s2.2 _ (cH (by ac_rfl))).trans ((s1.2 _ (cH (by ac_rfl))).trans hTO);refine aJ (tL q2 rfl (aJ (qcv q2 λg3 q3 s3=>aJ (Fv (qaF ?_)))))
   replace q3:IsPair g3 (N+3) x b:=q3
   refine aJ (aJ (qcu (?_:AG _ _ (Builtin.SmallTypes.nextOf (.ref (N+1))>>=_) _ _ _)));have e3:S2 i g3:=D2.frame _ _ _ h2 λb hb o e=>(s3.2 b (cB hb (by ac_rfl) (by ac_rfl))).trans ((s2.2 b (cB hb (by ac_rfl) (by ac_rfl))).trans ((s1.2 b (cB hb (by ac_rfl) (by ac_rfl))).trans e))
   refine aJ (D2.done _ _ _ e3 λg4 e x4 he=>?_);obtain⟨oe,hoe,hce⟩:=he;have z3:lF g3 (N+4) (N+2) (N+3) .ellipsis bb:=(s3.2 _ (cH (by ac_rfl))).trans ((s2.2 _ (cH (by ac_rfl))).trans z1);have z4:lF g4 (N+4) (N+2) (N+3) .ellipsis bb:=x4 _ _ (cH (by ac_rfl)) z3;have hez:e≠N+4:=λx=>by subst x;rw[z4]at hoe;cases hoe;simp at hce
   exact Cp z4 (by simp) λg5 _ s5=>k g5 e _ (λc o c1 c2 c3 c4 x=>(s5.2 c c4).trans (x4 c o c2 ((s3.2 c c3).trans ((s2.2 c c1).trans ((s1.2 c c4).trans x))))) ⟨oe,(s5.2 _ hez).trans hoe,hce⟩
 ·simp only[tN,dG,List.forIn_toArray,Vm,Xl];have e0:S1 i g0:=D1.frame _ _ _ h1 λb hb o e=>(s0.2 b (cB hb (by ac_rfl) (by ac_rfl))).trans e
  refine aJ (aJ (aJ (gV (?_:AG _ _ (Builtin.SmallTypes.nextOf (.ref N)>>=_) _ _ _))));rcases hi with rfl|⟨i1,rfl⟩
  ·refine aJ (D1.done _ _ _ e0 λg2 e x2 he=>?_);exact k g2 e _ (λc o c1 c2 c3 c4 x=>x2 c o c1 ((s0.2 c c4).trans x)) he
  ·refine aJ (D1.item i _ _ _ i1 e0 λx g2 t2 p1 f2 s2=>qaF (qaF ?_));refine aJ (aJ (gV (?_:AG _ _ (Builtin.SmallTypes.nextOf (.ref (N+1))>>=_) _ _ _)));have e3:S2 i g2:=D2.frame _ _ _ h2 λb hb o e=>(s2.2 b (cB hb (by ac_rfl) (by ac_rfl))).trans ((s0.2 b (cB hb (by ac_rfl) (by ac_rfl))).trans e)
   refine aJ (D2.done _ _ _ e3 λg4 e x4 he=>?_);exact k g4 e _ (λc o c1 c2 c3 c4 x=>x4 c o c2 ((s2.2 c c1).trans ((s0.2 c c4).trans x))) he
end
theorem ZipAt.at {h h':AK}{z TI TO:AD}(x:ZipAt h z TI TO)(e:∀o,h.get? z=some o->h'.get? z=some o):ZipAt h' z TI TO:=by
 obtain⟨f0,b,q,r⟩:=x;exact⟨f0,b,e _ q,r⟩
theorem zly {z TI TO:AD}(hz:ZipAt s.heap z TI TO)(h:Q (.ref z) s):AG (model prog w) A (pyIter (.ref z)) Q E s:=by
 obtain⟨f0,b,q,r⟩:=hz;have hT:s.TypeIs (.ref z) "zip":=⟨_,q,rfl⟩;exact wpAny_pyIter_slot hT F.slot_zip_iter (tY F.slot_zip_iter hT F.entry_zip_iter (qaF ⟨.ref z,rfl,"zip",.builtin "zip.__next__",hT,F.slot_zip_next.lookup,h⟩) (F.args_zip_iter_1 (.ref z)))
theorem Io {z TI TO:AD}{Q:Unit->AE->Prop}(hz:ZipAt s.heap z TI TO)(h1:Q () s)(h2:∀h',ZipAt h' z TI TO->Heap.SameBut z s.heap h'->Q () {s with heap:=h'}):AG (model prog w) A (letOwnedTupleGo tg (.ref z) u) Q E s:=by
 obtain⟨f0,b,q,r⟩:=hz;have core:∀a:AD,AG (model prog w) A (do
   let o<-load z
   match o.cls,o.data with
    |Value.type n,Data.fields vs=>
     if(["enumerate","zip","dict_itemiterator","dict_reverseitemiterator","odict_iterator","itertools.zip_longest","itertools.pairwise"].contains n&&vs[0]? ==some (rawInt ↑a))=true then do
      rule "for.unpacks-the-owned-tuple"
      updateField z 0 Value.none
     else pure ()
    |x,x_1=>pure ()) Q E s:=λa=>by
  refine aJ (wpAny_load q ?_);dsimp only
  split
  ·refine aJ (wpAny_rule ?_);refine(?_:AG _ _ (setField (.ref z) 0 .none) _ _ _);exact Cp q (by simp) λg1 z1 s1=>h2 g1 ⟨_,_,z1,.inl rfl⟩ s1
  ·exact qaF h1
 unfold letOwnedTupleGo;cases tg<;>first|exact qaF h1|(cases u<;>first|exact qaF h1|exact core _)
theorem zny {P:AJ}{w:World}{K:AF}(t1:Bool)(a1:Nat)(t2:Bool)(a2:Nat)(n N:Nat)(l1:a1<N)(l2:a2<N):
  Turn P w K tg (Kh K t1 a1 t2 a2 n) ([N,N+1,N+2,N+3,N+4]:AA Nat) (N+4:Nat)
   (λi h=>i<=n/\ZipAt h (N+4:Nat) (N+2:Nat) (N+3:Nat)/\IsPair h (N+2:Nat) (.ref N) (.ref (N+1:Nat))/\(∃a b,IsPair h (N+3:Nat) a b)/\SrcIt t1 h N a1 i/\SrcIt t2 h (N+1:Nat) a2 i) where
 mem:=by simp
 obj:=λi h st b hb=>by
  obtain⟨-,h4,h2,⟨a,c,h3⟩,h0,h1⟩:=st;simp only[qaq,Bj,or_false]at hb;rcases hb with rfl|rfl|rfl|rfl|rfl
  ·exact h0.obj
  ·exact h1.obj
  ·exact⟨_,h2,λv z=>by cases z⟩
  ·exact⟨_,h3,λv z=>by cases z⟩
  ·obtain⟨f0,bb,z4,-⟩:=h4;exact⟨_,z4,λv z=>by cases z⟩
 keep:=λi h h' st k=>by
  obtain⟨hi,h4,h2,⟨a,c,h3⟩,h0,h1⟩:=st;exact⟨hi,h4.at λo e=>k _ (by simp) o e,k _ (by simp) _ h2,⟨a,c,k _ (by simp) _ h3⟩,h0.at λo e=>k _ (by simp) o e,h1.at λo e=>k _ (by simp) o e⟩
 item:=by
  intro X hP hw hK hc i AM s σ H E I hf st hg;subst hP hw hK;obtain⟨hi,h4,h2,⟨a,c,h3⟩,h0,h1⟩:=st;obtain⟨hn,xs,ys,q1,q2,en⟩:=hg;obtain⟨us,ru,hu,zu⟩:=q1.heap I;obtain⟨ws,rw',hw',zw⟩:=q2.heap I;have lu:=ru.length;have lw:=rw'.length;have D1:=Oo (prog:=X.prog) (w:=X.w) (A:=X.A.in1) (t:=t1) (I.ok.hd hc) N a1 (cH (by ac_rfl)) us.toArray;have D2:=Oo (prog:=X.prog) (w:=X.w) (A:=X.A.in1) (t:=t2) (I.ok.hd hc) (N+1) a2 (cH (by ac_rfl)) ws.toArray;have z4:=h4;obtain⟨f0,bb,z4,-⟩:=z4;have hT:s.TypeIs (.ref (N+4:Nat)) "zip":=⟨_,z4,rfl⟩;unfold pyNext;refine aJ (Zr (Fd (name:=Str.ofString "__next__") hT Zt (tY Zt hT F.entry_zip_next
   (znA D1 D2 l1 l2 h4 h2 h3 ⟨h0,hu⟩ ⟨h1,hw'⟩ (by simp;lia) (by simp;lia) λx y h' tk p1 p2 g4 g3 g0 g1 gT kk=>qaF ?_) (F.args_zip_next_1 _))))
  obtain⟨x1,hx1⟩:∃x1,xs[i]? =some x1:=⟨xs[i]'∅,bA _⟩;obtain⟨x2,hx2⟩:∃x2,ys[i]? =some x2:=⟨ys[i]'∅,bA _⟩;obtain⟨u1,hu1,r1⟩:=ru.get hx1;obtain⟨u2,hu2,r2⟩:=rw'.get hx2;have e1:u1=x:=by
   have:us[i]? =some x:= ~~~p1
   rw[hu1]at this;cases this;rfl
  have e2:u2=y:=by
   have:ws[i]? =some y:= ~~~p2
   rw[hu2]at this;cases this;rfl
  subst e1 e2;refine⟨_,rfl,?_⟩;have fin:∀h'',ZipAt h'' (N+4:Nat) (N+2:Nat) (N+3:Nat)->Heap.SameBut (N+4:Nat) h' h''->∃x H',L2.Inv X AM σ H' {s with heap:=h'',toks:=tk}/\RelV x (.ref s⁻¹)/\(Kh X.K t1 a1 t2 a2 n).yld i H x H'/\(i+1<=n/\ZipAt h'' (N+4:Nat) (N+2:Nat) (N+3:Nat)/\IsPair h'' (N+2:Nat) (.ref N) (.ref (N+1:Nat))/\(∃a b,IsPair h'' (N+3:Nat) a b)/\SrcIt t1 h'' N a1 (i+1)/\SrcIt t2 h'' (N+1:Nat) a2 (i+1))/\∀b∈([N,N+1,N+2,N+3,N+4]:AA Nat),H' b=none:=λh'' z'' sb=>by
   have lz:N+4<s⁻¹:=cK z4;have kk':∀b o,b∉([N,N+1,N+2,N+3,N+4]:AA Nat)->s.heap.get? b=some o->h''.get? b=some o:=λb o hb e=>by
    obtain⟨c1,c2,c3,c4⟩:=Ti hb;exact(sb.2 b c4).trans (kk b o c1 c2 c3 c4 e)
   have I1:=zoC (t':=tk) (vs:=[x1,x2]) (its:=[u1,u2]) I kk' hf (λb hb=>by
    have:b=N\/b=N+1\/b=N+2\/b=N+3\/b=N+4:= ~~~hb
    exact Ea (show(b:Nat)<=N+4 by rcases this with h|h|h|h|h<;>rw[h]<;>simp) lz) ((sb.2 _ (cH (by ac_rfl))).trans gT) (by simp;rw[fX];decide) (.cons r1 (.cons r2 .nil))
   refine⟨.ref s⁻¹,_,I1,rfl,⟨_,x1,x2,I.hok.fresh (aY _),rfl,rfl,λxs' ys' b1 b2=>?_⟩,⟨hn,z'',(sb.2 _ (cH (by ac_rfl))).trans (kk _ _ (cH (by ac_rfl)) (cH (by ac_rfl)) (cH (by ac_rfl)) (cH (by ac_rfl)) h2),(let⟨a',b',e'⟩:=g3;⟨a',b',(sb.2 _ (cH (by ac_rfl))).trans e'⟩),SrcIt.at g0.1 λo e=>(sb.2 _ (cH (by ac_rfl))).trans e,SrcIt.at g1.1 λo e=>(sb.2 _ (cH (by ac_rfl))).trans e⟩,λb hb=>?_⟩
   ·rw[SrcSq.inj I b1 q1,SrcSq.inj I b2 q2];exact⟨hx1,hx2⟩
   ·have:b=N\/b=N+1\/b=N+2\/b=N+3\/b=N+4:= ~~~hb
    rw[aW (eT (Ea (show(b:Nat)<=N+4 by rcases this with h|h|h|h|h<;>rw[h]<;>simp) lz))]
    exact(hf b hb).1
  exact Io (s:={s with heap:=h',toks:=tk}) g4 (fin h' g4 ⟨rfl,λ_ _=>rfl⟩) λh'' z'' sb=>fin h'' z'' sb
 done:=by
  intro X hP hw hK hc i AM s σ H E I hf st hg;subst hP hw hK;obtain⟨hi,h4,h2,⟨a,c,h3⟩,h0,h1⟩:=st;obtain⟨hn,xs,ys,q1,q2,en⟩:=hg;obtain⟨us,ru,hu,zu⟩:=q1.heap I;obtain⟨ws,rw',hw',zw⟩:=q2.heap I;have lu:=ru.length;have lw:=rw'.length;have D1:=Oo (prog:=X.prog) (w:=X.w) (A:=X.A.in1) (t:=t1) (I.ok.hd hc) N a1 (cH (by ac_rfl)) us.toArray;have D2:=Oo (prog:=X.prog) (w:=X.w) (A:=X.A.in1) (t:=t2) (I.ok.hd hc) (N+1) a2 (cH (by ac_rfl)) ws.toArray;have z4:=h4;obtain⟨f0,bb,z4,-⟩:=z4;have hT:s.TypeIs (.ref (N+4:Nat)) "zip":=⟨_,z4,rfl⟩;unfold pyNext;refine aJ (Zr (Fd (name:=Str.ofString "__next__") hT Zt (tY Zt hT F.entry_zip_next
   (zpF D1 D2 l1 l2 h4 h2 h3 ⟨h0,hu⟩ ⟨h1,hw'⟩ (by simp;lia) λh' e tk kk he=>?_) (F.args_zip_next_1 _))))
  obtain⟨o,ho,hce⟩:=he;refine aJ (wpAny_isInstance (T:="StopIteration") (b:=true) ⟨o,ho,hce⟩ isSubtype_stop (qaF ⟨rfl,zlQ I (λb o hb e=>?_) hf⟩));obtain⟨c1,c2,c3,c4⟩:=Ti hb;exact kk b o c1 c2 c3 c4 e
 self:=λ_ _ _ _ _ st h=>zly st.2.1 h
theorem rZ {a b:AI}{ta:TA}(hg:Gl X "zip")(hm:X.mg "zip"=none)(ha:PA X [a,b] ta)(hs:starEach [a,b] X.env=(false,eval a X.env)::starEach [b] X.env:=by rfl)(hs2:(backTo pos (starEach [b] X.env)).any (·.1)=false:=by rfl):
  PI X tg (.Call (.Name "zip" p) [a,b] [] pos) (λσ H R=>ta σ H λvs H1=>∃t1 a1 xs t2 a2 ys,vs=[.ref a1,.ref a2]/\SrcSq t1 X.K H1 a1 xs/\SrcSq t2 X.K H1 a2 ys/\R (Kh X.K t1 a1 t2 a2 (min xs.length ys.length)) H1):=by
 intro AM s σ H R I h;refine Call_ (Sx I hg hm tH (qaJ (aS (ha pos AM s σ H _ I h) λus s1 ⟨vs,H1,I1,r1,q1⟩=>?_) hs hs2));obtain⟨t1,a1,xs,t2,a2,ys,e,q1,q2,q⟩:=q1;subst e;cases r1 with
 |cons r rr=>
  cases rr with
  |cons r' rr=>
   cases rr;cases r;cases r';obtain⟨us,ru,hu,-⟩:=q1.heap I1;obtain⟨ws,rw',hw',-⟩:=q2.heap I1;refine zoh hu hw' λh' g4 g2 g3 g0 g1 kk=>wpAny_pyIter_zip g4 ⟨_,_,_,_,H1,rfl,I1.kept (t':=s1.toks) kk,zny t1 a1 t2 a2 (min xs.length ys.length) s1⁻¹ hu.lt hw'.lt,⟨gK _,⟨_,_,g4,.inl rfl⟩,g2,⟨_,_,g3⟩,g0,g1⟩,λb hb=>?_,q⟩
   have:b=s1⁻¹\/b=s1⁻¹+1\/b=s1⁻¹+2\/b=s1⁻¹+3\/b=s1⁻¹+4:= ~~~hb
   have le:s1⁻¹<=b:=by rcases this with h|h|h|h|h<;>rw[h]<;>simp
   exact I1.fpOk le (I1.hok.fresh le)
def zhp (hm:X.mg "zip"=none)(ha:SA X [a,b] ma)(hg:Gl X "zip":=by rfl)(hs:starEach [a,b] X.env=(false,eval a X.env)::starEach [b] X.env:=by rfl)(hs2:(backTo pos (starEach [b] X.env)).any (·.1)=false:=by rfl):
  SIt X tg (.Call (.Name "zip" p) [a,b] [] pos) (Ow ma):=by
 refine ha.el λt pa sa=>?_
 refine⟨_,rZ hg hm pa hs hs2,λB G H σ ρ ds ρ' Q I hm k=>?_⟩;refine aZ hm λes ρ1 e1 h2=>?_
 dsimp only at h2;refine sa B G H σ ρ es ρ1 _ I e1 λG1 H1 vs I1 f1 r1=>?_
 split at h2
 ·refine aP h2 λxs ex h2=>?_
  refine aP h2 λys ey h2=>?_
  exists bM h2;obtain⟨x,y,rfl,rx,ry⟩:=r1.two;obtain⟨t1,a1,us,rfl,s1,c1⟩:=zpt rx ex;obtain⟨t2,a2,ws,rfl,s2,c2⟩:=zpt ry ey;have n1:=c1.length;have n2:=c2.length;refine⟨t1,a1,us,t2,a2,ws,rfl,s1 _ I1.fz,s2 _ I1.fz,k _ G1 H1 I1 f1 ⟨λH i f hi=>?_,λH i x H' f y d e=>?_,λH i f hi=>?_⟩⟩
  ·exact⟨by simp[Ku]at hi;lia,us,ws,s1 _ f,s2 _ f,rfl⟩
  ·obtain⟨p,x1,x2,hp,eh,ex',q⟩:=y;obtain⟨q1,q2⟩:=q us ws (s1 _ f) (s2 _ f);simp only[Ku,Zm]at e
   split at e
   ·rename_i d1 d2 g1 g2;cases e;obtain⟨v1,b1,r1⟩:=c1.get g1;obtain⟨v2,b2,r2⟩:=c2.get g2;rw[q1]at b1;cases b1;rw[q2]at b2;cases b2;exact .inr ⟨p,_,_,hp,eh,ex',rfl,⟨_,_,rfl,r1,_,_,rfl,r2,rfl⟩⟩
   ·exact aG e
  ·exact⟨by simp[Ku]at hi;lia,us,ws,s1 _ f,s2 _ f,rfl⟩
 ·exact aG h2
end M
namespace M
open L2 PySem PySem.Spec
open PyProof.Rows hiding St
theorem cS {l:AA Str}(h:decide l.Nodup=true:=by kernel_rfl):l.Nodup:=Oi h
def bI {p:AA AC->Prop}(h:p []):∀us:AA AC,us.length=0->p us:=λus e=>by
 cases us with
 |nil=>exact h
 |cons=>cases e
def aM {p:AA AC->Prop}(h:∀(a:AC) (us:AA AC),us.length=n->p (a::us)):∀us:AA AC,us.length=n+1->p us:=λus e=>by
 cases us with
 |nil=>cases e
 |cons a us=>exact h a us (Nat.succ.inj e)
section
variable {P:AJ}{w:World}{K:AF}{mg:Str->AB AC}{base hp:AK}{x:Str}{st:Stmt}{f:AD}
def FnAt (K:AF)(x:Str)(st:Stmt):Prop:=∃f fd,W.nsIn K AL x=some (some (.ref f))/\Fun K x x st f fd
theorem FnAt.mk {oc:AC}{od an:AB AD}{osl:Array (AB AC)}{kV doc pm cdv ct:AC}(a:W.nsIn K AL x=some (some (.ref f)))(l:K.lookup f=some ⟨oc,od,.func (W.fnOf x x (za7 st) (zaH st) (zao st) .none kV doc pm an cdv ct),osl⟩)(c:W.codeIn K cdv x=true)(k:W.keepIn K (.ref f)=true):FnAt K x st:=⟨f,_,a,zoH l c k⟩
abbrev zB (x:Str)(st:Stmt)(ps:AA Str):Prop:=∀(kV doc pm:AC) (an:AB AD) (cdv ct:AC) (us:AA AC),us.length=ps.length->bindArgs (W.fnOf x x (za7 st) (zaH st) (zao st) .none kV doc pm an cdv ct) ⟨us,[]⟩=pure (ps.zip us)
def FnAt.law (h:FnAt K x st)(X:K.In hp)(G:hp.Ns AL mg)(hf:mg x=some (.ref f)):∃kV doc pm an cdv ct,Fun K x x st f (W.fnOf x x (za7 st) (zaH st) (zao st) .none kV doc pm an cdv ct):=by
 obtain⟨f',fd,a,T⟩:=h;have e:=hf.symm.trans (W.mg_of X G a);cases e;obtain⟨oc,od,kV,doc,pm,an,cdv,ct,osl,rfl,lk,hcd⟩:=id T.ex;exact⟨kV,doc,pm,an,cdv,ct,T⟩
variable {N:AA Str}{k n:Nat}{m:MS}
abbrev Bd (P:AJ)(w:World)(K:AF)(mg:Str->AB AC)(base:AK)(x:Str)(st:Stmt)(N:AA Str)(k:Nat)(m:MS):Prop:=∀(f:AD) (cdv:AC) (A:Around) (outer:AA Env) (s:AE) (H:Hp) (E:XK),Room k (A.deeper (PyProof.Rows.envOfC x (zao st) s.heap.objs.size f cdv))->N.Nodup->SSs (fC gX P w K mg base N x (zao st) f cdv A outer s H E).nox (zaH st) m
structure DefOk (x:Str)(st:Stmt)(N:List Str)(n:Nat):Prop where
 sc:FnScope N (N.take n) (zao st)
 len:(N.take n).length=n
 le:n<=N.length
 bs:zB x st (N.take n)
theorem lawP (F:Fun K x x st f fd)(b:Bd P w K mg base x st N k m)(d:DefOk x st N n:=by exact⟨⟨rfl,rfl,rfl,by decide+kernel,rfl,by decide+kernel,by decide+kernel⟩,rfl,by decide,λ_ _ _ _ _ _=>by first|exact aM λ_=>bI rfl|exact aM λ_=>aM λ_=>bI rfl|exact aM λ_=>aM λ_=>aM λ_=>bI rfl|exact aM λ_=>aM λ_=>aM λ_=>aM λ_=>bI rfl|exact bI rfl|exact aM λ_=>aM λ_=>aM λ_=>aM λ_=>aM λ_=>bI rfl⟩):FnOk P w K mg base gX (k+1) f fd (N.take n) (aX K n (fP N.length m)):=zpd F d.sc d.len d.le λcdv A outer s H E hr=>b _ cdv A outer s H E hr d.sc.nd
theorem eU (X:K.In hp)(G:hp.Ns AL mg)(h:FnAt K x st)(b:Bd P w K mg base x st N k m)(d:DefOk x st N n:=by exact⟨⟨rfl,rfl,rfl,by decide+kernel,rfl,by decide+kernel,by decide+kernel⟩,rfl,by decide,λ_ _ _ _ _ _=>by first|exact aM λ_=>bI rfl|exact aM λ_=>aM λ_=>bI rfl|exact aM λ_=>aM λ_=>aM λ_=>bI rfl|exact aM λ_=>aM λ_=>aM λ_=>aM λ_=>bI rfl|exact bI rfl|exact aM λ_=>aM λ_=>aM λ_=>aM λ_=>aM λ_=>bI rfl⟩):FD P w K mg base (k+1) x (aX K n (fP N.length m)):=
 let⟨f,fd,a,T⟩:=h
 ⟨⟨f,fd,_,zpd T d.sc d.len d.le λcdv A outer s H E hr=>b _ cdv A outer s H E hr d.sc.nd,W.mg_of X G a,T.kp,T.binds d.bs⟩⟩
theorem Rm (X:K.In hp)(G:hp.Ns AL mg)(h:FnAt K x st)(b:Bd P w K mg base x st N k m)(d:DefOk x st N n:=by exact⟨⟨rfl,rfl,rfl,by decide+kernel,rfl,by decide+kernel,by decide+kernel⟩,rfl,by decide,λ_ _ _ _ _ _=>by first|exact aM λ_=>bI rfl|exact aM λ_=>aM λ_=>bI rfl|exact aM λ_=>aM λ_=>aM λ_=>bI rfl|exact aM λ_=>aM λ_=>aM λ_=>aM λ_=>bI rfl|exact bI rfl|exact aM λ_=>aM λ_=>aM λ_=>aM λ_=>aM λ_=>bI rfl⟩):FD P w K mg base (k+1) x (gH K n (fM N.length m)):=
 let⟨f,fd,a,T⟩:=h
 ⟨⟨f,fd,_,Ig T d.sc d.len d.le λcdv A outer s H E hr=>b _ cdv A outer s H E hr d.sc.nd,W.mg_of X G a,T.kp,T.binds d.bs⟩⟩
end
end M
namespace M
open PySem
section
variable {prog:AJ}{w:World}{A:Around}{E:AC->AE->Prop}{s:AE}{it d:AD}{i ep:Nat}{es:Array DictEntry}{od:Obj}
def sG {Q:AB AC->AE->Prop}(ki:s.heap.IsKeyIter it d i es.size ep)(g1:s.heap.get? d=some od)(g2:od.data= .dict es ep)(hi:i<es.size)(k:∀h',h'.IsKeyIter it d (i+1) es.size ep->Heap.SameBut it s.heap h'->Q (some es[i].key) {s with heap:=h'}):AG (model prog w) A (pyNext (.ref it)) Q E s:=by
 obtain⟨oi,q1,q2,q3⟩:=id ki;have no:Builtin.Dict_items.ownsTuple "dict_keyiterator"=false:=by decide
 unfold pyNext;refine aJ (Zr (Fd (name:=Str.ofString "__next__") ki.typeIs qcy (tY qcy ki.typeIs F.entry_dict_keyiterator_next ?_ (F.args_dict_keyiterator_next_1 _))));refine aJ (qaF (aJ (aJ ?_)))
 first|refine aJ (qcz ki.typeIs (qaF ?_))|refine aJ (qcA ki.typeIs (qaF ?_))
 refine aJ (wpAny_fieldsOf q1 q3 ?_);simp only[no,tN,dG];show AG _ _ (if(Value.ref d==Value.none)=true then _ else _) _ _ s;rw[if_neg (show ¬((Value.ref d==Value.none)=true)from fY)];refine aJ (qaF (aJ (wpAny_dictEntries g1 g2 ?_)));rw[if_neg (by simp)];refine aJ (qaF (aJ (wpAny_dictEpoch g1 g2 ?_)));rw[if_neg (by simp)];refine qaF ?_;simp only[show ¬((i:Int)<0)from by lia,dG,Za,Array.getElem?_eq_getElem hi];refine aJ ?_
 first|refine aJ (qcz ki.typeIs (qaF ?_))|refine aJ (qcA ki.typeIs (qaF ?_))
 refine aJ (wpAny_isOneOf_keyiter ki.typeIs ?_);show AG _ _ (setField (.ref it) 1 (rawInt ((i:Int)+1))>>=_) _ _ s;refine aJ (Zf q1 q3 (by simp) ?_);have ki':(s.heap.update it (Obj.mapFields (·.setIfInBounds 1 (rawInt ((i:Int)+1))))).IsKeyIter it d (i+1) es.size ep:=
  ⟨_,Vy _ q1 (Obj.isFreed_of_fields (Wz q3 _)),(Obj.cls_mapFields ..).trans q2,by rw[Wz q3];simp[rawInt]⟩
 refine aJ (gV (aJ (wpAny_isOneOf_keyiter (s:={s with heap:=s.heap.update it (Obj.mapFields (·.setIfInBounds 1 (rawInt ((i:Int)+1))))}) ki'.typeIs ?_)))
 show AG _ _ (pure es[i].key) _ _ _;exact qaF (qaF ⟨_,rfl,qaF (k _ ki' (qcd ..))⟩)
def xV {Q:AB AC->AE->Prop}(hh:A.handled=none)(ki:s.heap.IsKeyIter it d i es.size ep)(g1:s.heap.get? d=some od)(g2:od.data= .dict es ep)(hi:es.size<=i)(k:∀h',Heap.ExtBut it s.heap h'->Q none {s with heap:=h'}):AG (model prog w) A (pyNext (.ref it)) Q E s:=by
 obtain⟨oi,q1,q2,q3⟩:=id ki;have no:Builtin.Dict_items.ownsTuple "dict_keyiterator"=false:=by decide
 unfold pyNext;refine aJ (Zr (Fd (name:=Str.ofString "__next__") ki.typeIs qcy (tY qcy ki.typeIs F.entry_dict_keyiterator_next ?_ (F.args_dict_keyiterator_next_1 _))));refine aJ (qaF (aJ (aJ ?_)))
 first|refine aJ (qcz ki.typeIs (qaF ?_))|refine aJ (qcA ki.typeIs (qaF ?_))
 refine aJ (wpAny_fieldsOf q1 q3 ?_);simp only[no,tN,dG];show AG _ _ (if(Value.ref d==Value.none)=true then _ else _) _ _ s;rw[if_neg (show ¬((Value.ref d==Value.none)=true)from fY)];refine aJ (qaF (aJ (wpAny_dictEntries g1 g2 ?_)));rw[if_neg (by simp)];refine aJ (qaF (aJ (wpAny_dictEpoch g1 g2 ?_)));rw[if_neg (by simp)];refine qaF ?_;simp only[show ¬((i:Int)<0)from by lia,dG,Za,Array.getElem?_eq_none hi];refine aJ ?_
 first|refine aJ (qcz ki.typeIs (qaF ?_))|refine aJ (qcA ki.typeIs (qaF ?_))
 show AG _ _ (setField (.ref it) 0 .none>>=_) _ _ s;refine aJ (Zf q1 q3 (by simp) ?_);show AG _ _ (newExc (.type "StopIteration") []>>=_) _ _ _;refine aJ ?_;simp only[newExc,newTuple];refine aJ (tE ?_ (by size_fits));refine aJ (m:=firstArgMember _ _) (wpAny_of_eq (a:=Value.none) (by first|rfl|(simp only[firstArgMember];rfl)) ?_);refine tE ?_ (by size_fits);simp only[raiseNew];refine aJ (wpAny_handled ?_);rw[show A.in1.handled=none from hh];refine aJ (qaF (wpAny_throw ?_));refine aJ (wpAny_isInstance (b:=true) (T:="StopIteration") ⟨_,dO _ rfl,rfl⟩ isSubtype_stop ?_);exact qaF (k _ (((qcd ..).extBut.push _).push _))
def sX {Q:AC->AE->Prop}(nm:(d==sysModules)=false)(g1:s.heap.get? d=some od)(g0:od.ExactDict)(g2:od.data= .dict es ep)(k:Q (.ref s⁻¹) {s with heap:=s.heap.push {cls:= .type "dict_keyiterator",data:= .fields #[.ref d,.int 0 0,.int es.size 0,.int ep 0]}}):AG (model prog w) A (pyIter (.ref d)) Q E s:=by
 have hT:s.TypeIs (.ref d) "dict":=⟨od,g1,g0.1⟩;refine wpAny_pyIter_slot hT F.slot_dict_iter (tY F.slot_dict_iter hT F.entry_dict_iter ?_ (F.args_dict_iter_1 _));unfold Builtin.«dict.__iter__»;refine aJ ?_;unfold Builtin.Dict.dictSlotNone;refine aJ (wpAny_notOrdered_dict hT ?_);show AG _ _ (pure (Value.ref d)) _ _ s;refine qaF ?_;show AG _ _ (Builtin.Dict.showsAll d>>=_) _ _ s;unfold Builtin.Dict.showsAll;rw[if_neg (by rw[nm];exact fY)];refine aJ (qaF (aJ (wpAny_dictEntries g1 g2 (aJ (wpAny_dictEpoch g1 g2 ?_)))));refine aJ (tE (qaF ⟨_,rfl,"dict_keyiterator",_,⟨_,dO _ rfl,rfl⟩,F.slot_dict_keyiterator_next.lookup,?_⟩));simpa[rawInt]using k
end
end M
namespace M
open L2 PySem PySem.Spec
open PyProof.Rows hiding St
variable {P:AJ}{w:World}{H G:Hp}{h:AK}{a b:AD}{o:Obj}{xs:AA (AA L2.cP×AD×AC)}{ks:AA (AA Int)}{ys:AA (AA L2.cP×V)}
def Hm (ok:HOk P w H h)(e:H a=some (kn a o)):h.get? a=some o:=(show ObjOk P w H h a (kn a o)from ok a _ e).1
def Ct (e:h.get? a=some o):ObjOk P w H h a (kn a o):=⟨e,⟨o,e⟩,λ_ _ e1 k=>k o e1⟩
def Sl.dit:Sl->AB (AA (AA Int)×AA D)
 | .tre (.dit ks ds)=>some (ks,ds)
 | .val (.dit ks ds)=>some (ks,ds)
 |_=>none
def keyT:D->AB (AA Int)
 | .tup es=>eG es
 |_=>none
def sDPT (j:Nat)(mk me:ME):MS:=λρ=>(me ρ).bind λp=>if(p.2[j]?.bind Sl.dit).isSome then(mk p.2).bind λq=>(keyT q.1).bind λk=>q.2[j]?.bind λs=>match s.tree with
  |some (.dit ks ds)=>if ks.length<16777216 then some (.next,q.2.set j (s.putT (.dit (gJ ks ds k p.1).1 (gJ ks ds k p.1).2)))else none
  |_=>none else none
def iDKT (j:Nat):MA:=λρ=>match ρ[j]? with
 |some (.val (.dit ks ds))=>some (ks.map λk=> .tup (k.map .int),ρ)
 |_=>none
end M
namespace M
open L2 PySem PySem.Spec
open PyProof.Rows hiding St
def eRvT (ma:ME):ME:=λρ=>(ma ρ).bind λp=>match p.1 with
 | .tup ds=>some (.tup ds.reverse,p.2)
 |_=>none
def Hk (F:AA D->AB Sl)(ma:MA):ME:=λρ=>(ma ρ).bind λp=>(F p.1).bind λr=>match r with
 | .tre (.tup cs)=>some (.tup (cs.map Ch.D),p.2)
 |_=>none
def fzU (j:Nat)(ρ:R):R:=match ρ[j]? with
 |some (.tre (.tup cs))=>ρ.set j (.val (.tup (cs.map Ch.D)))
 |_=>ρ
def sCp (i j n:Nat)(mb:MS):MS:=λρ=>match ρ[i]?,ρ[j]? with
 |some _,some (.tre (.tup cs))=>match cs[n]? with
  |some (.d .non)=>some (.next,ρ.set i (.val .non))
  |some (.l ds)=>mb (ρ.set i (.own ds))
  |_=>none
 |_,_=>none
def qMod (ma mb:MQ):MQ:=λρ=>(ma ρ).bind λa=>(mb ρ).bind λb=>match a,b with
 | .int i,.int j=>if 0<j then some (.int (i%j))else none
 |_,_=>none
def jK (i:Nat)(ma:MA):MS:=λρ=>if(ρ[i]?.bind Sl.items).isSome then(ma ρ).bind λp=>p.2[i]?.bind λs=>s.items.bind λds=>match p.1 with
 |[.int k,d]=>if 0<=k/\k<=ds.length/\ds.length<16777216 then some (.next,p.2.set i (s.put (ds.take k.toNat++d::ds.drop k.toNat)))else none
 |_=>none else none
section
variable {X:Cx}{x y:Str}{pos p' q' tpos:Pos}{e a b:AI}{es:AA AI}{mo:MO}
def xT:V->AA V->Hp->VK->Prop:=λx vs H Q=>∃l xs y k,x= .ref l/\vs=[.int k,y]/\H l=some (.lst xs)/\0<=k/\k<=xs.length/\xs.length<sizeLine/\Q .non (upd H l (.lst (xs.take k.toNat++y::xs.drop k.toNat)))
def zo1:MtM X "list.insert" xT:=by
 intro AM s σ H x vs v us Q I rx rv h;obtain⟨l,xs,y,k,rfl,rfl,hH,hk,hk2,hz,q⟩:=h;cases rx;obtain⟨u1,u2,rfl,ru1,ru2⟩:=rv.two;obtain⟨t,rfl⟩:=ru1;obtain⟨z,its,n,r,hl,e⟩:=I.lstM hH;have hn:=Fb;have hc0:¬(!Builtin.List.listFitsIndex k)=true:=by
  have h1:(-(2^63:Int))<=k:=∅
  have h2:k<2^63:=∅
  have h3:Builtin.List.listFitsIndex k=true:=by
   unfold Builtin.List.listFitsIndex;rw[cD];exact⟨fL h1,fL h2⟩
  rw[h3]
  decide
 refine Ph F.slot_list_insert ⟨_,e,rfl⟩ F.entry_list_insert (F.args_list_insert_3 _ _ _) (AutoSeq1.list_insert_list_int_val_1 l its.toArray n k t u2 hc0 (by rw[bS];lia)) ⟨e,?_⟩;refine⟨.non,_,I.lset (its':=its.take k.toNat++u2::its.drop k.toNat) hH e ?_ ((r.take k.toNat).append (.cons ru2 (r.drop k.toNat))) ?_,rfl,q⟩
 ·have h3:¬k<0:=∅
  have h4:min k.toNat its.length=k.toNat:=∅
  simp[h3,h4];exact oO (by rw[qbj];exact aY _)
 ·rw[iZ,eS,yA,qbj];lia
def zmu (i:Nat)(he:SA X [e1,e2] ma)(hN:X.N[i]? =some x:=by rfl)(hv:dP X.env.scope x:=by trivial)(hd:(x==("__debug__":Str))=false:=by decide)(hcd:(x==("__classdict__":Str))=false:=by decide)(hbase:attributeBase (.Name x p') "insert" X.env (eval (.Name x p') X.env)=eval (.Name x p') X.env:=by rfl)(hfew : ((backTo cpos (starEach [e1, e2] X.env)).all (λx => !x.1) && (backToKw cpos (keywordEach [] X.env)).all (λx => x.1.isSome)
   &&decide ([e1,e2].length+([]:AA Keyword).length+(if([]:AA Keyword).isEmpty then 0 else 1)<30))=true:=by rfl)(hline:(apos.endLine==cpos.line)=true:=by rfl)(hs:starEach [e1,e2] X.env=(false,eval e1 X.env)::starEach [e2] X.env:=by rfl)(hpl:(backTo cpos (starEach [e2] X.env)).any (·.1)=false:=by rfl):SS X (.Expr (.Call (.Attribute (.Name x p') "insert" apos) [e1,e2] [] cpos) pos) (jK i ma):=by
 refine he.el λt p s=>?_
 refine⟨_,Zo (kO Zc PySem.F.slot_list_insert PySem.F.type_list_insert zo1 (eI hN hv hd hcd) p hbase hfew hline hs hpl) (by rfl),λB G H σ ρ fl ρ' E I hm k=>?_⟩;unfold jK at hm;refine aT hm λhso hm=>?_
 ·skip
  obtain⟨ds0,hso⟩:=qa0.mp hso;refine aP hso λs0 e0 q0=>?_
  obtain⟨l,xs0,h1,h2,h3,h4⟩:=I.wr e0 q0;refine aZ hm λas ρ1 e1 hm=>?_
  refine aP hm λs1 e2 hm=>?_
  refine aP hm λds e3 hm=>?_
  dsimp only at hm
  split at hm
  ·rename_i kk d y1 y2;refine aT hm λhl hm=>?_
   ·skip
    exists bM hm;refine⟨.ref l,h1,.inl ⟨rfl,_,SqL.of h3⟩,s B G H σ ρ _ ρ1 _ I e1 λG1 H1 vs I1 f1 r1=>?_⟩;obtain⟨v1,v2,rfl,w1,w2⟩:=r1.two;cases(show v1=V.int kk from w1);obtain⟨l',xs,k1,k2,k3,k4⟩:=I1.wr e2 e3;rw[h1]at k1;cases k1;refine⟨l,xs,v2,kk,rfl,rfl,k3,hl.1,by rw[k4.length];exact hl.2.1,by rw[k4.length,fX];exact hl.2.2,?_⟩;exact k G1 _ σ (I1.write e2 e3 h1 ((k4.take _).append (.cons w2 (k4.drop _)))) f1
  ·exact aG hm
end
def Ii (b c:Nat)(ρ:R):Bool:=match ρ[b]?,ρ[c]? with
 |some (.par _),some (.par _)=>hX ((ρ.set b .emp).set c .emp)
 |_,_=>false
def jZ (b c:Nat)(g:D->R->AB R)(mt:MT)(me:ME):D->R->AB (AB D×R):=λd ρ=>(g d ρ).bind λρ1=>(mt ρ1).bind λp=>if p.1 then(me p.2).bind λq=>if Ii b c q.2 then some (some q.1,q.2)else none else if Ii b c p.2 then some (none,p.2)else none
def Bi (cap:AA Nat)(t b w c v:Nat)(mi:MA)(g:D->R->AB R)(mt:MT)(me:ME):MO:=λρ=>(mi ρ).bind λp=>if p.1.length<=16777216 then
  ((fzL (cap.filter λi=>i !=w&&i !=v) p.2)[w]?).bind λs=>s.items.bind λcs=>((fzL (cap.filter λi=>i !=w&&i !=v) p.2)[v]?).bind λs2=>s2.items.bind λcs2=>
   (gO (jZ b c g mt me) p.1 (((eY cap t (fzL (cap.filter λi=>i !=w&&i !=v) p.2)).set b (.par cs)).set c (.par cs2))).map λq=>(q.1,((fzL (cap.filter λi=>i !=w&&i !=v) p.2).set w (s.put (uO b q.2))).set v (s2.put (uO c q.2)))
 else none
theorem VS.siQ {K:AF}{G H:Hp}{σ:St}{ρ:R}{b c:Nat}{cs cs2:AA D}{l l2:AD}{ys ys2:AA V}(h:VS K G σ ((ρ.set b .emp).set c .emp))(fz:Fz G H)(hbc:b≠c)(ll:l≠l2)(hb:ρ[b]? =some (.par cs))(hs:σ[b]? =some (some (.ref l)))(gl:G l=none)(hl:H l=some (.lst ys))(r:RepL K G ys cs)(hb2:ρ[c]? =some (.par cs2))(hs2:σ[c]? =some (some (.ref l2)))(gl2:G l2=none)(hl2:H l2=some (.lst ys2))(r2:RepL K G ys2 cs2):SI K ⟨G,H,[(b,l),(c,l2)]⟩ G H σ ρ where
 fz:=fz
 g0:=Fz.refl G
 new:=λb o e=> .inl (by show G b≠none;rw[e];simp)
 keep:=λb o e _=>e
 there:=λb e=>e
 ob:=λi d m=>by
  have:(i=b/\d=l)\/(i=c/\d=l2):= ~~~m
  rcases this with z|z
  ·rw[z.2];show H l≠none;rw[hl];simp
  ·rw[z.2];show H l2≠none;rw[hl2];simp
 len:=by rw[h.len,uB,uB]
 slot:=λi s e=>by
  by_cases z:i=b
  ·subst z;rw[hb]at e;cases e;exact⟨l,ys,hs,gl,hl,r,by simp⟩
  ·by_cases z2:i=c
   ·subst z2;rw[hb2]at e;cases e;exact⟨l2,ys2,hs2,gl2,hl2,r2,by simp⟩
   ·have e':((ρ.set b .emp).set c .emp)[i]? =some s:=by rw[iD (Ne.symm z2),iD (Ne.symm z)];exact e
    cases s with
    |emp=>trivial
    |two _ _=>trivial
    |tre t=>exact AH rfl ((zho h.no e').1 t)
    |ptr t=>exact AH rfl ((zho h.no e').2 t)
    |val d=>exact h.val i d e'
    |own ds=>exact AH ⟨_,ds,e',rfl⟩ (Zs h.no (i:=i))
    |par ds=>exact AH ⟨_,ds,e',rfl⟩ (Zs h.no (i:=i))
 dis:=λi j s t a hij e1 e2 w1 w2=>by
  have key:∀(i:Nat) (s:Sl),ρ[i]? =some s->bR K G H σ[i]? a s->(i=b/\a=l)\/(i=c/\a=l2):=λi s e w=>by
   by_cases z:i=b
   ·subst z;rw[hb]at e;cases e;have w:σ[i]? =some (some (.ref a)):=w;rw[hs]at w;exact .inl ⟨rfl,(V.ref.inj (Option.some.inj (Option.some.inj w))).symm⟩
   ·by_cases z2:i=c
    ·subst z2;rw[hb2]at e;cases e;have w:σ[i]? =some (some (.ref a)):=w;rw[hs2]at w;exact .inr ⟨rfl,(V.ref.inj (Option.some.inj (Option.some.inj w))).symm⟩
    ·exact AH w (zmc h.no (show((ρ.set b .emp).set c .emp)[i]? =some s by rw[iD (Ne.symm z2),iD (Ne.symm z)];exact e))
  rcases key i s e1 w1 with⟨z1,z2⟩|⟨z1,z2⟩<;>rcases key j t e2 w2 with⟨y1,y2⟩|⟨y1,y2⟩
  ·exact hij (z1.trans y1.symm)
  ·exact ll (z2.symm.trans y2)
  ·exact ll (y2.symm.trans z2)
  ·exact hij (z1.trans y1.symm)
theorem VS.ofQ {K:AF}{B:Bs}{G H:Hp}{σ:St}{ρ:R}{b c:Nat}{l l2:AD}(I:SI K B G H σ ρ)(hbc:b≠c)(hO:B.O=[(b,l),(c,l2)])(h:Ii b c ρ=true):
  ∃cs ys cs2 ys2,(ρ[b]? =some (.par cs)/\σ[b]? =some (some (.ref l))/\G l=none/\H l=some (.lst ys)/\RepL K G ys cs)/\(ρ[c]? =some (.par cs2)/\σ[c]? =some (some (.ref l2))/\G l2=none/\H l2=some (.lst ys2)/\RepL K G ys2 cs2)/\VS K G σ ((ρ.set b .emp).set c .emp):=by
 unfold Ii at h
 split at h
 ·rename_i cs cs2 e e2;obtain⟨l',ys,h1,h2,h3,h4,h5⟩:=I.slot b _ e;obtain⟨l2',ys2,k1,k2,k3,k4,k5⟩:=I.slot c _ e2;have hl:l'=l:=by
   rw[hO]at h5;have:(b=b/\l'=l)\/(b=c/\l'=l2):= ~~~h5
   rcases this with z|z
   ·exact z.2
   ·exact AH z.1 hbc
  have hl2:l2'=l2:=by
   rw[hO]at k5;have:(c=b/\l2'=l)\/(c=c/\l2'=l2):= ~~~k5
   rcases this with z|z
   ·exact AH z.1.symm hbc
   ·exact z.2
  subst hl hl2;refine⟨cs,ys,cs2,ys2,⟨e,h1,h2,h3,h4⟩,⟨e2,k1,k2,k3,k4⟩,⟨by rw[uB,uB];exact I.len,h,λi d e'=>?_⟩⟩;rw[jR]at e'
  split at e'
  ·split at e'
   ·cases e'
   ·exact aG e'
  ·rw[jR]at e'
   split at e'
   ·split at e'
    ·cases e'
    ·exact aG e'
   ·exact I.slot i _ e'
 ·cases h
theorem Fp {K:AF}{B:Bs}{G H G' H':Hp}{σ:St}{ρ:R}{j j2:Nat}{s s2:Sl}{cs out cs2 out2:AA D}{l l2 p:AD}(I:SI K B G H σ ρ)(jj:j≠j2)(e:ρ[j]? =some s)(q:s.items=some cs)(hl:σ[j]? =some (some (.ref l)))(e2:ρ[j2]? =some s2)(q2:s2.items=some cs2)(hl2:σ[j2]? =some (some (.ref l2)))(hp:H p=none)(nw:∀b o,G' b=some o->G b≠none\/H b=none)(kp:∀b o,b≠l->b≠l2->H b=some o->H' b=some o):Nw K G' H' σ ((ρ.set j (s.put out)).set j2 (s2.put out2)) p:=λi t et w=>by
 obtain⟨l',xs,e1,f2,e3,e4⟩:=I.wr e q;rw[hl]at e1;cases e1;obtain⟨l',xs2,e1,f2',e3',e4'⟩:=I.wr e2 q2;rw[hl2]at e1;cases e1;have hpl:p≠l:=λz=>by rw[z,e3]at hp;cases hp
 have hpl2:p≠l2:=λz=>by rw[z,e3']at hp;cases hp
 by_cases z2:i=j2
 ·subst z2;rw[jR,if_pos rfl]at et
  split at et
  ·cases et;have:=(kM (zgu q2 out2)).mp w;rw[hl2]at this;exact hpl2 (V.ref.inj (Option.some.inj (Option.some.inj this))).symm
  ·cases et
 ·rw[iD (Ne.symm z2)]at et
  by_cases z:i=j
  ·subst z;rw[jR,if_pos rfl]at et
   split at et
   ·cases et;have:=(kM (zgu q out)).mp w;rw[hl]at this;exact hpl (V.ref.inj (Option.some.inj (Option.some.inj this))).symm
   ·cases et
  ·rw[iD (Ne.symm z)]at et;have sl:=I.slot i t et;refine(sl.own (sl.back (λa w g h=>?_) w)).2.1 hp;have na:a≠l:=λw'=>by subst w';exact I.dis i j t s a z et e w ((kM q).mpr hl)
   have na2:a≠l2:=λw'=>by subst w';exact I.dis i j2 t s2 a z2 et e2 w ((kM q2).mpr hl2)
   obtain⟨u,hu⟩:=qbC.mp h;refine⟨?_,(kp a u na na2 hu).trans hu.symm⟩;cases q3:G' a with
   |none=>rfl
   |some u=>
    rcases nw a u q3 with z|z
    ·exact AH g z
    ·exact AH z h
theorem mF {K:AF}{B:Bs}{G H G' H':Hp}{σ:St}{ρ:R}{j j2:Nat}{s s2:Sl}{cs out cs2 out2:AA D}{l l2:AD}{ys ys2:AA V}(I:SI K B G H σ ρ)(jj:j≠j2)(e:ρ[j]? =some s)(q:s.items=some cs)(hl:σ[j]? =some (some (.ref l)))(e2:ρ[j2]? =some s2)(q2:s2.items=some cs2)(hl2:σ[j2]? =some (some (.ref l2)))(f:Fz G G')(fz:Fz G' H')(nw:∀b o,G' b=some o->G b≠none\/H b=none)(kp:∀b o,b≠l->b≠l2->H b=some o->H' b=some o)(gl:G' l=none)(hl':H' l=some (.lst ys))(r:RepL K G' ys out)(gl2:G' l2=none)(hl2':H' l2=some (.lst ys2))(r2:RepL K G' ys2 out2):
  SI K B G' H' σ ((ρ.set j (s.put out)).set j2 (s2.put out2)):=by
 obtain⟨l',xs2,e1,f2',e3',e4'⟩:=I.wr e2 q2;rw[hl2]at e1;cases e1;have ll:l≠l2:=λz=>I.dis j j2 s s2 l jj e e2 ((kM q).mpr hl) ((kM q2).mpr (by rw[z];exact hl2))
 have I1:=I.growW (G':=G') (H':=upd H' l2 (.lst xs2)) (out:=out) e q hl f (λb o h=>by
  have:b≠l2:=λz=>by rw[z,gl2]at h;cases h
  rw[aW this];exact fz b o h) nw (λb o n h=>by
  by_cases z:b=l2
  ·subst z;rw[cW];rw[e3']at h;exact h
  ·rw[aW z];exact kp b o n z h) gl (by rw[aW ll];exact hl') r
 have e2':(ρ.set j (s.put out))[j2]? =some s2:=by rw[iD jj];exact e2
 exact I1.growW e2' q2 hl2 (Fz.refl _) fz (λb o h=> .inl (by rw[h];simp)) (λb o n h=>by rw[aW n]at h;exact h) gl2 hl2' r2
section
variable {X:Cx}{elt iter tg:AI}{ifs:AA AI}{scope:Scope}{pos:Pos}{N:AA Str}{cap:AA Nat}{t bk wk ck vk:Nat}{mi:MA}{g:D->R->AB R}{mt:MT}{me:ME}
def zpB (hbw:cap[bk]? =some wk)(hcv:cap[ck]? =some vk)(hbc:bk≠ck)(hwv:wk≠vk)(si:yW X tg iter mi wi)(blk:LcB X scope N elt tg ifs g mt me tg' tt te):
  ∀B G H σ ρ ds ρ' (Q:VK),SI X.K B G H σ ρ->Bi cap t bk wk ck vk mi g mt me ρ=some (ds,ρ')->
   (∀G' H' l xs,SI X.K B G' H' σ ρ'->Fz G G'->G' l=none->H' l=some (.lst xs)->RepL X.K G' xs ds->B.H l=none->Nw X.K G' H' σ ρ' l->Q (.ref l) H')->Yr (cU cap t) wi tg' tt te σ H Q:=λB G H σ ρ ds ρ' Q I hm k=>
 aZ hm λitems ρ1 e1 hm=>si B G H σ ρ items ρ1 _ I e1 λJ G1 H1 I1 f1 IT DD hD=>aT hm λAO hm=>aP hm λsw ew hm=>aP hm λcs0 qw hm=>aP hm λsv ev hm=>aP hm λcs1 qv hm=>iM hm λall ρf e2 e3=>by
  exists Prod.mk.inj e3;obtain⟨G2,I2,f2⟩:=SI.fzL (cap.filter λi=>i !=wk&&i !=vk) I1;obtain⟨l,ys0,hσ,gl0,hl0,rl0⟩:=I2.wr ew qw;obtain⟨l2,ys1,hσ2,gl1,hl1,rl1⟩:=I2.wr ev qv;have ll:l≠l2:=λz=>I2.dis wk vk sw sv l hwv ew ev ((kM qw).mpr hσ) ((kM qv).mpr (by rw[z];exact hσ2))
  have hlD:l≠DD:=kP hl0 hD;have hlD2:l2≠DD:=kP hl1 hD;have hb:=zl5 (t:=t) hbw hσ;have hb2:=zl5 (t:=t) hcv hσ2;have two:∀{i:Nat} {a:AD},(i,a)∈[(bk,l),(ck,l2)]->a=l\/a=l2:=λm=>(qaq.mp m).imp (λq=>(Prod.mk.inj q).2) λm=>(Prod.mk.inj (qcB.mp m)).2
  refine zk6 blk (O:=[(bk,l),(ck,l2)]) (JJ:=λG H σ ρ=>PaAt X.K bk l G H σ ρ/\PaAt X.K ck l2 G H σ ρ/\VS X.K G σ ((ρ.set bk .emp).set ck .emp)) IT f2 I2.fz hD AO (λi m=>(two m).elim (λq=>hlD q.symm) λq=>hlD2 q.symm) (λG H σ ρ h f=>?_) (λ_ _ _ _ _ _ I h=>?_) (λ_ _ _ _ xs h=>⟨h.1.upd hlD xs,h.2.1.upd hlD2 xs,h.2.2⟩) ⟨⟨cs0,ys0,?_,hb.2,gl0,hl0,rl0⟩,⟨cs1,ys1,?_,hb2.2,gl1,hl1,rl1⟩,?_⟩ e2 λGc Hc σc xs J ra jj=>?_
  ·obtain⟨⟨cs,ys,a1,a2,a3,a4,a5⟩,⟨cs2,ys2,b1,b2,b3,b4,b5⟩,vs⟩:=h;exact vs.siQ f hbc ll a1 a2 a3 a4 a5 b1 b2 b3 b4 b5
  ·obtain⟨cs',ys',cs2',ys2',w1,w2,w6⟩:=VS.ofQ I hbc rfl h;exact⟨⟨cs',ys',w1⟩,⟨cs2',ys2',w2⟩,w6⟩
  ·rw[iD (Ne.symm hbc),jR,if_pos rfl,if_pos (by rw[zhI];lia)]
  ·rw[jR,if_pos rfl,if_pos (by rw[uB,zhI];lia)]
  ·rw[List.set_comm _ _ (Ne.symm hbc),List.set_set,List.set_set];exact((qZ I2 cap t).setEmp bk).setEmp ck
  ·obtain⟨⟨cs,ys,a1,a2,a3,a4,a5⟩,⟨cs2,ys2,b1,b2,b3,b4,b5⟩,vs⟩:=jj;have hp:uO bk ρf=cs:=by unfold uO;rw[a1]
   have hp2:uO ck ρf=cs2:=by unfold uO;rw[b1]
   rw[hp,hp2]at k;have kp:∀b o,b≠l->b≠l2->H1 b=some o->Hc b=some o:=λb o n n2 e=>J.kp b o (λi m=>(two m).elim n n2) e
   exact k Gc Hc DD xs (mF I2 hwv ew qw hσ ev qv hσ2 J.fc J.fcH J.nw kp a3 a4 a5 b3 b4 b5) (f1.trans (f2.trans J.fc)) J.gD J.hDc ra (I2.there DD hD) (Fp I2 hwv ew qw hσ ev qv hσ2 hD J.nw kp)
def Mf (cap:AA Nat)(t bk wk ck vk:Nat)(N:AA Str)(hc:X.calm=true)(hi:SIt X tg iter mi)(hg:∀C s H fp,SG (cF X N scope C s H fp) tg g)(ht:∀C s H fp,Dk (cF X N scope C s H fp) ifs mt)(he:∀C s H fp,SE (cF X N scope C s H fp) elt me)(hbw:cap[bk]? =some wk:=by rfl)(hcv:cap[ck]? =some vk:=by rfl)(hbc:bk≠ck:=by decide)(hwv:wk≠vk:=by decide)(hk:scope.kind= .function:=by rfl)(hb:jB X.env scope=true:=by kernel_rfl)(hcap:jL scope.names N X.N cap t=true:=by kernel_rfl)(hs:∀x,foldedSetIterable iter X.env x=pure x:=by exactλ_=>rfl):SO X (.ListComp elt [⟨tg,iter,ifs,0⟩] scope pos) (Bi cap t bk wk ck vk mi g mt me):=by
  refine hi.el λwi pi si=>?_
  exact⟨_,Du hc (Th hk hb) (Wx hcap) pi (λC s H fp=>(hg C s H fp).choose_spec.1) (λC s H fp=>(ht C s H fp).choose_spec.1) (λC s H fp=>(he C s H fp).choose_spec.1) hs,
    zpB hbw hcv hbc hwv si (.mk' hg ht he)⟩
end
def Ax (j:Nat)(me:ME):ME:=λρ=>if(ρ[j]?.bind Sl.items).isSome then(me ρ).bind λp=>match p.1 with
 | .int i=>p.2[j]?.bind λs=>s.items.bind λds=>if 0<=i/\i<ds.length/\ds.length<=16777216 then(ds[i.toNat]?).map λd=>(d,p.2.set j (s.put (ds.eraseIdx i.toNat)))else none
 |_=>none else none
theorem RepL.erase {K:AF}{G:Hp}:∀{xs:AA V} {ds:AA D} (k:Nat),RepL K G xs ds->RepL K G (xs.eraseIdx k) (ds.eraseIdx k)
 |_,[],_,h=>by cases h;simp;rfl
 |_,d::ds,0,⟨x,ys,e,a,b⟩=>by subst e;exact b
 |_,d::ds,k+1,⟨x,ys,e,a,b⟩=>by subst e;exact⟨x,_,rfl,a,RepL.erase k b⟩
section
variable {X:Cx}{x:Str}{e:AI}{me:ME}
def Ep (j:Nat)(he:SE X e me)(hN:X.N[j]? =some x:=by rfl)(hv:dP X.env.scope x:=by trivial)(hd:(x==("__debug__":Str))=false:=by decide)(hcd:(x==("__classdict__":Str))=false:=by decide)(hbase:attributeBase (.Name x p') "pop" X.env (eval (.Name x p') X.env)=eval (.Name x p') X.env:=by rfl)(hfew : ((backTo cpos (starEach [e] X.env)).all (λx => !x.1) && (backToKw cpos (keywordEach [] X.env)).all (λx => x.1.isSome)
   &&decide ([e].length+([]:AA Keyword).length+(if([]:AA Keyword).isEmpty then 0 else 1)<30))=true:=by rfl)(hline:(apos.endLine==cpos.line)=true:=by rfl)(hs:starEach [e] X.env=(false,eval e X.env)::starEach [] X.env:=by rfl):SE X (.Call (.Attribute (.Name x p') "pop" apos) [e] [] cpos) (Ax j me):=by
 refine he.el λt p s=>?_
 refine⟨_,kO Zc PySem.F.slot_list_pop PySem.F.type_list_pop sW (eI hN hv hd hcd) (iG p oP hs) hbase hfew hline hs rfl,λB G H σ ρ d ρ' Q I hm k=>?_⟩;unfold Ax at hm;refine aT hm λhso hm=>?_
 ·skip
  obtain⟨ds0,hso⟩:=qa0.mp hso;refine aP hso λs0 e0 q0=>?_
  obtain⟨l,xs0,h1,h2,h3,h4⟩:=I.wr e0 q0;refine aZ hm λdv ρ1 e1 hm=>?_
  dsimp only at hm
  split at hm
  ·rename_i i;refine aP hm λs1 e2 hm=>?_
   refine aP hm λds e3 hm=>?_
   refine aT hm λhl hm=>?_
   ·skip
    refine bB hm λdd e4 e5=>?_
    exists Prod.mk.inj e5;refine⟨.ref l,h1,.inl ⟨rfl,_,SqL.of h3⟩,s B G H σ ρ (.int i) ρ1 _ I e1 λG1 H1 v I1 f1 r1=>?_⟩;obtain⟨l',xs,k1,k2,k3,k4⟩:=I1.wr e2 e3;rw[h1]at k1;cases k1;cases(show v= .int i from r1);obtain⟨y,hy,ry⟩:=k4.get e4;have len:=k4.length;refine⟨l,xs,i,i.toNat,y,rfl,rfl,k3,∅,∅,by unfold seqIndex?;simp;lia,hy,?_⟩;exact k G1 _ y (I1.write e2 e3 h1 (k4.erase i.toNat)) f1 ry
  ·exact aG hm
end
end M
namespace M
open PySem PySem.W
open PyProof.Rows (bubble mirror bubble_size bubble_perm mirror_size mirror_perm getElem?_bubble getElem?_mirror_all)
variable {cmp:Nat->Nat->(Bool->AE->Prop)->AE->Prop}{s:AE}{p q:Array Nat}{i j n m k:Nat}
def gB (n:Nat)(lt:Nat->Nat->Bool){α:Type}:KasT α->(α->Prop)->Prop
 | .ret a,Q=>Q a
 | .ask i j k,Q=>i<n/\j<n/\gB n lt (k (lt i j)) Q
def jG (lt:Nat->Nat->Bool){α:Type}:KasT α->α
 | .ret a=>a
 | .ask i j k=>jG lt (k (lt i j))
section
variable {n:Nat}{lt:Nat->Nat->Bool}{α β:Type}
def Oc {Q:β->Prop}:∀{t:KasT α},gB n lt t (λa=>gB n lt (f a) Q)->gB n lt (t.bind f) Q
 | .ret _,h=>h
 | .ask _ _ _,⟨h1,h2,h3⟩=>⟨h1,h2,Oc h3⟩
def tQ {Q Q':α->Prop}(q:∀a,Q a->Q' a):∀{t:KasT α},gB n lt t Q->gB n lt t Q'
 | .ret a,h=>q a h
 | .ask _ _ _,⟨h1,h2,h3⟩=>⟨h1,h2,tQ q h3⟩
def zlc {Q:α->Prop}:∀{t:KasT α},gB n lt t Q->Q (jG lt t)
 | .ret _,h=>h
 | .ask i j k,⟨_,_,h3⟩=>zlc (t:=k (lt i j)) h3
def sE {Q0:α->Prop}{Q:α->AE->Prop}(hc:∀i j C,i<n->j<n->C (lt i j) s->cmp i j C s):
  ∀{t:KasT α},gB n lt t Q0->Q (jG lt t) s->t.kasWp cmp Q s
 | .ret _,_,h=>h
 | .ask i j k,⟨h1,h2,h3⟩,h=>hc i j _ h1 h2 (sE (t:=k (lt i j)) hc h3 h)
end
structure Ord (lt:Nat->Nat->Bool):Prop where
 tr:∀a b c,lt b a=false->lt c b=false->lt c a=false
 as:∀a b,lt a b=true->lt b a=false
def Ord.rf (o:Ord lt)(a:Nat):lt a a=false:=by
 cases h:lt a a with
 |false=>rfl
 |true=>rw[o.as a a h]at h;cases h
def Ord.lt_le (o:Ord lt)(h:lt a b=true)(k:lt c b=false):lt a c=true:=by
 cases z:lt a c with
 |true=>rfl
 |false=>rw[o.tr b c a k z]at h;cases h
def kv (p:Array Nat)(k:Nat):Nat:=p.getD k 0
def Xd (h:p[i]? =q[j]?):kv p i=kv q j:=by
 unfold kv;rw[qcC,qcC,h]
structure Pm (n:Nat)(p:Array Nat):Prop where
 pm:p.toList.Perm (List.range n)
def Pm.size (h:Pm n p):p.size=n:=by
 have:=h.pm.length_eq;rwa[Pa,Aj]at this
def Pm.lt (h:Pm n p)(hn:0<n)(k:Nat):kv p k<n:=by
 unfold kv
 by_cases hk:k<p.size
 ·have:p.getD k 0=p[k]:=by simp[Array.getD,hk]
  rw[this];exact qai.mp (h.pm.mem_iff.mp (qaP.mpr (Array.getElem_mem hk)))
 ·have:p.getD k 0=0:=by simp[Array.getD,hk]
  rw[this];exact hn
def Pm.bub (h:Pm n p)(a d:Nat):Pm n (bubble p a d):=⟨(Array.perm_iff_toList_perm.mp (bubble_perm p a d)).trans h.pm⟩
def Pm.rev (h:Pm n p)(i j:Nat):Pm n (kas_rev p i j):=⟨(Array.perm_iff_toList_perm.mp (mirror_perm p i j _)).trans h.pm⟩
def znM {i j:Nat}(hj:j<=p.size)(k:Nat):kv (kas_rev p i j) k=if i<=k/\k<j then kv p (i+j-1-k)else kv p k:=by
 have h:=getElem?_mirror_all (i:=i) hj k
 split
 ·rename_i z;rw[if_pos z]at h;exact Xd h
 ·rename_i z;rw[if_neg z]at h;exact Xd h
def oM (ha:a<p.size)(hd:d<=a)(k:Nat):kv (bubble p a d) k=if k=a-d then kv p a else if a-d<k/\k<=a then kv p (k-1)else kv p k:=by
 have h:=getElem?_bubble ha d hd k
 by_cases z:k=a-d
 ·rw[if_pos z]at h ⊢;exact Xd h
 ·rw[if_neg z]at h ⊢
  by_cases y:a-d<k/\k<=a
  ·rw[if_pos y]at h ⊢;exact Xd h
  ·rw[if_neg y]at h ⊢;exact Xd h
section
variable {n:Nat}{lt:Nat->Nat->Bool}
def Up (lt:Nat->Nat->Bool)(p:Array Nat)(m:Nat):Prop:=∀i,0<i->i<m->lt (kv p i) (kv p (i-1))=false
def Dn (lt:Nat->Nat->Bool)(p:Array Nat)(m:Nat):Prop:=∀i,0<i->i<m->lt (kv p (i-1)) (kv p i)=false
def Eqv (lt:Nat->Nat->Bool)(a b:Nat):Prop:=lt a b=false/\lt b a=false
def Eqv.sy (h:Eqv lt a b):Eqv lt b a:=⟨h.2,h.1⟩
def Eqv.tr (o:Ord lt)(h:Eqv lt a b)(k:Eqv lt b c):Eqv lt a c:=⟨o.tr c b a k.1 h.1,o.tr a b c h.2 k.2⟩
def Up.le (o:Ord lt)(h:Up lt p m):∀{j i:Nat},i<=j->j<m->lt (kv p j) (kv p i)=false
 |0,i,h1,_=>by cases Nat.le_zero.mp h1;exact o.rf _
 |j+1,i,h1,h2=>by
  rcases Ye h1 with z|z
  ·exact o.tr _ _ _ (Up.le o h ∅ ∅) (h (j+1) ∅ h2)
  ·subst z;exact o.rf _
def Dn.eqv (o:Ord lt)(h:Dn lt p m)(e:∀k,Eqv lt (kv q k) (kv p k)):Dn lt q m:=λi h1 h2=>
 o.tr _ _ _ (e i).2 (o.tr _ _ _ (h i h1 h2) (e (i-1)).1)
def zlL (o:Ord lt)(hj:j<=p.size)(h:∀k,i<=k->k<j->Eqv lt (kv p k) (kv p (j-1)))(k:Nat):Eqv lt (kv (kas_rev p i j) k) (kv p k):=by
 rw[znM hj]
 split
 ·rename_i z;exact(h _ ∅ ∅).tr o (h k z.1 z.2).sy
 ·exact⟨o.rf _,o.rf _⟩
def Dn.turn (h:Dn lt p m)(hm:m<=p.size):Up lt (kas_rev p 0 m) m:=λi h1 h2=>by
 rw[znM hm,znM hm,if_pos ⟨∅,h2⟩,if_pos ⟨∅,∅⟩];have:=h (0+m-1-(i-1)) ∅ ∅;rwa[show 0+m-1-(i-1)-1=0+m-1-i by lia]at this
def zo0 (hn:0<n)(hp:Pm n p):∀f m,1<=m->Up lt p m->gB n lt (kas_asc p f m) λr=>m<=r/\r<=m+f/\Up lt p r/\(r<m+f->lt (kv p r) (kv p (r-1))=true)
 |0,m,_,h=>⟨aY _,aY _,h,λz=>AH z (mY _)⟩
 |f+1,m,h1,h=>by
  refine⟨hp.lt hn m,hp.lt hn (m-1),?_⟩;show gB n lt (if lt (kv p m) (kv p (m-1))=true then _ else _) _
  split
  ·rename_i c;exact⟨aY _,∅,h,λ_=>c⟩
  ·rename_i c;have c':lt (kv p m) (kv p (m-1))=false:= ~~~c
   refine tQ (λr hr=>⟨∅,∅,hr.2.2.1,λz=>hr.2.2.2 ∅⟩) (zo0 hn hp f (m+1) ∅ λi a b=>?_);rcases Ye (Zh b)with z|z
   ·exact h i a z
   ·subst z;exact c'
def zjE (o:Ord lt)(hn:0<n):∀(f:Nat) (p:Array Nat) (m q:Nat),Pm n p->m+f<=n->q+1<=m->Dn lt p m->(∀k,m-(q+1)<=k->k<m->Eqv lt (kv p k) (kv p (m-1)))->
  gB n lt (kas_desc f p m q) λr=>Pm n r.1/\m<=r.2.1/\r.2.1<=m+f/\r.2.2+1<=r.2.1/\Dn lt r.1 r.2.1/\∀k,r.2.1-(r.2.2+1)<=k->k<r.2.1->Eqv lt (kv r.1 k) (kv r.1 (r.2.1-1))
 |0,p,m,q,hp,hm,hq,h,e=>⟨hp,aY _,aY _,hq,h,e⟩
 |f+1,p,m,q,hp,hm,hq,h,e=>by
  have more:∀{p':Array Nat},Dn lt p' m->lt (kv p' (m-1)) (kv p' m)=false->Dn lt p' (m+1):=λh' c i a b=>by
   rcases Ye (Zh b)with z|z
   ·exact h' i a z
   ·subst z;exact c
  have one:∀{p':Array Nat} (k:Nat),m+1-(0+1)<=k->k<m+1->Eqv lt (kv p' k) (kv p' (m+1-1)):=λk a b=>by
   obtain rfl:k=m:=∅
   exact⟨o.rf _,o.rf _⟩
  refine⟨hp.lt hn m,hp.lt hn (m-1),?_⟩;show gB n lt (if lt (kv p m) (kv p (m-1))=true then(if q>0 then _ else _)else KasT.ask (kv p (m-1)) (kv p m) _) _
  split
  ·rename_i c;have c2:=o.as _ _ c
   split
   ·have ev:=zlL o (p:=p) (i:=m-(q+1)) (j:=m) (by rw[hp.size];lia) e;have hl:lt (kv (kas_rev p (m-(q+1)) m) (m-1)) (kv (kas_rev p (m-(q+1)) m) m)=false:=o.tr _ _ _ (ev m).2 (o.tr _ _ _ c2 (ev (m-1)).1);exact tQ (λr hr=>⟨hr.1,∅,∅,hr.2.2.2.1,hr.2.2.2.2⟩) (zjE o hn f _ (m+1) 0 (hp.rev _ _) ∅ ∅ (more (h.eqv o ev) hl) one)
   ·exact tQ (λr hr=>⟨hr.1,∅,∅,hr.2.2.2.1,hr.2.2.2.2⟩) (zjE o hn f _ (m+1) 0 hp ∅ ∅ (more h c2) one)
  ·rename_i c;have c':lt (kv p m) (kv p (m-1))=false:= ~~~c
   refine⟨hp.lt hn (m-1),hp.lt hn m,?_⟩;show gB n lt (if lt (kv p (m-1)) (kv p m)=true then _ else _) _
   split
   ·exact⟨hp,aY _,Nat.le_add_right m (f+1),hq,h,e⟩
   ·rename_i d;have d':lt (kv p (m-1)) (kv p m)=false:= ~~~d
    refine tQ (λr hr=>⟨hr.1,∅,∅,hr.2.2.2.1,hr.2.2.2.2⟩) (zjE o hn f p (m+1) (q+1) hp ∅ ∅ (more h d') λk a b=>?_);rcases Ye (Zh b)with z|z
    ·exact(e k ∅ z).tr o ⟨d',c'⟩
    ·subst z;exact⟨o.rf _,o.rf _⟩
def Run (lt:Nat->Nat->Bool)(n:Nat)(r:Nat×Array Nat):Prop:=Pm n r.2/\1<=r.1/\r.1<=n/\Up lt r.2 r.1
def zml (hn:0<n)(hp:Pm n p)(h1:1<=m)(h2:m<=n)(h:Dn lt p m):gB n lt (kas_tail3 m n p) (Run lt n):=by
 refine Oc (tQ (λr hr=>?_) (zo0 hn (hp.rev 0 m) (n-m) m h1 (h.turn (by rw[hp.size];exact h2))));exact⟨hp.rev 0 m,∅,∅,hr.2.2.1⟩
def ziz (o:Ord lt)(hn:0<n){p:Array Nat}(hp:Pm n p)(h1:1<=m)(h2:m<n)(h:Dn lt p (m+1)):gB n lt (kas_descPart m n p) (Run lt n):=by
 refine Oc (tQ (λr hr=>?_) (zjE o hn (n-(m+1)) p (m+1) 0 hp ∅ ∅ h λk a b=>?_))
 ·obtain⟨a1,a2,a3,a4,a5,a6⟩:=hr
  split
  ·have ev:=zlL o (p:=r.1) (i:=r.2.1-(r.2.2+1)) (j:=r.2.1) (by rw[a1.size];lia) a6;exact zml hn (a1.rev _ _) ∅ ∅ (a5.eqv o ev)
  ·exact zml hn a1 ∅ ∅ a5
 ·obtain rfl:k=m:=∅
  exact⟨o.rf _,o.rf _⟩
def mH (o:Ord lt)(hn:0<n){p:Array Nat}(hp:Pm n p):gB n lt (kas_count n p) (Run lt n):=by
 refine Oc (tQ (λm hm=>?_) (zo0 hn hp (n-1) 1 (aY _) λi a b=>AH a ∅));obtain⟨a1,a2,a3,a4⟩:=hm
 split
 ·exact⟨hp,a1,∅,a3⟩
 ·rename_i ne;have ne':m≠n:= ~~~ne
  have c:=a4 ∅
  split
  ·refine⟨hp.lt hn 0,hp.lt hn (m-1),?_⟩;show gB n lt (if lt (kv p 0) (kv p (m-1))=true then _ else _) _
   split
   ·exact⟨hp,a1,∅,a3⟩
   ·rename_i d;have d':lt (kv p 0) (kv p (m-1))=false:= ~~~d
    have eq:∀k,0<=k->k<m->Eqv lt (kv p k) (kv p (m-1)):=λk _ hk=>⟨o.tr _ _ _ d' (a3.le o (gK k) hk)|>λz=>?_,a3.le o ∅ ∅⟩
    ·have ev:=zlL o (p:=p) (i:=0) (j:=m) (by rw[hp.size];lia) eq;refine ziz o hn (hp.rev 0 m) a1 ∅ λi x y=>?_
     rcases Ye (Zh y)with z|z
     ·exact o.tr _ _ _ (ev i).2 (o.tr _ _ _ ((eq (i-1) ∅ ∅).tr o (eq i ∅ z).sy).1 (ev (i-1)).1)
     ·subst z;exact o.tr _ _ _ (ev i).2 (o.tr _ _ _ (o.as _ _ c) (ev (i-1)).1)
    ·exact o.tr _ _ _ d' (a3.le o (gK k) hk)
  ·obtain rfl:m=1:=∅
   refine ziz o hn hp (aY _) ∅ λi x y=>?_
   obtain rfl:i=1:=∅
   exact o.as _ _ c
def zj3 (o:Ord lt)(hn:0<n)(hp:Pm n p)(hu:Up lt p k):∀f l r,l<=r->r<=k->r-l<=f->(∀i,i<l->lt (kv p k) (kv p i)=false)->(∀i,r<=i->i<k->lt (kv p k) (kv p i)=true)->
  gB n lt (kas_place p k f l r) λx=>x<=k/\(∀i,i<x->lt (kv p k) (kv p i)=false)/\∀i,x<=i->i<k->lt (kv p k) (kv p i)=true
 |0,l,r,h1,h2,h3,h4,h5=>by
  obtain rfl:l=r:=∅
  exact⟨h2,h4,h5⟩
 |f+1,l,r,h1,h2,h3,h4,h5=>by
  unfold kas_place
  split
  ·obtain rfl:l=r:=∅
   exact⟨h2,h4,h5⟩
  ·rename_i ne;refine⟨hp.lt hn k,hp.lt hn _,?_⟩;show gB n lt (if lt (kv p k) (kv p ((l+r)/2))=true then _ else _) _
   split
   ·rename_i c;refine zj3 o hn hp hu f l _ ∅ ∅ ∅ h4 λi a b=>?_
    exact o.lt_le c (hu.le o a b)
   ·rename_i c;have c':lt (kv p k) (kv p ((l+r)/2))=false:= ~~~c
    refine zj3 o hn hp hu f _ r ∅ h2 ∅ (λi a=>?_) h5;exact o.tr _ _ _ (hu.le o (i:=i) (j:=(l+r)/2) ∅ ∅) c'
def nK (o:Ord lt)(hn:0<n):∀(f:Nat) (p:Array Nat) (k:Nat),k+f=n->1<=k->Pm n p->Up lt p k->gB n lt (kas_bin f p k) λq=>Pm n q/\Up lt q n
 |0,p,k,h1,_,hp,hu=>by
  obtain rfl:k=n:=∅
  exact⟨hp,hu⟩
 |f+1,p,k,h1,hk,hp,hu=>by
  refine Oc (tQ (λx hx=>?_) (zj3 o hn hp hu k 0 k (gK _) (aY _) ∅ (λi a=>AH a ∅) λi a b=>AH a ∅));obtain⟨b1,b2,b3⟩:=hx;have hs:k<p.size:=by rw[hp.size];lia
  refine nK o hn f _ (k+1) ∅ ∅ (hp.bub _ _) λi a b=>?_
  have e:k-(k-x)=x:=∅
  rw[oM hs ∅,oM hs ∅,e]
  by_cases z:i=x
  ·rw[if_pos z,if_neg ∅,if_neg ∅];exact b2 (i-1) ∅
  ·rw[if_neg z]
   by_cases y:x<i
   ·rw[if_pos ⟨y,∅⟩]
    by_cases u:i-1=x
    ·rw[if_pos u,u];exact o.as _ _ (b3 x (aY _) ∅)
    ·rw[if_neg u,if_pos ⟨∅,∅⟩];exact hu (i-1) ∅ ∅
   ·rw[if_neg (λq=>y q.1),if_neg ∅,if_neg ∅];exact hu i a ∅
def zlz (o:Ord lt)(hn:0<n):gB n lt (kas_sort n) λq=>Pm n q/\Up lt q n:=by
 refine Oc (tQ (λr hr=>?_) (mH o hn (p:=List.toArray (List.range n)) ⟨List.Perm.refl _⟩));obtain⟨a1,a2,a3,a4⟩:=hr
 split
 ·rw[show max r.1 1=r.1 by lia];exact nK o hn _ _ _ ∅ a2 a1 a4
 ·obtain e:r.1=n:=∅
  rw[e]at a4;exact⟨a1,a4⟩
end
def jM (n:Nat)(lt:Nat->Nat->Bool):AA Nat:=if n<2 then List.range n else(jG lt (kas_sort n)).toList
def Vh {n:Nat}(o:Ord lt):(jM n lt).Perm (List.range n):=by
 unfold jM
 split
 ·exact List.Perm.refl _
 ·exact(zlc (zlz o (n:=n) ∅)).1.pm
def Iv {n:Nat}(o:Ord lt){i j:Nat}(hij:i<=j)(ha:(jM n lt)[i]? =some a)(hb:(jM n lt)[j]? =some b):lt b a=false:=by
 unfold jM at ha hb
 split at ha
 ·rename_i h;rw[if_pos h]at hb;have h1:=(qat.mp hb).1;rw[Aj]at h1;obtain rfl:i=j:=∅
  rw[ha]at hb;cases hb;exact o.rf _
 ·rename_i h;rw[if_neg h]at hb;obtain⟨p1,p2⟩:=zlc (zlz o (n:=n) ∅);have e:∀{k c:Nat},(jG lt (kas_sort n)).toList[k]? =some c->kv (jG lt (kas_sort n)) k=c:=λ{k c} q=>by
   unfold kv;rw[Array.getElem?_toList]at q;rw[qcC,q];rfl
  have h1:=(qat.mp hb).1;rw[Pa,p1.size]at h1;rw[<-e ha,<-e hb];exact p2.le o hij h1
end M
namespace HT
open PySem PySem.W
open PyProof.Rows (seqObj listItems_at listUpdate_at seqEpoch_at get?_update_seq size_push' sortedHeap sortedAll list_sort_plain arrOf failedOf general' keyKind' pairsOf collect_list)
def eZ (vs:AA AC)(lt:Nat->Nat->Bool):AA AC:=(M.jM vs.length lt).map λi=>vs.getD i Value.none
def oW (o:M.Ord lt):(eZ vs lt).length=vs.length:=by
 unfold eZ;rw[cO,(M.Vh o).length_eq,Aj]
def zne (vs:AA AC):(List.range vs.length).map (λi=>vs.getD i Value.none)=vs:=by
 refine List.ext_getElem (by simp) λi h1 h2=>?_
 rw[List.getElem_map,List.getElem_range,jV,bA h2]
 rfl
section
variable {prog:AJ}{w:World}{A:Around}{E:AC->AE->Prop}{s:AE}
def jY (prog:AJ)(w:World)(A:Around)(ks:AA AC)(lt:Nat->Nat->Bool)(s:AE):Prop:=
 ∃κ,(∀(Q:PyProof.Rows.SortKind->AE->Prop) (E:AC->AE->Prop),Q κ s->AG (model prog w) A (keyKind' (List.toArray ks)) Q E s)/\∀i j C,i<ks.length->j<ks.length->C (lt i j) s->kas_ask prog w A κ ks i j C s
def znw {P:PySem.Fin->AE->Prop}(o:M.Ord lt)(ho:s.heap.get? a=some (seqObj "list" vs.toArray n))(h64:vs.length<64)(hk:2<=vs.length->∀h',(∀b u,b≠a->s.heap.get? b=some u->h'.get? b=some u)->jY prog w A vs lt {s with heap:=h'})(h:P (.done (.ret .none)) {s with heap:=sortedHeap s.heap a vs (eZ vs lt).toArray}):AG (model prog w) A (Builtin.«list.sort» ⟨[.ref a],[]⟩) P E s:=by
 rw[list_sort_plain];have ha:=cK ho;have hsl:vs.length<=sizeLine:=by rw[fX];lia
 obtain⟨e1,g1⟩:∃c,(s.heap.update a (Obj.mapSeq λ_=> #[])).get? a=some (seqObj "list" #[] c):=⟨_,get?_update_seq ho λ_=> #[]⟩;refine aJ (listItems_at ho rfl (aJ (listUpdate_at ho rfl (aJ (seqEpoch_at g1 rfl (aJ (wpAny_newTuple (aJ (wpAny_newList (gV ?_) (gK _))) hsl)))) (by rw[bS];exact hsl) (gK _))))
 generalize hH:((s.heap.update a (Obj.mapSeq λ_=>(#[]:Array AC))).push (seqObj "tuple" vs.toArray 0)).push (seqObj "list" #[] 0)=H3
 have g3:H3.get? a=some (seqObj "list" #[] e1):=by
  rw[<-hH];exact bP _ (bP _ g1)
 have k3:∀b u,b≠a->s.heap.get? b=some u->H3.get? b=some u:=λb u z q=>by
  rw[<-hH];exact bP _ (bP _ ((vA _ _ (Ne.symm z)).trans q))
 show AG _ A _ P E {s with heap:=H3};dsimp only;have fin:∀(st:PyProof.Rows.SortSt),(arrOf st).map (·.2)=(eZ vs lt).toArray->failedOf st=none->AG (model prog w) A (do
   let sorted:=(arrOf st).map (·.2)
   let touched:=(<-seqEpoch a) !=e1
   Builtin.List.listUpdate (.ref a) λ_=>sorted
   if let some e:=failedOf st then rule "list.sort.comparison-raised";throw e
   if touched then rule "list.sort.modified";raiseError "ValueError" "list modified during sort"
   ret .none) P E {s with heap:=H3}:=λst e f=>by
  dsimp only;rw[e,f];refine aJ (seqEpoch_at g3 rfl (aJ (listUpdate_at g3 rfl ?_ (gK _) (by rw[bS,oW o];lia))));simp only[bne_self_eq_false,tN,dG];refine qaF ?_;rw[<-hH];exact h
 have hz:vs.toArray.size=vs.length:=bS ..
 by_cases h2:vs.length<2
 ·simp only[if_pos (show vs.toArray.size<2 by rw[hz];exact h2)];refine aJ (qaF ?_);rw[StateT.run_pure];refine aJ (qaF (fin _ ?_ rfl));unfold eZ M.jM;rw[if_pos h2,zne];show((vs.toArray.zip vs.toArray).map (·.2))=_
  apply Array.toList_inj.mp;simp[List.map_snd_zip]
 ·simp only[if_neg (show ¬vs.toArray.size<2 by rw[hz];exact h2)];obtain⟨κ,a1,a2⟩:=hk ∅ H3 k3;refine aJ (a1 _ _ (aJ (jT (kat_run (Q:=λst s'=>s'={s with heap:=H3}/\(arrOf st).map (·.2)=(eZ vs lt).toArray/\failedOf st=none) (G:=λp s'=>s'={s with heap:=H3}/\p=M.jG lt (kas_sort vs.length)) rfl ∅ h64 (λp st s' b1 b2 b3 b4=>⟨b4.1,?_,b3⟩) (M.sE (n:=vs.length) (lt:=lt) a2 (M.zlz o ∅) ⟨rfl,rfl⟩)) (λr s' ⟨c1,c2,c3⟩=>?_) λ_ _ x=>x)))
  ·rw[kat_snds rfl b2,b4.2];unfold eZ M.jM;rw[if_neg h2]
  ·subst c1;exact fin r.2 c2 c3
def xI {Q:AC->AE->Prop}(o:M.Ord lt)(hl:s.heap.IsList l vs.toArray)(h64:vs.length<64)(hk:2<=vs.length->∀h',(∀b u,s.heap.get? b=some u->h'.get? b=some u)->jY prog w A.in1.in1 vs lt {s with heap:=h'})(h:Q (.ref (s⁻¹+1)) {s with heap:=sortedAll s.heap vs (eZ vs lt).toArray}):AG (model prog w) A (call (.builtin "sorted") [.ref l]) Q E s:=by
  have hsl:vs.length<=sizeLine:=by rw[fX];lia
  have hsz:((s.heap.push (seqObj "list" #[] 0)).update s⁻¹ (Obj.mapSeq (· ++vs.toArray))).objs.size=s⁻¹+1:=(Heap.size_update ..).trans (size_push' ..)
  refine Calls.call_function_entry PyProof.Rows.kind_sorted PyProof.Rows.plain_sorted PyProof.Rows.entry_sorted (PyProof.Rows.args_sorted1 _) (?_:AG _ _ (Builtin.«sorted» _) _ _ _);unfold Builtin.«sorted»;refine aJ (m:=checkCount "sorted" 1 1 _) (qaF (aJ (collect_list hl (aJ (wpAny_newList ?_ hsl)) hsl)));have g:(((s.heap.push (seqObj "list" #[] 0)).update s⁻¹ (Obj.mapSeq (· ++vs.toArray))).push (seqObj "list" vs.toArray 0)).get? (s⁻¹+1)=some (seqObj "list" vs.toArray 0):=hsz ▸ dO _ rfl
  show AG _ _ _ _ _ {s with heap:=((s.heap.push (seqObj "list" #[] 0)).update s⁻¹ (Obj.mapSeq (· ++vs.toArray))).push (seqObj "list" vs.toArray 0)}
  rw[hsz];refine aJ (gV (tY PyProof.Rows.slot_list_sort ⟨_,g,rfl⟩ PyProof.Rows.entry_list_sort (znw o g h64 (λh2 h' k=>hk h2 h' λb u q=>?_) ⟨_,rfl,qaF ⟨_,rfl,h⟩⟩) (PyProof.Rows.args_list_sort _)));have hlt:=cK q;exact k b u (eT (Sf hlt)) (bP _ ((vA _ _ (Nat.ne_of_gt hlt)).trans (bP _ q)))
end
end HT
namespace HT
open PySem PySem.Spec PySem.W
open PyProof.Rows (IntsAre IsTup)
def oY:∀a b c:AA Int,cY b a=false->cY c b=false->cY c a=false
 |[],_,[],_,_=>rfl
 |[],_,_::_,_,_=>rfl
 |_::_,[],_,h,_=>by cases h
 |_::_,_::_,[],_,h=>by cases h
 |x::xs,y::ys,z::zs,h,k=>by
  rw[Xi]at h k ⊢
  by_cases e:y=x
  ·by_cases f:z=y
   ·rw[if_pos e]at h;rw[if_pos f]at k;rw[if_pos (f.trans e)];exact oY xs ys zs h k
   ·rw[if_neg f]at k;subst e;rw[if_neg f];exact k
  ·rw[if_neg e]at h;have h':=qcF h
   by_cases f:z=y
   ·rw[if_neg ∅];exact gQ ∅
   ·rw[if_neg f]at k;have k':=qcF k;rw[if_neg ∅];exact gQ ∅
def pQ:∀a b:AA Int,cY a b=true->cY b a=false
 |[],[],h=>by cases h
 |[],_::_,_=>rfl
 |_::_,[],h=>by cases h
 |x::xs,y::ys,h=>by
  rw[Xi]at h ⊢
  by_cases e:x=y
  ·rw[if_pos e]at h;rw[if_pos e.symm];exact pQ xs ys h
  ·rw[if_neg e]at h;have h':=Oi h;rw[if_neg ∅];exact gQ ∅
def jO (nss:AA (AA Int))(i j:Nat):Bool:=cY (nss.getD i []) (nss.getD j [])
def Qs (nss:AA (AA Int)):M.Ord (jO nss):=⟨λ_ _ _=>oY _ _ _,λ_ _=>pQ _ _⟩
section
variable {prog:AJ}{w:World}{A:Around}{E:AC->AE->Prop}{s:AE}
theorem lM {α:Type}{l:AA α}{i:Nat}{x d:α}(h:l[i]? =some x):l.getD i d=x:=by rw[jV,h];rfl
theorem znz {ks:AA AC}{ns:AA Int}(hi:IntsAre ks ns)(h2:2<=ks.length):jY prog w A ks (jO (ns.map λn=>[n])) s:=by
 refine⟨PyProof.Rows.oneType',λQ E h=>?_,λi j C h1 h3 h=>?_⟩
 ·rw[PyProof.Rows.ksk_kind (kz:=ns) hi (by rw[bS];exact h2)];exact qaF h
 ·obtain⟨n,t,e1,e2⟩:=hi.at i _ (bA h1);obtain⟨m,u,f1,f2⟩:=hi.at j _ (bA h3);unfold kas_ask;rw[lM (bA h1),lM (bA h3),e1,f1];refine kat_lt_int ?_;unfold jO at h;rw[lM (x:=[n]) (by rw[cR,e2];rfl),lM (x:=[m]) (by rw[cR,f2];rfl),Xi]at h
  by_cases z:n=m
  ·subst z;rw[if_pos rfl]at h;rw[gQ (Int.lt_irrefl n)];exact h
  ·rwa[if_neg z]at h
def zoo {Q:Bool->AE->Prop}:∀{xs ys:AA AC} {ns ms:AA Int} (i:Nat),IntsAre xs ns->IntsAre ys ms->fin=decide (ns.length<ms.length)->Q (cY ns ms) s->KatLex prog w A b fin Q (xs.zip ys) i s
 |_,_,_,_,i,.nil,.nil,e,h=>by subst e;exact h
 |_,_,_,_,i,.nil,.cons _ _ _,e,h=>by subst e;exact h
 |_,_,_,_,i,.cons _ _ _,.nil,e,h=>by subst e;exact h
 |_,_,_,_,i,.cons n t hx,.cons m u hy,e,h=>by
  refine kat_cons (wpAny_eqBool_int ?_);rw[Xi]at h
  by_cases z:n=m
  ·rw[if_pos z]at h;rw[qaQ.mpr z];exact kat_yes (zoo (i+1) hx hy (by rw[e];simp) h)
  ·rw[if_neg z]at h;rw[qab.mpr z];refine kat_no ?_;cases hb:(b&&i==0)with
   |true=>exact PyProof.Rows.oneLt_int h
   |false=>exact kat_one _ _ (PyProof.Rows.lt_int h)
def zpy (h:AK)(ks:AA AC)(nss:AA (AA Int)):Prop:=ks.length=nss.length/\∀(i:Nat) v ns,ks[i]? =some v->nss[i]? =some ns->∃a its,v= .ref a/\IsTup h a (List.toArray its)/\IntsAre its ns/\ns≠[]
def zou :∀{ks:AA AC} {nss:AA (AA Int)},zpy h ks nss->∃fs,KatTups h ks fs/\fs.length=ks.length/\∀v∈fs,∃n t,v=Value.int n t
 |[],nss,_=>⟨[],KatTups.nil,rfl,λv hv=>AH hv (by simp)⟩
 |k::ks,[],⟨h1,_⟩=>by simp at h1
 |k::ks,ns::nss,⟨h1,h2⟩=>by
  obtain⟨a,its,rfl,⟨o,ho,hc,n,hd⟩,hi,ne⟩:=h2 0 _ _ rfl rfl;obtain⟨fs,g1,g2,g3⟩:=zou (ks:=ks) (nss:=nss) ⟨~~~h1,λi v ns e1 e2=>h2 (i+1) v ns (~~~e1) (~~~e2)⟩;cases hi with
  |nil=>exact AH rfl ne
  |cons m t hi=>
   refine⟨.int m t::fs,KatTups.cons ho hc hd rfl g1,by simp[g2],λv hv=>?_⟩;rcases qaq.mp hv with rfl|hv
   ·exact⟨m,t,rfl⟩
   ·exact g3 v hv
theorem zno {ks:AA AC}{nss:AA (AA Int)}(ht:zpy s.heap ks nss)(h2:2<=ks.length):jY prog w A ks (jO nss) s:=by
 obtain⟨fs,g1,g2,g3⟩:=zou ht;refine⟨PyProof.Rows.tuples' true,λQ E h=>?_,λi j C h1 h3 h=>?_⟩
 ·refine kat_kind (T:= .type "int") g1 ∅ (λv hv=>?_) rfl h;obtain⟨n,t,rfl⟩:=g3 v hv;exact Looks.now
 ·have hl:=ht.1;obtain⟨a,its,e1,⟨o,ho,hc,n,hd⟩,hi,_⟩:=ht.2 i _ _ (bA h1) (bA ∅);obtain⟨b,its2,f1,⟨o2,ho2,hc2,n2,hd2⟩,hi2,_⟩:=ht.2 j _ _ (bA h3) (bA ∅);unfold kas_ask;rw[lM (bA h1),lM (bA h3),e1,f1];unfold jO at h;rw[lM (bA (l:=nss) (i:=i) ∅),lM (bA (l:=nss) (i:=j) ∅)]at h;refine kat_lt ho hd ho2 hd2 (zoo 0 hi hi2 ?_ h);rw[bS,bS,hi.length,hi2.length]
end
end HT
namespace M
open L2 PySem PySem.Spec
open PyProof.Rows hiding St
def Nl (ds:AA D):AB (AA (AA Int)):=match eG ds with
 |some ns=>some (ns.map λn=>[n])
 |none=>(Et ds).bind λnss=>if nss.all λns=>!ns.isEmpty then some nss else none
def nP (nss:AA (AA Int))(ds:AA D):AA D:=(jM ds.length (HT.jO nss)).map λi=>ds.getD i .non
def rJ:AA D->AB (AA D)
 |[.lst ds]=>if ds.length<64 then(Nl ds).map λnss=>nP nss ds else none
 |_=>none
def Wh (K:AF)(H:Hp)(ys:AA V)(nss:AA (AA Int)):Prop:=
 (∃ns:AA Int,ys=ns.map V.int/\nss=ns.map λn=>[n])\/∃as:AA AD,ys=as.map V.ref/\as.length=nss.length/\∀(i:Nat) a ns,as[i]? =some a->nss[i]? =some ns->SqT K H a (ns.map V.int)/\ns≠[]
def kT (nss:AA (AA Int))(ys:AA V):AA V:=(jM ys.length (HT.jO nss)).map λi=>ys.getD i .non
def rSrt (K:AF):AA V->Hp->VK->Prop:=λxs H Q=>∃(p:AD) (ys:AA V) (nss:AA (AA Int)),xs=[.ref p]/\SqL K H p ys/\ys.length<64/\Wh K H ys nss/\∀l,H l=none->Q (.ref l) (upd H l (.lst (kT nss ys)))
theorem zkt {ys:AA V}{its:AA AC}(r:Vals ys its):∀ix:AA Nat,Vals (ix.map λi=>ys.getD i .non) (ix.map λi=>its.getD i .none)
 |[]=> .nil
 |i::ix=>by
  refine .cons ?_ (zkt r ix);dsimp only;cases e:ys[i]? with
  |some y=>
   obtain⟨u,h1,h2⟩:=r.get e;rw[HT.lM e,HT.lM h1];exact h2
  |none=>
   rw[jV,jV,e,r.none_of e];exact rfl
def zln :iA X (.builtin "sorted") (rSrt X.K):=by
 intro AM s σ H xs us Q I r h;obtain⟨p,ys,nss,rfl,hq,h64,kv,q⟩:=h;obtain⟨u,rfl,ru⟩:=oU r;cases ru;obtain⟨its,rv,pl,hz⟩:=I.list hq;have hl:=rv.length;refine HT.xI (HT.Qs nss) pl.isList ∅ (λh2 h' k=>?_) ?_
 ·rcases kv with⟨ns,rfl,rfl⟩|⟨as,rfl,e1,e2⟩
  ·exact HT.znz (zeX rv) h2
  ·refine HT.zno ⟨by rw[<-hl,cO,e1],λi v ns e3 e4=>?_⟩ h2;obtain⟨a,ea,rfl⟩:=zhB rv e3;obtain⟨g1,g2⟩:=e2 i a ns ea e4;have I':Inv X AM σ H {s with heap:=h'}:=I.kept k;obtain⟨its2,r2,p2,_⟩:=I'.tuple g1;exact⟨a,its2,rfl,p2,zeX r2,g2⟩
 ·obtain⟨e,he⟩:=PyProof.Rows.sortedAll_at s.heap its (HT.eZ its (HT.jO nss)).toArray;refine⟨.ref (s⁻¹+1),upd H (s⁻¹+1) (.lst (kT nss ys)),I.laid (t':=s.toks) (λb u z=>PyProof.Rows.sortedAll_old z) (Nat.le_succ _) ?_,rfl,q _ (I.hok.fresh (Nat.le_succ _))⟩;have r2:=zkt rv (jM ys.length (HT.jO nss));refine⟨?_,HT.eZ its (HT.jO nss),e,?_,he⟩
  ·unfold kT;rw[cO,(Vh (HT.Qs nss)).length_eq,Aj];exact hz
  ·unfold HT.eZ kT;rw[<-hl];exact r2
theorem RepL.picks {K:AF}{G:Hp}{ys:AA V}{ds:AA D}(r:RepL K G ys ds):∀ix:AA Nat,RepL K G (ix.map λi=>ys.getD i .non) (ix.map λi=>ds.getD i .non)
 |[]=> .nil
 |i::ix=>by
  refine .cons ?_ (RepL.picks r ix);dsimp only;cases e:ds[i]? with
  |some y=>
   obtain⟨u,h1,h2⟩:=r.get e;rw[HT.lM e,HT.lM h1];exact h2
  |none=>
   have e':ys[i]? =none:=by rw[qac]at e ⊢;rw[r.length];exact e
   rw[jV,jV,e,e'];exact rfl
theorem Ai {K:AF}{G H:Hp}{ys:AA V}{ds:AA D}{nss:AA (AA Int)}(f:Fz G H)(r:RepL K G ys ds)(e:Nl ds=some nss):Wh K H ys nss:=by
 unfold Nl at e
 split at e
 ·rename_i ns h;cases e;rw[Rn h]at r;exact .inl ⟨ns,RepL.ints_eq r,rfl⟩
 ·refine aP e λms e1 e=>?_
  split at e
  ·rename_i ha;cases e;obtain⟨as,rfl,hl,h⟩:=zir r e1;refine .inr ⟨as,rfl,hl,λi a ns h1 h2=>⟨SqT.of (f _ _ (h i a ns h1 h2)),λz=>?_⟩⟩;have:=qbZ.mp ha ns (dY h2);rw[z]at this;cases this
  ·exact aG e
def zpf (ml:X.mg "sorted"=none)(ha:SA X [e] ma)(hg:Gl X "sorted":=by rfl)(he:starEach [e] X.env=(false,eval e X.env)::starEach [] X.env:=by rfl)(hb:bootBuiltins "sorted"=some (.builtin "sorted"):=by decide+kernel):
  SO X (.Call (.Name "sorted" p) [e] [] pos) (oC rJ ma):=by
 obtain⟨t,pa,sa⟩:=ha;refine⟨_,zjV zln hg ml hb pa (by decide) (by decide) he rfl,λB G H σ ρ ds ρ' Q I hm k=>?_⟩;obtain⟨as,e1,e2⟩:=Lh hm;refine sa B G H σ ρ as ρ' _ I e1 λG1 H1 vs I1 f1 r1=>?_
 unfold rJ at e2
 split at e2
 ·rename_i es
  split at e2
  ·rename_i h64;obtain⟨nss,e3,rfl⟩:=Od e2;obtain⟨x,rfl,ra⟩:=r1.one;obtain⟨q,ys,rfl,hp,ry⟩:=I1.lst ra;have hl:=ry.length;refine⟨q,ys,nss,rfl,SqL.of hp,∅,Ai I1.fz ry e3,λl h0=>?_⟩;obtain⟨I2,g2,h2,b2,n2⟩:=I1.newO h0 (kT nss ys);refine k G1 _ l _ I2 f1 g2 h2 ?_ b2 n2;unfold kT nP;rw[hl];exact ry.picks _
  ·exact aG e2
 ·exact aG e2
def sCut (i:Nat)(me ml mh:ME):MS:=λρ=>(me ρ).bind λp=>if(p.2[i]?.bind Sl.items).isSome then(ml p.2).bind λq=>(mh q.2).bind λr=>r.2[i]?.bind λs=>s.items.bind λds=>match p.1,q.1,r.1 with
 | .lst es,.int m,.int n=>if decide (0<=m)&&decide (m<=n)&&decide (n<=ds.length)&&decide (ds.length+es.length<=16777216)then some (.next,r.2.set i (s.put (ds.take m.toNat++es++ds.drop n.toNat)))else none
 |_,_,_=>none else none
end M
namespace HT
open PySem
def SIt (h:AK)(I S:AD)(first:AC)(i n ep:Nat):Prop:=∃o,h.get? I=some o/\o.cls= .type "set_iterator"/\o.data= .fields #[first,.int i 0,.ref S,.int n 0,.int ep 0]
end HT
namespace M
open L2 PySem PySem.Spec
open PyProof.Rows hiding St
def Zp:∀{its:AA AC} {ns:AA Int},IntsAre its ns->Vals (ns.map V.int) its
 |_,_,.nil=> .nil
 |_,_,.cons n t h=> .cons ⟨t,rfl⟩ (Zp h)
end M
namespace M
open L2 PySem
section
variable {X:Cx}{a b c d:AI}{ma mb mc md:ME}{pos:Pos}
def zmf (ma mb:ME)(mo:MO):MS:=λρ=>(ma ρ).bind λp=>(mb p.2).bind λq=>(mo q.2).bind λr=>some (.ret (.tre (.tup [.d p.1,.d q.1,.l r.1])),r.2)
theorem zmQ {e:AI}{m1 m2:ME}{mo:MO}{nn:Nat}{pos2:Pos}(ha:SE X a m1)(hb:SE X b m2)(ho:SO X e mo)(hs:starEach [a,b,e] X.env=(false,eval a X.env)::starEach [b,e] X.env:=by rfl)(hs2:starEach [b,e] X.env=(false,eval b X.env)::starEach [e] X.env:=by rfl)(hs3:starEach [e] X.env=(false,eval e X.env)::starEach [] X.env:=by rfl):
  SS X (.Return (some (.Tuple [a,b,e] nn pos2)) pos) (zmf m1 m2 mo):=by
 refine ha.el λta pa sa=>?_
 refine hb.el λtb pb sb=>?_
 refine ho.el λte pe so=>?_
 refine⟨_,Sg (oA (iG pa (iG pb (iG pe oP hs3) hs2) hs)),λB G H σ ρ fl ρ' E I hm k=>?_⟩;refine aZ hm λd1 ρ1 e1 hm=>?_
 refine aZ hm λd2 ρ2 e2 hm=>?_
 refine aZ hm λds ρ4 e4 hm=>?_
 exists bM hm;refine sa B G H σ ρ d1 ρ1 _ I e1 λG2 H2 v1 I2 f1 r1=>?_
 refine sb B G2 H2 σ ρ1 d2 ρ2 _ I2 e2 λG3 H3 v2 I3 f2 r2=>?_
 refine so B G3 H3 σ ρ2 ds ρ4 _ I3 e4 λG4 H4 l xs I4 f4 g4 h4 r4 b4 _=>?_
 refine⟨by rw[fX];exact(by decide:(3:Nat)<=16777216),λp hp=>?_⟩;have lp:l≠p:=kP h4 hp;refine k G4 _ σ _ (I4.allocO hp _) (f1.trans (f2.trans f4)) ⟨[p,l],⟨p,_,[l],rfl,cW,⟨[],[l],⟨r1.mono (f2.trans f4),rfl⟩,⟨[],[l],⟨r2.mono f4,rfl⟩,⟨[l],[],⟨l,xs,rfl,by rw[aW lp];exact h4,r4,rfl⟩,rfl,rfl⟩,rfl⟩,rfl⟩,rfl⟩,~~~lp.symm,λa m=>?_⟩;rcases qaq.mp m with rfl|m
 ·exact⟨I4.fz.free hp,I4.there a hp⟩
 ·have:a=l:= ~~~m
  subst this;exact⟨g4,b4⟩
end
end M
namespace M
open L2 PySem PySem.Spec
open PyProof.Rows hiding St
variable {v:V}{d:D}{c:Str}{A:AA AD}{t:T}{js:AA (AB Nat)}{ls:AA Nat}{es:AA AI}{C:Prop}{j i n:Nat}{p f:AD}{ns N:AA Str}{vs:AA V}{q:AA Int×AA D}{s u r:Sl}{ρ as:R}{B:Bs}{G H:Hp}{fd:FuncData}{fo hd:Nat->AA AD}{ov:AB (AB V)}{F:AA D->AB Sl}{E:Ends}{z:Nat×AD}
def Me:D->Bool
 | .int _=>true
 |_=>false
def yY:D->Bool
 | .non=>true
 | .bl _=>true
 | .int _=>true
 | .str _=>true
 | .tup ds=>ds.all Me
 |_=>false
def Yh:Ch->Bool
 | .d x=>yY x
 | .l ds=>ds.all yY
 | .t _=>false
def flT:T->Bool
 | .tup cs=>cs.all Yh
 | .ins _ fs=>fs.all λf=>Yh f.2
 |_=>false
def tR:Sl->Bool
 | .emp=>true
 | .val d=>yY d
 | .own ds=>ds.all yY
 | .par ds=>ds.all yY
 | .tre t=>flT t
 | .ptr t=>flT t
 | .two _ _=>false
def Ar (o:HO):Prop:=(∃xs,o= .lst xs)\/(∃xs,o= .tup xs/\¬ ∀x∈xs,∃i,x=V.int i)\/(∃C dx vs,o= .ins C dx vs)\/(∃p,o= .own p)\/∃f,o= .ext f
open Classical in
def thin (G Gx G2:Hp):Hp:=λa=>if G a=none/\Gx a≠none then none else G2 a
structure Lk (K:W.Frag)(ls:List Nat)(G Gx H:Hp)(σ:St)(ρ:R):Prop where
 up:Fz G Gx
 fz:Fz Gx H
 ow:∀a,G a=none->Gx a≠none->∃(i:Nat) (s:Sl),i∈ls/\ρ[i]? =some s/\bR K G H σ[i]? a s
 odd:∀a o,G a=none->Gx a=some o->Ar o
section
variable {K:AF}{G Gx G2 H H2:Hp}
def zmx:Fz (thin G Gx G2) G2:=λa o e=>by
 unfold thin at e
 split at e
 ·exact aG e
 ·exact e
def zS (f:Fz G G2):Fz G (thin G Gx G2):=λa o e=>by
 unfold thin;rw[if_neg λz=>by rw[z.1]at e;cases e];exact f a o e
def Pp (h:G2 a=none):thin G Gx G2 a=none:=by
 unfold thin
 split
 ·rfl
 ·exact h
def zmJ (Hz:Hp):∀{ds:AA D} {xs:AA V},ds.all Me=true->RepL K G2 xs ds->(∀x∈xs,∃i,x=V.int i)/\RepL K Hz xs ds
 |[],_,_,r=>by cases(show _=[]from r);exact⟨λx m=>by simp at m,rfl⟩
 |d::ds,_,e,⟨x,ys,e1,e2,e3⟩=>by
  subst e1;rw[lL,cD]at e;obtain⟨h1,h2⟩:=zmJ Hz e.2 e3;cases d with
  |int i=>
   cases(show x=V.int i from e2);refine⟨λy m=>?_,⟨_,ys,rfl,rfl,h2⟩⟩;rcases qaq.mp m with rfl|m
   ·exact⟨i,rfl⟩
   ·exact h1 y m
  |_=>exact nomatch e.1
def zmG (f:Fz Gx G2)(od:∀a o,G a=none->Gx a=some o->Ar o)(e:yY d=true)(r:RepD K G2 v d):RepD K (thin G Gx G2) v d:=by
 cases d with
 |non=>exact r
 |bl _=>exact r
 |int _=>exact r
 |str _=>exact r
 |tup ds=>
  obtain⟨a,xs,rfl,g,r⟩:=r;obtain⟨h1,h2⟩:=zmJ (thin G Gx G2) e r;refine⟨a,xs,rfl,?_,h2⟩;unfold thin
  split
  ·rename_i z;obtain⟨o,ho⟩:=qbC.mp z.2;have:=f a o ho;rw[g]at this;cases this;rcases od a _ z.1 ho with⟨ys,q⟩|⟨ys,q,n⟩|⟨_,_,_,q⟩|⟨_,q⟩|⟨_,q⟩
   ·cases q
   ·cases q;exact AH h1 n
   ·cases q
   ·cases q
   ·cases q
  ·exact g
 |_=>exact nomatch e
def Sz (f:Fz Gx G2)(od:∀a o,G a=none->Gx a=some o->Ar o):∀{ds:AA D} {xs:AA V},ds.all yY=true->RepL K G2 xs ds->RepL K (thin G Gx G2) xs ds
 |[],_,_,r=>r
 |d::ds,_,e,⟨x,ys,e1,e2,e3⟩=>by
  rw[lL,cD]at e;exact⟨x,ys,e1,zmG f od e.1 e2,Sz f od e.2 e3⟩
def zD (f:Fz Gx G2)(od:∀a o,G a=none->Gx a=some o->Ar o){c:Ch}(e:Yh c=true)(r:RepC K G2 H2 x c A):RepC K (thin G Gx G2) H2 x c A:=by
 cases c with
 |d y=>exact⟨zmG f od e r.1,r.2⟩
 |l ds=>obtain⟨l,xs,h1,h2,h3,h4⟩:=r;exact⟨l,xs,h1,h2,Sz f od e h3,h4⟩
 |t _=>exact nomatch e
def zjZ (f:Fz Gx G2)(od:∀a o,G a=none->Gx a=some o->Ar o):∀{cs:AA Ch} {xs:AA V} {A:AA AD},cs.all Yh=true->RepCs K G2 H2 xs cs A->RepCs K (thin G Gx G2) H2 xs cs A
 |[],[],_,_,r=>r
 |c::cs,x::xs,_,e,⟨A1,A2,r1,r2,q⟩=>by
  rw[lL,cD]at e;exact⟨A1,A2,zD f od e.1 r1,zjZ f od e.2 r2,q⟩
 |[],_::_,_,_,r=>r.elim
 |_::_,[],_,_,r=>r.elim
def zlh (f:Fz Gx G2)(od:∀a o,G a=none->Gx a=some o->Ar o)(e:flT t=true)(r:RepT K G2 H2 v t A):RepT K (thin G Gx G2) H2 v t A:=by
 cases t with
 |tup cs=>obtain⟨p,xs,A',h1,h2,h3,h4⟩:=r;exact⟨p,xs,A',h1,h2,zjZ f od e h3,h4⟩
 |ins c fs=>
  obtain⟨p,C,dx,ws,A',h1,h2,h3,h4,h5,h6,h7⟩:=r;have e':(fs.map (·.2)).all Yh=true:=by rw[List.all_map];exact e
  exact⟨p,C,dx,ws,A',h1,h2,h3,h4,h5,zjZ f od e' h6,h7⟩
 |_=>exact nomatch e
def RepT.head (r:RepT K G H v t A):∃p,v= .ref p/\p∈A:=by
 cases t with
 |lst cs=>obtain⟨p,xs,A',h1,h2,h3,rfl⟩:=r;exact⟨p,h1,by simp⟩
 |tup cs=>obtain⟨p,xs,A',h1,h2,h3,rfl⟩:=r;exact⟨p,h1,by simp⟩
 |ins c fs=>obtain⟨p,C,dx,ws,A',h1,h2,h3,h4,h5,h6,rfl⟩:=r;exact⟨p,h1,by simp⟩
 |dic ks ds=>obtain⟨p,ys,h1,h2,h3,h4,rfl⟩:=r;exact⟨p,h1,by simp⟩
 |dit ks ds=>obtain⟨p,ys,o,xs,h1,h2,h3,h4,rfl⟩:=r;exact⟨p,h1,by simp⟩
 |obj c ns ls dk=>obtain⟨p,C,dx,ws,A',h1,h2,h3,h4,h5,h6,rfl⟩:=r;exact⟨p,h1,by simp⟩
end
abbrev MG:=R->AB (R×R)
def Sl.hand:Sl->AB Sl
 | .own ds=>some (.par ds)
 | .par ds=>some (.par ds)
 | .tre t=>if t.isObj then none else some (.ptr t)
 | .ptr t=>if t.isObj then none else some (.ptr t)
 |_=>none
def Hq:Ch->Bool
 | .d (.str _)=>true
 | .l _=>true
 |_=>false
def Sl.look:Sl->AB D
 | .val d=>some d
 | .own ds=>some (.lst ds)
 | .par ds=>some (.lst ds)
 | .tre (.tup cs)=>if cs.any Hq then some (.tup (cs.map Ch.D))else none
 | .tre (.obj c ns ls (some q))=>some (.obj c ns (ls.map D.lst) q.1 q.2)
 | .ptr (.obj c ns ls (some q))=>some (.obj c ns (ls.map D.lst) q.1 q.2)
 |_=>none
def hasA (ρ:R)(j:Nat):Bool:=match ρ[j]? with
 |some (.val _)=>true
 |some (.own _)=>true
 |some (.par _)=>true
 |some (.tre _)=>true
 |some (.ptr _)=>true
 |_=>false
def vW:MG:=λρ=>some ([],ρ)
def vG (m:ME)(r:MG):MG:=λρ=>(m ρ).bind λp=>(r p.2).map λq=>(.val p.1::q.1,q.2)
def Vz (j:Nat)(r:MG):MG:=λρ=>if hasA ρ j then(r ρ).bind λq=>(q.2[j]?.bind Sl.look).map λd=>(.val d::q.1,q.2)else none
def ArgsOk (K:AF)(Gx:Hp)(σ:St)(ρ:R):AA (AB Nat)->AA V->R->Prop
 |[],[],[]=>True
 |none::js,v::vs,s::as=>(∃d,s= .val d/\RepD K Gx v d)/\ArgsOk K Gx σ ρ js vs as
 |some j::js,v::vs,s::as=>(σ[j]? =some (some v)/\ρ[j]?.bind Sl.hand=some s)/\ArgsOk K Gx σ ρ js vs as
 |_,_,_=>False
def Qa (X:Cx)(js:AA (AB Nat))(ls:AA Nat)(es:AA AI)(m:MG)(t:TA):Prop:=∀B G H σ ρ as ρ' (Q:AA V->Hp->Prop),SI X.K B G H σ ρ->m ρ=some (as,ρ')->
  (∀G' H' vs Gx,SI X.K B G' H' σ ρ'->Fz G G'->Lk X.K ls G' Gx H' σ ρ'->ArgsOk X.K Gx σ ρ' js vs as->Q vs H')->t σ H Q
def SGA (X:Cx)(js:AA (AB Nat))(ls:AA Nat)(es:AA AI)(m:MG):Prop:=∃t,PA X es t/\Qa X js ls es m t
def SGA.el (h:SGA X js ls es m)(k:∀t,PA X es t->Qa X js ls es m t->C):C:=h.elim λt q=>k t q.1 q.2
section
variable {K:AF}{B:Bs}{G Gx Gy H:Hp}{σ:St}{ρ:R}
def ArgsOk.mono (f:Fz Gx Gy):∀{js:AA (AB Nat)} {vs:AA V} {as:R},ArgsOk K Gx σ ρ js vs as->ArgsOk K Gy σ ρ js vs as
 |[],[],[],_=>trivial
 |none::js,v::vs,s::as,⟨⟨d,e,r⟩,h⟩=>⟨⟨d,e,r.mono f⟩,ArgsOk.mono f h⟩
 |some j::js,v::vs,s::as,⟨e,h⟩=>⟨e,ArgsOk.mono f h⟩
 |[],[],_::_,h=>h.elim
 |[],_::_,_,h=>h.elim
 |none::_,[],_,h=>h.elim
 |some _::_,[],_,h=>h.elim
 |none::_,_::_,[],h=>h.elim
 |some _::_,_::_,[],h=>h.elim
theorem ArgsOk.len:∀{js:AA (AB Nat)} {vs:AA V} {as:R},ArgsOk K Gx σ ρ js vs as->vs.length=as.length/\js.length=as.length
 |[],[],[],_=>⟨rfl,rfl⟩
 |none::js,v::vs,s::as,⟨_,h⟩=>⟨by simp[(ArgsOk.len h).1],by simp[(ArgsOk.len h).2]⟩
 |some j::js,v::vs,s::as,⟨_,h⟩=>⟨by simp[(ArgsOk.len h).1],by simp[(ArgsOk.len h).2]⟩
 |[],[],_::_,h=>h.elim
 |[],_::_,_,h=>h.elim
 |none::_,[],_,h=>h.elim
 |some _::_,[],_,h=>h.elim
 |none::_,_::_,[],h=>h.elim
 |some _::_,_::_,[],h=>h.elim
def ArgsOk.get:∀{js:AA (AB Nat)} {vs:AA V} {as:R} {i:Nat} {s:Sl},ArgsOk K Gx σ ρ js vs as->as[i]? =some s->
  ∃v,vs[i]? =some v/\((js[i]? =some none/\∃d,s= .val d/\RepD K Gx v d)\/∃j,js[i]? =some (some j)/\σ[j]? =some (some v)/\ρ[j]?.bind Sl.hand=some s)
 |[],[],[],_,_,_,e=>by simp at e
 |none::js,v::vs,s::as,0,_,⟨h,_⟩,e=>by simp at e;subst e;exact⟨v,rfl,.inl ⟨rfl,h⟩⟩
 |some j::js,v::vs,s::as,0,_,⟨h,_⟩,e=>by simp at e;subst e;exact⟨v,rfl,.inr ⟨j,rfl,h⟩⟩
 |none::js,v::vs,s::as,i+1,_,⟨_,h⟩,e=> ~~~ArgsOk.get (i:=i) h (~~~e)
 |some j::js,v::vs,s::as,i+1,_,⟨_,h⟩,e=> ~~~ArgsOk.get (i:=i) h (~~~e)
 |[],[],_::_,_,_,h,_=>h.elim
 |[],_::_,_,_,_,h,_=>h.elim
 |none::_,[],_,_,_,h,_=>h.elim
 |some _::_,[],_,_,_,h,_=>h.elim
 |none::_,_::_,[],_,_,h,_=>h.elim
 |some _::_,_::_,[],_,_,h,_=>h.elim
def SI.hasA (I:SI K B G H σ ρ)(h:hasA ρ j=true):∃v,σ[j]? =some (some v):=by
 unfold M.hasA at h;cases e:ρ[j]? with
 |none=>rw[e]at h;cases h
 |some s=>
  rw[e]at h;have q:=I.slot j s e;cases s with
  |emp=>cases h
  |two _ _=>cases h
  |tre t=>obtain⟨v,A,e,_⟩:=q;exact⟨v,e⟩
  |ptr t=>obtain⟨v,A,e,_⟩:=q;exact⟨v,e⟩
  |val d=>obtain⟨v,e,_⟩:=q;exact⟨v,e⟩
  |own d=>obtain⟨l,_,e,_⟩:=q;exact⟨_,e⟩
  |par d=>obtain⟨l,_,e,_⟩:=q;exact⟨_,e⟩
def zkq:∀{xs:AA V} {cs:AA Ch} {A:AA AD},RepCs K G H xs cs A->cs.any Hq=true->¬ ∀x∈xs,∃i,x=V.int i
 |[],[],_,_,h=>by simp at h
 |x::xs,c::cs,_,⟨A1,A2,r1,r2,e⟩,h=>λal=>by
  rw[uA,Pg]at h;rcases h with h|h
  ·obtain⟨i,rfl⟩:=al x (by simp);cases c with
   |d y=>
    cases y with
    |str z=>exact nomatch (show V.int i=V.str z from r1.1)
    |_=>exact nomatch h
   |l ds=>obtain⟨l,ys,q,_⟩:=r1;exact nomatch q
   |t _=>exact nomatch h
  ·exact zkq r2 h λy m=>al y (by simp[m])
 |[],_::_,_,r,_=>r.elim
 |_::_,[],_,r,_=>r.elim
def zlw (fg:Fz G Gz){p C:AD}{vs:AA (Str×V)}{ls:AA (AA D)}(h0:W.nsIn K AL c=some (some (.ref C)))(h1:Gz p=some (.ins C dx vs))(h2:vs.map (·.1)=ns)(r:RepO K G H (vs.map (·.2)) ls (some q) A)(h:∀a∈A,Gz a=H a):RepD K Gz (.ref p) (.obj c ns (ls.map D.lst) q.1 q.2):=by
 obtain⟨ws,p2,o,zs,ys,A',e,r1,q1,q2,q3,rfl⟩:=r;exact⟨p,C,dx,vs,ws,p2,o,zs,ys,rfl,h0,h1,h2,e,zjL fg r1 λa m=>h a (by simp[m]),by rw[h p2 (by simp)];exact q1,q2,q3.mono fg⟩
def Lk.more (I:SI K B G H σ ρ)(L:Lk K ls G Gx H σ ρ)(hv:σ[j]? =some (some v))(e:ρ[j]? =some s)(q:s.look=some d):
  ∃Gy,Fz Gx Gy/\Lk K (j::ls) G Gy H σ ρ/\RepD K Gy v d:=by
 have h:=I.slot j s e;have add:∀A:AA AD,(∀a∈A,bR K G H σ[j]? a s)->(∀a∈A,∀o,H a=some o->Ar o)->Fz Gx (gU Gx H A)/\Lk K (j::ls) G (gU Gx H A) H σ ρ:=λA h1 h2=>by
  have f1:Fz Gx (gU Gx H A):=λa o e=>by
   by_cases m:a∈A
   ·rw[iX m];exact L.fz a o e
   ·rw[kS m];exact e
  refine⟨f1,L.up.trans f1,λa o e=>?_,λa g e=>?_,λa o g e=>?_⟩
  ·by_cases m:a∈A
   ·rw[iX m]at e;exact e
   ·rw[kS m]at e;exact L.fz a o e
  ·by_cases m:a∈A
   ·exact⟨j,s,by simp,‹_›,h1 a m⟩
   ·rw[kS m]at e;obtain⟨i,t,k1,k2⟩:=L.ow a g e;exact⟨i,t,by simp[k1],k2⟩
  ·by_cases m:a∈A
   ·rw[iX m]at e;exact h2 a m o e
   ·rw[kS m]at e;exact L.odd a o g e
 have lis:∀{l:AD} {xs:AA V} {ds:AA D},bR K G H σ[j]? l s->v= .ref l->H l=some (.lst xs)->RepL K G xs ds->∃Gy,Fz Gx Gy/\Lk K (j::ls) G Gy H σ ρ/\RepD K Gy v (.lst ds):=λ{l xs ds} w ev hl r=>by
  obtain⟨a1,a2⟩:=add [l] (λa m=>by
   have:a=l:= ~~~m
   subst this;exact w) (λa m o ho=>by
   have:a=l:= ~~~m
   subst this;rw[hl]at ho;cases ho;exact .inl ⟨_,rfl⟩)
  exact⟨_,a1,a2,⟨l,xs,ev,by rw[iX (by simp)];exact hl,r.mono a2.up⟩⟩
 have obj:∀{c:Str} {ns:AA Str} {ls2:AA (AA D)} {dk:AA Int×AA D} {A:AA AD},(∀a∈A,bR K G H σ[j]? a s)->RepT K G H v (.obj c ns ls2 (some dk)) A->∃Gy,Fz Gx Gy/\Lk K (j::ls) G Gy H σ ρ/\RepD K Gy v (.obj c ns (ls2.map D.lst) dk.1 dk.2):=λ{c ns ls2 dk A} w r=>by
  obtain⟨p,C,dx,vs,A',rfl,g1,g2,g3,g4,g5,rfl⟩:=r;obtain⟨a1,a2⟩:=add _ w (λa m o ho=>by
   rcases qaq.mp m with rfl|m
   ·rw[g2]at ho;cases ho;exact .inr (.inr (.inl ⟨_,_,_,rfl⟩))
   rcases qaq.mp m with rfl|m
   ·rw[g3]at ho;cases ho;exact .inr (.inr (.inr (.inl ⟨_,rfl⟩)))
   rcases g5.here m with⟨ys,hy⟩|⟨ys,hy⟩
   ·rw[hy]at ho;cases ho;exact .inl ⟨_,rfl⟩
   ·rw[hy]at ho;cases ho;exact .inr (.inr (.inr (.inr ⟨_,rfl⟩))))
  exact⟨_,a1,a2,zlw a2.up g1 (by rw[iX (by simp)];exact g2) g4 g5 λa m=>iX (by simp[m])⟩
 cases s with
 |emp=>exact aG q
 |two _ _=>exact aG q
 |ptr t=>
  obtain⟨u,A,k1,k2,k3,k4⟩:=h;have:=k1;rw[hv]at this;cases this;cases t with
  |obj c ns ls2 dk=>
   cases dk with
   |none=>exact aG q
   |some z=>cases q;exact obj (λa m=>⟨_,_,k1,k2,m⟩) k2
  |_=>exact aG q
 |val d'=>
  cases q;obtain⟨u,k1,k2⟩:=h;rw[hv]at k1;cases k1;exact⟨Gx,Fz.refl _,⟨L.up,L.fz,λa g n=>(L.ow a g n).imp λi ⟨t,k1,k2⟩=>⟨t,by simp[k1],k2⟩,L.odd⟩,k2.mono L.up⟩
 |own ds=>
  cases q;obtain⟨l,xs,k1,k2,k3,k4,k5⟩:=h;have:=k1;rw[hv]at this;cases this;exact lis k1 rfl k3 k4
 |par ds=>
  cases q;obtain⟨l,xs,k1,k2,k3,k4,k5⟩:=h;have:=k1;rw[hv]at this;cases this;exact lis k1 rfl k3 k4
 |tre t=>
  obtain⟨u,A,k1,k2,k3,k4⟩:=h;have:=k1;rw[hv]at this;cases this;cases t with
  |tup cs=>
   have q':(if cs.any Hq then some (D.tup (cs.map Ch.D))else none)=some d:=q;refine aT q' λod q'=>?_
   ·skip
    cases q';have k2':=k2;obtain⟨p,xs,A',rfl,g1,g2,rfl⟩:=k2;obtain⟨a1,a2⟩:=add (p::A') (λa m=>⟨_,_,k1,k2',m⟩) (λa m o ho=>by
     rcases qaq.mp m with rfl|m
     ·rw[g1]at ho;cases ho;exact .inr (.inl ⟨xs,rfl,zkq g2 od⟩)
     ·obtain⟨ys,hy⟩:=g2.here m;rw[hy]at ho;cases ho;exact .inl ⟨_,rfl⟩)
    exact⟨_,a1,a2,⟨p,xs,rfl,by rw[iX (by simp)];exact g1,zht a2.up g2 λa m=>iX (by simp[m])⟩⟩
  |obj c ns ls2 dk=>
   cases dk with
   |none=>exact aG q
   |some z=>cases q;exact obj (λa m=>⟨_,_,k1,k2,m⟩) k2
  |_=>exact aG q
end
section
variable {X:Cx}{e:AI}{es:AA AI}{js:AA (AB Nat)}{ls:AA Nat}{x:Str}{p:Pos}{m:ME}{r:MG}
def Hx:SGA X [] [] [] vW:=⟨_,oP,λB G H σ ρ as ρ' Q I hm k=>by
 exists bM hm;exact k G H [] G I (Fz.refl G) ⟨Fz.refl G,I.fz,λa g n=>AH g n,λa o g n=>by rw[g]at n;exact aG n⟩ trivial⟩
def Mv (h:SE X e m)(hr:SGA X js ls es r)(hs:starEach (e::es) X.env=(false,eval e X.env)::starEach es X.env:=by rfl):SGA X (none::js) ls (e::es) (vG m r):=by
 refine h.el λt pe se=>?_
 refine hr.el λu pr sr=>?_
 refine⟨_,iG pe pr hs,λB G H σ ρ as ρ' Q I hm k=>?_⟩;refine aZ hm λd ρ1 e1 hm=>?_
 refine iM hm λas1 ρ2 e2 hm=>?_
 cases hm;exact se B G H σ ρ d ρ1 _ I e1 λG1 H1 v I1 f1 r1=>sr B G1 H1 σ ρ1 as1 ρ2 _ I1 e2 λG2 H2 vs Gx I2 f2 L a=>k G2 H2 (v::vs) Gx I2 (f1.trans f2) L ⟨⟨d,rfl,r1.mono (f2.trans L.up)⟩,a⟩
def uJ (j:Nat)(hr:SGA X js ls es r)(hN:X.N[j]? =some x:=by rfl)(hv:dP X.env.scope x:=by trivial)(hd:(x==("__debug__":Str))=false:=by decide)(hcd:(x==("__classdict__":Str))=false:=by decide)(hs:starEach (.Name x p::es) X.env=(false,eval (.Name x p) X.env)::starEach es X.env:=by rfl):SGA X (none::js) (j::ls) (.Name x p::es) (Vz j r):=by
 refine hr.el λu pr sr=>?_
 refine⟨_,iG (eI hN hv hd hcd) pr hs,λB G H σ ρ as ρ' Q I hm k=>?_⟩;unfold Vz at hm;refine aT hm λha hm=>?_
 ·skip
  obtain⟨v,e1⟩:=I.hasA ha;refine aZ hm λas1 ρ2 e2 hm=>?_
  refine bB hm λd e3 hm=>?_
  cases hm;refine⟨v,e1,sr B G H σ ρ as1 ρ2 _ I e2 λG2 H2 vs Gx I2 f2 L a=>?_⟩;refine aP e3 λs e4 e5=>?_
  obtain⟨Gy,f3,L3,r3⟩:=Lk.more I2 L e1 e4 e5;exact k G2 H2 (v::vs) Gy I2 f2 L3 ⟨⟨d,rfl,r3⟩,a.mono f3⟩
end
def hZ (K:AF)(n:Nat)(F:R->AB (Sl×R)):Sp:=λvs H Q _=>∃G O as r outs,F as=some (r,outs)/\as.length=n/\SI K ⟨G,H,O⟩ G H (vs.map some) as/\
 ∀G' H' v,Fz G G'->Fz G' H'->(∀b o,G' b=some o->G b≠none\/H b=none)->(∀b o,H b=some o->(∀i,(i,b)∉O)->H' b=some o)->(∀b,H' b=none->H b=none)->
  (∀(i:Nat) (s:Sl),outs[i]? =some s->∃ov,SlotOk K ⟨G,H,O⟩ G' H' i ov s)->ResF K G' H' H v r->Q v H'
def fW:R->R->AB R
 |[],_=>some []
 | .par _::as,.par ds::ρ=>(fW as ρ).map (.par ds:: ·)
 | .ptr _::as,.ptr t::ρ=>(fW as ρ).map (.ptr t:: ·)
 | .val _::as,_::ρ=>(fW as ρ).map (.emp:: ·)
 |_,_=>none
def fG (N:Nat)(m:MS):R->AB (Sl×R):=λas=>(m (as++List.replicate (N-as.length) .emp)).bind λp=>match p.1 with
 | .ret r=>(fW as p.2).map λo=>(r,o)
 | .next=>(fW as p.2).map λo=>(.val .non,o)
 |_=>none
def Ck:R->R->Bool
 |[],_=>true
 | .par _::as,.par _::os=>Ck as os
 | .ptr _::as,.ptr _::os=>Ck as os
 | .val _::as,.emp::os=>Ck as os
 |_,_=>false
def rN (F:R->AB (Sl×R)):Prop:=∀as r os,F as=some (r,os)->Ck as os=true
def xJ (h:false=true):C:=by cases h
def zjF {s:Sl}{ρ:R}{u:Sl}(e:(y::o)[i]? =some s)(z:y= .emp\/u=y)(ih:∀{i:Nat} {s:Sl},o[i]? =some s->s= .emp\/ρ[i]? =some s):s= .emp\/(u::ρ)[i]? =some s:=by
 cases i with
 |zero=>rw[qcG]at e ⊢;rw[<-Option.some.inj e];exact z.imp id λq=>congrArg _ q
 |succ i=>rw[Ag]at e ⊢;exact ih e
theorem nJ {as ρ os:R}(h:fW as ρ=some os)(e:os[i]? =some s):s= .emp\/ρ[i]? =some s:=by
 induction as generalizing ρ os i s with
 |nil=>rw[<-Option.some.inj h,List.getElem?_nil]at e;exact aG e
 |cons x as ih=>
  cases ρ with
  |nil=>cases x<;>exact aG h
  |cons y ρ=>
   cases x with
   |val d=>exact bB h λo q z=>by subst z;exact zjF e (.inl rfl) (ih q)
   |par d=>cases y with
    |par d'=>exact bB h λo q z=>by subst z;exact zjF e (.inr rfl) (ih q)
    |_=>exact aG h
   |ptr d=>cases y with
    |ptr d'=>exact bB h λo q z=>by subst z;exact zjF e (.inr rfl) (ih q)
    |_=>exact aG h
   |_=>exact aG h
theorem znN {as os:R}{a:Sl}(h:Ck as os=true)(e:as[i]? =some a):(∃ds es,a= .par ds/\os[i]? =some (.par es))\/(∃t u,a= .ptr t/\os[i]? =some (.ptr u))\/(∃d,a= .val d/\os[i]? =some .emp):=by
 induction as generalizing os i with
 |nil=>rw[List.getElem?_nil]at e;exact aG e
 |cons x as ih=>
  cases os with
  |nil=>cases x<;>exact xJ h
  |cons y os=>
   have st:(i=0/\x=a)\/∃k,i=k+1/\as[k]? =some a:=by
    cases i with
    |zero=>rw[qcG]at e;exact .inl ⟨rfl,Option.some.inj e⟩
    |succ i=>rw[Ag]at e;exact .inr ⟨i,rfl,e⟩
   rcases st with⟨rfl,rfl⟩|⟨k,rfl,e⟩
   ·cases x with
    |val d=>cases y with
     |emp=>exact .inr (.inr ⟨_,rfl,rfl⟩)
     |_=>exact xJ h
    |par d=>cases y with
     |par d'=>exact .inl ⟨_,_,rfl,rfl⟩
     |_=>exact xJ h
    |ptr d=>cases y with
     |ptr d'=>exact .inr (.inl ⟨_,_,rfl,rfl⟩)
     |_=>exact xJ h
    |_=>exact xJ h
   ·rw[Ag];cases x with
    |val d=>cases y with
     |emp=>exact ih h e
     |_=>exact xJ h
    |par d=>cases y with
     |par d'=>exact ih h e
     |_=>exact xJ h
    |ptr d=>cases y with
     |ptr d'=>exact ih h e
     |_=>exact xJ h
    |_=>exact xJ h
theorem SI.startG {K:AF}(I:SI K B G H (vs.map some) as)(h:as.length<=N.length):SI K B G H (L2.start N vs) (as++List.replicate (N.length-as.length) .emp):=by
 have hl:vs.length=as.length:= ~~~I.len
 have at1:∀{i:Nat} {s:Sl},(as++List.replicate (N.length-as.length) Sl.emp)[i]? =some s->(as[i]? =some s/\(L2.start N vs)[i]? =(vs.map some)[i]?)\/s= .emp:=λ{i s} e=>by
  by_cases hi:i<as.length
  ·rw[fT hi]at e;refine .inl ⟨e,?_⟩;unfold L2.start;rw[fT (by simpa[hl]using hi)]
  ·rw[pI ∅,Ei]at e
   split at e
   ·cases e;exact .inr rfl
   ·exact aG e
 refine⟨I.fz,I.g0,I.new,I.keep,I.there,?_,I.ob,λi s e=>?_,λi j s t a n e1 e2 w1 w2=>?_⟩
 ·rw[zhO ∅,iZ,Xt];lia
 ·rcases at1 e with⟨e1,e2⟩|rfl
  ·rw[e2];exact I.slot i s e1
  ·trivial
 ·rcases at1 e1 with⟨f1,f2⟩|rfl
  ·rcases at1 e2 with⟨g1,g2⟩|rfl
   ·rw[f2]at w1;rw[g2]at w2;exact I.dis i j s t a n f1 g1 w1 w2
   ·exact w2
  ·exact w1
section
variable {P:AJ}{w:World}{K:AF}{mg:Str->AB AC}{base:AK}
theorem nU {x qual:Str}{st:Stmt}{N ps:AA Str}{k n:Nat}{m:MS}(F:Fun K x qual st f fd)(S:FnScope N ps (zao st))(hn:ps.length=n)(hN:n<=N.length)(body:∀(cdv:AC) (A:Around) (outer:AA Env) (s:AE) (H:Hp) (E:XK),Room k (A.deeper (envOfC qual (zao st) s⁻¹ f cdv))->SSs (fC gX P w K mg base N qual (zao st) f cdv A outer s H E).nox (zaH st) m):
  FnOk P w K mg base gX (k+1) f fd ps (hZ K n (fG N.length m)):=by
 refine F.ok S (λvs H Q E h=>?_) (λcdv A outer s H vs Q E hr h=>?_)
 ·obtain⟨G,O,as,r,outs,_,h2,I,_⟩:=h;have:=I.len;rw[cO]at this;lia
 ·obtain⟨G,O,as,r,outs,e1,h2,I,kk⟩:=h;obtain⟨t,pt,so⟩:=body cdv A outer s H E hr;refine⟨t,pt,?_⟩;refine aZ e1 λfl ρ' e2 e3=>?_
  refine so ⟨G,H,O⟩ G H (L2.start N vs) _ fl ρ' _ (I.startG ∅) e2 ?_;have fin:∀G' H' σ' v,fW as ρ'=some outs->SI K ⟨G,H,O⟩ G' H' σ' ρ'->Fz G G'->ResF K G' H' H v r->Q v H':=λG' H' σ' v eo J f rr=>
   kk G' H' v f J.fz J.new (λb o e n=>J.keep b o e n) J.there (λi s e=>by
    rcases nJ eo e with rfl|q
    ·exact⟨none,trivial⟩
    ·exact⟨_,J.slot i s q⟩) rr
  cases fl with
  |brk=>exact aG e3
  |cont=>exact aG e3
  |next=>
   refine bB e3 λo q1 q2=>?_
   cases q2;exactλG' H' σ' J f=>fin G' H' σ' .non q1 J f rfl
  |ret r'=>
   refine bB e3 λo q1 q2=>?_
   cases q2;refineλG' H' σ' v J f rr=>fin G' H' σ' v q1 J f ?_
   cases r with
   |val d=>exact rr
   |own ds=>exact rr
   |emp=>exact rr
   |two _ _=>exact rr
   |tre _=>exact rr
   |ptr _=>exact rr
   |par ds=>exact rr
end
def fS:AA (AB Nat)->AA Nat->Bool
 |[],_=>true
 |none::js,ls=>fS js ls
 |some j::js,ls=>!ls.contains j&&!js.contains (some j)&&fS js ls
def zlR:∀{js:AA (AB Nat)} {ls:AA Nat} {i j:Nat},fS js ls=true->js[i]? =some (some j)->j∉ls
 |[],_,_,_,_,e=>by simp at e
 |none::js,ls,i,j,h,e=>by
  cases i with
  |zero=>simp at e
  |succ i=>exact zlR (js:=js) h (~~~e)
 |some q::js,ls,i,j,h,e=>by
  have h':(!ls.contains q&&!js.contains (some q)&&fS js ls)=true:=h;simp only[cD,qcH,qcI,qcJ]at h';cases i with
  |zero=>simp at e;subst e;exact h'.1.1
  |succ i=>exact zlR (js:=js) h'.2 (~~~e)
def zjk:∀{js:AA (AB Nat)} {ls:AA Nat} {i k j:Nat},fS js ls=true->js[i]? =some (some j)->js[k]? =some (some j)->i=k
 |[],_,_,_,_,_,e,_=>by simp at e
 |none::js,ls,i,k,j,h,e,e2=>by
  cases i with
  |zero=>simp at e
  |succ i=>
   cases k with
   |zero=>simp at e2
   |succ k=>rw[zjk (js:=js) (i:=i) (k:=k) h (~~~e) (~~~e2)]
 |some q::js,ls,i,k,j,h,e,e2=>by
  have h':(!ls.contains q&&!js.contains (some q)&&fS js ls)=true:=h;simp only[cD,qcH,qcI,qcJ]at h';cases i with
  |zero=>
   cases k with
   |zero=>rfl
   |succ k=>
    simp at e;subst e;exact AH (dY (~~~e2)) h'.1.2
  |succ i=>
   cases k with
   |zero=>
    simp at e2;subst e2;exact AH (dY (~~~e)) h'.1.2
   |succ k=>rw[zjk (js:=js) (i:=i) (k:=k) h'.2 (~~~e) (~~~e2)]
def nT (u s:Sl):Sl:=match s with
 | .par ds=>u.put ds
 | .ptr t=>u.putT t
 |_=>u
def cZ:AA (AB Nat)->R->R->R
 | some j :: js, s :: os, ρ => cZ js os (match ρ[j]? with
  |some u=>ρ.set j (nT u s)
  |none=>ρ)
 |none::js,_::os,ρ=>cZ js os ρ
 |_,_,ρ=>ρ
def zfN:∀{js:AA (AB Nat)} {os ρ:R},(cZ js os ρ).length=ρ.length
 |[],_,_=>by unfold cZ;rfl
 |none::_,[],_=>by unfold cZ;rfl
 |some _::_,[],_=>by unfold cZ;rfl
 |none::js,_::os,ρ=>by unfold cZ;exact zfN
 |some j::js,s::os,ρ=>by
  unfold cZ;rw[zfN]
  split
  ·rw[uB]
  ·rfl
theorem zdD:∀{js:AA (AB Nat)} {ls:AA Nat} {os ρ:R} {q:Nat} {t:Sl},fS js ls=true->js.length<=os.length->(cZ js os ρ)[q]? =some t->
  (ρ[q]? =some t/\∀i:Nat,js[i]?≠some (some q))\/∃(i:Nat) (s u:Sl),js[i]? =some (some q)/\os[i]? =some s/\ρ[q]? =some u/\t=nT u s
 |[],_,_,_,_,_,_,_,e=>by unfold cZ at e;exact .inl ⟨e,λi=>by simp⟩
 |none::_,_,[],_,_,_,_,h,_=>by simp at h
 |some _::_,_,[],_,_,_,_,h,_=>by simp at h
 |none::js,ls,_::os,ρ,q,t,h,hl,e=>by
  unfold cZ at e;rcases zdD (js:=js) (ls:=ls) (os:=os) h (~~~hl) e with⟨h1,h2⟩|⟨i,s,u,h1,h2⟩
  ·refine .inl ⟨h1,λi=>?_⟩;cases i with
   |zero=>simp
   |succ i=>simpa using h2 i
  ·exact .inr ⟨i+1,s,u,~~~h1,~~~h2⟩
 |some j::js,ls,s::os,ρ,q,t,h,hl,e=>by
  have h':(!ls.contains j&&!js.contains (some j)&&fS js ls)=true:=h;simp only[cD,qcH,qcI,qcJ]at h';have nj:∀i:Nat,js[i]?≠some (some j):=λi z=>h'.1.2 (dY z)
  unfold cZ at e
  by_cases z:q=j
  ·subst z;rcases zdD (ls:=ls) h'.2 (~~~hl) e with⟨h1,h2⟩|⟨i,s,u,h1,h2⟩
   ·cases eu:ρ[q]? with
    |none=>rw[eu]at h1;dsimp only at h1;rw[eu]at h1;exact aG h1
    |some u=>
     rw[eu]at h1;dsimp only at h1;rw[jR,if_pos rfl,if_pos (qat.mp eu).1]at h1;cases h1;exact .inr ⟨0,s,u,rfl,rfl,rfl,rfl⟩
   ·exact AH h1 (nj i)
  ·have same:(match ρ[j]? with|some u=>ρ.set j (nT u s)|none=>ρ)[q]? =ρ[q]?:=by
    split
    ·rw[iD (Ne.symm z)]
    ·rfl
   rcases zdD (ls:=ls) h'.2 (~~~hl) e with⟨h1,h2⟩|⟨i,s2,u,h1,h2,h3,h4⟩
   ·refine .inl ⟨by rw[<-same];exact h1,λi=>?_⟩;cases i with
    |zero=>simpa using Ne.symm z
    |succ i=>simpa using h2 i
   ·exact .inr ⟨i+1,s2,u,~~~h1,~~~h2,by rw[<-same];exact h3,h4⟩
def Jq (fo hd:Nat->AA AD):Nat->AA (AB Nat)->AA (Nat×AD)
 |_,[]=>[]
 |i,none::js=>Jq fo hd (i+1) js
 |i,some j::js=>(fo j).map (λa=>(i,a))++((hd j).map (λa=>(i+4096,a))++Jq fo hd (i+1) js)
def mem_mkO :∀{js:AA (AB Nat)} {i:Nat},(n,b)∈Jq fo hd i js↔∃k j,js[k]? =some (some j)/\((n=i+k/\b∈fo j)\/(n=i+k+4096/\b∈hd j))
 |[],i=>by simp[Jq]
 |none::js,i=>by
  unfold Jq;rw[mem_mkO (js:=js)]
  constructor
  ·rintro⟨k,j,h1,h2⟩;exact⟨k+1,j,~~~h1,by rw[show i+(k+1)=i+1+k by lia];exact h2⟩
  ·rintro⟨k,j,h1,h2⟩;cases k with
   |zero=>simp at h1
   |succ k=>exact⟨k,j,~~~h1,by rw[show i+1+k=i+(k+1) by lia];exact h2⟩
 |some q::js,i=>by
  unfold Jq;rw[qar,qar,mem_mkO (js:=js)]
  constructor
  ·rintro(h|h|⟨k,j,h1,h2⟩)
   ·obtain⟨a,m,e⟩:=qb0.mp h;cases e;exact⟨0,q,rfl,.inl ⟨rfl,m⟩⟩
   ·obtain⟨a,m,e⟩:=qb0.mp h;cases e;exact⟨0,q,rfl,.inr ⟨rfl,m⟩⟩
   ·exact⟨k+1,j,~~~h1,by rw[show i+(k+1)=i+1+k by lia];exact h2⟩
  ·rintro⟨k,j,h1,h2⟩;cases k with
   |zero=>
    simp at h1;subst h1;rcases h2 with⟨rfl,m⟩|⟨rfl,m⟩
    ·exact .inl (qb0.mpr ⟨b,m,rfl⟩)
    ·exact .inr (.inl (qb0.mpr ⟨b,m,rfl⟩))
   |succ k=>exact .inr (.inr ⟨k,j,~~~h1,by rw[show i+1+k=i+(k+1) by lia];exact h2⟩)
section
variable {K:AF}{B:Bs}{G Gx H:Hp}{σ:St}{ρ:R}
theorem SI.foot (I:SI K B G H σ ρ):∃fo:Nat->AA AD,∀(j:Nat) (s:Sl),ρ[j]? =some s->∀a,(bR K G H σ[j]? a s↔a∈fo j):=by
 have h:∀j:Nat,∃A:AA AD,∀s:Sl,ρ[j]? =some s->∀a,(bR K G H σ[j]? a s↔a∈A):=λj=>by
  cases e:ρ[j]? with
  |none=>exact⟨[],λs z=>nomatch z⟩
  |some s=>
   have q:=I.slot j s e;have one:∀{l:AD} {s:Sl} {ds:AA D},s.items=some ds->σ[j]? =some (some (.ref l))->∃A:AA AD,∀t:Sl,some s=some t->∀a,(bR K G H σ[j]? a t↔a∈A):=λ{l s ds} hs hl=>⟨[l],λt z a=>by
    cases z;rw[kM hs,hl,qcB];exact⟨λz=>by cases z;rfl,λz=>by rw[z]⟩⟩
   have two:∀{v:V} {t:T} {A:AA AD} {s:Sl},σ[j]? =some (some v)->RepT K G H v t A->(∀a,bR K G H σ[j]? a s↔∃v A,σ[j]? =some (some v)/\RepT K G H v t A/\a∈A)->∃A:AA AD,∀u:Sl,some s=some u->∀a,(bR K G H σ[j]? a u↔a∈A):=λ{v t A s} h1 h2 h3=>⟨A,λu z a=>by
    cases z;rw[h3 a]
    constructor
    ·rintro⟨v2,A2,k1,k2,k3⟩;rw[h1]at k1;cases k1;rwa[h2.det k2 λ_ _=>rfl]
    ·exactλm=>⟨v,A,h1,h2,m⟩⟩
   cases s with
   |emp=>exact⟨[],λt z a=>by cases z;exact⟨λw=>w.elim,λm=>by simp at m⟩⟩
   |two _ _=>exact⟨[],λt z a=>by cases z;exact⟨λw=>w.elim,λm=>by simp at m⟩⟩
   |val _=>exact⟨[],λt z a=>by cases z;exact⟨λw=>w.elim,λm=>by simp at m⟩⟩
   |own ds=>obtain⟨l,xs,h1,_⟩:=q;exact one (ds:=ds) rfl h1
   |par ds=>obtain⟨l,xs,h1,_⟩:=q;exact one (ds:=ds) rfl h1
   |tre t=>obtain⟨v,A,h1,h2,_⟩:=q;exact two h1 h2 λa=>Iff.rfl
   |ptr t=>obtain⟨v,A,h1,h2,_⟩:=q;exact two h1 h2 λa=>Iff.rfl
 exact Classical.axiomOfChoice h
def Ez (σ:St)(j:Nat):AA AD:=match σ[j]? with
 |some (some (.ref p))=>[p]
 |_=>[]
def hdOf_mem:p∈Ez σ j↔σ[j]? =some (some (.ref p)):=by
 unfold Ez
 split
 ·rename_i q e;rw[e,qcB];exact⟨λz=>by rw[z],λz=>by cases z;rfl⟩
 ·rename_i h;exact⟨λm=>by simp at m,λe=>AH e (h p)⟩
def Dx (h:u= .tre t\/u= .ptr t)(k:u.hand=some s):t.isObj=false/\some (Sl.ptr t)=some s:=by
 have k2:(if t.isObj then none else some (Sl.ptr t))=some s:=by rcases h with rfl|rfl<;>exact k
 cases e:t.isObj with
 |true=>rw[e,if_pos rfl]at k2;exact aG k2
 |false=>rw[e,if_neg (by simp)]at k2;exact⟨rfl,k2⟩
def SI.root (I:SI K B G H σ ρ)(e:ρ[j]? =some u)(h:u.hand=some s)(hp:σ[j]? =some (some (.ref p))):bR K G H σ[j]? p u:=by
 have q:=I.slot j u e;cases u with
 |emp=>exact aG h
 |two _ _=>exact aG h
 |val _=>exact aG h
 |own ds=>exact hp
 |par ds=>exact hp
 |tre t=>
  obtain⟨v,A,h1,h2,_⟩:=q;obtain⟨p2,rfl,m⟩:=h2.head;have:=h1;rw[hp]at this;cases this;exact⟨_,A,h1,h2,m⟩
 |ptr t=>
  obtain⟨v,A,h1,h2,_⟩:=q;obtain⟨p2,rfl,m⟩:=h2.head;have:=h1;rw[hp]at this;cases this;exact⟨_,A,h1,h2,m⟩
def SlotOk.thin (f:Fz Gx G2)(od:∀a o,G a=none->Gx a=some o->Ar o)(e:tR s=true)(h:SlotOk K B G2 H2 i ov s):SlotOk K B (M.thin G Gx G2) H2 i ov s:=by
 cases s with
 |emp=>trivial
 |two _ _=>trivial
 |val d=>obtain⟨v,h1,h2⟩:=h;exact⟨v,h1,zmG f od e h2⟩
 |own ds=>obtain⟨l,xs,h1,h2,h3,h4,h5⟩:=h;exact⟨l,xs,h1,Pp h2,h3,Sz f od e h4,h5⟩
 |par ds=>obtain⟨l,xs,h1,h2,h3,h4,h5⟩:=h;exact⟨l,xs,h1,Pp h2,h3,Sz f od e h4,h5⟩
 |tre t=>obtain⟨v,A,h1,h2,h3,h4⟩:=h;exact⟨v,A,h1,zlh f od e h2,h3,λa m=>⟨Pp (h4 a m).1,(h4 a m).2⟩⟩
 |ptr t=>obtain⟨v,A,h1,h2,h3,h4⟩:=h;exact⟨v,A,h1,zlh f od e h2,h3,λa m=>⟨Pp (h4 a m).1,(h4 a m).2⟩⟩
def ResF.thin (f:Fz Gx G2)(od:∀a o,G a=none->Gx a=some o->Ar o)(e:tR r=true)(h:ResF K G2 H2 H v r):ResF K (M.thin G Gx G2) H2 H v r:=by
 cases r with
 |emp=>exact h
 |two _ _=>exact nomatch e
 |par _=>exact h
 |ptr _=>exact h
 |val d=>exact zmG f od e h
 |own ds=>obtain⟨l,xs,h1,h2,h3,h4,h5⟩:=h;exact⟨l,xs,h1,Pp h2,h3,Sz f od e h4,h5⟩
 |tre t=>obtain⟨A,h2,h3,h4⟩:=h;exact⟨A,zlh f od e h2,h3,λa m=>⟨Pp (h4 a m).1,(h4 a m).2⟩⟩
end
section
variable {K:AF}{B:Bs}{G Gx H:Hp}{σ:St}{ρ:R}{js:AA (AB Nat)}{ls:AA Nat}{vs:AA V}{as:R}{n:Nat}{F:R->AB (Sl×R)}{r:Sl}{outs:R}{Q:VK}{E:XK}
theorem Xn (I:SI K B G H σ ρ)(L:Lk K ls G Gx H σ ρ)(A:ArgsOk K Gx σ ρ js vs as)(eF:F as=some (r,outs))(hn:as.length=n)(kF:rN F)(hj:fS js ls=true)(lt:js.length<=4096)(ck:(ls.isEmpty||(tR r&&outs.all tR))=true)(kk:∀G3 H2 v,SI K B G3 H2 σ (cZ js outs ρ)->Fz G G3->ResF K G3 H2 H v r->(∀b,H b=none->Nw K G3 H2 σ (cZ js outs ρ) b)->Q v H2):hZ K n F vs H Q E:=by
 obtain⟨fo,hfo⟩:=I.foot;have hk:=kF _ _ _ eF;have hln:=A.len;have hsl:∀{i j:Nat},js[i]? =some (some j)->∃u s v,ρ[j]? =some u/\u.hand=some s/\as[i]? =some s/\vs[i]? =some v/\σ[j]? =some (some v):=λ{i j} e=>by
  have hi:i<as.length:=by rw[<-hln.2];exact(qat.mp e).1
  obtain⟨v,h1,h2⟩:=A.get (bA hi);rcases h2 with⟨z,_⟩|⟨j2,z1,z2,z3⟩
  ·rw[e]at z;cases z
  ·rw[e]at z1;cases z1;obtain⟨u,k1,k2⟩:=uF z3;exact⟨u,_,v,k1,k2,bA hi,h1,z2⟩
 let O:=Jq fo (Ez σ) 0 js
 have hO1:∀{i:Nat} {b:AD},i<js.length->(i,b)∈O->∃j,js[i]? =some (some j)/\b∈fo j:=λ{i b} hi m=>by
  obtain⟨k,j,h1,h2⟩:=mem_mkO.mp m;rcases h2 with⟨z,h2⟩|⟨z,h2⟩
  ·have:i=k:=∅
   subst this;exact⟨j,h1,h2⟩
  ·lia
 have hO2:∀{i:Nat} {b:AD},i<js.length->(i+4096,b)∈O->∃j,js[i]? =some (some j)/\σ[j]? =some (some (.ref b)):=λ{i b} hi m=>by
  obtain⟨k,j,h1,h2⟩:=mem_mkO.mp m;have:=(qat.mp h1).1;rcases h2 with⟨z,h2⟩|⟨z,h2⟩
  ·lia
  ·have:i=k:=∅
   subst this;exact⟨j,h1,hdOf_mem.mp h2⟩
 have hOw:∀{i:Nat} {b:AD},(i,b)∈O->∃(k j:Nat) (u:Sl),js[k]? =some (some j)/\ρ[j]? =some u/\bR K G H σ[j]? b u:=λ{i b} m=>by
  obtain⟨k,j,h1,h2⟩:=mem_mkO.mp m;obtain⟨u,s,v,k1,k2,k3,k4,k5⟩:=hsl h1;rcases h2 with⟨z,h2⟩|⟨z,h2⟩
  ·exact⟨k,j,u,h1,k1,(hfo j u k1 b).mpr h2⟩
  ·exact⟨k,j,u,h1,k1,I.root k1 k2 (hdOf_mem.mp h2)⟩
 have gx:∀{i j:Nat} {u:Sl} {a:AD},js[i]? =some (some j)->ρ[j]? =some u->bR K G H σ[j]? a u->Gx a=none:=λ{i j u a} e eu w=>by
  cases q:Gx a with
  |none=>rfl
  |some o=>
   obtain⟨i2,s2,m1,m2,m3⟩:=L.ow a ((I.slot j u eu).own w).1 (by rw[q];simp);have nj:=zlR hj e;exact AH m3 (I.dis j i2 u s2 a (λz=>nj (z ▸ m1)) eu m2 w)
 have owA:∀{i:Nat} {s:Sl} {a:AD},as[i]? =some s->bR K Gx H (vs.map some)[i]? a s->∃(j:Nat) (u:Sl),js[i]? =some (some j)/\ρ[j]? =some u/\bR K G H σ[j]? a u:=λ{i s a} e w=>by
  obtain⟨v,h1,h2⟩:=A.get e;rw[cR,h1]at w;rcases h2 with⟨_,d,rfl,_⟩|⟨j,z1,z2,z3⟩
  ·exact w.elim
  ·obtain⟨u,k1,k2⟩:=uF z3;refine⟨j,u,z1,k1,?_⟩;have q:=I.slot j u k1;rw[z2];cases u with
   |emp=>cases k2
   |two _ _=>cases k2
   |val _=>cases k2
   |own ds=>cases k2;exact w
   |par ds=>cases k2;exact w
   |tre t=>
    obtain⟨no,k2⟩:=Dx (t:=t) (by first|exact .inl rfl|exact .inr rfl) k2;cases k2;obtain⟨v2,A2,h3,h4,_⟩:=q;obtain⟨v3,A3,w1,w2,w3⟩:=w;cases w1;rw[z2]at h3;cases h3;rw[<-h4.det w2 λ_ _=>rfl]at w3;exact⟨v,A2,rfl,h4,w3⟩
   |ptr t=>
    obtain⟨no,k2⟩:=Dx (t:=t) (by first|exact .inl rfl|exact .inr rfl) k2;cases k2;obtain⟨v2,A2,h3,h4,_⟩:=q;obtain⟨v3,A3,w1,w2,w3⟩:=w;cases w1;rw[z2]at h3;cases h3;rw[<-h4.det w2 λ_ _=>rfl]at w3;exact⟨v,A2,rfl,h4,w3⟩
 refine⟨Gx,O,as,r,outs,eF,hn,⟨L.fz,Fz.refl _,λb o e=> .inl (by show Gx b≠none;rw[e];simp),λb o e _=>e,λb e=>e,by rw[cO];exact hln.1,λi b m=>?_,λi s e=>?_,λi k s t a ne e1 e2 w1 w2=>?_⟩,?_⟩
 ·obtain⟨k,j,u,h1,h2,h3⟩:=hOw m;exact((I.slot j u h2).own h3).2.1
 ·obtain⟨v,h1,h2⟩:=A.get e;rw[cR,h1];rcases h2 with⟨_,d,rfl,q⟩|⟨j,z1,z2,z3⟩
  ·exact⟨v,rfl,q⟩
  ·obtain⟨u,k1,k2⟩:=uF z3;have q:=I.slot j u k1;have inO:∀{a:AD},bR K G H σ[j]? a u->(i,a)∈O:=λ{a} w=>mem_mkO.mpr ⟨i,j,z1,.inl ⟨∅,(hfo j u k1 a).mp w⟩⟩
   have tag:∀{p:AD},σ[j]? =some (some (.ref p))->(i+4096,p)∈O:=λ{p} w=>mem_mkO.mpr ⟨i,j,z1,.inr ⟨∅,hdOf_mem.mpr w⟩⟩
   have lst:∀{l:AD} {xs:AA V} {ds:AA D},bR K G H σ[j]? l u->σ[j]? =some (some (.ref l))->H l=some (.lst xs)->RepL K G xs ds->SlotOk K ⟨Gx,H,O⟩ Gx H i (some (some v)) (.par ds):=λ{l xs ds} w h1 h2 h3=>by
    rw[z2]at h1;cases h1;exact⟨l,xs,rfl,gx z1 k1 w,h2,h3.mono L.up,inO w⟩
   have tre:∀{v2:V} {t:T} {A2:AA AD},(∀a∈A2,bR K G H σ[j]? a u)->σ[j]? =some (some v2)->RepT K G H v2 t A2->A2.Nodup->t.isObj=false->SlotOk K ⟨Gx,H,O⟩ Gx H i (some (some v)) (.ptr t):=λ{v2 t A2} w h1 h2 h3 no=>by
    rw[z2]at h1;cases h1;obtain⟨p,rfl,_⟩:=h2.head;exact⟨.ref p,A2,rfl,h2.move L.up λ_ _=>rfl,⟨h3,p,rfl,tag z2,λz=>by rw[no]at z;cases z⟩,λa m=>⟨gx z1 k1 (w a m),.inl (inO (w a m))⟩⟩
   cases u with
   |emp=>cases k2
   |two _ _=>cases k2
   |val _=>cases k2
   |own ds=>cases k2;obtain⟨l,xs,h1,h2,h3,h4,h5⟩:=q;exact lst h1 h1 h3 h4
   |par ds=>cases k2;obtain⟨l,xs,h1,h2,h3,h4,h5⟩:=q;exact lst h1 h1 h3 h4
   |tre t=>
    obtain⟨no,k2⟩:=Dx (t:=t) (by first|exact .inl rfl|exact .inr rfl) k2;cases k2;obtain⟨v2,A2,h1,h2,h3,h4⟩:=q;exact tre (λa m=>⟨v2,A2,h1,h2,m⟩) h1 h2 h3 no
   |ptr t=>
    obtain⟨no,k2⟩:=Dx (t:=t) (by first|exact .inl rfl|exact .inr rfl) k2;cases k2;obtain⟨v2,A2,h1,h2,h3,h4⟩:=q;exact tre (λa m=>⟨v2,A2,h1,h2,m⟩) h1 h2 h3.1 no
 ·obtain⟨j,u,h1,h2,h3⟩:=owA e1 w1;obtain⟨j2,u2,g1,g2,g3⟩:=owA e2 w2;exact I.dis j j2 u u2 a (λz=>by subst z;exact ne (zjk hj h1 g1)) h2 g2 h3 g3
 ·intro G2 H2 v f2 fz2 nw2 kp2 th2 so2 rr2;have trS:∀{i:Nat} {s:Sl} {ov:AB (AB V)},outs[i]? =some s->SlotOk K ⟨Gx,H,O⟩ G2 H2 i ov s->SlotOk K ⟨Gx,H,O⟩ (M.thin G Gx G2) H2 i ov s:=λ{i s ov} e h=>by
   rw[Pg]at ck;rcases ck with ck|ck
   ·have:M.thin G Gx G2=G2:=funext λa=>by
     unfold M.thin;rw[if_neg λz=>by
      obtain⟨i,s,m,_⟩:=L.ow a z.1 z.2;rw[List.isEmpty_iff.mp ck]at m;cases m]
    rw[this];exact h
   ·rw[cD]at ck;exact h.thin f2 L.odd (qbZ.mp ck.2 s (dY e))
  have trR:ResF K (M.thin G Gx G2) H2 H v r:=by
   rw[Pg]at ck;rcases ck with ck|ck
   ·have:M.thin G Gx G2=G2:=funext λa=>by
     unfold M.thin;rw[if_neg λz=>by
      obtain⟨i,s,m,_⟩:=L.ow a z.1 z.2;rw[List.isEmpty_iff.mp ck]at m;cases m]
    rw[this];exact rr2
   ·rw[cD]at ck;exact rr2.thin f2 L.odd ck.1
  have fg:Fz G (M.thin G Gx G2):=zS (L.up.trans f2);have nw3:∀b o,M.thin G Gx G2 b=some o->G b≠none\/H b=none:=λb o e=>by
   rcases nw2 b o (zmx b o e)with z|z
   ·refine .inl λg=>?_
    unfold M.thin at e;rw[if_pos ⟨g,z⟩]at e;cases e
   ·exact .inr z
  have stay:∀{q:Nat} {t:Sl} {a:AD},ρ[q]? =some t->(∀i:Nat,js[i]?≠some (some q))->bR K G H σ[q]? a t->G a=none->H a≠none->M.thin G Gx G2 a=none/\H2 a=H a:=λ{q t a} e nj w g h=>by
   refine⟨?_,?_⟩
   ·cases z:M.thin G Gx G2 a with
    |none=>rfl
    |some o=>
     rcases nw3 a o z with z|z
     ·exact AH g z
     ·exact AH z h
   ·obtain⟨o,ho⟩:=qbC.mp h;rw[ho];refine kp2 a o ho λi m=>?_
    obtain⟨k,j,u,h1,h2,h3⟩:=hOw m;exact I.dis q j t u a (λz=>by subst z;exact nj k h1) e h2 w h3
  have lo:js.length<=outs.length:=by
   have:∀{as os:R},Ck as os=true->as.length<=os.length:=by
    intro as
    induction as with
    |nil=>intro os _;simp
    |cons a as ih=>
     intro os h;cases os with
     |nil=>cases a<;>cases h
     |cons o os=>
      have h':Ck as os=true:=by cases a<;>cases o<;>first|exact h|cases h
      simpa using ih h'
   rw[hln.2];exact this hk
  have slotN:∀{q:Nat} {t:Sl},(cZ js outs ρ)[q]? =some t->SlotOk K B (M.thin G Gx G2) H2 q σ[q]? t/\∀a,bR K (M.thin G Gx G2) H2 σ[q]? a t->∃u,ρ[q]? =some u/\bR K G H σ[q]? a u:=λ{q t} e=>by
   rcases zdD hj lo e with⟨e1,nj⟩|⟨i,s,u,e1,e2,e3,rfl⟩
   ·have sl:=I.slot q t e1;exact⟨sl.mono fg λa w g h=>stay e1 nj w g h,λa w=>⟨t,e1,sl.back (λa w g h=>stay e1 nj w g h) w⟩⟩
   ·have hi:i<js.length:=(qat.mp e1).1;obtain⟨u2,s0,v0,k1,k2,k3,k4,k5⟩:=hsl e1;rw[e3]at k1;cases k1;obtain⟨ov,so⟩:=so2 i s e2;have so:=trS e2 so;have sl:=I.slot q u e3;rcases znN hk k3 with⟨ds,es,rfl,z⟩|⟨t,t2,rfl,z⟩|⟨d,rfl,z⟩
    ·rw[e2]at z;cases z;obtain⟨l,ys,h1,h2,h3,h4,h5⟩:=so;obtain⟨j,m1,m2⟩:=hO1 hi h5;rw[e1]at m1;cases m1;have ow:=(hfo q u e3 l).mpr m2;cases u with
     |emp=>cases k2
     |two _ _=>cases k2
     |val _=>cases k2
     |tre t0=>obtain⟨_,k2⟩:=Dx (t:=t0) (.inl rfl) k2;cases k2
     |ptr t0=>obtain⟨_,k2⟩:=Dx (t:=t0) (.inr rfl) k2;cases k2
     |own ds0=>
      obtain⟨l0,xs0,g1,g2,g3,g4,g5⟩:=sl;have hl:σ[q]? =some (some (.ref l)):=ow;rw[hl]at g1;cases g1;exact⟨⟨l,ys,hl,h2,h3,h4,g5⟩,λa w=>⟨_,e3,w⟩⟩
     |par ds0=>
      obtain⟨l0,xs0,g1,g2,g3,g4,g5⟩:=sl;have hl:σ[q]? =some (some (.ref l)):=ow;rw[hl]at g1;cases g1;exact⟨⟨l,ys,hl,h2,h3,h4,g5⟩,λa w=>⟨_,e3,w⟩⟩
    ·rw[e2]at z;cases z;obtain⟨v2,A2,h1,h2,⟨h3,p,rfl,h4,h6⟩,h5⟩:=so;have no2:¬t2.isObj=true:=λz=>by
      obtain⟨k,j,y1,y2⟩:=mem_mkO.mp (h6 z);have:=(qat.mp y1).1;rcases y2 with⟨y,_⟩|⟨y,_⟩<;>lia
     obtain⟨j,m1,m2⟩:=hO2 hi h4;rw[e1]at m1;cases m1;have old:∀a∈A2,bR K G H σ[q]? a u:=λa m=>by
      obtain⟨j,m1,m2⟩:=hO1 hi ((h5 a m).2.elim id λz=>by
       obtain⟨p3,_,z3⟩:=z.2;obtain⟨k,j,y1,y2⟩:=mem_mkO.mp z3;have:=(qat.mp y1).1;rcases y2 with⟨y,_⟩|⟨y,_⟩<;>lia)
      rw[e1]at m1;cases m1;exact(hfo q u e3 a).mpr m2
     have owb:∀a,(∃v A,σ[q]? =some (some v)/\RepT K (M.thin G Gx G2) H2 v t2 A/\a∈A)->∃u,ρ[q]? =some u/\bR K G H σ[q]? a u:=λa ⟨v3,A3,w1,w2,w3⟩=>by
      rw[m2]at w1;cases w1;rw[<-h2.det w2 λ_ _=>rfl]at w3;exact⟨u,e3,old a w3⟩
     cases u with
     |emp=>cases k2
     |two _ _=>cases k2
     |val _=>cases k2
     |own _=>cases k2
     |par _=>cases k2
     |tre t0=>
      refine⟨⟨.ref p,A2,m2,h2,h3,λa m=>⟨(h5 a m).1,?_⟩⟩,owb⟩;obtain⟨v4,A4,g1,g2,g3,g4⟩:=sl;obtain⟨v5,A5,w1,w2,w3⟩:=old a m;rw[g1]at w1;cases w1;rw[<-g2.det w2 λ_ _=>rfl]at w3;exact(g4 a w3).2
     |ptr t0=>
      obtain⟨v4,A4,g1,g2,g3,g4⟩:=sl;have e4:v4= .ref p:=by rw[m2]at g1;cases g1;rfl
      subst e4;refine⟨⟨.ref p,A2,m2,h2,⟨h3,p,rfl,?_⟩,λa m=>⟨(h5 a m).1,?_⟩⟩,owb⟩
      ·obtain⟨p2,z1,z2⟩:=g3.2;rw[m2]at g1;cases g1;cases z1;exact⟨z2.1,λz=>AH z no2⟩
      ·obtain⟨v5,A5,w1,w2,w3⟩:=old a m;rw[g1]at w1;cases w1;rw[<-g2.det w2 λ_ _=>rfl]at w3;exact(g4 a w3).2
    ·cases u<;>first|cases k2|(obtain⟨_,k2⟩:=Dx (.inl rfl) k2;cases k2)|(obtain⟨_,k2⟩:=Dx (.inr rfl) k2;cases k2)
  refine kk (M.thin G Gx G2) H2 v ⟨λa o e=>fz2 a o (zmx a o e),I.g0.trans fg,λb o e=>?_,λb o e nb=>?_,λb e=>I.there b (th2 b e),by rw[zfN];exact I.len,I.ob,λq t e=>(slotN e).1,λq q2 s t a ne e1 e2 w1 w2=>?_⟩ fg trR λb hb q t e w=>?_
  ·rcases nw3 b o e with z|z
   ·cases y:G b with
    |none=>exact AH y z
    |some u=>exact I.new b u y
   ·exact .inr (I.there b z)
  ·refine kp2 b o (I.keep b o e nb) λi m=>?_
   obtain⟨k,j,u,h1,h2,h3⟩:=hOw m;rcases((I.slot j u h2).own h3).2.2 with z|z
   ·rw[e]at z;cases z
   ·exact nb j z
  ·obtain⟨u,h1,h2⟩:=(slotN e1).2 a w1;obtain⟨u2,g1,g2⟩:=(slotN e2).2 a w2;exact I.dis q q2 u u2 a ne h1 g1 h2 g2
  ·obtain⟨u,h1,h2⟩:=(slotN e).2 b w;exact((I.slot q u h1).own h2).2.1 hb
end
def Of:R->AB (AA D)
 |[]=>some []
 | .val d::as=>(Of as).map (d:: ·)
 |_=>none
def Tp (F:AA D->AB Sl):R->AB (Sl×R):=λas=>(Of as).bind λds=>(F ds).map λr=>(r,as.map λ_=> .emp)
def zi0:∀{as:R} {ds:AA D},Of as=some ds->Ck as (as.map λ_=>Sl.emp)=true
 |[],_,_=>rfl
 | .val d::as,_,h=>by refine bB h λds e _=>?_;exact zi0 (as:=as) e
def znv:rN (Tp F):=λas r os h=>by
 refine aP h λds e1 h=>?_
 refine bB h λr e2 h=>?_
 cases h;exact zi0 e1
theorem rO {K:AF}:∀{as:R} {vs:AA V} {ds:AA D},Of as=some ds->as.length=vs.length->(∀(i:Nat) (s:Sl),as[i]? =some s->SlotOk K B G H i (vs.map some)[i]? s)->RepL K G vs ds
 |[],[],_,h,_,_=>by cases h;exact .nil
 |[],_::_,_,_,h,_=>by simp at h
 | .val d::as,[],_,_,h,_=>by simp at h
 | .val d::as,v::vs,_,h,hl,k=>by
  refine bB h λds e q=>?_
  cases q;obtain⟨w,h1,h2⟩:=k 0 _ rfl;have:v=w:= ~~~h1
  subst this;have rest:∀{as:R} {vs:AA V} {ds:AA D},Of as=some ds->as.length=vs.length->(∀(i:Nat) (s:Sl),as[i]? =some s->∃d v,s= .val d/\vs[i]? =some v/\RepD K G v d)->RepL K G vs ds:=by
   intro as
   induction as with
   |nil=>intro vs ds h hl _;cases h;cases vs with
    |nil=>exact .nil
    |cons _ _=>simp at hl
   |cons a as ih=>
    intro vs ds h hl k;cases vs with
    |nil=>simp at hl
    |cons v vs=>
     cases a with
     |val d=>
      refine bB h λds e q=>?_
      cases q;obtain⟨d2,v2,z1,z2,z3⟩:=k 0 _ rfl;cases z1;cases(show some v=some v2 from z2);exact .cons z3 (ih e (~~~hl) λi s es=> ~~~k (i+1) s (~~~es))
     |_=>exact aG h
  have hv:∀{as:R} {ds:AA D} {i:Nat} {s:Sl},Of as=some ds->as[i]? =some s->∃d,s= .val d:=by
   intro as
   induction as with
   |nil=>intro ds i s _ e;simp at e
   |cons a as ih=>
    intro ds i s h e;cases a with
    |val d=>
     refine bB h λds e2 q=>?_
     cases i with
     |zero=>simp at e;exact⟨d,e.symm⟩
     |succ i=>exact ih e2 (~~~e)
    |_=>exact aG h
  refine .cons h2 (rest e (~~~hl) λi s es=>?_);obtain⟨d2,rfl⟩:=hv e es;obtain⟨w,h3,h4⟩:=k (i+1) _ (~~~es);rw[cR,Ag]at h3;cases q:vs[i]? with
  |none=>rw[q]at h3;exact aG h3
  |some y=>rw[q]at h3;cases h3;exact⟨d2,_,rfl,rfl,h4⟩
theorem Lc {K:AF}{Q:VK}{E:XK}(h:hZ K n (Tp F) vs H Q E):aX K n F vs H Q E:=by
 obtain⟨G,O,as,r,outs,e1,h2,I,kk⟩:=h;refine aP e1 λds e2 e1=>?_
 refine bB e1 λr' e3 e1=>?_
 cases e1;have hl:as.length=vs.length:=by have:=I.len;rw[cO]at this;exact this.symm
 have rp:=rO e2 hl I.slot;refine⟨G,ds,r,e3,by rw[<-rp.length,<-hl,h2],I.fz,rp,λG' H' v f fz nw kp rr=>kk G' H' v f fz nw (λb o e _=>kp b o e) (λb e=>kp.free e) (λi s e=>?_) rr⟩;rw[cR]at e;cases q:as[i]? with
 |none=>rw[q]at e;exact aG e
 |some a=>rw[q]at e;cases e;exact⟨none,trivial⟩
def Vs (ls:AA Nat)(z:Sl×R):Bool:=ls.isEmpty||(tR z.1&&z.2.all tR)
def rP (F:R->AB (Sl×R))(js:AA (AB Nat))(ls:AA Nat)(mg:MG):ME:=λρ=>(mg ρ).bind λq=>(F q.1).bind λz=>if Vs ls z then match z.1 with
 | .val d=>some (d,cZ js z.2 q.2)
 | .own ds=>some (.lst ds,cZ js z.2 q.2)
 | .tre (.tup cs)=>some (.tup (cs.map Ch.D),cZ js z.2 q.2)
 |_=>none else none
def Sb (i:Nat)(F:R->AB (Sl×R))(js:AA (AB Nat))(ls:AA Nat)(mg:MG):MS:=λρ=>(mg ρ).bind λq=>(F q.1).bind λz=>if Vs ls z then match z.1 with
 | .val d=>some (.next,(cZ js z.2 q.2).set i (.val d))
 | .own ds=>some (.next,(cZ js z.2 q.2).set i (.own ds))
 | .tre t=>some (.next,(cZ js z.2 q.2).set i (.tre t))
 |_=>none else none
def T.bk:T->AB (Int×AA D)
 | .ins c [(a,.d (.int n)),(b,.l ds)]=>if c="SumBook"/\a="many"/\b="kept" then some (n,ds)else none
 |_=>none
section
variable {X:Cx}{x y mt:Str}{p pos py ap tpos:Pos}{e:AI}{es:AA AI}{js:AA (AB Nat)}{ls:AA Nat}{mg:MG}{k k' n:Nat}{F:R->AB (Sl×R)}{sp:Sp}
def endS (hm : (match r with
   | .val d=>some (Fl.next,(cZ js outs ρ).set i (.val d))
   | .own ds=>some (Fl.next,(cZ js outs ρ).set i (.own ds))
   | .tre t=>some (Fl.next,(cZ js outs ρ).set i (.tre t))
   |_=>none)=some (fl,ρ'))(I:SI X.K B G H σ ρ)(k:Post X.K B G E fl ρ'):
  ∀G3 H2 v,SI X.K B G3 H2 σ (cZ js outs ρ)->Fz G G3->ResF X.K G3 H2 H v r->(∀b,H b=none->Nw X.K G3 H2 σ (cZ js outs ρ) b)->E.nx (σ.set i (some v)) H2:=λG3 H2 v I3 f3 rr nw=>by
 split at hm
 ·exists bM hm;exact k G3 H2 _ (I3.set rr) f3
 ·exists bM hm;obtain⟨l,xs,rfl,g3,h3,r3,b3⟩:=rr;exact k G3 H2 _ (I3.setO g3 h3 r3 (I.there l b3) (nw l b3)) f3
 ·exists bM hm;obtain⟨A,q1,q2,q3⟩:=rr;exact k G3 H2 _ (I3.setT q1 q2 λa m=>⟨(q3 a m).1,I.there a (q3 a m).2,nw a (q3 a m).2⟩) f3
 ·exact aG hm
def yE (i:Nat)(fd:FD X.prog X.w X.K X.mg X.base k x sp)(hsp:∀vs H Q E,hZ X.K n F vs H Q E->sp vs H Q E)(kF:rN F)(hr:Room k' X.A)(ha:SGA X js ls (e::es) mg)(hN:X.N.Nodup)(hi:X.N[i]? =some y:=by rfl)(hx:gG X.env.scope y:=by trivial)(hf:X.fn y=true\/X.env.scope.names.lookup y=some .local:=by trivial)(hn:js.length=n:=by rfl)(hj:fS js ls=true:=by rfl)(lt:js.length<=4096:=by decide)(hk:k<=k':=by decide)(hg:Gl X x:=by rfl)(hdb:(x==("__debug__":Str))=false:=by decide)(he:starEach (e::es) X.env=(false,eval e X.env)::starEach es X.env:=by rfl)(hpl:(backTo pos (starEach es X.env)).any (·.1)=false:=by rfl)(hs:swapsWith (.Call (.Name x p) (e::es) [] pos) (some (.Name y py)) tpos.line X.env=pure false:=by rfl):SS X (.Assign [.Name y py] (.Call (.Name x p) (e::es) [] pos) tpos) (Sb i F js ls mg):=by
 obtain⟨f,fdd,ps,G0,h1,h2,h3⟩:=fd.ex;refine ha.el λt pa sa=>?_
 refine⟨_,Ug hN hi hx (Ol G0 (hr.mono hk) hg h1 h2 h3 .nil tW pa hdb he hpl) hs hf,λB G H σ ρ fl ρ' E I hm kk=>?_⟩;refine aZ hm λas ρ1 e1 hm=>?_
 refine aZ hm λr outs e2 hm=>?_
 dsimp only at hm;refine aT hm λck hm=>?_
 ·skip
  refine sa B G H σ ρ as ρ1 _ I e1 λG1 H1 vs Gx I1 f1 L A=>?_
  show sp (vs++[]) H1 _ E0;rw[qO];exact hsp _ _ _ _ (Xn I1 L A e2 (by rw[<-A.len.2,hn]) kF hj lt ck (endS hm I1 (kk.mono f1)))
end
section
variable {P:AJ}{w:World}{K:AF}{mg:Str->AB AC}{base hp:AK}{x mt:Str}{st:Stmt}{f:AD}{N:AA Str}{k n:Nat}{m:MS}
structure DefOkM (x q:Str)(st:Stmt)(N:List Str)(n:Nat):Prop where
 sc:FnScope N (N.take n) (zao st)
 len:(N.take n).length=n
 le:n<=N.length
 bs:∀(kV doc pm:Value) (an:Option Addr) (cdv ct:Value) (us:List Value),us.length=(N.take n).length->bindArgs (W.fnOf x q (za7 st) (zaH st) (zao st) .none kV doc pm an cdv ct) ⟨us,[]⟩=pure ((N.take n).zip us)
end
section
variable {K:AF}{B:Bs}{G H:Hp}{σ:St}{ρ:R}
open Classical in
def Bs.reA (B:Bs)(K:AF)(G H:Hp)(σ:St)(ρ:R)(A:AA AD):Bs:=⟨G,λb=>if(∃(i:Nat) (s:Sl),ρ[i]? =some s/\bR K G H σ[i]? b s)/\B.H b=none then none else H b,B.O.filter λz=>!A.contains z.2⟩
def reA_O:z∈(B.reA K G H σ ρ A).O↔z∈B.O/\z.2∉A:=by
 unfold Bs.reA;simp
def zjr (I:SI K B G H σ ρ)(h:(B.reA K G H σ ρ A).H b=none):B.H b=none:=by
 unfold Bs.reA at h;dsimp only at h
 split at h
 ·rename_i w;exact w.2
 ·exact I.there b h
def SI.reA (I:SI K B G H σ ρ)(hA:∀a∈A,Nw K G H σ ρ a):SI K (B.reA K G H σ ρ A) G H σ ρ where
 fz:=I.fz
 g0:=Fz.refl G
 new:=λb o e=> .inl (by show G b≠none;rw[e];simp)
 keep:=λb o e _=>by
  unfold Bs.reA at e;dsimp only at e
  split at e
  ·exact aG e
  ·exact e
 there:=λb e=>by
  unfold Bs.reA;dsimp only
  split
  ·rfl
  ·exact e
 ob:=λi b m=>by
  have hb:=I.ob i b (reA_O.mp m).1;unfold Bs.reA;dsimp only;rw[if_neg λw=>hb w.2];exactλz=>hb (I.there b z)
 len:=I.len
 slot:=λi s e=>by
  have h:=I.slot i s e;have own:∀{a:AD},bR K G H σ[i]? a s->B.H a=none->(B.reA K G H σ ρ A).H a=none:=λ{a} w n=>by
   unfold Bs.reA;dsimp only;rw[if_pos ⟨⟨i,s,e,w⟩,n⟩]
  have inO:∀{n:Nat} {a:AD},bR K G H σ[i]? a s->(n,a)∈B.O->(n,a)∈(B.reA K G H σ ρ A).O:=λ{n a} w m=>reA_O.mpr ⟨m,λz=>hA a z i s e w⟩
  cases s with
  |emp=>trivial
  |two _ _=>trivial
  |val d=>exact h
  |own ds=>obtain⟨l,xs,k1,k2,k3,k4,k5⟩:=h;exact⟨l,xs,k1,k2,k3,k4,own k1 k5⟩
  |par ds=>obtain⟨l,xs,k1,k2,k3,k4,k5⟩:=h;exact⟨l,xs,k1,k2,k3,k4,inO k1 k5⟩
  |tre t=>obtain⟨v,A',k1,k2,k3,k4⟩:=h;exact⟨v,A',k1,k2,k3,λa m=>⟨(k4 a m).1,own ⟨v,A',k1,k2,m⟩ (k4 a m).2⟩⟩
  |ptr t=>
   obtain⟨v,A',k1,k2,⟨k3,p,rfl,k5,k6⟩,k4⟩:=h;obtain⟨p2,q1,q2⟩:=k2.head;cases q1;exact⟨_,A',k1,k2,⟨k3,p,rfl,inO ⟨_,A',k1,k2,q2⟩ k5,λz=>inO ⟨_,A',k1,k2,q2⟩ (k6 z)⟩,λa m=>⟨(k4 a m).1,(k4 a m).2.imp (inO ⟨_,A',k1,k2,m⟩) λz=>⟨own ⟨_,A',k1,k2,m⟩ z.1,by
    obtain⟨y1,p3,y2,y3⟩:=z;cases y2;exact⟨p,rfl,inO ⟨_,A',k1,k2,q2⟩ y3⟩⟩⟩⟩
 dis:=I.dis
end
def eItU (j n:Nat):ME:=λρ=>match ρ[j]? with
 |some (.tre (.tup cs))=>match cs[n]? with
  |some (.d y)=>some (y,ρ)
  |_=>none
 |_=>none
abbrev MXG:=R->AB (Str×R)
def tIsB (j:Nat):MT:=λρ=>match ρ[j]? with
 |some (.val d)=>some (Nt d,ρ)
 |some (.tre t)=>if t.bk.isSome then some (false,ρ)else none
 |_=>none
end M
namespace M
open L2 PySem PySem.Spec
open PyProof.Rows hiding St
open Builtin Builtin.Str
def sIx (x:Str)(i:Int):AB Str:=(atI x.cps.toList i).map λc=>⟨#[c]⟩
def tS (i:Int):Str:=Str.ofString (toString i)
end M
namespace M
open L2 PySem PySem.Spec
open PyProof.Rows hiding St
variable {ks:AA Int}{k j i:Nat}{v:V}{u oc:AC}{tg e:AI}{X:Cx}{l C p:AD}{m:MO}{pl:Sem Bool}{s:Sl}{xs ys:AA V}{ds:AA D}{vs:AA (Str×V)}{o:Obj}{c x:Str}{ns:AA Str}{ls:AA (AA D)}{dk:AA Int×AA D}{q:Str×AA Str×AA (AA D)×AB (AA Int×AA D)}{osl:Array (AB AC)}
section
variable {P:AJ}{w:World}{H G:Hp}{h:AK}{a:AD}{o:Obj}{zs:AA (Int×Tok×AC)}{ks:AA Int}{ys:AA (L2.cP×V)}
def enK (z:Int×Tok×AC):DictEntry:=⟨hashInt z.1,.int z.1 z.2.1,z.2.2⟩
def vsK (zs:AA (Int×Tok×AC)):AA (L2.cP×AC):=zs.map λz=>(kI z.1,z.2.2)
def qJ (z:Int×Tok×AC):(kD P w).is (kI z.1) (enK z).key=true:=Uu (k:=kI z.1) ⟨z.2.1,rfl⟩
def zkz:∀zs:AA (Int×Tok×AC),Pairs (kD P w) (zs.map enK) (vsK zs)
 |[]=> .nil
 |z::zs=> .cons (qJ z) rfl (zkz zs)
def zmI (zs:AA (Int×Tok×AC)):(vsK zs).map (·.1)=(zs.map (·.1)).map kI:=by
 unfold vsK;rw[gC,gC];rfl
def sP (h:ks.Nodup):(ks.map kI).Nodup:=by
 induction ks with
 |nil=>exact List.nodup_nil
 |cons k ks ih=>
  rw[qaZ]at h;rw[eV,qaZ];refine⟨λm=>?_,ih h.2⟩;obtain⟨j,hj,e⟩:=qb0.mp m;cases Ey _ _ e;exact h.1 hj
def zmj:∀{as bs:AA Int},as.map kI=bs.map kI->as=bs
 |[],[],_=>rfl
 |[],_::_,h=>by cases h
 |_::_,[],h=>by cases h
 |a::as,b::bs,h=>by
  have e:=List.cons.inj h;rw[Ey _ _ e.1,zmj e.2]
def DkN.kvs (d:DkN a o zs ks ys):KV ys (vsK zs):=by
 have h:=d.kv;unfold vsK
 generalize zs=zs at h
 generalize ys=ys at h
 induction h with
 |nil=>exact .nil
 | @cons p q ps qs e _ ih=>exact .cons ⟨e.1,e.2⟩ ih
def DkN.of (d:DkN a o zs ks ys)(g:h.get? a=some o):h.DictOf (kD P w) a (vsK zs):=by
 obtain⟨es,ep,h1,h2⟩:=d.dat;refine⟨o,es,ep,g,d.ex,h1,λe m=>?_,?_,?_⟩
 ·have m':e∈es.toList:=qaP.mpr m;rw[h2]at m';obtain⟨z,hz,e1⟩:=qb0.mp m';subst e1;exact⟨kI z.1,qJ z,rfl⟩
 ·rw[h2];exact zkz zs
 ·rw[zmI,d.zk];exact sP d.nd
def Dp:∀{es:AA DictEntry} {kvs:AA (L2.cP×AC)},Pairs (kD P w) es kvs->(∀e∈es,∃k,(kD P w).is k e.key=true/\e.hash=(kD P w).hash k)->(∀q∈kvs,∃n,q.1=kI n)->∃zs,es=zs.map enK/\kvs=vsK zs
 |_,_,.nil,_,_=>⟨[],rfl,rfl⟩
 |_,_,@Pairs.cons _ _ _ _ _ e kv es kvs h1 h2 ht,hk,hn=>by
  obtain⟨zs,e1,e2⟩:=Dp ht (λx m=>hk x (gE _ m)) λx m=>hn x (gE _ m)
  obtain⟨n,hn9⟩:=hn kv iW;obtain⟨k,q1,q2⟩:=hk e iW;rw[hn9]at h1;obtain rfl:k=kI n:=(kD P w).inj _ _ _ q1 h1;rcases tM (k:=kI n) (v:=e.key) h1 with⟨i,t,z1,z2⟩|⟨x,t,z1,z2⟩
  ·obtain⟨eh,ek,ev⟩:=e;obtain⟨kk,vv⟩:=kv;have z1:n=i:=by unfold kI at z1;exact Sum.inl.inj z1
   subst z1;dsimp only at h2 hn9 z2 q2;subst h2 hn9 z2 q2;exact⟨(n,t,ev)::zs,by rw[e1];rfl,by rw[e2];rfl⟩
  ·exact nomatch (show(Sum.inl n:L2.cP)=Sum.inr x from z1)
def DkN.put {k:Int}(d:DkN a o zs ks ys)(hl:ks.length<sizeLine)(rv:RelV v u)(dd:h.DictOf (kD P w) a (stored (vsK zs) (kI k) u))(ds:AA D)(dv:D):∃o' zs',h.get? a=some o'/\DkN a o' zs' (gJ ks ds k dv).1 (eL ys (kI k) v):=by
 obtain⟨o',es,ep,h1,h2,h3,h4,h5,h6⟩:=dd;have kv:=d.kvs.put (kI k) rv;have key:(eL ys (kI k) v).map (·.1)=((gJ ks ds k dv).1).map kI:=by
  unfold eL gJ;have any:(ys.any λkv=>decide (kv.1=kI k))=ks.contains k:=by
   have e:=d.key
   generalize ys=ys at e
   generalize ks=ks at e
   induction ys generalizing ks with
   |nil=>cases ks with
    |nil=>rfl
    |cons _ _=>cases e
   |cons y ys ih=>cases ks with
    |nil=>cases e
    |cons j ks=>
     have e2:=List.cons.inj e;rw[uA,ih ks e2.2,Dj];congr 1
     by_cases q:k=j
     ·subst q;simp[e2.1]
     ·rw[gQ (λz=>q (Ey _ _ (e2.1.symm.trans z)).symm)];simp[q]
  rw[any]
  split
  ·rw[<-d.key,gC];refine qcq λp _=>?_
   show(if p.1=kI k then(p.1,v)else p).1=p.1
   split<;>rfl
  ·rw[kQ,kQ,d.key];rfl
 have ik:∀q∈stored (vsK zs) (kI k) u,∃n,q.1=kI n:=λq m=>by
  have m1:q.1∈(stored (vsK zs) (kI k) u).map (·.1):=qb0.mpr ⟨q,m,rfl⟩
  rw[<-KV.keys kv,key]at m1;obtain⟨n,_,e⟩:=qb0.mp m1;exact⟨n,e.symm⟩
 obtain⟨zs',e1,e2⟩:=Dp h5 (λe m=>h4 e (qaP.mp m)) ik;rw[e2]at kv h6;have zk:zs'.map (·.1)=(gJ ks ds k dv).1:=by
  apply zmj;rw[<-zmI,<-KV.keys kv,key]
 refine⟨o',zs',h1,d.sys,h2,⟨es,ep,h3,e1⟩,?_,?_,zk,key,?_⟩
 ·have:((gJ ks ds k dv).1).Nodup:=by
   unfold gJ
   split
   ·exact d.nd
   ·rename_i c;rw[Qf];refine⟨d.nd,by simp,λx hx y hy z=>c ?_⟩;have:y=k:= ~~~hy
    subst this;subst z;exact qcL.mpr hx
  exact this
 ·have l1:=zlv ys (kI k) v;have l2:ys.length=ks.length:=by have:=congrArg List.length d.key;simpa using this
  lia
 ·unfold vsK at kv
  generalize eL ys (kI k) v=yy at kv
  clear zk e1 e2 h6 key
  induction zs' generalizing yy with
  |nil=>cases kv;exact .nil
  |cons z zs' ih=>
   cases kv with
   |cons r t=>exact .cons ⟨r.1,r.2⟩ (ih _ t)
def Itn (d:AD)(o:Obj)(ks:AA Int):It:=
 ⟨λi H=>H d=some (kn d o)/\i<ks.length,λi H x H'=>H'=H/\∃k,ks[i]? =some k/\x= .int k,λi H=>H d=some (kn d o)/\ks.length<=i⟩
theorem znb {K:AF}(d it:AD)(dn:DkN d o zs ks ys):Turn P w K tg (Itn d o ks) [it] it (λi h=>∃es ep,o.data= .dict es ep/\h.IsKeyIter it d i ks.length ep) where
 mem:=by simp
 obj:=λi h ⟨es,ep,_,st⟩ b hb=>by
  have e:b=it:= ~~~hb
  subst e;obtain⟨o,e,c,d⟩:=st;exact⟨o,e,λv z=>by rw[d]at z;cases z⟩
 keep:=λi h h' ⟨es,ep,q,st⟩ k=>⟨es,ep,q,st.at λo e=>k it (by simp) o e⟩
 item:=by
  intro X hP hw hK hc i AM s σ H E I hf ⟨es,ep,q,st⟩ hg;subst hP hw hK;have g:=Hm I.hok hg.1;obtain⟨es',ep',h2,he⟩:=dn.dat;rw[h2]at q;cases q;have hz:es.size=ks.length:=by have h1:=congrArg List.length he;have h2:=congrArg List.length dn.zk;simp at h1 h2;lia
  obtain⟨f0,f1,f2,f3,f4,f5⟩:=hf it (by simp);have hi:i<es.size:=by rw[hz];exact hg.2
  rw[<-hz]at st;refine sG st g h2 hi λh' st' sb=>?_
  have I1:Inv X AM σ H {s with heap:=h'}:=I.turned (t':=s.toks) (λb o hb e=>(sb.2 b hb).trans e) f0 f1 f3 f4 f5;obtain⟨o',e,c,d'⟩:=id st';have hx:zs[i]? =some (zs[i]'(by have:=congrArg List.length dn.zk;simp at this;lia)):=bA _
  generalize zs[i]'_=z at hx
  have hk:ks[i]? =some z.1:=by rw[<-dn.zk,cR,hx];rfl
  have key:es[i].key= .int z.1 z.2.1:=by
   have h1:es.toList[i]? =some es[i]:=by simp[hi]
   rw[he,cR,hx]at h1;rw[<-Option.some.inj h1]
  rw[key];exact⟨_,rfl,kA (s:={s with heap:=h'}) e c d' (by decide) ⟨.int z.1,H,I1,⟨_,rfl⟩,⟨rfl,_,hk,rfl⟩,⟨es,ep,h2,by rw[<-hz];exact st'⟩,λb hb=>(hf b hb).1⟩⟩
 done:=by
  intro X hP hw hK hc i AM s σ H E I hf ⟨es,ep,q,st⟩ hg;subst hP hw hK;have g:=Hm I.hok hg.1;obtain⟨es',ep',h2,he⟩:=dn.dat;rw[h2]at q;cases q;have hz:es.size=ks.length:=by have h1:=congrArg List.length he;have h2:=congrArg List.length dn.zk;simp at h1 h2;lia
  obtain⟨f0,f1,f2,f3,f4,f5⟩:=hf it (by simp);rw[<-hz]at st;exact xV (I.ok.hd hc) st g h2 (by rw[hz];exact hg.2) λh' eb=>⟨rfl,I.turned (t':=s.toks) (λb o hb e=>eb b o hb e) f0 f1 f3 f4 f5⟩
 self:=λ_ _ _ _ _ ⟨_,_,_,st⟩ h=>wpAny_pyIter_keyiter st h
def iKnN (tl:TE):TI:=λσ H R=>tl σ H λx H1=>∃d o zs ks ys,x= .ref d/\H1 d=some (kn d o)/\DkN d o zs ks ys/\R (Itn d o ks) H1
theorem Uq {tg l:AI}{tl:TE}(hl:PE X l tl):PI X tg l (iKnN tl):=by
 intro AM s σ H R I h;refine aS (hl AM s σ H _ I h) λv s1 ⟨x,H1,I1,r1,q1⟩=>?_
 obtain⟨d,o,zs,ks,ys,e,hd,dn,q⟩:=q1;subst e;cases r1;have g:=Hm I1.hok hd;obtain⟨es,ep,h2,he⟩:=dn.dat;have hz:es.size=ks.length:=by have h1:=congrArg List.length he;have h2:=congrArg List.length dn.zk;simp at h1 h2;lia
 refine sX dn.sys g dn.ex h2 ?_;refine⟨s1⁻¹,[s1⁻¹],_,_,H1,rfl,I1.kept (t':=s1.toks) λb o e=>bP _ e,znb d _ dn,⟨es,ep,h2,_,dO _ rfl,rfl,by rw[hz];rfl⟩,λb hb=>?_,q⟩;have e:b=s1⁻¹:= ~~~hb
 subst e;exact I1.fpOk (aY _) (I1.hok.fresh (aY _))
end
def DkG (H:Hp)(x y:V)(r:AB V):Prop:=∃(a:AD) (o:Obj) (zs:AA (Int×Tok×AC)) (ks:AA Int) (ys:AA (L2.cP×V)) (k:Int),x= .ref a/\y= .int k/\H a=some (kn a o)/\DkN a o zs ks ys/\r=eK ys (kI k)
section
variable {X:Cx}{e i value:AI}{td ty tv:TE}{pos pos':Pos}
def tDGN (td ty:TE):TE:=λσ H Q=>td σ H λx H1=>ty σ H1 λy H2=>∃v,DkG H2 x y (some v)/\Q v H2
def qC (ho:PE X e td)(hi:PE X i ty)(hs:Fu i):PE X (.Subscript e i pos) (tDGN td ty):=by
 intro AM s σ H Q I h;refine uT PySem.F.slot_dict_getitem.lookup hs (aS (ho AM s σ H _ I h) λu s1 ⟨x,H1,I1,rx,q1⟩=>aS (hi AM s1 σ H1 _ I1 q1) λiv s2 ⟨y,H2,I2,ry,v,g,q2⟩=>?_);obtain⟨a,o,zs,ks,ys,k,rfl,rfl,g1,g2,g4⟩:=g;obtain rfl:u=Value.ref a:=rx;have dd:=g2.of (P:=X.prog) (w:=X.w) (Hm I2.hok g1);obtain⟨w',hw,rw'⟩:=RelO.some_of (v:=v) (o:=valueAt (vsK zs) (kI k)) (by rw[g4];exact g2.kvs.val (kI k));exact⟨dd.typeIs,wpAny_getItem_of (Uu (k:=kI k) ry) dd.mapOf hw ⟨v,H2,I2.tok _,rw',q2⟩⟩
def Td (neg:Bool)(ty td:TE):TE:=λσ H Q=>ty σ H λy H1=>td σ H1 λx H2=>∃r,DkG H2 x y r/\Q (.bl (r.isSome !=neg)) H2
def vL (hi:PE X i ty)(ho:PE X e td):PC X .In i e (Td false ty td):=by
 intro AM s σ H Q I h;refine aS (hi AM s σ H _ I h) λiv s1 ⟨y,H1,I1,ry,q1⟩=>aS (ho AM s1 σ H1 _ I1 q1) λu s2 ⟨x,H2,I2,rx,r,g,q2⟩=>?_
 obtain⟨a,o,zs,ks,ys,k,rfl,rfl,g1,g2,g4⟩:=g;obtain rfl:u=Value.ref a:=rx;have dd:=g2.of (P:=X.prog) (w:=X.w) (Hm I2.hok g1);refine wpAny_in_of (Uu (k:=kI k) ry) g2.sys dd.mapOf ?_;have q:=(g2.kvs.val (kI k)).isSome_eq;rw[<-q,<-g4];have z:(r.isSome !=false)=r.isSome:=by cases r.isSome<;>rfl
 rw[z]at q2;exact⟨.bl r.isSome,H2,I2.tok _,rfl,q2⟩
def zmY (hi:PE X i ty)(ho:PE X e td):PC X .NotIn i e (Td true ty td):=by
 intro AM s σ H Q I h;refine aS (hi AM s σ H _ I h) λiv s1 ⟨y,H1,I1,ry,q1⟩=>aS (ho AM s1 σ H1 _ I1 q1) λu s2 ⟨x,H2,I2,rx,r,g,q2⟩=>?_
 obtain⟨a,o,zs,ks,ys,k,rfl,rfl,g1,g2,g4⟩:=g;obtain rfl:u=Value.ref a:=rx;have dd:=g2.of (P:=X.prog) (w:=X.w) (Hm I2.hok g1);refine wpAny_notIn_of (Uu (k:=kI k) ry) g2.sys dd.mapOf ?_;have q:=(g2.kvs.val (kI k)).isSome_eq;rw[<-q,<-g4];have z:(r.isSome !=true)=!r.isSome:=by cases r.isSome<;>rfl
 rw[z]at q2;exact⟨.bl (!r.isSome),H2,I2.tok _,rfl,q2⟩
def sDPN (td ty tv:TE):TS:=λD σ H=>tv σ H λv H1=>td σ H1 λx H2=>ty σ H2 λy H3=>∃(a:AD) (o:Obj) (zs:AA (Int×Tok×AC)) (ks:AA Int) (ys:AA (L2.cP×V)) (k:Int),x= .ref a/\y= .int k/\H3 a=some (kn a o)/\DkN a o zs ks ys/\ks.length<sizeLine/\∀o' zs' ks' ys',(∀ds dv,ks'=(gJ ks ds k dv).1)->ys'=eL ys (kI k) v->DkN a o' zs' ks' ys'->D.nx σ (upd H3 a (kn a o'))
def wD {J:Type}[DecidableEq J](ks:AA J)(ds es:AA D)(j:J)(d e:D):(gJ ks ds j d).1=(gJ ks es j e).1:=by unfold gJ;split<;>rfl
def nE (ho:PE X e td)(hi:PE X i ty)(hv:PE X value tv)(hs:swapsWith value (some (.Subscript e i pos')) pos.line X.env=pure false):
  PS X (.Assign [.Subscript e i pos'] value pos) (sDPN td ty tv):=by
 intro AM s σ H D I h;refine wpAny_Assign_Subscript (aS (hv AM s σ H _ I h) λr s1 ⟨v,H1,I1,rv,q1⟩=>aS (ho AM s1 σ H1 _ I1 q1) λu s2 ⟨x,H2,I2,rx,q2⟩=>aS (hi AM s2 σ H2 _ I2 q2) λiv s3 ⟨y,H3,I3,ry,a,o,zs,ks,ys,k,e1,e2,g1,g2,hl,q3⟩=>?_) hs;subst e1 e2;obtain rfl:u=Value.ref a:=rx;have hz:(vsK zs).length<=sizeLine:=by rw[<-g2.kvs.length];exact g2.len
 refine wpAny_setItem_pairs (hsz:=hz) (Uu (k:=kI k) ry) (g2.of (Hm I3.hok g1)) λh' dd' hs=>?_
 obtain⟨o',zs',go,dn⟩:=g2.put hl rv dd' [] .non;exact⟨σ,_,wW I3 (by rw[g1];exact True.intro) hs ⟨o',go⟩ (Ct go),q3 o' zs' _ _ (λds dv=>wD _ _ _ _ _ _) rfl dn⟩
def Kz:TE:=λ_ H Q=>∀p o,H p=none->DkN p o [] [] []->Q (.ref p) (upd H p (kn p o))
def mM:PE X (.Dict [] [] pos) Kz:=λAM s σ H Q I h=>
 wpAny_Dict_empty ⟨.ref s⁻¹,_,I.laid (a:=s⁻¹) (o:=kn s⁻¹ {cls:= .type "dict",data:= .dict #[]}) (t':=s.toks) (λ_ _ q=>bP _ q) (aY _) (Ct (dO _ rfl)),rfl,h _ _ (I.hok.fresh (aY _)) ⟨qab.mpr (Ne.symm (eT I.big)),⟨rfl,rfl,rfl⟩,⟨#[],0,rfl,rfl⟩,List.nodup_nil,gK _,rfl,rfl,.nil⟩⟩
end
def OC (K:AF)(c:Str)(ns:AA Str):Prop:=∃C,W.nsIn K AL c=some (some (.ref C))/\Cls K C/\∀f∈ns,NoAttr K C f
def Wa:∀{vs:AA (Str×V)} {ns:AA Str} {k:Nat} {f:Str} {v:V},vs.map (·.1)=ns->ns[k]? =some f->(ns.take k).contains f=false->(vs.map (·.2))[k]? =some v->vs.lookup f=some v
 |[],_,_,_,_,e,h,_,_=>by subst e;simp at h
 |(g,u)::vs,_,0,f,v,e,h,_,q=>by
  subst e;simp at h q;subst h q;simp[List.lookup]
 |(g,u)::vs,_,k+1,f,v,e,h,n,q=>by
  subst e;rw[eV,qcr,Dj,qcM]at n;have:=Wa (vs:=vs) rfl (~~~h) n.2 (~~~q);simp only[List.lookup,n.1,this]
def zgi:∀{vs:AA (Str×V)} {f:Str},(vs.map (·.1)).contains f=false->vs.lookup f=none
 |[],_,_=>rfl
 |(g,u)::vs,f,n=>by
  rw[eV,Dj,qcM]at n;simp only[List.lookup,n.1,zgi n.2]
def eH (c:Str)(ns:AA Str)(k:Nat):D->AB D
 | .obj c' ns' ls _ _=>if c'=c/\ns'=ns then ls[k]? else none
 |_=>none
abbrev MK:=R->AB ((AA Int×AA D)×R)
def Xo (X:Cx)(e:AI)(m:MK)(t:TE):Prop:=∀B G H σ ρ q ρ' (Q:VK),SI X.K B G H σ ρ->m ρ=some (q,ρ')->(∀G' H' p o zs ys,SI X.K B G' H' σ ρ'->Fz G G'->G' p=some (kn p o)->DkN p o zs q.1 ys->RepL X.K G' (ys.map (·.2)) q.2->Q (.ref p) H')->t σ H Q
def SDk (X:Cx)(e:AI)(m:MK):Prop:=∃t,PE X e t/\Xo X e m t
def SDk.el {m:MK}{C:Prop}(h:SDk X e m)(k:∀t,PE X e t->Xo X e m t->C):C:=h.elim λt q=>k t q.1 q.2
def Ec (c:Str)(ns:AA Str)(me:ME):MK:=λρ=>(me ρ).bind λp=>match p.1 with
 | .obj c' ns' _ ks ds=>if c'=c/\ns'=ns then some ((ks,ds),p.2)else none
 |_=>none
def Vd (md:MK)(mi:ME):ME:=λρ=>(md ρ).bind λp=>(mi p.2).bind λq=>match q.1 with
 | .int k=>(iU p.1.1 p.1.2 k).map λd=>(d,q.2)
 |_=>none
def Qv (neg:Bool)(mi:ME)(md:MK):MT:=λρ=>(mi ρ).bind λp=>(md p.2).bind λq=>match p.1 with
 | .int k=>some (((iU q.1.1 q.1.2 k).isSome !=neg),q.2)
 |_=>none
def iKN (md:MK):MA:=λρ=>(md ρ).map λp=>(p.1.1.map .int,p.2)
structure MV (P:Program)(w:World)(K:W.Frag)(mg:Str->Option Value)(base:Heap)(k:Nat)(c m:Str)(sp:Sp):Prop where
 ex:∃C f fd ps,W.nsIn K mainGlobals c=some (some (.ref C))/\Cls K C/\Meth K C m f/\FnOk P w K mg base gX k f fd ps sp/\Binds K fd ps []
def lI (F:AA D->AB Sl)(c:Str)(ns:AA Str)(mo:ME)(ma:MA):ME:=λρ=>(mo ρ).bind λp=>match p.1 with
 | .obj c' ns' ls ks ds=>if c'=c/\ns'=ns then(ma p.2).bind λq=>(F (.obj c' ns' ls ks ds::q.1)).bind λr=>match r with
  | .val d=>some (d,q.2)
  | .own ds=>some (.lst ds,q.2)
  |_=>none else none
 |_=>none
section
variable {X:Cx}{c f mt:Str}{ns:AA Str}{e i a:AI}{es:AA AI}{me mi mo:ME}{ma:MA}{md:MK}{p pos pos' ap:Pos}{k k' n:Nat}{F:AA D->AB Sl}{tg:AI}
def fO (k:Nat)(oc:OC X.K c ns)(he:SE X e me)(hk:ns[k]? =some f:=by rfl)(hn:(ns.take k).contains f=false:=by decide+kernel)(hb:attributeBase e f X.env (eval e X.env)=eval e X.env:=by rfl):SE X (.Attribute e f pos) (m1 (eH c ns k) me):=by
 obtain⟨C,c1,c2,c3⟩:=oc;refine he.el λt pe se=>?_
 refine⟨_,Zi pe hb,λB G H σ ρ d ρ' Q I hm kk=>?_⟩;refine aZ hm λo ρ1 e1 hm'=>?_
 clear hm;have hm:=hm';clear hm';try dsimp only at hm
 refine bB hm λd' e2 e3=>?_
 cases e3;refine se B G H σ ρ o _ _ I e1 λG1 H1 v I1 f1 r1=>?_
 cases o<;>try exact aG e2
 rename_i c' ns' ls ks ds;unfold eH at e2;dsimp only at e2
 split at e2
 ·rename_i h;exists h;obtain⟨a,C2,dx,vs,ws,q,o,zs,ys,rfl,h1,h2,h3,h4,h5,h6,h7,h8⟩:=r1;rw[c1]at h1;cases h1;obtain⟨x,g1,g2⟩:=h5.get e2;refine⟨a,C,dx,vs,x,rfl,I1.fz _ _ h2,c2,c3 f (dY hk),Wa h3 hk hn ?_,kk G1 H1 x I1 f1 g2⟩;rw[h4,fT (qat.mp g1).1,g1]
 ·exact aG e2
def Pk (k:Nat)(oc:OC X.K c ns)(he:SE X e me)(hk:ns[k]? =some f:=by rfl)(hl:k+1=ns.length:=by rfl)(hn:(ns.take k).contains f=false:=by decide+kernel)(hb:attributeBase e f X.env (eval e X.env)=eval e X.env:=by rfl):SDk X (.Attribute e f pos) (Ec c ns me):=by
 obtain⟨C,c1,c2,c3⟩:=oc;refine he.el λt pe se=>?_
 refine⟨_,Zi pe hb,λB G H σ ρ d ρ' Q I hm kk=>?_⟩;refine aZ hm λo ρ1 e1 hm'=>?_
 clear hm;have hm:=hm';clear hm';try dsimp only at hm
 try dsimp only at hm
 refine se B G H σ ρ o ρ1 _ I e1 λG1 H1 v I1 f1 r1=>?_
 cases o<;>try exact aG hm
 rename_i c' ns' ls ks ds;dsimp only at hm
 split at hm
 ·rename_i h;exists h;cases hm;obtain⟨a,C2,dx,vs,ws,q,o,zs,ys,rfl,h1,h2,h3,h4,h5,h6,h7,h8⟩:=r1;rw[c1]at h1;cases h1;refine⟨a,C,dx,vs,.ref q,rfl,I1.fz _ _ h2,c2,c3 f (dY hk),Wa h3 hk hn ?_,kk G1 H1 q o zs ys I1 f1 h6 h7 h8⟩;have l1:=congrArg List.length h3;have l2:=congrArg List.length h4;simp at l1 l2;rw[h4,show k=ws.length by lia];simp
 ·exact aG hm
def zjQ (hd:SDk X e md)(hi:SE X i mi)(hs:Fu i:=by exactλ_ _=>rfl):SE X (.Subscript e i pos) (Vd md mi):=by
  refine hd.el λt pd sd=>?_
  refine hi.el λu pi si=>?_
  refine⟨_,qC pd pi hs,λB G H σ ρ d ρ' Q I hm kk=>?_⟩;refine aZ hm λq ρ1 e1 hm'=>?_
  clear hm;have hm:=hm';clear hm';try dsimp only at hm
  refine aZ hm λy ρ2 e2 hm'=>?_
  clear hm;have hm:=hm';clear hm';try dsimp only at hm
  refine sd B G H σ ρ q ρ1 _ I e1 λG1 H1 p o zs ys I1 f1 g1 g2 g3=>si B G1 H1 σ ρ1 y ρ2 _ I1 e2 λG2 H2 v I2 f2 r2=>?_
  cases y<;>try exact aG hm
  rename_i n;refine bB hm λd' e3 e4=>?_
  cases e4;obtain⟨w,h1,h2⟩:=zlm Ey g2.key (g3.mono f2) e3;exact⟨w,⟨p,o,zs,q.1,ys,n,rfl,r2,I2.fz _ _ (f2 _ _ g1),g2,h1.symm⟩,kk G2 H2 w I2 (f1.trans f2) h2⟩
def wV (hi:SE X i mi)(hd:SDk X e md)(hm:behindInMarks .In e=false:=by rfl):STt X (.Compare i [.In] [e] pos) (Qv false mi md):=by
 refine hd.el λt pd sd=>?_
 refine hi.el λu pi si=>?_
 refine⟨_,mD (vL pi pd) hm,λB G H σ ρ b ρ' Q I hm kk=>?_⟩;refine aZ hm λy ρ1 e1 hm'=>?_
 clear hm;have hm:=hm';clear hm';try dsimp only at hm
 refine aZ hm λq ρ2 e2 hm'=>?_
 clear hm;have hm:=hm';clear hm';try dsimp only at hm
 refine si B G H σ ρ y ρ1 _ I e1 λG1 H1 v I1 f1 r1=>sd B G1 H1 σ ρ1 q ρ2 _ I1 e2 λG2 H2 p o zs ys I2 f2 g1 g2 g3=>?_
 cases y<;>try cases hm
 rename_i n;refine⟨eK ys (kI n),⟨p,o,zs,q.1,ys,n,rfl,r1,I2.fz _ _ g1,g2,rfl⟩,_,rfl,?_⟩;rw[zkK Ey g2.key g3];exact kk G2 H2 I2 (f1.trans f2)
def zm4 (hi:SE X i mi)(hd:SDk X e md)(hm:behindInMarks .NotIn e=false:=by rfl):STt X (.Compare i [.NotIn] [e] pos) (Qv true mi md):=by
 refine hd.el λt pd sd=>?_
 refine hi.el λu pi si=>?_
 refine⟨_,mD (zmY pi pd) hm,λB G H σ ρ b ρ' Q I hm kk=>?_⟩;refine aZ hm λy ρ1 e1 hm'=>?_
 clear hm;have hm:=hm';clear hm';try dsimp only at hm
 refine aZ hm λq ρ2 e2 hm'=>?_
 clear hm;have hm:=hm';clear hm';try dsimp only at hm
 refine si B G H σ ρ y ρ1 _ I e1 λG1 H1 v I1 f1 r1=>sd B G1 H1 σ ρ1 q ρ2 _ I1 e2 λG2 H2 p o zs ys I2 f2 g1 g2 g3=>?_
 cases y<;>try cases hm
 rename_i n;refine⟨eK ys (kI n),⟨p,o,zs,q.1,ys,n,rfl,r1,I2.fz _ _ g1,g2,rfl⟩,_,rfl,?_⟩;rw[zkK Ey g2.key g3];exact kk G2 H2 I2 (f1.trans f2)
def Vl (hd:SDk X e md):SIt X tg e (iKN md):=by
 refine hd.el λt pd sd=>?_
 refine⟨_,Uq pd,λB G H σ ρ ds ρ' Q I hm kk=>?_⟩;refine iM hm λq ρ1 e1 hm'=>?_
 clear hm;have hm:=hm';clear hm';try dsimp only at hm
 cases hm;refine sd B G H σ ρ q _ _ I e1 λG1 H1 p o zs ys I1 f1 g1 g2 g3=>⟨p,o,zs,q.1,ys,rfl,I1.fz _ _ g1,g2,?_⟩
 refine kk _ _ _ I1 f1 ⟨λH' i f hi=>⟨f _ _ g1,~~~hi⟩,λH' i x H'' f y d ed=>?_,λH' i f hi=>⟨f _ _ g1,~~~hi⟩⟩;obtain⟨rfl,y,ey,rfl⟩:=y;refine .inl ⟨rfl,?_⟩;rw[cR,ey]at ed;cases ed
 rfl
def rM (hc:ns.contains mt=false)(md:MV X.prog X.w X.K X.mg X.base k c mt (aX X.K n F))(hr:Room k' X.A)(he:SE X e mo)(ha:SA X (a::es) ma)(hn:(a::es).length+1=n:=by rfl)(hk:k<=k':=by decide)(hst:starEach (a::es) X.env=(false,eval a X.env)::starEach es X.env:=by rfl)(hpl:(backTo pos (starEach es X.env)).any (·.1)=false:=by rfl)(AO:∀ρ as ρ',ma ρ=some (as,ρ')->as.length+1=n)(ht : eval (.Call (.Attribute e mt ap) (a :: es) [] pos) X.env = (do
   let ov<-eval e X.env
   standAt ap.atName
   let(f,first)<-holding [ov] (getMethod ov mt pl)
   callWith pos f first (backTo pos (starEach (a::es) X.env)) (backToKw pos (keywordEach [] X.env))):=by rfl):SE X (.Call (.Attribute e mt ap) (a::es) [] pos) (lI F c ns mo ma):=by
 obtain⟨C,f,fdd,ps,c1,c2,c3,c4,c5⟩:=md.ex;refine ha.el λt pa sa=>?_
 refine he.el λu pe se=>?_
 refine⟨_,zoZ pe c2 c3 (c4) (hr.mono hk) c5 .nil tW pa hst hpl ht,λB G H σ ρ d ρ' Q I hm kk=>?_⟩;refine aZ hm λo ρ1 e1 hm'=>?_
 clear hm;have hm:=hm';clear hm';try dsimp only at hm
 refine se B G H σ ρ o ρ1 _ I e1 λG1 H1 v I1 f1 r1=>?_
 cases o<;>try exact aG hm
 rename_i c' ns' ls ks ds;dsimp only at hm
 split at hm
 ·rename_i h;exists h;have r1':=r1;obtain⟨q,C2,dx,vs,ws,p2,o,zs,ys,rfl,h1,h2,h3,h4⟩:=r1;rw[c1]at h1;cases h1;obtain⟨⟨as,ρ2⟩,e2,hm'⟩:=uF hm;clear hm;have hm:=hm';clear hm';try dsimp only at hm
  refine aP hm λr e3 hm'=>?_
  clear hm;have hm:=hm';clear hm';try dsimp only at hm
  refine⟨q,dx,vs,rfl,I1.fz _ _ h2,zgi (by rw[h3];exact hc),sa B G1 H1 σ ρ1 as ρ2 _ I1 e2 λG2 H2 us I2 f2 r2=>?_⟩;rw[qO];refine⟨G2,_::as,r,e3,by rw[eS];exact AO _ _ _ e2,I2.fz,.cons (r1'.mono f2) r2,λG3 H3 v f3 fz3 nw kp rr=>?_⟩;have I3:=I2.grow f3 fz3 nw kp;cases r with
  |val d'=>exists bM hm;exact kk G3 H3 v I3 (f1.trans (f2.trans f3)) rr
  |own ds=>
   exists bM hm;obtain⟨l,xs,rfl,g3,h3,r3,b3⟩:=rr;obtain⟨I4,f4,r4⟩:=Gh I3 g3 h3 r3 (I2.there l b3) (I2.own_ne b3 nw kp);exact kk _ H3 _ I4 (f1.trans (f2.trans (f3.trans f4))) r4
  |emp=>exact aG hm
  |two _ _=>exact aG hm
  |tre _=>exact aG hm
  |ptr _=>exact aG hm
  |par _=>exact aG hm
 ·exact aG hm
def Pi (hc:ns.contains mt=false)(md:MV X.prog X.w X.K X.mg X.base k c mt (aX X.K 1 F))(hr:Room k' X.A)(he:SE X e mo)(hk:k<=k':=by decide)(ht : eval (.Call (.Attribute e mt ap) [] [] pos) X.env = (do
   let ov<-eval e X.env
   standAt ap.atName
   let(f,first)<-holding [ov] (getMethod ov mt pl)
   callWith pos f first (backTo pos (starEach [] X.env)) (backToKw pos (keywordEach [] X.env))):=by rfl):SE X (.Call (.Attribute e mt ap) [] [] pos) (lI F c ns mo aB):=by
 obtain⟨C,f,fdd,ps,c1,c2,c3,c4,c5⟩:=md.ex;refine he.el λu pe se=>?_
 refine⟨_,rH pe c2 c3 c4 (hr.mono hk) c5 .nil tW ht,λB G H σ ρ d ρ' Q I hm kk=>?_⟩;refine aZ hm λo ρ1 e1 hm'=>?_
 clear hm;have hm:=hm';clear hm';try dsimp only at hm
 refine se B G H σ ρ o ρ1 _ I e1 λG1 H1 v I1 f1 r1=>?_
 cases o<;>try exact aG hm
 rename_i c' ns' ls ks ds;dsimp only at hm
 split at hm
 ·rename_i h;exists h;have r1':=r1;obtain⟨q,C2,dx,vs,ws,p2,o,zs,ys,rfl,h1,h2,h3,h4⟩:=r1;rw[c1]at h1;cases h1;obtain⟨⟨as,ρ2⟩,e2,hm'⟩:=uF hm;clear hm;have hm:=hm';clear hm';try dsimp only at hm
  exists bM e2;refine aP hm λr e3 hm'=>?_
  clear hm;have hm:=hm';clear hm';try dsimp only at hm
  refine⟨q,dx,vs,rfl,I1.fz _ _ h2,zgi (by rw[h3];exact hc),?_⟩;refine⟨G1,[_],r,e3,rfl,I1.fz,.cons r1' .nil,λG3 H3 v f3 fz3 nw kp rr=>?_⟩;have I3:=I1.grow f3 fz3 nw kp;cases r with
  |val d'=>exists bM hm;exact kk G3 H3 v I3 (f1.trans f3) rr
  |own ds=>
   exists bM hm;obtain⟨l,xs,rfl,g3,h3,r3,b3⟩:=rr;obtain⟨I4,f4,r4⟩:=Gh I3 g3 h3 r3 (I1.there l b3) (I1.own_ne b3 nw kp);exact kk _ H3 _ I4 (f1.trans (f3.trans f4)) r4
  |emp=>exact aG hm
  |two _ _=>exact aG hm
  |tre _=>exact aG hm
  |ptr _=>exact aG hm
  |par _=>exact aG hm
 ·exact aG hm
end
def Sl.ob:Sl->AB (Str×AA Str×AA (AA D)×AB (AA Int×AA D))
 | .tre (.obj c ns ls dk)=>some (c,ns,ls,dk)
 | .ptr (.obj c ns ls dk)=>some (c,ns,ls,dk)
 |_=>none
structure ObAt (K:W.Frag)(G H:Hp)(p C dx:Addr)(c:Str)(ns:List Str)(ls:List (List D))(dk:Option (List Int×List D))(vs:List (Str×V))(A:List Addr):Prop where
 nc:W.nsIn K mainGlobals c=some (some (.ref C))
 ob:H p=some (.ins C dx vs)
 dx:H dx=some (.own p)
 nm:vs.map (·.1)=ns
 rp:RepO K G H (vs.map (·.2)) ls dk A
section
variable {K:AF}{B:Bs}{G G' H H':Hp}{σ:St}{ρ:R}{p C dx:AD}{c:Str}{ns ns':AA Str}{ls ls':AA (AA D)}{dk dk':AB (AA Int×AA D)}{vs vs':AA (Str×V)}{A A':AA AD}
def ObAt.rep (b:ObAt K G H p C dx c ns ls dk vs A):RepT K G H (.ref p) (.obj c ns ls dk) (p::dx::A):=⟨p,C,dx,vs,A,rfl,b.nc,b.ob,b.dx,b.nm,b.rp,rfl⟩
def mX (r:RepT K G H v (.obj c ns ls dk) A):∃p C dx vs A',v= .ref p/\A=p::dx::A'/\ObAt K G H p C dx c ns ls dk vs A':=by
 obtain⟨p,C,dx,vs,A',h1,h2,h3,h4,h5,h6,h7⟩:=r;exact⟨p,C,dx,vs,A',h1,h7,h2,h3,h4,h5,h6⟩
def Wm (q:s.ob=some (c,ns,ls,dk)):s= .tre (.obj c ns ls dk)\/s= .ptr (.obj c ns ls dk):=by
 cases s with
 |tre t=>cases t<;>cases q;exact .inl rfl
 |ptr t=>cases t<;>cases q;exact .inr rfl
 |_=>exact aG q
def SI.obj (I:SI K B G H σ ρ){s:Sl}(e:ρ[j]? =some s)(q:s.ob=some (c,ns,ls,dk)):∃p C dx vs A,σ[j]? =some (some (.ref p))/\ObAt K G H p C dx c ns ls dk vs A/\(p::dx::A).Nodup/\(∀a,bR K G H σ[j]? a s↔a∈p::dx::A):=by
 have h:=I.slot j s e;have fin:∀{v:V} {A:AA AD},σ[j]? =some (some v)->RepT K G H v (.obj c ns ls dk) A->A.Nodup->(∀a,bR K G H σ[j]? a s↔∃v A,σ[j]? =some (some v)/\RepT K G H v (.obj c ns ls dk) A/\a∈A)->∃p C dx vs A,σ[j]? =some (some (.ref p))/\ObAt K G H p C dx c ns ls dk vs A/\(p::dx::A).Nodup/\(∀a,bR K G H σ[j]? a s↔a∈p::dx::A):=λ{v A} h1 h2 h3 h4=>by
  have h2':=h2;obtain⟨p,C,dx,vs,A',rfl,rfl,b⟩:=mX h2;refine⟨p,C,dx,vs,A',h1,b,h3,λa=>(h4 a).trans ⟨λ⟨v2,A2,k1,k2,k3⟩=>?_,λm=>⟨_,_,h1,h2',m⟩⟩⟩;rw[h1]at k1;cases k1;rwa[h2'.det k2 λ_ _=>rfl]
 rcases Wm q with rfl|rfl
 ·obtain⟨v,A,h1,h2,h3,_⟩:=h;exact fin h1 h2 h3 λa=>Iff.rfl
 ·obtain⟨v,A,h1,h2,h3,_⟩:=h;exact fin h1 h2 h3.1 λa=>Iff.rfl
def SI.chO (I:SI K B G H σ ρ)(e:ρ[j]? =some s)(q:s.ob=some (c,ns,ls,dk))(hp:σ[j]? =some (some (.ref p)))(b:ObAt K G H p C dx c ns ls dk vs A)(nd:(p::dx::A).Nodup)(ow:∀a,bR K G H σ[j]? a s↔a∈p::dx::A)(fz:Fz G H')(kp:∀x o,x∉p::dx::A->H x=some o->H' x=some o)(th:∀x,H' x=none->H x=none)(b':ObAt K G H' p C dx c ns' ls' dk' vs' A')(nd':(p::dx::A').Nodup)(sub:∀a∈A',a∈A\/(G a=none/\B.H a=none/\Nw K G H σ ρ a)):
  SI K B G H' σ (ρ.set j (s.putT (.obj c ns' ls' dk'))):=by
 have sl:=I.slot j s e;have sub2:∀a∈p::dx::A',a∈p::dx::A\/(G a=none/\B.H a=none/\Nw K G H σ ρ a):=λa m=>by
  rcases qaq.mp m with rfl|m
  ·exact .inl (by simp)
  rcases qaq.mp m with rfl|m
  ·exact .inl (by simp)
  ·exact(sub a m).imp (λz=>by simp[z]) id
 have g':∀a∈p::dx::A',G a=none:=λa m=>(sub2 a m).elim (λz=>(sl.own ((ow a).mpr z)).1) λz=>z.1
 have h:=I.chg (i:=j) (ov:=some (.ref p)) (s':=s.putT (.obj c ns' ls' dk')) (G':=G) (H':=H') fz (Fz.refl G) I.new (λx o k1 k2=>kp x o (λm=>?_) (I.keep x o k1 k2)) (λx k=>I.there x (th x k)) (λi t a z ei w g ha=>?_) ?_
 ·rwa[Ee hp]at h
 ·rcases(sl.own ((ow x).mpr m)).2.2 with z|z
  ·rw[k1]at z;cases z
  ·exact k2 j z
 ·have na:a∉p::dx::A:=λm=>I.dis i j t s a z ei e w ((ow a).mpr m)
  obtain⟨x,hx⟩:=qbC.mp ha;refine⟨g,(kp a x na hx).trans hx.symm,λw'=>?_⟩;have:∃v A,some (some (V.ref p))=some (some v)/\RepT K G H' v (.obj c ns' ls' dk') A/\a∈A:=by
   rcases Wm q with rfl|rfl<;>exact w'
  obtain⟨v2,A2,k1,k2,k3⟩:=this;cases k1;rw[<-b'.rep.det k2 λ_ _=>rfl]at k3;rcases sub2 a k3 with y|y
  ·exact na y
  ·exact y.2.2 i t ei w
 ·rcases Wm q with rfl|rfl
  ·obtain⟨v,A0,h1,h2,h3,h4⟩:=sl;rw[hp]at h1;cases h1;have eA:p::dx::A=A0:=b.rep.det h2 λ_ _=>rfl
   subst eA;exact⟨.ref p,_,rfl,b'.rep,nd',λa m=>⟨g' a m,(sub2 a m).elim (λz=>(h4 a z).2) λz=>z.2.1⟩⟩
  ·obtain⟨v,A0,h1,h2,h3,h4⟩:=sl;rw[hp]at h1;cases h1;have eA:p::dx::A=A0:=b.rep.det h2 λ_ _=>rfl
   subst eA;obtain⟨h3,p2,y1,y2,y3⟩:=h3;cases y1;exact⟨.ref p,_,rfl,b'.rep,⟨nd',p,rfl,y2,λ_=>y3 rfl⟩,λa m=>⟨g' a m,(sub2 a m).elim (λz=>(h4 a z).2) λz=> .inr ⟨z.2.1,p,rfl,y3 rfl⟩⟩⟩
def Zj:∀{xs:AA V} {dss:AA (AA D)} {A:AA AD} {k:Nat} {ds:AA D},RepTb K G H xs dss A->dss[k]? =some ds->∃l ys,xs[k]? =some (.ref l)/\A[k]? =some l/\H l=some (.lst ys)/\RepL K G ys ds
 |[],[],_,_,_,_,e=>by simp at e
 |x::xs,d::dss,A,0,ds,⟨r,ys,A2,e1,e2,e3,e4,e5⟩,e=>by
  simp at e;subst e;exact⟨r,ys,by rw[e1];rfl,by rw[e5];rfl,e2,e3⟩
 |x::xs,d::dss,A,k+1,ds,⟨r,ys,A2,e1,e2,e3,e4,e5⟩,e=>by
  obtain⟨l,zs,h1,h2,h3,h4⟩:=Zj (k:=k) e4 (~~~e);exact⟨l,zs,~~~h1,by rw[e5];simpa using h2,h3,h4⟩
 |[],_::_,_,_,_,h,_=>h.elim
 |_::_,[],_,_,_,h,_=>h.elim
def zhK:∀{xs:AA V} {dss:AA (AA D)} {A:AA AD},RepTb K G H xs dss A->xs.length=dss.length/\A.length=dss.length
 |[],[],_,h=>by rw[show _=[]from h];exact⟨rfl,rfl⟩
 |x::xs,d::dss,A,⟨r,ys,A2,e1,e2,e3,e4,e5⟩=>by
  obtain⟨h1,h2⟩:=zhK e4;rw[e5];exact⟨by simp[h1],by simp[h2]⟩
 |[],_::_,_,h=>h.elim
 |_::_,[],_,h=>h.elim
def zic:∀{xs:AA V} {dss:AA (AA D)} {A:AA AD} {k:Nat} {l l':AD} {ys:AA V} {ds:AA D},RepTb K G H xs dss A->A[k]? =some l->Fz G G'->(∀a∈A,a≠l->H' a=H a)->A.Nodup->H' l'=some (.lst ys)->RepL K G' ys ds->RepTb K G' H' (xs.set k (.ref l')) (dss.set k ds) (A.set k l')
 |[],[],_,_,_,_,_,_,h,e,_,_,_,_,_=>by rw[show _=[]from h]at e;simp at e
 |x::xs,d::dss,A,0,l,l',ys,ds,⟨r,zs,A2,e1,e2,e3,e4,e5⟩,e,fg,hh,nd,hl,rr=>by
  subst e5;simp at e;subst e;rw[qaZ]at nd;exact⟨l',ys,A2,rfl,hl,rr,e4.move fg λa m=>hh a (by simp[m]) λz=>nd.1 (z ▸ m),rfl⟩
 |x::xs,d::dss,A,k+1,l,l',ys,ds,⟨r,zs,A2,e1,e2,e3,e4,e5⟩,e,fg,hh,nd,hl,rr=>by
  subst e5;rw[qaZ]at nd;have e':A2[k]? =some l:= ~~~e
  exact⟨r,zs,A2.set k l',e1,by rw[hh r (by simp) λz=>nd.1 (z ▸ dY e')];exact e2,e3.mono fg,zic e4 e' fg (λa m=>hh a (by simp[m])) nd.2 hl rr,rfl⟩
 |[],_::_,_,_,_,_,_,_,h,_,_,_,_,_,_=>h.elim
 |_::_,[],_,_,_,_,_,_,h,_,_,_,_,_,_=>h.elim
def zkY:∀{xs:AA V} {dss:AA (AA D)} {A:AA AD} {l:AD} {ys:AA V} {ds:AA D},RepTb K G H xs dss A->H l=some (.lst ys)->RepL K G ys ds->RepTb K G H (xs++[.ref l]) (dss++[ds]) (A++[l])
 |[],[],_,l,ys,ds,h,h1,h2=>by rw[show _=[]from h];exact⟨l,ys,[],rfl,h1,h2,rfl,rfl⟩
 |x::xs,d::dss,A,l,ys,ds,⟨r,zs,A2,e1,e2,e3,e4,e5⟩,h1,h2=>by
  subst e5;exact⟨r,zs,A2++[l],e1,e2,e3,zkY e4 h1 h2,rfl⟩
 |[],_::_,_,_,_,_,h,_,_=>h.elim
 |_::_,[],_,_,_,_,h,_,_=>h.elim
def zl2 (r:RepO K G H xs ls dk A)(e:ls[k]? =some ds):∃l ys,xs[k]? =some (.ref l)/\A[k]? =some l/\H l=some (.lst ys)/\RepL K G ys ds:=by
 cases dk with
 |none=>exact Zj (show RepTb K G H xs ls A from r) e
 |some q=>
  obtain⟨ws,p,o,zs,ys,A',rfl,r1,q1,q2,q3,rfl⟩:=r;obtain⟨l,ys,h1,h2,h3,h4⟩:=Zj r1 e;exact⟨l,ys,by rw[fT (qat.mp h1).1];exact h1,by rw[fT (qat.mp h2).1];exact h2,h3,h4⟩
def zmz {l:AD}(r:RepO K G H xs ls dk A)(hk:k<ls.length)(e:A[k]? =some l)(fg:Fz G G')(hh:∀a∈A,a≠l->H' a=H a)(nd:A.Nodup)(hl:H' l'=some (.lst ys))(rr:RepL K G' ys ds):RepO K G' H' (xs.set k (.ref l')) (ls.set k ds) dk (A.set k l'):=by
 cases dk with
 |none=>exact zic (show RepTb K G H xs ls A from r) e fg hh nd hl rr
 |some q=>
  obtain⟨ws,p,o,zs,ys',A',rfl,r1,q1,q2,q3,rfl⟩:=r;obtain⟨l1,l2⟩:=zhK r1;have hA:k<A'.length:=∅
  have e':A'[k]? =some l:=by rw[fT hA]at e;exact e
  rw[Qf]at nd;have pl:p≠l:=λz=>nd.2.2 l (dY e') p (by simp) z.symm
  exact⟨ws.set k (.ref l'),p,o,zs,ys',A'.set k l',List.set_append_left _ _ ∅,zic r1 e' fg (λa m=>hh a (by simp[m])) nd.1 hl rr,by rw[hh p (by simp) pl];exact q1,q2,q3.mono fg,List.set_append_left _ _ hA⟩
end
def kK:D->Bool
 | .lst _=>true
 |_=>false
def jI (ls:AA (AA D)):Bool:=ls.all λl=>l.any kK
def Cu:D->Bool
 | .lst ds=>ds.all Me
 |d=>yY d
def obD (c:Str)(ns:AA Str)(ls:AA (AA D))(q:AA Int×AA D):D:= .obj c ns (ls.map D.lst) q.1 q.2
def dM (j:Nat)(m:ME):ME:=λρ=>match ρ[j]?.bind Sl.ob with
 |some (c,ns,ls,some dk)=>(m (ρ.set j (.val (obD c ns ls dk)))).bind λp=>if jI ls&&Cu p.1&&((ρ.set j .emp).zip p.2).all (λq=>lV q.1 q.2)then some (p.1,ρ)else none
 |_=>none
def gW (j:Nat)(m:MO):MO:=λρ=>match ρ[j]?.bind Sl.ob with
 |some (c,ns,ls,some dk)=>(m (ρ.set j (.val (obD c ns ls dk)))).bind λp=>if jI ls&&p.1.all Cu&&((ρ.set j .emp).zip p.2).all (λq=>lV q.1 q.2)then some (p.1,ρ)else none
 |_=>none
def xM (o:HO):Prop:=(∀xs,o≠ .tup xs)/\∀xs,o= .lst xs->¬ ∀x∈xs,∃i,x=V.int i
def Ji {C:AD}:xM (.ins C dx vs):=by constructor<;>(intro xs z;cases z)
def Jh:xM (.own p):=by constructor<;>(intro xs z;cases z)
def Uw:xM (kn p o):=by constructor<;>(intro xs z;cases z)
def Ft (h:¬ ∀x∈ys,∃i,x=V.int i):xM (.lst ys):=by
 constructor
 ·intro xs z;cases z
 ·intro xs z;cases z;exact h
section
variable {K:AF}{B B2:Bs}{G G' G2 H H' H2:Hp}{σ:St}{ρ:R}
def znC {s:Sl}(lk:lV s s1=true)(q:SlotOk K B G H i σ[i]? s)(q1:SlotOk K B2 G2 H2 i σ[i]? s1)(w:bR K G H σ[i]? a s):G2 a=none/\H2 a=H a:=by
 cases s with
 |emp=>exact w.elim
 |two _ _=>exact w.elim
 |val d=>exact w.elim
 |tre _=>cases s1<;>cases lk
 |ptr _=>cases s1<;>cases lk
 |own d0=>
  cases s1 with
  |own d1=>
   obtain⟨ns,rfl,rfl⟩:=zkN lk;obtain⟨a1,xs1,m1,m2,m3,m4,m5⟩:=q1;obtain⟨a0,xs0,n1,n2,n3,n4,n5⟩:=q;cases n1.symm.trans (show σ[i]? =some (some (.ref a))from w);cases n1.symm.trans m1;exact⟨m2,by rw[m3,n3,RepL.ints_eq m4,RepL.ints_eq n4]⟩
  |_=>cases lk
 |par d0=>
  cases s1 with
  |par d1=>
   obtain⟨ns,rfl,rfl⟩:=zkN lk;obtain⟨a1,xs1,m1,m2,m3,m4,m5⟩:=q1;obtain⟨a0,xs0,n1,n2,n3,n4,n5⟩:=q;cases n1.symm.trans (show σ[i]? =some (some (.ref a))from w);cases n1.symm.trans m1;exact⟨m2,by rw[m3,n3,RepL.ints_eq m4,RepL.ints_eq n4]⟩
  |_=>cases lk
def zhC:∀{ds:AA D},ds.all Me=true->∃ns:AA Int,ds=ns.map .int
 |[],_=>⟨[],rfl⟩
 |d::ds,h=>by
  rw[lL,cD]at h;obtain⟨ns,e⟩:=zhC h.2;cases d with
  |int n=>exact⟨n::ns,by rw[e];rfl⟩
  |_=>exact nomatch h.1
def zmh (h:∀a o,G a=some o->G' a=some o\/xM o)(e:Cu d=true)(r:RepD K G v d):RepD K G' v d:=by
 cases d with
 |non=>exact r
 |bl _=>exact r
 |int _=>exact r
 |str _=>exact r
 |tup ds=>
  obtain⟨ns,rfl⟩:=zhC (show ds.all Me=true from e);obtain⟨a,xs,rfl,g,r⟩:=r;rcases h a _ g with z|z
  ·exact⟨a,xs,rfl,z,by rw[RepL.ints_eq r];exact RepL.ints ns⟩
  ·exact AH rfl (z.1 xs)
 |lst ds=>
  obtain⟨ns,rfl⟩:=zhC (show ds.all Me=true from e);obtain⟨a,xs,rfl,g,r⟩:=r;rcases h a _ g with z|z
  ·exact⟨a,xs,rfl,z,by rw[RepL.ints_eq r];exact RepL.ints ns⟩
  ·refine AH (λx m=>?_) (z.2 xs rfl);rw[RepL.ints_eq r]at m;obtain⟨n,_,e⟩:=qb0.mp m;exact⟨n,e.symm⟩
 |_=>exact nomatch e
def zkA (h:∀a o,G a=some o->G' a=some o\/xM o):∀{ds:AA D} {xs:AA V},ds.all Cu=true->RepL K G xs ds->RepL K G' xs ds
 |[],_,_,r=>r
 |d::ds,_,e,⟨x,ys,e1,e2,e3⟩=>by
  rw[lL,cD]at e;exact⟨x,ys,e1,zmh h e.1 e2,zkA h e.2 e3⟩
def xO (h:ds.any kK=true)(r:RepL K G xs ds):¬ ∀x∈xs,∃i,x=V.int i:=λz=>by
 obtain⟨d,m,e⟩:=qcN.mp h;obtain⟨i,hi,rfl⟩:=qcO.mp m;obtain⟨x,h1,h2⟩:=r.get (bA hi);cases q:ds[i]with
 |lst es=>
  rw[q]at h2;obtain⟨a,ys,e2,_⟩:=h2;obtain⟨n,e3⟩:=z x (dY h1);rw[e2]at e3;cases e3
 |_=>rw[q]at e;cases e
def Bs.lkO (B:Bs)(K:AF)(G H:Hp)(σ:St)(ρ:R)(A:AA AD):Bs:=⟨gU G H A,(B.reA K G H σ ρ A).H,(B.reA K G H σ ρ A).O⟩
def zjf (I:SI K B G H σ ρ)(e:ρ[j]? =some s)(q:s.ob=some (c,ns,ls,some dk))(ok:jI ls=true):
  ∃A:AA AD,(∀a,bR K G H σ[j]? a s↔a∈A)/\(∀a∈A,∃o,H a=some o/\xM o)/\SI K (B.lkO K G H σ (ρ.set j .emp) A) (gU G H A) H σ (ρ.set j (.val (obD c ns ls dk)))/\Fz G (gU G H A):=by
 obtain⟨p,C,dx,vs,A,hp,b,nd,ow⟩:=I.obj e q;have sl:=I.slot j s e;have gn:∀a∈p::dx::A,G a=none:=λa m=>(sl.own ((ow a).mpr m)).1
 have fg:=zo2 (G:=G) (H:=H) gn;have I0:=I.emp j;have nw:∀a∈p::dx::A,Nw K G H σ (ρ.set j .emp) a:=λa m=>znG I e ((ow a).mpr m)
 have J0:=I0.reA nw;refine⟨p::dx::A,ow,λa m=>?_,?_,fg⟩
 ·rcases qaq.mp m with rfl|m
  ·exact⟨_,b.ob,Ji⟩
  rcases qaq.mp m with rfl|m
  ·exact⟨_,b.dx,Jh⟩
  ·obtain⟨ws,p2,o,zs,ys,A',e1,r1,q1,q2,q3,rfl⟩:=b.rp;rcases qar.mp m with m|m
   ·obtain⟨k,hk,rfl⟩:=qcO.mp m;have hk2:k<ls.length:=by rw[<-(zhK r1).2];exact hk
    obtain⟨l,zs,h1,h2,h3,h4⟩:=Zj r1 (bA hk2);rw[bA hk]at h2;cases h2;exact⟨_,h3,Ft (xO (qbZ.mp ok _ (Pf hk2)) h4)⟩
   ·simp at m;subst m;exact⟨_,q1,Uw⟩
 ·have I1:SI K (B.lkO K G H σ (ρ.set j .emp) (p::dx::A)) (gU G H (p::dx::A)) H σ (ρ.set j .emp):=by
   refine⟨λa u z=>?_,Fz.refl _,λb o z=> .inl (by show gU G H (p::dx::A) b≠none;rw[z];simp),J0.keep,J0.there,J0.len,J0.ob,λi t ei=>?_,λi k t u a n e1 e2 w1 w2=>?_⟩
   ·by_cases m:a∈p::dx::A
    ·rw[iX m]at z;exact z
    ·rw[kS m]at z;exact I.fz a u z
   ·have h:=(J0.slot i t ei).mono (G':=gU G H (p::dx::A)) (H':=H) fg λa w g h=>⟨by rw[kS λm=>nw a m i t ei w];exact g,rfl⟩
    exact h
   ·have bk:=λ{i:Nat} {t:Sl} (ei:(ρ.set j .emp)[i]? =some t) {a:AD} (w:bR K (gU G H (p::dx::A)) H σ[i]? a t)=>(J0.slot i t ei).back (G':=gU G H (p::dx::A)) (H':=H) (λa w g h=>⟨by rw[kS λm=>nw a m i t ei w];exact g,rfl⟩) w
    exact J0.dis i k t u a n e1 e2 (bk e1 w1) (bk e2 w2)
  have I2:=I1.set (i:=j) (v:= .ref p) (d:=obD c ns ls dk) (zlw fg b.nc (by rw[iX (by simp)];exact b.ob) b.nm b.rp λa m=>iX (by simp[m]));rwa[Ee hp,List.set_set]at I2
def zl9 (I:SI K B G H σ ρ)(e:ρ[j]? =some s)(ow:∀a,bR K G H σ[j]? a s↔a∈A)(od:∀a∈A,∃o,H a=some o/\xM o)(J:SI K (B.lkO K G H σ (ρ.set j .emp) A) G3 H3 σ ρ1)(f3:Fz (gU G H A) G3)(al:((ρ.set j .emp).zip ρ1).all (λq=>lV q.1 q.2)=true):
  ∃G',SI K B G' H3 σ ρ/\Fz G G'/\Fz G' G3/\(∀a,a∉A->G' a=G3 a)/\(∀a o,G3 a=some o->G' a=some o\/xM o)/\∀(i:Nat) (t:Sl) (a:AD),ρ[i]? =some t->bR K G H σ[i]? a t->G' a=none/\H3 a=H a:=by
 have gn:∀a∈A,G a=none:=λa m=>((I.slot j s e).own ((ow a).mpr m)).1
 have h3:∀a∈A,G3 a=H a:=λa m=>by
  obtain⟨o,ho,_⟩:=od a m;rw[ho];exact f3 a o (by rw[iX m];exact ho)
 have hh3:∀a∈A,H3 a=H a:=λa m=>by
  obtain⟨o,ho,_⟩:=od a m;rw[ho];exact J.fz a o (by rw[h3 a m];exact ho)
 have I0:=I.emp j;have nwA:∀a∈A,Nw K G H σ (ρ.set j .emp) a:=λa m=>znG I e ((ow a).mpr m)
 have hin:∀a,a∈A->(if a∈A then none else G3 a)=none:=λa m=>if_pos m
 have hout:∀a,a∉A->(if a∈A then none else G3 a)=G3 a:=λa m=>if_neg m
 have fg:Fz G (λa=>if a∈A then none else G3 a):=λa o ea=>by
  have n:a∉A:=λm=>by rw[gn a m]at ea;exact aG ea
  show(if a∈A then none else G3 a)=_;rw[hout a n];exact f3 a o (by rw[kS n];exact ea)
 have sub:Fz (λa=>if a∈A then none else G3 a) G3:=λa o ea=>by
  dsimp only at ea
  split at ea
  ·exact aG ea
  ·exact ea
 have len1:ρ1.length=ρ.length:=by rw[<-J.len,I.len]
 have kpO:∀(i:Nat) (t:Sl) (a:AD),ρ[i]? =some t->bR K G H σ[i]? a t->(if a∈A then none else G3 a)=none/\H3 a=H a:=λi t a es w=>by
  by_cases hi:i=j
  ·subst hi;rw[e]at es;cases es;have m:=(ow a).mp w;exact⟨hin a m,hh3 a m⟩
  have il:i<ρ.length:=(qat.mp es).1;have es1:ρ1[i]? =some (ρ1[i]'∅):=bA _;have lk:lV t (ρ1[i]'∅)=true:=
   qbZ.mp al (t,ρ1[i]'∅) (by
    apply dY (i:=i);rw[qb1];exact⟨by rw[iD (Ne.symm hi)];exact es,es1⟩)
  obtain⟨z1,z2⟩:=znC lk (I.slot i t es) (J.slot i _ es1) w;refine⟨?_,z2⟩
  by_cases m:a∈A
  ·exact hin a m
  ·rw[hout a m];exact z1
 refine⟨_,I.move (sub.trans J.fz) fg (λb o eb=>?_) (λb o eb n=>J.keep b o (by
   unfold Bs.lkO Bs.reA;dsimp only;rw[if_neg λw=>by rw[w.2]at eb;cases eb];exact I.keep b o eb n) λi m=>n i (reA_O (K:=K) (G:=G) (H:=H) (σ:=σ) (ρ:=ρ.set j .emp) (A:=A)|>.mp m).1) (λb eb=>zjr (A:=A) I0 (J.there b eb)) λi t a es w _ _=>kpO i t a es w,fg,sub,hout,λa o ea=>?_,kpO⟩
 ·have n:b∉A:=λm=>by rw[hin b m]at eb;exact aG eb
  rcases J.new b o (sub b o eb)with z|z
  ·have z:gU G H A b≠none:=z;rw[kS n]at z;obtain⟨u,hu⟩:=qbC.mp z;exact I.new b u hu
  ·exact .inr (zjr (A:=A) I0 z)
 ·by_cases m:a∈A
  ·obtain⟨u,hu,od⟩:=od a m;rw[h3 a m,hu]at ea;cases ea;exact .inr od
  ·exact .inl (by show(if a∈A then none else G3 a)=some o;rw[hout a m];exact ea)
end
section
variable {X:Cx}{e:AI}
def uC {m:ME}(j:Nat)(h:SE X e m):SE X e (dM j m):=by
 refine h.el λt pt so=>?_
 refine⟨t,pt,λB G H σ ρ d ρ' Q I hm kk=>?_⟩;unfold dM at hm
 split at hm
 ·rename_i c ns ls dk e0;refine aP e0 λs e1 e2=>?_
  refine aZ hm λd' ρ1 e3 hm=>?_
  dsimp only at hm;refine aT hm λal hm=>?_
  ·skip
   cases hm;rw[cD,cD]at al;obtain⟨⟨ok,fl⟩,al⟩:=al;obtain⟨A,ow,od,I1,f1⟩:=zjf I e1 e2 ok;refine so _ _ H σ _ d ρ1 _ I1 e3 λG3 H3 v I3 f3 r3=>?_
   obtain⟨G',J,fg,sub,_,th,_⟩:=zl9 I e1 ow od I3 f3 al;exact kk G' H3 v J fg (zmh th fl r3)
 ·exact aG hm
theorem zit {K:AF}{t:TE}(j:Nat)(so:∀B G H σ ρ ds ρ' (Q:VK),SI K B G H σ ρ->m ρ=some (ds,ρ')->
  (∀G' H' l xs,SI K B G' H' σ ρ'->Fz G G'->G' l=none->H' l=some (.lst xs)->RepL K G' xs ds->B.H l=none->Nw K G' H' σ ρ' l->Q (.ref l) H')->t σ H Q):
  ∀B G H σ ρ ds ρ' (Q:VK),SI K B G H σ ρ->gW j m ρ=some (ds,ρ')->
  (∀G' H' l xs,SI K B G' H' σ ρ'->Fz G G'->G' l=none->H' l=some (.lst xs)->RepL K G' xs ds->B.H l=none->Nw K G' H' σ ρ' l->Q (.ref l) H')->t σ H Q:=by
 intro B G H σ ρ ds ρ' Q I hm kk;unfold gW at hm
 split at hm
 ·rename_i c ns ls dk e0;obtain⟨s,e1,e2⟩:=uF e0;obtain⟨⟨d',ρ1⟩,e3,hm⟩:=uF hm;dsimp only at hm
  split at hm
  ·rename_i al;cases hm;rw[cD,cD]at al;obtain⟨⟨ok,fl⟩,al⟩:=al;obtain⟨A,ow,od,I1,f1⟩:=zjf I e1 e2 ok;refine so _ _ H σ _ ds ρ1 _ I1 e3 λG3 H3 l xs I3 f3 g3 h3 r3 b3 n3=>?_
   obtain⟨G',J,fg,sub,out,th,kpO⟩:=zl9 I e1 ow od I3 f3 al;have nA:l∉A:=λm=>by
    obtain⟨o,ho,_⟩:=od l m;rw[f3 l o (by rw[iX m];exact ho)]at g3;cases g3
   refine kk G' H3 l xs J fg (by rw[out l nA];exact g3) h3 (zkA th fl r3) (zjr (A:=A) (I.emp j) b3) λi t ei w=>?_
   have w0:=(I.slot i t ei).back (λa w _ _=>kpO i t a ei w) w
   by_cases hi:i=j
   ·subst hi;rw[e1]at ei;cases ei;exact nA ((ow l).mp w0)
   have il:i<ρ.length:=(qat.mp ei).1;have len1:ρ1.length=ρ.length:=by rw[<-I3.len,I.len]
   have es1:ρ1[i]? =some (ρ1[i]'∅):=bA _;have lk:lV t (ρ1[i]'∅)=true:=
    qbZ.mp al (t,ρ1[i]'∅) (by
     apply dY (i:=i);rw[qb1];exact⟨by rw[iD (Ne.symm hi)];exact ei,es1⟩)
   refine n3 i _ es1 ?_
   generalize ρ1[i]'∅=u at lk es1
   cases t with
   |own d0=>cases u with
    |own d1=>exact w0
    |_=>cases lk
   |par d0=>cases u with
    |par d1=>exact w0
    |_=>cases lk
   |tre _=>cases u<;>cases lk
   |ptr _=>cases u<;>cases lk
   |_=>exact w0.elim
  ·cases hm
 ·cases hm
def nW (j:Nat)(h:SO X e m):SO X e (gW j m):=by
 refine h.el λt pt so=>?_
 exact⟨t,pt,zit j so⟩
end
def lD (c:Str)(ns:AA Str)(j k i:Nat)(me:ME):MS:=λρ=>(me ρ).bind λp=>match p.2[j]?.bind Sl.ob,p.2[i]? with
 |some (c',ns',ls,dk),some (.val (.int n))=>if c'=c/\ns'=ns then(ls[k]?).bind λds=>(iE ds.length n).bind λm=>(p.2[j]?).map λs=>(.next,p.2.set j (s.putT (.obj c ns (ls.set k (ds.set m p.1)) dk)))else none
 |_,_=>none
def Jk (c:Str)(ns:AA Str)(j k:Nat)(mo:MO):MS:=λρ=>(mo ρ).bind λp=>match p.2[j]?.bind Sl.ob with
 |some (c',ns',ls,dk)=>if c'=c/\ns'=ns/\k<ls.length then(p.2[j]?).map λs=>(.next,p.2.set j (s.putT (.obj c ns (ls.set k p.1) dk)))else none
 |_=>none
def lE (c:Str)(ns ns2:AA Str)(j:Nat)(mo:MO):MS:=λρ=>(mo ρ).bind λp=>match p.2[j]?.bind Sl.ob with
 |some (c',ns',ls,none)=>if c'=c/\ns'=ns then(p.2[j]?).map λs=>(.next,p.2.set j (s.putT (.obj c ns2 (ls++[p.1]) none)))else none
 |_=>none
def xS (c:Str)(ns ns2:AA Str)(j:Nat):MS:=λρ=>match ρ[j]?.bind Sl.ob with
 |some (c',ns',ls,none)=>if c'=c/\ns'=ns then(ρ[j]?).map λs=>(.next,ρ.set j (s.putT (.obj c ns2 ls (some ([],[])))))else none
 |_=>none
def Ie (c:Str)(ns:AA Str)(j i:Nat)(me:ME):MS:=λρ=>(me ρ).bind λp=>match p.2[j]?.bind Sl.ob,p.2[i]? with
 |some (c',ns',ls,some q),some (.val (.int n))=>if c'=c/\ns'=ns/\q.1.length<16777216 then(p.2[j]?).map λs=>(.next,p.2.set j (s.putT (.obj c ns ls (some (gJ q.1 q.2 n p.1)))))else none
 |_,_=>none
def zjR:∀{vs:AA (Str×V)} {f:Str} {v:V},(vs.map (·.1)).contains f=false->bQ f v vs=vs++[(f,v)]
 |[],_,_,_=>rfl
 |(g,u)::vs,f,v,n=>by
  rw[eV,Dj,qcM]at n;have:¬g=f:=λz=>by subst z;simp at n
  show(if g=f then _ else _)=_;rw[if_neg this,zjR n.2]
  rfl
def znI:∀{vs:AA (Str×V)} {ns:AA Str} {k:Nat} {f:Str} {v:V},vs.map (·.1)=ns->ns[k]? =some f->(ns.take k).contains f=false->(bQ f v vs).map (·.1)=ns/\(bQ f v vs).map (·.2)=(vs.map (·.2)).set k v
 |[],_,_,_,_,e,h,_=>by subst e;simp at h
 |(g,u)::vs,_,0,f,v,e,h,_=>by
  subst e;simp at h;subst h;have e2:bQ g v ((g,u)::vs)=(g,v)::vs:=by unfold bQ;rw[if_pos rfl]
  rw[e2];exact⟨rfl,rfl⟩
 |(g,u)::vs,_,k+1,f,v,e,h,n=>by
  subst e;rw[eV,qcr,Dj,qcM]at n;obtain⟨h1,h2⟩:=znI (vs:=vs) (v:=v) rfl (~~~h) n.2;have:¬g=f:=λz=>by subst z;simp at n
  unfold bQ;rw[if_neg this];exact⟨by rw[eV,h1,eV],by rw[eV,h2,eV,Cz]⟩
def zi4:∀{A:AA AD},A.Nodup->l∉A->∀k,(A.set k l).Nodup
 |[],h,_,_=>h
 |a::A,h,n,0=>by
  rw[qaZ]at h;rw[Vk,qaZ];exact⟨λm=>n (by simp[m]),h.2⟩
 |a::A,h,n,k+1=>by
  rw[qaZ]at h;rw[Cz,qaZ];refine⟨λm=>?_,zi4 h.2 (λm=>n (by simp[m])) k⟩;rcases qch m with z|z
  ·exact h.1 z
  ·exact n (by simp[z])
section
variable {K:AF}{B:Bs}{G H:Hp}{σ:St}{ρ:R}
def SI.obHas (h:ρ[j]?.bind Sl.ob=some q):∃s,ρ[j]? =some s/\s.ob=some (q.1,q.2.1,q.2.2.1,q.2.2.2):=by
 refine aP h λs e1 e2=>?_
 exact⟨s,e1,by rw[e2]⟩
end
section
variable {X:Cx}{c f x y:Str}{ns ns2:AA Str}{e:AI}{me:ME}{mo:MO}{p p2 p3 pos ap tpos:Pos}{k:Nat}
def zhw (j k i:Nat)(oc:OC X.K c ns)(he:SE X e me)(hk:ns[k]? =some f:=by rfl)(hn:(ns.take k).contains f=false:=by decide+kernel)(hN:X.N[j]? =some x:=by rfl)(hv:dP X.env.scope x:=by trivial)(hd:(x==("__debug__":Str))=false:=by decide)(hcd:(x==("__classdict__":Str))=false:=by decide)(hN2:X.N[i]? =some y:=by rfl)(hv2:dP X.env.scope y:=by trivial)(hd2:(y==("__debug__":Str))=false:=by decide)(hcd2:(y==("__classdict__":Str))=false:=by decide)(hb:attributeBase (.Name x p) f X.env (eval (.Name x p) X.env)=eval (.Name x p) X.env:=by rfl)(ha : ∀ v, assign (.Subscript (.Attribute (.Name x p) f ap) (.Name y p2) tpos) X.env v = (do
      let ov<-holding [v] (eval (.Attribute (.Name x p) f ap) X.env)
      let iv<-holding [v,ov] (eval (.Name y p2) X.env)
      standAt tpos
      holding [v,ov,iv] (setItem ov iv v)
      release [v,ov,iv] []):=by exactλ_=>rfl)(hs:swapsWithSole [.Subscript (.Attribute (.Name x p) f ap) (.Name y p2) tpos] e pos.line X.env=pure false:=by rfl)(hw:swappedStores [.Subscript (.Attribute (.Name x p) f ap) (.Name y p2) tpos] e X.env=pure none:=by rfl)(h1:(assignEach [.Subscript (.Attribute (.Name x p) f ap) (.Name y p2) tpos] X.env).map (·.2)=[assign (.Subscript (.Attribute (.Name x p) f ap) (.Name y p2) tpos) X.env]:=by rfl):
    SS X (.Assign [.Subscript (.Attribute (.Name x p) f ap) (.Name y p2) tpos] e pos) (lD c ns j k i me):=by
  obtain⟨C,c1,c2,c3⟩:=oc;refine he.el λt pt so=>?_
  refine⟨_,Zz pt (pO (Zi (eI hN hv hd hcd) hb) (eI hN2 hv2 hd2 hcd2) zmK ha) hs hw h1,λB G H σ ρ fl ρ' E I hm kk=>?_⟩;refine aZ hm λd ρ1 e1 hm=>?_
  refine so B G H σ ρ d ρ1 _ I e1 λG1 H1 v I1 f1 r1=>?_
  dsimp only at hm
  split at hm
  . rename_i c' ns' ls dk n e2 e3
    refine aT hm λh hm=>?_
    . skip
      exists h;refine aP hm λds e4 hm=>?_
      refine aP hm λm e5 hm=>?_
      refine bB hm λs e6 hm=>?_
      cases hm;obtain⟨s',e7,e8⟩:=SI.obHas e2;rw[e6]at e7;cases e7;obtain⟨q,C2,dx,vs,A,hp,b,nd,ow⟩:=I1.obj e6 e8;have h2:=b.nc;rw[c1]at h2;cases h2;obtain⟨l,xs,g1,g2,g3,g4⟩:=zl2 b.rp e4;obtain⟨w,k1,k2⟩:=I1.slot i _ e3;cases(show w=V.int n from k2);have lA:l∈A:=dY g2;have gl:G1 l=none:=((I1.slot j s e6).own ((ow l).mpr (by simp[lA]))).1;rw[qaZ,qaZ]at nd;have pl:q≠l:=λz=>nd.1 (by rw[z];simp[lA])
      have dl:dx≠l:=λz=>nd.2.1 (z ▸ lA)
      have hk2:k<ls.length:=(qat.mp e4).1;refine⟨.ref q,hp,q,C,dx,vs,.ref l,rfl,b.ob,c2,c3 f (dY hk),Wa b.nm hk hn g1,.int n,k1,l,xs,n,m,rfl,rfl,g3,by rw[g4.length];exact e5,?_⟩;have lk:A.set k l=A:=Ee g2;have b':ObAt X.K G1 (upd H1 l (.lst (xs.set m v))) q C dx c' ns' (ls.set k (ds.set m d)) dk vs A:=by
        refine⟨b.nc,by rw[aW pl];exact b.ob,by rw[aW dl];exact b.dx,b.nm,?_⟩;have:=zmz (H':=upd H1 l (.lst (xs.set m v))) b.rp hk2 g2 (Fz.refl G1) (λa _ n=>aW n) nd.2.2 cW (g4.set m r1);rw[lk]at this;rwa[Ee g1]at this
      exact kk G1 _ σ (I1.chO e6 e8 hp b (by rw[qaZ,qaZ];exact nd) ow (I1.fz.right gl _) (λz o n hz=>by rw[aW (λy=>n (by rw[y];simp[lA]))];exact hz) (λz hz=>by
        by_cases y:z=l
        . subst y;rw[cW]at hz;cases hz
        . rw[aW y]at hz;exact hz) b' (by rw[qaZ,qaZ];exact nd) λa m=> .inl m) f1
  . exact aG hm
def mE (j k:Nat)(oc:OC X.K c ns)(he:SO X e mo)(hk:ns[k]? =some f:=by rfl)(hn:(ns.take k).contains f=false:=by decide+kernel)(hl:ns.length<1000:=by decide)(hN:X.N[j]? =some x:=by rfl)(hv:dP X.env.scope x:=by trivial)(hd:(x==("__debug__":Str))=false:=by decide)(hcd:(x==("__classdict__":Str))=false:=by decide)(hs:swapsWith e (some (.Attribute (.Name x p) f ap)) pos.line X.env=pure false:=by rfl):
    SS X (.Assign [.Attribute (.Name x p) f ap] e pos) (Jk c ns j k mo):=by
  obtain⟨C,c1,c2,c3⟩:=oc;refine he.el λt pt so=>?_
  refine⟨_,zn7 (eI hN hv hd hcd) pt hs,λB G H σ ρ fl ρ' E I hm kk=>?_⟩;refine aZ hm λds ρ1 e1 hm=>?_
  refine so B G H σ ρ ds ρ1 _ I e1 λG1 H1 l xs I1 f1 gl hl1 r1 bl nl=>?_
  dsimp only at hm
  split at hm
  . rename_i c' ns' ls dk e2
    refine aT hm λh hm=>?_
    . skip
      obtain⟨rfl,rfl,hk2⟩:=h;refine bB hm λs e6 hm=>?_
      cases hm;obtain⟨s',e7,e8⟩:=SI.obHas e2;rw[e6]at e7;cases e7;obtain⟨q,C2,dx,vs,A,hp,b,nd,ow⟩:=I1.obj e6 e8;have h2:=b.nc;rw[c1]at h2;cases h2;obtain⟨l0,xs0,g1,g2,g3,g4⟩:=zl2 b.rp (bA hk2);have nown:l∉q::dx::A:=λm=>nl j s e6 ((ow l).mpr m)
      have gq:G1 q=none:=((I1.slot j s e6).own ((ow q).mpr (by simp))).1;have lv:vs.length<1000:=by have:=congrArg List.length b.nm;simp at this;lia
      obtain⟨n1,n2⟩:=znI (v:= .ref l) b.nm hk hn;rw[qaZ,qaZ]at nd;have qA:q∉A:=λz=>nd.1 (by simp[z])
      have qd:q≠dx:=λz=>nd.1 (by simp[z])
      have lq:l≠q:=λz=>nown (by simp[z])
      refine⟨.ref q,hp,q,C,dx,vs,rfl,b.ob,c2,c3 f (dY hk),lv,?_⟩;have b':ObAt X.K G1 (upd H1 q (.ins C dx (bQ f (.ref l) vs))) q C dx c' ns' (ls.set k ds) dk (bQ f (.ref l) vs) (A.set k l):=by
        refine⟨b.nc,cW,by rw[aW (Ne.symm qd)];exact b.dx,n1,?_⟩;rw[n2];exact zmz b.rp hk2 g2 (Fz.refl G1) (λa m _=>aW λz=>qA (z ▸ m)) nd.2.2 (by rw[aW lq];exact hl1) r1
      have sub:∀a∈A.set k l,a∈A\/a=l:=λa m=>qch m
      refine kk G1 _ σ (I1.chO e6 e8 hp b (by rw[qaZ,qaZ];exact nd) ow (I1.fz.right gq _) (λz o n hz=>by rw[aW (λy=>n (by rw[y];simp))];exact hz) (λz hz=>by
        by_cases y:z=q
        . subst y;rw[cW]at hz;cases hz
        . rw[aW y]at hz;exact hz) b' ?_ λa m=>(sub a m).imp id λz=>by subst z;exact⟨gl,bl,nl⟩) f1
      rw[qaZ,qaZ];refine⟨λm=>?_,λm=>?_,?_⟩
      . rcases qaq.mp m with z|m
        . exact qd z
        . exact(sub q m).elim qA λz=>lq z.symm
      . exact(sub dx m).elim nd.2.1 λz=>nown (by simp[z])
      . exact zi4 nd.2.2 (λm=>nown (by simp[m])) k
  . exact aG hm
def zhr (j:Nat)(ns2:AA Str)(oc:OC X.K c ns2)(he:SO X e mo)(hk:ns2=ns++[f]:=by rfl)(hn:ns.contains f=false:=by decide+kernel)(hl:ns.length<1000:=by decide)(hN:X.N[j]? =some x:=by rfl)(hv:dP X.env.scope x:=by trivial)(hd:(x==("__debug__":Str))=false:=by decide)(hcd:(x==("__classdict__":Str))=false:=by decide)(hs:swapsWith e (some (.Attribute (.Name x p) f ap)) pos.line X.env=pure false:=by rfl):
    SS X (.Assign [.Attribute (.Name x p) f ap] e pos) (lE c ns ns2 j mo):=by
  obtain⟨C,c1,c2,c3⟩:=oc;refine he.el λt pt so=>?_
  refine⟨_,zn7 (eI hN hv hd hcd) pt hs,λB G H σ ρ fl ρ' E I hm kk=>?_⟩;refine aZ hm λds ρ1 e1 hm2=>?_
  clear hm;refine so B G H σ ρ ds ρ1 _ I e1 λG1 H1 l xs I1 f1 gl hl1 r1 bl nl=>?_
  dsimp only at hm2
  split at hm2
  . rename_i c' ns' ls e2
    split at hm2
    . rename_i h
      exists h;obtain⟨s,e6,hm2⟩:=Od hm2;cases hm2;obtain⟨s',e7,e8⟩:=SI.obHas e2;rw[e6]at e7;cases e7;obtain⟨q,C2,dx,vs,A,hp,b,nd,ow⟩:=I1.obj e6 e8;have h2:=b.nc;rw[c1]at h2;cases h2;have nown:l∉q::dx::A:=λm=>nl j s e6 ((ow l).mpr m)
      have gq:G1 q=none:=((I1.slot j s e6).own ((ow q).mpr (by simp))).1;have lv:vs.length<1000:=by have:=congrArg List.length b.nm;simp at this;lia
      have pf:=zjR (v:= .ref l) (by rw[b.nm];exact hn);rw[qaZ,qaZ]at nd;have qA:q∉A:=λz=>nd.1 (by simp[z])
      have qd:q≠dx:=λz=>nd.1 (by simp[z])
      have lq:l≠q:=λz=>nown (by simp[z])
      refine⟨.ref q,hp,q,C,dx,vs,rfl,b.ob,c2,c3 f (by rw[hk];simp),lv,?_⟩;have b':ObAt X.K G1 (upd H1 q (.ins C dx (bQ f (.ref l) vs))) q C dx c' ns2 (ls++[ds]) none (bQ f (.ref l) vs) (A++[l]):=by
        refine⟨b.nc,cW,by rw[aW (Ne.symm qd)];exact b.dx,by rw[pf,kQ,b.nm,hk];rfl,?_⟩;rw[pf,kQ];refine zkY (RepTb.move (show RepTb X.K G1 H1 (vs.map (·.2)) ls A from b.rp) (Fz.refl G1) λa m=>aW λz=>qA (z ▸ m)) (by rw[aW lq];exact hl1) r1
      refine kk G1 _ σ (I1.chO e6 e8 hp b (by rw[qaZ,qaZ];exact nd) ow (I1.fz.right gq _) (λz o n hz=>by rw[aW (λy=>n (by rw[y];simp))];exact hz) (λz hz=>by
        by_cases y:z=q
        . subst y;rw[cW]at hz;cases hz
        . rw[aW y]at hz;exact hz) b' ?_ λa m=>(qar.mp m).imp id λz=>by
          have:a=l:= ~~~z
          subst this;exact⟨gl,bl,nl⟩) f1
      rw[<-Yy,<-Yy,Qf];refine⟨by rw[qaZ,qaZ];exact nd,by simp,λa ha b hb z=>nown ?_⟩;have:b=l:= ~~~hb
      rw[<-this,<-z];exact ha
    . exact aG hm2
  . exact aG hm2
def oS (j:Nat)(ns2:AA Str)(oc:OC X.K c ns2)(hk:ns2=ns++[f]:=by rfl)(hn:ns.contains f=false:=by decide+kernel)(hl:ns.length<1000:=by decide)(hN:X.N[j]? =some x:=by rfl)(hv:dP X.env.scope x:=by trivial)(hd:(x==("__debug__":Str))=false:=by decide)(hcd:(x==("__classdict__":Str))=false:=by decide)(hs:swapsWith (.Dict [] [] tpos) (some (.Attribute (.Name x p) f ap)) pos.line X.env=pure false:=by rfl):
    SS X (.Assign [.Attribute (.Name x p) f ap] (.Dict [] [] tpos) pos) (xS c ns ns2 j):=by
  obtain⟨C,c1,c2,c3⟩:=oc;refine⟨_,zn7 (eI hN hv hd hcd) mM hs,λB G H σ ρ fl ρ' E I hm kk=>?_⟩;unfold xS at hm
  split at hm
  . rename_i c' ns' ls e2
    split at hm
    . rename_i h
      exists h;obtain⟨s,e6,hm⟩:=Od hm;cases hm;obtain⟨s',e7,e8⟩:=SI.obHas e2;rw[e6]at e7;cases e7;intro l o hl0 dn;have I1:=I.allocO hl0 (kn l o);have nl:Nw X.K G (upd H l (kn l o)) σ ρ l:=I.nw_move (I.nw hl0) λi s a _ _ g h=>⟨g,aW λz=>h (by rw[z];exact hl0)⟩
      have gl:G l=none:=I.fz.free hl0;have bl:B.H l=none:=I.there l hl0;obtain⟨q,C2,dx,vs,A,hp,b,nd,ow⟩:=I1.obj e6 e8;have h2:=b.nc;rw[c1]at h2;cases h2;have nown:l∉q::dx::A:=λm=>nl j s e6 ((ow l).mpr m)
      have gq:G q=none:=((I1.slot j s e6).own ((ow q).mpr (by simp))).1;have lv:vs.length<1000:=by have:=congrArg List.length b.nm;simp at this;lia
      have pf:=zjR (v:= .ref l) (by rw[b.nm];exact hn);rw[qaZ,qaZ]at nd;have qA:q∉A:=λz=>nd.1 (by simp[z])
      have qd:q≠dx:=λz=>nd.1 (by simp[z])
      have lq:l≠q:=λz=>nown (by simp[z])
      refine⟨.ref q,hp,q,C,dx,vs,rfl,b.ob,c2,c3 f (by rw[hk];simp),lv,?_⟩;have b':ObAt X.K G (upd (upd H l (kn l o)) q (.ins C dx (bQ f (.ref l) vs))) q C dx c' ns2 ls (some ([],[])) (bQ f (.ref l) vs) (A++[l]):=by
        refine⟨b.nc,cW,by rw[aW (Ne.symm qd)];exact b.dx,by rw[pf,kQ,b.nm,hk];rfl,?_⟩;rw[pf,kQ];exact⟨vs.map (·.2),l,o,[],[],A,rfl,RepTb.move (show RepTb X.K G (upd H l (kn l o)) (vs.map (·.2)) ls A from b.rp) (Fz.refl G) λa m=>aW λz=>qA (z ▸ m),by rw[aW lq];exact cW,dn,RepL.nil,rfl⟩
      refine kk G _ σ (I1.chO e6 e8 hp b (by rw[qaZ,qaZ];exact nd) ow (I1.fz.right gq _) (λz o n hz=>by rw[aW (λy=>n (by rw[y];simp))];exact hz) (λz hz=>by
        by_cases y:z=q
        . subst y;rw[cW]at hz;cases hz
        . rw[aW y]at hz;exact hz) b' ?_ λa m=>(qar.mp m).imp id λz=>by
          have:a=l:= ~~~z
          subst this;exact⟨gl,bl,nl⟩) (Fz.refl G)
      rw[<-Yy,<-Yy,Qf];refine⟨by rw[qaZ,qaZ];exact nd,by simp,λa ha b hb z=>nown ?_⟩;have:b=l:= ~~~hb
      rw[<-this,<-z];exact ha
    . exact aG hm
  . exact aG hm
def pY (j k i:Nat)(oc:OC X.K c ns)(he:SE X e me)(hk:ns[k]? =some f:=by rfl)(hkl:k+1=ns.length:=by rfl)(hn:(ns.take k).contains f=false:=by decide+kernel)(hN:X.N[j]? =some x:=by rfl)(hv:dP X.env.scope x:=by trivial)(hd:(x==("__debug__":Str))=false:=by decide)(hcd:(x==("__classdict__":Str))=false:=by decide)(hN2:X.N[i]? =some y:=by rfl)(hv2:dP X.env.scope y:=by trivial)(hd2:(y==("__debug__":Str))=false:=by decide)(hcd2:(y==("__classdict__":Str))=false:=by decide)(hb:attributeBase (.Name x p) f X.env (eval (.Name x p) X.env)=eval (.Name x p) X.env:=by rfl)(hs:swapsWith e (some (.Subscript (.Attribute (.Name x p) f ap) (.Name y p2) tpos)) pos.line X.env=pure false:=by rfl):
    SS X (.Assign [.Subscript (.Attribute (.Name x p) f ap) (.Name y p2) tpos] e pos) (Ie c ns j i me):=by
  obtain⟨C,c1,c2,c3⟩:=oc;refine he.el λt pt so=>?_
  refine⟨_,nE (Zi (eI hN hv hd hcd) hb) (eI hN2 hv2 hd2 hcd2) pt hs,λB G H σ ρ fl ρ' E I hm kk=>?_⟩;refine aZ hm λd ρ1 e1 hm=>?_
  refine so B G H σ ρ d ρ1 _ I e1 λG1 H1 v I1 f1 r1=>?_
  dsimp only at hm
  split at hm
  . rename_i c' ns' ls qd n e2 e3
    refine aT hm λh hm=>?_
    . skip
      obtain⟨rfl,rfl,hln⟩:=h;refine bB hm λs e6 hm=>?_
      cases hm;obtain⟨s',e7,e8⟩:=SI.obHas e2;rw[e6]at e7;cases e7;obtain⟨q,C2,dx,vs,A,hp,b,nd,ow⟩:=I1.obj e6 e8;have h2:=b.nc;rw[c1]at h2;cases h2;obtain⟨w,k1,k2⟩:=I1.slot i _ e3;cases(show w=V.int n from k2);have rp:=b.rp;obtain⟨ws,l,o,zs,ys,A',g1,g2,g3,g4,g5,rfl⟩:=rp;have lA:l∈A'++[l]:=by simp
      have gl:G1 l=none:=((I1.slot j s e6).own ((ow l).mpr (by simp))).1;have nd0:=nd;rw[qaZ,qaZ]at nd;have pl:q≠l:=λz=>nd.1 (by rw[z];simp)
      have dl:dx≠l:=λz=>nd.2.1 (by rw[z];simp)
      have l1:=congrArg List.length b.nm;have l2:=congrArg List.length g1;simp at l1 l2;have g0:(vs.map (·.2))[k]? =some (.ref l):=by rw[g1,show k=ws.length by lia];simp
      refine⟨.ref q,hp,q,C,dx,vs,.ref l,rfl,b.ob,c2,c3 f (dY hk),Wa b.nm hk hn g0,.int n,k1,l,o,zs,qd.1,ys,n,rfl,rfl,g3,g4,by rw[fX];exact hln,λo' zs' ks' ys' hks hys dn=>?_⟩;obtain rfl:=hks qd.2 d;subst hys;obtain⟨m1,m2⟩:=Lo Ey (j:=n) g4.key g5 r1;have nA':∀a∈A',a≠l:=λa m z=>by
        have:=nd.2.2;rw[Qf]at this;exact this.2.2 a m l (by simp) z
      have b':ObAt X.K G1 (upd H1 l (kn l o')) q C dx c' ns' ls (some (gJ qd.1 qd.2 n d)) vs (A'++[l]):=
        ⟨b.nc,by rw[aW pl];exact b.ob,by rw[aW dl];exact b.dx,b.nm,ws,l,o',zs',_,A',g1,g2.move (Fz.refl G1) λa m=>aW (nA' a m),cW,dn,m2,rfl⟩
      exact kk G1 _ σ (I1.chO e6 e8 hp b nd0 ow (I1.fz.right gl _) (λz o n hz=>by rw[aW (λy=>n (by rw[y];simp))];exact hz) (λz hz=>by
        by_cases y:z=l
        . subst y;rw[cW]at hz;cases hz
        . rw[aW y]at hz;exact hz) b' nd0 λa m=> .inl m) f1
  . exact aG hm
end
section
variable {K:AF}{B:Bs}{G H:Hp}{σ:St}{ρ:R}{p:AD}{t t3:T}{A:AA AD}{vs:AA V}{ds:AA D}{F:R->AB (Sl×R)}{d:D}{rest:R}{Q:VK}{E:XK}
def Cm (fz:Fz G H)(r:RepT K G H (.ref p) t A)(nd:A.Nodup)(gA:∀a∈A,G a=none)(rv:RepL K G vs ds)(eF:F (.ptr t::ds.map .val)=some (.val d,.ptr t3::rest))(kk:∀G2 H2 v A3,Fz G G2->Fz G2 H2->(∀b o,G2 b=some o->G b≠none\/H b=none)->(∀b o,H b=some o->b∉A->H2 b=some o)->(∀b,H2 b=none->H b=none)->RepT K G2 H2 (.ref p) t3 A3->A3.Nodup->(∀a∈A3,G2 a=none/\(a∈A\/H a=none))->RepD K G2 v d->Q v H2):hZ K (ds.length+1) F (.ref p::vs) H Q E:=by
 have hd:p∈A:=by obtain⟨p2,e,m⟩:=r.head;cases e;exact m
 have mO:∀{i:Nat} {b:AD},(i,b)∈A.map (λa=>((0:Nat),a))++[(4096,p),(8192,p)]->(i=0/\b∈A)\/(i=4096/\b=p)\/(i=8192/\b=p):=λ{i b} m=>by
  rcases qar.mp m with m|m
  ·obtain⟨a,m,e⟩:=qb0.mp m;cases e;exact .inl ⟨rfl,m⟩
  ·simp at m;exact .inr m
 have inA:∀{i:Nat} {b:AD},(i,b)∈A.map (λa=>((0:Nat),a))++[(4096,p),(8192,p)]->b∈A:=λ{i b} m=>by
  rcases mO m with z|z|z
  ·exact z.2
  ·rw[z.2];exact hd
  ·rw[z.2];exact hd
 have at0:∀{i:Nat} {s:Sl},(Sl.ptr t::ds.map .val)[i]? =some s->(i=0/\s= .ptr t)\/∃k x,i=k+1/\ds[k]? =some x/\s= .val x:=λ{i s} e=>by
  cases i with
  |zero=>simp at e;exact .inl ⟨rfl,e.symm⟩
  |succ k=>
   rw[Ag,cR]at e;refine bB e λx h1 h2=>?_
   exact .inr ⟨k,x,rfl,h1,h2.symm⟩
 refine⟨G,A.map (λa=>((0:Nat),a))++[(4096,p),(8192,p)],_,_,_,eF,by simp,⟨fz,Fz.refl G,λb o e=> .inl (by show G b≠none;rw[e];simp),λb o e _=>e,λb e=>e,by simp[rv.length],λi b m=>r.here (inA m),λi s e=>?_,λi k s u a n e1 e2 w1 w2=>?_⟩,λG2 H2 v f2 fz2 nw kp th so rr=>?_⟩
 ·rcases at0 e with⟨rfl,rfl⟩|⟨k,x,rfl,h1,rfl⟩
  ·exact⟨.ref p,A,rfl,r,⟨nd,p,rfl,by simp,λ_=>by simp⟩,λa m=>⟨gA a m,.inl (by simp[m])⟩⟩
  ·obtain⟨y,g1,g2⟩:=rv.get h1;exact⟨y,by simp[g1],g2⟩
 ·rcases at0 e1 with⟨rfl,rfl⟩|⟨k1,x,rfl,h1,rfl⟩
  ·rcases at0 e2 with⟨rfl,rfl⟩|⟨k2,x,rfl,h1,rfl⟩
   ·exact n rfl
   ·exact w2
  ·exact w1
 ·obtain⟨ov,so⟩:=so 0 (.ptr t3) rfl;obtain⟨v3,A3,h1,h2,⟨h3,p3,rfl,h4,h5⟩,h6⟩:=so;have e3:p3=p:=by
   rcases mO h4 with z|z|z
   ·lia
   ·exact z.2
   ·lia
  subst e3;refine kk G2 H2 v A3 f2 fz2 nw (λb o hb n=>kp b o hb λi m=>n (inA m)) th h2 h3 (λa m=>⟨(h6 a m).1,(h6 a m).2.imp inA λz=>z.1⟩) rr
def Um (I:SI K B G H σ ρ){c:Str}{ns:AA Str}{ls:AA (AA D)}{dk:AB (AA Int×AA D)}(e:ρ[j]? =some s)(q:s.ob=some (c,ns,ls,dk))(hp:σ[j]? =some (some (.ref p)))(rv:RepL K G vs ds)(eF:F (.ptr (.obj c ns ls dk)::ds.map .val)=some (.val d,.ptr (.obj c3 ns3 l3 d3)::rest))(kk:∀G2 H2 v,SI K B G2 H2 σ (ρ.set j (s.putT (.obj c3 ns3 l3 d3)))->Fz G G2->RepD K G2 v d->Q v H2):hZ K (ds.length+1) F (.ref p::vs) H Q E:=by
 obtain⟨p1,C,dx,ws,A,hp1,b,nd,ow⟩:=I.obj e q;rw[hp]at hp1;cases hp1;have sl:=I.slot j s e;refine Cm I.fz b.rep nd (λa m=>(sl.own ((ow a).mpr m)).1) rv eF λG2 H2 v A3 f2 fz2 nw kp th r3 nd3 h3 rr=>kk G2 H2 v ?_ f2 rr
 have sub:∀a∈A3,a∈p::dx::A\/H a=none:=λa m=>(h3 a m).2
 have h:=I.chg (i:=j) (ov:=some (.ref p)) (s':=s.putT (.obj c3 ns3 l3 d3)) (G':=G2) (H':=H2) fz2 f2 (λx o hx=>?_) (λx o k1 k2=>kp x o (I.keep x o k1 k2) λm=>?_) (λx k=>I.there x (th x k)) (λi t a z ei w g ha=>?_) ?_
 ·rwa[Ee hp]at h
 ·rcases nw x o hx with z|z
  ·obtain⟨u,hu⟩:=qbC.mp z;exact I.new x u hu
  ·exact .inr (I.there x z)
 ·rcases(sl.own ((ow x).mpr m)).2.2 with z|z
  ·rw[k1]at z;cases z
  ·exact k2 j z
 ·have na:a∉p::dx::A:=λm=>I.dis i j t s a z ei e w ((ow a).mpr m)
  obtain⟨x,hx⟩:=qbC.mp ha;refine⟨?_,(kp a x hx na).trans hx.symm,λw'=>?_⟩
  ·cases y:G2 a with
   |none=>rfl
   |some o=>
    rcases nw a o y with y|y
    ·exact AH g y
    ·exact AH y ha
  ·have:∃v A,some (some (V.ref p))=some (some v)/\RepT K G2 H2 v (.obj c3 ns3 l3 d3) A/\a∈A:=by
    rcases Wm q with rfl|rfl<;>exact w'
   obtain⟨v2,A2,k1,k2,k3⟩:=this;cases k1;rw[<-r3.det k2 λ_ _=>rfl]at k3;rcases sub a k3 with y|y
   ·exact na y
   ·exact ha y
 ·rcases Wm q with rfl|rfl
  ·obtain⟨v,A0,k1,k2,k3,k4⟩:=sl;rw[hp]at k1;cases k1;have eA:p::dx::A=A0:=b.rep.det k2 λ_ _=>rfl
   subst eA;exact⟨.ref p,_,rfl,r3,nd3,λa m=>⟨(h3 a m).1,(sub a m).elim (λz=>(k4 a z).2) λz=>I.there a z⟩⟩
  ·obtain⟨v,A0,k1,k2,k3,k4⟩:=sl;rw[hp]at k1;cases k1;have eA:p::dx::A=A0:=b.rep.det k2 λ_ _=>rfl
   subst eA;obtain⟨k3,p2,y1,y2,y3⟩:=k3;cases y1;exact⟨.ref p,_,rfl,r3,⟨nd3,p,rfl,y2,λ_=>y3 rfl⟩,λa m=>⟨(h3 a m).1,(sub a m).elim (λz=>(k4 a z).2) λz=> .inr ⟨I.there a z,p,rfl,y3 rfl⟩⟩⟩
end
def Cq (F:R->AB (Sl×R))(c:Str)(ns:AA Str)(j:Nat)(ma:MA):ME:=λρ=>match ρ[j]?.bind Sl.ob with
 |some (c',ns',_,_)=>if c'=c/\ns'=ns then(ma ρ).bind λq=>match q.2[j]?.bind Sl.ob with
  |some (c2,ns2,l2,d2)=>(F (.ptr (.obj c2 ns2 l2 d2)::q.1.map .val)).bind λz=>match z with
   |(.val d,.ptr (.obj c3 ns3 l3 d3)::_)=>(q.2[j]?).map λs=>(d,q.2.set j (s.putT (.obj c3 ns3 l3 d3)))
   |_=>none
  |none=>none else none
 |none=>none
def Fq (i:Nat)(c:Str)(ns:AA Str)(F:R->AB (Sl×R))(ma:MA):MS:=λρ=>(ma ρ).bind λq=>(F (.ptr (.obj c [] [] none)::q.1.map .val)).bind λz=>match z with
 |(.val .non,.ptr (.obj c3 ns3 l3 (some d3))::_)=>if c3=c/\ns3=ns then some (.next,q.2.set i (.val (obD c ns l3 d3)))else none
 |_=>none
structure MkO (P:Program)(w:World)(K:W.Frag)(mg:Str->Option Value)(base:Heap)(k:Nat)(c:Str)(sp:Sp):Prop where
 ex:∃C f fd ps,W.nsIn K mainGlobals c=some (some (.ref C))/\mg c=some (.ref C)/\Mk K C f/\FnOk P w K mg base gX k f fd ps sp/\Binds K fd ps []
section
variable {X:Cx}{c x y mt:Str}{ns:AA Str}{a:AI}{es:AA AI}{ma:MA}{p py pos ap tpos:Pos}{k k' n:Nat}{F:R->AB (Sl×R)}
def zj2 (j:Nat)(hc:ns.contains mt=false)(md:MV X.prog X.w X.K X.mg X.base k c mt (hZ X.K n F))(hr:Room k' X.A)(ha:SA X (a::es) ma)(AO:∀ρ as ρ',ma ρ=some (as,ρ')->as.length+1=n)(hN:X.N[j]? =some x:=by rfl)(hv:dP X.env.scope x:=by trivial)(hd:(x==("__debug__":Str))=false:=by decide)(hcd:(x==("__classdict__":Str))=false:=by decide)(hk:k<=k':=by decide)(hst:starEach (a::es) X.env=(false,eval a X.env)::starEach es X.env:=by rfl)(hpl:(backTo pos (starEach es X.env)).any (·.1)=false:=by rfl)(ht : eval (.Call (.Attribute (.Name x p) mt ap) (a :: es) [] pos) X.env = (do
   let ov<-eval (.Name x p) X.env
   standAt ap.atName
   let(f,first)<-holding [ov] (getMethod ov mt pl)
   callWith pos f first (backTo pos (starEach (a::es) X.env)) (backToKw pos (keywordEach [] X.env))):=by rfl):SE X (.Call (.Attribute (.Name x p) mt ap) (a::es) [] pos) (Cq F c ns j ma):=by
 obtain⟨C,f,fdd,ps,c1,c2,c3,c4,c5⟩:=md.ex;refine ha.el λt pa sa=>?_
 refine⟨_,zoZ (eI hN hv hd hcd) c2 c3 c4 (hr.mono hk) c5 .nil tW pa hst hpl ht,λB G H σ ρ d ρ' Q I hm kk=>?_⟩;unfold Cq at hm
 split at hm
 ·rename_i c' ns' ls dk e0
  split at hm
  ·rename_i h;exists h;obtain⟨s0,e1,e2⟩:=SI.obHas e0;obtain⟨q,C2,dx,vs,A,hp,b,nd,ow⟩:=I.obj e1 e2;have h2:=b.nc;rw[c1]at h2;cases h2;obtain⟨⟨as,ρ1⟩,e3,hm2⟩:=uF hm;clear hm;refine⟨.ref q,hp,q,dx,vs,rfl,b.ob,zgi (by rw[b.nm];exact hc),sa B G H σ ρ as ρ1 _ I e3 λG1 H1 us I1 f1 r1=>?_⟩;dsimp only at hm2
   split at hm2
   ·rename_i c2' ns2 l2 d2 e4;refine aP hm2 λz e5 hm3=>?_
    clear hm2
    split at hm3
    ·rename_i d' c3' ns3 l3 d3 rest;refine bB hm3 λs1 e6 e7=>?_
     cases e7;obtain⟨s2,e8,e9⟩:=SI.obHas e4;rw[e6]at e8;cases e8;have hl:=AO _ _ _ e3;rw[qO,<-hl];exact Um I1 e6 e9 hp r1 e5 λG2 H2 v I2 f2 rr=>kk G2 H2 v I2 (f1.trans f2) rr
    ·exact aG hm3
   ·exact aG hm2
  ·exact aG hm
 ·exact aG hm
def Gm (i:Nat)(mk:MkO X.prog X.w X.K X.mg X.base k c (hZ X.K n F))(hr:Room k' X.A)(ha:SA X (a::es) ma)(AO:∀ρ as ρ',ma ρ=some (as,ρ')->as.length+1=n)(hN:X.N.Nodup)(hi:X.N[i]? =some x:=by rfl)(hx:gG X.env.scope x:=by trivial)(hf:X.fn x=true\/X.env.scope.names.lookup x=some .local:=by trivial)(hk:k+1<=k':=by decide)(hg:Gl X c:=by rfl)(hdb:(c==("__debug__":Str))=false:=by decide)(hs:swapsWith (.Call (.Name c p) (a::es) [] pos) (some (.Name x py)) tpos.line X.env=pure false:=by rfl)(hst:starEach (a::es) X.env=(false,eval a X.env)::starEach es X.env:=by rfl)(hpl:(backTo pos (starEach es X.env)).any (·.1)=false:=by rfl):SS X (.Assign [.Name x py] (.Call (.Name c p) (a::es) [] pos) tpos) (Fq i c ns F ma):=by
 obtain⟨C,f,fd,ps,c1,c2,c3,c4,c5⟩:=mk.ex;refine ha.el λt pa sa=>?_
 refine⟨_,Ug hN hi hx (yS c3 c4 (hr.mono hk) hg c2 c5 .nil tW pa hdb hst hpl) hs hf,λB G H σ ρ fl ρ' E I hm kk=>?_⟩;refine aZ hm λas ρ1 e1 hm2=>?_
 clear hm;refine aP hm2 λz e2 hm3=>?_
 clear hm2
 split at hm3
 ·rename_i c3' ns3 l3 d3 rest;refine aT hm3 λh hm3=>?_
  ·skip
   exists h;exists bM hm3;refine sa B G H σ ρ as ρ1 _ I e1 λG1 H1 us I1 f1 r1=>?_
   intro q dx hq hdx nq;have hl:=AO _ _ _ e1;rw[qO,<-hl];have hH:∀b,(upd (upd H1 dx (.own q)) q (.ins C dx [])) b=none->H1 b=none:=λb hb=>by
    by_cases y:b=q
    ·subst y;rw[cW]at hb;cases hb
    ·rw[aW y]at hb
     by_cases y2:b=dx
     ·subst y2;rw[cW]at hb;cases hb
     ·rwa[aW y2]at hb
   have hH2:∀b o,H1 b=some o->(upd (upd H1 dx (.own q)) q (.ins C dx [])) b=some o/\b∉[q,dx]:=λb o hb=>by
    have n1:b≠q:=λz=>by rw[z,hq]at hb;exact aG hb
    have n2:b≠dx:=λz=>by rw[z,hdx]at hb;exact aG hb
    exact⟨by rw[aW n1,aW n2];exact hb,by simp[n1,n2]⟩
   refine Cm (A:=[q,dx]) (t:= .obj _ [] [] none) (λa o ea=>(hH2 a o (I1.fz a o ea)).1) ⟨q,C,dx,[],[],rfl,c1,cW,by rw[aW nq];exact cW,rfl,rfl,rfl⟩ (by simp[Ne.symm nq]) (λa m=>?_) r1 e2 λG2 H2 v A3 f2 fz2 nw kp th r3 nd3 h3 rr=>⟨rr,?_⟩
   ·have:a=q\/a=dx:= ~~~m
    rcases this with rfl|rfl
    ·exact I1.fz.free hq
    ·exact I1.fz.free hdx
   ·have nw':∀b o,G2 b=some o->G1 b≠none\/H1 b=none:=λb o e=>(nw b o e).imp id (hH b)
    have kp':∀b o,H1 b=some o->H2 b=some o:=λb o e=>kp b o (hH2 b o e).1 (hH2 b o e).2
    have I2:=I1.grow f2 fz2 nw' kp';have fr:∀a∈A3,H1 a=none:=λa m=>by
     rcases(h3 a m).2 with y|y
     ·have:a=q\/a=dx:= ~~~y
      rcases this with rfl|rfl
      ·exact hq
      ·exact hdx
     ·exact hH a y
    have hA:∀a∈A3,G2 a=none/\B.H a=none/\Nw X.K G2 H2 σ ρ1 a:=λa m=>⟨(h3 a m).1,I1.there a (fr a m),I1.own_ne (fr a m) nw' kp'⟩
    have fg:=zo2 (G:=G2) (H:=H2) λa m=>(hA a m).1
    obtain⟨q2,C2,dx2,vs2,A2,e4,rfl,b2⟩:=mX r3;cases e4;have I3:=(I2.frzA hA).set (i:=i) (v:= .ref q) (d:=obD c3' ns3 l3 d3) (zlw fg b2.nc (by rw[iX (by simp)];exact b2.ob) b2.nm b2.rp λa m=>iX (by simp[m]));exact kk _ H2 _ I3 (f1.trans (f2.trans fg))
 ·exact aG hm3
end
section
variable {P:AJ}{w:World}{K:AF}{mg:Str->AB AC}{base hp:AK}{c x mt:Str}{st:Stmt}{f:AD}{N:AA Str}{k n:Nat}{m:MS}
def MAtC (K:AF)(c mt q:Str)(st:Stmt):Prop:=∃C f fd,W.nsIn K AL c=some (some (.ref C))/\Cls K C/\Meth K C mt f/\Fun K mt q st f fd
theorem MAtC.mk {q:Str}{od an:AB AD}{kV doc pm cdv ct:AC}(n:W.nsIn K AL c=some (some (.ref C)))(cl:Cls K C)(a:W.findIn K (.ref C) mt=some (some (.ref f)))(i:W.isFn K (.ref f)=true)(l:K.lookup f=some ⟨oc,od,.func (W.fnOf mt q (za7 st) (zaH st) (zao st) .none kV doc pm an cdv ct),osl⟩)(cc:W.codeIn K cdv q=true)(k:W.keepIn K (.ref f)=true):MAtC K c mt q st:=⟨C,f,_,n,cl,⟨a,i,k⟩,zoH l cc k⟩
theorem mvG {q:Str}(h:MAtC K c mt q st)(b:Bd P w K mg base q st N k m)(d:DefOkM mt q st N n:=by exact⟨⟨rfl,rfl,rfl,by decide+kernel,rfl,by decide+kernel,by decide+kernel⟩,rfl,by decide,λ_ _ _ _ _ _=>by first|exact aM λ_=>bI rfl|exact aM λ_=>aM λ_=>bI rfl|exact aM λ_=>aM λ_=>aM λ_=>bI rfl|exact aM λ_=>aM λ_=>aM λ_=>aM λ_=>bI rfl⟩):MV P w K mg base (k+1) c mt (hZ K n (fG N.length m)):=
 let⟨C,f,fd,a1,a2,a3,T⟩:=h
 ⟨⟨C,f,fd,_,a1,a2,a3,nU T d.sc d.len d.le λcdv A outer s H E hr=>b _ cdv A outer s H E hr d.sc.nd,T.binds d.bs⟩⟩
theorem mvP {q:Str}(h:MAtC K c mt q st)(b:Bd P w K mg base q st N k m)(d:DefOkM mt q st N n:=by exact⟨⟨rfl,rfl,rfl,by decide+kernel,rfl,by decide+kernel,by decide+kernel⟩,rfl,by decide,λ_ _ _ _ _ _=>by first|exact aM λ_=>bI rfl|exact aM λ_=>aM λ_=>bI rfl|exact aM λ_=>aM λ_=>aM λ_=>bI rfl|exact aM λ_=>aM λ_=>aM λ_=>aM λ_=>bI rfl⟩):MV P w K mg base (k+1) c mt (aX K n (fP N.length m)):=
 let⟨C,f,fd,a1,a2,a3,T⟩:=h
 ⟨⟨C,f,fd,_,a1,a2,a3,zpd T d.sc d.len d.le λcdv A outer s H E hr=>b _ cdv A outer s H E hr d.sc.nd,T.binds d.bs⟩⟩
structure IAtC (K:W.Frag)(mg:Str->Option Value)(c q:Str)(st:Stmt):Prop where
 ex:∃C f fd,W.nsIn K mainGlobals c=some (some (.ref C))/\mg c=some (.ref C)/\Mk K C f/\Fun K "__init__" q st f fd
theorem mkG {q:Str}(h:IAtC K mg c q st)(b:Bd P w K mg base q st N k m)(d:DefOkM "__init__" q st N n:=by exact⟨⟨rfl,rfl,rfl,by decide+kernel,rfl,by decide+kernel,by decide+kernel⟩,rfl,by decide,λ_ _ _ _ _ _=>by first|exact aM λ_=>bI rfl|exact aM λ_=>aM λ_=>bI rfl|exact aM λ_=>aM λ_=>aM λ_=>bI rfl|exact aM λ_=>aM λ_=>aM λ_=>aM λ_=>bI rfl⟩):MkO P w K mg base (k+1) c (hZ K n (fG N.length m)):=
 let⟨C,f,fd,a1,a2,a3,T⟩:=h.ex
 ⟨⟨C,f,fd,_,a1,a2,a3,nU T d.sc d.len d.le λcdv A outer s H E hr=>b _ cdv A outer s H E hr d.sc.nd,T.binds d.bs⟩⟩
end
def jF (i j:Int):Bool:=decide (i.natAbs.log2<60000000)&&decide (j.natAbs.log2<60000000)
def zpr {i j:Int}(h:jF i j=true):IntMulOk i j:=by
 unfold jF at h;rw[cD,kJ,kJ]at h;have bits:∀k,k.natAbs.log2<60000000->Builtin.Int.intBits k<=60000000:=λk h=>by
  unfold Builtin.Int.intBits
  split
  ·exact gK _
  ·lia
 have b1:=bits i h.1;have b2:=bits j h.2;unfold IntMulOk;intro z;simp only[cD]at z;have z2:=z.2;unfold Builtin.Int.intTooBig at z2
 revert z2
 generalize Builtin.Int.intBits i=p at*
 generalize Builtin.Int.intBits j=q at*
 intro z2;have z3:=Oi z2;have hb:=bitsLine_eq;lia
def Ba:D->D->AB D:=iC jF λi j=> .int (i*j)
def Tz (j:Int):Bool:=decide (j≠0)&&decide (j.natAbs.log2<9000)
def qL:OpR X (binaryOp .FloorDiv) (rI (λ_ j=>j≠0/\j.natAbs.log2<9000) λi j=> .int (i.fdiv j)):=Df λi j _ _ _ _ _ hc q=>
 PyProof.Rows.floordiv_int hc.1 q (.inl (PyProof.noPylong_of_log2 hc.2))
def Hj:D->D->AB D:=iC (λ_ j=>Tz j) λi j=> .int (i.fdiv j)
def qS:D->D->AB D:=iC (λ_ j=>decide (j≠0)) λi j=> .int (i.fmod j)
section
variable {X:Cx}{a b:AI}{ma mb:ME}{pos:Pos}
def Lj (ha:SE X a ma)(hb:SE X b mb):SE X (.BinOp a .Mult b pos) (m2 Ba ma mb):=lO op_mulG (Ci λi j h=>zpr h) ha hb
def Xq (ha:SE X a ma)(hb:SE X b mb):SE X (.BinOp a .FloorDiv b pos) (m2 Hj ma mb):=lO qL (Ci λi j h=>by simpa[Tz]using h) ha hb
def zY (ha:SE X a ma)(hb:SE X b mb):SE X (.BinOp a .Mod b pos) (m2 qS ma mb):=lO Ad (Ci λi j h=> ~~~h) ha hb
end
section
variable {X:Cx}{elt tg iter:AI}{ifs:AA AI}{scope:Scope}{lpos pos pos':Pos}{mi:MA}{g:D->R->AB R}{mt:MT}{me:ME}
def zkc (j i:Nat)(cap:AA Nat)(t:Nat)(N:AA Str)(hc:X.calm=true)(hi:SIt X tg iter mi)(hg:∀C s H fp,SG (cF X N scope C s H fp) tg g)(ht:∀C s H fp,Dk (cF X N scope C s H fp) ifs mt)(he:∀C s H fp,SE (cF X N scope C s H fp) elt me)(hN:X.N.Nodup)(hxi:X.N[i]? =some x:=by rfl)(hx:gG X.env.scope x:=by trivial)(hf:X.fn x=true\/X.env.scope.names.lookup x=some .local:=by trivial)(hsw:swapsWith (.ListComp elt [⟨tg,iter,ifs,0⟩] scope lpos) (some (.Name x pos')) pos.line X.env=pure true:=by rfl)(hk:scope.kind= .function:=by rfl)(hb:jB X.env scope=true:=by kernel_rfl)(hcap:jL scope.names N X.N cap t=true:=by kernel_rfl)(hs:∀x,foldedSetIterable iter X.env x=pure x:=by exactλ_=>rfl):SS X (.Assign [.Name x pos'] (.ListComp elt [⟨tg,iter,ifs,0⟩] scope lpos) pos) (aN i (cE (gW j (cT cap t mi g mt me)))):=by
  refine hi.el λwi pi si=>?_
  refine⟨_,zjA hN hxi hx hf hsw hc (Th hk hb) (Wx hcap) pi (λC s H fp=>(hg C s H fp).choose_spec.1) (λC s H fp=>(ht C s H fp).choose_spec.1) (λC s H fp=>(he C s H fp).choose_spec.1) hs,λB G H σ ρ fl ρ' E I hm k=>?_⟩;refine iM hm λd ρ1 e1 e3=>?_
  refine iM e1 λds ρ2 e4 e5=>?_
  exists Prod.mk.inj e5;exists Prod.mk.inj e3;refine zit j (zhq si (.mk' hg ht he)) B G H σ ρ ds ρ2 _ I e4 λG1 H1 l xs I1 f1 g1 h1 r1 b1 n1=>?_
  obtain⟨I2,f2,r2⟩:=Gh I1 g1 h1 r1 b1 n1;exact k _ H1 _ (I2.set r2) (f1.trans f2)
end
def slC:Str:="Slant"
def slN:AA Str:=["block","weights","ways","backs","slants"]
theorem OC.take {K:AF}(h:OC K c ns)(k:Nat):OC K c (ns.take k):=by
 obtain⟨C,c1,c2,c3⟩:=h;exact⟨C,c1,c2,λf m=>c3 f (qcS m)⟩
def fR:Nat:=2^10000
end M
namespace M
open L2 PySem
open PyProof.Rows hiding St
def Dy (K:AF):AA V->Hp->VK->Prop:=λxs H Q=>∃(p:AD) (ns:AA Int),xs=[.ref p]/\(SqL K H p (ns.map V.int)\/SqT K H p (ns.map V.int))/\Q (.bl (ns.any λn=>n !=0)) H
def zpC (hc:X.calm=true):iA X (.builtin "any") (Dy X.K):=by
 intro AM s σ H xs us Q I r h;obtain⟨p,ns,rfl,hq,q⟩:=h;obtain⟨u,rfl,ru⟩:=oU r;cases ru;refine call_any_walk (Va (A:=X.A.in1) (I.ok.hd hc) I hq λits s₂ St rv W st hfp fin=>?_);have hl:=rv.length;rw[cO]at hl;refine⟨_,_,_,_,_,_,λi=>((ns.map λn=>n !=0)[i]?).getD false,rfl,W,st,λi v s' Q' E' hP hQ=>?_,λh' tk hk=>⟨.bl (ns.any λn=>n !=0),H,fin h' tk hk,?_,q⟩⟩
 ·have hi:i<its.length:=(qat.mp hP).1;have e2:(ns.map V.int)[i]? =some (.int ns[i]):=by rw[cR,bA ∅];rfl
  obtain⟨u,h1,h2⟩:=rv.get e2;rw[hP]at h1;cases h1;obtain⟨t,rfl⟩:=(show ∃t,v=Value.int ns[i] t from h2);have e3:(ns.map λn=>n !=0)[i]? =some (ns[i] !=0):=by rw[cR,bA ∅];rfl
  simp only[e3,Nv]at hQ;exact PySem.P.truthy_int hQ
 ·have h2:its.length=(ns.map λn=>n !=0).length:=by rw[cO];lia
  rw[h2,LSm.range_any,List.any_map];rfl
def Px:AA D->AB D
 |[d]=>(eO [d]).bind λds=>(eG ds).map λns=> .bl (ns.any λn=>n !=0)
 |_=>none
def wG :VC X (Dy X.K) Px:=by
 intro B G H σ ρ xs ds d Q I r hf k
 match ds,hf with
 |[a],hf=>
  refine aP hf λes e1 hf=>?_
  refine bB hf λns e2 e3=>?_
  subst e3;obtain⟨x,rfl,ra⟩:=r.one;obtain⟨p,ys,rfl,hq,ry⟩:=zhy I ra e1;rw[Rn e2]at ry;rw[RepL.ints_eq ry]at hq;exact⟨p,ns,rfl,hq,k G H _ I (Fz.refl G) rfl⟩
 |[],hf=>exact aG hf
 |_::_::_,hf=>exact aG hf
def zpH (hc:X.calm=true)(ml:X.mg "any"=none)(ha:SA X [e] ma)(hg:Gl X "any":=by rfl)(he:starEach [e] X.env=(false,eval e X.env)::starEach [] X.env:=by rfl):SE X (.Call (.Name "any" p) [e] [] pos) (mC Px ma):=
 Bq (zpC hc) wG (by decide+kernel) ml ha hg (by decide) (by decide) he rfl
end M
namespace M
open L2 PySem PySem.Spec
open PyProof.Rows hiding St
def pG (j a b c:Nat)(F:AA D->AA D->AB (Sl×AA D))(ma:MA):MS:=λρ=>if(ρ[j]?.bind Sl.items).isSome then(ma ρ).bind λp=>p.2[j]?.bind λs=>s.items.bind λcs=>(F cs p.1).bind λr=>match r.1 with
 | .val (.tup [x,y,z])=>some (.next,(((p.2.set j (s.put r.2)).set a (.val x)).set b (.val y)).set c (.val z))
 | .tre (.tup [.d x,.d y,.l ds])=>some (.next,(((p.2.set j (s.put r.2)).set a (.val x)).set b (.val y)).set c (.own ds))
 |_=>none else none
def Yl (i a b c:Nat)(F:AA D->AB Sl):MS:=λρ=>match ρ[a]?,ρ[b]?,ρ[c]? with
 |some (.val x),some (.val y),some (.val .non)=>(F [x,y,.non]).bind λr=>match r with
  | .own ds=>some (.next,ρ.set i (.own ds))
  |_=>none
 |some (.val x),some (.val y),some (.own ds)=>some (.next,(ρ.set c .emp).set i (.own ds))
 |_,_,_=>none
def gL (n:Nat)(g:AA D->R->AB R):D->R->AB R:=λd ρ=>match d with
 | .lst ds=>if ds.length=n then g ds ρ else none
 |_=>none
def zE (hc:X.calm=true)(h:SGs X es g)(hn:(assignEach es X.env).length=n:=by rfl)(hst:(assignEach es X.env).findIdx? (·.1)=none:=by rfl):SG X (.Tuple es k pos) (gL n g):=by
 refine h.el λt p s=>?_
 refine⟨_,uL hc p hn hst,λB G H σ ρ v d ρ' Q I r hm k=>?_⟩;cases d<;>try exact aG hm
 rename_i ds;simp only[gL]at hm;refine aT hm λhl hm=>?_
 obtain⟨a,xs,e,ha,rx⟩:=I.lst r;exact⟨a,xs,e,SqL.of ha,by rw[rx.length];exact hl,s B G H σ ρ xs ds ρ' Q I rx hm k⟩
def spW (K:AF)(F:AA D->AB Sl):Sp:=λvs H Q E=>aX K 3 F vs H Q E\/∃a b p,vs=[a,b,.ref p]/\Q (.ref p) H
theorem zgF {K:AF}{G H:Hp}{xs:AA V}{c:Ch}{cs:AA Ch}{A:AA AD}(h:RepCs K G H xs (c::cs) A):∃u ws,xs=u::ws/\∃A1 A2,RepC K G H u c A1/\RepCs K G H ws cs A2/\A=A1++A2:=by
 cases xs with
 |nil=>exact h.elim
 |cons u ws=>exact⟨u,ws,rfl,h⟩
section
variable {X:Cx}{x y xa xb xc:Str}{p py pos pos' pa pb pc tp:Pos}{es:AA AI}{ma:MA}{k k' n:Nat}{F:AA D->AA D->AB (Sl×AA D)}
theorem Lp {q:Nat}(j a b c:Nat)(hc:X.calm=true)(fd:FD X.prog X.w X.K X.mg X.base k x (gH X.K n F))(hr:Room k' X.A)(ha:SA X es ma)(AO:∀ρ as ρ',ma ρ=some (as,ρ')->as.length+1=n)(hnd:X.N.Nodup)(hN:X.N[j]? =some y:=by rfl)(hv:dP X.env.scope y:=by trivial)(hd:(y==("__debug__":Str))=false:=by decide)(hcd:(y==("__classdict__":Str))=false:=by decide)(hia:X.N[a]? =some xa:=by rfl)(hxa:gG X.env.scope xa:=by trivial)(hfa:X.fn xa=true\/X.env.scope.names.lookup xa=some .local:=by trivial)(hib:X.N[b]? =some xb:=by rfl)(hxb:gG X.env.scope xb:=by trivial)(hfb:X.fn xb=true\/X.env.scope.names.lookup xb=some .local:=by trivial)(hic:X.N[c]? =some xc:=by rfl)(hxc:gG X.env.scope xc:=by trivial)(hfc:X.fn xc=true\/X.env.scope.names.lookup xc=some .local:=by trivial)(hk:k<=k':=by decide)(hg:Gl X x:=by rfl)(hdb:(x==("__debug__":Str))=false:=by decide)(he:starEach (.Name y py::es) X.env=(false,eval (.Name y py) X.env)::starEach es X.env:=by rfl)(hpl:(backTo pos (starEach es X.env)).any (·.1)=false:=by rfl)(hs:swapsWithSole [.Tuple [.Name xa pa,.Name xb pb,.Name xc pc] q tp] (.Call (.Name x p) (.Name y py::es) [] pos) pos'.line X.env=pure false:=by rfl)(hw:swappedStores [.Tuple [.Name xa pa,.Name xb pb,.Name xc pc] q tp] (.Call (.Name x p) (.Name y py::es) [] pos) X.env=pure none:=by rfl)(h1:(assignEach [.Tuple [.Name xa pa,.Name xb pb,.Name xc pc] q tp] X.env).map (·.2)=[assign (.Tuple [.Name xa pa,.Name xb pb,.Name xc pc] q tp) X.env]:=by rfl)(h2:(assignEach [.Name xa pa,.Name xb pb,.Name xc pc] X.env).length=3:=by rfl)(h3:(assignEach [.Name xa pa,.Name xb pb,.Name xc pc] X.env).findIdx? (·.1)=none:=by rfl)(h4:(assignEach [.Name xa pa,.Name xb pb,.Name xc pc] X.env).map (·.2)=assign (.Name xa pa) X.env::(assignEach [.Name xb pb,.Name xc pc] X.env).map (·.2):=by rfl)(h5:(assignEach [.Name xb pb,.Name xc pc] X.env).map (·.2)=assign (.Name xb pb) X.env::(assignEach [.Name xc pc] X.env).map (·.2):=by rfl)(h6:(assignEach [.Name xc pc] X.env).map (·.2)=assign (.Name xc pc) X.env::(assignEach [] X.env).map (·.2):=by rfl):
  SS X (.Assign [.Tuple [.Name xa pa,.Name xb pb,.Name xc pc] q tp] (.Call (.Name x p) (.Name y py::es) [] pos) pos') (pG j a b c F ma):=by
 obtain⟨f,fdd,ps,G0,g1,g2,g3⟩:=fd.ex;refine ha.el λt pt sa=>?_
 refine⟨_,Zz (Ol G0 (hr.mono hk) hg g1 g2 g3 .nil tW (iG (eI hN hv hd hcd) pt he) hdb he hpl) (tI hc (zhv (Yt hnd hia hxa hfa) (zhv (Yt hnd hib hxb hfb) (zhv (Yt hnd hic hxc hfc) zpq h6) h5) h4) h2 h3) hs hw h1,λB G H σ ρ fl ρ' E I hm kk=>?_⟩;unfold pG at hm;refine aT hm λhso hm=>?_
 obtain⟨ds0,hso⟩:=qa0.mp hso;refine aZ hm λas ρ1 e1 hm=>?_
 refine aP hm λs e2 hm=>?_
 refine aP hm λcs e3 hm=>?_
 refine aZ hm λr out e4 hm=>?_
 refine qG sa AO I hso e1 e2 e3 e4 λG2 H2 v I2 f2 _ ⟨H1,rr,bb,nn⟩=>?_
 dsimp only at hm
 split at hm
 ·rename_i d1 d2 d3 _;exists bM hm;obtain⟨t0,ws,rfl,w1,w2⟩:=(show RepD X.K G2 v (.tup [d1,d2,d3])from rr);obtain⟨u1,ws,rfl,r1,u2,ws,rfl,r2,u3,ws,rfl,r3,rfl⟩:=w2;exact⟨t0,_,rfl,SqT.of (I2.fz _ _ w1),rfl,_,_,rfl,_,_,rfl,_,_,rfl,rfl,kk G2 H2 _ (((I2.set r1).set r2).set r3) f2⟩
 ·rename_i d1 d2 ds _;exists bM hm;obtain⟨A,q1,q2,q3⟩:=rr;obtain⟨t0,ws,A',rfl,w1,w2,rfl⟩:=q1;obtain⟨u1,ws,rfl,B1,B2,⟨c1,rfl⟩,w3,rfl⟩:=zgF w2;obtain⟨u2,ws,rfl,B3,B4,⟨c2,rfl⟩,w4,rfl⟩:=zgF w3;obtain⟨u3,ws,rfl,B5,B6,⟨l,xs,rfl,c3,c4,rfl⟩,w5,rfl⟩:=zgF w4;obtain rfl:ws=[]:=by
   cases ws with
   |nil=>rfl
   |cons _ _=>exact w5.elim
  have ml:l∈t0::([]++([]++([l]++B6))):=by simp
  have gl:=q3 l ml;refine⟨t0,_,rfl,SqT.of w1,rfl,_,_,rfl,_,_,rfl,_,_,rfl,rfl,kk G2 H2 _ (((I2.set c1).set c2).setO gl.1 c3 c4 (bb l gl.2) λi s es w=>?_) f2⟩
  by_cases zb:i=b
  ·subst zb;rw[jR,if_pos rfl]at es
   split at es
   ·cases es;exact w
   ·exact aG es
  ·rw[iD (Ne.symm zb)]at es w
   by_cases za:i=a
   ·subst za;rw[jR,if_pos rfl]at es
    split at es
    ·cases es;exact w
    ·exact aG es
   ·rw[iD (Ne.symm za)]at es w;exact nn l gl.2 i s es w
 ·exact aG hm
end
section
variable {P:AJ}{w:World}{K:AF}{mg:Str->AB AC}{base:AK}{x y:Str}{st:Stmt}{hp:AK}{N:AA Str}{k:Nat}{m:MS}{rest:AA Stmt}{j1}{p1 p2 p3 p4 p5 p6:Pos}
def fdW (X:K.In hp)(G:hp.Ns AL mg)(h:FnAt K x st)(b:∀(f:AD) (cdv:AC) (A:Around) (outer:AA Env) (s:AE) (H:Hp) (E:XK),Room k (A.deeper (PyProof.Rows.envOfC x (zao st) s⁻¹ f cdv))->N.Nodup->SSs (fC gX P w K mg base N x (zao st) f cdv A outer s H E).nox rest m)(hst:zaH st= .If (.Compare (.Name y p1) [.IsNot] [.Constant .none j1 p2] p3) [.Return (some (.Name y p4)) p5] [] p6::rest:=by rfl)(hN2:N[2]? =some y:=by rfl)(hv:dP (zao st) y:=by trivial)(hd:(y==("__debug__":Str))=false:=by decide)(hcd:(y==("__classdict__":Str))=false:=by decide)(hm:behindInMarks .IsNot (.Constant .none j1 p2)=false:=by rfl)(d:DefOk x st N 3:=by exact⟨⟨rfl,rfl,rfl,by decide+kernel,rfl,by decide+kernel,by decide+kernel⟩,rfl,by decide,λ_ _ _ _ _ _=>aM λ_=>aM λ_=>aM λ_=>bI rfl⟩):
  FD P w K mg base (k+1) x (spW K (fP N.length (aI (eD (aO (m2 wC (aA 2) (eC .non))) (pE 2) eN) m))):=by
 obtain⟨f,fd,a,T⟩:=h;refine⟨⟨f,fd,_,?_,W.mg_of X G a,T.kp,T.binds d.bs⟩⟩;refine T.ok d.sc (λvs H Q E h=>?_) (λcdv A outer s H vs Q E hr h=>?_)
 ·rcases h with⟨G,ds,r,_,h2,_,h4,_⟩|⟨_,_,_,rfl,_⟩
  ·rw[h4.length,h2,d.len]
  ·rw[d.len];rfl
 ·rw[hst];rcases h with⟨G,ds,r,e1,h2,fz,h4,kk⟩|⟨u1,u2,q,rfl,hq⟩
  ·obtain⟨t,pt,so⟩:=aR (fE (zmq (pos:=p3) (aD 2 hN2 hv hd hcd) Nh hm) (aV (Fo 2 hN2 hv hd hcd)) fZ) (b _ cdv A outer s H E hr d.sc.nd);refine⟨t,pt,?_⟩;refine aZ e1 λfl ρ' e2 e3=>?_
   refine so ⟨G,H,[]⟩ G H (L2.start N vs) _ fl ρ' _ (SI.start fz h4 (by have:=d.le;lia)) e2 ?_;have fin:∀G' H' σ' v,SI K ⟨G,H,[]⟩ G' H' σ' ρ'->Fz G G'->ResF K G' H' H v r->Q v H':=λG' H' σ' v I f rr=>kk G' H' v f I.fz I.new (λb o e=>I.keep b o e (by simp)) rr
   cases fl with
   |next=>cases e3;exactλG' H' σ' I f=>fin G' H' σ' .non I f rfl
   |brk=>exact aG e3
   |cont=>exact aG e3
   |ret r'=>
    cases e3;refineλG' H' σ' v I f rr=>fin G' H' σ' v I f ?_
    cases r with
    |val d=>exact rr
    |own ds=>exact rr
    |emp=>exact rr
    |two _ _=>exact rr
    |tre _=>exact rr
    |ptr _=>exact rr
    |par ds=>exact rr
  ·obtain⟨t,pt,so⟩:=b _ cdv A outer s H E hr d.sc.nd;have s2:(L2.start N [u1,u2,.ref q])[2]? =some (some (.ref q)):=rfl;exact⟨_,zjp (Ca (zof znW (eI hN2 hv hd hcd) sN hm) (zjp (Sg (eI hN2 hv hd hcd)) zlk) zlk) pt,.ref q,s2,rfl,_,rfl,.ref q,s2,hq⟩
end
section
variable {X:Cx}{x xa xb xc xi:Str}{p pa pb pc pi pos:Pos}{k k':Nat}{F:AA D->AB Sl}
def As (i a b c:Nat)(fd:FD X.prog X.w X.K X.mg X.base k x (spW X.K F))(hr:Room k' X.A)(hnd:X.N.Nodup)(hi:X.N[i]? =some xi:=by rfl)(hxi:gG X.env.scope xi:=by trivial)(hfi:X.fn xi=true\/X.env.scope.names.lookup xi=some .local:=by trivial)(hia:X.N[a]? =some xa:=by rfl)(hva:dP X.env.scope xa:=by trivial)(hda:(xa==("__debug__":Str))=false:=by decide)(hca:(xa==("__classdict__":Str))=false:=by decide)(hib:X.N[b]? =some xb:=by rfl)(hvb:dP X.env.scope xb:=by trivial)(hdb:(xb==("__debug__":Str))=false:=by decide)(hcb:(xb==("__classdict__":Str))=false:=by decide)(hic:X.N[c]? =some xc:=by rfl)(hvc:dP X.env.scope xc:=by trivial)(hdc:(xc==("__debug__":Str))=false:=by decide)(hcc:(xc==("__classdict__":Str))=false:=by decide)(hk:k<=k':=by decide)(hg:Gl X x:=by rfl)(hdx:(x==("__debug__":Str))=false:=by decide)(h1:starEach [.Name xa pa,.Name xb pb,.Name xc pc] X.env=(false,eval (.Name xa pa) X.env)::starEach [.Name xb pb,.Name xc pc] X.env:=by rfl)(h2:starEach [.Name xb pb,.Name xc pc] X.env=(false,eval (.Name xb pb) X.env)::starEach [.Name xc pc] X.env:=by rfl)(h3:starEach [.Name xc pc] X.env=(false,eval (.Name xc pc) X.env)::starEach [] X.env:=by rfl)(hpl:(backTo pos (starEach [.Name xb pb,.Name xc pc] X.env)).any (·.1)=false:=by rfl)(hs:swapsWith (.Call (.Name x p) [.Name xa pa,.Name xb pb,.Name xc pc] [] pos) (some (.Name xi pi)) pos'.line X.env=pure false:=by rfl):
  SS X (.Assign [.Name xi pi] (.Call (.Name x p) [.Name xa pa,.Name xb pb,.Name xc pc] [] pos) pos') (Yl i a b c F):=by
 obtain⟨f,fdd,ps,G0,g1,g2,g3⟩:=fd.ex;refine⟨_,Ug hnd hi hxi (Ol G0 (hr.mono hk) hg g1 g2 g3 .nil tW (iG (eI hia hva hda hca) (iG (eI hib hvb hdb hcb) (iG (eI hic hvc hdc hcc) oP h3) h2) h1) hdx h1 hpl) hs hfi,λB G H σ ρ fl ρ' E I hm kk=>?_⟩;unfold Yl at hm
 split at hm
 ·rename_i d1 d2 e1 e2 e3;obtain⟨v1,a1,r1⟩:=I.slot a _ e1;obtain⟨v2,a2,r2⟩:=I.slot b _ e2;obtain⟨v3,a3,r3⟩:=I.slot c _ e3;refine aP hm λr e4 hm=>?_
  refine⟨v1,a1,v2,a2,v3,a3,?_⟩;refine .inl ⟨G,[d1,d2,.non],r,e4,rfl,I.fz,⟨v1,_,rfl,r1,v2,_,rfl,r2,v3,_,rfl,r3,rfl⟩,λG2 H2 v f2 fz2 nw kp rr=>?_⟩;have I2:=I.grow f2 fz2 nw kp;cases r with
  |own ds=>
   exists bM hm;obtain⟨l,xs,rfl,g3,h3,r3,b3⟩:=rr;exact kk G2 H2 _ (I2.setO g3 h3 r3 (I.there l b3) (I.own_ne b3 nw kp)) f2
  |val d=>exact aG hm
  |emp=>exact aG hm
  |two _ _=>exact aG hm
  |tre _=>exact aG hm
  |ptr _=>exact aG hm
  |par _=>exact aG hm
 ·rename_i d1 d2 ds e1 e2 e3;obtain⟨v1,a1,r1⟩:=I.slot a _ e1;obtain⟨v2,a2,r2⟩:=I.slot b _ e2;obtain⟨l,xs,a3,g3,h3,r3,b3⟩:=I.slot c _ e3;exists bM hm;refine⟨v1,a1,v2,a2,.ref l,a3,?_⟩;refine .inr ⟨v1,v2,l,rfl,?_⟩;exact kk G H _ ((I.emp c).setO g3 h3 r3 b3 (znG I e3 a3)) (Fz.refl G)
 ·exact aG hm
end
def rT (j:Nat):MO:=λρ=>match ρ[j]? with
 |some (.own ds)=>some (ds,ρ)
 |_=>none
def Mz (j:Nat)(ml:X.mg "list"=none)(hNy:X.N[j]? =some x:=by rfl)(hv:dP X.env.scope x:=by trivial)(hd:(x==("__debug__":Str))=false:=by decide)(hcd:(x==("__classdict__":Str))=false:=by decide)(hg:Gl X "list":=by rfl)(he:starEach [.Name x p'] X.env=(false,eval (.Name x p') X.env)::starEach [] X.env:=by rfl)(hbt:bootBuiltins "list"=some (.type "list"):=by decide+kernel):SO X (.Call (.Name "list" p) [.Name x p'] [] pos) (rT j):=by
 refine⟨_,Pc zkx hg ml hbt (iG (eI hNy hv hd hcd) oP he) (by decide) (by decide) he rfl,λB G H σ ρ ds ρ' Q I hm k=>?_⟩;unfold rT at hm
 split at hm
 ·rename_i ds0 e;exists bM hm;obtain⟨l,xs,h1,h2,h3,h4,h5⟩:=I.slot j _ e;refine⟨.ref l,h1,l,xs,rfl,.inl (SqL.of h3),λp hp=>?_⟩;obtain⟨I2,g3,h3',b3,n3⟩:=I.newO hp xs;exact k G _ p xs I2 (Fz.refl G) g3 h3' h4 b3 n3
 ·exact aG hm
end M
namespace M
open L2 PySem
variable {c d x:D}{z:Bool}{Q:AA D×R->Prop}{g:D->R->AB R}{mt:MT}{me m:ME}{ρ:R}{r:Sl}{i n j t N k:Nat}{h:AA D->R->AB R}{ds l:AA D}{mi ma:MA}{F:AA D->AB Sl}{cap:AA Nat}{o:AB (D×R)}{f:D->R->AB (AB D×R)}{I:R->Prop}
abbrev Rt {α:Type}(_:α->Prop):Type:=AB α
def OkQ {α:Type}(Q:α->Prop)(o:Rt Q):Prop:=match(o:AB α)with
 |some a=>Q a
 |none=>False
def Ok {α:Type}(o:AB α)(Q:α->Prop):Prop:=OkQ Q o
abbrev RtS {α:Sort u}(_:α):Type:=AB Sl
section
variable {α β:Type}{o:AB α}{Q Q':α->Prop}
theorem ok_some {a:α}:OkQ Q (some a)=Q a:=rfl
theorem Av:OkQ Q (none:AB α)=False:=rfl
theorem ok_bind {f:α->AB β}{Q:β->Prop}:OkQ Q (o.bind f)=OkQ (λa=>OkQ Q (f a)) o:=by
 cases o with
 |none=>rfl
 |some a=>rfl
theorem ok_map {f:α->β}{Q:β->Prop}:OkQ Q (o.map f)=OkQ (λa=>Q (f a)) o:=by
 cases o with
 |none=>rfl
 |some a=>rfl
def OkQ.ex (h:OkQ Q o):∃a,o=some a/\Q a:=by
 cases o with
 |none=>exact h.elim
 |some a=>exact⟨a,rfl,h⟩
def Ok.ex (h:Ok o Q):∃a,o=some a/\Q a:=OkQ.ex h
theorem yZ {c:Prop}[Decidable c]:OkQ Q (if c then o else none)=(c/\OkQ Q o):=by
 by_cases h:c
 ·rw[if_pos h];exact propext ⟨λk=>⟨h,k⟩,λk=>k.2⟩
 ·rw[if_neg h];exact propext ⟨λk=>k.elim,λk=>AH k.1 h⟩
theorem Ia:Ok o Q=OkQ Q o:=rfl
def gd {α:Type}(b:Bool)(o:AB α):AB α:=if b then o else none
theorem Vg {b:Bool}(h:b=true):OkQ Q (gd b o)=OkQ Q o:=by subst h;rfl
def Ok.mono (h:Ok o Q)(k:∀a,Q a->Q' a):Ok o Q':=by
 obtain⟨a,rfl,q⟩:=h.ex;exact k a q
def iY {Q':α->Prop}(h:∀a,Q a=Q' a):OkQ Q o=OkQ Q' o:=by rw[funext h]
end
section
variable {c:MT}{a b:MS}{ρ:R}
theorem Rb {α:Type}{o u:AB α}{Q:α->Prop}:OkQ Q (if z then o else u)=((z=true->OkQ Q o)/\(z=false->OkQ Q u)):=by cases z<;>simp
theorem Bl {a b:MT}{Q:Bool×R->Prop}:OkQ Q (kN a b ρ)=(OkQ (λp=>(p.1=true->OkQ Q (b p.2))/\(p.1=false->Q (false,p.2))) (a ρ)):=by
 unfold kN;rw[ok_bind];exact iY λp=>by rw[Rb,ok_some]
theorem Mo {a b:MT}{Q:Bool×R->Prop}:OkQ Q (gY a b ρ)=(OkQ (λp=>(p.1=true->Q (true,p.2))/\(p.1=false->OkQ Q (b p.2))) (a ρ)):=by
 unfold gY;rw[ok_bind];exact iY λp=>by rw[Rb,ok_some]
theorem uZ {a b:ME}{Q:D×R->Prop}:OkQ Q (lG a b ρ)=(OkQ (λp=>∃z,p.1= .bl z/\(z=true->OkQ Q (b p.2))/\(z=false->Q (.bl false,p.2))) (a ρ)):=by
 unfold lG;rw[ok_bind];have:∀p:D×R,Ok (match p.1 with
  | .bl true=>b p.2
  | .bl false=>some (.bl false,p.2)
  |_=>none) Q↔∃z,p.1= .bl z/\(z=true->Ok (b p.2) Q)/\(z=false->Q (.bl false,p.2)):=by
  rintro⟨d,ρ⟩;cases d with
  |bl z=>cases z<;>simp[Ia,ok_some]
  |_=>simp[Ia,Av]
 exact iY λp=>propext (this p)
theorem pL {Q:AB D×R->Prop}:OkQ Q (kC g mt me d ρ)=(OkQ (λρ1=>OkQ (λp=>(p.1=true->OkQ (λq=>hX q.2=true/\Q (some q.1,q.2)) (me p.2))/\(p.1=false->hX p.2=true/\Q (none,p.2))) (mt ρ1)) (g d ρ)):=by
 unfold kC;rw[ok_bind];exact iY λρ1=>by rw[ok_bind];exact iY λp=>by rw[Rb,ok_bind,yZ,ok_some];congr 1;exact propext (imp_congr Iff.rfl (iff_of_eq (iY λq=>by rw[yZ,ok_some])))
theorem zm0 (n:Nat):Int.natAbs (no_index (OfNat.ofNat n))=n:=rfl
end
section
def Ly (b:MS)(Q:Fl×R->Prop)(p:Fl×R):Prop:=OkQ Q (match p.1 with
 | .next=>b p.2
 |f=>some (f,p.2))
theorem zpe {b:MS}{Q:Fl×R->Prop}:Ly b Q (.next,ρ)=(OkQ Q (b ρ)):=rfl
theorem rY {b:MS}{Q:Fl×R->Prop}:Ly b Q (.ret r,ρ)=(Q (.ret r,ρ)):=rfl
theorem oH {Q:Fl×R->Prop}:OkQ Q (pE i ρ)=OkQ Q (match ρ[i]? with
 |some (.val d)=>some (.ret (.val d),ρ)
 |some (.own ds)=>some (.ret (.own ds),ρ.set i .emp)
 |_=>none):=rfl
theorem qQ {ds:AA D}{ρ:R}{Q:R->Prop}:OkQ Q (tO ds ρ)=OkQ Q (match ds with
 |[]=>some ρ
 |_=>none):=rfl
theorem zoW {Q:R->Prop}:OkQ Q (hG g h ds ρ)=OkQ Q (match ds with
 |d::ds=>(g d ρ).bind λρ1=>h ds ρ1
 |[]=>none):=rfl
theorem Ut {g:AA D->R->AB R}{Q:R->Prop}:OkQ Q (gT n g d ρ)=OkQ Q (match d with
 | .tup ds=>if ds.length=n then g ds ρ else none
 |_=>none):=rfl
theorem xZ {Q:Fl×R->Prop}:OkQ Q (jD i m ρ)=OkQ Q (gd ((ρ[i]?.bind Sl.items).isSome) ((m ρ).bind λp=>p.2[i]?.bind λs=>s.items.bind λds=>if ds.length<16777216 then some (.next,p.2.set i (s.put (ds++[p.1])))else none)):=rfl
theorem Au {mi me:ME}{Q:Fl×R->Prop}:OkQ Q (pF j mi me ρ)=OkQ Q ((me ρ).bind λp=>gd (gZ p.2 j) ((mi p.2).bind λq=>match q.1 with
 | .int k=>q.2[j]?.bind λs=>s.items.bind λds=>(iE ds.length k).bind λn=>some (.next,q.2.set j (s.put (ds.set n p.1)))
 |_=>none)):=rfl
def vR (s:AB Sl)(ρ:R)(i:Nat):AB (D×R):=match s with
 |some (.val d)=>some (d,ρ)
 |some (.own ds)=>some (.lst ds,ρ.set i (.val (.lst ds)))
 |_=>none
def Vb (Q:D->D->Prop)(P:Prop)(s:RtS Q)(t:AB Sl):Prop:=match s,t with
 |some (.val x),some (.val y)=>Q x y
 |_,_=>P
theorem ok_oCall:OkQ Q (Bz F ma ρ)=OkQ Q ((ma ρ).bind λp=>(F p.1).bind λr=>match r with
 | .own ds=>some (ds,p.2)
 |_=>none):=rfl
theorem zpv {F:AA D->AA D->AB (Sl×AA D)}{Q:D×R->Prop}:OkQ Q (dI F j ma ρ)=OkQ Q (gd ((ρ[j]?.bind Sl.items).isSome) ((ma ρ).bind λp=>p.2[j]?.bind λs=>s.items.bind λcs=>(F cs p.1).bind λr=>match r.1 with
 | .val d=>some (d,p.2.set j (s.put r.2))
 | .own ds=>some (.lst ds,p.2.set j (s.put r.2))
 |_=>none)):=rfl
theorem ok_iR2L:OkQ Q (iR2L ma ρ)=OkQ Q ((ma ρ).bind λp=>match p.1 with
 |[.int i,.int j]=>some (iL i (j-i).toNat,p.2)
 |_=>none):=rfl
theorem yK {ma:ME}{ml mh:MP}{Q:D×R->Prop}:OkQ Q (gR ma ml mh ρ)=OkQ Q ((ma ρ).bind λp=>(ml p.2).bind λq=>(mh q.2).bind λr=>(sF p.1 q.1 r.1).map λd=>(d,r.2)):=rfl
theorem Il:OkQ Q (iK ma ρ)=OkQ Q ((ma ρ).bind λp=>match p.1 with
 |[.int j]=>if lK j then some (iL 0 j.toNat,p.2)else none
 |_=>none):=rfl
theorem Kg:OkQ Q (iR2 ma ρ)=OkQ Q ((ma ρ).bind λp=>match p.1 with
 |[.int i,.int j]=>if lK i&&lK j then some (iL i (j-i).toNat,p.2)else none
 |_=>none):=rfl
theorem yD {mb:MS}{Q:Fl×R->Prop}:OkQ Q (dQ mi g mb ρ)=(OkQ (λp=>OkQ Q (eB (λd ρ=>(g d ρ).bind λρ'=>mb ρ') p.1 p.2)) (mi ρ)):=ok_bind
theorem Jl:OkQ Q (cT cap t mi g mt me ρ)=OkQ Q ((mi ρ).bind λp=>if p.1.length<=16777216 then(gO (kC g mt me) p.1 (eY cap t (fzL cap p.2))).map λq=>(q.1,fzL cap p.2)else none):=rfl
theorem Qk {m:MA}:OkQ Q (oR m ρ)=OkQ Q ((m ρ).bind λp=>if p.1.length<=16777216 then some p else none):=rfl
theorem mP {g:Int->Int->Int}{Q:Fl×R->Prop}:OkQ Q (Se i g me ρ)=OkQ Q (match ρ[i]? with
 |some (.val (.int a))=>(me ρ).bind λp=>match p.1 with
  | .int b=>some (.next,p.2.set i (.val (.int (g a b))))
  |_=>none
 |_=>none):=rfl
theorem uV {ma mb:ME}:OkQ Q (yB ma mb ρ)=OkQ Q ((ma ρ).bind λp=>(mb p.2).bind λq=>match p.1,q.1 with
 | .lst xs,.int k=>if lK k&&decide (xs.length*k.toNat<=16777216)then some ((List.replicate k.toNat xs).flatten,q.2)else none
 |_,_=>none):=rfl
theorem Lm:OkQ Q (Ow ma ρ)=OkQ Q ((ma ρ).bind λp=>match p.1 with
 |[a,b]=>(eO [a]).bind λxs=>(eO [b]).bind λys=>some (Ku xs ys,p.2)
 |_=>none):=rfl
theorem Gj:OkQ Q (iEn ma ρ)=OkQ Q ((ma ρ).bind λp=>(eO p.1).map λxs=>(Jn xs,p.2)):=rfl
def uM:Nat->AA D->R
 |N,[]=>List.replicate N .emp
 |N,d::ds=> .val d::uM (N-1) ds
theorem zjb {d:D}:uM N (d::ds)= .val d::uM (N-1) ds:=rfl
theorem zpE:uM N []=List.replicate N .emp:=rfl
def Qb:∀(N:Nat) (ds:AA D),ds.map .val++List.replicate (N-ds.length) .emp=uM N ds
 |_,[]=>rfl
 |N,d::ds=>by rw[zjb,<-Qb (N-1) ds,eV,eS,Nat.sub_sub,Nat.add_comm 1];rfl
theorem znL {α β:Type}{f:α->β}{a:α}{l:AA α}:(a::l).map f=f a::l.map f:=rfl
theorem pJ {α β:Type}{f:α->β}:[].map f=[]:=rfl
def ok_fP {m:MS}{Q:Sl->Prop}:OkQ Q (fP N m ds)=OkQ Q ((m (uM N ds)).bind λp=>match p.1 with
 | .ret r=>some r
 | .next=>some (.val .non)
 |_=>none):=by rw[<-Qb];rfl
theorem Sj {m:MS}{cs:AA D}{Q:Sl×AA D->Prop}:OkQ Q (fM N m cs ds)=OkQ Q ((m (.par cs::uM (N-1) ds)).bind λp=>match p.1,(p.2[0]?:AB Sl)with
 |Fl.ret r,some (Sl.par out)=>some (r,out)
 |Fl.next,some (Sl.par out)=>some (.val .non,out)
 |_,_=>none):=by rw[<-Qb,Nat.sub_sub,Nat.add_comm 1];rfl
end
section
variable {α:Type}{ρ:R}{d:D}
def jW {α:Type}(o:AB α)(ρ:R):AB (α×R):=o.map λd=>(d,ρ)
theorem pV {a:α}:jW (some a) ρ=some (a,ρ):=rfl
theorem Mj {o:AB α}{Q:α×R->Prop}:OkQ Q (jW o ρ)=OkQ (λd=>Q (d,ρ)) o:=ok_map
theorem r_eC:eC d ρ=some (d,ρ):=rfl
theorem Jp:aA i ρ=vR ρ[i]? ρ i:=rfl
theorem Kw:vR (some (.val d)) ρ i=some (d,ρ):=rfl
theorem Jo:vR (some (.own ds)) ρ i=some (.lst ds,ρ.set i (.val (.lst ds))):=rfl
theorem Gp:aB ρ=some ([],ρ):=rfl
def Zg (d:D)(o:AB (AA D×R)):AB (AA D×R):=o.map λq=>(d::q.1,q.2)
def zAc (r:MA)(o:AB (D×R)):AB (AA D×R):=o.bind λp=>(r p.2).map λq=>(p.1::q.1,q.2)
theorem vE {r:MA}:aE m r ρ=zAc r (m ρ):=rfl
theorem oN {r:MA}:zAc r (some (d,ρ))=Zg d (r ρ):=rfl
theorem oK:Zg d (some (l,ρ))=some (d::l,ρ):=rfl
theorem Jb {r:MA}:OkQ Q (zAc r o)=OkQ (λp=>OkQ Q (Zg p.1 (r p.2))) o:=ok_bind
theorem Iu {o:AB (AA D×R)}:OkQ Q (Zg d o)=OkQ (λq=>Q (d::q.1,q.2)) o:=ok_map
def zB2 (f:D->D->AB D)(mb:ME)(o:AB (D×R)):AB (D×R):=o.bind λp=>(mb p.2).bind λq=>(f p.1 q.1).map λd=>(d,q.2)
def zB3 (f:D->D->AB D)(x:D)(o:AB (D×R)):AB (D×R):=o.bind λq=>(f x q.1).map λd=>(d,q.2)
theorem r_m2 {f:D->D->AB D}{ma mb:ME}:m2 f ma mb ρ=zB2 f mb (ma ρ):=rfl
theorem oE {f:D->D->AB D}{mb:ME}:zB2 f mb (some (d,ρ))=zB3 f d (mb ρ):=rfl
theorem nM {f:D->D->AB D}:zB3 f x (some (d,ρ))=jW (f x d) ρ:=rfl
theorem Fs {f:D->D->AB D}{mb:ME}{Q:D×R->Prop}:OkQ Q (zB2 f mb o)=OkQ (λp=>OkQ Q (zB3 f p.1 (mb p.2))) o:=ok_bind
theorem Mc {f:D->D->AB D}{Q:D×R->Prop}:OkQ Q (zB3 f x o)=OkQ (λq=>OkQ Q (jW (f x q.1) q.2)) o:=ok_bind
def Pb {α β:Type}(f:α->AB β)(o:AB (α×R)):AB (β×R):=o.bind λp=>(f p.1).map λd=>(d,p.2)
theorem r_m1 {f:D->AB D}{ma:ME}:m1 f ma ρ=Pb f (ma ρ):=rfl
theorem r_mC {f:AA D->AB D}:mC f ma ρ=Pb f (ma ρ):=rfl
theorem r_oC {f:AA D->AB (AA D)}:oC f ma ρ=Pb f (ma ρ):=rfl
theorem Ja {ma:ME}:aO ma ρ=Pb xK (ma ρ):=rfl
theorem sZ {β:Type}{f:α->AB β}{a:α}:Pb f (some (a,ρ))=jW (f a) ρ:=rfl
theorem Kt {β:Type}{f:α->AB β}{o:AB (α×R)}{Q:β×R->Prop}:OkQ Q (Pb f o)=OkQ (λp=>OkQ Q (jW (f p.1) p.2)) o:=ok_bind
def zMp {α β:Type}(f:α->β)(o:AB (α×R)):AB (β×R):=o.map λp=>(f p.1,p.2)
theorem yV {a:MT}:tK a ρ=zMp not (a ρ):=rfl
theorem Tc {m:MO}:cE m ρ=zMp D.lst (m ρ):=rfl
theorem rA {β:Type}{f:α->β}{a:α}:zMp f (some (a,ρ))=some (f a,ρ):=rfl
theorem Hy {β:Type}{f:α->β}{o:AB (α×R)}{Q:β×R->Prop}:OkQ Q (zMp f o)=OkQ (λp=>Q (f p.1,p.2)) o:=ok_map
def Qu (o:AB (AA D×R)):AB (D×R):=o.bind λp=>if p.1.length<=16777216 then some (.tup p.1,p.2)else none
theorem Ha:bL ma ρ=Qu (ma ρ):=rfl
theorem Ln {o:AB (AA D×R)}{Q:D×R->Prop}:OkQ Q (Qu o)=OkQ (λp=>p.1.length<=16777216/\Q (.tup p.1,p.2)) o:=ok_bind.trans (iY λ_=>by rw[yZ,ok_some])
def Kv (o:AB (AA D×R)):AB (AA D×R):=o.bind λp=>if p.1.length<=16777216 then some (p.1,p.2)else none
theorem Ks:bN ma ρ=Kv (ma ρ):=rfl
theorem Iy {o:AB (AA D×R)}:OkQ Q (Kv o)=OkQ (λp=>p.1.length<=16777216/\Q (p.1,p.2)) o:=ok_bind.trans (iY λ_=>by rw[yZ,ok_some])
section
variable {a b c e f:D}
theorem Ta:Qu (some ([a,b],ρ))=some (.tup [a,b],ρ):=rfl
theorem Qt:Qu (some ([a,b,c],ρ))=some (.tup [a,b,c],ρ):=rfl
theorem Vq:Qu (some ([a,b,c,d],ρ))=some (.tup [a,b,c,d],ρ):=rfl
theorem Ua:Kv (some ([],ρ))=some ([],ρ):=rfl
theorem Wp:Kv (some ([a],ρ))=some ([a],ρ):=rfl
theorem Wl:Kv (some ([a,b],ρ))=some ([a,b],ρ):=rfl
theorem Us:Kv (some ([a,b,c],ρ))=some ([a,b,c],ρ):=rfl
theorem Qr:Kv (some ([a,b,c,d],ρ))=some ([a,b,c,d],ρ):=rfl
end
def Rr (s:AB Sl)(c:D)(ρ:R):AB (D×R):=(s.bind Sl.read).bind λd=>(bG d c).map λe=>(e,ρ)
def zXM (j:Nat)(h:Bool)(o:AB (D×R)):AB (D×R):=if h then o.bind λp=>(p.2[j]?.bind Sl.read).bind λd=>(bG d p.1).map λe=>(e,p.2)else none
theorem Fk {mi:ME}:aU j mi ρ=zXM j (gZ ρ j) (mi ρ):=rfl
theorem Yp:zXM j true (some (d,ρ))=Rr ρ[j]? d ρ:=rfl
theorem yO:Rr (some (.val d)) c ρ=jW (bG d c) ρ:=rfl
theorem Ac:Rr (some (.own ds)) c ρ=jW (bG (.lst ds) c) ρ:=rfl
theorem vZ:Rr (some (.par ds)) c ρ=jW (bG (.lst ds) c) ρ:=rfl
theorem Kf {Q:D×R->Prop}:OkQ Q (zXM j true o)=OkQ (λp=>OkQ Q (Rr p.2[j]? p.1 p.2)) o:=ok_bind
def Zy (s:AB Sl)(ρ:R):AB (D×R):=(s.bind Sl.read).bind λd=>(cJ [d]).map λe=>(e,ρ)
theorem Bb:fB j ρ=Zy ρ[j]? ρ:=rfl
theorem zZ:Zy (some (.val d)) ρ=jW (cJ [d]) ρ:=rfl
theorem zX:Zy (some (.own ds)) ρ=jW (cJ [.lst ds]) ρ:=rfl
theorem vK:Zy (some (.par ds)) ρ=jW (cJ [.lst ds]) ρ:=rfl
def zRs (r:Sl)(ρ:R):AB (D×R):=match r with
 | .val d=>some (d,ρ)
 | .own ds=>some (.lst ds,ρ)
 |_=>none
theorem uI:zRs (.val d) ρ=some (d,ρ):=rfl
theorem zT:zRs (.own ds) ρ=some (.lst ds,ρ):=rfl
def zC2 (o:AB Sl)(ρ:R):AB (D×R):=o.bind λr=>zRs r ρ
def zCl (F:AA D->AB Sl)(o:AB (AA D×R)):AB (D×R):=o.bind λp=>zC2 (F p.1) p.2
theorem uH:cM F ma ρ=zCl F (ma ρ):=rfl
theorem qH:zCl F (some (l,ρ))=zC2 (F l) ρ:=rfl
theorem Gr {o:AB (AA D×R)}{Q:D×R->Prop}:OkQ Q (zCl F o)=OkQ (λp=>OkQ Q (zC2 (F p.1) p.2)) o:=ok_bind
theorem Em {o:AB Sl}{Q:D×R->Prop}:OkQ Q (zC2 o ρ)=OkQ (λr=>OkQ Q (zRs r ρ)) o:=ok_bind
def zRo (r:Sl)(ρ:R):AB (AA D×R):=match r with
 | .own ds=>some (ds,ρ)
 |_=>none
theorem wZ:zRo (.own ds) ρ=some (ds,ρ):=rfl
def zO2 (o:AB Sl)(ρ:R):AB (AA D×R):=o.bind λr=>zRo r ρ
def zOl (F:AA D->AB Sl)(o:AB (AA D×R)):AB (AA D×R):=o.bind λp=>zO2 (F p.1) p.2
theorem Ay:Bz F ma ρ=zOl F (ma ρ):=rfl
theorem sJ:zOl F (some (l,ρ))=zO2 (F l) ρ:=rfl
theorem Lw {o:AB Sl}:OkQ Q (zO2 o ρ)=OkQ (λr=>OkQ Q (zRo r ρ)) o:=ok_bind
def zSq (b:MS)(o:AB (Fl×R)):AB (Fl×R):=o.bind λp=>match p.1 with
 | .next=>b p.2
 |f=>some (f,p.2)
theorem Mh {a b:MS}:aI a b ρ=zSq b (a ρ):=rfl
theorem qF {b:MS}:zSq b (some (.next,ρ))=b ρ:=rfl
theorem Kj {b:MS}{o:AB (Fl×R)}{Q:Fl×R->Prop}:OkQ Q (zSq b o)=OkQ (Ly b Q) o:=ok_bind
theorem Bm:eN ρ=some (.next,ρ):=rfl
def Zd {α:Type}(f:α->Sl)(i:Nat)(o:AB (α×R)):AB (Fl×R):=o.map λp=>(.next,p.2.set i (f p.1))
theorem Hg:aN i m ρ=Zd Sl.val i (m ρ):=rfl
theorem Ae {m:MO}:jP i m ρ=Zd Sl.own i (m ρ):=rfl
theorem oV {f:α->Sl}{a:α}:Zd f i (some (a,ρ))=some (.next,ρ.set i (f a)):=rfl
theorem Iz {f:α->Sl}{o:AB (α×R)}{Q:Fl×R->Prop}:OkQ Q (Zd f i o)=OkQ (λp=>Q (.next,p.2.set i (f p.1))) o:=ok_map
def zEx (o:AB (D×R)):AB (Fl×R):=o.map λp=>(.next,p.2)
theorem zU:Yv m ρ=zEx (m ρ):=rfl
theorem Jj {Q:Fl×R->Prop}:OkQ Q (zEx o)=OkQ (λp=>Q (.next,p.2)) o:=ok_map
def zRt {α:Type}(f:α->Sl)(o:AB (α×R)):AB (Fl×R):=o.map λp=>(.ret (f p.1),p.2)
theorem Kl:bK m ρ=zRt Sl.val (m ρ):=rfl
theorem vQ {m:MO}:jA m ρ=zRt Sl.own (m ρ):=rfl
theorem pU {f:α->Sl}{a:α}:zRt f (some (a,ρ))=some (.ret (f a),ρ):=rfl
theorem Ms {f:α->Sl}{o:AB (α×R)}{Q:Fl×R->Prop}:OkQ Q (zRt f o)=OkQ (λp=>Q (.ret (f p.1),p.2)) o:=ok_map
def Uj {β:Type}(a b:R->AB β)(o:AB (Bool×R)):AB β:=o.bind λp=>if p.1 then a p.2 else b p.2
theorem Sd {c:MT}{a b:MS}:eD c a b ρ=Uj a b (c ρ):=rfl
theorem Xk {c:MT}{a b:ME}:eIf c a b ρ=Uj a b (c ρ):=rfl
theorem Rf {β:Type}{a b:R->AB β}:Uj a b (some (true,ρ))=a ρ:=rfl
theorem Tr {β:Type}{a b:R->AB β}:Uj a b (some (false,ρ))=b ρ:=rfl
theorem Gg {β:Type}{a b:R->AB β}{o:AB (Bool×R)}{Q:β->Prop}:OkQ Q (Uj a b o)=OkQ (λp=>(p.1=true->OkQ Q (a p.2))/\(p.1=false->OkQ Q (b p.2))) o:=ok_bind.trans (iY λ_=>Rb)
def zA2 (o:AB R):AB (Fl×R):=o.map λρ'=>(.next,ρ')
def zAs (g:D->R->AB R)(o:AB (D×R)):AB (Fl×R):=o.bind λp=>(g p.1 p.2).map λρ'=>(.next,ρ')
theorem Gu:Hn m g ρ=zAs g (m ρ):=rfl
theorem Gf {Q:Fl×R->Prop}:OkQ Q (zAs g o)=OkQ (λp=>OkQ Q (zA2 (g p.1 p.2))) o:=ok_bind
theorem Kc {o:AB R}{Q:Fl×R->Prop}:OkQ Q (zA2 o)=OkQ (λρ'=>Q (.next,ρ')) o:=ok_map
theorem r_gN:gN i d ρ=some (ρ.set i (.val d)):=rfl
theorem To:zP ρ=some (none,ρ):=rfl
def zPs (o:AB (D×R)):AB (AB Int×R):=o.bind λp=>match p.1 with
 | .int i=>some (some i,p.2)
 |_=>none
theorem uR:Bg m ρ=zPs (m ρ):=rfl
theorem pS {i:Int}:zPs (some (.int i,ρ))=some (some i,ρ):=rfl
def zIs (o:AB (D×R)):AB (AA D×R):=o.bind λp=>(eO [p.1]).map λds=>(ds,p.2)
theorem My:cA m ρ=zIs (m ρ):=rfl
theorem nY:zIs (some (d,ρ))=jW (eO [d]) ρ:=rfl
theorem Iq:OkQ Q (zIs o)=OkQ (λp=>OkQ Q (jW (eO [p.1]) p.2)) o:=ok_bind
theorem wA:fA ρ=some (true,ρ):=rfl
def zFr (p:Fl×R):AB Sl:=match p.1 with
 | .ret r=>some r
 | .next=>some (.val .non)
 |_=>none
def zFp (o:AB (Fl×R)):AB Sl:=o.bind λp=>zFr p
theorem Mn {m:MS}{Q:Sl->Prop}:OkQ Q (fP N m ds)=OkQ Q (zFp (m (uM N ds))):=by rw[<-Qb];rfl
theorem yC:zFr (.ret r,ρ)=some r:=rfl
theorem Lz {o:AB (Fl×R)}{Q:Sl->Prop}:OkQ Q (zFp o)=OkQ (λp=>OkQ Q (zFr p)) o:=ok_bind
end
def Turn (I:R->Prop)(Q:Fl×R->Prop)(p:Fl×R):Prop:=match p.1 with
 | .next=>I p.2
 | .cont=>I p.2
 | .brk=>Q (.next,p.2)
 | .ret r=>Q (.ret r,p.2)
theorem zpN {Q:Fl×R->Prop}:Turn I Q (.next,ρ)=(I ρ):=rfl
theorem mN {Q:Fl×R->Prop}:Turn I Q (.ret r,ρ)=(Q (.ret r,ρ)):=rfl
def zo4 {α:Type}{f:D->R->AB (Fl×R)}(enc:α->D){Q:Fl×R->Prop}(I:Nat->R->Prop):∀(l:AA α) (b:Nat) (ρ:R),I b ρ->
  (∀i a ρ,l[i]? =some a->I (b+i) ρ->Ok (f (enc a) ρ) (Turn (I (b+i+1)) Q))->(∀ρ,I (b+l.length) ρ->Q (.next,ρ))->Ok (eB f (l.map enc) ρ) Q
 |[],b,ρ,h0,_,hq=>ok_some.mpr (hq ρ h0)
 |a::l,b,ρ,h0,hs,hq=>by
  obtain⟨p,e,t⟩:=(hs 0 a ρ rfl h0).ex;obtain⟨fl,ρ1⟩:=p;have go:∀ρ1,I (b+1) ρ1->Ok (eB f (l.map enc) ρ1) Q:=λρ1 h1=>zo4 enc I l (b+1) ρ1 h1 (λi a' ρ' hi hp=>by
   have:=hs (i+1) a' ρ' (~~~hi) (by rw[show b+(i+1)=b+1+i by lia];exact hp);rw[show b+(i+1)+1=b+1+i+1 by lia]at this;exact this) (λρ h=>hq ρ (by rw[eS,show b+(l.length+1)=b+1+l.length by lia];exact h))
  have e':eB f ((a::l).map enc) ρ=(f (enc a) ρ).bind λp=>match p.1 with
   | .next=>eB f (l.map enc) p.2
   | .cont=>eB f (l.map enc) p.2
   | .brk=>some (.next,p.2)
   | .ret r=>some (.ret r,p.2):=rfl
  rw[e',e];cases fl with
  |next=>exact go ρ1 t
  |cont=>exact go ρ1 t
  |brk=>exact ok_some.mpr t
  |ret r=>exact ok_some.mpr t
theorem Xw {α:Type}{f:D->R->AB (Fl×R)}{enc:α->D}{l:AA α}{Q:Fl×R->Prop}(I:Nat->R->Prop)(h0:I 0 ρ)(hs:∀i a ρ,l[i]? =some a->I i ρ->Ok (f (enc a) ρ) (Turn (I (i+1)) Q))(hq:∀ρ,I l.length ρ->Q (.next,ρ)):Ok (eB f (l.map enc) ρ) Q:=
 zo4 enc I l 0 ρ h0 (λi a ρ hi h=>by rw[Tf]at h ⊢;exact hs i a ρ hi h) (λρ h=>hq ρ (by rw[Tf]at h;exact h))
def zkH {α:Type}(enc:α->D){Q:AA D×R->Prop}(I:Nat->AA D->R->Prop):∀(l:AA α) (b:Nat) (acc:AA D) (ρ:R),I b acc ρ->
  (∀i a acc ρ,l[i]? =some a->I (b+i) acc ρ->Ok (f (enc a) ρ) λp=>I (b+i+1) (acc++p.1.toList) p.2)->(∀ds ρ,I (b+l.length) (acc++ds) ρ->Q (ds,ρ))->Ok (gO f (l.map enc) ρ) Q
 |[],b,acc,ρ,h0,_,hq=>ok_some.mpr (hq [] ρ (by rw[qO];exact h0))
 |a::l,b,acc,ρ,h0,hs,hq=>by
  obtain⟨p,e,t⟩:=(hs 0 a acc ρ rfl h0).ex;have go:=zkH enc (Q:=λq=>Q (p.1.toList++q.1,q.2)) I l (b+1) (acc++p.1.toList) p.2 t (λi a' acc' ρ' hi hp=>by
   have:=hs (i+1) a' acc' ρ' (~~~hi) (by rw[show b+(i+1)=b+1+i by lia];exact hp);rw[show b+(i+1)+1=b+1+i+1 by lia]at this;exact this) (λds ρ h=>hq _ ρ (by rw[eS,show b+(l.length+1)=b+1+l.length by lia,<-qbw];exact h))
  have e':gO f ((a::l).map enc) ρ=(f (enc a) ρ).bind λp=>(gO f (l.map enc) p.2).map λq=>(p.1.toList++q.1,q.2):=rfl
  rw[e',e];exact ok_map.mpr go
theorem zl8 {α:Type}{enc:α->D}{l:AA α}(I:Nat->AA D->R->Prop)(h0:I 0 [] ρ)(hs:∀i a acc ρ,l[i]? =some a->I i acc ρ->Ok (f (enc a) ρ) λp=>I (i+1) (acc++p.1.toList) p.2)(hq:∀ds ρ,I l.length ds ρ->Q (ds,ρ)):Ok (gO f (l.map enc) ρ) Q:=
 zkH enc I l 0 [] ρ h0 (λi a acc ρ hi h=>by rw[Tf]at h ⊢;exact hs i a acc ρ hi h) (λds ρ h=>hq ds ρ (by rw[Tf]at h;exact h))
def Hi {α β:Type}{f g:α->AB β}:∀(l:AA α),(∀a∈l,f a=g a)->l.filterMap f=l.filterMap g
 |[],_=>rfl
 |a::l,h=>by rw[Wi,Wi,h a iW,Hi l λb hb=>h b (gE _ hb)]
theorem Wq {α:Type}{enc:α->D}{l:AA α}(P:R->Prop)(g:α->AB D)(h0:P ρ)(hs:∀a ρ,a∈l->P ρ->Ok (f (enc a) ρ) λp=>p.1=g a/\P p.2)(hq:∀ρ,P ρ->Q (l.filterMap g,ρ)):Ok (gO f (l.map enc) ρ) Q:=
 zl8 (λi ds ρ=>ds=(l.take i).filterMap g/\P ρ) ⟨rfl,h0⟩ (λi a acc ρ hi ⟨e,p⟩=>by
  refine(hs a ρ (dY hi) p).mono λr h=>⟨?_,h.2⟩
  obtain⟨h1,h2⟩:=qat.mp hi;rw[h.1,e,Qg,hi,List.filterMap_append];cases q:g a<;>simp[q]) (λds ρ ⟨e,p⟩=>by rw[Pz]at e;rw[e];exact hq ρ p)
theorem zjm {α:Type}{enc:α->D}{l:AA α}(P:R->Prop)(g:α->D)(h0:P ρ)(hs:∀a ρ,a∈l->P ρ->Ok (f (enc a) ρ) λp=>p.1=some (g a)/\P p.2)(hq:∀ρ,P ρ->Q (l.map g,ρ)):Ok (gO f (l.map enc) ρ) Q:=
 Wq P (λa=>some (g a)) h0 hs (λρ p=>by rw[<-Function.comp_def some g,Po];exact hq ρ p)
theorem Ah (i j:Int):cX (.int i) (.int j)=some (.bl (i==j)):=by
 unfold cX;rw[show bC (.int i)=true from rfl,show bC (.int j)=true from rfl,show depth (.int i)=0 from rfl]
 rfl
theorem Be (i j:Int):gI (.int i) (.int j)=some (.bl (i !=j)):=by
 unfold gI;rw[show bC (.int i)=true from rfl,show bC (.int j)=true from rfl,show depth (.int i)=0 from rfl]
 rfl
theorem Dr {α:Type}(xs:AA α)(i:Nat):atI xs (i:Int)=xs[i]?:=by
 unfold atI iE;rw[if_pos ∅]
 by_cases h:i<xs.length
 ·rw[if_pos ∅];simp
 ·rw[if_neg ∅];simp[gM (by lia:xs.length<=i)]
theorem wM {α:Type}(xs:AA α)(n:Nat):atI xs (no_index (@OfNat.ofNat Int n _))=xs[n]?:=Dr xs n
theorem Bx (n i:Nat):iE n (i:Int)=if i<n then some i else none:=by
 unfold iE;rw[if_pos ∅]
 by_cases h:i<n
 ·rw[if_pos ∅,if_pos h];simp
 ·rw[if_neg ∅,if_neg h]
theorem vM (n i:Nat):iE n (no_index (@OfNat.ofNat Int i _))=if i<n then some i else none:=Bx n i
def zmt (n:Nat):iE (n+1) (-1)=some n:=by
 unfold iE;rw[if_neg ∅,if_pos ∅];congr 1;lia
def zka {i j:Int}(h:i.natAbs<18446744073709551616):vN i j=true:=by
 unfold vN;have:decide (i.natAbs<2^64)=true:=fL h;rw[this];rfl
def zpm {i j:Int}(h:j.natAbs<18446744073709551616):vN i j=true:=by
 unfold vN;have:decide (j.natAbs<2^64)=true:=fL h;rw[this];simp
theorem iH {j:Int}(h1: -1000000000000<=j)(h2:j<=1000000000000):lK j=true:=by
 unfold lK;rw[fL h1,fL h2];rfl
def wL (n:Nat)(f:Nat->D):AA D:=(List.range n).map f
abbrev wI (n:Nat)(f:Nat->Int):AA D:=wL n λi=> .int (f i)
theorem bV (n:Nat)(f:Nat->D):(wL n f).length=n:=by simp[wL]
theorem bZ (f:Nat->D)(h:i<n):(wL n f)[i]? =some (f i):=by simp[wL,h]
def yP (n:Nat)(f:Nat->D):wL (n+1) f=wL n f++[f n]:=by simp[wL,Hw]
theorem Do {f g:Nat->D}(h:∀i,i<n->f i=g i):wL n f=wL n g:=qcq λi hi=>h i (qai.mp hi)
def zoX (n:Nat)(f:Nat->D)(x:D):wL n f++[x]=wL (n+1) λj=>if j<n then f j else x:=by
 rw[yP];congr 1
 ·exact Do λi hi=>by rw[if_pos hi]
 ·rw[if_neg ∅]
def We (f:Nat->D)(x:D)(h:i<n):(wL n f).set i x=wL n λj=>if j=i then x else f j:=by
 apply uD;intro j
 by_cases hj:j<n
 ·rw[bZ _ hj,jR]
  by_cases e:i=j
  ·subst e;simp[bV,h]
  ·simp[e,bZ _ hj,Ne.symm e]
 ·rw[gM (by simp[bV];lia),gM (by simp[bV];lia)]
def wR (n:Nat)(f:Nat->D):Jn (wL n f)=wL n λi=> .tup [.int (i:Nat),f i]:=by
 apply uD;intro j;unfold Jn
 by_cases hj:j<n
 ·rw[Zm,bZ _ hj,bZ _ hj];simp[bV,hj]
 ·rw[gM (by simp[bV];lia),gM (by simp[bV];lia)]
def Zu (n:Nat)(f g:Nat->D):Ku (wL n f) (wL n g)=wL n λi=> .tup [f i,g i]:=by
 apply uD;intro j;unfold Ku
 by_cases hj:j<n
 ·rw[Zm,bZ _ hj,bZ _ hj,bZ _ hj]
 ·rw[gM (by simp[bV];lia),gM (by simp[bV];lia)]
def Ym {α:Type}(xs:AA α)(i:Nat):bY xs none (some (i:Int))=xs.take i:=by
 unfold bY;rw[HT.zoM,HT.zl7,Nat.sub_zero,List.drop_zero]
 by_cases h:i<=xs.length
 ·rw[qcX h]
 ·rw[Nat.min_eq_right ∅,oO (aY _),oO ∅]
def zmM {α:Type}(xs:AA α)(i:Nat):bY xs (some (i:Int)) none=xs.drop i:=by
 unfold bY;rw[HT.zoM,HT.zl7]
 by_cases h:i<=xs.length
 ·rw[qcX h,oO (by simp)]
 ·rw[Nat.min_eq_right ∅,List.drop_of_length_le (aY _),List.drop_of_length_le ∅];simp
def Yc:∀(l:AA Int),eG (l.map .int)=some l
 |[]=>rfl
 |i::l=>by simp[eG,Yc l]
def zhW (bt:Nat->Nat->Bool):∀n,argBest bt n<=n
 |0=>aY 0
 |n+1=>by
  have:=zhW bt n;unfold argBest
  split<;>lia
mutual
theorem zmw:∀(d:D),bC d=true->eE d d=true
 | .non,_=>rfl
 | .bl b,_=>by simp[eE]
 | .int i,_=>by simp[eE]
 | .str s,_=>by simp[eE]
 | .lst ds,h=>by simp only[eE];exact zio ds (by simpa[bC]using h)
 | .tup ds,h=>by simp only[eE];exact zio ds (by simpa[bC]using h)
 | .scr _,h=>by simp[bC]at h
 | .exc _,h=>by simp[bC]at h
theorem zio:∀(ds:List D),cQ ds=true->dA ds ds=true
 |[],_=>rfl
 |d::ds,h=>by
  simp only[cQ,cD]at h;simp only[dA,cD];exact⟨zmw d h.1,zio ds h.2⟩
end
def pW (h:bC d=true)(k:depth d<=50):cX d d=some (.bl true):=by simp[cX,h,k,zmw d h]
def zpQ:∀{ds:AA D},(∀d∈ds,bC d=true)->cQ ds=true
 |[],_=>rfl
 |d::ds,h=>by simp only[cQ,cD];exact⟨h d iW,zpQ λe he=>h e (gE _ he)⟩
def zkD:∀{ds:AA D},(∀d∈ds,depth d<=k)->uX ds<=k
 |[],_=>gK _
 |d::ds,h=>by simp only[uX];exact Nat.max_le.mpr ⟨h d iW,zkD λe he=>h e (gE _ he)⟩
def Pl (k:Nat)(d:D):Prop:=bC d=true/\depth d<=k
def Ke (k:Nat)(i:Int):Pl k (.int i):=⟨rfl,gK _⟩
def Hf (h:∀d∈ds,Pl k d):Pl (k+1) (.tup ds):=⟨by simp only[bC];exact zpQ λd hd=>(h d hd).1,by simp only[depth];exact Nat.succ_le_succ (zkD λd hd=>(h d hd).2)⟩
def pl_w {f:Nat->D}(h:∀i,Pl k (f i)):∀d∈wL n f,Pl k d:=λd hd=>by
 obtain⟨i,_,rfl⟩:=qb0.mp hd;exact h i
def Pl.eq (h:Pl k d)(l:k<=50):cX d d=some (.bl true):=pW h.1 (bO h.2 l)
theorem oG (n:Nat):iL 0 n=wL n λi=> .int (i:Nat):=by unfold iL wL;simp only[Int.zero_add]
theorem znH (lo:Int)(n:Nat):iL lo n=wL n λi=> .int (lo+(i:Nat)):=rfl
section
variable {n:Nat}{e:Nat->D}{ρ:R}
theorem Cs {f:D->R->AB (Fl×R)}{Q:Fl×R->Prop}(I:Nat->R->Prop)(h0:I 0 ρ)(hs:∀i ρ,i<n->I i ρ->Ok (f (e i) ρ) (Turn (I (i+1)) Q))(hq:∀ρ,I n ρ->Q (.next,ρ)):Ok (eB f (wL n e) ρ) Q:=
 Xw (enc:=e) (l:=List.range n) I h0 (λi a ρ hi h=>by
  obtain⟨h1,h2⟩:=qat.mp hi;have:a=i:= ~~~h2.symm
  subst this;exact hs a ρ (~~~h1) h) (λρ h=>hq ρ (~~~h))
variable {f:D->R->AB (AB D×R)}{Q:AA D×R->Prop}
theorem zoY (I:Nat->AA D->R->Prop)(h0:I 0 [] ρ)(hs:∀i acc ρ,i<n->I i acc ρ->Ok (f (e i) ρ) λp=>I (i+1) (acc++p.1.toList) p.2)(hq:∀ds ρ,I n ds ρ->Q (ds,ρ)):Ok (gO f (wL n e) ρ) Q:=
 zl8 (enc:=e) (l:=List.range n) I h0 (λi a acc ρ hi h=>by
  obtain⟨h1,h2⟩:=qat.mp hi;have:a=i:= ~~~h2.symm
  subst this;exact hs a acc ρ (~~~h1) h) (λds ρ h=>hq ds ρ (~~~h))
theorem Oa (P:R->Prop)(g:Nat->AB D)(h0:P ρ)(hs:∀i ρ,i<n->P ρ->Ok (f (e i) ρ) λp=>p.1=g i/\P p.2)(hq:∀ρ,P ρ->Q ((List.range n).filterMap g,ρ)):Ok (gO f (wL n e) ρ) Q:=
 Wq (enc:=e) (l:=List.range n) P g h0 (λa ρ ha hp=>hs a ρ (qai.mp ha) hp) hq
theorem iN (P:R->Prop)(g:Nat->D)(h0:P ρ)(hs:∀i ρ,i<n->P ρ->Ok (f (e i) ρ) λp=>p.1=some (g i)/\P p.2)(hq:∀ρ,P ρ->Q (wL n g,ρ)):Ok (gO f (wL n e) ρ) Q:=
 zjm (enc:=e) (l:=List.range n) P g h0 (λa ρ ha hp=>hs a ρ (qai.mp ha) hp) hq
end
end M
namespace M
theorem zlD (n:Nat)(f:Nat->Int)(x:Int):wI n f++[.int x]=wI (n+1) λj=>if j<n then f j else x:=by
 rw[wI,zoX];exact Do λj _=>by dsimp only;split<;>rfl
def zo5 (h0:0<j)(h1:j<2^250):kG j=true:=by
 have h:j.natAbs.log2<9000:=by
  have:j.natAbs.log2<250:=(Nat.log2_lt ∅).mpr ∅;lia
 unfold kG;rw[fL h0,fL h];rfl
def Lx (f:Nat->Int)(x:Int)(h:i<n):(wI n f).set i (.int x)=wI n λj=>if j=i then x else f j:=by
 rw[wI,We _ _ h];exact Do λj _=>by dsimp only;split<;>rfl
theorem yI:Nt .non=true:=rfl
theorem wN (ds:AA D):Nt (.tup ds)=false:=rfl
end M
namespace M
open L2 PySem
variable {i N n j:Nat}{m me:ME}{ρ:R}{Q:Fl×R->Prop}{x:Int}{g:D->R->AB R}{neg:Bool}{F:R->AB (Sl×R)}{mo:MO}{ma:MA}{is cap l:AA Nat}{ds:AA D}{mt:MT}{d:D}{z:Sl×R}{r mg:MG}{js:AA (AB Nat)}{ls:AA (AA D)}{q dk:AA Int×AA D}{s:Sl}
theorem rG (ds:AA D):eO [.lst ds]=some ds:=rfl
theorem mV (ds:AA D):eO [.tup ds]=some ds:=rfl
theorem oI (ds:AA D):cJ [.lst ds]=some (.int ds.length):=rfl
theorem qW (ds:AA D):cJ [.tup ds]=some (.int ds.length):=rfl
theorem Kx (ns:AA Int):cJ [.scr ns]=some (.int ns.length):=rfl
theorem rB (ds:AA D):fI [.lst ds]=some (.tup ds):=rfl
theorem Fn (ds:AA D)(a b:AB Int):sF (.lst ds) a b=some (.lst (bY ds a b)):=rfl
theorem Im (ds:AA D)(a b:AB Int):sF (.tup ds) a b=some (.tup (bY ds a b)):=rfl
theorem Yd (ds:AA D)(i:Int):bG (.lst ds) (.int i)=atI ds i:=rfl
theorem Yi (ds:AA D)(i:Int):bG (.tup ds) (.int i)=atI ds i:=rfl
theorem Wd (ns:AA Int)(i:Int):bG (.scr ns) (.int i)=(atI ns i).map .int:=rfl
theorem zlS (a b:Str):cX (.str a) (.str b)=some (.bl (a==b)):=by
 unfold cX;rw[show bC (.str a)=true from rfl,show bC (.str b)=true from rfl,show depth (.str a)=0 from rfl]
 rfl
structure Sq (d:D)(n:Nat)(f:Nat->Int):Prop where
 it:eO [d]=some (wI n f)
 ln:cJ [d]=some (.int n)
 tp:fI [d]=some (.tup (wI n f))
 ix:∀i,bG d (.int i)=atI (wI n f) i
 ct:∀lo hi,∃d',sF d lo hi=some d'/\eO [d']=some (bY (wI n f) lo hi)
def Sq.lst (n:Nat)(f:Nat->Int):Sq (.lst (wI n f)) n f:=⟨rfl,by rw[oI,bV],rfl,λ_=>rfl,λlo hi=>⟨_,rfl,rfl⟩⟩
def Sq.tup (n:Nat)(f:Nat->Int):Sq (.tup (wI n f)) n f:=⟨rfl,by rw[qW,bV],rfl,λ_=>rfl,λlo hi=>⟨_,rfl,rfl⟩⟩
def zk7 (n:Nat)(b:Nat->Bool):uY (wL n λi=> .bl (b i))=some ((List.range n).map b):=by
 have:∀l:AA Nat,uY (l.map λi=>D.bl (b i))=some (l.map b):=by
  intro l
  induction l with
  |nil=>rfl
  |cons a l ih=>simp[uY,ih]
 exact this _
theorem Aa:OkQ Q (vX i m ρ)=OkQ Q (gd ((ρ[i]?.bind Sl.items).isSome) ((m ρ).bind λp=>p.2[i]?.bind λs=>s.items.bind λds=>match p.1 with
 | .lst es=>if ds.length+es.length<=16777216 then some (.next,p.2.set i (s.put (ds++es)))else none
 |_=>none)):=rfl
def zoi (a b:Int):vP (.int a) (.int b)=(b==a):=by
 show(a==b)=(b==a)
 by_cases h:a=b
 ·subst h;rfl
 ·rw[qab.mpr h,qab.mpr λe=>h e.symm]
def zgG:∀(l:AA Int),Hv (l.map D.int)=some (l.map V.int)
 |[]=>rfl
 |i::l=>by simp[Hv,Ub,zgG l]
def zl1 (a:Int):∀(l:AA Int),lQ (.int a) (l.map V.int)=l.contains a
 |[]=>rfl
 |i::l=>by
  have:=zl1 a l;unfold lQ at this ⊢;rw[eV,uA,this,zoi,Dj]
theorem Wt (h:0<=x):zC (.int x) (.int 1)=some (.int (x%2)):=by
 have e:zC (.int x) (.int 1)=some (.int (Builtin.bitAnd x 1)):=rfl;rw[e];have e2:Builtin.bitAnd x 1=((x.toNat&&&1:Nat):Int):=by
  unfold Builtin.bitAnd;rw[fL h]
  rfl
 rw[e2,Nat.and_one_is_mod];congr 2;lia
def aH:Nat->(Nat->Int)->Int
 |0,_=>0
 |n+1,f=>aH n f+f n
def cI {g:Nat->Int}:∀{n:Nat},(∀i,i<n->f i=g i)->aH n f=aH n g
 |0,_=>rfl
 |n+1,h=>by rw[aH,aH,cI λi hi=>h i ∅,h n ∅]
def tZ (f g:Nat->Int):∀n,aH n (λi=>f i+g i)=aH n f+aH n g
 |0=>rfl
 |n+1=>by simp only[aH,tZ f g n];lia
def Br (f g:Nat->Int):∀n,aH n (λi=>f i-g i)=aH n f-aH n g
 |0=>rfl
 |n+1=>by simp only[aH,Br f g n];lia
def Yj:∀n,aH n (λ_=>0)=0
 |0=>rfl
 |n+1=>by simp only[aH,Yj n];lia
def jQ (a:Int)(f:Nat->Int):∀n,aH n (λi=>a*f i)=a*aH n f
 |0=>by simp[aH]
 |n+1=>by simp only[aH,jQ a f n,Int.mul_add]
def zgb (f:Nat->Nat->Int)(m:Nat):∀n,aH n (λi=>aH m (f i))=aH m (λj=>aH n λi=>f i j)
 |0=>(Yj m).symm
 |n+1=>by simp only[aH,zgb f m n,tZ]
def Ou (f:Nat->Int):∀n,((List.range n).map f).sum=aH n f
 |0=>rfl
 |n+1=>by simp[Hw,Ou f n,aH]
def zjU (n:Nat)(f:Nat->Int):eG (wI n f)=some ((List.range n).map f):=by
 have:wI n f=((List.range n).map f).map .int:=by simp[wL,gC,Function.comp_def]
 rw[this,Yc]
def zhx (I:Nat->R->Prop)(turn:∀m ρ,I m ρ->Ok (mc ρ) λp=>(p.1=true->∃m',m=m'+1/\Ok (mb p.2) λq=>q.1= .next/\I m' q.2)/\(p.1=false->Q (.next,p.2))):∀fuel m ρ,m<fuel->I m ρ->Ok (tU mc mb fuel ρ) Q
 |0,m,ρ,h,_=>∅
 |n+1,m,ρ,h,hI=>by
  obtain⟨⟨b,ρ1⟩,e,h1,h2⟩:=(turn m ρ hI).ex;unfold tU;rw[e];cases b with
  |false=>exact ok_some.mpr (h2 rfl)
  |true=>
   obtain⟨m',rfl,h3⟩:=h1 rfl;obtain⟨⟨f,ρ2⟩,e2,ef,hI2⟩:=h3.ex;show Ok ((mb ρ1).bind _) Q;rw[e2];cases(show f= .next from ef);exact zhx I turn n m' ρ2 ∅ hI2
def Fm (j:Int)(ns:AA Int):zn1 (.int j) (.lst (ns.map .int))=some (.bl (!(ns.contains j))):=by
 have e:lQ (.int j) (ns.map V.int)=ns.contains j:=by
  unfold lQ
  induction ns with
  |nil=>rfl
  |cons a l ih=>rw[eV,uA,ih,zoi,Dj]
 show((Hv (ns.map D.int)).map λxs=>D.bl (!lQ (.int j) xs))=_;rw[zgG];show some (D.bl (!lQ (.int j) (ns.map V.int)))=_;rw[e]
def inL (j:Int)(ns:AA Int):tT (.int j) (.lst (ns.map .int))=some (.bl (ns.contains j)):=by
 show((Hv (ns.map D.int)).map λxs=>D.bl (lQ (.int j) xs))=_;rw[zgG];show some (D.bl (lQ (.int j) (ns.map V.int)))=_;rw[zl1]
def like_par (ns:AA Int):lV (.par (ns.map .int)) (.par (ns.map .int))=true:=by
 show(match eG (ns.map D.int),eG (ns.map D.int)with
  |some a,some b=>a==b
  |_,_=>false)=true
 rw[Yc];exact qbV ns
section
variable {j:Nat}{mk me:ME}{ρ:R}
def ok_tDI {Q:Bool×R->Prop}:OkQ Q (tDI j neg mk ρ)=(OkQ (λp=>OkQ Q (match p.1 with
 | .int k=>(p.2[j]?.bind Sl.dic).map λq=>(((iU q.1 q.2 k).isSome !=neg),p.2)
 |_=>none)) (mk ρ)):=ok_bind
theorem ok_eCallMO {F:AA D->AA D->AB (Sl×AA D)}{Q:D×R->Prop}:OkQ Q (Bh F mo ma ρ)=OkQ Q ((mo ρ).bind λp=>(ma p.2).bind λq=>(F p.1 q.1).bind λr=>match r.1 with
 | .val d=>some (d,q.2)
 | .own ds=>some (.lst ds,q.2)
 |_=>none):=rfl
theorem ok_sUnT:OkQ Q (sUnT j is ρ)=OkQ Q (match ρ[j]? with
 |some (.tre (.lst cs))=>if cs.length=is.length then some (.next,pX is cs (ρ.set j .emp))else none
 |_=>none):=rfl
theorem ok_cOwn {r:MP'}{Q:AA Ch×R->Prop}:OkQ Q (cOwn j r ρ)=OkQ Q (match ρ[j]? with
 |some (.own ds)=>(r (ρ.set j .emp)).map λq=>(.l ds::q.1,q.2)
 |_=>none):=rfl
def ok_fMT {m:MS}{Q:Sl×AA D->Prop}:OkQ Q (fMT N m cs t ds)=OkQ Q ((m (.par cs:: .tre t::uM (N-2) ds)).bind λp=>match p.1,(p.2[0]?:AB Sl)with
 |Fl.ret r,some (Sl.par out)=>some (r,out)
 |Fl.next,some (Sl.par out)=>some (.val .non,out)
 |_,_=>none):=by rw[<-Qb,Nat.sub_sub,Nat.add_comm 2];rfl
theorem ok_eTI {Q:D×R->Prop}:OkQ Q (eTI j mi mq ρ)=OkQ Q ((mi ρ).bind λa=>(mq ρ).bind λb=>match a,b,ρ[j]? with
 | .int n,.int m,some (.tre (.lst cs))=>(atI cs n).bind λc=>match c with
  | .l ds=>(atI ds m).map λd=>(d,ρ)
  |_=>none
 |_,_,_=>none):=rfl
theorem ok_sPar:OkQ Q (sPar i j ma ρ)=OkQ Q ((ma ρ).bind λp=>match p.1 with
 |[c,d]=>some (.next,(p.2.set i (.val c)).set j (.val d))
 |_=>none):=rfl
theorem ok_iDKT {Q:AA D×R->Prop}:OkQ Q (iDKT j ρ)=OkQ Q (match ρ[j]? with
 |some (.val (.dit ks ds))=>some (ks.map λk=> .tup (k.map .int),ρ)
 |_=>none):=rfl
theorem ok_eRvT {ma:ME}{Q:D×R->Prop}:OkQ Q (eRvT ma ρ)=OkQ Q ((ma ρ).bind λp=>match p.1 with
 | .tup ds=>some (.tup ds.reverse,p.2)
 |_=>none):=rfl
theorem ok_eCallU {F:AA D->AB Sl}{Q:D×R->Prop}:OkQ Q (Hk F ma ρ)=OkQ Q ((ma ρ).bind λp=>(F p.1).bind λr=>match r with
 | .tre (.tup cs)=>some (.tup (cs.map Ch.D),p.2)
 |_=>none):=rfl
theorem ok_sCp :OkQ Q (sCp i j n mb ρ)=OkQ Q (match ρ[i]?,ρ[j]? with
 |some _,some (.tre (.tup cs))=>match cs[n]? with
  |some (.d .non)=>some (.next,ρ.set i (.val .non))
  |some (.l ds)=>mb (ρ.set i (.own ds))
  |_=>none
 |_,_=>none):=rfl
theorem yH:OkQ Q (jK j ma ρ)=OkQ Q (gd ((ρ[j]?.bind Sl.items).isSome) ((ma ρ).bind λp=>p.2[j]?.bind λs=>s.items.bind λds=>match p.1 with
 |[.int k,d]=>if 0<=k/\k<=ds.length/\ds.length<16777216 then some (.next,p.2.set j (s.put (ds.take k.toNat++d::ds.drop k.toNat)))else none
 |_=>none)):=rfl
theorem sU {b c:Nat}{Q:AB D×R->Prop}:OkQ Q (jZ b c g mt me d ρ)=(OkQ (λρ1=>OkQ (λp=>(p.1=true->OkQ (λq=>Ii b c q.2=true/\Q (some q.1,q.2)) (me p.2))/\(p.1=false->Ii b c p.2=true/\Q (none,p.2))) (mt ρ1)) (g d ρ)):=by
 unfold jZ;rw[ok_bind];exact iY λρ1=>by rw[ok_bind];exact iY λp=>by rw[Rb,ok_bind,yZ,ok_some];congr 1;exact propext (imp_congr Iff.rfl (iff_of_eq (iY λq=>by rw[yZ,ok_some])))
theorem uU {t b w c v:Nat}{mi:MA}{Q:AA D×R->Prop}:OkQ Q (Bi cap t b w c v mi g mt me ρ)=OkQ Q ((mi ρ).bind λp=>if p.1.length<=16777216 then
  ((fzL (cap.filter λi=>i !=w&&i !=v) p.2)[w]?).bind λs=>s.items.bind λcs=>((fzL (cap.filter λi=>i !=w&&i !=v) p.2)[v]?).bind λs2=>s2.items.bind λcs2=>
   (gO (jZ b c g mt me) p.1 (((eY cap t (fzL (cap.filter λi=>i !=w&&i !=v) p.2)).set b (.par cs)).set c (.par cs2))).map λq=>(q.1,((fzL (cap.filter λi=>i !=w&&i !=v) p.2).set w (s.put (uO b q.2))).set v (s2.put (uO c q.2)))
 else none):=rfl
theorem An {Q:D×R->Prop}:OkQ Q (Ax j me ρ)=OkQ Q (gd ((ρ[j]?.bind Sl.items).isSome) ((me ρ).bind λp=>match p.1 with
 | .int i=>p.2[j]?.bind λs=>s.items.bind λds=>if 0<=i/\i<ds.length/\ds.length<=16777216 then(ds[i.toNat]?).map λd=>(d,p.2.set j (s.put (ds.eraseIdx i.toNat)))else none
 |_=>none)):=rfl
theorem ok_sCut {me:ME}:OkQ Q (sCut i me ml mh ρ)=OkQ Q ((me ρ).bind λp=>gd ((p.2[i]?.bind Sl.items).isSome) ((ml p.2).bind λq=>(mh q.2).bind λr=>r.2[i]?.bind λs=>s.items.bind λds=>match p.1,q.1,r.1 with
 | .lst es,.int m,.int n=>if decide (0<=m)&&decide (m<=n)&&decide (n<=ds.length)&&decide (ds.length+es.length<=16777216)then some (.next,r.2.set i (s.put (ds.take m.toNat++es++ds.drop n.toNat)))else none
 |_,_,_=>none)):=rfl
theorem zpM {ma mb:ME}:OkQ Q (zmf ma mb mo ρ)=OkQ Q ((ma ρ).bind λp=>(mb p.2).bind λq=>(mo q.2).bind λr=>some (.ret (.tre (.tup [.d p.1,.d q.1,.l r.1])),r.2)):=rfl
theorem rQ {a:Nat}:Vs (a::l) z=(tR z.1&&z.2.all tR):=rfl
theorem wQ:tR (.own ds)=ds.all yY:=rfl
theorem yX:tR .emp=true:=rfl
theorem Aw {Q:R×R->Prop}:OkQ Q (vW ρ)=Q ([],ρ):=rfl
theorem xG {Q:R×R->Prop}:OkQ Q (vG m r ρ)=OkQ Q ((m ρ).bind λp=>(r p.2).map λq=>(.val p.1::q.1,q.2)):=rfl
theorem sD {Q:R×R->Prop}:OkQ Q (Vz j r ρ)=OkQ Q (gd (hasA ρ j) ((r ρ).bind λq=>(q.2[j]?.bind Sl.look).map λd=>(.val d::q.1,q.2))):=rfl
def ok_eCallG {ls:AA Nat}{Q:D×R->Prop}:OkQ Q (rP F js ls mg ρ)=OkQ (λq=>OkQ (λz=>Vs ls z=true/\OkQ Q (match z.1 with
 | .val d=>some (d,cZ js z.2 q.2)
 | .own ds=>some (.lst ds,cZ js z.2 q.2)
 | .tre (.tup cs)=>some (.tup (cs.map Ch.D),cZ js z.2 q.2)
 |_=>none)) (F q.1)) (mg ρ):=by
 unfold rP;rw[ok_bind];exact iY λq=>by rw[ok_bind];exact iY λz=>yZ
theorem qR {ls:AA Nat}:OkQ Q (Sb i F js ls mg ρ)=OkQ (λq=>OkQ (λz=>Vs ls z=true/\OkQ Q (match z.1 with
 | .val d=>some (.next,(cZ js z.2 q.2).set i (.val d))
 | .own ds=>some (.next,(cZ js z.2 q.2).set i (.own ds))
 | .tre t=>some (.next,(cZ js z.2 q.2).set i (.tre t))
 |_=>none)) (F q.1)) (mg ρ):=by
 unfold Sb;rw[ok_bind];exact iY λq=>by rw[ok_bind];exact iY λz=>yZ
theorem zo7 {F:AA D->AB Sl}{d1 d2:D}{Q:Sl×R->Prop}:OkQ Q (Tp F [.val d1,.val d2])=OkQ (λr=>Q (r,[.emp,.emp])) (F [d1,d2]):=by
 show OkQ Q ((F [d1,d2]).map λr=>(r,[.emp,.emp]))=_;exact ok_map
theorem Vo {m:MS}{as:R}{Q:Sl×R->Prop}:OkQ Q (fG N m as)=OkQ (λp=>OkQ Q (match p.1 with
 | .ret r=>(fW as p.2).map λo=>(r,o)
 | .next=>(fW as p.2).map λo=>(.val .non,o)
 |_=>none)) (m (as++List.replicate (N-as.length) .emp)):=ok_bind
theorem ok_eItU {Q:D×R->Prop}:OkQ Q (eItU j n ρ)=OkQ Q (match ρ[j]? with
 |some (.tre (.tup cs))=>match cs[n]? with
  |some (.d y)=>some (y,ρ)
  |_=>none
 |_=>none):=rfl
end
section
theorem ok_tIsB {Q:Bool×R->Prop}:OkQ Q (tIsB j ρ)=OkQ Q (match ρ[j]? with
 |some (.val d)=>some (Nt d,ρ)
 |some (.tre t)=>if t.bk.isSome then some (false,ρ)else none
 |_=>none):=rfl
end
section
variable {ρ:R}{j k i:Nat}{c:Str}{ns ns2:AA Str}{me mo mi:ME}{mO:MO}{ma:MA}{md:MK}
def kOb (c:Str)(ns:AA Str)(p:D×R):AB ((AA Int×AA D)×R):=match p.1 with
 | .obj c' ns' _ ks ds=>if c'=c/\ns'=ns then some ((ks,ds),p.2)else none
 |_=>none
theorem Fy:kOb slC slN (obD slC slN ls q,ρ)=some (q,ρ):=by
 unfold kOb obD;dsimp only;rw[if_pos ⟨rfl,rfl⟩]
theorem Nc:eH slC slN k (obD slC slN ls q)=(ls[k]?).map D.lst:=by
 unfold eH obD;dsimp only;rw[if_pos ⟨rfl,rfl⟩,cR]
theorem Fc {Q:(AA Int×AA D)×R->Prop}:OkQ Q (Ec c ns me ρ)=OkQ Q ((me ρ).bind (kOb c ns)):=rfl
theorem Gq {Q:D×R->Prop}:OkQ Q (Vd md mi ρ)=OkQ Q ((md ρ).bind λp=>(mi p.2).bind λq=>match q.1 with
 | .int k=>(iU p.1.1 p.1.2 k).map λd=>(d,q.2)
 |_=>none):=rfl
theorem Hd {Q:Bool×R->Prop}:OkQ Q (Qv neg mi md ρ)=OkQ Q ((mi ρ).bind λp=>(md p.2).bind λq=>match p.1 with
 | .int k=>some (((iU q.1.1 q.1.2 k).isSome !=neg),q.2)
 |_=>none):=rfl
theorem Ng {Q:AA D×R->Prop}:OkQ Q (iKN md ρ)=OkQ Q ((md ρ).map λp=>(p.1.1.map .int,p.2)):=rfl
def Os {F:AA D->AB Sl}{ls:AA (AA D)}{q:AA Int×AA D}{Q:D×R->Prop}(h:ρ[j]? =some (.val (obD slC slN ls q))):OkQ Q (lI F slC slN (aA j) ma ρ)=OkQ Q ((ma ρ).bind λp=>(F (obD slC slN ls q::p.1)).bind λr=>match r with
  | .val d=>some (d,p.2)
  | .own ds=>some (.lst ds,p.2)
  |_=>none):=by
 have e:aA j ρ=some (obD slC slN ls q,ρ):=by unfold aA;rw[h]
 unfold lI;rw[e,iT];unfold obD;dsimp only;rw[if_pos ⟨rfl,rfl⟩]
 first|done|rfl
def xC {Q:D×R->Prop}(h:ρ[j]? =some s)(hs:s.ob=some (c,ns,ls,some dk))(hl:jI ls=true):OkQ Q (dM j m ρ)=OkQ Q ((m (ρ.set j (.val (obD c ns ls dk)))).bind λp=>if Cu p.1&&((ρ.set j .emp).zip p.2).all (λq=>lV q.1 q.2)then some (p.1,ρ)else none):=by
 unfold dM;rw[h,iT,hs];simp only[hl,Bool.true_and]
def zlf {m:MO}{Q:AA D×R->Prop}(h:ρ[j]? =some s)(hs:s.ob=some (c,ns,ls,some dk))(hl:jI ls=true):OkQ Q (gW j m ρ)=OkQ Q ((m (ρ.set j (.val (obD c ns ls dk)))).bind λp=>if p.1.all Cu&&((ρ.set j .emp).zip p.2).all (λq=>lV q.1 q.2)then some (p.1,ρ)else none):=by
 unfold gW;rw[h,iT,hs];simp only[hl,Bool.true_and]
theorem zI:OkQ Q (lD c ns j k i me ρ)=OkQ (λp:D×R=>OkQ Q (match p.2[j]?.bind Sl.ob,p.2[i]? with
 |some (c',ns',ls,dk),some (.val (.int n))=>if c'=c/\ns'=ns then(ls[k]?).bind λds=>(iE ds.length n).bind λm=>(p.2[j]?).map λs=>(.next,p.2.set j (s.putT (.obj c ns (ls.set k (ds.set m p.1)) dk)))else none
 |_,_=>none)) (me ρ):=ok_bind
theorem uQ:OkQ Q (Jk c ns j k mO ρ)=OkQ (λp:AA D×R=>OkQ Q (match p.2[j]?.bind Sl.ob with
 |some (c',ns',ls,dk)=>if c'=c/\ns'=ns/\k<ls.length then(p.2[j]?).map λs=>(.next,p.2.set j (s.putT (.obj c ns (ls.set k p.1) dk)))else none
 |_=>none)) (mO ρ):=ok_bind
theorem zN:OkQ Q (lE c ns ns2 j mO ρ)=OkQ (λp:AA D×R=>OkQ Q (match p.2[j]?.bind Sl.ob with
 |some (c',ns',ls,none)=>if c'=c/\ns'=ns then(p.2[j]?).map λs=>(.next,p.2.set j (s.putT (.obj c ns2 (ls++[p.1]) none)))else none
 |_=>none)) (mO ρ):=ok_bind
theorem yJ:OkQ Q (xS c ns ns2 j ρ)=OkQ Q (match ρ[j]?.bind Sl.ob with
 |some (c',ns',ls,none)=>if c'=c/\ns'=ns then(ρ[j]?).map λs=>(.next,ρ.set j (s.putT (.obj c ns2 ls (some ([],[])))))else none
 |_=>none):=rfl
theorem vT:OkQ Q (Ie c ns j i me ρ)=OkQ (λp:D×R=>OkQ Q (match p.2[j]?.bind Sl.ob,p.2[i]? with
 |some (c',ns',ls,some q),some (.val (.int n))=>if c'=c/\ns'=ns/\q.1.length<16777216 then(p.2[j]?).map λs=>(.next,p.2.set j (s.putT (.obj c ns ls (some (gJ q.1 q.2 n p.1)))))else none
 |_,_=>none)) (me ρ):=ok_bind
def zix {Q:D×R->Prop}{dk:AB (AA Int×AA D)}(h:ρ[j]? =some s)(hs:s.ob=some (c,ns,ls,dk)):OkQ Q (Cq F c ns j ma ρ)=OkQ (λq:AA D×R=>OkQ Q (match q.2[j]?.bind Sl.ob with
  |some (c2,ns2,l2,d2)=>(F (.ptr (.obj c2 ns2 l2 d2)::q.1.map .val)).bind λz=>match z with
   |(.val d,.ptr (.obj c3 ns3 l3 d3)::_)=>(q.2[j]?).map λs=>(d,q.2.set j (s.putT (.obj c3 ns3 l3 d3)))
   |_=>none
  |none=>none)) (ma ρ):=by
 have e:Cq F c ns j ma ρ=(ma ρ).bind λq=>match q.2[j]?.bind Sl.ob with
  |some (c2,ns2,l2,d2)=>(F (.ptr (.obj c2 ns2 l2 d2)::q.1.map .val)).bind λz=>match z with
   |(.val d,.ptr (.obj c3 ns3 l3 d3)::_)=>(q.2[j]?).map λs=>(d,q.2.set j (s.putT (.obj c3 ns3 l3 d3)))
   |_=>none
  |none=>none:=by
  unfold Cq;rw[h,iT,hs];exact if_pos ⟨rfl,rfl⟩
 rw[e];exact ok_bind
theorem xB:OkQ Q (Fq i c ns F ma ρ)=OkQ (λq:AA D×R=>OkQ Q ((F (.ptr (.obj c [] [] none)::q.1.map .val)).bind λz=>match z with
 |(.val .non,.ptr (.obj c3 ns3 l3 (some d3))::_)=>if c3=c/\ns3=ns then some (.next,q.2.set i (.val (obD c ns l3 d3)))else none
 |_=>none)) (ma ρ):=ok_bind
end
section
variable {ρ:R}{i j a b c:Nat}{ma:MA}
theorem xW {F:AA D->AA D->AB (Sl×AA D)}:OkQ Q (pG j a b c F ma ρ)=OkQ Q (gd ((ρ[j]?.bind Sl.items).isSome) ((ma ρ).bind λp=>p.2[j]?.bind λs=>s.items.bind λcs=>(F cs p.1).bind λr=>match r.1 with
 | .val (.tup [x,y,z])=>some (.next,(((p.2.set j (s.put r.2)).set a (.val x)).set b (.val y)).set c (.val z))
 | .tre (.tup [.d x,.d y,.l ds])=>some (.next,(((p.2.set j (s.put r.2)).set a (.val x)).set b (.val y)).set c (.own ds))
 |_=>none)):=rfl
theorem pD {F:AA D->AB Sl}:OkQ Q (Yl i a b c F ρ)=OkQ Q (match ρ[a]?,ρ[b]?,ρ[c]? with
 |some (.val x),some (.val y),some (.val .non)=>(F [x,y,.non]).bind λr=>match r with
  | .own ds=>some (.next,ρ.set i (.own ds))
  |_=>none
 |some (.val x),some (.val y),some (.own ds)=>some (.next,(ρ.set c .emp).set i (.own ds))
 |_,_,_=>none):=rfl
end
section
theorem Qe {g:AA D->R->AB R}{Q:R->Prop}:OkQ Q (gL n g d ρ)=OkQ Q (match d with
 | .lst ds=>if ds.length=n then g ds ρ else none
 |_=>none):=rfl
end
theorem yF {Q:AA D×R->Prop}:OkQ Q (rT j ρ)=OkQ Q (match ρ[j]? with
 |some (.own ds)=>some (ds,ρ)
 |_=>none):=rfl
end M
local macro_rules | `(tactic| simp! [$ls,*]) => do
  let f (d : Bool) (n : String) : Lean.MacroM (Lean.TSyntax `Lean.Parser.Tactic.simpLemma) := let i := Lean.mkIdent n.toName; if d then `(Lean.Parser.Tactic.simpLemma| ↓$i:term) else `(Lean.Parser.Tactic.simpLemma| $i:term)
  let a ← ("M.Ia M.Bl M.Mo M.uZ M.pL M.sU M.ok_bind M.ok_map M.Vg M.yZ M.ok_some M.oH M.qQ M.zoW M.Ut M.Qe M.yF M.xZ M.Au M.zpv M.yK M.Il M.Kg M.yD M.Jl M.Qk M.Sj M.mP M.uV M.Lm M.Gj M.Aa M.yH M.uU M.An M.zpM M.xW M.pD M.Aw M.xG M.sD M.qR M.Vo M.Fc M.Gq M.Hd M.Ng M.zI M.uQ M.zN M.yJ M.vT M.xB M.Mn M.r_eC M.Jp M.Gp M.vE M.r_m2 M.r_m1 M.r_mC M.r_oC M.Ha M.Ks M.Ja M.yV M.Tc M.Fk M.Bb M.uH M.Ay M.Mh M.Bm M.Hg M.Ae M.zU M.Kl M.vQ M.Sd M.Xk M.Gu M.r_gN M.To M.uR M.My M.wA M.zo7".splitOn " ").toArray.mapM (f true)
  let b ← ("M.ok_some M.pV M.Mj M.Kw M.Jo M.oN M.oK M.Jb M.Iu M.oE M.nM M.Fs M.Mc M.sZ M.Kt M.rA M.Hy M.Ln M.Iy M.Ta M.Qt M.Vq M.Ua M.Wp M.Wl M.Us M.Qr M.Yp M.yO M.Ac M.vZ M.Kf M.zZ M.zX M.vK M.uI M.zT M.qH M.Gr M.Em M.wZ M.sJ M.Lw M.qF M.Kj M.oV M.Iz M.Jj M.pU M.Ms M.Rf M.Tr M.Gg M.Gf M.Kc M.pS M.nY M.Iq M.yC M.Lz M.iC M.dZ M.lY M.eM M.eX M.Nb M.Lu M.On M.Rv M.dU M.cG M.bH M.xK M.wH M.Sl.items M.Sl.put M.gZ M.hX M.fz1 M.fzL M.jJ M.eY M.Ed M.jH M.rC M.rS M.wC M.uO M.Li M.Sl.putT M.Ii M.Sl.look M.hasA M.fW M.cZ M.Sl.ob M.Ba M.Hj M.qS M.Px M.zpe M.rY M.zpN M.mN List.getElem?_cons_zero List.getElem?_cons_succ List.set_cons_zero List.set_cons_succ Option.bind_some Option.isSome_some Option.map_some if_true M.znL M.pJ M.zjb M.zpE List.replicate_succ List.replicate_zero List.length_cons List.length_nil List.cons_append List.nil_append List.all_cons List.all_nil Bool.and_true Bool.true_and Bool.and_self Bool.true_eq_false Bool.false_eq_true if_false M.Ah M.Be List.length_map List.length_append M.Dr M.wM M.Bx M.vM M.rG M.mV M.oI M.qW M.Kx M.rB M.Fn M.Im M.Yd M.Yi M.Wd M.zlS M.yI M.wN M.rQ M.wQ M.yX M.Fy M.Nc beq_self_eq_true Bool.not_true Bool.not_false Int.toNat_natCast M.oG M.bV decide_eq_true_eq Bool.and_eq_true true_and and_true Nat.reduceAdd Nat.reduceLeDiff Int.reduceLT Int.reduceLE Int.reduceNeg Nat.reduceSub Int.reducePow Int.reduceMul Int.reduceAdd Nat.reduceLT Nat.reduceBNe List.filter_cons List.filter_nil bne_self_eq_false Int.reduceToNat Nat.reducePow M.zm0 Int.reduceEq decide_true decide_false beq_iff_eq beq_eq_false_iff_ne bne_iff_ne bne_eq_false_iff_eq decide_eq_false_iff_not Int.not_le Int.not_lt ne_eq forall_const false_implies reduceCtorEq imp_self implies_true M.D.bl.injEq exists_eq_left' Bool.not_true Bool.not_false Int.reduceSub Int.reduceMod Int.reduceDiv Nat.reduceEqDiff Int.reduceBEq Int.reduceBNe Nat.reduceMod true_implies".splitOn " ").toArray.mapM (f false)
  `(tactic| simp only [$a,*, $b,*, $ls,*])
namespace Prf
open L2 M PySem
def top (i:Nat):Stmt:=PySem.Challenge.pw_tellsum_k52_tellings_without_a_row.main.body.getD i (.Pass ⟨0,0,0,0⟩)
structure BN (K:W.Frag)(mg:Str->Option Value):Prop where
 oc:OC K slC slN
 abs':mg "abs"=none
 all':mg "all"=none
 any':mg "any"=none
 enumerate':mg "enumerate"=none
 len':mg "len"=none
 list':mg "list"=none
 max':mg "max"=none
 min':mg "min"=none
 range':mg "range"=none
 sorted':mg "sorted"=none
 sum':mg "sum"=none
 tuple':mg "tuple"=none
 zip':mg "zip"=none
section
variable {P:AJ}{w:World}{K:AF}{mg:Str->AB AC}{base hp:AK}{f:AD}{fd:FuncData}(X:K.In hp)(G:hp.Ns AL mg)(bn:BN K mg)
include X G bn
abbrev zfZ:Stmt:=top 1
def zeA:ME:=
 (aU 0 (aA 1))
def zek:MO:=
 cT [0] 1 (cA (aA 1)) (gN 1) fA zeA
def zeP:MS:=
 (bK (mC rC (aE (cE zek) aB)))
def zcJ:AA D->AB Sl:=fP 2 zeP
theorem zj1 (h:FnAt K "chosen_sum" zfZ):FD P w K mg base 1 "chosen_sum" (aX K 2 zcJ):=
 eU (N:=["row","places"]) (k:=0) (m:=zeP) X G h λ_ _ _ _ _ _ _ hr nd=>(aV (dS (qK rfl bn.sum' (aF (SO.se (fN [0] 1 ["row","place"] rfl (fJ (aD 1)) (λC s H fp=>(bU 1 cS)) (λC s H fp=>fQ) (λC s H fp=>(cV 0 (aD 1))))) aK))))
abbrev ziu:Stmt:=top 2
def zf1:ME:=
 (cM zcJ (aE (aA 0) (aE (aA 1) aB)))
def zgt:MO:=
 cT [0] 1 (cA (aA 1)) (gN 1) fA zf1
def zgR:MS:=
 (bK (mC fI (aE (cE zgt) aB)))
def Sy:AA D->AB Sl:=fP 2 zgR
theorem zlA (zdM:FD P w K mg base 1 "chosen_sum" (aX K 2 zcJ))(h:FnAt K "set_sums" ziu):FD P w K mg base 2 "set_sums" (aX K 2 Sy):=
 eU (N:=["row","sets"]) (k:=1) (m:=zgR) X G h λ_ _ _ _ _ _ _ hr nd=>(aV (dS (mG bn.tuple' (aF (SO.se (fN [0] 1 ["row","places"] rfl (fJ (aD 1)) (λC s H fp=>(bU 1 cS)) (λC s H fp=>fQ) (λC s H fp=>(dB zdM hr (aF (aD 0) (aF (aD 1) aK)) (AO:=(aQ (aQ bD))))))) aK))))
abbrev zhf:Stmt:=top 4
def zfS:MS:=
 (bK (lG (m2 cX (fB 1) (aU 0 (eC (.int 0)))) (m2 cX (cM Sy (aE (aA 1) (aE (aU 0 (eC (.int 1))) aB))) (aU 0 (eC (.int 2))))))
def Zl:AA D->AB Sl:=fP 2 zfS
theorem zkd (zfw:FD P w K mg base 2 "set_sums" (aX K 2 Sy))(h:FnAt K "sets_hold" zhf):FD P w K mg base 3 "sets_hold" (aX K 2 Zl):=
 eU (N:=["telling","row"]) (k:=2) (m:=zfS) X G h λ_ _ _ _ _ _ _ hr nd=>(aV (dS (znF (Yk hr.units (iP 1 bn.len') (cV 0 aL)) (zoa (Yk hr.units (dB zfw hr (aF (aD 1) (aF (cV 0 aL) aK)) (AO:=(aQ (aQ bD)))) (cV 0 aL))))))
abbrev zhL:Stmt:=top 6
def zf2:ME:=
 (eIf (aO (m2 cX (aA 1) (aA 0))) (eC (.int 1)) (eC (.int 0)))
def zgB:MO:=
 cT [1] 1 (iK (aE (aA 0) aB)) (gN 1) fA zf2
def zgV:MS:=
 (jA zgB)
def Uy:AA D->AB Sl:=fP 2 zgV
theorem zlC (h:FnAt K "unit_row" zhL):FD P w K mg base 1 "unit_row" (aX K 2 Uy):=
 eU (N:=["many","place"]) (k:=0) (m:=zgV) X G h λ_ _ _ _ _ _ _ hr nd=>(aV (kB (fN [1] 1 ["place","other"] rfl (kH bn.range' (aF (aD 0) aK)) (λC s H fp=>(bU 1 cS)) (λC s H fp=>fQ) (λC s H fp=>(zmn (kW hr.units (aD 1) (aD 0)) aL aL)))))
abbrev zg2:Stmt:=top 7
def zft:ME:=
 (cM Uy (aE (aA 0) (aE (aA 1) aB)))
def zff:MO:=
 cT [0] 1 (iK (aE (aA 0) aB)) (gN 1) fA zft
def zfJ:MS:=
 (jA zff)
def Mt:AA D->AB Sl:=fP 1 zfJ
theorem zkn (zfC:FD P w K mg base 1 "unit_row" (aX K 2 Uy))(h:FnAt K "unit_rows" zg2):FD P w K mg base 2 "unit_rows" (aX K 1 Mt):=
 eU (N:=["many"]) (k:=1) (m:=zfJ) X G h λ_ _ _ _ _ _ _ hr nd=>(aV (kB (fN [0] 1 ["many","place"] rfl (kH bn.range' (aF (aD 0) aK)) (λC s H fp=>(bU 1 cS)) (λC s H fp=>fQ) (λC s H fp=>(dB zfC hr (aF (aD 0) (aF (aD 1) aK)) (AO:=(aQ (aQ bD))))))))
abbrev zjd:Stmt:=top 8
def zhb:ME:=
 (eIf (aO (m2 tT (aA 1) (aA 0))) (eC (.int 1)) (eC (.int 0)))
def zg4:MO:=
 cT [1] 1 (iK (aE (aA 0) aB)) (gN 1) fA zhb
def zhD:MS:=
 (jA zg4)
def Rl:AA D->AB Sl:=fP 2 zhD
theorem zm9 (h:FnAt K "has_row" zjd):FD P w K mg base 1 "has_row" (aX K 2 Rl):=
 eU (N:=["many","places"]) (k:=0) (m:=zhD) X G h λ_ _ _ _ _ _ _ hr nd=>(aV (kB (fN [1] 1 ["places","place"] rfl (kH bn.range' (aF (aD 0) aK)) (λC s H fp=>(bU 1 cS)) (λC s H fp=>fQ) (λC s H fp=>(zmn (Eh (aD 1) (aD 0)) aL aL)))))
abbrev zhg:Stmt:=top 9
def zfr:ME:=
 (m2 dZ (aA 1) (m2 Ba (aA 0) (aA 2)))
def zfi:MO:=
 cT [2] 2 (Ow (aE (aA 0) (aE (aA 1) aB))) (gT 2 (hG (gN 1) (hG (gN 2) tO))) fA zfr
def zfH:MS:=
 (jA zfi)
def sI:AA D->AB Sl:=fP 3 zfH
theorem zkC (h:FnAt K "taken_off" zhg):FD P w K mg base 1 "taken_off" (aX K 3 sI):=
 eU (N:=["row","other","times"]) (k:=0) (m:=zfH) X G h λ_ _ _ _ _ _ _ hr nd=>(aV (kB (fN [2] 2 ["times","number","less"] rfl (zhp bn.zip' (aF (aD 0) (aF (aD 1) aK))) (λC s H fp=>(Mq rfl (iQ (bU 1 cS) (iQ (bU 2 cS) Cf)))) (λC s H fp=>fQ) (λC s H fp=>(qI (aD 1) (Lj (aD 0) (aD 2)))))))
abbrev zct:Stmt:=top 10
def zbC:MS:=
 (bK (m2 bH (m2 bH (gR (aA 0) zP (Bg (aA 1))) (cE (bN (aE (m2 dZ (aU 0 (aA 1)) (m2 Ba (aA 3) (aU 0 (aA 2)))) aB)))) (gR (aA 0) (Bg (m2 bH (aA 1) (eC (.int 1)))) zP)))
def Ql:AA D->AB Sl:=fP 4 zbC
theorem zfI (h:FnAt K "column_taken_off" zct):FD P w K mg base 1 "column_taken_off" (aX K 4 Ql):=
 eU (N:=["row","c","other","times"]) (k:=0) (m:=zbC) X G h λ_ _ _ _ _ _ _ hr nd=>(aV (dS (dW (dW (Ga (aD 0) Ik (Ll (aD 1))) (SO.se (dX (aF (qI (cV 0 (aD 1)) (Lj (aD 3) (cV 0 (aD 2)))) aK)))) (Ga (aD 0) (Ll (dW (aD 1) aL)) Ik))))
abbrev zef:Stmt:=top 11
def zdl:ME:=
 (m2 Ba (aA 0) (aA 1))
def zc3:MO:=
 cT [] 2 (Ow (aE (aA 0) (aE (aA 1) aB))) (gT 2 (hG (gN 0) (hG (gN 1) tO))) fA zdl
def zcU:MS:=
 (bK (mC rC (aE (cE zc3) aB)))
def Qy:AA D->AB Sl:=fP 2 zcU
theorem zia (h:FnAt K "products_sum" zef):FD P w K mg base 1 "products_sum" (aX K 2 Qy):=
 eU (N:=["row","other"]) (k:=0) (m:=zcU) X G h λ_ _ _ _ _ _ _ hr nd=>(aV (dS (qK rfl bn.sum' (aF (SO.se (fN [] 2 ["number","times"] rfl (zhp bn.zip' (aF (aD 0) (aF (aD 1) aK))) (λC s H fp=>(Mq rfl (iQ (bU 0 cS) (iQ (bU 1 cS) Cf)))) (λC s H fp=>fQ) (λC s H fp=>(Lj (aD 0) (aD 1))))) aK))))
abbrev zbA:Stmt:=Cn (top 12) 2
def zdj:ME:=
 (Vd (Ec slC slN (aA 0)) (aA 1))
def zdi:MO:=
 cT [0] 1 (iKN (Ec slC slN (aA 0))) (gN 1) fA zdj
def zdc:ME:=
 (aA 1)
def zc8:MT:=
 (aO (m2 zn1 (aA 1) (aA 0)))
def zdw:MO:=
 cT [1] 1 (iK (aE (mC cJ (aE (m1 (eH slC slN 2) (aA 0)) aB)) aB)) (gN 1) zc8 zdc
def zcX:MS:=
 (aI (aN 1 (cE zdi))
  (jA zdw))
def Jr:AA D->AB Sl:=fP 2 zcX
theorem ziC (h:MAtC K slC "open_columns" "Slant.open_columns" zbA):MV P w K mg base 1 slC "open_columns" (aX K 1 Jr):=
 mvP (N:=["self","done"]) (k:=0) (m:=zcX) h λ_ _ _ _ _ _ _ hr nd=>(aR (cC 1 (SO.se (fN [0] 1 ["self","r"] rfl (Vl (Pk 4 bn.oc (aD 0))) (λC s H fp=>(bU 1 cS)) (λC s H fp=>fQ) (λC s H fp=>(zjQ (Pk 4 bn.oc (aD 0)) (aD 1))))) nd)
  (aV (kB (fN [1] 1 ["done","c"] rfl (kH bn.range' (aF (zpO bn.len' (aF (fO 2 bn.oc (aD 0)) aK)) aK)) (λC s H fp=>(bU 1 cS)) (λC s H fp=>(vY (qB (aD 1) (aD 0)))) (λC s H fp=>(aD 1))))))
abbrev zcQ:Stmt:=Cn (top 12) 1
def ze7:ME:=
 (aA 1)
def ze8:MT:=
 (Qv true (aA 1) (Ec slC slN (aA 0)))
def zfb:MO:=
 cT [0] 1 (iK (aE (mC cJ (aE (m1 (eH slC slN 1) (aA 0)) aB)) aB)) (gN 1) ze8 ze7
def zfz:MS:=
 (jA zfb)
def Ip:AA D->AB Sl:=fP 1 zfz
theorem zkM (h:MAtC K slC "open_rows" "Slant.open_rows" zcQ):MV P w K mg base 1 slC "open_rows" (aX K 1 Ip):=
 mvP (N:=["self"]) (k:=0) (m:=zfz) h λ_ _ _ _ _ _ _ hr nd=>(aV (kB (fN [0] 1 ["self","r"] rfl (kH bn.range' (aF (zpO bn.len' (aF (fO 1 bn.oc (aD 0)) aK)) aK)) (λC s H fp=>(bU 1 cS)) (λC s H fp=>(vY (zm4 (aD 1) (Pk 4 bn.oc (aD 0))))) (λC s H fp=>(aD 1)))))
abbrev zbB:Stmt:=Cn (top 12) 3
def zdu:ME:=
 (bL (aE (mC jH (aE (m2 bG (m2 bG (m1 (eH slC slN 0) (aA 0)) (aA 1)) (aA 2)) aB)) (aE (aA 1) (aE (aA 2) aB))))
def zdd:MT:=
 (aO (m2 gI (m2 bG (m2 bG (m1 (eH slC slN 0) (aA 0)) (aA 1)) (aA 2)) (eC (.int 0))))
def zds:MO:=
 cT [0,3] 1 (cA (aA 1)) (gN 2) zdd zdu
def zc1:MS:=
 (vX 2 (cE zds))
def zdt:MS:=
 dQ (cA (lI Ip slC slN (aA 0) aB)) (gN 3) zc1
def zdm:MS:=
 (bK (gR (mC Yn (aE (aA 2) aB)) (Bg (eC (.int 1))) zP))
def zcZ:MS:=
 (aI (aN 1 (lI Jr slC slN (aA 0) aB))
  (aI (jP 2 (bN aB))
  (aI zdt
  (aI (eD (aO (m2 cX (fB 2) (eC (.int 0))))
  (bK (eC .non))
  eN)
  zdm))))
def Jf:AA D->AB Sl:=fP 4 zcZ
theorem ziD (md_open_columns:MV P w K mg base 1 slC "open_columns" (aX K 1 Jr))(md_open_rows:MV P w K mg base 1 slC "open_rows" (aX K 1 Ip))(h:MAtC K slC "least_corner" "Slant.least_corner" zbB):MV P w K mg base 2 slC "least_corner" (aX K 1 Jf):=
 mvP (N:=["self","columns","corners","r"]) (k:=1) (m:=zcZ) h λ_ _ _ _ _ _ _ hr nd=>(aR (cC 1 (Pi (ns:=slN) (by decide+kernel) md_open_columns hr (aD 0)) nd)
  (aR (Jg 2 (dX aK) nd)
  (aR (lJ jN rfl (fJ (Pi (ns := slN) (by decide +kernel) md_open_rows hr (aD 0))) (bU 3 nd)
  (aV (Kp 2 (SO.se (fN [0,3] 1 ["self","r","c"] rfl (fJ (aD 1)) (λC s H fp=>(bU 2 cS)) (λC s H fp=>(vY (uE hr.units (dH (dH (fO 0 bn.oc (aD 0)) (aD 1)) (aD 2)) aL))) (λC s H fp=>(eQ (aF (zmE bn.abs' (aF (dH (dH (fO 0 bn.oc (aD 0)) (aD 1)) (aD 2)) aK)) (aF (aD 1) (aF (aD 2) aK))))))))))
  (aR (fE (kW hr.units (iP 2 bn.len') aL)
  (aV (dS Nh))
  fZ)
  (aV (dS (Ga (yM rfl hr.units bn.min' (aF (aD 2) aK)) (Ll aL) Ik)))))))
abbrev zdC:Stmt:=Cn (top 12) 5
def zgI:MS:=
 (aI (lD slC slN 0 0 1 (dM 0 (cM sI (aE (m2 bG (m1 (eH slC slN 0) (aA 0)) (aA 1)) (aE (m2 bG (m1 (eH slC slN 0) (aA 0)) (aA 2)) (aE (aA 3) aB))))))
  (lD slC slN 0 1 1 (dM 0 (cM sI (aE (m2 bG (m1 (eH slC slN 1) (aA 0)) (aA 1)) (aE (m2 bG (m1 (eH slC slN 1) (aA 0)) (aA 2)) (aE (aA 3) aB)))))))
def Rq:R->AB (Sl×R):=fG 4 zgI
theorem zlu (zaC:FD P w K mg base 1 "taken_off" (aX K 3 sI))(h:MAtC K slC "take_row" "Slant.take_row" zdC):MV P w K mg base 2 slC "take_row" (hZ K 4 Rq):=
 mvG (N:=["self","r","other","times"]) (k:=1) (m:=zgI) h λ_ _ _ _ _ _ _ hr nd=>(aR (zhw 0 0 1 bn.oc (uC 0 (dB zaC hr (aF (dH (fO 0 bn.oc (aD 0)) (aD 1)) (aF (dH (fO 0 bn.oc (aD 0)) (aD 2)) (aF (aD 3) aK))) (AO:=(aQ (aQ (aQ bD)))))))
  (aV (zhw 0 1 1 bn.oc (uC 0 (dB zaC hr (aF (dH (fO 1 bn.oc (aD 0)) (aD 1)) (aF (dH (fO 1 bn.oc (aD 0)) (aD 2)) (aF (aD 3) aK))) (AO:=(aQ (aQ (aQ bD)))))))))
abbrev zbO:Stmt:=Cn (top 12) 6
def zd6:ME:=
 (cM Ql (aE (aA 3) (aE (aA 0) (aE (aA 1) (aE (aA 2) aB)))))
def zd3:MO:=
 cT [1,2,3] 1 (cA (m1 (eH slC slN 0) (aA 0))) (gN 3) fA zd6
def zdI:MS:=
 (aI (Jk slC slN 0 0 (gW 0 zd3))
  (aI (lD slC slN 0 2 1 (dM 0 (cM sI (aE (m2 bG (m1 (eH slC slN 2) (aA 0)) (aA 1)) (aE (m2 bG (m1 (eH slC slN 2) (aA 0)) (aA 2)) (aE (aA 3) aB))))))
  (lD slC slN 0 3 2 (dM 0 (cM sI (aE (m2 bG (m1 (eH slC slN 3) (aA 0)) (aA 2)) (aE (m2 bG (m1 (eH slC slN 3) (aA 0)) (aA 1)) (aE (m1 dU (aA 3)) aB))))))))
def Vf:R->AB (Sl×R):=fG 4 zdI
theorem ziL (zbp:FD P w K mg base 1 "column_taken_off" (aX K 4 Ql))(zaC:FD P w K mg base 1 "taken_off" (aX K 3 sI))(h:MAtC K slC "take_column" "Slant.take_column" zbO):MV P w K mg base 2 slC "take_column" (hZ K 4 Vf):=
 mvG (N:=["self","c","other","times"]) (k:=1) (m:=zdI) h λ_ _ _ _ _ _ _ hr nd=>(aR (mE 0 0 bn.oc (nW 0 (fN [1,2,3] 1 ["c","other","times","row"] rfl (fJ (fO 0 bn.oc (aD 0))) (λC s H fp=>(bU 3 cS)) (λC s H fp=>fQ) (λC s H fp=>(dB zbp hr (aF (aD 3) (aF (aD 0) (aF (aD 1) (aF (aD 2) aK)))) (AO:=(aQ (aQ (aQ (aQ bD))))))))))
  (aR (zhw 0 2 1 bn.oc (uC 0 (dB zaC hr (aF (dH (fO 2 bn.oc (aD 0)) (aD 1)) (aF (dH (fO 2 bn.oc (aD 0)) (aD 2)) (aF (aD 3) aK))) (AO := (aQ (aQ (aQ bD)))))))
  (aV (zhw 0 3 2 bn.oc (uC 0 (dB zaC hr (aF (dH (fO 3 bn.oc (aD 0)) (aD 2)) (aF (dH (fO 3 bn.oc (aD 0)) (aD 1)) (aF (Da (aD 3)) aK))) (AO:=(aQ (aQ (aQ bD))))))))))
abbrev zbP:Stmt:=Cn (top 12) 4
def zdV:ME:=
 (aA 1)
def zdW:MT:=
 (aO (m2 gI (aA 1) (aA 0)))
def zd8:MO:=
 cT [1] 1 (cA (lI Ip slC slN (aA 0) aB)) (gN 1) zdW zdV
def zdY:ME:=
 (aA 1)
def zdX:MT:=
 (aO (m2 gI (aA 1) (aA 0)))
def zd7:MO:=
 cT [2] 1 (cA (lI Jr slC slN (aA 0) aB)) (gN 1) zdX zdY
def zdT:MS:=
 (Yv (Cq Rq slC slN 0 (aE (aA 5) (aE (aA 1) (aE (dM 0 (m2 Hj (m2 bG (m2 bG (m1 (eH slC slN 0) (aA 0)) (aA 5)) (aA 2)) (m2 bG (m2 bG (m1 (eH slC slN 0) (aA 0)) (aA 1)) (aA 2)))) aB)))))
def zb4:MS:=
 dQ (cA (aA 3)) (gN 5) zdT
def zdQ:MS:=
 (Yv (Cq Vf slC slN 0 (aE (aA 5) (aE (aA 2) (aE (dM 0 (m2 Hj (m2 bG (m2 bG (m1 (eH slC slN 0) (aA 0)) (aA 1)) (aA 5)) (m2 bG (m2 bG (m1 (eH slC slN 0) (aA 0)) (aA 1)) (aA 2)))) aB)))))
def zb6:MS:=
 dQ (cA (aA 4)) (gN 5) zdQ
def zd4:ME:=
 (m2 bG (m2 bG (m1 (eH slC slN 0) (aA 0)) (aA 2)) (aA 1))
def zdR:MO:=
 cT [0,2] 1 (cA (aA 3)) (gN 2) fA zd4
def zd0:ME:=
 (m2 bG (m2 bG (m1 (eH slC slN 0) (aA 0)) (aA 1)) (aA 2))
def zdU:MO:=
 cT [0,1] 1 (cA (aA 4)) (gN 2) fA zd0
def zdG:MS:=
 (aI (aN 3 (cE (gW 0 zd8)))
  (aI (aN 4 (cE (gW 0 zd7)))
  (aI zb4
  (aI zb6
  (eD (kN (tK (aO (dM 0 (mC Px (aE (cE zdR) aB))))) (tK (aO (dM 0 (mC Px (aE (cE zdU) aB))))))
  (Ie slC slN 0 1 (aA 2))
  eN)))))
def Rk:R->AB (Sl×R):=fG 6 zdG
theorem ziK (md_open_columns:MV P w K mg base 1 slC "open_columns" (aX K 1 Jr))(md_open_rows:MV P w K mg base 1 slC "open_rows" (aX K 1 Ip))(md_take_column:MV P w K mg base 2 slC "take_column" (hZ K 4 Vf))(md_take_row:MV P w K mg base 2 slC "take_row" (hZ K 4 Rq))(h:MAtC K slC "clear_cross" "Slant.clear_cross" zbP):MV P w K mg base 3 slC "clear_cross" (hZ K 3 Rk):=
 mvG (N:=["self","r","c","rows","columns","other"]) (k:=2) (m:=zdG) h λ_ _ _ _ _ _ _ hr nd=>(aR (zkc 0 3 [1] 1 ["r","other"] rfl (fJ (Pi (ns:=slN) (by decide+kernel) md_open_rows hr (aD 0))) (λC s H fp=>(bU 1 cS)) (λC s H fp=>(vY (uE hr.units (aD 1) (aD 0)))) (λC s H fp=>(aD 1)) nd)
  (aR (zkc 0 4 [2] 1 ["c", "other"] rfl (fJ (Pi (ns := slN) (by decide +kernel) md_open_columns hr (aD 0))) (λC s H fp => (bU 1 cS)) (λC s H fp => (vY (uE hr.units (aD 1) (aD 0)))) (λC s H fp => (aD 1)) nd)
  (aR (lJ jN rfl (fJ (aD 3)) (bU 5 nd)
  (aV (zlE (zj2 0 (c:=slC) (ns:=slN) (by decide+kernel) md_take_row hr (aF (aD 5) (aF (aD 1) (aF (uC 0 (Xq (dH (dH (fO 0 bn.oc (aD 0)) (aD 5)) (aD 2)) (dH (dH (fO 0 bn.oc (aD 0)) (aD 1)) (aD 2)))) aK))) (dN (aQ (aQ (aQ bD))))))))
  (aR (lJ jN rfl (fJ (aD 4)) (bU 5 nd)
  (aV (zlE (zj2 0 (c:=slC) (ns:=slN) (by decide+kernel) md_take_column hr (aF (aD 5) (aF (aD 2) (aF (uC 0 (Xq (dH (dH (fO 0 bn.oc (aD 0)) (aD 1)) (aD 5)) (dH (dH (fO 0 bn.oc (aD 0)) (aD 1)) (aD 2)))) aK))) (dN (aQ (aQ (aQ bD))))))))
  (aV (fE (STw.st (El (Oe (Ov (uC 0 (zpH rfl bn.any' (aF (SO.se (fN [0, 2] 1 ["self", "c", "other"] rfl (fJ (aD 3)) (λC s H fp => (bU 2 cS)) (λC s H fp => fQ) (λC s H fp => (dH (dH (fO 0 bn.oc (aD 0)) (aD 2)) (aD 1))))) aK))))) (wX (Oe (Ov (uC 0 (zpH rfl bn.any' (aF (SO.se (fN [0, 1] 1 ["self", "r", "other"] rfl (fJ (aD 4)) (λC s H fp => (bU 2 cS)) (λC s H fp => fQ) (λC s H fp => (dH (dH (fO 0 bn.oc (aD 0)) (aD 1)) (aD 2))))) aK))))))))
  (aV (pY 0 4 1 bn.oc (aD 2)))
  fZ))))))
abbrev zdJ:Stmt:=Cn (top 12) 0
def zge:ME:=
 (cM Rl (aE (aU 0 (eC (.int 0))) (aE (aA 1) aB)))
def zfU:MO:=
 cT [1] 1 (cA (aU 1 (eC (.int 1)))) (gN 1) fA zge
def zgd:MT:=
 (aO (m2 wC (aA 2) (eC .non)))
def zgA:MS:=
 (aI (Yv (Cq Rk slC slN 0 (aE (aU 2 (eC (.int 0))) (aE (aU 2 (eC (.int 1))) aB))))
  (aN 2 (dM 0 (lI Jf slC slN (aA 0) aB))))
def zgr:MS:=
 tU zgd zgA fR
def zgT:MS:=
 (aI (lE slC (slN.take 0) (slN.take 1) 0 zfU)
  (aI (lE slC (slN.take 1) (slN.take 2) 0 (Bz Mt (aE (mC cJ (aE (aU 1 (eC (.int 1))) aB)) aB)))
  (aI (lE slC (slN.take 2) (slN.take 3) 0 (Bz Mt (aE (aU 1 (eC (.int 0))) aB)))
  (aI (lE slC (slN.take 3) (slN.take 4) 0 (Bz Mt (aE (aU 1 (eC (.int 0))) aB)))
  (aI (xS slC (slN.take 4) slN 0)
  (aI (aN 2 (dM 0 (lI Jf slC slN (aA 0) aB)))
  zgr))))))
def Tn:R->AB (Sl×R):=fG 3 zgT
theorem zla (md_clear_cross:MV P w K mg base 3 slC "clear_cross" (hZ K 3 Rk))(zgH:FD P w K mg base 1 "has_row" (aX K 2 Rl))(md_least_corner:MV P w K mg base 2 slC "least_corner" (aX K 1 Jf))(zbV:FD P w K mg base 2 "unit_rows" (aX K 1 Mt))(h:IAtC K mg slC "Slant.__init__" zdJ):MkO P w K mg base 4 slC (hZ K 2 Tn):=
 mkG (N:=["self","telling","corner"]) (k:=3) (m:=zgT) h λ_ _ _ _ _ _ _ hr nd=>(aR (zhr (c:=slC) (ns:=slN.take 0) 0 (slN.take 1) (bn.oc.take 1) (fN [1] 1 ["telling","places"] rfl (fJ (cV 1 aL)) (λC s H fp=>(bU 1 cS)) (λC s H fp=>fQ) (λC s H fp=>(dB zgH hr (aF (cV 0 aL) (aF (aD 1) aK)) (AO:=(aQ (aQ bD)))))))
  (aR (zhr (c := slC) (ns := slN.take 1) 0 (slN.take 2) (bn.oc.take 2) (zjy zbV hr (aF (zpO bn.len' (aF (cV 1 aL) aK)) aK) (AO := (aQ bD))))
  (aR (zhr (c := slC) (ns := slN.take 2) 0 (slN.take 3) (bn.oc.take 3) (zjy zbV hr (aF (cV 1 aL) aK) (AO := (aQ bD))))
  (aR (zhr (c := slC) (ns := slN.take 3) 0 (slN.take 4) (bn.oc.take 4) (zjy zbV hr (aF (cV 1 aL) aK) (AO := (aQ bD))))
  (aR (oS (c := slC) (ns := slN.take 4) 0 slN bn.oc)
  (aR (cC 2 (uC 0 (Pi (ns := slN) (by decide +kernel) md_least_corner hr (aD 0))) nd)
  (aV (zkb fR jN (zmq (aD 2) Nh)
  (aR (zlE (zj2 0 (c := slC) (ns := slN) (by decide +kernel) md_clear_cross hr (aF (cV 2 aL) (aF (cV 2 aL) aK)) (dN (aQ (aQ bD)))))
  (aV (cC 2 (uC 0 (Pi (ns:=slN) (by decide+kernel) md_least_corner hr (aD 0))) nd)))))))))))
abbrev zby:Stmt:=Cn (top 12) 7
def zcW:MS:=
 (bK (m2 bG (m2 bG (m1 (eH slC slN 0) (aA 0)) (aA 1)) (Vd (Ec slC slN (aA 0)) (aA 1))))
def Tg:AA D->AB Sl:=fP 2 zcW
theorem zil (h:MAtC K slC "slant_number" "Slant.slant_number" zby):MV P w K mg base 1 slC "slant_number" (aX K 2 Tg):=
 mvP (N:=["self","r"]) (k:=0) (m:=zcW) h λ_ _ _ _ _ _ _ hr nd=>(aV (dS (dH (dH (fO 0 bn.oc (aD 0)) (aD 1)) (zjQ (Pk 4 bn.oc (aD 0)) (aD 1)))))
abbrev zc6:Stmt:=top 13
def zcu:MT:=
 (aO (m2 gI (aA 3) (eC (.int 0))))
def zci:MS:=
 (aI (aN 4 (m2 eM (aA 2) (aA 3)))
  (aI (aN 2 (aA 3))
  (aN 3 (aA 4))))
def zcl:MS:=
 tU zcu zci fR
def zb2:MS:=
 (aI (aN 2 (mC jH (aE (aA 0) aB)))
  (aI (aN 3 (mC jH (aE (aA 1) aB)))
  (aI zcl
  (pE 2))))
def Lr:AA D->AB Sl:=fP 5 zb2
theorem zgJ (h:FnAt K "common_divisor" zc6):FD P w K mg base 1 "common_divisor" (aX K 2 Lr):=
 eU (N:=["number","other","first","second","left"]) (k:=0) (m:=zb2) X G h λ_ _ _ _ _ _ _ hr nd=>(aR (cC 2 (zmE bn.abs' (aF (aD 0) aK)) nd)
  (aR (cC 3 (zmE bn.abs' (aF (aD 1) aK)) nd)
  (aR (zkb fR jN (uE hr.units (aD 3) aL)
  (aR (cC 4 (tV (aD 2) (aD 3)) nd)
  (aR (cC 2 (aD 3) nd)
  (aV (cC 3 (aD 4) nd)))))
  (aV (Fo 2)))))
abbrev zh1:Stmt:=top 14
def zdz:MS:=
 (bK (bL (aE (m2 Hj (aA 0) (aA 2)) (aE (m2 Hj (aA 1) (aA 2)) aB))))
def zgO:MS:=
 (aI (aN 2 (cM Lr (aE (aA 0) (aE (aA 1) aB))))
  (aI (eD (aO (m2 On (aA 1) (eC (.int 0))))
  (aN 2 (m1 dU (aA 2)))
  eN)
  zdz))
def Qx:AA D->AB Sl:=fP 3 zgO
theorem zll (zaI:FD P w K mg base 1 "common_divisor" (aX K 2 Lr))(h:FnAt K "ratio_of" zh1):FD P w K mg base 2 "ratio_of" (aX K 2 Qx):=
 eU (N:=["top","bottom","divisor"]) (k:=1) (m:=zgO) X G h λ_ _ _ _ _ _ _ hr nd=>(aR (cC 2 (dB zaI hr (aF (aD 0) (aF (aD 1) aK)) (AO:=(aQ (aQ bD)))) nd)
  (aR (fE (kE (aD 1) aL)
  (aV (cC 2 (Da (aD 2)) nd))
  fZ)
  (aV (dS (eQ (aF (Xq (aD 0) (aD 2)) (aF (Xq (aD 1) (aD 2)) aK)))))))
abbrev zh3:Stmt:=top 15
def zgE:MS:=
 (bK (lG (m2 Rv (aA 1) (eC (.int 1))) (m2 cX (cM Lr (aE (aA 0) (aE (aA 1) aB))) (eC (.int 1)))))
def Tu:AA D->AB Sl:=fP 2 zgE
theorem zlr (zaI:FD P w K mg base 1 "common_divisor" (aX K 2 Lr))(h:FnAt K "is_ratio" zh3):FD P w K mg base 2 "is_ratio" (aX K 2 Tu):=
 eU (N:=["top","bottom"]) (k:=1) (m:=zgE) X G h λ_ _ _ _ _ _ _ hr nd=>(aV (dS (znF (Xy (aD 1) aL) (zoa (Yk hr.units (dB zaI hr (aF (aD 0) (aF (aD 1) aK)) (AO:=(aQ (aQ bD)))) aL)))))
abbrev zf0:Stmt:=top 16
def zeL:MS:=
 (aI (aN 1 (m2 bH (m2 Ba (aA 1) (aA 4)) (m2 Ba (aA 3) (aA 2))))
  (aN 2 (m2 Ba (aA 2) (aA 4))))
def zeK:MS:=
 dQ (cA (aA 0)) (gT 2 (hG (gN 3) (hG (gN 4) tO))) zeL
def zeu:MS:=
 (aI (aN 1 (eC (.int 0)))
  (aI (aN 2 (eC (.int 1)))
  (aI zeK
  (bK (bL (aE (aA 1) (aE (aA 2) aB)))))))
def Pe:AA D->AB Sl:=fP 5 zeu
theorem zjo (h:FnAt K "ratios_sum" zf0):FD P w K mg base 1 "ratios_sum" (aX K 1 Pe):=
 eU (N:=["ratios","top","bottom","more","by"]) (k:=0) (m:=zeu) X G h λ_ _ _ _ _ _ _ hr nd=>(aR (cC 1 aL nd)
  (aR (cC 2 aL nd)
  (aR (lJ jN rfl (fJ (aD 0)) (Mq rfl (iQ (bU 3 nd) (iQ (bU 4 nd) Cf)))
  (aR (cC 1 (dW (Lj (aD 1) (aD 4)) (Lj (aD 3) (aD 2))) nd)
  (aV (cC 2 (Lj (aD 2) (aD 4)) nd))))
  (aV (dS (eQ (aF (aD 1) (aF (aD 2) aK))))))))
abbrev ziE:Stmt:=top 17
def zgS:MS:=
 (bK (m2 cX (m2 eM (aU 0 (eC (.int 0))) (aU 0 (eC (.int 1)))) (eC (.int 0))))
def Np:AA D->AB Sl:=fP 1 zgS
theorem zlg (h:FnAt K "is_whole" ziE):FD P w K mg base 1 "is_whole" (aX K 1 Np):=
 eU (N:=["ratio"]) (k:=0) (m:=zgS) X G h λ_ _ _ _ _ _ _ hr nd=>(aV (dS (Yk hr.units (tV (cV 0 aL) (cV 0 aL)) aL)))
abbrev zcm:Stmt:=top 18
def zb1:MT:=
 (aO (m2 cX (m2 eM (aA 0) (aA 1)) (eC (.int 0))))
def zbW:MS:=
 (Se 1 (λi j=>i+j) (eC (.int 1)))
def zbX:MS:=
 tU zb1 zbW fR
def zbx:MS:=
 (aI (aN 1 (eC (.int 2)))
  (aI zbX
  (pE 1)))
def Ru:AA D->AB Sl:=fP 2 zbx
theorem zfR (h:FnAt K "least_no_divisor" zcm):FD P w K mg base 1 "least_no_divisor" (aX K 1 Ru):=
 eU (N:=["number","by"]) (k:=0) (m:=zbx) X G h λ_ _ _ _ _ _ _ hr nd=>(aR (cC 1 aL nd)
  (aR (zkb fR jN (kW hr.units (tV (aD 0) (aD 1)) aL)
  (aV (zoU 1 aL nd)))
  (aV (Fo 1))))
abbrev zjg:Stmt:=top 19
def zg8:ME:=
 (cM Qx (aE (aA 1) (aE (aA 0) aB)))
def zhd:MO:=
 cT [1] 1 (cA (aA 0)) (gN 1) fA zg8
def ziB:MS:=
 (bK (bL (aE (eC (.str "none")) (aE (mC fI (aE (cE zhd) aB)) aB))))
def Oq:AA D->AB Sl:=fP 2 ziB
theorem znc (zfT:FD P w K mg base 2 "ratio_of" (aX K 2 Qx))(h:FnAt K "none_by" zjg):FD P w K mg base 3 "none_by" (aX K 2 Oq):=
 eU (N:=["weights","bottom"]) (k:=2) (m:=ziB) X G h λ_ _ _ _ _ _ _ hr nd=>(aV (dS (eQ (aF Dv (aF (mG bn.tuple' (aF (SO.se (fN [1] 1 ["bottom","weight"] rfl (fJ (aD 0)) (λC s H fp=>(bU 1 cS)) (λC s H fp=>fQ) (λC s H fp=>(dB zfT hr (aF (aD 1) (aF (aD 0) aK)) (AO:=(aQ (aQ bD))))))) aK)) aK)))))
abbrev zkX:Stmt:=top 20
def zid:MS:=
 (aN 2 (cM sI (aE (aA 2) (aE (m2 bG (m1 (eH slC slN 2) (aA 1)) (Vd (Ec slC slN (aA 1)) (aA 3))) (aE (m1 dU (m2 Hj (aA 5) (aA 6))) aB)))))
def zif:MS:=
 (aI (aN 5 (cM Qy (aE (aA 4) (aE (aU 0 (eC (.int 2))) aB))))
  (eD (Qv false (aA 3) (Ec slC slN (aA 1)))
  (aI (aN 6 (lI Tg slC slN (aA 1) (aE (aA 3) aB)))
  (aI (eD (aO (m2 gI (m2 qS (aA 5) (aA 6)) (eC (.int 0))))
  (bK (cM Oq (aE (aA 4) (aE (aA 6) aB))))
  eN)
  zid))
  (eD (aO (m2 gI (aA 5) (eC (.int 0))))
  (bK (cM Oq (aE (aA 4) (aE (cM Ru (aE (aA 5) aB)) aB))))
  eN)))
def zim:MS:=
 dQ (iEn (aE (m1 (eH slC slN 1) (aA 1)) aB)) (gT 2 (hG (gN 3) (hG (gN 4) tO))) zif
def zjT:MS:=
 (aI (Fq 1 slC slN Tn (aE (aA 0) aB))
  (aI (aN 2 (m2 cG (cE (bN (aE (eC (.int 0)) aB))) (aU 0 (eC (.int 0)))))
  (aI zim
  (bK (bL (aE (eC (.str "row")) (aE (mC fI (aE (aA 2) aB)) aB)))))))
def Lv:AA D->AB Sl:=fP 7 zjT
theorem zn0 (md___init__:MkO P w K mg base 4 slC (hZ K 2 Tn))(zbr:FD P w K mg base 1 "least_no_divisor" (aX K 1 Ru))(zeW:FD P w K mg base 3 "none_by" (aX K 2 Oq))(zcp:FD P w K mg base 1 "products_sum" (aX K 2 Qy))(md_slant_number:MV P w K mg base 1 slC "slant_number" (aX K 2 Tg))(zaC:FD P w K mg base 1 "taken_off" (aX K 3 sI))(h:FnAt K "solved" zkX):FD P w K mg base 6 "solved" (aX K 1 Lv):=
 eU (N:=["telling","slant","row","r","weights","total","number"]) (k:=5) (m:=zjT) X G h λ_ _ _ _ _ _ _ hr nd=>(aR (Gm 1 (c:=slC) (ns:=slN) md___init__ hr (aF (aD 0) aK) (dN (aQ bD)) nd)
  (aR (cC 2 (iI (SO.se (dX (aF aL aK))) (cV 0 aL)) nd)
  (aR (lJ jN rfl (zjl bn.enumerate' (aF (fO 1 bn.oc (aD 1)) aK)) (Mq rfl (iQ (bU 3 nd) (iQ (bU 4 nd) Cf)))
  (aR (cC 5 (dB zcp hr (aF (aD 4) (aF (cV 0 aL) aK)) (AO := (aQ (aQ bD)))) nd)
  (aV (fE (wV (aD 3) (Pk 4 bn.oc (aD 1)))
  (aR (cC 6 (rM (ns := slN) (by decide +kernel) md_slant_number hr (aD 1) (aF (aD 3) aK) (AO := dN (aQ bD))) nd)
  (aR (fE (uE hr.units (zY (aD 5) (aD 6)) aL)
  (aV (dS (dB zeW hr (aF (aD 4) (aF (aD 6) aK)) (AO:=(aQ (aQ bD))))))
  fZ)
  (aV (cC 2 (dB zaC hr (aF (aD 2) (aF (dH (fO 2 bn.oc (aD 1)) (zjQ (Pk 4 bn.oc (aD 1)) (aD 3))) (aF (Da (Xq (aD 5) (aD 6))) aK))) (AO:=(aQ (aQ (aQ bD))))) nd))))
  (aV (fE (uE hr.units (aD 5) aL)
  (aV (dS (dB zeW hr (aF (aD 4) (aF (dB zbr hr (aF (aD 5) aK) (AO:=(aQ bD))) aK)) (AO:=(aQ (aQ bD))))))
  fZ))))))
  (aV (dS (eQ (aF Dv (aF (mG bn.tuple' (aF (aD 2) aK)) aK))))))))
abbrev zg9:Stmt:=top 21
def zfk:ME:=
 (aA 2)
def zfl:MT:=
 (aO (m2 tT (aA 0) (aA 1)))
def ze3:MO:=
 cT [2] 2 (Ow (aE (aA 0) (aE (aA 1) aB))) (gT 2 (hG (gN 1) (hG (gN 2) tO))) zfl zfk
def zfy:MS:=
 (jA ze3)
def Ux:AA D->AB Sl:=fP 3 zfy
theorem zke (h:FnAt K "ratios_at" zg9):FD P w K mg base 1 "ratios_at" (aX K 3 Ux):=
 eU (N:=["sets","ratios","place"]) (k:=0) (m:=zfy) X G h λ_ _ _ _ _ _ _ hr nd=>(aV (kB (fN [2] 2 ["place","places","ratio"] rfl (zhp bn.zip' (aF (aD 0) (aF (aD 1) aK))) (λC s H fp=>(Mq rfl (iQ (bU 1 cS) (iQ (bU 2 cS) Cf)))) (λC s H fp=>(vY (Eh (aD 0) (aD 1)))) (λC s H fp=>(aD 2)))))
abbrev zgw:Stmt:=top 22
def zeh:ME:=
 (bL (aE (m2 Ba (aU 0 (eC (.int 0))) (aA 1)) (aE (aU 0 (eC (.int 1))) aB)))
def zex:MO:=
 cT [] 2 (Ow (aE (aA 0) (aE (aA 1) aB))) (gT 2 (hG (gN 0) (hG (gN 1) tO))) fA zeh
def zeg:MS:=
 (jA zex)
def Qq:AA D->AB Sl:=fP 2 zeg
theorem zjC (h:FnAt K "times_sums" zgw):FD P w K mg base 1 "times_sums" (aX K 2 Qq):=
 eU (N:=["ratios","sums"]) (k:=0) (m:=zeg) X G h λ_ _ _ _ _ _ _ hr nd=>(aV (kB (fN [] 2 ["ratio","total"] rfl (zhp bn.zip' (aF (aD 0) (aF (aD 1) aK))) (λC s H fp=>(Mq rfl (iQ (bU 0 cS) (iQ (bU 1 cS) Cf)))) (λC s H fp=>fQ) (λC s H fp=>(eQ (aF (Lj (cV 0 aL) (aD 1)) (aF (cV 0 aL) aK)))))))
abbrev zgp:Stmt:=top 23
def zey:ME:=
 (cM Tu (aE (aA 0) (aE (aA 1) aB)))
def zeO:MO:=
 cT [] 2 (cA (aA 0)) (gT 2 (hG (gN 0) (hG (gN 1) tO))) fA zey
def zer:MS:=
 (bK (mC (rS λbs=>bs.all id) (aE (cE zeO) aB)))
def Wn:AA D->AB Sl:=fP 1 zer
theorem zjW (zfD:FD P w K mg base 2 "is_ratio" (aX K 2 Tu))(h:FnAt K "all_ratios" zgp):FD P w K mg base 3 "all_ratios" (aX K 1 Wn):=
 eU (N:=["pairs"]) (k:=2) (m:=zer) X G h λ_ _ _ _ _ _ _ hr nd=>(aV (dS (mW rfl bn.all' (aF (SO.se (fN [] 2 ["top","bottom"] rfl (fJ (aD 0)) (λC s H fp=>(Mq rfl (iQ (bU 0 cS) (iQ (bU 1 cS) Cf)))) (λC s H fp=>fQ) (λC s H fp=>(dB zfD hr (aF (aD 0) (aF (aD 1) aK)) (AO:=(aQ (aQ bD))))))) aK))))
abbrev zdZ:Stmt:=top 24
def zcF:ME:=
 (cM Pe (aE (cM Ux (aE (aA 0) (aE (aA 1) (aE (aA 2) aB)))) aB))
def zcN:MO:=
 cT [2,1] 1 (iK (aE (aU 0 (eC (.int 0))) aB)) (gN 2) fA zcF
def zcO:ME:=
 (cM Np (aE (aA 0) aB))
def zcP:MO:=
 cT [] 1 (cA (aA 3)) (gN 0) fA zcO
def zcG:MS:=
 (bK (m1 wH (cM Np (aE (cM Pe (aE (cM Qq (aE (aA 1) (aE (aU 0 (eC (.int 2))) aB))) aB)) aB))))
def zcI:MS:=
 (aI (aN 3 (cE zcN))
  (aI (eD (tK (aO (mC (rS λbs => bs.all id) (aE (cE zcP) aB))))
  (bK (eC (.bl false)))
  eN)
  zcG))
def zck:MS:=
 (aI (aN 2 (aU 0 (eC (.int 1))))
  (aI (eD (gY (aO (m2 gI (fB 1) (fB 2))) (tK (aO (cM Wn (aE (aA 1) aB)))))
  (bK (eC (.bl false)))
  eN)
  zcI))
def Vc:AA D->AB Sl:=fP 4 zck
theorem zhj (zdO:FD P w K mg base 3 "all_ratios" (aX K 1 Wn))(zdF:FD P w K mg base 1 "is_whole" (aX K 1 Np))(zez:FD P w K mg base 1 "ratios_at" (aX K 3 Ux))(zca:FD P w K mg base 1 "ratios_sum" (aX K 1 Pe))(zdK:FD P w K mg base 1 "times_sums" (aX K 2 Qq))(h:FnAt K "weights_right" zdZ):FD P w K mg base 4 "weights_right" (aX K 2 Vc):=
 eU (N:=["telling","weights","sets","at_places"]) (k:=3) (m:=zck) X G h λ_ _ _ _ _ _ _ hr nd=>(aR (cC 2 (cV 0 aL) nd)
  (aR (fE (STw.st (kL (uE hr.units (iP 1 bn.len') (iP 2 bn.len')) (zps (Oe (Ov (dB zdO hr (aF (aD 1) aK) (AO := (aQ bD))))))))
  (aV (dS Nz))
  fZ)
  (aR (zgn 3 [2, 1] 1 ["sets", "weights", "place"] rfl (kH bn.range' (aF (cV 0 aL) aK)) (λC s H fp => (bU 2 cS)) (λC s H fp => fQ) (λC s H fp => (dB zca hr (aF (dB zez hr (aF (aD 0) (aF (aD 1) (aF (aD 2) aK))) (AO := (aQ (aQ (aQ bD))))) aK) (AO := (aQ bD)))) nd)
  (aR (fE (Oe (Ov (mW rfl bn.all' (aF (SO.se (fN [] 1 ["ratio"] rfl (fJ (aD 3)) (λC s H fp => (bU 0 cS)) (λC s H fp => fQ) (λC s H fp => (dB zdF hr (aF (aD 0) aK) (AO := (aQ bD)))))) aK))))
  (aV (dS Nz))
  fZ)
  (aV (dS (Jy (dB zdF hr (aF (dB zca hr (aF (dB zdK hr (aF (aD 1) (aF (cV 0 aL) aK)) (AO:=(aQ (aQ bD)))) aK) (AO:=(aQ bD))) aK) (AO:=(aQ bD))))))))))
abbrev zeC:Stmt:=top 25
def zbJ:MS:=
 (bK (lG (m2 cX (aU 1 (eC (.int 0))) (eC (.str "none"))) (cM Vc (aE (aA 0) (aE (aU 1 (eC (.int 1))) aB)))))
def Tv:MS:=
 (aI (eD (aO (m2 cX (aU 1 (eC (.int 0))) (eC (.str "row"))))
  (bK (cM Zl (aE (aA 0) (aE (aU 1 (eC (.int 1))) aB))))
  eN)
  zbJ)
def lP:AA D->AB Sl:=fP 2 Tv
theorem zhJ (zep:FD P w K mg base 3 "sets_hold" (aX K 2 Zl))(zb3:FD P w K mg base 4 "weights_right" (aX K 2 Vc))(h:FnAt K "solved_right" zeC):FD P w K mg base 5 "solved_right" (aX K 2 lP):=
 eU (N:=["telling","told"]) (k:=4) (m:=Tv) X G h λ_ _ _ _ _ _ _ hr nd=>(aR (fE (kW hr.units (cV 1 aL) Dv)
  (aV (dS (dB zep hr (aF (aD 0) (aF (cV 1 aL) aK)) (AO:=(aQ (aQ bD))))))
  fZ)
  (aV (dS (znF (Yk hr.units (cV 1 aL) Dv) (zoa (dB zb3 hr (aF (aD 0) (aF (cV 1 aL) aK)) (AO:=(aQ (aQ bD)))))))))
abbrev zhE:Stmt:=top 27
def zgz:MS:=
 (aI (aN 4 (m2 eM (m2 bH (m2 bH (m2 cG (aA 4) (eC (.int 48271))) (m2 cG (eC (.int 7919)) (aA 5))) (eC (.int 104729))) (eC (.int 2147483647))))
  (aN 3 (m2 bH (m2 cG (aA 3) (eC (.int 1048576))) (m2 eM (m2 lY (m2 eM (m2 cG (aA 4) (aA 4)) (eC (.int 2147483629))) (eC (.int 128))) (eC (.int 1048576))))))
def zgm:MS:=
 dQ (iK (aE (eC (.int 50)) aB)) (gN 5) zgz
def zgv:MS:=
 (aI (aN 3 (eC (.int 0)))
  (aI (aN 4 (m2 bH (m2 bH (m2 eM (aA 2) (eC (.int 2147483647))) (m2 cG (eC (.int 271)) (aA 1))) (eC (.int 65537))))
  (aI zgm
  (jA (bN (aE (aA 3) aB))))))
def zdH:MS:=
 (aI (eD (aO (m2 Rv (aA 2) (m2 eX (eC (.int 10)) (eC (.int 18)))))
  (jA (bN (aE (m2 eM (m2 dZ (aA 2) (m2 eX (eC (.int 10)) (eC (.int 18)))) (m2 cG (m2 cG (m2 cG (m2 eX (eC (.int 10)) (eC (.int 60))) (m2 eX (eC (.int 10)) (eC (.int 60)))) (m2 eX (eC (.int 10)) (eC (.int 60)))) (m2 eX (eC (.int 10)) (eC (.int 60))))) aB)))
  eN)
  zgv)
def zgD:MS:=
 (aI (aN 2 (eC (.int 0)))
  (aI (eD (aO (m2 On (aA 1) (fB 0)))
  (aN 2 (aU 0 (aA 1)))
  eN)
  zdH))
def Nk:AA D->AB Sl:=fP 6 zgD
theorem zlM (h:FnAt K "_law_pot" zhE):FD P w K mg base 1 "_law_pot" (aX K 2 Nk):=
 eU (N:=["script","k","cell","great","one","turn"]) (k:=0) (m:=zgD) X G h λ_ _ _ _ _ _ _ hr nd=>(aR (cC 2 aL nd)
  (aR (fE (kE (aD 1) (iP 0 bn.len'))
  (aV (cC 2 (cV 0 (aD 1)) nd))
  fZ)
  (aR (fE (Wf (aD 2) (vD aL aL))
  (aV (kB (dX (aF (tV (qI (aD 2) (vD aL aL)) (iI (iI (iI (vD aL aL) (vD aL aL)) (vD aL aL)) (vD aL aL))) aK))))
  fZ)
  (aR (cC 3 aL nd)
  (aR (cC 4 (dW (dW (tV (aD 2) aL) (iI aL (aD 1))) aL) nd)
  (aR (lJ jN rfl (kH bn.range' (aF aL aK)) (bU 5 nd)
  (aR (cC 4 (tV (dW (dW (iI (aD 4) aL) (iI aL (aD 5))) aL) aL) nd)
  (aV (cC 3 (dW (iI (aD 3) aL) (tV (zoL (tV (iI (aD 4) (aD 4)) aL) aL) aL)) nd))))
  (aV (kB (dX (aF (aD 3) aK))))))))))
abbrev zg0:Stmt:=top 28
def zfO:MS:=
 (aI (aN 2 (m2 eM (aU 0 (eC (.int 0))) (aA 1)))
  (aI (pF 0 (eC (.int 0)) (m2 lY (aU 0 (eC (.int 0))) (aA 1)))
  (pE 2)))
def dJ:AA D->AA D->AB (Sl×AA D):=fM 3 zfO
theorem zk5 (h:FnAt K "_law_take" zg0):FD P w K mg base 1 "_law_take" (gH K 2 dJ):=
 Rm (N:=["pot","many","digit"]) (k:=0) (m:=zfO) X G h λ_ _ _ _ _ _ _ hr nd=>(aR (cC 2 (tV (cV 0 aL) (aD 1)) nd)
  (aR (nX 0 (zoL (cV 0 aL) (aD 1)) aL)
  (aV (Fo 2))))
abbrev zh0:Stmt:=top 29
def zf5:MS:=
 (eD (aO (m2 On (aA 2) (eC (.int 4))))
  (jD 3 (m2 dZ (dI dJ 0 (aE (m2 bG (bL (aE (eC (.int 2)) (aE (eC (.int 10)) (aE (eC (.int 11)) (aE (m2 eX (eC (.int 10)) (eC (.int 6))) aB))))) (aA 2)) aB)) (m2 bG (bL (aE (eC (.int 0)) (aE (eC (.int 0)) (aE (eC (.int 5)) (aE (eC (.int 0)) aB))))) (aA 2))))
  (aI (aN 5 (m2 bH (m2 cG (m2 eX (eC (.int 10)) (eC (.int 57))) (dI dJ 0 (aE (eC (.int 80)) aB))) (dI dJ 0 (aE (m2 eX (eC (.int 10)) (eC (.int 6))) aB))))
  (jD 3 (m2 bG (bL (aE (aA 5) (aE (m1 dU (aA 5)) (aE (dI dJ 0 (aE (eC (.int 3)) aB)) aB)))) (dI dJ 0 (aE (eC (.int 3)) aB))))))
def zgl:MS:=
 dQ (iK (aE (aA 1) aB)) (gN 4) zf5
def zgN:MS:=
 (aI (aN 2 (dI dJ 0 (aE (eC (.int 5)) aB)))
  (aI (jP 3 (bN aB))
  (aI zgl
  (pE 3))))
def Og:AA D->AA D->AB (Sl×AA D):=fM 6 zgN
theorem zls (zaj:FD P w K mg base 1 "_law_take" (gH K 2 dJ))(h:FnAt K "_law_row" zh0):FD P w K mg base 2 "_law_row" (gH K 2 Og):=
 Rm (N:=["pot","many","way","row","place","far"]) (k:=1) (m:=zgN) X G h λ_ _ _ _ _ _ _ hr nd=>(aR (cC 2 (eJ 0 zaj hr (aF aL aK) (dN (aQ bD))) nd)
  (aR (Jg 3 (dX aK) nd)
  (aR (lJ jN rfl (kH bn.range' (aF (aD 1) aK)) (bU 4 nd)
  (aV (fE (kE (aD 2) aL)
  (aV (zmb 3 (qI (eJ 0 zaj hr (aF (dH (eQ (aF aL (aF aL (aF aL (aF (vD aL aL) aK))))) (aD 2)) aK) (dN (aQ bD))) (dH (eQ (aF aL (aF aL (aF aL (aF aL aK))))) (aD 2)))))
  (aR (cC 5 (dW (iI (vD aL aL) (eJ 0 zaj hr (aF aL aK) (dN (aQ bD)))) (eJ 0 zaj hr (aF (vD aL aL) aK) (dN (aQ bD)))) nd)
  (aV (zmb 3 (dH (eQ (aF (aD 5) (aF (Da (aD 5)) (aF (eJ 0 zaj hr (aF aL aK) (dN (aQ bD))) aK)))) (eJ 0 zaj hr (aF aL aK) (dN (aQ bD))))))))))
  (aV (Fo 3)))))
abbrev zg3:Stmt:=top 30
def ze2:ME:=
 (aA 1)
def zfn:MT:=
 (aO (m2 cX (m2 zC (m2 Lu (aA 0) (aA 1)) (eC (.int 1))) (eC (.int 1))))
def zfp:MO:=
 cT [5] 1 (iK (aE (aA 1) aB)) (gN 1) zfn ze2
def zfq:ME:=
 (aA 1)
def zfd:MT:=
 (aO (m2 On (mC jH (aE (m2 dZ (aA 1) (aA 0)) aB)) (eC (.int 2))))
def zfe:MO:=
 cT [6] 1 (iK (aE (aA 1) aB)) (gN 1) zfd zfq
def zcY:MS:=
 (jD 2 (mC fI (aE (aA 7) aB)))
def zcS:MS:=
 (aI (eD (aO (m2 cX (aA 3) (eC (.int 2))))
  (aN 7 (cE zfe))
  eN)
  zcY)
def ze9:MS:=
 (aI (aN 5 (m2 bH (eC (.int 1)) (dI dJ 0 (aE (m2 dZ (m2 Nb (eC (.int 1)) (aA 1)) (eC (.int 1))) aB))))
  (aI (aN 6 (dI dJ 0 (aE (aA 1) aB)))
  (aI (aN 7 (cE zfp))
  (aI (eD (aO (m2 cX (aA 3) (eC (.int 1))))
  (aN 7 (cE (oR (iR2 (aE (aA 6) (aE (mC (Ed iO) (aE (aA 1) (aE (m2 bH (m2 bH (aA 6) (eC (.int 2))) (dI dJ 0 (aE (eC (.int 2)) aB))) aB))) aB))))))
  eN)
  zcS))))
def zfa:MS:=
 dQ (iK (aE (m2 bH (eC (.int 1)) (dI dJ 0 (aE (eC (.int 7)) aB))) aB)) (gN 4) ze9
def zfF:MS:=
 (aI (jP 2 (bN aB))
  (aI (aN 3 (dI dJ 0 (aE (eC (.int 3)) aB)))
  (aI zfa
  (pE 2))))
def Xe:AA D->AA D->AB (Sl×AA D):=fM 8 zfF
theorem zki (zaj:FD P w K mg base 1 "_law_take" (gH K 2 dJ))(h:FnAt K "_law_sets" zg3):FD P w K mg base 2 "_law_sets" (gH K 2 Xe):=
 Rm (N:=["pot","many","sets","way","turn","code","first","some"]) (k:=1) (m:=zfF) X G h λ_ _ _ _ _ _ _ hr nd=>(aR (Jg 2 (dX aK) nd)
  (aR (cC 3 (eJ 0 zaj hr (aF aL aK) (dN (aQ bD))) nd)
  (aR (lJ jN rfl (kH bn.range' (aF (dW aL (eJ 0 zaj hr (aF aL aK) (dN (aQ bD)))) aK)) (bU 4 nd)
  (aR (cC 5 (dW aL (eJ 0 zaj hr (aF (qI (Lb aL (aD 1)) aL) aK) (dN (aQ bD)))) nd)
  (aR (cC 6 (eJ 0 zaj hr (aF (aD 1) aK) (dN (aQ bD))) nd)
  (aR (zgn 7 [5] 1 ["code", "place"] rfl (kH bn.range' (aF (aD 1) aK)) (λC s H fp => (bU 1 cS)) (λC s H fp => (vY (kW hr.units (zm3 (Ki (aD 0) (aD 1)) aL) aL))) (λC s H fp => (aD 1)) nd)
  (aR (fE (kW hr.units (aD 3) aL)
  (aV (cC 7 (SO.se (zoQ bn.list' bn.range' (aF (aD 6) (aF (zoV rfl bn.min' (aF (aD 1) (aF (dW (dW (aD 6) aL) (eJ 0 zaj hr (aF aL aK) (dN (aQ bD)))) aK))) aK)))) nd))
  fZ)
  (aR (fE (kW hr.units (aD 3) aL)
  (aV (zgn 7 [6] 1 ["first","place"] rfl (kH bn.range' (aF (aD 1) aK)) (λC s H fp=>(bU 1 cS)) (λC s H fp=>(vY (kE (zmE bn.abs' (aF (qI (aD 1) (aD 0)) aK)) aL))) (λC s H fp=>(aD 1)) nd))
  fZ)
  (aV (zmb 2 (mG bn.tuple' (aF (aD 7) aK))))))))))
  (aV (Fo 2)))))
abbrev zd1:Stmt:=top 31
def zcR:MS:=
 (aN 4 (m2 bH (aA 4) (aU 0 (aA 5))))
def zcL:MS:=
 dQ (cA (aA 3)) (gN 5) zcR
def zcM:MS:=
 (aI (aN 4 (eC (.int 0)))
  (aI zcL
  (jD 2 (aA 4))))
def zcB:MS:=
 dQ (cA (aA 1)) (gN 3) zcM
def zcw:MS:=
 (aI (jP 2 (bN aB))
  (aI zcB
  (pE 2)))
def Ff:AA D->AB Sl:=fP 6 zcw
theorem zhm (h:FnAt K "_law_set_sums" zd1):FD P w K mg base 1 "_law_set_sums" (aX K 2 Ff):=
 eU (N:=["row","sets","found","some","total","place"]) (k:=0) (m:=zcw) X G h λ_ _ _ _ _ _ _ hr nd=>(aR (Jg 2 (dX aK) nd)
  (aR (lJ jN rfl (fJ (aD 1)) (bU 3 nd)
  (aR (cC 4 aL nd)
  (aR (lJ jN rfl (fJ (aD 3)) (bU 5 nd)
  (aV (cC 4 (dW (aD 4) (cV 0 (aD 5))) nd)))
  (aV (zmb 2 (aD 4))))))
  (aV (Fo 2))))
abbrev zf6:Stmt:=top 32
def zes:ME:=
 (Ax 0 (dI dJ 1 (aE (fB 0) aB)))
def zel:MO:=
 Bi [2,0] 1 1 0 0 2 (iK (aE (aA 1) aB)) (gN 2) fA zes
def zeD:MS:=
 (aI (jP 2 (oR (iK (aE (aA 1) aB))))
  (jA zel))
def Mp:AA D->AA D->AB (Sl×AA D):=fM 3 zeD
theorem zjP (zaj:FD P w K mg base 1 "_law_take" (gH K 2 dJ))(h:FnAt K "_law_order" zf6):FD P w K mg base 2 "_law_order" (gH K 2 Mp):=
 Rm (N:=["pot","many","left"]) (k:=1) (m:=zeD) X G h λ_ _ _ _ _ _ _ hr nd=>(aR (Jg 2 (zn6 bn.list' bn.range' (aF (aD 1) aK)) nd)
  (aV (kB (Mf [2,0] 1 1 0 0 2 ["left","pot","place"] rfl (kH bn.range' (aF (aD 1) aK)) (λC s H fp=>(bU 2 cS)) (λC s H fp=>fQ) (λC s H fp=>(Ep 0 (eJ 1 zaj hr (aF (iP 0 bn.len') aK) (dN (aQ bD)))))))))
abbrev zhh:Stmt:=top 33
def zfs:ME:=
 (cE (bN (aE (aU 0 (aA 2)) (aE (aU 0 (m2 eM (m2 bH (aA 2) (eC (.int 1))) (aA 1))) aB))))
def zfu:MO:=
 cT [1,6] 1 (iK (aE (aA 6) aB)) (gN 2) fA zfs
def zfo:ME:=
 (aA 1)
def zfg:MT:=
 (aO (m2 gI (aA 1) (aA 0)))
def zfc:MO:=
 cT [2] 1 (cA (gR (aA 0) zP (Bg (aA 1)))) (gN 1) zfg zfo
def zfv:ME:=
 (cE zfc)
def ze1:MO:=
 cT [1,6] 1 (cA (gR (aA 1) zP (Bg (aA 6)))) (gN 2) fA zfv
def ze4:MS:=
 (aI (aN 6 (m2 bH (eC (.int 4)) (dI dJ 0 (aE (m2 dZ (fB 1) (eC (.int 3))) aB))))
  (aI (aN 7 (cE ze1))
  (zmf (aA 7) (m2 bH (eC (.int 1)) (dI dJ 0 (aE (m2 dZ (aA 6) (eC (.int 2))) aB))) (yB (cE (bN (aE (bL (aE (eC (.int 1)) (aE (m2 dZ (aA 6) (eC (.int 1))) aB))) aB))) (aA 6)))))
def zfm:MS:=
 (aI (eD (aO (m2 cX (aA 2) (eC (.int 3))))
  (bK (bL (aE (cE (bN (aE (cE (bN (aE (aA 3) (aE (aA 4) aB)))) (aE (cE (bN (aE (aA 4) (aE (aA 5) aB)))) (aE (cE (bN (aE (aA 3) (aE (aA 5) aB)))) (aE (cE (bN (aE (aA 3) (aE (aA 4) (aE (aA 5) aB))))) aB)))))) (aE (m2 bH (eC (.int 1)) (dI dJ 0 (aE (eC (.int 9)) aB))) (aE (eC .non) aB)))))
  eN)
  ze4)
def ze5:MS:=
 (aI (eD (aO (m2 cX (aA 2) (eC (.int 2))))
  (aI (aN 6 (m2 bH (eC (.int 3)) (m2 cG (eC (.int 2)) (dI dJ 0 (aE (m2 bH (eC (.int 1)) (m2 lY (m2 dZ (fB 1) (eC (.int 3))) (eC (.int 2)))) aB)))))
  (zmf (cE zfu) (m2 bH (eC (.int 1)) (m2 cG (eC (.int 2)) (dI dJ 0 (aE (eC (.int 5)) aB)))) (yB (cE (bN (aE (bL (aE (eC (.int 1)) (aE (eC (.int 2)) aB))) aB))) (aA 6))))
  eN)
  zfm)
def ze6:MS:=
 (aI (eD (aO (m2 cX (aA 2) (eC (.int 1))))
  (bK (bL (aE (cE (bN (aE (cE (bN (aE (aA 3) aB))) (aE (cE (bN (aE (aA 4) (aE (aA 5) aB)))) (aE (cE (bN (aE (aA 3) (aE (aA 4) (aE (aA 5) aB))))) aB))))) (aE (m2 bH (eC (.int 1)) (dI dJ 0 (aE (eC (.int 9)) aB))) (aE (eC .non) aB)))))
  eN)
  ze5)
def zfA:MS:=
 (aI (aN 2 (dI dJ 0 (aE (eC (.int 5)) aB)))
  (aI (Hn (gR (aA 1) zP (Bg (eC (.int 3)))) (gL 3 (hG (gN 3) (hG (gN 4) (hG (gN 5) tO)))))
  (aI (eD (aO (m2 cX (aA 2) (eC (.int 0))))
  (bK (bL (aE (cE (bN (aE (cE (bN (aE (aA 3) (aE (aA 4) aB)))) (aE (cE (bN (aE (aA 3) (aE (aA 4) aB)))) aB)))) (aE (m2 bH (eC (.int 1)) (dI dJ 0 (aE (eC (.int 9)) aB))) (aE (eC .non) aB)))))
  eN)
  ze6)))
def Nj:AA D->AA D->AB (Sl×AA D):=fM 8 zfA
theorem zkV (zaj:FD P w K mg base 1 "_law_take" (gH K 2 dJ))(h:FnAt K "_law_kind" zhh):FD P w K mg base 2 "_law_kind" (gH K 2 Nj):=
 Rm (N:=["pot","order","way","a","b","c","many","sets"]) (k:=1) (m:=zfA) X G h λ_ _ _ _ _ _ _ hr nd=>(aR (cC 2 (eJ 0 zaj hr (aF aL aK) (dN (aQ bD))) nd)
  (aR (Gd (Ga (aD 1) Ik (Ll aL)) (zE rfl (iQ (bU 3 nd) (iQ (bU 4 nd) (iQ (bU 5 nd) Cf)))))
  (aR (fE (kW hr.units (aD 2) aL)
  (aV (dS (eQ (aF (SO.se (dX (aF (SO.se (dX (aF (aD 3) (aF (aD 4) aK)))) (aF (SO.se (dX (aF (aD 3) (aF (aD 4) aK)))) aK)))) (aF (dW aL (eJ 0 zaj hr (aF aL aK) (dN (aQ bD)))) (aF Nh aK))))))
  fZ)
  (aR (fE (kW hr.units (aD 2) aL)
  (aV (dS (eQ (aF (SO.se (dX (aF (SO.se (dX (aF (aD 3) aK))) (aF (SO.se (dX (aF (aD 4) (aF (aD 5) aK)))) (aF (SO.se (dX (aF (aD 3) (aF (aD 4) (aF (aD 5) aK))))) aK))))) (aF (dW aL (eJ 0 zaj hr (aF aL aK) (dN (aQ bD)))) (aF Nh aK))))))
  fZ)
  (aR (fE (kW hr.units (aD 2) aL)
  (aR (cC 6 (dW aL (iI aL (eJ 0 zaj hr (aF (dW aL (zoL (qI (iP 1 bn.len') aL) aL)) aK) (dN (aQ bD))))) nd)
  (aV (zmQ (SO.se (fN [1,6] 1 ["order","many","k"] rfl (kH bn.range' (aF (aD 6) aK)) (λC s H fp=>(bU 2 cS)) (λC s H fp=>fQ) (λC s H fp=>(SO.se (dX (aF (cV 0 (aD 2)) (aF (cV 0 (tV (dW (aD 2) aL) (aD 1))) aK))))))) (dW aL (iI aL (eJ 0 zaj hr (aF aL aK) (dN (aQ bD))))) (rR (SO.se (dX (aF (eQ (aF aL (aF aL aK))) aK))) (aD 6)))))
  fZ)
  (aR (fE (kW hr.units (aD 2) aL)
  (aV (dS (eQ (aF (SO.se (dX (aF (SO.se (dX (aF (aD 3) (aF (aD 4) aK)))) (aF (SO.se (dX (aF (aD 4) (aF (aD 5) aK)))) (aF (SO.se (dX (aF (aD 3) (aF (aD 5) aK)))) (aF (SO.se (dX (aF (aD 3) (aF (aD 4) (aF (aD 5) aK))))) aK)))))) (aF (dW aL (eJ 0 zaj hr (aF aL aK) (dN (aQ bD)))) (aF Nh aK))))))
  fZ)
  (aR (cC 6 (dW aL (eJ 0 zaj hr (aF (qI (iP 1 bn.len') aL) aK) (dN (aQ bD)))) nd)
  (aR (zgn 7 [1, 6] 1 ["order", "many", "out"] rfl (fJ (Ga (aD 1) Ik (Ll (aD 6)))) (λC s H fp => (bU 2 cS)) (λC s H fp => fQ) (λC s H fp => (SO.se (fN [2] 1 ["out", "place"] rfl (fJ (Ga (aD 0) Ik (Ll (aD 1)))) (λC s H fp => (bU 1 cS)) (λC s H fp => (vY (uE hr.units (aD 1) (aD 0)))) (λC s H fp => (aD 1))))) nd)
  (aV (zmQ (aD 7) (dW aL (eJ 0 zaj hr (aF (qI (aD 6) aL) aK) (dN (aQ bD)))) (rR (SO.se (dX (aF (eQ (aF aL (aF (qI (aD 6) aL) aK))) aK))) (aD 6))))))))))))
abbrev zeB:Stmt:=top 34
def zdf:MS:=
 (jA (bN (aE (bL (aE (eC (.int 1)) (aE (m2 cG (eC (.int 4)) (aA 1)) aB))) (aE (bL (aE (eC (.int 1)) (aE (m2 cG (eC (.int 4)) (aA 1)) aB))) (aE (bL (aE (eC (.int 1)) (aE (m2 cG (eC (.int 4)) (aA 1)) aB))) (aE (bL (aE (m1 dU (eC (.int 1))) (aE (m2 cG (eC (.int 2)) (aA 1)) aB))) aB))))))
def zbM:MS:=
 (aI (eD (aO (m2 cX (fB 0) (eC (.int 3))))
  (jA (bN (aE (aA 3) (aE (aA 3) (aE (aA 4) aB)))))
  eN)
  zdf)
def zbf:MS:=
 (aI (aN 3 (bL (aE (eC (.int 1)) (aE (m2 cG (eC (.int 2)) (aA 1)) aB))))
  (aI (aN 4 (bL (aE (m1 dU (eC (.int 1))) (aE (m2 cG (eC (.int 2)) (aA 1)) aB))))
  (aI (eD (aO (m2 cX (fB 0) (eC (.int 2))))
  (jA (bN (aE (aA 3) (aE (aA 4) aB))))
  eN)
  zbM)))
def zbQ:MS:=
 (aI (eD (aO (m2 wC (aA 2) (eC .non)))
  (pE 2)
  eN)
  zbf)
def lW:AA D->AB Sl:=fP 5 zbQ
theorem zhH (h:FnAt K "_law_weights" zeB):FD P w K mg base 1 "_law_weights" (spW K lW):=
 fdW (N:=["sets","off","kind","halves","least"]) (k:=0) X G h λ_ _ _ _ _ _ _ hr nd=>(aR (cC 3 (eQ (aF aL (aF (iI aL (aD 1)) aK))) nd)
  (aR (cC 4 (eQ (aF (Da aL) (aF (iI aL (aD 1)) aK))) nd)
  (aR (fE (kW hr.units (iP 0 bn.len') aL)
  (aV (kB (dX (aF (aD 3) (aF (aD 4) aK)))))
  fZ)
  (aR (fE (kW hr.units (iP 0 bn.len') aL)
  (aV (kB (dX (aF (aD 3) (aF (aD 3) (aF (aD 4) aK))))))
  fZ)
  (aV (kB (dX (aF (eQ (aF aL (aF (iI aL (aD 1)) aK))) (aF (eQ (aF aL (aF (iI aL (aD 1)) aK))) (aF (eQ (aF aL (aF (iI aL (aD 1)) aK))) (aF (eQ (aF (Da aL) (aF (iI aL (aD 1)) aK))) aK)))))))))))
abbrev Uz:Stmt:=top 35
def zl6:ME:=
 (mC fI (aE (cE (oC rJ (aE (aA 0) aB))) aB))
def zjH:MO:=
 cT [] 1 (cA (aA 5)) (gN 0) fA zl6
def zj0:MS:=
 (aI (aN 12 (dI dJ 2 (aE (m2 bH (fB 5) (eC (.int 1))) aB)))
  (aI (jK 5 (aE (aA 12) (aE (aA 11) aB)))
  (aI (jK 8 (aE (aA 12) (aE (bL (aE (eC (.int 0)) (aE (eC (.int 1)) aB))) aB)))
  (aI (jK 9 (aE (aA 12) (aE (m2 bG (cM Ff (aE (aA 4) (aE (cE (bN (aE (aA 11) aB))) aB))) (eC (.int 0))) aB)))
  (jK 10 (aE (aA 12) (aE (aU 9 (aA 12)) aB)))))))
def zjt:MS:=
 dQ (cA (gR (dI Xe 2 (aE (fB 3) aB)) zP (Bg (m2 dZ (eC (.int 7)) (fB 5))))) (gN 11) zj0
def zjX:MS:=
 (eD (gY (aO (m2 gI (m2 bG (cM Lv (aE (aA 14) aB)) (eC (.int 0))) (eC (.str "row")))) (aO (m2 Li (cM lP (aE (aA 14) (aE (bL (aE (eC (.str "none")) (aE (mC fI (aE (aA 8) aB)) aB))) aB))) (eC (.bl false)))))
  (bK (eC (.bl false)))
  eN)
def zmS:MS:=
 (aI (jP 2 (Bz Nk (aE (aA 0) (aE (aA 1) aB))))
  (aI (aN 3 (dI Mp 2 (aE (m2 bH (eC (.int 4)) (dI dJ 2 (aE (eC (.int 4)) aB))) aB)))
  (aI (aN 4 (dI Og 2 (aE (fB 3) aB)))
  (aI (pG 2 5 6 7 Nj (aE (aA 3) aB))
  (aI (Yl 8 5 6 7 lW)
  (aI (jP 5 zjH)
  (aI (Sb 9 (Tp Ff) [none, none] [5] (vG (aA 4) (Vz 5 vW)))
  (aI (jP 10 (rT 9))
  (aI (pF 9 (m1 dU (eC (.int 1))) (m2 bH (aU 9 (m1 dU (eC (.int 1)))) (aA 6)))
  (aI zjt
  (aI (aN 13 (bL (aE (fB 4) (aE (mC fI (aE (aA 5) aB)) (aE (mC fI (aE (aA 9) aB)) aB)))))
  (aI (aN 14 (bL (aE (fB 4) (aE (mC fI (aE (aA 5) aB)) (aE (mC fI (aE (aA 10) aB)) aB)))))
  (aI (aN 15 (cM Lv (aE (aA 13) aB)))
  (aI (eD (gY (aO (m2 gI (aU 15 (eC (.int 0))) (eC (.str "none")))) (gY (tK (aO (cM lP (aE (aA 13) (aE (aA 15) aB))))) (tK (aO (cM lP (aE (aA 13) (aE (bL (aE (eC (.str "none")) (aE (mC fI (aE (aA 8) aB)) aB))) aB)))))))
  (bK (eC (.bl false)))
  eN)
  zjX))))))))))))))
def zmN:MS:=
 dQ (iK (aE (mC (Ed mK) (aE (eC (.int 1)) (aE (mC (Ed iO) (aE (fB 0) (aE (eC (.int 8)) aB))) aB))) aB)) (gN 1) zmS
def rD:MS:=
 (aI zmN
  (bK (eC (.bl true))))
def Dh:AA D->AB Sl:=fP 16 rD
theorem Ju (zeN:FD P w K mg base 2 "_law_kind" (gH K 2 Nj))(zdL:FD P w K mg base 2 "_law_order" (gH K 2 Mp))(zfG:FD P w K mg base 1 "_law_pot" (aX K 2 Nk))(zfM:FD P w K mg base 2 "_law_row" (gH K 2 Og))(zbm:FD P w K mg base 1 "_law_set_sums" (aX K 2 Ff))(zeI:FD P w K mg base 2 "_law_sets" (gH K 2 Xe))(zaj:FD P w K mg base 1 "_law_take" (gH K 2 dJ))(zcj:FD P w K mg base 1 "_law_weights" (spW K lW))(zgo:FD P w K mg base 6 "solved" (aX K 1 Lv))(zbc:FD P w K mg base 5 "solved_right" (aX K 2 lP))(F:Fun K "law" "law" Uz f fd):FnOk P w K mg base gX 7 f fd ["script"] (aX K 1 Dh):=
 lawP (N:=["script","cell","pot","order","row","sets","off","kind","weights","sums","right","some","at","telling","good","told"]) (k:=6) (n:=1) (m:=rD) F λ_ _ _ _ _ _ _ hr nd=>(aR (lJ jN rfl (kH bn.range' (aF (zM rfl bn.max' (aF aL (aF (zoV rfl bn.min' (aF (iP 0 bn.len') (aF aL aK))) aK))) aK)) (bU 1 nd)
  (aR (Jg 2 (zjy zfG hr (aF (aD 0) (aF (aD 1) aK)) (AO := (aQ (aQ bD)))) nd)
  (aR (cC 3 (eJ 2 zdL hr (aF (dW aL (eJ 2 zaj hr (aF aL aK) (dN (aQ bD)))) aK) (dN (aQ bD))) nd)
  (aR (cC 4 (eJ 2 zfM hr (aF (iP 3 bn.len') aK) (dN (aQ bD))) nd)
  (aR (Lp 2 5 6 7 rfl zeN hr (aF (aD 3) aK) (dN (aQ bD)) nd)
  (aR (As 8 5 6 7 zcj hr nd)
  (aR (nN 5 [] 1 ["some"] rfl (fJ (aD 5)) (λC s H fp => (bU 0 cS)) (λC s H fp => fQ) (λC s H fp => (mG bn.tuple' (aF (SO.se (zpf bn.sorted' (aF (aD 0) aK))) aK))) nd)
  (aR (yE 9 zbm (λ_ _ _ _ => Lc) znv hr (Mv (aD 4) (uJ 5 Hx)) nd)
  (aR (Jg 10 (Mz 9 bn.list') nd)
  (aR (nX 9 (dW (cV 9 (Da aL)) (aD 6)) (Da aL))
  (aR (lJ jN rfl (fJ (Ga (eJ 2 zeI hr (aF (iP 3 bn.len') aK) (dN (aQ bD))) Ik (Ll (qI aL (iP 5 bn.len'))))) (bU 11 nd)
  (aR (cC 12 (eJ 2 zaj hr (aF (dW (iP 5 bn.len') aL) aK) (dN (aQ bD))) nd)
  (aR (zmu 5 (aF (aD 12) (aF (aD 11) aK)))
  (aR (zmu 8 (aF (aD 12) (aF (eQ (aF aL (aF aL aK))) aK)))
  (aR (zmu 9 (aF (aD 12) (aF (dH (dB zbm hr (aF (aD 4) (aF (SO.se (dX (aF (aD 11) aK))) aK)) (AO := (aQ (aQ bD)))) aL) aK)))
  (aV (zmu 10 (aF (aD 12) (aF (cV 9 (aD 12)) aK)))))))))
  (aR (cC 13 (eQ (aF (iP 4 bn.len') (aF (mG bn.tuple' (aF (aD 5) aK)) (aF (mG bn.tuple' (aF (aD 9) aK)) aK)))) nd)
  (aR (cC 14 (eQ (aF (iP 4 bn.len') (aF (mG bn.tuple' (aF (aD 5) aK)) (aF (mG bn.tuple' (aF (aD 10) aK)) aK)))) nd)
  (aR (cC 15 (dB zgo hr (aF (aD 13) aK) (AO := (aQ bD))) nd)
  (aR (fE (STw.st (kL (uE hr.units (cV 15 aL) Dv) (kL (Oe (Ov (dB zbc hr (aF (aD 13) (aF (aD 15) aK)) (AO := (aQ (aQ bD)))))) (zps (Oe (Ov (dB zbc hr (aF (aD 13) (aF (eQ (aF Dv (aF (mG bn.tuple' (aF (aD 8) aK)) aK))) aK)) (AO := (aQ (aQ bD))))))))))
  (aV (dS Nz))
  fZ)
  (aV (fE (STw.st (kL (uE hr.units (dH (dB zgo hr (aF (aD 14) aK) (AO := (aQ bD))) aL) Dv) (zps (Al (dB zbc hr (aF (aD 14) (aF (eQ (aF Dv (aF (mG bn.tuple' (aF (aD 8) aK)) aK))) aK)) (AO := (aQ (aQ bD)))) Nz))))
  (aV (dS Nz))
  fZ)))))))))))))))))
  (aV (dS Nz)))
end
set_option maxHeartbeats 0 in
theorem Ht {l:W.OpenLaw}{w:World}{K:AF}{h:AK}{mg:Str->AB AC}{fa:AD}(X:K.In h)(G:h.Ns AL mg)(hfa:mg "law"=some (.ref fa))(h1:FnAt K "chosen_sum" zfZ)(h2:FnAt K "set_sums" ziu)(h3:FnAt K "sets_hold" zhf)(h4:FnAt K "unit_row" zhL)(h5:FnAt K "unit_rows" zg2)(h6:FnAt K "has_row" zjd)(h7:FnAt K "taken_off" zhg)(h8:FnAt K "column_taken_off" zct)(h9:FnAt K "products_sum" zef)(h18:FnAt K "common_divisor" zc6)(h19:FnAt K "ratio_of" zh1)(h20:FnAt K "is_ratio" zh3)(h21:FnAt K "ratios_sum" zf0)(h22:FnAt K "is_whole" ziE)(h23:FnAt K "least_no_divisor" zcm)(h24:FnAt K "none_by" zjg)(h25:FnAt K "solved" zkX)(h26:FnAt K "ratios_at" zg9)(h27:FnAt K "times_sums" zgw)(h28:FnAt K "all_ratios" zgp)(h29:FnAt K "weights_right" zdZ)(h30:FnAt K "solved_right" zeC)(h31:FnAt K "_law_pot" zhE)(h32:FnAt K "_law_take" zg0)(h33:FnAt K "_law_row" zh0)(h34:FnAt K "_law_sets" zg3)(h35:FnAt K "_law_set_sums" zd1)(h36:FnAt K "_law_order" zf6)(h37:FnAt K "_law_kind" zhh)(h38:FnAt K "_law_weights" zeB)(h39:FnAt K "law" Uz){C:AD}(aC:W.nsIn K AL "Slant"=some (some (.ref C)))(pg:W.plainGet K C Str.empty=true)(hd:W.hasDictIn K C=true)(po:W.plainOver K C=true)(sa:W.findIn K (.ref C) "__setattr__"=some (some (.builtin "object.__setattr__")))(mkC:W.makesIn K C=true)(kc:W.keepIn K (.ref C)=true)(zle:W.findIn K (.ref C) "block"=some none)(zh6:W.findIn K (.ref C) "weights"=some none)(zpS:W.findIn K (.ref C) "ways"=some none)(zlW:W.findIn K (.ref C) "backs"=some none)(zju:W.findIn K (.ref C) "slants"=some none){fopen_columns:AD}{odopen_columns anopen_columns:AB AD}{slopen_columns:Array (AB AC)}{ocopen_columns kVopen_columns dcopen_columns pmopen_columns cdopen_columns ctopen_columns:AC}(aopen_columns:W.findIn K (.ref C) "open_columns"=some (some (.ref fopen_columns)))(iopen_columns:W.isFn K (.ref fopen_columns)=true)(lopen_columns:K.lookup fopen_columns=some ⟨ocopen_columns,odopen_columns,.func (W.fnOf "open_columns" "Slant.open_columns" (za7 zbA) (zaH zbA) (zao zbA) .none kVopen_columns dcopen_columns pmopen_columns anopen_columns cdopen_columns ctopen_columns),slopen_columns⟩)(copen_columns:W.codeIn K cdopen_columns "Slant.open_columns"=true)(kopen_columns:W.keepIn K (.ref fopen_columns)=true){fopen_rows:AD}{odopen_rows anopen_rows:AB AD}{slopen_rows:Array (AB AC)}{ocopen_rows kVopen_rows dcopen_rows pmopen_rows cdopen_rows ctopen_rows:AC}(aopen_rows:W.findIn K (.ref C) "open_rows"=some (some (.ref fopen_rows)))(iopen_rows:W.isFn K (.ref fopen_rows)=true)(lopen_rows:K.lookup fopen_rows=some ⟨ocopen_rows,odopen_rows,.func (W.fnOf "open_rows" "Slant.open_rows" (za7 zcQ) (zaH zcQ) (zao zcQ) .none kVopen_rows dcopen_rows pmopen_rows anopen_rows cdopen_rows ctopen_rows),slopen_rows⟩)(copen_rows:W.codeIn K cdopen_rows "Slant.open_rows"=true)(kopen_rows:W.keepIn K (.ref fopen_rows)=true){fleast_corner:AD}{odleast_corner anleast_corner:AB AD}{slleast_corner:Array (AB AC)}{ocleast_corner kVleast_corner dcleast_corner pmleast_corner cdleast_corner ctleast_corner:AC}(aleast_corner:W.findIn K (.ref C) "least_corner"=some (some (.ref fleast_corner)))(ileast_corner:W.isFn K (.ref fleast_corner)=true)(lleast_corner:K.lookup fleast_corner=some ⟨ocleast_corner,odleast_corner,.func (W.fnOf "least_corner" "Slant.least_corner" (za7 zbB) (zaH zbB) (zao zbB) .none kVleast_corner dcleast_corner pmleast_corner anleast_corner cdleast_corner ctleast_corner),slleast_corner⟩)(cleast_corner:W.codeIn K cdleast_corner "Slant.least_corner"=true)(kleast_corner:W.keepIn K (.ref fleast_corner)=true){ftake_row:AD}{odtake_row antake_row:AB AD}{sltake_row:Array (AB AC)}{octake_row kVtake_row dctake_row pmtake_row cdtake_row cttake_row:AC}(atake_row:W.findIn K (.ref C) "take_row"=some (some (.ref ftake_row)))(itake_row:W.isFn K (.ref ftake_row)=true)(ltake_row:K.lookup ftake_row=some ⟨octake_row,odtake_row,.func (W.fnOf "take_row" "Slant.take_row" (za7 zdC) (zaH zdC) (zao zdC) .none kVtake_row dctake_row pmtake_row antake_row cdtake_row cttake_row),sltake_row⟩)(ctake_row:W.codeIn K cdtake_row "Slant.take_row"=true)(ktake_row:W.keepIn K (.ref ftake_row)=true){ftake_column:AD}{odtake_column antake_column:AB AD}{sltake_column:Array (AB AC)}{octake_column kVtake_column dctake_column pmtake_column cdtake_column cttake_column:AC}(atake_column:W.findIn K (.ref C) "take_column"=some (some (.ref ftake_column)))(itake_column:W.isFn K (.ref ftake_column)=true)(ltake_column:K.lookup ftake_column=some ⟨octake_column,odtake_column,.func (W.fnOf "take_column" "Slant.take_column" (za7 zbO) (zaH zbO) (zao zbO) .none kVtake_column dctake_column pmtake_column antake_column cdtake_column cttake_column),sltake_column⟩)(ctake_column:W.codeIn K cdtake_column "Slant.take_column"=true)(ktake_column:W.keepIn K (.ref ftake_column)=true){fclear_cross:AD}{odclear_cross anclear_cross:AB AD}{slclear_cross:Array (AB AC)}{occlear_cross kVclear_cross dcclear_cross pmclear_cross cdclear_cross ctclear_cross:AC}(aclear_cross:W.findIn K (.ref C) "clear_cross"=some (some (.ref fclear_cross)))(iclear_cross:W.isFn K (.ref fclear_cross)=true)(lclear_cross:K.lookup fclear_cross=some ⟨occlear_cross,odclear_cross,.func (W.fnOf "clear_cross" "Slant.clear_cross" (za7 zbP) (zaH zbP) (zao zbP) .none kVclear_cross dcclear_cross pmclear_cross anclear_cross cdclear_cross ctclear_cross),slclear_cross⟩)(cclear_cross:W.codeIn K cdclear_cross "Slant.clear_cross"=true)(kclear_cross:W.keepIn K (.ref fclear_cross)=true){finit:AD}{odinit aninit:AB AD}{slinit:Array (AB AC)}{ocinit kVinit dcinit pminit cdinit ctinit:AC}(ainit:W.findIn K (.ref C) "__init__"=some (some (.ref finit)))(iinit:W.isFn K (.ref finit)=true)(linit:K.lookup finit=some ⟨ocinit,odinit,.func (W.fnOf "__init__" "Slant.__init__" (za7 zdJ) (zaH zdJ) (zao zdJ) .none kVinit dcinit pminit aninit cdinit ctinit),slinit⟩)(cinit:W.codeIn K cdinit "Slant.__init__"=true)(kinit:W.keepIn K (.ref finit)=true){fslant_number:AD}{odslant_number anslant_number:AB AD}{slslant_number:Array (AB AC)}{ocslant_number kVslant_number dcslant_number pmslant_number cdslant_number ctslant_number:AC}(aslant_number:W.findIn K (.ref C) "slant_number"=some (some (.ref fslant_number)))(islant_number:W.isFn K (.ref fslant_number)=true)(lslant_number:K.lookup fslant_number=some ⟨ocslant_number,odslant_number,.func (W.fnOf "slant_number" "Slant.slant_number" (za7 zby) (zaH zby) (zao zby) .none kVslant_number dcslant_number pmslant_number anslant_number cdslant_number ctslant_number),slslant_number⟩)(cslant_number:W.codeIn K cdslant_number "Slant.slant_number"=true)(kslant_number:W.keepIn K (.ref fslant_number)=true)(z0:W.nsIn K AL "abs"=some none)(z1:W.nsIn K AL "all"=some none)(z2:W.nsIn K AL "any"=some none)(z3:W.nsIn K AL "enumerate"=some none)(z4:W.nsIn K AL "len"=some none)(z5:W.nsIn K AL "list"=some none)(z6:W.nsIn K AL "max"=some none)(z7:W.nsIn K AL "min"=some none)(z8:W.nsIn K AL "range"=some none)(z9:W.nsIn K AL "sorted"=some none)(z10:W.nsIn K AL "sum"=some none)(z11:W.nsIn K AL "tuple"=some none)(z12:W.nsIn K AL "zip"=some none):
  ∃fd:FuncData,(∀(s:AE) (v:AC),BindsTo s fd ⟨[v],[]⟩ [("script",v)])/\∀base:AK,K.In base->base.Ns AL mg->FnOk l.prog w K mg base gX 7 fa fd ["script"] (aX K 1 Dh):=by
 have cl:Cls K C:=⟨pg,hd,po,sa⟩;have bn:BN K mg:=⟨⟨C,aC,cl,by simp only[slN,List.forall_mem_cons];exact⟨zle,zh6,zpS,zlW,zju,λ_ m=>nomatch m⟩⟩,lH X G z0,lH X G z1,lH X G z2,lH X G z3,lH X G z4,lH X G z5,lH X G z6,lH X G z7,lH X G z8,lH X G z9,lH X G z10,lH X G z11,lH X G z12⟩;obtain⟨a,b,c,d,e,f,T⟩:=h39.law X G hfa;refine⟨W.fnOf "law" "law" (za7 Uz) (zaH Uz) (zao Uz) .none a b c d e f,λs v=> .of_eq rfl,λbase _ _=>?_⟩;have zdM:=zj1 (P:=l.prog) (w:=w) (base:=base) X G bn h1;have zfw:=zlA (P:=l.prog) (w:=w) (base:=base) X G bn zdM h2;have zep:=zkd (P:=l.prog) (w:=w) (base:=base) X G bn zfw h3;have zfC:=zlC (P:=l.prog) (w:=w) (base:=base) X G bn h4;have zbV:=zkn (P:=l.prog) (w:=w) (base:=base) X G bn zfC h5;have zgH:=zm9 (P:=l.prog) (w:=w) (base:=base) X G bn h6;have zaC:=zkC (P:=l.prog) (w:=w) (base:=base) X G bn h7;have zbp:=zfI (P:=l.prog) (w:=w) (base:=base) X G bn h8;have zcp:=zia (P:=l.prog) (w:=w) (base:=base) X G bn h9;have md_open_columns:=ziC (P:=l.prog) (w:=w) (base:=base) X G bn (MAtC.mk aC cl aopen_columns iopen_columns lopen_columns copen_columns kopen_columns);have md_open_rows:=zkM (P:=l.prog) (w:=w) (base:=base) X G bn (MAtC.mk aC cl aopen_rows iopen_rows lopen_rows copen_rows kopen_rows);have md_least_corner:=ziD (P:=l.prog) (w:=w) (base:=base) X G bn md_open_columns md_open_rows (MAtC.mk aC cl aleast_corner ileast_corner lleast_corner cleast_corner kleast_corner);have md_take_row:=zlu (P:=l.prog) (w:=w) (base:=base) X G bn zaC (MAtC.mk aC cl atake_row itake_row ltake_row ctake_row ktake_row);have md_take_column:=ziL (P:=l.prog) (w:=w) (base:=base) X G bn zbp zaC (MAtC.mk aC cl atake_column itake_column ltake_column ctake_column ktake_column);have md_clear_cross:=ziK (P:=l.prog) (w:=w) (base:=base) X G bn md_open_columns md_open_rows md_take_column md_take_row (MAtC.mk aC cl aclear_cross iclear_cross lclear_cross cclear_cross kclear_cross);have md___init__:=zla (P:=l.prog) (w:=w) (base:=base) X G bn md_clear_cross zgH md_least_corner zbV ⟨C,finit,_,aC,W.mg_of X G aC,⟨mkC,ainit,iinit,kc⟩,zoH linit cinit kinit⟩;have md_slant_number:=zil (P:=l.prog) (w:=w) (base:=base) X G bn (MAtC.mk aC cl aslant_number islant_number lslant_number cslant_number kslant_number);have zaI:=zgJ (P:=l.prog) (w:=w) (base:=base) X G bn h18;have zfT:=zll (P:=l.prog) (w:=w) (base:=base) X G bn zaI h19;have zfD:=zlr (P:=l.prog) (w:=w) (base:=base) X G bn zaI h20;have zca:=zjo (P:=l.prog) (w:=w) (base:=base) X G bn h21;have zdF:=zlg (P:=l.prog) (w:=w) (base:=base) X G bn h22;have zbr:=zfR (P:=l.prog) (w:=w) (base:=base) X G bn h23;have zeW:=znc (P:=l.prog) (w:=w) (base:=base) X G bn zfT h24;have zgo:=zn0 (P:=l.prog) (w:=w) (base:=base) X G bn md___init__ zbr zeW zcp md_slant_number zaC h25;have zez:=zke (P:=l.prog) (w:=w) (base:=base) X G bn h26;have zdK:=zjC (P:=l.prog) (w:=w) (base:=base) X G bn h27;have zdO:=zjW (P:=l.prog) (w:=w) (base:=base) X G bn zfD h28
 have zb3:=zhj (P:=l.prog) (w:=w) (base:=base) X G bn zdO zdF zez zca zdK h29;have zbc:=zhJ (P:=l.prog) (w:=w) (base:=base) X G bn zep zb3 h30;have zfG:=zlM (P:=l.prog) (w:=w) (base:=base) X G bn h31;have zaj:=zk5 (P:=l.prog) (w:=w) (base:=base) X G bn h32;have zfM:=zls (P:=l.prog) (w:=w) (base:=base) X G bn zaj h33;have zeI:=zki (P:=l.prog) (w:=w) (base:=base) X G bn zaj h34;have zbm:=zhm (P:=l.prog) (w:=w) (base:=base) X G bn h35;have zdL:=zjP (P:=l.prog) (w:=w) (base:=base) X G bn zaj h36;have zeN:=zkV (P:=l.prog) (w:=w) (base:=base) X G bn zaj h37;have zcj:=zhH (P:=l.prog) (w:=w) (base:=base) X G bn h38;exact Ju X G bn zeN zdL zfG zfM zbm zeI zaj zcj zgo zbc T
theorem walk {l:W.OpenLaw}{q:AJ}{loose:AA Str}{XP:(Str->AB AC)->AK->Prop}{YP:World->AK->Prop}{d:DefRec}{K:Params->AF}(hn:l.most=some 63)(hdf:d.params.defaults=[])(hm:∀ns:AA Int,ns.length<=63->Dh [.scr ns]=some (.val (.bl true)))(hY:∀(w:World) (h:AK),YP w h->(K w.params).In h)(F : ∀ (w : World) (mg : Str -> AB AC) (fa : AD) (h : AK), (K w.params).In h -> h.Ns AL mg -> mg d.name = some (.ref fa) ->
   ∃fd:FuncData,(∀(s:AE) (u:AC),BindsTo s fd ⟨[u],[]⟩ [("script",u)])/\∀base:AK,(K w.params).In base->base.Ns AL mg->FnOk l.prog w (K w.params) mg base gX 7 fa fd ["script"] (aX (K w.params) 1 Dh)):
  W.WalkO q loose XP YP l.row.toRowW d [] (λf vs=>PySem.call f vs):=
 L2.wK (n:=63) (k:=7) (x:="script") (CX:=λ_=>gX) (sp:=λw=>aX (K w.params) 1 Dh) hn (by decide) hdf ⟨rfl,by decide,by decide,rfl⟩ hY F
  (λw H a ns hl _ hS=>⟨H,[.scr ns],.val (.bl true),hm ns hl,rfl,Fz.refl H,.cons ⟨a,rfl,hS⟩ .nil,λ_ _ _ _ _ _ _ rr=>rr⟩) λ_ _ _ _ _ z=>z
end Prf
set_option exponentiation.threshold 5000
namespace Prf
open L2 M PySem
variable {n m cc t o i j k N F e c':Nat}{r f g:Nat->Int}{x q p y v Y off u:Int}{ds d' L ol:AA D}{Z l:AA Nat}{zz c z':Nat->Nat}{z:Nat->Nat->Nat}{s:AA (Nat×Nat)}{bt:Nat->Nat->Bool}{A:Mx}{d:D}{ns:AA Int}{ρ:R}{Q':Fl×R->Prop}
def Bd (x:Int):Prop:= -(2^220)<x/\x<2^220
def Bds (n:Nat)(r:Nat->Int):Prop:=∀i,i<n->Bd (r i)
def Bds.snoc (h:Bds n r)(hx:Bd x):Bds (n+1) λj=>if j<n then r j else x:=λi hi=>by
 dsimp only
 split
 ·rename_i q;exact h i q
 ·exact hx
def eR (ds:AA D):Prop:=∃p:Int,ds=[.int p]
theorem fK (h:eR ds){m:Int}(h0:0<m)(h1:m<2^250):Ok (dJ ds [.int m]) λr=>∃(i:Nat) (ds':AA D),(i:Int)<m/\eR ds'/\r=(.val (.int i),ds'):=by
 obtain⟨p,rfl⟩:=h;simp![↓dJ,↓zfO];have m0:=Int.emod_nonneg p (Int.ne_of_gt h0);refine⟨h0,zo5 h0 h1,(p%m).toNat,[.int (p/m)],?_,⟨_,rfl⟩,?_⟩
 ·have:=Int.emod_lt_of_pos p h0;lia
 ·rw[show(((p%m).toNat:Nat):Int)=p%m by lia]
theorem Ld (ns:AA Int)(k:Nat)(hk:k<64):Ok (Nk [.scr ns,.int k]) λr=>∃ds,eR ds/\r= .own ds:=by
 have last:∀c:Int,Ok (zdH [.val (.scr ns),.val (.int k),.val (.int c),.emp,.emp,.emp]) λp=>∃ds a,eR ds/\p=(.ret (.own ds),a):=λc=>by
  simp![↓zdH];refine⟨λ_=>⟨by decide+kernel,by decide+kernel,by decide+kernel,_,_,⟨_,rfl⟩,rfl⟩,λ_=>?_⟩;simp![↓zgv,↓zgm];refine⟨zka (by decide),rfl,Cs (λ_ ρ=>∃(a b:Int) (s5:Sl),0<=b/\b<4294967296/\ρ=[.val (.scr ns),.val (.int k),.val (.int c),.val (.int a),.val (.int b),s5]) ⟨0,_,.emp,∅,∅,rfl⟩ ?_ ?_⟩
  ·rintro i _ hi ⟨a,b,s5,b0,b1,rfl⟩;simp![↓zgz];have e1:0<=(b*48271+7919*(i:Int)+104729)%2147483647:=Int.emod_nonneg _ (by decide);have e2:(b*48271+7919*(i:Int)+104729)%2147483647<2147483647:=Int.emod_lt_of_pos _ (by decide);exact⟨zka ∅,zka (by decide),zpm (by decide),zka ∅,by decide+kernel,_,_,_,e1,∅,rfl⟩
  ·rintro _ ⟨a,b,s5,_,_,rfl⟩;simp![];exact⟨_,_,⟨_,rfl⟩,rfl⟩
 simp![↓Nk,↓zgD];refine⟨λh=>?_,λh=>?_⟩
 ·rw[bA (show k<ns.length by lia)];simp![];refine(last _).mono ?_;rintro _ ⟨d,a,h,rfl⟩;simp![];exact⟨_,h,rfl⟩
 ·refine(last _).mono ?_;rintro _ ⟨d,a,h,rfl⟩;simp![];exact⟨_,h,rfl⟩
theorem znq (h:eR ds)(n:Nat)(hn:n<=1000):Ok (Og ds [.int n]) λx=>∃(r:Nat->Int) (ds':AA D),eR ds'/\Bds n r/\x=(.own (wI n r),ds'):=by
 simp![↓Og,↓zgN];refine(fK h (m:=5) ∅ ∅).mono ?_;rintro _ ⟨way,d1,hw,h1,rfl⟩;simp![↓zgl];refine⟨iH ∅ ∅,Cs (λi ρ=>∃(r:Nat->Int) (ds':AA D) (s4 s5:Sl),eR ds'/\Bds i r/\ρ=[.par ds',.val (.int n),.val (.int way),.own (wI i r),s4,s5]) ⟨λ_=>0,d1,_,_,h1,λj hj=>∅,rfl⟩ ?_ ?_⟩
 ·rintro i _ hi ⟨r,d2,s4,s5,h2,hb,rfl⟩;simp![↓zf5];refine⟨λhlt=>?_,λhge=>?_⟩
  ·have hw':∃(m:Int) (z:Int),0<m/\m<=1000000/\0<=z/\z<=5/\[D.int 2,D.int 10,D.int 11,D.int 1000000][way]? =some (.int m)/\[D.int 0,D.int 0,D.int 5,D.int 0][way]? =some (.int z):=by
    have:way=0\/way=1\/way=2\/way=3:=∅
    rcases this with rfl|rfl|rfl|rfl
    ·exact⟨_,_,by decide,by decide,by decide,by decide,rfl,rfl⟩
    ·exact⟨_,_,by decide,by decide,by decide,by decide,rfl,rfl⟩
    ·exact⟨_,_,by decide,by decide,by decide,by decide,rfl,rfl⟩
    ·exact⟨_,_,by decide,by decide,by decide,by decide,rfl,rfl⟩
   obtain⟨m,z,m0,m1,z0,z5,em,ez⟩:=hw';simp![em];refine(fK h2 (m:=m) m0 ∅).mono ?_;rintro _ ⟨t,d3,ht,h3,rfl⟩;simp![ez,zlD];exact⟨∅,_,d3,_,_,h3,hb.snoc (by unfold Bd;lia),rfl⟩
  ·refine(fK h2 (m:=80) ∅ ∅).mono ?_;rintro _ ⟨a,d3,ha,h3,rfl⟩;simp![];refine⟨zpm ∅,?_⟩;refine(fK h3 (m:=1000000) ∅ ∅).mono ?_;rintro _ ⟨b,d4,hb4,h4,rfl⟩;simp![];have hf:0<=1000000000000000000000000000000000000000000000000000000000*(a:Int)+(b:Int)/\1000000000000000000000000000000000000000000000000000000000*(a:Int)+(b:Int)<80000000000000000000000000000000000000000000000000001000000:=∅
   generalize 1000000000000000000000000000000000000000000000000000000000*(a:Int)+(b:Int)=far at hf
   refine(fK h4 (m:=3) ∅ ∅).mono ?_;rintro _ ⟨c,d5,hc,h5,rfl⟩;simp![];refine(fK h5 (m:=3) ∅ ∅).mono ?_;rintro _ ⟨e,d6,he,h6,rfl⟩;have he':∃z:Int,[D.int far,D.int (-far),D.int c][e]? =some (.int z)/\Bd z:=by
    have:e=0\/e=1\/e=2:=∅
    rcases this with rfl|rfl|rfl<;>exact⟨_,rfl,by unfold Bd;lia⟩
   obtain⟨z,ez,bz⟩:=he';simp![ez,zlD];exact⟨∅,_,d6,_,_,h6,hb.snoc bz,rfl⟩
 ·rintro _ ⟨r,d2,s4,s5,h2,hb,rfl⟩;simp![];exact⟨r,d2,h2,hb,rfl⟩
structure Rise (n c:Nat)(z:Nat->Nat):Prop where
 c1:1<=c
 cn:c<=n
 up:∀i,i+1<c->z i<z (i+1)
 lt:∀i,i<c->z i<n
abbrev bJ (c:Nat)(z:Nat->Nat):AA D:=wI c λj=>((z j:Nat):Int)
def Xs (Z:AA Nat):Z.map (λp=>D.int (p:Nat))=bJ Z.length λi=>Z.getD i 0:=by
 apply uD;intro j
 by_cases hj:j<Z.length
 ·rw[bZ _ hj];simp[hj,jV]
 ·rw[gM (by simp;lia),gM (by rw[bV];lia)]
def zpj (h0:Z≠[])(hp:Z.Pairwise (· < ·))(hl:∀p∈Z,p<n)(hn:Z.length<=n):Rise n Z.length λi=>Z.getD i 0:=by
  refine⟨qcn.mpr h0,hn,λi hi=>?_,λi hi=>?_⟩
  . have:=qc0.mp hp i (i+1) ∅ hi ∅
    simp only[jV,bA (show i<Z.length by lia),bA hi,Nv];exact this
  . simp only[jV,bA hi,Nv]
    exact hl _ (Pf hi)
theorem Uv (b:Nat->Bool)(h:∃p,p<n/\b p=true):∃(c:Nat) (z:Nat->Nat),Rise n c z/\(List.range n).filterMap (λp=>if b p=true then some (D.int (p:Nat))else none)=bJ c z:=by
 have e:(List.range n).filterMap (λp=>if b p=true then some (D.int (p:Nat))else none)=((List.range n).filter b).map λp=>D.int (p:Nat):=by
  rw[<-Po,<-Py,Xa];exact Hi _ λp _=>by by_cases c:b p=true<;>simp[c,Option.guard]
 obtain⟨p,hp,hb⟩:=h;have mem:p∈(List.range n).filter b:=qah.mpr ⟨qai.mpr hp,hb⟩;refine⟨_,_,zpj (λe=>by rw[e]at mem;exact AH mem Bj) (Yx _ List.pairwise_lt_range) (λq hq=>qai.mp (qah.mp hq).1) (by have:=Ab b (List.range n);simpa using this),by rw[e,Xs]⟩
theorem zmd:∀(n:Nat) (c:Nat),0<c->c<2^n->∃p,p<n/\c/2^p%2=1
 |0,c,h0,h1=>by simp at h1;lia
 |n+1,c,h0,h1=>by
  by_cases h:c%2=1
  ·exact⟨0,∅,~~~h⟩
  ·obtain⟨p,hp,e⟩:=zmd n (c/2) ∅ (by rw[Pv]at h1;lia);exact⟨p+1,∅,by rw[Pv,Nat.mul_comm,<-Nat.div_div_eq_div_mul];exact e⟩
def dR (t:Nat)(c:Nat->Nat)(z:Nat->Nat->Nat):AA D:=wL t λi=> .tup (bJ (c i) (z i))
def zpz (n:Nat)(way:Nat)(i:Nat)(ρ:R):Prop:=∃(c:Nat->Nat) (z:Nat->Nat->Nat) (ds':AA D) (s4 s5 s6 s7:Sl),eR ds'/\(∀j,j<i->Rise n (c j) (z j))/\ρ=[.par ds',.val (.int n),.own (dR i c z),.val (.int way),s4,s5,s6,s7]
section sets
variable {ds:AA D}{n way i:Nat}{c:Nat->Nat}{z:Nat->Nat->Nat}{Q:Fl×R->Prop}
theorem Xg (h:eR ds)(hi:i<100)(b:∀j,j<i->Rise n (c j) (z j))(rr:Rise n cc zz)(s4 s5 s6:Sl):
  Ok (zcY [.par ds,.val (.int n),.own (dR i c z),.val (.int way),s4,s5,s6,.val (.lst (bJ cc zz))]) (Turn (zpz n way (i+1)) Q):=by
 simp![↓zcY,dR];refine⟨∅,λj=>if j<i then c j else cc,λj=>if j<i then z j else zz,ds,s4,s5,s6,.val (.lst (bJ cc zz)),h,λj hj=>?_,?_⟩
 ·by_cases e:j<i
  ·simp only[e,if_true];exact b j e
  ·simp only[e,dG];exact rr
 ·rw[zoX];congr 3;refine congrArg _ (Do λj _=>?_)
  by_cases e:j<i<;>simp only[e,if_true,dG]
theorem Sw (h:eR ds)(hi:i<100)(n7:n<=7)(b:∀j,j<i->Rise n (c j) (z j))(rr:Rise n cc zz){first:Nat}(hf:first<n)(s4 s5:Sl):
  Ok (zcS [.par ds,.val (.int n),.own (dR i c z),.val (.int way),s4,s5,.val (.int first),.val (.lst (bJ cc zz))]) (Turn (zpz n way (i+1)) Q):=by
 simp![↓zcS,↓zfe];refine⟨λ_=>⟨iH ∅ ∅,∅,Oa (λρ=>∃y,ρ=[.val (.int first),y]) (λp=>if decide (gS ((p:Int)-first)<2)=true then some (D.int (p:Nat))else none) ⟨_,rfl⟩ ?_ ?_⟩,λ_=>Xg h hi b rr _ _ _⟩
 ·rintro p _ hp ⟨y,rfl⟩;simp![↓zfd,↓zfq];refine⟨λe=>⟨?_,_,rfl⟩,λe=>⟨?_,_,rfl⟩⟩
  ·rw[if_pos (~~~e)]
  ·rw[if_neg (~~~e)]
 ·rintro _ ⟨y,rfl⟩;obtain⟨cc',zz',rr',e⟩:=Uv (n:=n) (λp=>decide (gS ((p:Int)-first)<2)) ⟨first,hf,by simp[gS]⟩;simp only[kJ]at e;simp![e];exact Xg h hi b rr' _ _ _
end sets
theorem wB (h:eR ds){n:Nat}(n1:1<=n)(n7:n<=7):Ok (Xe ds [.int n]) λx=>∃(t:Nat) (c:Nat->Nat) (z:Nat->Nat->Nat) (ds':AA D),eR ds'/\1<=t/\t<=7/\(∀i,i<t->Rise n (c i) (z i))/\x=(.own (dR t c z),ds'):=by
 simp![↓Xe,↓zfF];refine(fK h (m:=3) ∅ ∅).mono ?_;rintro _ ⟨way,d1,hw,h1,rfl⟩;simp![↓zfa];refine(fK h1 (m:=7) ∅ ∅).mono ?_;rintro _ ⟨t,d2,ht,h2,rfl⟩;simp![show(1:Int)+(t:Int)=((1+t:Nat):Int) by lia];have p2:(2:Int)^n=((2^n:Nat):Int):=by push_cast;rfl
 have pb:1<=2^n/\2^n<=128:=⟨Nat.one_le_two_pow,qc6 ∅ n7⟩;have pb2:2<=2^n:=by
  have:=qc6 (show 0<2 by lia) n1;simpa using this
 refine⟨iH ∅ ∅,Cs (zpz n way) ⟨λ_=>0,λ_ _=>0,d2,_,_,_,_,h2,λ_ h=>∅,rfl⟩ ?_ ?_⟩
 ·rintro i _ hi ⟨c,z,d3,s4,s5,s6,s7,h3,b,rfl⟩;simp![↓ze9,p2,Int.one_mul];refine⟨∅,?_⟩;refine(fK h3 (m:=((2^n:Nat):Int)-1) ∅ ∅).mono ?_;rintro _ ⟨code,d4,hc,h4,rfl⟩;simp![show(1:Int)+(code:Int)=((1+code:Nat):Int) by lia];refine(fK h4 (m:=(n:Int)) ∅ ∅).mono ?_;rintro _ ⟨first,d5,hf,h5,rfl⟩;simp![↓zfp];refine⟨iH ∅ ∅,∅,Oa (λρ=>∃y,ρ=[.val (.int ((1+code:Nat):Int)),y]) (λp=>if decide ((1+code)/2^p%2=1)=true then some (D.int (p:Nat))else none) ⟨_,rfl⟩ ?_ ?_⟩
  ·rintro p _ hp ⟨y,rfl⟩;have e1:((1+code:Nat):Int)/2^p=(((1+code)/2^p:Nat):Int):=by push_cast;rfl
   have e2:((((1+code)/2^p:Nat):Int)%2)=(((1+code)/2^p%2:Nat):Int):=by push_cast;rfl
   simp![↓zfn,↓ze2,e1,Wt (Int.natCast_nonneg ((1+code)/2^p)),e2];refine⟨∅,λe=>⟨?_,_,rfl⟩,λe=>⟨?_,_,rfl⟩⟩
   ·rw[if_pos ∅]
   ·rw[if_neg ∅]
  ·rintro _ ⟨y,rfl⟩;obtain⟨p,hp,ep⟩:=zmd n (1+code) ∅ ∅;obtain⟨cc,zz,rr,e⟩:=Uv (n:=n) (λp=>decide ((1+code)/2^p%2=1)) ⟨p,hp,by simp only[kJ];exact ep⟩;simp only[kJ]at e;simp![e];refine⟨λ_=>?_,λ_=>?_⟩
   ·refine(fK h5 (m:=2) ∅ ∅).mono ?_;rintro _ ⟨u,d6,hu,h6,rfl⟩;have em:iO (n:Int) ((first:Int)+2+(u:Int))=((min n (first+2+u):Nat):Int):=by unfold iO;split<;>lia
    simp![em,znH,show(((min n (first+2+u):Nat):Int)-(first:Int)).toNat=min n (first+2+u)-first by lia];refine⟨⟨iH ∅ ∅,iH ∅ ∅⟩,∅,?_⟩;have er:(wL (min n (first+2+u)-first) λk=>D.int ((first:Int)+(k:Nat)))=bJ (min n (first+2+u)-first) λj=>first+j:=Do λj _=>by push_cast;rfl
    rw[er];exact Sw h6 ∅ n7 b ⟨∅,∅,λj _=>∅,λj hj=>∅⟩ ∅ _ _
   ·exact Sw h5 ∅ n7 b rr ∅ _ _
 ·rintro _ ⟨c,z,d3,s4,s5,s6,s7,h3,b,rfl⟩;simp![];exact⟨1+t,c,z,d3,h3,∅,∅,b,rfl⟩
def bE (c:Nat->Nat)(z:Nat->Nat->Nat)(r:Nat->Int)(i:Nat):Int:=aH (c i) λj=>r (z i j)
def lU (n t:Nat)(c:Nat->Nat)(z:Nat->Nat->Nat)(S:Nat->Int):D:= .tup [.int n,.tup (dR t c z),.tup (wI t S)]
theorem zeG {d d2:D}(h:Sq d n r)(n7:n<=7)(t7:t<=7)(hr:∀i,i<t->Rise n (c i) (z i))(h2:eO [d2]=some (wL t λi=> .tup (bJ (c i) (z i)))):Ok (Ff [d,d2]) λx=>x= .own (wI t (bE c z r)):=by
 simp![↓Ff,↓zcw,↓zcB,h2];refine Cs (λi ρ=>∃s3 s4 s5,ρ=[.val d,.val d2,.own (wI i (bE c z r)),s3,s4,s5]) ⟨_,_,_,rfl⟩ ?_ ?_
 ·rintro i _ hi ⟨s3,s4,s5,rfl⟩;have cn:=(hr i hi).cn;simp![↓zcM,↓zcL];refine Cs (λj ρ=>∃s5,ρ=[.val d,.val d2,.own (wI i (bE c z r)),.val (.tup (bJ (c i) (z i))),.val (.int (aH j λu=>r (z i u))),s5]) ⟨_,rfl⟩ ?_ ?_
  ·rintro j _ hj ⟨s5,rfl⟩;simp![↓zcR,h.ix,bZ _ ((hr i hi).lt j hj)];exact⟨_,rfl⟩
  ·rintro _ ⟨s5,rfl⟩;have eq:(wI (i+1) λj=>if j<i then bE c z r j else aH (c i) λu=>r (z i u))=wI (i+1) (bE c z r):=Do λj hj=>by
    by_cases e:j<i
    ·simp only[e,if_true]
    ·have:j=i:=∅
     subst this;simp only[e,dG];rfl
   simp![zlD,eq];exact⟨∅,_,_,_,rfl⟩
 ·rintro _ ⟨s3,s4,s5,rfl⟩;simp![]
theorem znO {c:Nat}(hc:c<=7)(h:∀j,j<c->Bd (f j)): -(2^223)<aH c f/\aH c f<2^223:=by
 have:∀k,k<=c-> -((k:Int)*2^220)<=aH k f/\aH k f<=(k:Int)*2^220:=by
  intro k
  induction k with
  |zero=>intro _;simp[aH]
  |succ k ih=>
   intro hk;have h1:=ih ∅;have h2:=h k ∅;unfold Bd at h2;show-(((k+1:Nat):Int)*2^220)<=aH k f+f k/\aH k f+f k<=((k+1:Nat):Int)*2^220;push_cast;lia
 have:=this c (aY c);lia
theorem zoK (n7:n<=7)(hr:∀i,i<t->Rise n (c i) (z i))(hb:Bds n r):∀i,i<t-> -(2^223)<bE c z r i/\bE c z r i<2^223:=λi hi=>
 znO (by have:=(hr i hi).cn;lia) λj hj=>hb _ ((hr i hi).lt j hj)
abbrev Mx:=Nat->Nat->Int
def un (i j:Nat):Int:=if j=i then 1 else 0
def bW (c:Nat)(z:Nat->Nat)(p:Nat):Bool:=(List.range c).any λj=>z j==p
def bF (c:Nat->Nat)(z:Nat->Nat->Nat)(i p:Nat):Int:=if bW (c i) (z i) p then 1 else 0
theorem zld (n p:Nat)(hn:n<=100):Ok (Uy [.int n,.int p]) λx=>x= .own (wI n (un p)):=by
 simp![↓Uy,↓zgV,↓zgB];refine⟨iH ∅ ∅,∅,iN (λρ=>∃y,ρ=[.val (.int p),y]) (λj=> .int (un p j)) ⟨_,rfl⟩ ?_ ?_⟩
 ·rintro j _ hj ⟨y,rfl⟩;simp![↓zf2];refine⟨λe=>⟨?_,_,rfl⟩,λe=>⟨?_,_,rfl⟩⟩
  ·unfold un;rw[if_pos ∅]
  ·unfold un;rw[if_neg ∅]
 ·rintro _ ⟨y,rfl⟩;simp![]
theorem zet (n:Nat)(hn:n<=100):Ok (Mt [.int n]) λx=>x= .own (wL n λi=> .lst (wI n (un i))):=by
 simp![↓Mt,↓zfJ,↓zff];refine⟨iH ∅ ∅,∅,iN (λρ=>∃y,ρ=[.val (.int n),y]) (λi=> .lst (wI n (un i))) ⟨_,rfl⟩ ?_ ?_⟩
 ·rintro i _ hi ⟨y,rfl⟩;simp![↓zft];refine(zld n i hn).mono ?_;rintro _ rfl;simp![];exact⟨_,rfl⟩
 ·rintro _ ⟨y,rfl⟩;simp![]
theorem zmW (n:Nat)(hn:n<=100)(c:Nat)(z:Nat->Nat):Ok (Rl [.int n,.tup (bJ c z)]) λx=>x= .own (wI n λp=>if bW c z p then 1 else 0):=by
 simp![↓Rl,↓zhD,↓zg4];refine⟨iH ∅ ∅,∅,iN (λρ=>∃y,ρ=[.val (.tup (bJ c z)),y]) (λp=> .int (if bW c z p then 1 else 0)) ⟨_,rfl⟩ ?_ ?_⟩
 ·rintro j _ hj ⟨y,rfl⟩;have e:tT (.int j) (.tup (bJ c z))=some (.bl (bW c z j)):=by
   have e1:bJ c z=((List.range c).map λi=>((z i:Nat):Int)).map .int:=by unfold bJ wI wL;rw[gC];rfl
   rw[show tT (.int j) (.tup (bJ c z))=tT (.int j) (.lst (bJ c z))from rfl,e1,inL];congr 2;unfold bW;rw[qc7,qcL,qcN,qb0]
   constructor
   ·rintro⟨i,hi,e⟩;exact⟨i,hi,by simp;lia⟩
   ·rintro⟨i,hi,e⟩;exact⟨i,hi,by simp at e;lia⟩
  simp![↓zhb,e];refine⟨λe=>⟨?_,_,rfl⟩,λe=>⟨?_,_,rfl⟩⟩
  ·rw[if_pos e]
  ·rw[if_neg (by simp[e])]
 ·rintro _ ⟨y,rfl⟩;simp![]
theorem Rh {d1 d2:D}(h1:Sq d1 n f)(h2:Sq d2 n g)(hn:n<=100)(hq:∀j,j<n->jF q (g j)=true):Ok (sI [d1,d2,.int q]) λx=>x= .own (wI n λj=>f j-q*g j):=by
 simp![↓sI,↓zfH,↓zfi,h1.it,h2.it,Zu];refine⟨∅,iN (λρ=>∃y y2,ρ=[.val (.int q),y,y2]) (λj=> .int (f j-q*g j)) ⟨_,_,rfl⟩ ?_ ?_⟩
 ·rintro j _ hj ⟨y,y2,rfl⟩;simp![↓zfr,hq j hj];exact⟨_,_,rfl⟩
 ·rintro _ ⟨y,y2,rfl⟩;simp![]
def znS {n c:Nat}(f:Nat->Int)(x:Int)(hc:c<n):bY (wI n f) none (some (c:Int))++[D.int x]++bY (wI n f) (some ((c:Int)+1)) none=wI n λj=>if j=c then x else f j:=by
 rw[Ym,show(c:Int)+1=((c+1:Nat):Int) by lia,zmM];have e:wI n f=(wI n f).take c++(wI n f).drop c:=(List.take_append_drop c _).symm;apply uD;intro j
 by_cases hj:j<n
 ·rw[bZ (λj=>D.int (if j=c then x else f j)) hj]
  by_cases h1:j<c
  ·rw[fT (by simp[bV];lia),fT (by simp[bV];lia),qc8,if_pos h1,bZ _ hj,if_neg ∅]
  ·by_cases h2:j=c
   ·subst h2;rw[fT (by simp[bV];lia),pI (by simp[bV];lia),if_pos rfl];have:j-(List.take j (wI n f)).length=0:=by simp[bV];lia
    rw[this];rfl
   ·rw[pI (by simp[bV];lia),List.getElem?_drop,if_neg h2];have:c+1+(j-((wI n f).take c++[D.int x]).length)=j:=by simp[bV];lia
    rw[this,bZ _ hj]
 ·rw[gM (by simp[bV];lia),gM (by simp[bV];lia)]
theorem zfx {n c o:Nat}(f:Nat->Int)(hn:n<=100)(hc:c<n)(ho:o<n)(hq:jF q (f o)=true):Ok (Ql [.lst (wI n f),.int c,.int o,.int q]) λx=>x= .val (.lst (wI n λj=>if j=c then f c-q*f o else f j)):=by
 simp![↓Ql,↓zbC,bZ _ hc,bZ _ ho,hq];have l1:(bY (wI n f) none (some (c:Int))).length<=100:=by rw[Ym];simp[bV];lia
 have l2:(bY (wI n f) (some ((c:Int)+1)) none).length<=100:=by rw[show(c:Int)+1=((c+1:Nat):Int) by lia,zmM];simp[bV];lia
 exact⟨∅,∅,by rw[znS f _ hc]⟩
theorem zik {d1 d2:D}(h1:Sq d1 n f)(h2:Sq d2 n g)(hn:n<=100)(hq:∀j,j<n->jF (f j) (g j)=true):Ok (Qy [d1,d2]) λx=>x= .val (.int (aH n λj=>f j*g j)):=by
 simp![↓Qy,↓zcU,↓zc3,h1.it,h2.it,Zu];refine⟨∅,iN (λρ=>∃y y2,ρ=[y,y2]) (λj=> .int (f j*g j)) ⟨_,_,rfl⟩ ?_ ?_⟩
 ·rintro j _ hj ⟨y,y2,rfl⟩;simp![↓zdl,hq j hj];exact⟨_,_,rfl⟩
 ·rintro _ ⟨y,y2,rfl⟩;simp![zjU,Ou]
def tb (t n:Nat)(b w v k:Mx):AA (AA D):=[wL t λi=> .lst (wI n (b i)),wL t λi=> .lst (wI t (w i)),wL n λj=> .lst (wI n (v j)),wL n λj=> .lst (wI n (k j))]
def sk (s:AA (Nat×Nat)):AA Int×AA D:=(s.map λp=>((p.1:Nat):Int),s.map λp=> .int (p.2:Nat))
def opR (t:Nat)(s:AA (Nat×Nat)):AA Nat:=(List.range t).filter λr=>!(s.any λp=>p.1==r)
def opC (n:Nat)(s:AA (Nat×Nat)):AA Nat:=(List.range n).filter λc=>!(s.any λp=>p.2==c)
abbrev oD (t n:Nat)(b w v k:Mx)(s:AA (Nat×Nat)):D:=obD slC slN (tb t n b w v k) (sk s)
def jU (s:AA (Nat×Nat))(r:Nat):iU (sk s).1 (sk s).2 (r:Int)=(s.find? λp=>p.1==r).map λp=> .int (p.2:Nat):=by
 unfold sk
 induction s with
 |nil=>rfl
 |cons p s ih=>
  show(if((p.1:Nat):Int)=r then some (D.int (p.2:Nat))else iU (s.map λp=>((p.1:Nat):Int)) (s.map λp=> .int (p.2:Nat)) r)=_;rw[Km]
  by_cases h:p.1=r
  ·rw[if_pos ∅,show(p.1==r)=true by simp[h]];rfl
  ·rw[if_neg ∅,show(p.1==r)=false by simp[h]];exact ih
def Sm (s:AA (Nat×Nat))(r:Nat):(iU (sk s).1 (sk s).2 (r:Int)).isSome=s.any λp=>p.1==r:=by
 rw[jU,Option.isSome_map]
 induction s with
 |nil=>rfl
 |cons p s ih=>
  rw[Km,uA];cases p.1==r<;>simp_all
def sA (n:Nat)(b:Nat->Bool):(List.range n).filterMap (λp=>if b p=true then some (D.int (p:Nat))else none)=((List.range n).filter b).map λp=>D.int (p:Nat):=by
 rw[<-Po,<-Py,Xa];exact Hi _ λp _=>by by_cases c:b p=true<;>simp[c,Option.guard]
section
variable {t n:Nat}{b w v k:Mx}{s:AA (Nat×Nat)}
theorem zhi (ht:t<=100):Ok (Ip [oD t n b w v k s]) λx=>x= .own ((opR t s).map λr=> .int (r:Nat)):=by
 simp![↓Ip,↓zfz,↓zfb,tb];refine⟨iH ∅ ∅,∅,Oa (λρ=>∃y,ρ=[.val (oD t n b w v k s),y]) (λr=>if(!(s.any λp=>p.1==r))=true then some (D.int (r:Nat))else none) ⟨_,rfl⟩ ?_ ?_⟩
 ·rintro r _ hr ⟨y,rfl⟩;simp![↓ze8,↓ze7,Sm];cases h:s.any λp=>p.1==r
  ·simp![];exactλ_=>⟨_,rfl⟩
  ·simp![];exact⟨λh=>AH trivial h,_,rfl⟩
 ·rintro _ ⟨y,rfl⟩;simp![sA]
  rfl
def zhP (hd:s.Pairwise λp q=>p.1≠q.1){p:Nat×Nat}(h:p∈s):(s.find? λq=>q.1==p.1)=some p:=by
 induction s with
 |nil=>exact AH h Bj
 |cons q s ih=>
  rw[List.pairwise_cons]at hd;rw[Km];rcases qaq.mp h with rfl|h
  ·simp
  ·rw[show(q.1==p.1)=false by rw[qab];exact hd.1 p h];exact ih hd.2 h
theorem zen (hn:n<=100)(hs:s.length<=100)(hd:s.Pairwise λp q=>p.1≠q.1):Ok (Jr [oD t n b w v k s]) λx=>x= .own ((opC n s).map λr=> .int (r:Nat)):=by
 simp![↓Jr,↓zcX,↓zdi,↓zdw,tb];refine⟨by simp[sk];lia,?_⟩;have e1:(sk s).1.map D.int=s.map λp=>D.int (p.1:Nat):=by unfold sk;rw[gC];rfl
 rw[e1];refine zjm (enc:=λp:Nat×Nat=>D.int (p.1:Nat)) (λρ=>∃y,ρ=[.val (oD t n b w v k s),y]) (λp=> .int (p.2:Nat)) ⟨_,rfl⟩ ?_ ?_
 ·rintro p _ hp ⟨y,rfl⟩;simp![↓zdj,jU,zhP hd hp];exact⟨_,rfl⟩
 ·rintro _ ⟨y,rfl⟩;simp![bV,tb];have e2:(s.map λp=>D.int (p.2:Nat))=(s.map λp=>((p.2:Nat):Int)).map .int:=by rw[gC];rfl
  refine⟨iH ∅ ∅,∅,Oa (λρ=>∃y,ρ=[.val (.lst (s.map λp=>D.int (p.2:Nat))),y]) (λc=>if(!(s.any λp=>p.2==c))=true then some (D.int (c:Nat))else none) ⟨_,rfl⟩ ?_ ?_⟩
  ·rintro c _ hc ⟨y,rfl⟩;have e3:(s.map λp=>((p.2:Nat):Int)).contains (c:Int)=s.any λp=>p.2==c:=by
    rw[qc7,qcL,qcN,qb0]
    constructor
    ·rintro⟨p,hp,e⟩;exact⟨p,hp,by simp;lia⟩
    ·rintro⟨p,hp,e⟩;exact⟨p,hp,by simp at e;lia⟩
   simp![↓zc8,↓zdc,e2,Fm,e3];cases h:s.any λp=>p.2==c
   ·simp![];exact⟨_,rfl⟩
   ·simp![];exact⟨_,rfl⟩
  ·rintro _ ⟨y,rfl⟩;simp![sA]
   rfl
end
abbrev Kk (n:Nat)(fs:AA (Nat->Int)):AA D:=fs.map λf=> .tup (wI n f)
def LeR3 (n:Nat)(a b:Nat->Int):Prop:=∀q,q<n->(∀p,p<q->a p=b p)->a q<=b q
def nV:∀a:AA Int,HT.cY a a=false
 |[]=>rfl
 |x::xs=>by
  show(if x=x then HT.cY xs xs else decide (x<x))=false;rw[if_pos rfl];exact nV xs
def lt_trans:∀{a b c:AA Int},HT.cY a b=true->HT.cY b c=true->HT.cY a c=true
 |[],[],_,h,_=>by cases h
 |[],_::_,[],_,h=>by cases h
 |[],_::_,_::_,_,_=>rfl
 |_::_,[],_,h,_=>by cases h
 |_::_,_::_,[],_,h=>by cases h
 |x::xs,y::ys,z::zs,h1,h2=>by
  have h1:(if x=y then HT.cY xs ys else decide (x<y))=true:=h1;have h2:(if y=z then HT.cY ys zs else decide (y<z))=true:=h2;show(if x=z then HT.cY xs zs else decide (x<z))=true
  by_cases e1:x=y
  ·subst e1;rw[if_pos rfl]at h1
   by_cases e2:x=z
   ·subst e2;rw[if_pos rfl]at h2 ⊢;exact lt_trans h1 h2
   ·rw[if_neg e2]at h2 ⊢;exact h2
  ·rw[if_neg e1]at h1;have h1:=Oi h1
   by_cases e2:y=z
   ·subst e2;rw[if_neg e1];exact fL h1
   ·rw[if_neg e2]at h2;have h2:=Oi h2;rw[if_neg ∅];exact fL ∅
def zgX (irr:∀i,bt i i=false)(tr:∀i j l,bt i j=true->bt j l=true->bt i l=true):∀m j,j<=m->bt j (argBest bt m)=false
 |0,j,h=>by
  have:j=0:=∅
  subst this;exact irr 0
 |m+1,j,h=>by
  show bt j (if bt (m+1) (argBest bt m)then m+1 else argBest bt m)=false
  by_cases c:bt (m+1) (argBest bt m)=true
  ·rw[if_pos c]
   by_cases e:j=m+1
   ·subst e;exact irr _
   ·cases q:bt j (m+1)with
    |false=>rfl
    |true=>
     have:=tr _ _ _ q c;rw[zgX irr tr m j ∅]at this;cases this
  ·rw[if_neg c]
   by_cases e:j=m+1
   ·subst e;simpa using c
   ·exact zgX irr tr m j ∅
theorem Bv:∀{a b:AA Int},a.length=b.length->HT.cY a b=false->∀(q:Nat) (x y:Int),a[q]? =some x->b[q]? =some y->(∀(p:Nat) (u v:Int),p<q->a[p]? =some u->b[p]? =some v->u=v)->y<=x
 |[],[],_,_,q,x,y,h,_,_=>by simp at h
 |x::xs,y::ys,hl,h,q,u,v,hu,hv,he=>by
  have h:(if x=y then HT.cY xs ys else decide (x<y))=false:=h
  by_cases e:x=y
  ·subst e;rw[if_pos rfl]at h;cases q with
   |zero=>simp at hu hv;lia
   |succ q=>exact Bv (~~~hl) h q u v (~~~hu) (~~~hv) λp u v hp h1 h2=>he (p+1) u v ∅ (~~~h1) (~~~h2)
  ·rw[if_neg e]at h;have h:=qcF h;cases q with
   |zero=>simp at hu hv;lia
   |succ q=>exact AH (he 0 x y ∅ (by simp) (by simp)) e
 |[],_::_,hl,_,_,_,_,_,_,_=>by simp at hl
 |_::_,[],hl,_,_,_,_,_,_,_=>by simp at hl
def zh2 (n:Nat):∀fs:AA (Nat->Int),Et (Kk n fs)=some (fs.map λf=>(List.range n).map f)
 |[]=>rfl
 |f::fs=>by
  show(eG (wI n f)).bind _=_;rw[zjU];show(Et (Kk n fs)).map _=_;rw[zh2 n fs]
  rfl
theorem sQ {fs:AA (Nat->Int)}(ne:fs≠[]):∃f∈fs,Yn [.lst (Kk n fs)]=some (.tup (wI n f))/\∀g∈fs,LeR3 n f g:=by
 have hp:0<fs.length:=qcn.mpr ne
 generalize hN:(fs.map λf=>(List.range n).map f)=nss
 have hl:nss.length=fs.length:=by rw[<-hN,cO]
 have hb:Cr nss<fs.length:=by
  have:=zhW (λi j=>HT.cY (nss.getD i []) (nss.getD j [])) (nss.length-1);unfold Cr;lia
 have get:∀i (h:i<fs.length),nss.getD i []=(List.range n).map fs[i]:=λi h=>by
  rw[<-hN,jV,cR,bA h];rfl
 refine⟨fs[Cr nss],Pf hb,?_,λg hg=>?_⟩
 ·show(Et (Kk n fs)).bind _=_;rw[zh2,hN];show(if nss.isEmpty then none else(Kk n fs)[Cr nss]?)=_;have:nss.isEmpty=false:=by
   cases nss with
   |nil=>simp at hl;lia
   |cons=>rfl
  rw[this,cR,bA hb]
  rfl
 ·obtain⟨j,hj,rfl⟩:=qc9 hg;have h:=zgX (bt:=λi j=>HT.cY (nss.getD i []) (nss.getD j [])) (λi=>nV _) (λi j l=>lt_trans) (nss.length-1) j ∅;have h:HT.cY (nss.getD j []) (nss.getD (Cr nss) [])=false:=h;rw[get j hj,get _ hb]at h;intro q hq he;refine Bv (by simp) h q _ _ (by simp[hq]) (by simp[hq]) λp u v hp h1 h2=>?_
  have hpn:p<n:=∅
  simp[hpn]at h1 h2;rw[<-h1,<-h2];exact(he p hp).symm
def zQ (b:Mx)(p:Nat×Nat)(q:Nat):Int:=if q=0 then((b p.1 p.2).natAbs:Nat)else if q=1 then(p.1:Nat)else(p.2:Nat)
def Yb (b:Mx)(p:Nat×Nat):D.tup [.int (gS (b p.1 p.2)),.int (p.1:Nat),.int (p.2:Nat)]= .tup (wI 3 (zQ b p)):=by
 have:gS (b p.1 p.2)=((b p.1 p.2).natAbs:Nat):=by unfold gS;split<;>lia
 rw[this];rfl
section
variable {t n:Nat}{b w v k:Mx}{s:AA (Nat×Nat)}
def zjs (n:Nat)(s:AA (Nat×Nat)):(opC n s).length<=n:=by
 have:=Ab (λc=>!(s.any λp=>p.2==c)) (List.range n);rw[Aj]at this;exact this
def zj8 (n:Nat)(s:AA (Nat×Nat)):(opR n s).length<=n:=by
 have:=Ab (λc=>!(s.any λp=>p.1==c)) (List.range n);rw[Aj]at this;exact this
def uP {r:Nat}(h:r∈opR t s):r<t:=qai.mp (qah.mp h).1
def xP {r:Nat}(h:r∈opC n s):r<n:=qai.mp (qah.mp h).1
theorem zh8 (ht:t<=100)(hn:n<=100)(hs:s.length<=100)(hd:s.Pairwise λp q=>p.1≠q.1):Ok (Jf [oD t n b w v k s]) λx=>(x= .val .non/\∀r∈opR t s,∀c∈opC n s,b r c=0)\/∃r c,x= .val (.tup [.int (r:Nat),.int (c:Nat)])/\r∈opR t s/\c∈opC n s/\b r c≠0/\∀i∈opR t s,∀j∈opC n s,b i j≠0->(b r c).natAbs<=(b i j).natAbs:=by
 simp![↓Jf,↓zcZ];rw[Os rfl];simp![];refine(zen hn hs hd).mono ?_;rintro _ rfl;simp![↓zdt];rw[Os rfl];simp![];refine(zhi ht).mono ?_;rintro _ rfl;simp![];refine Xw (enc:=λr:Nat=>D.int (r:Nat)) (l:=opR t s) (λi ρ=>∃(Cl:AA (Nat×Nat)) (s3:Sl),(∀p,p∈Cl↔p.1∈(opR t s).take i/\p.2∈opC n s/\b p.1 p.2≠0)/\Cl.length<=i*100/\ρ=[.val (oD t n b w v k s),.val (.lst ((opC n s).map λr=> .int (r:Nat))),.own (Cl.map λp=> .tup (wI 3 (zQ b p))),s3]) ⟨[],_,λp=>by simp,by simp,rfl⟩ ?_ ?_
 ·rintro i r _ hi ⟨Cl,s3,hCl,hl,rfl⟩;have hr:r∈opR t s:=dY hi;have hil:i<(opR t s).length:=(qat.mp hi).1;have htl:=zj8 t s;have hcl:=zjs n s;simp![↓zc1,↓zds];refine⟨∅,Wq (enc:=λr:Nat=>D.int (r:Nat)) (λρ=>∃y,ρ=[.val (oD t n b w v k s),.val (.int (r:Nat)),y]) (λc=>if b r c=0 then none else some (.tup (wI 3 (zQ b (r,c))))) ⟨_,rfl⟩ ?_ ?_⟩
  ·rintro c _ hc ⟨y,rfl⟩;simp![↓zdd,↓zdu,tb,bZ _ (uP hr),bZ _ (xP hc)];refine⟨λe=>⟨?_,_,rfl⟩,λe=>⟨?_,_,rfl⟩⟩
   ·rw[if_neg e,<-Yb]
   ·rw[if_pos (~~~e)]
  ·rintro _ ⟨y,rfl⟩;have el:(opC n s).filterMap (λc=>if b r c=0 then none else some (D.tup (wI 3 (zQ b (r,c)))))=(((opC n s).filter λc=>b r c !=0).map λc=>(r,c)).map λp=>D.tup (wI 3 (zQ b p)):=by
    rw[gC,<-Po,<-Py,Xa];exact Hi _ λc _=>by by_cases h:b r c=0<;>simp[h,Option.guard]
   have ll:((opC n s).filter λc=>b r c !=0).length<=100:=bO (Ab _ _) ∅;simp![el];refine⟨∅,Cl++((opC n s).filter λc=>b r c !=0).map λc=>(r,c),_,λp=>?_,by simp;lia,by rw[kQ]⟩;rw[qar,hCl,Qg,hi,qar]
   constructor
   ·rintro(⟨h1,h2⟩|h)
    ·exact⟨.inl h1,h2⟩
    ·obtain⟨c,hc,rfl⟩:=qb0.mp h;obtain⟨h1,h2⟩:=qah.mp hc;exact⟨.inr (by simp),h1,~~~h2⟩
   ·rintro⟨h1|h1,h2,h3⟩
    ·exact .inl ⟨h1,h2,h3⟩
    ·have:p.1=r:= ~~~h1
     refine .inr (qb0.mpr ⟨p.2,qah.mpr ⟨h2,?_⟩,by rw[<-this]⟩);rw[<-this];simpa using h3
 ·rintro _ ⟨Cl,s3,hCl,hl,rfl⟩;simp![];rw[Pz]at hCl;refine⟨λe=> .inl λr hr c hc=>?_,λe=>?_⟩
  ·have e:Cl=[]:=by
    cases Cl with
    |nil=>rfl
    |cons _ _=>exact AH e (by simp;lia)
   subst e
   by_cases h:b r c=0
   ·exact h
   ·exact AH ((hCl (r,c)).mpr ⟨hr,hc,h⟩) Bj
  ·simp![↓zdm];have ne:(Cl.map λp=>zQ b p)≠[]:=λh=>e (by rw[List.map_eq_nil_iff.mp h];rfl)
   obtain⟨f,hf,e1,e2⟩:=sQ (n:=3) ne;obtain⟨p,hp,rfl⟩:=qb0.mp hf;obtain⟨p1,p2,p3⟩:=(hCl p).mp hp;rw[show(Cl.map λp=>D.tup (wI 3 (zQ b p)))=Kk 3 (Cl.map λp=>zQ b p) by unfold Kk;rw[gC];rfl,e1];simp![];refine .inr ⟨p.1,p.2,rfl,p1,p2,p3,λi hi j hj h=>?_⟩;have:=e2 _ (qb0.mpr ⟨(i,j),(hCl (i,j)).mpr ⟨hi,hj,h⟩,rfl⟩) 0 ∅ (λp h=>∅);simp only[zQ,if_true]at this;lia
theorem zh5 {r c:Nat}(hd:s.Pairwise λp q=>p.1≠q.1)(h:(r,c)∈s)(hr:r<t)(hc:c<n):Ok (Tg [oD t n b w v k s,.int (r:Nat)]) λx=>x= .val (.int (b r c)):=by
 simp![↓Tg,↓zcW,tb,jU,zhP hd h,bZ _ hr,bZ _ hc]
end
def fD (b:Mx)(r o:Nat)(q:Int):Mx:=λi j=>if i=r then b r j-q*b o j else b i j
def Pr (b:Mx)(c o:Nat)(q:Int):Mx:=λi j=>if j=c then b i c-q*b i o else b i j
def zmB (b:Mx)(r o:Nat)(q:Int):fD b r o q=λi=>if i=r then λj=>b r j-q*b o j else b i:=by
 funext i j;unfold fD;split<;>rfl
abbrev oT (t n:Nat)(b w v k:Mx)(s:AA (Nat×Nat)):Sl:= .ptr (.obj slC slN (tb t n b w v k) (some (sk s)))
section
variable {t n:Nat}{b w v k:Mx}{s:AA (Nat×Nat)}
def zj9 {f:Nat->D}(h:∀i,kK (f i)=true)(n1:1<=n):(wL n f).any kK=true:=
 qcN.mpr ⟨f 0,dY (bZ f (show 0<n by lia)),h 0⟩
def lS (t1:1<=t)(n1:1<=n):jI (tb t n b w v k)=true:=by
 unfold jI tb;simp only[lL,List.all_nil,Pw,cD];exact⟨zj9 (λ_=>rfl) t1,zj9 (λ_=>rfl) t1,zj9 (λ_=>rfl) n1,zj9 (λ_=>rfl) n1⟩
def Vr (n:Nat)(f:Nat->Int):Cu (.lst (wI n f))=true:=by
 show(wI n f).all Me=true;rw[qbZ];intro d hd;obtain⟨i,_,rfl⟩:=qb0.mp hd
 rfl
def tb0 {r:Nat}(hr:r<t)(f:Nat->Int):(tb t n b w v k).set 0 ((wL t λi=> .lst (wI n (b i))).set r (.lst (wI n f)))=tb t n (λi=>if i=r then f else b i) w v k:=by
 unfold tb;rw[We _ _ hr,Vk];congr 2
 funext j
 by_cases h:j=r<;>simp only[h,if_true,dG]
def tb1 {r:Nat}(hr:r<t)(f:Nat->Int):(tb t n b w v k).set 1 ((wL t λi=> .lst (wI t (w i))).set r (.lst (wI t f)))=tb t n b (λi=>if i=r then f else w i) v k:=by
 unfold tb;rw[We _ _ hr,Cz,Vk];congr 3
 funext j
 by_cases h:j=r<;>simp only[h,if_true,dG]
def tb2 {r:Nat}(hr:r<n)(f:Nat->Int):(tb t n b w v k).set 2 ((wL n λi=> .lst (wI n (v i))).set r (.lst (wI n f)))=tb t n b w (λi=>if i=r then f else v i) k:=by
 unfold tb;rw[We _ _ hr,Cz,Cz,Vk];congr 4
 funext j
 by_cases h:j=r<;>simp only[h,if_true,dG]
def tb3 {r:Nat}(hr:r<n)(f:Nat->Int):(tb t n b w v k).set 3 ((wL n λi=> .lst (wI n (k i))).set r (.lst (wI n f)))=tb t n b w v (λi=>if i=r then f else k i):=by
 unfold tb;rw[We _ _ hr,Cz,Cz,Cz,Vk];congr 5
 funext j
 by_cases h:j=r<;>simp only[h,if_true,dG]
theorem g0:(tb t n b w v k)[0]? =some (wL t λi=> .lst (wI n (b i))):=rfl
theorem g1:(tb t n b w v k)[1]? =some (wL t λi=> .lst (wI t (w i))):=rfl
theorem g2:(tb t n b w v k)[2]? =some (wL n λi=> .lst (wI n (v i))):=rfl
theorem g3:(tb t n b w v k)[3]? =some (wL n λi=> .lst (wI n (k i))):=rfl
theorem zlI (t1:1<=t)(n1:1<=n)(ht:t<=100)(hn:n<=100){r o:Nat}(hr:r<t)(ho:o<t)(hb:∀j,j<n->jF q (b o j)=true)(hw:∀j,j<t->jF q (w o j)=true):
  Ok (Rq [oT t n b w v k s,.val (.int (r:Nat)),.val (.int (o:Nat)),.val (.int q)]) λx=>x=(.val .non,[oT t n (fD b r o q) (fD w r o q) v k s,.emp,.emp,.emp]):=by
 simp![↓Rq,↓zgI];rw[xC rfl rfl (lS t1 n1)];simp![g0,bZ _ hr,bZ _ ho];refine(Rh (Sq.lst n (b r)) (Sq.lst n (b o)) hn hb).mono ?_;rintro _ rfl;simp![Vr];refine⟨rfl,?_⟩;simp![g0,bV,hr,tb0 hr];rw[xC rfl rfl (lS t1 n1)];simp![g1,bZ _ hr,bZ _ ho];refine(Rh (Sq.lst t (w r)) (Sq.lst t (w o)) ht hw).mono ?_;rintro _ rfl;simp![Vr];refine⟨rfl,?_⟩;simp![g1,bV,hr,tb1 hr];rw[zmB,zmB]
theorem ziP (t1:1<=t)(n1:1<=n)(ht:t<=100)(hn:n<=100){c o:Nat}(hc:c<n)(ho:o<n)(hb:∀i,i<t->jF q (b i o)=true)(hv:∀j,j<n->jF q (v o j)=true)(hk:∀j,j<n->jF (-q) (k c j)=true):
  Ok (Vf [oT t n b w v k s,.val (.int (c:Nat)),.val (.int (o:Nat)),.val (.int q)]) λx=>x=(.val .non,[oT t n (Pr b c o q) w (fD v c o q) (fD k o c (-q)) s,.emp,.emp,.emp]):=by
 simp![↓Vf,↓zdI];rw[zlf rfl rfl (lS t1 n1)];simp![↓zd3,g0,bV];refine⟨∅,iN (λρ=>∃y,ρ=[.val (.int (c:Nat)),.val (.int (o:Nat)),.val (.int q),y]) (λi=> .lst (wI n λj=>if j=c then b i c-q*b i o else b i j)) ⟨_,rfl⟩ ?_ ?_⟩
 ·rintro i _ hi ⟨y,rfl⟩;simp![↓zd6];refine(zfx (b i) hn hc ho (hb i hi)).mono ?_;rintro _ rfl;simp![];exact⟨_,rfl⟩
 ·rintro _ ⟨y,rfl⟩;simp![];refine⟨⟨?_,rfl⟩,?_⟩
  ·rw[qbZ];intro d hd;obtain⟨i,_,rfl⟩:=qb0.mp hd;exact Vr _ _
  have e:(tb t n b w v k).set 0 (wL t λi=> .lst (wI n λj=>if j=c then b i c-q*b i o else b i j))=tb t n (Pr b c o q) w v k:=rfl;refine⟨show 0<4 by lia,?_⟩;simp![e];rw[xC rfl rfl (lS t1 n1)];simp![g2,bZ _ hc,bZ _ ho];refine(Rh (Sq.lst n (v c)) (Sq.lst n (v o)) hn hv).mono ?_;rintro _ rfl;simp![Vr];refine⟨rfl,?_⟩;simp![g2,bV,hc,tb2 hc];rw[xC rfl rfl (lS t1 n1)];simp![g3,bZ _ hc,bZ _ ho];refine(Rh (Sq.lst n (k o)) (Sq.lst n (k c)) hn hk).mono ?_;rintro _ rfl;simp![Vr];refine⟨rfl,?_⟩;simp![g3,bV,ho,tb3 ho];rw[zmB,zmB]
end
def Ej (x:Int)(o:Nat):∀n,aH n (λj=>if j=o then x else 0)=if o<n then x else 0
 |0=>by simp[aH]
 |n+1=>by
  show aH n _+(if n=o then x else 0)=_;rw[Ej x o n]
  by_cases h:n=o
  ·subst h;rw[if_neg ∅,if_pos rfl,if_pos ∅];lia
  ·rw[if_neg h]
   by_cases h2:o<n
   ·rw[if_pos h2,if_pos ∅];lia
   ·rw[if_neg h2,if_neg ∅];lia
def Om (hi:i<n)(f:Nat->Int):aH n (λj=>un i j*f j)=f i:=by
 rw[cI (g:=λj=>if j=i then f i else 0) λj _=>by
  unfold un
  by_cases h:j=i
  ·subst h;simp
  ·simp[h],Ej,if_pos hi]
def sV (hi:i<n)(f:Nat->Int):aH n (λj=>f j*un i j)=f i:=by
 rw[cI (g:=λj=>un i j*f j) λj _=>qX _ _,Om hi]
structure Inv (t n:Nat)(A b w v k:Mx):Prop where
 bl:∀i,i<t->∀j,j<n->b i j=aH t λa=>aH n λp=>w i a*A a p*v j p
 wi:∀z:Nat->Int,(∀i,i<t->aH t (λa=>w i a*z a)=0)->∀a,a<t->z a=0
 kv:∀p q,p<n->q<n->aH n (λj=>k j p*v j q)=un p q
 vk:∀i j,i<n->j<n->aH n (λp=>v i p*k j p)=un i j
section
variable {t n:Nat}{A b w v k:Mx}
def Inv.start (t n:Nat)(A:Mx):Inv t n A A un un un where
 bl:=λi hi j hj=>by
  rw[cI (g:=λa=>un i a*A a j) λa _=>?_,Om hi];rw[cI (g:=λp=>(un i a*A a p)*un j p) λp _=>rfl,sV hj]
 wi:=λz h a ha=>by
  have:=h a ha;rwa[Om ha]at this
 kv:=λp q hp hq=>by
  rw[cI (g:=λj=>un p j*un q j) λj _=>by
   unfold un
   by_cases h1:p=j<;>by_cases h2:q=j<;>simp[h1,h2,eq_comm],Om hp]
  unfold un
  by_cases h:p=q
  ·subst h;rfl
  ·rw[if_neg h,if_neg (Ne.symm h)]
 vk:=λi j hi hj=>by
  rw[Om hi];unfold un
  by_cases h:i=j
  ·subst h;rfl
  ·rw[if_neg h,if_neg (Ne.symm h)]
def Inv.row (I:Inv t n A b w v k){r o:Nat}(hr:r<t)(ho:o<t)(hro:r≠o)(q:Int):Inv t n A (fD b r o q) (fD w r o q) v k where
 bl:=λi hi j hj=>by
  unfold fD
  by_cases h:i=r
  ·simp only[h,if_true];rw[I.bl r hr j hj,I.bl o ho j hj,<-jQ,<-Br];refine cI λa _=>?_
   rw[<-jQ,<-Br];refine cI λp _=>?_
   grind
  ·simp only[h,dG];exact I.bl i hi j hj
 wi:=λz h=>by
  refine I.wi z λi hi=>?_
  have ne:∀i,i<t->i≠r->aH t (λa=>w i a*z a)=0:=λi hi hir=>by
   have:=h i hi;unfold fD at this;simpa only[hir,dG]using this
  by_cases hir:i=r
  ·subst hir;have h1:=h i hi;unfold fD at h1;simp only[if_true]at h1;rw[cI (g:=λa=>w i a*z a-q*(w o a*z a)) λa _=>by grind,Br,jQ,ne o ho (Ne.symm hro)]at h1;lia
  ·exact ne i hi hir
 kv:=I.kv
 vk:=I.vk
def Inv.col (I:Inv t n A b w v k){c o:Nat}(hc:c<n)(ho:o<n)(hco:c≠o)(q:Int):Inv t n A (Pr b c o q) w (fD v c o q) (fD k o c (-q)) where
 bl:=λi hi j hj=>by
  unfold Pr fD
  by_cases h:j=c
  ·simp only[h,if_true];rw[I.bl i hi c hc,I.bl i hi o ho,<-jQ,<-Br];refine cI λa _=>?_
   rw[<-jQ,<-Br];refine cI λp _=>?_
   grind
  ·simp only[h,dG];exact I.bl i hi j hj
 wi:=I.wi
 kv:=λp p' hp hp'=>by
  rw[<-I.kv p p' hp hp'];rw[cI (g:=λj=>k j p*v j p'+((if j=o then q*(k c p*v o p')else 0)+(if j=c then-(q*(k c p*v o p'))else 0))) λj _=>?_,tZ,tZ,Ej,Ej,if_pos ho,if_pos hc]
  ·lia
  ·unfold fD
   by_cases h1:j=o
   ·have:¬j=c:=λz=>hco (z ▸ h1)
    have h2:¬o=c:=Ne.symm hco;simp only[h1,h2,if_true,dG]
    grind
   ·by_cases h2:j=c
    ·simp only[h1,h2,hco,if_true,dG]
     grind
    ·simp only[h1,h2,dG];lia
 vk:=λi j hi hj=>by
  have key:∀x y:Nat->Int,aH n (λp=>(x p-q*v o p)*y p)=aH n (λp=>x p*y p)-q*aH n (λp=>v o p*y p):=λx y=>by
   rw[cI (g:=λp=>x p*y p-q*(v o p*y p)) λp _=>by grind,Br,jQ]
  have key2:∀x y:Nat->Int,aH n (λp=>x p*(y p- -q*k c p))=aH n (λp=>x p*y p)+q*aH n (λp=>x p*k c p):=λx y=>by
   rw[cI (g:=λp=>x p*y p+q*(x p*k c p)) λp _=>by grind,tZ,jQ]
  unfold fD
  by_cases h1:i=c
  ·by_cases h2:j=o
   ·subst h1 h2;simp only[if_true];rw[key (λp=>v i p) (λp=>k j p- -q*k i p),key2 (λp=>v i p),key2 (λp=>v j p),I.vk i j hi hj,I.vk i i hi hi,I.vk j j hj hj,I.vk j i hj hi];unfold un;rw[if_pos rfl,if_pos rfl,if_neg hco,if_neg (Ne.symm hco)];lia
   ·simp only[h1,h2,if_true,dG];rw[key (λp=>v c p) (λp=>k j p),I.vk c j hc hj,I.vk o j ho hj];unfold un;rw[if_neg h2 (α:=Int)];lia
  ·by_cases h2:j=o
   ·simp only[h1,h2,if_true,dG];rw[key2 (λp=>v i p) (λp=>k o p),I.vk i o hi ho,I.vk i c hi hc];unfold un;rw[if_neg (Ne.symm h1) (α:=Int)];lia
   ·simp only[h1,h2,dG];exact I.vk i j hi hj
end
def rnd (b:Nat->Nat->Int)(r c:Nat)(i j:Nat):Int:=
 if i=r then(if j=c then b r c else b r j-(b r j).fdiv (b r c)*b r c)
 else if j=c then b i c-(b i c).fdiv (b r c)*b r c
 else b i j-(b i c).fdiv (b r c)*b r j-(b r j).fdiv (b r c)*(b i c-(b i c).fdiv (b r c)*b r c)
theorem Ni {a b:Nat}(h:x.natAbs<=a)(g:y.natAbs<=b):(x-y).natAbs<=a+b:=bO (Int.natAbs_sub_le x y) (Nat.add_le_add h g)
def nF (h:x.natAbs<=a)(g:y.natAbs<=b):(x+y).natAbs<=a+b:=bO (Int.natAbs_add_le x y) (Nat.add_le_add h g)
def m2 (b:Nat->Nat->Int)(i k j l:Nat):Int:=b i j*b k l-b i l*b k j
def d3 (b:Nat->Nat->Int)(i k o j l q:Nat):Int:=b i j*m2 b k o l q-b i l*m2 b k o j q+b i q*m2 b k o j l
def gF {p:Int}(h:p≠0):(a-a.fdiv p*p).natAbs<p.natAbs:=by
 have e:a-a.fdiv p*p=a.fmod p:=by have:=Ud a p;rw[qX]at this;lia
 rw[e];have pos:∀a p:Int,0<p->(a.fmod p).natAbs<p.natAbs:=λa p h=>by
  have h1:=Zk a h;have h2:=Int.fmod_lt_of_pos a h;lia
 rcases Ml h with h|h
 ·have e2:a.fmod p= -((-a).fmod (-p)):=by rw[Int.neg_fmod_neg];lia
  have:=pos (-a) (-p) ∅;rw[e2,iS];lia
 ·exact pos a p h
def mT (b:Nat->Nat->Int)(r c:Nat):rnd b r c r c=b r c:=by simp[rnd]
section
variable {b:Nat->Nat->Int}{r c:Nat}
def hW (hj:j≠c):rnd b r c r j=b r j-(b r j).fdiv (b r c)*b r c:=by simp[rnd,hj]
def iV (hi:i≠r):rnd b r c i c=b i c-(b i c).fdiv (b r c)*b r c:=by simp[rnd,hi]
def Nm (hi:i≠r)(hj:j≠c):rnd b r c i j=b i j-(b i c).fdiv (b r c)*b r j-(b r j).fdiv (b r c)*(b i c-(b i c).fdiv (b r c)*b r c):=by simp[rnd,hi,hj]
def Ih (hi:i≠r)(hj:j≠c):m2 (rnd b r c) r i c j=m2 b r i c j:=by
 unfold m2;rw[mT,hW hj,iV hi,Nm hi hj]
 generalize (b i c).fdiv (b r c)=q
 generalize (b r j).fdiv (b r c)=q'
 grind
def znX {i k j l:Nat}(hi:i≠r)(hk:k≠r)(hj:j≠c)(hl:l≠c):d3 (rnd b r c) r i k c j l=d3 b r i k c j l:=by
 unfold d3 m2;rw[mT,hW hj,hW hl,iV hi,iV hk,Nm hi hj,Nm hi hl,Nm hk hj,Nm hk hl]
 generalize (b i c).fdiv (b r c)=q1
 generalize (b k c).fdiv (b r c)=q2
 generalize (b r j).fdiv (b r c)=q3
 generalize (b r l).fdiv (b r c)=q4
 grind
def zmP (b:Nat->Nat->Int)(i j l:Nat):m2 b i i j l=0:=by unfold m2;grind
def zmg (b:Nat->Nat->Int)(i k j:Nat):m2 b i k j j=0:=by unfold m2;grind
def zme (b:Nat->Nat->Int)(i k j l:Nat):m2 b k i j l= -m2 b i k j l:=by unfold m2;grind
def Vw (b:Nat->Nat->Int)(i k j l:Nat):m2 b i k l j= -m2 b i k j l:=by unfold m2;grind
def zmy (b:Nat->Nat->Int)(i k o j l q:Nat):d3 b k i o j l q= -d3 b i k o j l q:=by unfold d3 m2;grind
def zma (b:Nat->Nat->Int)(i k o j l q:Nat):d3 b i o k j l q= -d3 b i k o j l q:=by unfold d3 m2;grind
def zmH (b:Nat->Nat->Int)(i k o j l q:Nat):d3 b i k o l j q= -d3 b i k o j l q:=by unfold d3 m2;grind
def zlY (b:Nat->Nat->Int)(i k o j l q:Nat):d3 b i k o j q l= -d3 b i k o j l q:=by unfold d3 m2;grind
def zmR (b:Nat->Nat->Int)(i o j l q:Nat):d3 b i i o j l q=0:=by unfold d3 m2;grind
def rF (b:Nat->Nat->Int)(i k j l q:Nat):d3 b i k k j l q=0:=by unfold d3 m2;grind
def zmO (b:Nat->Nat->Int)(i k o j q:Nat):d3 b i k o j j q=0:=by unfold d3 m2;grind
def pB (b:Nat->Nat->Int)(i k o j l:Nat):d3 b i k o j l l=0:=by unfold d3 m2;grind
end
theorem jX {a b:Int}{A B:Nat}(ha:a.natAbs<=A)(hb:b.natAbs<=B):(a*b).natAbs<=A*B:=by rw[kX];exact Nat.mul_le_mul ha hb
def ziZ (a b:Int):(a+b).natAbs<=a.natAbs+b.natAbs:=∅
def zkO (h0:p≠0)(h:(p*y).natAbs<=M):y.natAbs<=M:=by
 rw[kX]at h;have:1<=p.natAbs:=∅
 exact bO (qdg _ this) h
def y_le {p y m t s:Int}(e:p*y=m+t*s)(hm:m.natAbs<=M)(ht:t.natAbs<p.natAbs)(hs:s.natAbs<p.natAbs)(hp:p.natAbs<=P):(p*y).natAbs<=M+P*P:=by
 rw[e];have h1:=ziZ m (t*s);have h2:=jX (A:=P) (B:=P) (bO (kY ht) hp) (bO (kY hs) hp);lia
def kR {p y t:Int}(h:(p*y).natAbs<=K)(ht:t.natAbs<p.natAbs):(t*y).natAbs<=K:=by
 rw[kX]at h ⊢;exact bO (qdh _ (kY ht)) h
theorem Ek {p m d x y:Int}{D C:Nat}(h0:p≠0)(e:p*m=d+x-y)(hd:d.natAbs<=D)(hx:x.natAbs<=p.natAbs*(2*C))(hy:y.natAbs<=p.natAbs*(2*C)):m.natAbs<=D+4*C:=by
 have h1:(p*m).natAbs<=D+p.natAbs*(2*C)+p.natAbs*(2*C):=by rw[e];exact Ni (nF hd hx) hy
 rw[kX]at h1;have hp:0<p.natAbs:=∅
 refine Nat.le_of_mul_le_mul_left (bO h1 ?_) hp;have h2:D<=p.natAbs*D:=qdg _ hp;have h3:p.natAbs*(D+4*C)=p.natAbs*D+(p.natAbs*(2*C)+p.natAbs*(2*C)):=by rw[<-Nat.mul_add,<-Nat.mul_add];congr 1;lia
 lia
def Mb (Ro Co:AA Nat)(b:Nat->Nat->Int)(M:Nat):Prop:=∀i,i∈Ro->∀k,k∈Ro->∀j,j∈Co->∀l,l∈Co->(m2 b i k j l).natAbs<=M
def Db (Ro Co:AA Nat)(b:Nat->Nat->Int)(D:Nat):Prop:=∀i,i∈Ro->∀k,k∈Ro->∀o,o∈Ro->∀j,j∈Co->∀l,l∈Co->∀q,q∈Co->(d3 b i k o j l q).natAbs<=D
section
variable {b:Nat->Nat->Int}{r c:Nat}{Ro Co:AA Nat}{M P D:Nat}
def Ho (hi:i≠r)(hj:j≠c):b r c*rnd b r c i j=m2 b r i c j+rnd b r c i c*rnd b r c r j:=by
 have h:=Ih (b:=b) hi hj;unfold m2 at h;rw[mT]at h;rw[show m2 b r i c j=b r c*b i j-b r j*b i c from rfl,<-h]
 grind
def Dl (hr:r∈Ro)(hc:c∈Co)(h0:b r c≠0)(hp:(b r c).natAbs<=P)(hM:Mb Ro Co b M)(mi:i∈Ro)(mj:j∈Co)(hi:i≠r)(hj:j≠c):(b r c*rnd b r c i j).natAbs<=M+P*P:=
 y_le (Ho hi hj) (hM r hr i mi c hc j mj) (by rw[iV hi];exact gF h0) (by rw[hW hj];exact gF h0) hp
def zod (hr:r∈Ro)(hc:c∈Co)(h0:b r c≠0)(hp:(b r c).natAbs<=P)(hM:Mb Ro Co b M)(mi:i∈Ro)(mj:j∈Co):(rnd b r c i j).natAbs<=M+P*P+P:=by
 by_cases hi:i=r
 ·subst hi
  by_cases hj:j=c
  ·subst hj;rw[mT];lia
  ·rw[hW hj];have:=gF (a:=b i j) h0;lia
 ·by_cases hj:j=c
  ·subst hj;rw[iV hi];have:=gF (a:=b i j) h0;lia
  ·have:=zkO h0 (Dl hr hc h0 hp hM mi mj hi hj);lia
def Er (hr:r∈Ro)(hc:c∈Co)(h0:b r c≠0)(hp:(b r c).natAbs<=P)(hM:Mb Ro Co b M)(hD:Db Ro Co b D):Mb Ro Co (rnd b r c) (D+4*(M+P*P)):=by
 have K:=λ{i j:Nat} (mi:i∈Ro) (mj:j∈Co) (hi:i≠r) (hj:j≠c)=>Dl hr hc h0 hp hM mi mj hi hj
 have A:∀{i j:Nat},i∈Ro->j∈Co->i≠r->j≠c->(m2 (rnd b r c) r i c j).natAbs<=M:=λmi mj hi hj=>by rw[Ih hi hj];exact hM r hr _ mi c hc _ mj
 have Bc:∀{i j l:Nat},i∈Ro->j∈Co->l∈Co->i≠r->j≠c->l≠c->(m2 (rnd b r c) r i j l).natAbs<=2*(M+P*P):=λ{i j l} mi mj ml hi hj hl=>by
  unfold m2;have k1:=kR (K mi ml hi hl) (show(rnd b r c r j).natAbs<_ by rw[hW hj];exact gF h0);have k2:=kR (K mi mj hi hj) (show(rnd b r c r l).natAbs<_ by rw[hW hl];exact gF h0);exact bO (Ni k1 k2) ∅
 have Cc:∀{i k j:Nat},i∈Ro->k∈Ro->j∈Co->i≠r->k≠r->j≠c->(m2 (rnd b r c) i k c j).natAbs<=2*(M+P*P):=λ{i k j} mi mk mj hi hk hj=>by
  unfold m2;have k1:=kR (K mk mj hk hj) (show(rnd b r c i c).natAbs<_ by rw[iV hi];exact gF h0);have k2:=kR (K mi mj hi hj) (show(rnd b r c k c).natAbs<_ by rw[iV hk];exact gF h0);rw[qX (rnd b r c i j)];exact bO (Ni k1 k2) ∅
 have Dc:∀{i k j l:Nat},i∈Ro->k∈Ro->j∈Co->l∈Co->i≠r->k≠r->j≠c->l≠c->(m2 (rnd b r c) i k j l).natAbs<=D+4*(M+P*P):=λ{i k j l} mi mk mj ml hi hk hj hl=>by
  have e:=znX (b:=b) hi hk hj hl;have hd:=hD r hr i mi k mk c hc j mj l ml;rw[<-e]at hd;have c1:=Cc mi mk ml hi hk hl;have c2:=Cc mi mk mj hi hk hj;have s1:(rnd b r c r j).natAbs<(b r c).natAbs:=by rw[hW hj];exact gF h0
  have s2:(rnd b r c r l).natAbs<(b r c).natAbs:=by rw[hW hl];exact gF h0
  have q:b r c*m2 (rnd b r c) i k j l=d3 (rnd b r c) r i k c j l+rnd b r c r j*m2 (rnd b r c) i k c l-rnd b r c r l*m2 (rnd b r c) i k c j:=by
   unfold d3;rw[mT];grind
  have a1:=jX (kY s1) c1;have a2:=jX (kY s2) c2;exact Ek h0 q hd a1 a2
 intro i mi k mk j mj l ml;have le:∀{x:Int},x.natAbs<=2*(M+P*P)->x.natAbs<=D+4*(M+P*P):=λh=>∅
 have leM:∀{x:Int},x.natAbs<=M->x.natAbs<=D+4*(M+P*P):=λh=>∅
 by_cases hik:i=k
 ·subst hik;rw[zmP];simp
 by_cases hjl:j=l
 ·subst hjl;rw[zmg];simp
 by_cases hi:i=r
 ·subst hi
  by_cases hj:j=c
  ·subst hj;exact leM (A mk ml (Ne.symm hik) (Ne.symm hjl))
  ·by_cases hl:l=c
   ·subst hl;rw[Vw,iS];exact leM (A mk mj (Ne.symm hik) hj)
   ·exact le (Bc mk mj ml (Ne.symm hik) hj hl)
 by_cases hk:k=r
 ·subst hk;rw[zme,iS]
  by_cases hj:j=c
  ·subst hj;exact leM (A mi ml hi (Ne.symm hjl))
  ·by_cases hl:l=c
   ·subst hl;rw[Vw,iS];exact leM (A mi mj hi hj)
   ·exact le (Bc mi mj ml hi hj hl)
 by_cases hj:j=c
 ·subst hj;exact le (Cc mi mk ml hi hk (Ne.symm hjl))
 by_cases hl:l=c
 ·subst hl;rw[Vw,iS];exact le (Cc mi mk mj hi hk hj)
 exact Dc mi mk mj ml hi hk hj hl
def zoc (n:Ro.length<=3)(hr:r∈Ro)(mi:i∈Ro)(mk:k∈Ro)(mo:o∈Ro)(h1:i≠k)(h2:i≠o)(h3:k≠o):∃i' k',i'∈Ro/\k'∈Ro/\i'≠r/\k'≠r/\∀b j l q,(d3 b i k o j l q).natAbs=(d3 b r i' k' j l q).natAbs:=by
 have:i=r\/k=r\/o=r:=by
  match Ro,n with
  |[],_=>simp at hr
  |[a],_=>simp at hr mi mk mo;lia
  |[a,b],_=>simp at hr mi mk mo;lia
  |[a,b,c],_=>simp at hr mi mk mo;lia
  |_::_::_::_::_,n=>simp at n
 rcases this with rfl|rfl|rfl
 ·exact⟨k,o,mk,mo,h1.symm,h2.symm,λ_ _ _ _=>rfl⟩
 ·exact⟨i,o,mi,mo,h1,h3.symm,λb j l q=>by rw[zmy,iS]⟩
 ·exact⟨i,k,mi,mk,h2,h3,λb j l q=>by rw[zma,zmy];simp⟩
def zpo {j l q:Nat}(n:Co.length<=3)(hc:c∈Co)(mj:j∈Co)(ml:l∈Co)(mq:q∈Co)(h1:j≠l)(h2:j≠q)(h3:l≠q):∃j' l',j'∈Co/\l'∈Co/\j'≠c/\l'≠c/\∀b i k o,(d3 b i k o j l q).natAbs=(d3 b i k o c j' l').natAbs:=by
 have:j=c\/l=c\/q=c:=by
  match Co,n with
  |[],_=>simp at hc
  |[a],_=>simp at hc mj ml mq;lia
  |[a,b],_=>simp at hc mj ml mq;lia
  |[a,b,c],_=>simp at hc mj ml mq;lia
  |_::_::_::_::_,n=>simp at n
 rcases this with rfl|rfl|rfl
 ·exact⟨l,q,ml,mq,h1.symm,h2.symm,λ_ _ _ _=>rfl⟩
 ·exact⟨j,q,mj,mq,h1,h3.symm,λb i k o=>by rw[zmH,iS]⟩
 ·exact⟨j,l,mj,ml,h2,h3,λb i k o=>by rw[zlY,zmH];simp⟩
def Fh (n:Ro.length<=3)(m:Co.length<=3)(hr:r∈Ro)(hc:c∈Co)(hD:Db Ro Co b D):Db Ro Co (rnd b r c) D:=by
 intro i mi k mk o mo j mj l ml q mq
 by_cases h1:i=k
 ·subst h1;rw[zmR];simp
 by_cases h3:k=o
 ·subst h3;rw[rF];simp
 by_cases h2:i=o
 ·subst h2;rw[zma,zmR];simp
 by_cases g1:j=l
 ·subst g1;rw[zmO];simp
 by_cases g3:l=q
 ·subst g3;rw[pB];simp
 by_cases g2:j=q
 ·subst g2;rw[zlY,zmO];simp
 obtain⟨i',k',mi',mk',hi',hk',e⟩:=zoc n hr mi mk mo h1 h2 h3;obtain⟨j',l',mj',ml',hj',hl',f⟩:=zpo m hc mj ml mq g1 g2 g3;rw[e,f,znX hi' hk' hj' hl'];exact hD r hr i' mi' k' mk' c hc j' mj' l' ml'
def wO (n:Ro.length<=2)(m:Co.length<=2)(hr:r∈Ro)(hc:c∈Co)(hM:Mb Ro Co b M):Mb Ro Co (rnd b r c) M:=by
 intro i mi k mk j mj l ml
 by_cases h1:i=k
 ·subst h1;rw[zmP];simp
 by_cases g1:j=l
 ·subst g1;rw[zmg];simp
 have h:i=r\/k=r:=by
  match Ro,n with
  |[],_=>simp at hr
  |[a],_=>simp at hr mi mk;lia
  |[a,b],_=>simp at hr mi mk;lia
  |_::_::_::_,n=>simp at n
 have g:j=c\/l=c:=by
  match Co,m with
  |[],_=>simp at hc
  |[a],_=>simp at hc mj ml;lia
  |[a,b],_=>simp at hc mj ml;lia
  |_::_::_::_,n=>simp at n
 rcases h with rfl|rfl
 ·rcases g with rfl|rfl
  ·rw[Ih (Ne.symm h1) (Ne.symm g1)];exact hM _ hr _ mk _ hc _ ml
  ·rw[Vw,iS,Ih (Ne.symm h1) g1];exact hM _ hr _ mk _ hc _ mj
 ·rw[zme,iS];rcases g with rfl|rfl
  ·rw[Ih h1 (Ne.symm g1)];exact hM _ hr _ mi _ hc _ ml
  ·rw[Vw,iS,Ih h1 g1];exact hM _ hr _ mi _ hc _ mj
end
def Lst (Ro Co:AA Nat)(b:Nat->Nat->Int)(r c:Nat):Prop:=r∈Ro/\c∈Co/\b r c≠0/\∀i,i∈Ro->∀j,j∈Co->b i j≠0->(b r c).natAbs<=(b i j).natAbs
def Opn (Ro Co:AA Nat)(b:Nat->Nat->Int)(r c:Nat):Prop:=(∃i,i∈Ro/\i≠r/\rnd b r c i c≠0)\/(∃j,j∈Co/\j≠c/\rnd b r c r j≠0)
section
variable {b:Nat->Nat->Int}{r c r' c':Nat}{Ro Co:AA Nat}{M P D U k:Nat}
def pN (a p:Int):a-a.fdiv p*p=a.fmod p:=by have:=Ud a p;rw[qX]at this;lia
def Opn.small (h0:b r c≠0)(o:Opn Ro Co b r c)(hr:r∈Ro)(hc:c∈Co):∃i,i∈Ro/\∃j,j∈Co/\rnd b r c i j≠0/\(rnd b r c i j).natAbs<(b r c).natAbs:=by
 rcases o with⟨i,mi,hi,h⟩|⟨j,mj,hj,h⟩
 ·exact⟨i,mi,c,hc,h,by rw[iV hi];exact gF h0⟩
 ·exact⟨r,hr,j,mj,h,by rw[hW hj];exact gF h0⟩
def Lst.fall (l:Lst Ro Co b r c)(o:Opn Ro Co b r c)(l':Lst Ro Co (rnd b r c) r' c'):(rnd b r c r' c').natAbs<(b r c).natAbs:=by
 obtain⟨i,mi,j,mj,h,lt⟩:=o.small l.2.2.1 l.1 l.2.1;exact Ea (l'.2.2.2 i mi j mj h) lt
def I3 (Ro Co:AA Nat)(P D U k:Nat)(b:Nat->Nat->Int):Prop:=Db Ro Co b D/\Mb Ro Co b (U*5^k)/\∃i,i∈Ro/\∃j,j∈Co/\b i j≠0/\(b i j).natAbs+k<=P
def I3.low (I:I3 Ro Co P D U k b)(l:Lst Ro Co b r c):(b r c).natAbs+k<=P:=by
 obtain⟨_,_,i,mi,j,mj,h,p⟩:=I;have:=l.2.2.2 i mi j mj h;lia
def grow (hU:D+4*(P*P)<=U):D+4*(U*5^k+P*P)<=U*5^(k+1):=by
 have h:U<=U*5^k:=Nat.le_mul_of_pos_right _ (Nat.pow_pos ∅);rw[Pv,<-Nat.mul_assoc];lia
def Mb.le {M N:Nat}(h:Mb Ro Co b M)(l:M<=N):Mb Ro Co b N:=λi mi k mk j mj q mq=>bO (h i mi k mk j mj q mq) l
def I3.mb (I:I3 Ro Co P D U k b)(hU:D+4*(P*P)<=U)(l:Lst Ro Co b r c):Mb Ro Co (rnd b r c) (U*5^(k+1)):=
 (Er l.1 l.2.1 l.2.2.1 (show _<=P by have:=I.low l;lia) I.2.1 I.1).le (grow hU)
def I3.step (n:Ro.length<=3)(m:Co.length<=3)(I:I3 Ro Co P D U k b)(hU:D+4*(P*P)<=U)(l:Lst Ro Co b r c)(o:Opn Ro Co b r c):I3 Ro Co P D U (k+1) (rnd b r c):=by
 refine⟨Fh n m l.1 l.2.1 I.1,I.mb hU l,?_⟩;obtain⟨i,mi,j,mj,h,lt⟩:=o.small l.2.2.1 l.1 l.2.1;have:=I.low l;exact⟨i,mi,j,mj,h,∅⟩
def I3.ent (I:I3 Ro Co P D U k b)(l:Lst Ro Co b r c)(mi:i∈Ro)(mj:j∈Co):(rnd b r c i j).natAbs<=U*5^k+P*P+P:=
 zod l.1 l.2.1 l.2.2.1 (by have:=I.low l;lia) I.2.1 mi mj
end
def zgf {x z:Int}(hz:0<z)(h:z<=x):2*(x.fmod z).natAbs<=x.natAbs:=by
 have h1:=Zk x hz;have h2:=Int.fmod_lt_of_pos x hz;have e:=Ud x z;have q:1<=x.fdiv z:=by
  rcases Pt (x.fdiv z) 1 with h3|h3
  ·have:z*x.fdiv z<=z*0:=qdj ∅ ∅;lia
  ·exact h3
 have:z*1<=z*x.fdiv z:=qdj q ∅;lia
def sgn {x z:Int}(h:0<=x*z)(hz:z≠0)(hx:x≠0):(0<z/\0<x)\/(z<0/\x<0):=by
 rcases Ml hz with h1|h1<;>rcases Ml hx with h2|h2
 ·exact .inr ⟨h1,h2⟩
 ·have:=qdk h2 h1;lia
 ·have:=qdl h2 h1;lia
 ·exact .inl ⟨h1,h2⟩
def zh4 {x z:Int}(s:0<=x*z)(hz:z≠0)(h:z.natAbs<=x.natAbs):2*(x.fmod z).natAbs<=x.natAbs:=by
 rcases sgn s hz (by intro e;subst e;simp at h;exact hz h)with⟨h1,h2⟩|⟨h1,h2⟩
 ·exact zgf h1 ∅
 ·have:=zgf (x:= -x) (z:= -z) ∅ ∅;rw[Int.neg_fmod_neg,iS,iS]at this;exact this
def Dd (x:Int)(h:p≠0):0<=p*x.fmod p:=by
 rcases Ml h with h1|h1
 ·have e2:x.fmod p= -((-x).fmod (-p)):=by rw[Int.neg_fmod_neg];lia
  have:=Zk (-x) (show 0< -p by lia);rw[e2];exact qdm ∅ ∅
 ·exact Xc ∅ (Zk x h1)
def znm {x z:Int}(e:x.fmod z=0)(h:z.natAbs<x.natAbs):2*z.natAbs<=x.natAbs:=by
 have f:=Ud x z;rw[e,Ox]at f;rw[<-f,kX]at h ⊢;have:2<=(x.fdiv z).natAbs:=by
  rcases Dt (x.fdiv z).natAbs 2 with h3|h3
  ·have:z.natAbs*(x.fdiv z).natAbs<=z.natAbs*1:=Pq _ ∅;lia
  ·exact h3
 have:=Pq z.natAbs this;lia
section
variable {b:Nat->Nat->Int}{r c r' c':Nat}{Ro Co:AA Nat}
def Lst.cross (l:Lst Ro Co b r c)(o:Opn Ro Co b r c)(l':Lst Ro Co (rnd b r c) r' c')(h:(∃i,i∈Ro/\i≠r/\x=b i c)\/(∃j,j∈Co/\j≠c/\x=b r j))(s:0<=x*b r c)(lt:(b r c).natAbs<x.natAbs):2*(rnd b r c r' c').natAbs<=x.natAbs:=by
 have f:=l.fall o l';have hh:=zh4 s l.2.2.1 (kY lt)
 by_cases z:x.fmod (b r c)=0
 ·have:=znm z lt;lia
 ·have:(rnd b r c r' c').natAbs<=(x.fmod (b r c)).natAbs:=by
   rcases h with⟨i,mi,hi,rfl⟩|⟨j,mj,hj,rfl⟩
   ·have e:rnd b r c i c=(b i c).fmod (b r c):=by rw[iV hi,pN]
    rw[<-e];exact l'.2.2.2 i mi c l.2.1 (by rw[e];exact z)
   ·have e:rnd b r c r j=(b r j).fmod (b r c):=by rw[hW hj,pN]
    rw[<-e];exact l'.2.2.2 r l.1 j mj (by rw[e];exact z)
  lia
end
section
variable {b:Nat->Nat->Int}{r c r1 c1 r2 c2 r3 c3:Nat}{Ro Co:AA Nat}
def Xj (n:l.length<=2){b d:Nat}(ha:a∈l)(hb:b∈l)(hd:d∈l):a=b\/d=a\/d=b:=by
 match l,n with
 |[],_=>simp at ha
 |[x],_=>simp at ha hb hd;lia
 |[x,y],_=>simp at ha hb hd;lia
 |_::_::_::_,n=>simp at n
def Ko {p y t s:Int}(e:y*p'-t'*s'=y*p-t*s)(hy:y≠0)(hp:p*y<0)(ht:t≠0->y.natAbs<=t.natAbs)(hs:s≠0->y.natAbs<=s.natAbs)(ht':t'.natAbs<y.natAbs)(hs':s'.natAbs<y.natAbs)(t0:t=0->t'=0)(s0:s=0->s'=0)(st:0<=t*s)(st':0<=t'*s'):p.natAbs<=p'.natAbs:=by
 have h1:(t'*s').natAbs<=(t*s).natAbs:=by
  by_cases a:t=0
  ·rw[t0 a];simp
  by_cases a2:s=0
  ·rw[s0 a2];simp
  rw[kX,kX];exact Nat.mul_le_mul (by have:=ht a;lia) (by have:=hs a2;lia)
 rw[qX p y]at hp;have h2:(y*p).natAbs<=(y*p').natAbs:=by
  generalize t*s=u at*
  generalize t'*s'=u' at*
  generalize y*p=v at*
  generalize y*p'=v' at*
  lia
 rw[kX,kX]at h2;exact Nat.le_of_mul_le_mul_left h2 ∅
def Wv {x z:Int}(h:x=0):x.fmod z=0:=by subst h;simp
def Ze {p t s:Int}(hp:p≠0)(h1:0<=p*t)(h2:0<=p*s):0<=t*s:=by
 rcases Ml hp with h|h
 ·have a:t<=0:=by
   rcases Pt 0 t with g|g
   ·have:=qdl h g;lia
   ·exact g
  have a2:s<=0:=by
   rcases Pt 0 s with g|g
   ·have:=qdl h g;lia
   ·exact g
  exact qdm a a2
 ·have a:0<=t:=by
   rcases Pt t 0 with g|g
   ·have:=qdk h g;lia
   ·exact g
  have a2:0<=s:=by
   rcases Pt s 0 with g|g
   ·have:=qdk h g;lia
   ·exact g
  exact Xc a a2
def Si (n:Ro.length<=2)(m:Co.length<=2)(l0:Lst Ro Co b r c)(o0:Opn Ro Co b r c)(e1:b1=rnd b r c)(l1:Lst Ro Co b1 r1 c1)(o1:Opn Ro Co b1 r1 c1)(e2:b2=rnd b1 r1 c1)(l2:Lst Ro Co b2 r2 c2)(o2:Opn Ro Co b2 r2 c2)(e3:b3=rnd b2 r2 c2)(l3:Lst Ro Co b3 r3 c3):2*(b3 r3 c3).natAbs<=(b r c).natAbs:=by
 have f0:(b1 r1 c1).natAbs<(b r c).natAbs:=by subst e1;exact l0.fall o0 l1
 have f1:(b2 r2 c2).natAbs<(b1 r1 c1).natAbs:=by subst e2;exact l1.fall o1 l2
 have f2:(b3 r3 c3).natAbs<(b2 r2 c2).natAbs:=by subst e3;exact l2.fall o2 l3
 have h0:=l0.2.2.1;have h1:=l1.2.2.1;have corner:b1 r c=b r c:=by rw[e1,mT]
 have corner2:b2 r1 c1=b1 r1 c1:=by rw[e2,mT]
 have tS:∀i,i≠r->b1 i c=(b i c).fmod (b r c):=λi hi=>by rw[e1,iV hi,pN]
 have sS:∀j,j≠c->b1 r j=(b r j).fmod (b r c):=λj hj=>by rw[e1,hW hj,pN]
 by_cases hr:r1=r
 ·--in the corner's row
  by_cases hc:c1=c
  ·subst hr;subst hc;rw[corner]at f0;lia
  ·have x:=l1.cross o1 (e2 ▸ l2) (x:=b1 r c) (.inr ⟨c,l0.2.1,Ne.symm hc,by rw[hr]⟩) (by rw[hr,corner,sS c1 hc];exact Dd _ h0) (by rw[corner];exact f0);rw[<-e2,corner]at x;lia
 by_cases hc:c1=c
 ·have x:=l1.cross o1 (e2 ▸ l2) (x:=b1 r c) (.inl ⟨r,l0.1,Ne.symm hr,by rw[hc]⟩) (by rw[hc,corner,tS r1 hr];exact Dd _ h0) (by rw[corner];exact f0);rw[<-e2,corner]at x;lia
 have t2:b2 r1 c=(b1 r1 c).fmod (b1 r1 c1):=by rw[e2,hW (Ne.symm hc),pN]
 have s2:b2 r c1=(b1 r c1).fmod (b1 r1 c1):=by rw[e2,iV (Ne.symm hr),pN]
 have lt:b1 r1 c≠0->(b1 r1 c1).natAbs<=(b1 r1 c).natAbs:=λh=>l1.2.2.2 r1 l1.1 c l0.2.1 h
 have ls:b1 r c1≠0->(b1 r1 c1).natAbs<=(b1 r c1).natAbs:=λh=>l1.2.2.2 r l0.1 c1 l1.2.1 h
 have ut:(b1 r1 c).natAbs<(b r c).natAbs:=by rw[e1,iV hr];exact gF h0
 have us:(b1 r c1).natAbs<(b r c).natAbs:=by rw[e1,hW hc];exact gF h0
 have gt:0<=b r c*b1 r1 c:=by rw[tS r1 hr];exact Dd _ h0
 have gs:0<=b r c*b1 r c1:=by rw[sS c1 hc];exact Dd _ h0
 rcases Pt (b r c*b1 r1 c1) 0 with neg|pos
 ·--another sign
  have big:(b r c).natAbs<=(b2 r c).natAbs:=by
   have d:=Ih (b:=b1) (r:=r1) (c:=c1) (i:=r) (j:=c) (Ne.symm hr) (Ne.symm hc);rw[<-e2]at d;unfold m2 at d;rw[corner2,corner]at d;exact Ko (y:=b1 r1 c1) (t:=b1 r1 c) (s:=b1 r c1) (t':=b2 r1 c) (s':=b2 r c1) (p:=b r c) (p':=b2 r c) d h1 neg lt ls
    (by rw[t2,<-pN];exact gF h1) (by rw[s2,<-pN];exact gF h1) (λz=>by rw[t2];exact Wv z) (λz=>by rw[s2];exact Wv z)
    (Ze h0 gt gs) (Ze h1 (by rw[t2];exact Dd _ h1) (by rw[s2];exact Dd _ h1))
  rcases Xj n l0.1 l1.1 l2.1 with a|a|a
  ·exact AH a.symm hr
  ·rcases Xj m l0.2.1 l1.2.1 l2.2.1 with g|g|g
   ·exact AH g.symm hc
   ·subst a;subst g;lia
   ·have x:=l2.cross o2 (e3 ▸ l3) (x:=b2 r1 c1) (.inl ⟨r1,l1.1,by rw[a];exact hr,by rw[g]⟩) (by rw[a,g,corner2,s2];exact Dd _ h1) (by rw[corner2];exact f1);rw[<-e3,corner2]at x;lia
  ·rcases Xj m l0.2.1 l1.2.1 l2.2.1 with g|g|g
   ·exact AH g.symm hc
   ·have x:=l2.cross o2 (e3 ▸ l3) (x:=b2 r1 c1) (.inr ⟨c1,l1.2.1,by rw[g];exact hc,by rw[a]⟩) (by rw[a,g,corner2,t2];exact Dd _ h1) (by rw[corner2];exact f1);rw[<-e3,corner2]at x;lia
   ·subst a;subst g;rw[corner2]at f1;lia
 ·--the same sign
  have key:(b2 r1 c≠0/\2*(b2 r1 c).natAbs<=(b1 r1 c).natAbs)\/(b2 r c1≠0/\2*(b2 r c1).natAbs<=(b1 r c1).natAbs):=by
   rcases o1 with⟨i,mi,hi,h⟩|⟨j,mj,hj,h⟩
   ·rcases Xj n l0.1 l1.1 mi with a|a|a
    ·exact AH a.symm hr
    ·subst a;rw[<-e2]at h;have nz:b1 i c1≠0:=λz=>h (by rw[s2];exact Wv z)
     exact .inr ⟨h,by rw[s2];exact zh4 (Ze h0 gs pos) h1 (ls nz)⟩
    ·exact AH a hi
   ·rcases Xj m l0.2.1 l1.2.1 mj with a|a|a
    ·exact AH a.symm hc
    ·subst a;rw[<-e2]at h;have nz:b1 r1 j≠0:=λz=>h (by rw[t2];exact Wv z)
     exact .inl ⟨h,by rw[t2];exact zh4 (Ze h0 gt pos) h1 (lt nz)⟩
    ·exact AH a hj
  rcases key with⟨nz,q⟩|⟨nz,q⟩
  ·have:=l2.2.2.2 r1 l1.1 c l0.2.1 nz;lia
  ·have:=l2.2.2.2 r l0.1 c1 l1.2.1 nz;lia
end
def bi (x y z:Bool):Int:=(if x then 1 else 0)-(if y&&z then 1 else 0)
def Tj (a b c d e f g h i:Int):Int:=a*(e*i-f*h)-b*(d*i-f*g)+c*(d*h-e*g)
def zpa:∀y0 y1 y2 z0 z1 z2:Bool,∀a b c d e f g h i:Bool,(Tj (bi a y0 z0) (bi b y0 z1) (bi c y0 z2) (bi d y1 z0) (bi e y1 z1) (bi f y1 z2) (bi g y2 z0) (bi h y2 z1) (bi i y2 z2)).natAbs<=3:=by decide+kernel
theorem iB {a:Int}(h:a=0\/a=1):∃A:Bool,a=if A then 1 else 0:=by
 rcases h with rfl|rfl
 ·exact⟨false,rfl⟩
 ·exact⟨true,rfl⟩
def Qn (x y z:Bool):((if x then 1 else 0:Int)-(if y then 1 else 0)*(if z then 1 else 0))=bi x y z:=by cases x<;>cases y<;>cases z<;>rfl
theorem zK {y0 y1 y2 z0 z1 z2 a b c d e f g h i:Int}(hy0:y0=0\/y0=1)(hy1:y1=0\/y1=1)(hy2:y2=0\/y2=1)(hz0:z0=0\/z0=1)(hz1:z1=0\/z1=1)(hz2:z2=0\/z2=1)(ha:a=0\/a=1)(hb:b=0\/b=1)(hc:c=0\/c=1)(hd:d=0\/d=1)(he:e=0\/e=1)(hf:f=0\/f=1)(hg:g=0\/g=1)(hh:h=0\/h=1)(hi:i=0\/i=1):(Tj (a-y0*z0) (b-y0*z1) (c-y0*z2) (d-y1*z0) (e-y1*z1) (f-y1*z2) (g-y2*z0) (h-y2*z1) (i-y2*z2)).natAbs<=3:=by
 obtain⟨Y0,rfl⟩:=iB hy0;obtain⟨Y1,rfl⟩:=iB hy1;obtain⟨Y2,rfl⟩:=iB hy2;obtain⟨Z0,rfl⟩:=iB hz0;obtain⟨Z1,rfl⟩:=iB hz1;obtain⟨Z2,rfl⟩:=iB hz2;obtain⟨A,rfl⟩:=iB ha;obtain⟨B,rfl⟩:=iB hb;obtain⟨C,rfl⟩:=iB hc;obtain⟨D,rfl⟩:=iB hd;obtain⟨E,rfl⟩:=iB he;obtain⟨F,rfl⟩:=iB hf;obtain⟨G,rfl⟩:=iB hg;obtain⟨H,rfl⟩:=iB hh;obtain⟨I,rfl⟩:=iB hi;simp only[Qn];exact zpa Y0 Y1 Y2 Z0 Z1 Z2 A B C D E F G H I
def dD (l' l:AA Nat)(r:Nat):Prop:=∀i,i∈l'->i∈l/\i≠r
def Eb (Ro Co:AA Nat)(b:Nat->Nat->Int)(E:Nat):Prop:=∀i,i∈Ro->∀j,j∈Co->(b i j).natAbs<=E
section
variable {b:Nat->Nat->Int}{r c:Nat}{Ro Co Ro' Co':AA Nat}{M P D E:Nat}
def zoN (l:Lst Ro Co b r c)(h:∀x,(∃i,i∈Ro/\∃j,j∈Co/\x=b i j)->x.fmod (b r c)=0):¬Opn Ro Co b r c:=by
 rintro(⟨i,mi,hi,n⟩|⟨j,mj,hj,n⟩)
 ·rw[iV hi,pN]at n;exact n (h _ ⟨i,mi,c,l.2.1,rfl⟩)
 ·rw[hW hj,pN]at n;exact n (h _ ⟨r,l.1,j,mj,rfl⟩)
def Qw (l:Lst Ro Co b r c)(u:(b r c).natAbs=1):¬Opn Ro Co b r c:=
 zoN l λx _=>by have:=gF (a:=x) l.2.2.1;rw[pN]at this;lia
def zk3 (l:Lst Ro Co b r c)(h:Eb Ro Co b (b r c).natAbs):¬Opn Ro Co b r c:=
 zoN l λx ⟨i,mi,j,mj,e⟩=>by
  by_cases z:x=0
  ·exact Wv z
  ·have h1:=h i mi j mj;have h2:=l.2.2.2 i mi j mj (by rw[<-e];exact z);rw[<-e]at h1 h2;have:b r c∣x:=Int.natAbs_dvd_natAbs.mp ⟨1,∅⟩;exact Int.fmod_eq_zero_of_dvd this
def Cv (o:¬Opn Ro Co b r c)(mi:i∈Ro)(hi:i≠r)(hj:j≠c):b r c*rnd b r c i j=m2 b r i c j:=by
 rw[Ho hi hj];have:rnd b r c i c=0:=Xr λn=>o (.inl ⟨i,mi,hi,n⟩)
 rw[this];simp
def Nr (l:Lst Ro Co b r c)(o:¬Opn Ro Co b r c)(hM:Mb Ro Co b M)(s1:dD Ro' Ro r)(s2:dD Co' Co c)(q:M<(E+1)*(b r c).natAbs):Eb Ro' Co' (rnd b r c) E:=by
 intro i mi j mj;obtain⟨a1,a2⟩:=s1 i mi;obtain⟨g1,g2⟩:=s2 j mj;have e:=Cv o a1 a2 g2;have h:=hM r l.1 i a1 c l.2.1 j g1;rw[<-e,kX]at h;rcases Dt E (rnd b r c i j).natAbs with x|x
 ·have:=Pq (b r c).natAbs (show E+1<=(rnd b r c i j).natAbs from x);rw[Nat.mul_comm]at this;lia
 ·exact x
def Eb.mb (h:Eb Ro Co b E):Mb Ro Co b (2*(E*E)):=by
 intro i mi k mk j mj l ml;unfold m2;have a:=jX (h i mi j mj) (h k mk l ml);have a2:=jX (h i mi l ml) (h k mk j mj);exact bO (Ni a a2) ∅
def Eb.low (h:Eb Ro Co b E)(l:Lst Ro Co b r c):1<=(b r c).natAbs/\(b r c).natAbs<=E:=⟨by have:=l.2.2.1;lia,h r l.1 c l.2.1⟩
theorem Ya (h:∀i,i∈Ro->∀j,j∈Co->b i j=0\/b i j=1)(l:Lst Ro Co b r c):¬Opn Ro Co b r c/\(dD Ro' Ro r->dD Co' Co c->Eb Ro' Co' (rnd b r c) 1/\Db Ro' Co' (rnd b r c) 3):=by
 have one:b r c=1:=(h r l.1 c l.2.1).resolve_left l.2.2.1;have o:=Qw l (by rw[one];rfl);refine⟨o,λs1 s2=>?_⟩;have y:∀i,i∈Ro'->∀j,j∈Co'->rnd b r c i j=b i j-b i c*b r j:=λi mi j mj=>by
  have e:=Cv o (s1 i mi).1 (s1 i mi).2 (s2 j mj).2;unfold m2 at e;rw[one,Int.one_mul,Int.one_mul,qX (b r j)]at e;exact e
 constructor
 ·intro i mi j mj;rw[y i mi j mj];obtain⟨A,a⟩:=iB (h i (s1 i mi).1 j (s2 j mj).1);obtain⟨B,b'⟩:=iB (h i (s1 i mi).1 c l.2.1);obtain⟨C,c'⟩:=iB (h r l.1 j (s2 j mj).1);rw[a,b',c'];cases A<;>cases B<;>cases C<;>decide
 ·intro i mi k mk o' mo j mj l' ml q mq;unfold d3 m2;rw[y i mi j mj,y i mi l' ml,y i mi q mq,y k mk j mj,y k mk l' ml,y k mk q mq,y o' mo j mj,y o' mo l' ml,y o' mo q mq];have hh:=λi (mi:i∈Ro') j (mj:j∈Co')=>h i (s1 i mi).1 j (s2 j mj).1
  exact zK (h i (s1 i mi).1 c l.2.1) (h k (s1 k mk).1 c l.2.1) (h o' (s1 o' mo).1 c l.2.1) (h r l.1 j (s2 j mj).1) (h r l.1 l' (s2 l' ml).1) (h r l.1 q (s2 q mq).1) (hh i mi j mj) (hh i mi l' ml) (hh i mi q mq) (hh k mk j mj) (hh k mk l' ml) (hh k mk q mq) (hh o' mo j mj) (hh o' mo l' ml) (hh o' mo q mq)
def Ge (l:Lst Ro Co b r c)(o:¬Opn Ro Co b r c)(hD:Db Ro Co b D)(s1:dD Ro' Ro r)(s2:dD Co' Co c):Mb Ro' Co' (rnd b r c) D:=by
 intro i mi k mk j mj q mq;have e:=znX (b:=b) (s1 i mi).2 (s1 k mk).2 (s2 j mj).2 (s2 q mq).2;have h:=hD r l.1 i (s1 i mi).1 k (s1 k mk).1 c l.2.1 j (s2 j mj).1 q (s2 q mq).1;rw[<-e]at h;have z:∀j,j∈Co'->rnd b r c r j=0:=λj mj=>Xr λn=>o (.inr ⟨j,(s2 j mj).1,(s2 j mj).2,n⟩)
 unfold d3 at h;rw[z j mj,z q mq,mT,Rp,Rp,Int.sub_zero,Ox]at h;exact zkO l.2.2.1 h
def Qo (h:Eb Ro Co b 1)(hD:Db Ro Co b 3)(l:Lst Ro Co b r c):¬Opn Ro Co b r c/\(dD Ro' Ro r->dD Co' Co c->Eb Ro' Co' (rnd b r c) 2/\Mb Ro' Co' (rnd b r c) 3):=by
 have lo:=h.low l;have o:=Qw l ∅;exact⟨o,λs1 s2=>⟨Nr l o h.mb s1 s2 ∅,Ge l o hD s1 s2⟩⟩
def Uh (h:Eb Ro Co b 2)(hM:Mb Ro Co b 3)(l:Lst Ro Co b r c):¬Opn Ro Co b r c/\(dD Ro' Ro r->dD Co' Co c->Eb Ro' Co' (rnd b r c) 3):=by
 have lo:=h.low l;have o:¬Opn Ro Co b r c:=by
  rcases Dt (b r c).natAbs 2 with g|g
  ·exact Qw l ∅
  ·exact zk3 l (by rw[show(b r c).natAbs=2 by lia];exact h)
 exact⟨o,λs1 s2=>Nr l o hM s1 s2 ∅⟩
def Sr (h:Eb Ro Co b 3)(l:Lst Ro Co b r c):(Opn Ro Co b r c->Eb Ro Co (rnd b r c) 9/\∃i,i∈Ro/\∃j,j∈Co/\(rnd b r c i j).natAbs=1)/\(¬Opn Ro Co b r c->dD Ro' Ro r->dD Co' Co c->Eb Ro' Co' (rnd b r c) 90):=by
 have lo:=h.low l;refine⟨λo=>?_,λo s1 s2=>Nr l o h.mb s1 s2 ∅⟩;have two:(b r c).natAbs=2:=by
  rcases Dt (b r c).natAbs 2 with g|g
  ·exact AH o (Qw l ∅)
  rcases Dt (b r c).natAbs 3 with g'|g'
  ·lia
  ·exact AH o (zk3 l (by rw[show(b r c).natAbs=3 by lia];exact h))
 constructor
 ·intro i mi j mj
  by_cases hi:i=r
  ·subst hi
   by_cases hj:j=c
   ·subst hj;rw[mT];lia
   ·rw[hW hj];have:=gF (a:=b i j) l.2.2.1;lia
  ·by_cases hj:j=c
   ·subst hj;rw[iV hi];have:=gF (a:=b i j) l.2.2.1;lia
   ·have e:=Ho (b:=b) hi hj;have h1:=h.mb r l.1 i mi c l.2.1 j mj;have h2:(rnd b r c i c).natAbs<=1:=by rw[iV hi];have:=gF (a:=b i c) l.2.2.1;lia
    have h3:(rnd b r c r j).natAbs<=1:=by rw[hW hj];have:=gF (a:=b r j) l.2.2.1;lia
    have h4:=jX h2 h3;have h5:=ziZ (m2 b r i c j) (rnd b r c i c*rnd b r c r j);rw[<-e,kX,two]at h5;lia
 ·obtain⟨i,mi,j,mj,n,lt⟩:=o.small l.2.2.1 l.1 l.2.1;exact⟨i,mi,j,mj,∅⟩
def Cw (h:Eb Ro Co b 9)(u:∃i,i∈Ro/\∃j,j∈Co/\(b i j).natAbs=1)(l:Lst Ro Co b r c):¬Opn Ro Co b r c/\(dD Ro' Ro r->dD Co' Co c->Eb Ro' Co' (rnd b r c) 162):=by
 have lo:=h.low l;obtain⟨i,mi,j,mj,e⟩:=u;have:=l.2.2.2 i mi j mj ∅;have o:=Qw l ∅;exact⟨o,λs1 s2=>Nr l o h.mb s1 s2 ∅⟩
end
def Ap (Ro Co:AA Nat):Nat->(Nat->Nat->Int)->Prop
 |0,b=>∀r c,Lst Ro Co b r c->¬Opn Ro Co b r c
 |N+1,b=>∀r c,Lst Ro Co b r c->Opn Ro Co b r c->Ap Ro Co N (rnd b r c)
section
variable {b:Nat->Nat->Int}{r c:Nat}{Ro Co Ro' Co':AA Nat}{E N s:Nat}
def Dw (n:Ro.length<=2)(m:Co.length<=2):∀e b,(∀r c,Lst Ro Co b r c->(b r c).natAbs<2^e)->Ap Ro Co (3*e) b
 |0,b,h=>λr c l _=>by have:=h r c l;have:=l.2.2.1;lia
 |e+1,b,h=>by
  show Ap Ro Co (3*e+1+1+1) b;intro r c l o r1 c1 l1 o1 r2 c2 l2 o2;refine Dw n m e _ λr3 c3 l3=>?_
  have h3:=Si n m l o rfl l1 o1 rfl l2 o2 rfl l3;have:=h r c l;rw[Pv]at this;lia
def Eb.db (h:Eb Ro Co b E):Db Ro Co b (6*(E*E*E)):=by
 intro i mi k mk o mo j mj l ml q mq;unfold d3;have m:=h.mb;have p:∀{x y:Int},x.natAbs<=E->y.natAbs<=2*(E*E)->(x*y).natAbs<=2*(E*E*E):=λ{x y} hx hy=>by
  have:=jX hx hy;have e:E*(2*(E*E))=2*(E*E*E):=by rw[Nat.mul_left_comm,Nat.mul_assoc]
  lia
 have a1:=p (h i mi j mj) (m k mk o mo l ml q mq);have a2:=p (h i mi l ml) (m k mk o mo j mj q mq);have a3:=p (h i mi q mq) (m k mk o mo j mj l ml);exact bO (nF (Ni a1 a2) a3) ∅
def Eb.le (h:Eb Ro Co b E)(l:E<=F):Eb Ro Co b F:=λi mi j mj=>bO (h i mi j mj) l
def Db.le (h:Db Ro Co b E)(l:E<=F):Db Ro Co b F:=λi mi k mk o mo j mj q mq u mu=>bO (h i mi k mk o mo j mj q mq u mu) l
end
def U4:Nat:=25614144
def D4:Nat:=25509168
def E4:Nat:=U4*5^162+26406
def E5:Nat:=U4*5^162
def M5:Nat:=2*(E5*E5)
def F5:Nat:=M5+E5*E5+E5
def Nx (s:Nat):Nat:=if s=3 then 1 else if s=4 then 162 else if s=5 then 1206 else 0
def Ws:E5<2^402:=by decide+kernel
def Dz:F5<2^811:=by decide+kernel
def Xu:E4<2^811:=by decide+kernel
def Ss:D4+4*(162*162)<=U4:=by decide
def Stg (s:Nat)(Ro Co:AA Nat)(b:Nat->Nat->Int)(N:Nat):Prop:=Ro.length<=7-s/\Co.length<=7-s/\match s with
 |0=>N=0/\∀i,i∈Ro->∀j,j∈Co->b i j=0\/b i j=1
 |1=>N=0/\Eb Ro Co b 1/\Db Ro Co b 3
 |2=>N=0/\Eb Ro Co b 2/\Mb Ro Co b 3
 |3=>(N=1/\Eb Ro Co b 3)\/(N=0/\Eb Ro Co b 9/\∃i,i∈Ro/\∃j,j∈Co/\(b i j).natAbs=1)
 |4=>∃k,N+k=162/\Db Ro Co b D4/\Mb Ro Co b (U4*5^k)/\Eb Ro Co b E4/\(k=0->Eb Ro Co b 162)/\(0<k->∃i,i∈Ro/\∃j,j∈Co/\b i j≠0/\(b i j).natAbs+k<=162)
 |5=>Mb Ro Co b M5/\Eb Ro Co b F5/\Ap Ro Co N b/\∀r c,Lst Ro Co b r c->(b r c).natAbs<=E5
 |6=>N=0/\Eb Ro Co b M5
 |_=>N=0
section
variable {b:Nat->Nat->Int}{r c:Nat}{Ro Co Ro' Co':AA Nat}{E N s:Nat}
def Stg.ent (h:Stg s Ro Co b N):Eb Ro Co b (2^811):=by
 obtain⟨h1,h2,h⟩:=h;have f:=Dz
 match s,h with
 |0,h=>exactλi mi j mj=>by rcases h.2 i mi j mj with e|e<;>(rw[e];decide+kernel)
 |1,h=>exact h.2.1.le (by decide+kernel)
 |2,h=>exact h.2.1.le (by decide+kernel)
 |3,h=>
  rcases h with h|h
  ·exact h.2.le (by decide+kernel)
  ·exact h.2.1.le (by decide+kernel)
 |4,h=>obtain⟨k,_,_,_,h,_⟩:=h;exact h.le (kY Xu)
 |5,h=>exact h.2.1.le (kY Dz)
 |6,h=>exact h.2.le (by unfold F5 at f;lia)
 |s+7,h=>
  intro i mi;have:Ro=[]:=List.length_eq_zero_iff.mp ∅;subst this;exact AH mi Bj
def Rc (h:k<=162):U4*5^k<=E5:=Pq _ (qc6 (by decide) h)
def Stg.step (S:Stg s Ro Co b N)(l:Lst Ro Co b r c):(Opn Ro Co b r c->∃N',N=N'+1/\Stg s Ro Co (rnd b r c) N')/\
  (¬Opn Ro Co b r c->∀Ro' Co',dD Ro' Ro r->dD Co' Co c->Ro'.length<=6-s->Co'.length<=6-s->Stg (s+1) Ro' Co' (rnd b r c) (Nx (s+1))):=by
 obtain⟨h1,h2,S⟩:=S;have lr:0<Ro.length:=List.length_pos_of_mem l.1
 match s,S,h1,h2 with
 |0,S,h1,h2=>
  obtain⟨e,S⟩:=S;refine⟨λo=>?_,λo Ro' Co' s1 s2 l1 l2=>?_⟩
  ·exact AH o (Ya (Ro':=[]) (Co':=[]) S l).1
  ·have:=(Ya (Ro':=Ro') (Co':=Co') S l).2 s1 s2;exact⟨l1,l2,rfl,this⟩
 |1,S,h1,h2=>
  obtain⟨e,S,D⟩:=S;refine⟨λo=>?_,λo Ro' Co' s1 s2 l1 l2=>?_⟩
  ·exact AH o (Qo (Ro':=[]) (Co':=[]) S D l).1
  ·exact⟨l1,l2,rfl,(Qo (Ro':=Ro') (Co':=Co') S D l).2 s1 s2⟩
 |2,S,h1,h2=>
  obtain⟨e,S,D⟩:=S;refine⟨λo=>?_,λo Ro' Co' s1 s2 l1 l2=>?_⟩
  ·exact AH o (Uh (Ro':=[]) (Co':=[]) S D l).1
  ·exact⟨l1,l2,.inl ⟨rfl,(Uh (Ro':=Ro') (Co':=Co') S D l).2 s1 s2⟩⟩
 |3,S,h1,h2=>
  have go:∀{Ro' Co':AA Nat},Ro'.length<=6-3->Co'.length<=6-3->Eb Ro' Co' (rnd b r c) 162->Stg 4 Ro' Co' (rnd b r c) (Nx 4):=λ{Ro' Co'} l1 l2 e=>
   ⟨l1,l2,0,rfl,e.db.le (by decide),e.mb.le (by decide),e.le (by decide+kernel),λ_=>e,λh=>AH h (by decide)⟩
  rcases S with⟨e,S⟩|⟨e,S,u⟩
  ·refine⟨λo=>?_,λo Ro' Co' s1 s2 l1 l2=>?_⟩
   ·obtain⟨g1,g2⟩:=(Sr (Ro':=[]) (Co':=[]) S l).1 o;exact⟨0,e,h1,h2,.inr ⟨rfl,g1,g2⟩⟩
   ·exact go l1 l2 (((Sr (Ro':=Ro') (Co':=Co') S l).2 o s1 s2).le (by decide))
  ·refine⟨λo=>?_,λo Ro' Co' s1 s2 l1 l2=>?_⟩
   ·exact AH o (Cw (Ro':=[]) (Co':=[]) S u l).1
   ·exact go l1 l2 ((Cw (Ro':=Ro') (Co':=Co') S u l).2 s1 s2)
 |4,S,h1,h2=>
  obtain⟨k,e,D,M,En,k0,k1⟩:=S;have I:I3 Ro Co 162 D4 U4 k b:=by
   refine⟨D,M,?_⟩
   by_cases h:k=0
   ·exact⟨r,l.1,c,l.2.1,l.2.2.1,by have:=k0 h r l.1 c l.2.1;lia⟩
   ·exact k1 ∅
  refine⟨λo=>?_,λo Ro' Co' s1 s2 l1 l2=>?_⟩
  ·obtain⟨D',M',u⟩:=I.step ∅ ∅ Ss l o;have low:=u;obtain⟨i,mi,j,mj,nz,le⟩:=low;refine⟨N-1,∅,h1,h2,k+1,∅,D',M',λi mi j mj=>?_,λh=>∅,λ_=>u⟩;have:=I.ent l mi mj;have m5:=Rc (k:=k) ∅;unfold E4;unfold E5 at m5;lia
  ·have m5:=Rc (k:=k) ∅;have e5:Eb Ro' Co' (rnd b r c) E5:=Nr l o M s1 s2 (by
    have:1<=(b r c).natAbs:=by have:=l.2.2.1;lia
    have:=Pq (E5+1) this;lia)
   refine⟨l1,l2,e5.mb,e5.le (by unfold F5;lia),Dw l1 l2 402 _ λr c l=>?_,λr c l=>e5 r l.1 c l.2.1⟩;exact Ea (e5 r l.1 c l.2.1) Ws
 |5,S,h1,h2=>
  obtain⟨M,En,Lf,co⟩:=S;refine⟨λo=>?_,λo Ro' Co' s1 s2 l1 l2=>?_⟩
  ·cases N with
   |zero=>exact AH o (Lf r c l)
   |succ N=>
    refine⟨N,rfl,h1,h2,wO ∅ ∅ l.1 l.2.1 M,λi mi j mj=>zod l.1 l.2.1 l.2.2.1 (co r c l) M mi mj,Lf r c l o,λr' c' l'=>?_⟩;have:=l.fall o l';have:=co r c l;lia
  ·refine⟨l1,l2,rfl,Nr l o M s1 s2 ?_⟩;have:1<=(b r c).natAbs:=by have:=l.2.2.1;lia
   have:=Pq (M5+1) this;lia
 |6,S,h1,h2=>
  have one:∀{l:AA Nat} {x y:Nat},l.length<=1->x∈l->y∈l->x=y:=λ{l x y} h hx hy=>by
   match l,h with
   |[],_=>simp at hx
   |[a],_=>simp at hx hy;lia
   |_::_::_,h=>simp at h
  refine⟨λo=>?_,λo Ro' Co' s1 s2 l1 l2=>⟨l1,l2,rfl⟩⟩;rcases o with⟨i,mi,hi,_⟩|⟨j,mj,hj,_⟩
  ·exact AH (one ∅ mi l.1) hi
  ·exact AH (one ∅ mj l.2.1) hj
 |s+7,S,h1,h2=>lia
end
def oF (h:x.natAbs<=2^e)(he:e<59999999):x.natAbs.log2<60000000:=by
 by_cases h0:x.natAbs=0
 ·rw[h0];decide
 ·have h1:x.natAbs<2^(e+1):=by rw[Pv];have:=Nat.two_pow_pos e;lia
  have:=(Nat.log2_lt h0).mpr h1;lia
def fF {e:Nat}(hx:x.natAbs<=2^a)(hy:y.natAbs<=2^e)(ha:a<59999999)(he:e<59999999):jF x y=true:=by
 unfold jF;rw[fL (oF hx ha),fL (oF hy he)];rfl
def Ao (h0:x≠0)(h:x.natAbs<=2^811):Tz x=true:=by
 unfold Tz;have h1:x.natAbs<2^812:=by rw[show(2:Nat)^812=2^811*2 from rfl];have:=Nat.two_pow_pos 811;lia
 have:x.natAbs.log2<9000:=by have:=(Nat.log2_lt (show x.natAbs≠0 by lia)).mpr h1;lia
 rw[fL h0,fL this];rfl
def Oy (x:Int)(h:p≠0):(x.fdiv p).natAbs<=x.natAbs:=by
 have pos:∀x p:Int,0<p->(x.fdiv p).natAbs<=x.natAbs:=λx p h=>by
  rw[qaL x ∅];exact Int.natAbs_ediv_le_natAbs x p
 rcases Ml h with h|h
 ·have:=pos (-x) (-p) ∅;rwa[Int.neg_fdiv_neg,iS]at this
 ·exact pos x p h
def dE (b:Mx)(r c:Nat)(l:AA Nat):Mx:=λi j=>if i∈l then b i j-(b i c).fdiv (b r c)*b r j else b i j
def eW (b:Mx)(r c:Nat)(l:AA Nat):Mx:=λi j=>if j∈l then b i j-(b r j).fdiv (b r c)*b i c else b i j
def Bn (e t n:Nat)(w v k:Mx):Prop:=(∀i j,i<t->j<t->(w i j).natAbs<=2^e)/\(∀i j,i<n->j<n->(v i j).natAbs<=2^e)/\∀i j,i<n->j<n->(k i j).natAbs<=2^e
def Qi (hx:x.natAbs<=2^e)(hy:y.natAbs<=2^e)(hq:q.natAbs<=2^811):(x-q*y).natAbs<=2^(e+812):=by
 have h1:=jX hq hy;have h2:(2:Nat)^(e+812)=2^811*2^e+2^811*2^e:=by
  rw[Uo,show(2:Nat)^812=2^811+2^811 by decide,Nat.mul_add,Nat.mul_comm]
 have h3:2^e<=2^811*2^e:=qdg _ (Nat.two_pow_pos 811);rw[h2];exact Ni (bO hx h3) h1
def jE {e f:Nat}(h:e<=f):(2:Nat)^e<=2^f:=qc6 (by decide) h
section
variable {t n e f r o c:Nat}{A b w v k:Mx}{q:Int}{s:AA (Nat×Nat)}
def Bn.le (h:Bn e t n w v k)(l:e<=f):Bn f t n w v k:=⟨λi j hi hj=>bO (h.1 i j hi hj) (jE l),λi j hi hj=>bO (h.2.1 i j hi hj) (jE l),λi j hi hj=>bO (h.2.2 i j hi hj) (jE l)⟩
def zjh (h:∀i j,i<m->j<f->(w i j).natAbs<=2^e)(ho:o<m)(hq:q.natAbs<=2^811):∀i j,i<m->j<f->(fD w r o q i j).natAbs<=2^(e+812):=λi j hi hj=>by
 unfold fD
 split
 ·rename_i z;rw[<-z];exact Qi (h i j hi hj) (h o j ho hj) hq
 ·exact bO (h i j hi hj) (jE ∅)
def Bn.row (h:Bn e t n w v k)(ho:o<t)(hq:q.natAbs<=2^811):Bn (e+812) t n (fD w r o q) v k:=
 ⟨zjh h.1 ho hq,λi j hi hj=>bO (h.2.1 i j hi hj) (jE ∅),λi j hi hj=>bO (h.2.2 i j hi hj) (jE ∅)⟩
def Bn.col (h:Bn e t n w v k)(hc:c<n)(ho:o<n)(hq:q.natAbs<=2^811):Bn (e+812) t n w (fD v c o q) (fD k o c (-q)):=
 ⟨λi j hi hj=>bO (h.1 i j hi hj) (jE ∅),zjh h.2.1 ho hq,zjh h.2.2 hc (by rw[iS];exact hq)⟩
def zn2 (hr:r∉l)(ho:o∉l)(hor:o≠r):fD (dE b r c l) o r ((dE b r c l o c).fdiv (dE b r c l r c))=dE b r c (l++[o]):=by
 have e:∀i j,i∉l->dE b r c l i j=b i j:=λi j h=>by unfold dE;rw[if_neg h]
 funext i j
 unfold fD;rw[e o c ho,e r c hr,e o j ho,e r j hr]
 by_cases h:i=o
 ·subst h;rw[if_pos rfl];unfold dE;rw[if_pos (by simp)]
 ·rw[if_neg h];unfold dE
  by_cases h2:i∈l
  ·rw[if_pos h2,if_pos (by simp[h2])]
  ·rw[if_neg h2,if_neg (by simp[h2,h])]
def zn8 (hc:c∉l)(ho:o∉l)(hoc:o≠c):Pr (eW b r c l) o c ((eW b r c l r o).fdiv (eW b r c l r c))=eW b r c (l++[o]):=by
 have e:∀i j,j∉l->eW b r c l i j=b i j:=λi j h=>by unfold eW;rw[if_neg h]
 funext i j
 unfold Pr;rw[e r o ho,e r c hc,e i o ho,e i c hc]
 by_cases h:j=o
 ·subst h;rw[if_pos rfl];unfold eW;rw[if_pos (by simp)]
 ·rw[if_neg h];unfold eW
  by_cases h2:j∈l
  ·rw[if_pos h2,if_pos (by simp[h2])]
  ·rw[if_neg h2,if_neg (by simp[h2,h])]
def Pn (s:Sl):Prop:=∀x,lV s x=true
def zmL:Pn .emp:=λx=>by cases x<;>rfl
def Wo (d:D):Pn (.val d):=λx=>by cases x<;>rfl
theorem vF (t1:1<=t)(n1:1<=n)(t7:t<=7)(n7:n<=7)(I:Inv t n A b w v k)(B:Bn e t n w v k)(he:e<=30000000)(eb:∀i,i<t->∀j,j<n->(b i j).natAbs<=2^811)(hr:r<t)(hc:c<n)(nz:b r c≠0){l:AA Nat}(nd:l.Nodup)(lt:∀o∈l,o<t)(hrl:r∉l)(ll:l.length<=7)(d4:D)(s5:Sl)(p5:Pn s5){Q:Fl×R->Prop}(hq:∀w' s5,Pn s5->Inv t n A (dE b r c l) w' v k->Bn (e+5684) t n w' v k->Q (.next,[oT t n (dE b r c l) w' v k s,.val (.int (r:Nat)),.val (.int (c:Nat)),.val (.lst (l.map λi=> .int (i:Nat))),.val d4,s5])):
  Ok (zb4 [oT t n b w v k s,.val (.int (r:Nat)),.val (.int (c:Nat)),.val (.lst (l.map λi=> .int (i:Nat))),.val d4,s5]) Q:=by
 simp![↓zb4];refine Xw (enc:=λi:Nat=>D.int (i:Nat)) (l:=l) (λi ρ=>∃w' s5,Pn s5/\Inv t n A (dE b r c (l.take i)) w' v k/\Bn (e+812*i) t n w' v k/\ρ=[oT t n (dE b r c (l.take i)) w' v k s,.val (.int (r:Nat)),.val (.int (c:Nat)),.val (.lst (l.map λi=> .int (i:Nat))),.val d4,s5]) ⟨w,s5,p5,?_,B,?_⟩ ?_ ?_
 ·have:dE b r c (l.take 0)=b:=by funext i j;unfold dE;simp
  rw[this];exact I
 ·have:dE b r c (l.take 0)=b:=by funext i j;unfold dE;simp
  rw[this]
 ·rintro i o _ hi ⟨w',s5,p5,I',B',rfl⟩;have hil:i<l.length:=(qat.mp hi).1;have ho:o∈l:=dY hi;have hot:=lt o ho;have hor:o≠r:=λz=>hrl (z ▸ ho)
  have hrt:r∉l.take i:=λz=>hrl (qcS z)
  have hoi:o∉l.take i:=λz=>by
   obtain⟨j,hj,e⟩:=qcO.mp z;simp only[yA]at hj;rw[List.getElem_take]at e;have e2:l[i]'hil=o:=(qat.mp hi).2;have:=(qau nd).mp (e.trans e2.symm);lia
  have eq0:∀i' j,i'∉l.take i->dE b r c (l.take i) i' j=b i' j:=λi' j h=>by unfold dE;rw[if_neg h]
  have qb:((b o c).fdiv (b r c)).natAbs<=2^811:=bO (Oy _ nz) (eb o hot c hc);have st:=zn2 (b:=b) (c:=c) hrt hoi hor;rw[eq0 o c hoi,eq0 r c hrt]at st;have tk:l.take (i+1)=l.take i++[o]:=by rw[Qg,hi];rfl
  simp![↓zdT];rw[zix rfl rfl];simp![];rw[xC rfl rfl (lS t1 n1)];simp![g0,bZ _ hot,bZ _ hr,bZ _ hc,eq0 o c hoi,eq0 r c hrt];refine⟨Ao nz (eb r hr c hc),⟨rfl,rfl⟩,?_⟩;refine(zlI t1 n1 ∅ ∅ hot hr (λj hj=>?_) (λj hj=>?_)).mono ?_
  ·rw[eq0 r j hrt];exact fF qb (eb r hr j hj) ∅ ∅
  ·exact fF qb (B'.1 r j hr hj) ∅ ∅
  rintro _ rfl;simp![];rw[st,tk];refine⟨_,_,Wo _,?_,?_,rfl⟩
  ·rw[<-st];exact I'.row hot hr hor _
  ·exact(B'.row hr qb).le ∅
 ·rintro _ ⟨w',s5,p5,I',B',rfl⟩;rw[Pz]at*;exact hq w' s5 p5 I' (B'.le ∅)
theorem uW (t1:1<=t)(n1:1<=n)(t7:t<=7)(n7:n<=7)(I:Inv t n A b w v k)(B:Bn e t n w v k)(he:e<=30000000)(eb:∀j,j<n->(b r j).natAbs<=2^811)(ec:∀i,i<t->(b i c).natAbs<=2^2000)(hr:r<t)(hc:c<n)(nz:b r c≠0){l:AA Nat}(nd:l.Nodup)(lt:∀o∈l,o<n)(hcl:c∉l)(ll:l.length<=7)(d3:D)(s5:Sl)(p5:Pn s5){Q:Fl×R->Prop}(hq:∀v' k' s5,Pn s5->Inv t n A (eW b r c l) w v' k'->Bn (e+5684) t n w v' k'->Q (.next,[oT t n (eW b r c l) w v' k' s,.val (.int (r:Nat)),.val (.int (c:Nat)),.val d3,.val (.lst (l.map λi=> .int (i:Nat))),s5])):
  Ok (zb6 [oT t n b w v k s,.val (.int (r:Nat)),.val (.int (c:Nat)),.val d3,.val (.lst (l.map λi=> .int (i:Nat))),s5]) Q:=by
 simp![↓zb6];refine Xw (enc:=λi:Nat=>D.int (i:Nat)) (l:=l) (λi ρ=>∃v' k' s5,Pn s5/\Inv t n A (eW b r c (l.take i)) w v' k'/\Bn (e+812*i) t n w v' k'/\ρ=[oT t n (eW b r c (l.take i)) w v' k' s,.val (.int (r:Nat)),.val (.int (c:Nat)),.val d3,.val (.lst (l.map λi=> .int (i:Nat))),s5]) ⟨v,k,s5,p5,?_,B,?_⟩ ?_ ?_
 ·have:eW b r c (l.take 0)=b:=by funext i j;unfold eW;simp
  rw[this];exact I
 ·have:eW b r c (l.take 0)=b:=by funext i j;unfold eW;simp
  rw[this]
 ·rintro i o _ hi ⟨v',k',s5,p5,I',B',rfl⟩;have hil:i<l.length:=(qat.mp hi).1;have ho:o∈l:=dY hi;have hot:=lt o ho;have hoc:o≠c:=λz=>hcl (z ▸ ho)
  have hct:c∉l.take i:=λz=>hcl (qcS z)
  have hoi:o∉l.take i:=λz=>by
   obtain⟨j,hj,e⟩:=qcO.mp z;simp only[yA]at hj;rw[List.getElem_take]at e;have e2:l[i]'hil=o:=(qat.mp hi).2;have:=(qau nd).mp (e.trans e2.symm);lia
  have eq0:∀i' j,j∉l.take i->eW b r c (l.take i) i' j=b i' j:=λi' j h=>by unfold eW;rw[if_neg h]
  have qb:((b r o).fdiv (b r c)).natAbs<=2^811:=bO (Oy _ nz) (eb o hot);have st:=zn8 (b:=b) (r:=r) hct hoi hoc;rw[eq0 r o hoi,eq0 r c hct]at st;have tk:l.take (i+1)=l.take i++[o]:=by rw[Qg,hi];rfl
  simp![↓zdQ];rw[zix rfl rfl];simp![];rw[xC rfl rfl (lS t1 n1)];simp![g0,bZ _ hot,bZ _ hr,bZ _ hc,eq0 r o hoi,eq0 r c hct];refine⟨Ao nz (eb c hc),⟨rfl,rfl⟩,?_⟩;refine(ziP t1 n1 ∅ ∅ hot hc (λj hj=>?_) (λj hj=>?_) (λj hj=>?_)).mono ?_
  ·rw[eq0 j c hct];exact fF qb (ec j hj) ∅ ∅
  ·exact fF qb (B'.2.1 c j hc hj) ∅ ∅
  ·exact fF (by rw[iS];exact qb) (B'.2.2 o j hot hj) ∅ ∅
  rintro _ rfl;simp![];rw[st,tk];refine⟨_,_,_,Wo _,?_,?_,rfl⟩
  ·rw[<-st];exact I'.col hot hc hoc _
  ·exact(B'.col hot hc qb).le ∅
 ·rintro _ ⟨v',k',s5,p5,I',B',rfl⟩;rw[Pz]at*;exact hq v' k' s5 p5 I' (B'.le ∅)
end
def rest (l:AA Nat)(r:Nat):AA Nat:=l.filter λi=>i !=r
def zpg (l:AA Nat)(r:Nat):l.filterMap (λi=>if i=r then none else some (D.int (i:Nat)))=(rest l r).map λi=>D.int (i:Nat):=by
 unfold rest;rw[<-Po,<-Py,Xa];exact Hi _ λi _=>by by_cases h:i=r<;>simp[h,Option.guard]
def iF (b:Mx)(r c:Nat)(Ro Co:AA Nat):Mx:=eW (dE b r c (rest Ro r)) r c (rest Co c)
def zmD (l:AA Nat):(l.map λi=>D.int (i:Nat)).all Cu=true:=by
 rw[qbZ];intro d hd;obtain⟨i,_,rfl⟩:=qb0.mp hd
 rfl
section
variable {t n e r c:Nat}{A b w v k:Mx}{s:AA (Nat×Nat)}
def mem_rest {r i:Nat}:i∈rest l r↔i∈l/\i≠r:=by unfold rest;rw[qah];simp
def Hr (l:AA Nat)(r:Nat):r∉rest l r:=λh=>(mem_rest.mp h).2 rfl
def zoO (h:l.Nodup)(r:Nat):(rest l r).Nodup:=Yx _ h
def Md (t:Nat)(s:AA (Nat×Nat)):(opR t s).Nodup:=Yx _ List.nodup_range
def Ma (t:Nat)(s:AA (Nat×Nat)):(opC t s).Nodup:=Yx _ List.nodup_range
def Ny (hi:i∈Ro)(hj:j∈Co):iF b r c Ro Co i j=rnd b r c i j:=by
 have rr:∀j,dE b r c (rest Ro r) r j=b r j:=λj=>by unfold dE;rw[if_neg (Hr _ _)]
 unfold iF eW;rw[rr,rr]
 by_cases h1:i=r
 ·subst h1;rw[rr,rr]
  by_cases h2:j=c
  ·subst h2;rw[if_neg (Hr _ _),mT]
  ·rw[if_pos (mem_rest.mpr ⟨hj,h2⟩),hW h2]
 ·have ri:∀j,dE b r c (rest Ro r) i j=b i j-(b i c).fdiv (b r c)*b r j:=λj=>by unfold dE;rw[if_pos (mem_rest.mpr ⟨hi,h1⟩)]
  rw[ri,ri]
  by_cases h2:j=c
  ·subst h2;rw[if_neg (Hr _ _),iV h1]
  ·rw[if_pos (mem_rest.mpr ⟨hj,h2⟩),Nm h1 h2]
def Bk (s:AA (Nat×Nat))(r c:Nat)(h:∀p∈s,p.1≠r):gJ (sk s).1 (sk s).2 (r:Int) (.int (c:Nat))=sk (s++[(r,c)]):=by
 unfold gJ;have:(sk s).1.contains (r:Int)=false:=by
  cases q:(sk s).1.contains (r:Int)with
  |false=>rfl
  |true=>
   obtain⟨p,hp,e⟩:=qb0.mp (qcL.mp q);exact AH (by have e:((p.1:Nat):Int)=r:=e;lia) (h p hp)
 rw[this];simp[sk]
def zk1 (l:AA Nat)(f:Nat->Int):eG (l.map λi=> .int (f i))=some (l.map f):=by
 have:(l.map λi=>D.int (f i))=(l.map f).map .int:=by rw[gC];rfl
 rw[this,Yc]
theorem ziI (t1:1<=t)(n1:1<=n)(t7:t<=7)(n7:n<=7)(I:Inv t n A b w v k)(B:Bn e t n w v k)(he:e<=20000000)(eb:∀i,i<t->∀j,j<n->(b i j).natAbs<=2^811)(hd:s.Pairwise λp q=>p.1≠q.1)(hs:s.length<=7)(hr:r∈opR t s)(hc:c∈opC n s)(nz:b r c≠0):
  Ok (Rk [oT t n b w v k s,.val (.int (r:Nat)),.val (.int (c:Nat))]) λx=>∃w' v' k' s',Inv t n A (iF b r c (opR t s) (opC n s)) w' v' k'/\Bn (e+11368) t n w' v' k'/\x=(.val .non,[oT t n (iF b r c (opR t s) (opC n s)) w' v' k' s',.emp,.emp])/\
   ((Opn (opR t s) (opC n s) b r c/\s'=s)\/(¬Opn (opR t s) (opC n s) b r c/\s'=s++[(r,c)])):=by
 have hrt:=uP hr;have hcn:=xP hc;have lR:(rest (opR t s) r).length<=7:=bO (Ab _ _) (bO (zj8 t s) t7);have lC:(rest (opC n s) c).length<=7:=bO (Ab _ _) (bO (zjs n s) n7);simp![↓Rk,↓zdG];rw[zlf rfl rfl (lS t1 n1)];simp![↓zd8];rw[Os rfl];simp![];refine(zhi ∅).mono ?_;rintro _ rfl;simp![];refine⟨by have:=zj8 t s;lia,Wq (enc:=λi:Nat=>D.int (i:Nat)) (λρ=>∃y,ρ=[.val (.int (r:Nat)),y]) (λi=>if i=r then none else some (D.int (i:Nat))) ⟨_,rfl⟩ ?_ ?_⟩
 ·rintro i _ hi ⟨y,rfl⟩;simp![↓zdW,↓zdV];refine⟨λh=>⟨?_,_,rfl⟩,λh=>⟨?_,_,rfl⟩⟩
  ·rw[if_neg ∅]
  ·rw[if_pos ∅]
 rintro _ ⟨y,rfl⟩;simp![zpg];refine⟨⟨zmD _,rfl⟩,?_⟩;rw[zlf rfl rfl (lS t1 n1)];simp![↓zd7];rw[Os rfl];simp![];refine(zen ∅ ∅ hd).mono ?_;rintro _ rfl;simp![];refine⟨by have:=zjs n s;lia,Wq (enc:=λi:Nat=>D.int (i:Nat)) (λρ=>∃y,ρ=[.val (.int (c:Nat)),y]) (λi=>if i=c then none else some (D.int (i:Nat))) ⟨_,rfl⟩ ?_ ?_⟩
 ·rintro i _ hi ⟨y,rfl⟩;simp![↓zdX,↓zdY];refine⟨λh=>⟨?_,_,rfl⟩,λh=>⟨?_,_,rfl⟩⟩
  ·rw[if_neg ∅]
  ·rw[if_pos ∅]
 rintro _ ⟨y,rfl⟩;simp![zpg];refine⟨⟨zmD _,rfl⟩,?_⟩;refine vF t1 n1 t7 n7 I B ∅ eb hrt hcn nz (zoO (Md t s) r) (λo ho=>uP (mem_rest.mp ho).1) (Hr _ _) lR _ _ zmL λw1 s5 p5 I1 B1=>?_
 simp![];have rr:∀j,dE b r c (rest (opR t s) r) r j=b r j:=λj=>by unfold dE;rw[if_neg (Hr _ _)]
 have bc:∀i,i<t->(dE b r c (rest (opR t s) r) i c).natAbs<=2^2000:=λi hi=>by
  unfold dE;have h1:=eb i hi c hcn;have up:(2:Nat)^811<=2^2000:=jE ∅
  split
  ·have h2:=jX (Oy (b i c) nz) (eb r hrt c hcn);have h3:(b i c).natAbs*2^811<=2^811*2^811:=qdh _ h1;have h4:(2:Nat)^811*2^811+2^811<=2^2000:=by decide+kernel
   lia
  ·lia
 refine uW t1 n1 t7 n7 I1 B1 ∅ (λj hj=>by rw[rr];exact eb r hrt j hj) bc hrt hcn (by rw[rr];exact nz) (zoO (Ma n s) c) (λo ho=>xP (mem_rest.mp ho).1) (Hr _ _) lC _ _ p5 λv2 k2 s5 p5 I2 B2=>?_
 simp![];obtain⟨b2,hb2⟩:∃b2,b2=iF b r c (opR t s) (opC n s):=⟨_,rfl⟩;have hb3:eW (dE b r c (rest (opR t s) r)) r c (rest (opC n s) c)=b2:=hb2.symm;rw[<-hb2];rw[hb3]at I2 ⊢;have en:∀i∈opR t s,∀j∈opC n s,b2 i j=rnd b r c i j:=λi hi j hj=>by rw[hb2];exact Ny hi hj
 have op1:((rest (opR t s) r).map λi=>b2 i c).any (λx=>x !=0)=true->Opn (opR t s) (opC n s) b r c:=λh=>by
  obtain⟨x,hx,h0⟩:=qcN.mp h;obtain⟨i,hi,rfl⟩:=qb0.mp hx;obtain⟨m1,m2⟩:=mem_rest.mp hi;exact .inl ⟨i,m1,m2,by rw[<-en i m1 c hc];simpa using h0⟩
 have op2:((rest (opC n s) c).map λi=>b2 r i).any (λx=>x !=0)=true->Opn (opR t s) (opC n s) b r c:=λh=>by
  obtain⟨x,hx,h0⟩:=qcN.mp h;obtain⟨i,hi,rfl⟩:=qb0.mp hx;obtain⟨m1,m2⟩:=mem_rest.mp hi;exact .inr ⟨i,m1,m2,by rw[<-en r hr i m1];simpa using h0⟩
 have op3:((rest (opR t s) r).map λi=>b2 i c).any (λx=>x !=0)=false->((rest (opC n s) c).map λi=>b2 r i).any (λx=>x !=0)=false->¬Opn (opR t s) (opC n s) b r c:=λh1 h2 o=>by
  rcases o with⟨i,mi,hi,h⟩|⟨j,mj,hj,h⟩
  ·have:=qaO.mp h1 _ (qb0.mpr ⟨i,mem_rest.mpr ⟨mi,hi⟩,rfl⟩);rw[en i mi c hc]at this;exact h (~~~this)
  ·have:=qaO.mp h2 _ (qb0.mpr ⟨j,mem_rest.mpr ⟨mj,hj⟩,rfl⟩);rw[en r hr j mj]at this;exact h (~~~this)
 have fin:∀(s':AA (Nat×Nat)),((Opn (opR t s) (opC n s) b r c/\s'=s)\/(¬Opn (opR t s) (opC n s) b r c/\s'=s++[(r,c)]))->
   ∃w' v' k' s'',Inv t n A b2 w' v' k'/\Bn (e+11368) t n w' v' k'/\(Sl.val D.non,[oT t n b2 w1 v2 k2 s',Sl.emp,Sl.emp])=(Sl.val D.non,[oT t n b2 w' v' k' s'',Sl.emp,Sl.emp])/\
    ((Opn (opR t s) (opC n s) b r c/\s''=s)\/(¬Opn (opR t s) (opC n s) b r c/\s''=s++[(r,c)])):=λs' h=>⟨w1,v2,k2,s',I2,B2.le ∅,rfl,h⟩
 rw[xC rfl rfl (lS t1 n1)];simp![↓zdR];refine⟨∅,zjm (enc:=λi:Nat=>D.int (i:Nat)) (λρ=>∃y,ρ=[.val (oD t n b2 w1 v2 k2 s),.val (.int (c:Nat)),y]) (λi=> .int (b2 i c)) ⟨_,rfl⟩ ?_ ?_⟩
 ·rintro i _ hi ⟨y,rfl⟩;simp![↓zd4,g0,bZ _ (uP (mem_rest.mp hi).1),bZ _ hcn];exact⟨_,rfl⟩
 rintro _ ⟨y,rfl⟩;simp![zk1];have zl:(([Sl.emp,.val (.int (r:Nat)),.val (.int (c:Nat)),.val (.lst ((rest (opR t s) r).map λi=> .int (i:Nat))),.val (.lst ((rest (opC n s) c).map λi=> .int (i:Nat))),s5].zip [.val (oD t n b2 w1 v2 k2 s),.val (.int (r:Nat)),.val (.int (c:Nat)),.val (.lst ((rest (opR t s) r).map λi=> .int (i:Nat))),.val (.lst ((rest (opC n s) c).map λi=> .int (i:Nat))),s5]).all λq=>lV q.1 q.2)=true:=by
  simp only[qbb,qba,lL,List.all_nil,zmL _,Wo _ _,p5 _,Pw]
 refine⟨⟨rfl,zl⟩,λh1=>?_,λh1=>?_⟩
 ·rw[xC rfl rfl (lS t1 n1)];simp![↓zdU];refine⟨∅,zjm (enc:=λi:Nat=>D.int (i:Nat)) (λρ=>∃y,ρ=[.val (oD t n b2 w1 v2 k2 s),.val (.int (r:Nat)),y]) (λi=> .int (b2 r i)) ⟨_,rfl⟩ ?_ ?_⟩
  ·rintro i _ hi ⟨y,rfl⟩;simp![↓zd0,g0,bZ _ hrt,bZ _ (xP (mem_rest.mp hi).1)];exact⟨_,rfl⟩
  rintro _ ⟨y,rfl⟩;simp![zk1];refine⟨⟨rfl,zl⟩,λh2=>?_,λh2=>?_⟩
  ·refine⟨by show(s.map _).length<16777216;rw[cO];lia,?_⟩;have hp:∀p∈s,p.1≠r:=λp hp z=>by
    have:=(qah.mp hr).2;rw[qcH]at this;have:=qaO.mp this p hp;exact this (by simp[z])
   rw[Bk s r c hp];exact fin _ (.inr ⟨op3 (~~~h1) (~~~h2),rfl⟩)
  ·exact fin _ (.inl ⟨op2 (~~~h2),rfl⟩)
 ·exact fin _ (.inl ⟨op1 (~~~h1),rfl⟩)
end
structure Shp (t n:Nat)(b:Mx)(s:List (Nat×Nat)):Prop where
 d1:s.Pairwise λp q=>p.1≠q.1
 d2:s.Pairwise λp q=>p.2≠q.2
 lt:∀p∈s,p.1<t/\p.2<n
 nz:∀p∈s,b p.1 p.2≠0
 zr:∀p∈s,∀j,j<n->j≠p.2->b p.1 j=0
 zc:∀p∈s,∀i,i<t->i≠p.1->b i p.2=0
 sz:∀p∈s,(b p.1 p.2).natAbs<=2^811
def agr (Ro Co:AA Nat)(b b':Mx):Prop:=∀i,i∈Ro->∀j,j∈Co->b i j=b' i j
section
variable {t n r c:Nat}{b b':Mx}{s:AA (Nat×Nat)}{Ro Co:AA Nat}
def agr.rnd (h:agr Ro Co b b')(hr:r∈Ro)(hc:c∈Co):agr Ro Co (rnd b r c) (rnd b' r c):=λi hi j hj=>by
 unfold Prf.rnd;rw[h i hi j hj,h r hr j hj,h i hi c hc,h r hr c hc]
def agr.lst (h:agr Ro Co b b')(l:Lst Ro Co b r c):Lst Ro Co b' r c:=by
 obtain⟨h1,h2,h3,h4⟩:=l;refine⟨h1,h2,by rwa[<-h r h1 c h2],λi hi j hj q=>?_⟩;rw[<-h r h1 c h2,<-h i hi j hj];rw[<-h i hi j hj]at q;exact h4 i hi j hj q
def agr.opn (h:agr Ro Co b b')(hr:r∈Ro)(hc:c∈Co)(o:Opn Ro Co b r c):Opn Ro Co b' r c:=by
 have a:=h.rnd hr hc;rcases o with⟨i,mi,hi,z⟩|⟨j,mj,hj,z⟩
 ·exact .inl ⟨i,mi,hi,by rwa[<-a i mi c hc]⟩
 ·exact .inr ⟨j,mj,hj,by rwa[<-a r hr j mj]⟩
def agr.symm (h:agr Ro Co b b'):agr Ro Co b' b:=λi hi j hj=>(h i hi j hj).symm
def Tx (hi:i<t):i∉opR t s↔∃p∈s,p.1=i:=by
 unfold opR;rw[qah];simp[hi]
def Oh (hi:i<n):i∉opC n s↔∃p∈s,p.2=i:=by
 unfold opC;rw[qah];simp[hi]
def pR:opR t (s++[(r,c)])=rest (opR t s) r:=by
 unfold opR rest;rw[List.filter_filter];congr 1
 funext i
 rw[List.any_append]
 by_cases h:r=i
 ·subst h;simp
 ·have h2:¬i=r:=λz=>h z.symm
  simp[h,h2,show(r==i)=false from qab.mpr h,show(i !=r)=true from qbL.mpr h2]
def mQ:opC n (s++[(r,c)])=rest (opC n s) c:=by
 unfold opC rest;rw[List.filter_filter];congr 1
 funext i
 rw[List.any_append]
 by_cases h:c=i
 ·subst h;simp
 ·have h2:¬i=c:=λz=>h z.symm
  simp[h,h2,show(c==i)=false from qab.mpr h,show(i !=c)=true from qbL.mpr h2]
def zmk (h:r∈l):(rest l r).length<l.length:=by
 unfold rest;rcases Dt (l.filter λi=>i !=r).length l.length with z|z
 ·exact z
 ·have:=List.length_filter_eq_length_iff.mp (Nat.le_antisymm (Ab _ _) z) r h;simp at this
def Shp.keep (S:Shp t n b s)(hr:r∈opR t s)(hc:c∈opC n s)(hi:i<t)(hj:j<n)(h:i∉opR t s\/j∉opC n s):iF b r c (opR t s) (opC n s) i j=b i j:=by
 have rr:∀j,dE b r c (rest (opR t s) r) r j=b r j:=λj=>by unfold dE;rw[if_neg (Hr _ _)]
 by_cases h1:i∈opR t s
 ·have h2:j∉opC n s:=by rcases h with h|h;exact AH h1 h;exact h
  obtain⟨p,hp,e⟩:=(Oh hj).mp h2;have z:b r j=0:=by
   have:=S.zc p hp r (uP hr) λz=>AH hr ((Tx (uP hr)).mpr ⟨p,hp,z.symm⟩)
   rwa[e]at this
  unfold iF eW;rw[if_neg λz=>h2 (mem_rest.mp z).1];unfold dE
  split
  ·rw[z];lia
  ·rfl
 ·obtain⟨p,hp,e⟩:=(Tx hi).mp h1;have ri:∀j,dE b r c (rest (opR t s) r) i j=b i j:=λj=>by unfold dE;rw[if_neg λz=>h1 (mem_rest.mp z).1]
  have z:b i c=0:=by
   have:=S.zr p hp c (xP hc) λz=>AH hc ((Oh (xP hc)).mpr ⟨p,hp,z.symm⟩)
   rwa[e]at this
  unfold iF eW;rw[ri,ri,z]
  split
  ·lia
  ·rfl
def Shp.ent (S:Shp t n b s)(h:Eb (opR t s) (opC n s) b (2^811)):∀i,i<t->∀j,j<n->(b i j).natAbs<=2^811:=λi hi j hj=>by
 by_cases h1:i∈opR t s
 ·by_cases h2:j∈opC n s
  ·exact h i h1 j h2
  ·obtain⟨p,hp,e⟩:=(Oh hj).mp h2
   by_cases e2:i=p.1
   ·subst e e2;exact S.sz p hp
   ·have:=S.zc p hp i hi e2;rw[e]at this;rw[this];exact gK _
 ·obtain⟨p,hp,e⟩:=(Tx hi).mp h1
  by_cases e2:j=p.2
  ·subst e e2;exact S.sz p hp
  ·have:=S.zr p hp j hj e2;rw[e]at this;rw[this];exact gK _
def Ra {p:Nat×Nat}(S:Shp t n b s)(hp:p∈s):p.1∉opR t s:=(Tx (S.lt p hp).1).mpr ⟨p,hp,rfl⟩
def Dq {p:Nat×Nat}(S:Shp t n b s)(hp:p∈s):p.2∉opC n s:=(Oh (S.lt p hp).2).mpr ⟨p,hp,rfl⟩
def Shp.same (S:Shp t n b s)(hr:r∈opR t s)(hc:c∈opC n s):Shp t n (iF b r c (opR t s) (opC n s)) s where
 d1:=S.d1
 d2:=S.d2
 lt:=S.lt
 nz:=λp hp=>by rw[S.keep hr hc (S.lt p hp).1 (S.lt p hp).2 (.inl (Ra S hp))];exact S.nz p hp
 zr:=λp hp j hj h=>by rw[S.keep hr hc (S.lt p hp).1 hj (.inl (Ra S hp))];exact S.zr p hp j hj h
 zc:=λp hp i hi h=>by rw[S.keep hr hc hi (S.lt p hp).2 (.inr (Dq S hp))];exact S.zc p hp i hi h
 sz:=λp hp=>by rw[S.keep hr hc (S.lt p hp).1 (S.lt p hp).2 (.inl (Ra S hp))];exact S.sz p hp
def Shp.new (S:Shp t n b s)(hr:r∈opR t s)(hc:c∈opC n s)(nz:b r c≠0)(sz:(b r c).natAbs<=2^811)(o:¬Opn (opR t s) (opC n s) b r c):Shp t n (iF b r c (opR t s) (opC n s)) (s++[(r,c)]):=by
 have T:=S.same hr hc;have ne1:∀p∈s,p.1≠r:=λp hp z=>Ra S hp (z ▸ hr)
 have ne2:∀p∈s,p.2≠c:=λp hp z=>Dq S hp (z ▸ hc)
 have e:iF b r c (opR t s) (opC n s) r c=b r c:=by rw[Ny hr hc,mT]
 have cases:∀{p},p∈s++[(r,c)]->p∈s\/p=(r,c):=λh=>by
  rcases qar.mp h with h|h
  ·exact .inl h
  ·exact .inr (~~~h)
 refine⟨?_,?_,λp hp=>?_,λp hp=>?_,λp hp j hj h=>?_,λp hp i hi h=>?_,λp hp=>?_⟩
 ·rw[List.pairwise_append];exact⟨S.d1,by simp,λp hp q hq=>by rw[qcB.mp hq];exact ne1 p hp⟩
 ·rw[List.pairwise_append];exact⟨S.d2,by simp,λp hp q hq=>by rw[qcB.mp hq];exact ne2 p hp⟩
 ·rcases cases hp with hp|rfl
  ·exact S.lt p hp
  ·exact⟨uP hr,xP hc⟩
 ·rcases cases hp with hp|rfl
  ·exact T.nz p hp
  ·show iF _ _ _ _ _ r c≠0;rw[e];exact nz
 ·rcases cases hp with hp|rfl
  ·exact T.zr p hp j hj h
  ·show iF _ _ _ _ _ r j=0;have h:j≠c:=h
   by_cases mj:j∈opC n s
   ·rw[Ny hr mj];exact Xr λz=>o (.inr ⟨j,mj,h,z⟩)
   ·obtain⟨q,hq,e⟩:=(Oh hj).mp mj;have:=T.zc q hq r (uP hr) (Ne.symm (ne1 q hq));rwa[e]at this
 ·rcases cases hp with hp|rfl
  ·exact T.zc p hp i hi h
  ·show iF _ _ _ _ _ i c=0;have h:i≠r:=h
   by_cases mi:i∈opR t s
   ·rw[Ny mi hc];exact Xr λz=>o (.inl ⟨i,mi,h,z⟩)
   ·obtain⟨q,hq,e⟩:=(Tx hi).mp mi;have:=T.zr q hq c (xP hc) (Ne.symm (ne2 q hq));rwa[e]at this
 ·rcases cases hp with hp|rfl
  ·exact T.sz p hp
  ·show(iF _ _ _ _ _ r c).natAbs<=_;rw[e];exact sz
def Ts:Nat->Nat
 |0=>1376
 |1=>1375
 |2=>1374
 |3=>1372
 |4=>1209
 |5=>2
 |6=>1
 |_=>0
def yR:∀{s:Nat},s<=6->Ts s=1+Nx (s+1)+Ts (s+1)
 |0,_=>rfl
 |1,_=>rfl
 |2,_=>rfl
 |3,_=>rfl
 |4,_=>rfl
 |5,_=>rfl
 |6,_=>rfl
 |_+7,h=>∅
def Far (t n:Nat)(b:Mx)(s:AA (Nat×Nat))(m:Nat):Prop:=Shp t n b s/\s.length<=7/\∃B N,agr (opR t s) (opC n s) B b/\Stg s.length (opR t s) (opC n s) B N/\N+Ts s.length<=m
variable {m:Nat}
def Far.eb (F:Far t n b s m):∀i,i<t->∀j,j<n->(b i j).natAbs<=2^811:=by
 obtain⟨S,_,B,N,a,g,_⟩:=F;refine S.ent λi hi j hj=>?_
 rw[<-a i hi j hj];exact g.ent i hi j hj
def Far.step (F:Far t n b s m)(l:Lst (opR t s) (opC n s) b r c):∃m',m=m'+1/\(Opn (opR t s) (opC n s) b r c->Far t n (iF b r c (opR t s) (opC n s)) s m')/\
  (¬Opn (opR t s) (opC n s) b r c->Far t n (iF b r c (opR t s) (opC n s)) (s++[(r,c)]) m'):=by
 have ebd:=F.eb;obtain⟨S,sl,B,N,a,g,hm⟩:=F;have l2:=a.symm.lst l;obtain⟨g1,g2⟩:=g.step l2;have s6:s.length<=6:=by
  have:=List.length_pos_of_mem l.1;have:=g.1;lia
 have tn:=yR s6;have hr:=l.1;have hc:=l.2.1;refine⟨m-1,∅,λo=>?_,λo=>?_⟩
 ·obtain⟨N',rfl,g3⟩:=g1 (a.symm.opn hr hc o);exact⟨S.same hr hc,sl,_,N',λi hi j hj=>by rw[Ny hi hj];exact a.rnd hr hc i hi j hj,g3,∅⟩
 ·have o2:¬Opn (opR t s) (opC n s) B r c:=λz=>o (a.opn hr hc z)
  have R:=pR (t:=t) (s:=s) (r:=r) (c:=c);have C:=mQ (n:=n) (s:=s) (r:=r) (c:=c);have g3:=g2 o2 (opR t (s++[(r,c)])) (opC n (s++[(r,c)])) (λi hi=>by rw[R]at hi;exact mem_rest.mp hi) (λi hi=>by rw[C]at hi;exact mem_rest.mp hi) (by rw[R];have:=zmk hr;have:=g.1;lia) (by rw[C];have:=zmk hc;have:=g.2.1;lia);refine⟨S.new hr hc l.2.2.1 (ebd r (uP hr) c (xP hc)) o,by rw[iZ];show s.length+1<=7;lia,rnd B r c,Nx (s.length+1),λi hi j hj=>?_,?_,?_⟩
  ·rw[R]at hi;rw[C]at hj;have hi:=(mem_rest.mp hi).1;have hj:=(mem_rest.mp hj).1;rw[Ny hi hj];exact a.rnd hr hc i hi j hj
  ·rw[iZ];exact g3
  ·rw[iZ];show Nx (s.length+1)+Ts (s.length+1)<=m-1;lia
def Far.start (t7:t<=7)(n7:n<=7)(h:∀i j,A i j=0\/A i j=1):Far t n A [] 1376:=by
 refine⟨⟨by simp,by simp,by simp,by simp,by simp,by simp,by simp⟩,by simp,A,0,λ_ _ _ _=>rfl,⟨?_,?_,rfl,λi _ j _=>h i j⟩,by decide⟩
 ·have:=zj8 t [];exact bO this t7
 ·have:=zjs n [];exact bO this n7
end
structure Fin (t n:Nat)(A b w v k:Mx)(s:List (Nat×Nat)):Prop where
 I:Inv t n A b w v k
 B:∃e,e<=20000000/\Bn e t n w v k
 S:Shp t n b s
 z:∀r∈opR t s,∀c∈opC n s,b r c=0
 l:s.length<=7
 e:∀i,i<t->∀j,j<n->(b i j).natAbs<=2^811
def zpb (h:m<2^40):m<fR:=iJ h (jE (show 40<=10000 by lia))
section
variable {n t:Nat}{c:Nat->Nat}{z:Nat->Nat->Nat}{S:Nat->Int}
abbrev Cor (t n:Nat)(b:Mx)(s:AA (Nat×Nat))(x:D):Prop:=(x= .non/\∀r∈opR t s,∀c∈opC n s,b r c=0)\/∃r c,x= .tup [.int (r:Nat),.int (c:Nat)]/\Lst (opR t s) (opC n s) b r c
theorem zks (n1:1<=n)(n7:n<=7)(t1:1<=t)(t7:t<=7){b w v k:Mx}(h:Shp t n b s)(sl:s.length<=7)(d:D){s2:Sl}(p2:Pn s2){Q:D×R->Prop}(hq:∀x,Cor t n b s x->Q (x,[oT t n b w v k s,.val d,s2])):Ok (dM 0 (lI Jf slC slN (aA 0) aB) [oT t n b w v k s,.val d,s2]) Q:=by
 change OkQ Q _;rw[xC rfl rfl (lS t1 n1)];simp![];rw[Os rfl];simp![];refine(zh8 ∅ ∅ ∅ h.d1).mono ?_;have zl:(([Sl.emp,.val d,s2].zip [.val (oD t n b w v k s),.val d,s2]).all λq=>lV q.1 q.2)=true:=by
  simp only[qbb,qba,lL,List.all_nil,zmL _,Wo _ _,p2 _,Pw]
 rintro _ (⟨rfl,h0⟩|⟨r,c,rfl,h1,h2,h3,h4⟩)
 ·simp![];exact⟨⟨rfl,zl⟩,hq _ (.inl ⟨rfl,h0⟩)⟩
 ·simp![];exact⟨⟨rfl,zl⟩,hq _ (.inr ⟨r,c,rfl,h1,h2,h3,h4⟩)⟩
theorem yQ (n1:1<=n)(n7:n<=7)(t1:1<=t)(t7:t<=7):Ok (Tn [.ptr (.obj slC [] [] none),.val (lU n t c z S)]) λx=>∃b w v k s,Fin t n (bF c z) b w v k s/\x=(.val .non,[oT t n b w v k s,.emp]):=by
 simp![↓Tn,↓zgT,lU,↓zfU]
 generalize hd:D.tup [D.int (n:Nat),.tup (dR t c z),.tup (wI t S)]=d
 have i0:bG d (.int 0)=some (.int (n:Nat)):=by rw[<-hd];rfl
 have i1:bG d (.int 1)=some (.tup (dR t c z)):=by rw[<-hd];rfl
 refine⟨by unfold dR;rw[bV];lia,?_⟩;unfold dR at hd i1 ⊢;refine iN (λρ=>∃y,ρ=[.val d,y]) (λi=> .lst (wI n (bF c z i))) ⟨_,rfl⟩ ?_ ?_
 ·rintro i _ hi ⟨y,rfl⟩;simp![↓zge,i0];refine(zmW n ∅ (c i) (z i)).mono ?_;rintro _ rfl;simp![];exact⟨rfl,_,rfl⟩
 rintro _ ⟨y,rfl⟩;rw[if_pos ⟨rfl,rfl⟩];simp![i1];refine(zet t ∅).mono ?_;rintro _ rfl;simp![i0];refine(zet n ∅).mono ?_;rintro _ rfl;simp![i0];refine(zet n ∅).mono ?_;rintro _ rfl;simp![];have far:Far t n (bF c z) [] 1376:=Far.start t7 n7 λi j=>by unfold bF;split<;>simp
 have b0:Bn 0 t n un un un:=by
  have:∀i j,(un i j).natAbs<=2^0:=λi j=>by unfold un;split<;>decide
  exact⟨λi j _ _=>this i j,λi j _ _=>this i j,λi j _ _=>this i j⟩
 refine zks (s:=[]) n1 n7 t1 t7 far.1 (by simp) d zmL λx hx=>?_
 simp![↓zgr];refine zhx (λm ρ=>m<=1376/\∃b w v k s x,Inv t n (bF c z) b w v k/\Bn (11368*(1376-m)) t n w v k/\Far t n b s m/\Cor t n b s x/\ρ=[oT t n b w v k s,.val d,.val x]) ?_ fR 1376 _ (zpb ∅) ⟨aY _,_,_,_,_,_,_,Inv.start t n _,~~~b0,far,hx,rfl⟩;rintro m _ ⟨hm,b,w,v,k,s,x,I,B,F,hx,rfl⟩;simp![↓zgd];rcases hx with⟨rfl,h0⟩|⟨r,c,rfl,l⟩
 ·simp![];exact⟨b,w,v,k,s,⟨I,⟨_,∅,B⟩,F.1,h0,F.2.1,F.eb⟩,rfl⟩
 ·simp![];obtain⟨m',rfl,f1,f2⟩:=F.step l;refine⟨m',rfl,?_⟩;simp![↓zgA];rw[zix rfl rfl];simp![];refine(ziI t1 n1 t7 n7 I B ∅ F.eb F.1.d1 F.2.1 l.1 l.2.1 l.2.2.1).mono ?_;rintro _ ⟨w',v',k',s',I',B',rfl,hs⟩;simp![];have F':Far t n (iF b r c (opR t s) (opC n s)) s' m':=by
   rcases hs with⟨o,rfl⟩|⟨o,rfl⟩
   ·exact f1 o
   ·exact f2 o
  refine zks n1 n7 t1 t7 F'.1 F'.2.1 d (Wo _) λx hx=>?_
  simp![];exact⟨∅,_,_,_,_,_,_,I',B'.le ∅,F',hx,rfl⟩
end
def dF:Nat->Int
 |0=>1
 |n+1=>((n+1:Nat):Int)*dF n
def zj6:∀n,0<dF n
 |0=>by decide
 |n+1=>Int.mul_pos ∅ (zj6 n)
theorem Fe {D:Int}(h:∀d:Nat,1<=d->d<=N->(d:Int)∣D):∀b a,a+b+1<=N->∃q:Int,q*dF (a+b+1)=D*dF a*dF b
 |0,a,l=>by
  obtain⟨q,e⟩:=h (a+1) ∅ ∅;refine⟨q,?_⟩;show q*(((a+1:Nat):Int)*dF a)=D*dF a*1;rw[e];grind
 |b+1,a,l=>by
  obtain⟨q1,e1⟩:=Fe h b a ∅;obtain⟨q2,e2⟩:=Fe h b (a+1) ∅;refine⟨q1-q2,?_⟩;have f1:dF (a+(b+1)+1)=((a+b+2:Nat):Int)*dF (a+b+1):=rfl;rw[show a+1+b+1=a+(b+1)+1 by lia]at e2;have f2:dF (a+1)=((a+1:Nat):Int)*dF a:=rfl;have f3:dF (b+1)=((b+1:Nat):Int)*dF b:=rfl;rw[Int.sub_mul,e2,f1,f2,f3];have e3:q1*(((a+b+2:Nat):Int)*dF (a+b+1))=((a+b+2:Nat):Int)*(D*dF a*dF b):=by rw[<-e1];grind
  rw[e3];have e4:((a+b+2:Nat):Int)=((a+1:Nat):Int)+((b+1:Nat):Int):=∅
  rw[e4];grind
def zoP:∀k,(2:Int)^k*(dF k*dF k)<=dF (2*k+1)
 |0=>by decide
 |k+1=>by
  have h:=zoP k;have e:dF (2*(k+1)+1)=((2*k+3:Nat):Int)*(((2*k+2:Nat):Int)*dF (2*k+1)):=rfl;have f:dF (k+1)=((k+1:Nat):Int)*dF k:=rfl;rw[e,f,Int.pow_succ];have p:=zj6 (2*k+1);have c:(2:Int)*(((k+1:Nat):Int)*((k+1:Nat):Int))<=((2*k+3:Nat):Int)*((2*k+2:Nat):Int):=by
   have:((2*k+3:Nat):Int)*((2*k+2:Nat):Int)=2*(((k+1:Nat):Int)*((k+1:Nat):Int))+(2*(((k+1:Nat):Int)*((k+1:Nat):Int))+2*((k+1:Nat):Int)):=by
    rw[show((2*k+3:Nat):Int)=2*((k+1:Nat):Int)+1 by lia,show((2*k+2:Nat):Int)=2*((k+1:Nat):Int) by lia];grind
   have z:(0:Int)<=((k+1:Nat):Int)*((k+1:Nat):Int):=Xc ∅ ∅;lia
  have s1:=qdj h (show(0:Int)<=2*(((k+1:Nat):Int)*((k+1:Nat):Int))from Xc (by decide) (Xc ∅ ∅));have s2:=Int.mul_le_mul_of_nonneg_right c (Int.le_of_lt p);refine Int.le_trans (Int.le_of_eq ?_) (Int.le_trans s1 (Int.le_trans s2 (Int.le_of_eq (Int.mul_assoc _ _ _))))
  grind
theorem yT {D:Int}(nz:D≠0)(h:∀d:Nat,1<=d->d<=2*k+1->(d:Int)∣D):2^k<=D.natAbs:=by
 have h':∀d:Nat,1<=d->d<=2*k+1->(d:Int)∣(D.natAbs:Int):=λd h1 h2=>Int.dvd_natAbs.mpr (h d h1 h2)
 obtain⟨q,e⟩:=Fe h' k k ∅;rw[show k+k+1=2*k+1 by lia]at e;have p1:=zj6 k;have p2:=zj6 (2*k+1);have p3:0<dF k*dF k:=Int.mul_pos p1 p1;have dp:(0:Int)<D.natAbs:=∅
 have rp:(0:Int)<q*dF (2*k+1):=by rw[e,Int.mul_assoc];exact Int.mul_pos dp p3
 have qp:0<q:=Int.pos_of_mul_pos_left rp p2;have s1:dF (2*k+1)<=q*dF (2*k+1):=by
  have:=Int.mul_le_mul_of_nonneg_right (show 1<=q by lia) (Int.le_of_lt p2);lia
 have s2:(2:Int)^k*(dF k*dF k)<=(D.natAbs:Int)*(dF k*dF k):=by
  have:=zoP k;rw[e,Int.mul_assoc]at s1;lia
 have s3:=Int.le_of_mul_le_mul_right s2 p3;have:((2^k:Nat):Int)<=(D.natAbs:Nat):=by rw[Int.natCast_pow];exact s3
 exact Int.ofNat_le.mp this
theorem oX (nz:x≠0)(hx:x.natAbs<=2^e)(he:e<=30000000):Ok (Ru [.int x]) λy=>∃by_:Nat,2<=by_/\by_<=2^26/\¬(by_:Int)∣x/\y= .val (.int by_):=by
 simp![↓Ru,↓zbx,↓zbX];refine zhx (λm ρ=>∃q:Nat,2<=q/\m+q=2*e+4/\(∀d:Nat,1<=d->d<q->(d:Int)∣x)/\ρ=[.val (.int x),.val (.int q)]) ?_ fR (2*e+2) _ (zpb ∅) ⟨2,∅,∅,λd h1 h2=>?_,rfl⟩
 ·rintro m _ ⟨q,q2,hm,hd,rfl⟩;have lt:q<2*e+4:=Xr λz=>by
   have:=yT nz (k:=e+1) λd h1 h2=>hd d h1 ∅
   have:=Nat.pow_lt_pow_right (show 1<2 by decide) (show e<e+1 by lia);lia
  simp![↓zb1];refine⟨∅,λc=>?_,λc=>?_⟩
  ·refine⟨m-1,∅,?_⟩;simp![↓zbW];refine⟨q+1,∅,∅,λd h1 h2=>?_,?_⟩
   ·rcases Dt d q with h|h
    ·exact hd d h1 h
    ·have:d=q:=∅
     subst this;exact Int.dvd_of_emod_eq_zero (~~~c)
   ·rw[show((q:Nat):Int)+1=((q+1:Nat):Int) by lia]
  ·exact⟨q,q2,∅,λz=>by have:=Int.emod_eq_zero_of_dvd z;simp[this]at c,rfl⟩
 ·have:d=1:=∅
  subst this;exact Int.one_dvd x
def sY (x:Int):gS x=(x.natAbs:Nat):=by unfold gS;split<;>lia
theorem zkR (hy:y.natAbs<=2^811):Ok (Lr [.int x,.int y]) λz=>z= .val (.int (Int.gcd x y)):=by
 simp![↓Lr,↓zb2,sY,↓zcl];refine zhx (λm ρ=>∃(a b:Nat) (z:Sl),b<=m/\Nat.gcd a b=Int.gcd x y/\ρ=[.val (.int x),.val (.int y),.val (.int a),.val (.int b),z]) ?_ fR y.natAbs _ (Ea hy (Nat.pow_lt_pow_right (by decide) (show 811<10000 by lia))) ⟨_,_,_,aY _,rfl,rfl⟩;rintro m _ ⟨a,b,z,hb,hg,rfl⟩;simp![↓zcu];refine⟨λc=>?_,λc=>?_⟩
 ·have b0:b≠0:= ~~~c
  refine⟨m-1,∅,?_⟩;simp![↓zci];refine⟨∅,b,a%b,_,by have:=Nat.mod_lt a (show 0<b by lia);lia,?_,by rw[Int.natCast_emod]⟩;rw[<-hg,Nat.gcd_comm a b,Nat.gcd_rec b a,Nat.gcd_comm]
 ·have b0:b=0:= ~~~c
  subst b0;rw[<-hg,Nat.gcd_zero_right]
def dv (x y:Int):Int:=if y<0 then-(Int.gcd x y:Int)else Int.gcd x y
abbrev rp (x y:Int):Int:=x.fdiv (dv x y)
abbrev rq (x y:Int):Int:=y.fdiv (dv x y)
def rat (hy:y≠0):dv x y≠0/\(dv x y).natAbs<=y.natAbs/\0<rq x y/\Int.gcd (rp x y) (rq x y)=1/\rp x y*y=x*rq x y/\(rp x y).natAbs<=x.natAbs/\(rq x y).natAbs<=y.natAbs:=by
 have gp:0<Int.gcd x y:=Int.gcd_pos_of_ne_zero_right x hy;have n:dv x y≠0:=by unfold dv;split<;>lia
 have ab:(dv x y).natAbs=Int.gcd x y:=by unfold dv;split<;>lia
 have le:Int.gcd x y<=y.natAbs:=Nat.le_of_dvd ∅ (Nat.gcd_dvd_right _ _);have dx:dv x y∣x:=by rw[<-Int.natAbs_dvd,ab];exact Int.gcd_dvd_left ..
 have dy:dv x y∣y:=by rw[<-Int.natAbs_dvd,ab];exact Int.gcd_dvd_right ..
 obtain⟨p,ep⟩:=dx;obtain⟨q,eq⟩:=dy;have hp:rp x y=p:=by unfold rp;conv=>lhs;rw[show x.fdiv (dv x y)=(dv x y*p).fdiv (dv x y) by rw[<-ep]];rw[Int.mul_fdiv_cancel_left _ n]
 have hq:rq x y=q:=by unfold rq;conv=>lhs;rw[show y.fdiv (dv x y)=(dv x y*q).fdiv (dv x y) by rw[<-eq]];rw[Int.mul_fdiv_cancel_left _ n]
 refine⟨n,∅,?_,?_,?_,Oy x n,Oy y n⟩
 ·rw[hq];rcases Ml hy with h|h
  ·have e:dv x y= -(Int.gcd x y:Int):=by unfold dv;rw[if_pos h]
   have e1: -(Int.gcd x y:Int)*q=y:=by rw[<-e];exact eq.symm
   rw[Int.neg_mul]at e1;have h3:0<(Int.gcd x y:Int)*q:=∅
   exact Int.pos_of_mul_pos_right h3 ∅
  ·have e:dv x y=(Int.gcd x y:Int):=by unfold dv;rw[if_neg ∅]
   have h3:0<(Int.gcd x y:Int)*q:=by rw[e]at eq;lia
   exact Int.pos_of_mul_pos_right h3 ∅
 ·rw[hp,hq];have:Int.gcd (dv x y*p) (dv x y*q)=(dv x y).natAbs*Int.gcd p q:=Int.gcd_mul_left ..;rw[<-ep,<-eq,ab]at this;exact Nat.eq_of_mul_eq_mul_left gp ∅
 ·rw[hp,hq]
  generalize dv x y=d at ep eq
  subst ep eq
  grind
theorem sH {x y:Int}(n:y≠0)(hy:y.natAbs<=2^811):Ok (Qx [.int x,.int y]) λz=>z= .val (.tup [.int (rp x y),.int (rq x y)]):=by
 have R:=rat (x:=x) n;have ok:Tz (dv x y)=true:=Ao R.1 (bO R.2.1 hy);simp![↓Qx,↓zgO];refine(zkR hy).mono ?_;rintro _ rfl;simp![];refine⟨λc=>?_,λc=>?_⟩
 ·have c:y<0:= ~~~c
  have e:dv x y= -(Int.gcd x y:Int):=by unfold dv;rw[if_pos c]
  simp![↓zdz,rp,rq,<-e,ok]
 ·have c:¬y<0:= ~~~c
  have e:dv x y=(Int.gcd x y:Int):=by unfold dv;rw[if_neg c]
  simp![↓zdz,rp,rq,<-e,ok]
theorem zjc (h:Sq d t f)(ht:t<=100)(n:y≠0)(hy:y.natAbs<=2^811):Ok (Oq [d,.int y]) λz=>z= .val (.tup [.str "none",.tup (wL t λi=> .tup [.int (rp (f i) y),.int (rq (f i) y)])]):=by
 simp![↓Oq,↓ziB,↓zhd,h.it];refine⟨∅,iN (λρ=>∃z,ρ=[.val (.int y),z]) (λi=> .tup [.int (rp (f i) y),.int (rq (f i) y)]) ⟨_,rfl⟩ ?_ ?_⟩
 ·rintro i _ hi ⟨z,rfl⟩;simp![↓zg8];refine(sH n hy).mono ?_;rintro _ rfl;simp![];exact⟨_,rfl⟩
 ·rintro _ ⟨z,rfl⟩;simp![]
def sO:∀{m:Nat},m<=7->(∀i,i<m->(f i).natAbs<=2^e)->(aH m f).natAbs<=2^(e+3):=by
 intro m hm h;have:∀k,k<=m->(aH k f).natAbs<=k*2^e:=by
  intro k
  induction k with
  |zero=>intro _;simp[aH]
  |succ k ih=>
   intro hk;have a:=ih ∅;have b:=h k ∅;have c:=Int.natAbs_add_le (aH k f) (f k);rw[Nat.succ_mul];show(aH k f+f k).natAbs<=_;lia
 have a:=this m (aY _);rw[Uo];have:m*2^e<=7*2^e:=qdh _ hm;lia
def Rise.inj {n c:Nat}{z:Nat->Nat}(h:Rise n c z):∀{j:Nat},i<j->j<c->z i<z j
 |0,a,_=>∅
 |j+1,a,b=>by
  have:=h.up j b;rcases Dt i j with q|q
  ·have:=Rise.inj h q ∅;lia
  ·have:i=j:=∅
   subst this;lia
section
variable {n t:Nat}{c:Nat->Nat}{z:Nat->Nat->Nat}{S:Nat->Int}
def zhs (hr:∀i,i<t->Rise n (c i) (z i))(R:Nat->Int)(ha:a<t):bE c z R a=aH n λp=>bF c z a p*R p:=by
 have H:=hr a ha;have:∀k,k<=c a->aH k (λj=>R (z a j))=aH n λp=>(if bW k (z a) p then 1 else 0)*R p:=by
  intro k
  induction k with
  |zero=>
   intro _;show(0:Int)=_;rw[cI (g:=λ_=>0) λp _=>by simp[bW],Yj]
  |succ k ih=>
   intro hk;show aH k _+R (z a k)=_;rw[ih ∅,cI (f:=λp=>(if bW (k+1) (z a) p then 1 else 0)*R p) (g:=λp=>(if bW k (z a) p then 1 else 0)*R p+if p=z a k then R (z a k)else 0) λp _=>?_,tZ,Ej,if_pos (H.lt k ∅)];have e:bW (k+1) (z a) p=(bW k (z a) p||z a k==p):=by unfold bW;rw[Hw,List.any_append];simp
   rw[e]
   by_cases h1:p=z a k
   ·have h2:bW k (z a) p=false:=by
     unfold bW;rw[qaO];intro j hj;have:=Rise.inj H (qai.mp hj) (show k<c a by lia);simp;lia
    rw[h2,if_pos h1];simp[h1]
   ·have h2:(z a k==p)=false:=by rw[qab];exact Ne.symm h1
    rw[h2,if_neg h1,Bool.or_false];lia
 exact this (c a) (aY _)
def bX (t:Nat)(A:Mx)(f:Nat->Int)(p:Nat):Int:=aH t λa=>f a*A a p
def bT (t:Nat)(S f:Nat->Int):Int:=aH t λa=>f a*S a
variable {A b w v k:Mx}{s:AA (Nat×Nat)}
def Inv.bl2 (I:Inv t n A b w v k)(hi:i<t)(hj:j<n):b i j=aH n λp=>bX t A (w i) p*v j p:=by
 rw[I.bl i hi j hj,zgb];refine cI λp _=>?_
 unfold bX;rw[qX,<-jQ];exact cI λa _=>by grind
def Inv.back (I:Inv t n A b w v k){i q:Nat}(hi:i<t)(hq:q<n):bX t A (w i) q=aH n λj=>b i j*k j q:=by
 have e1:(aH n λj=>b i j*k j q)=aH n λj=>aH n λp=>bX t A (w i) p*(k j q*v j p):=cI λj hj=>by
  rw[I.bl2 hi hj,qX,<-jQ];exact cI λp _=>by grind
 rw[e1,zgb,cI (g:=λp=>un q p*bX t A (w i) p) λp hp=>by rw[jQ,I.kv q p hq hp,qX],Om hq]
def Jx (t n:Nat)(A w:Mx)(R:Nat->Int)(i:Nat):Int:=aH n λp=>bX t A (w i) p*R p
def vI (I:Inv t n A b w v k)(R:Nat->Int)(q:Int)(hi:i<t)(hj:j<n):Jx t n A w (λp=>R p- -q*v j p) i=Jx t n A w R i+q*b i j:=by
 rw[I.bl2 hi hj,<-jQ];unfold Jx;rw[<-tZ];exact cI λp _=>by grind
def Zn (R:Nat->Int)(f:Nat->Int):bT t (λa=>aH n λp=>A a p*R p) f=aH n λp=>bX t A f p*R p:=by
 unfold bT bX;rw[cI (g:=λa=>aH n λp=>f a*(A a p*R p)) λa _=>by rw[jQ],zgb];refine cI λp _=>?_
 rw[qX,<-jQ];exact cI λa _=>by grind
theorem Fin.right (F:Fin t n A b w v k s){R S:Nat->Int}(h:∀i,i<t->Jx t n A w R i=bT t S (w i)):∀a,a<t->(aH n λp=>A a p*R p)=S a:=λa ha=>by
 have:=F.I.wi (λa=>(aH n λp=>A a p*R p)-S a) (λi hi=>by
  have e:=h i hi;unfold Jx at e;rw[<-Zn]at e;unfold bT at e;rw[cI (g:=λa=>w i a*(aH n λp=>A a p*R p)-w i a*S a) λa _=>by rw[Int.mul_sub],Br,e];lia) a ha
 lia
def Fin.row0 (F:Fin t n A b w v k s){r:Nat}(hr:r<t)(h:r∈opR t s):∀j,j<n->b r j=0:=λj hj=>by
 by_cases hc:j∈opC n s
 ·exact F.z r h j hc
 ·obtain⟨p,hp,e⟩:=(Oh hj).mp hc;have:=F.S.zc p hp r hr λz=>Ra F.S hp (z ▸ h)
  rwa[e]at this
def Out (n t:Nat)(A:Mx)(S:Nat->Int)(d:D):Prop:=
 (∃R:Nat->Int,d= .tup [.str "row",.tup (wI n R)]/\∀a,a<t->(aH n λp=>A a p*R p)=S a)\/
 ∃(f:Nat->Int) (Y:Int) (e:Nat),e<=20000000/\Y≠0/\Y.natAbs<=2^811/\(∀a,a<t->(f a).natAbs<=2^e)/\(∀p,p<n->Y∣bX t A f p)/\¬Y∣bT t S f/\d= .tup [.str "none",.tup (wL t λi=> .tup [.int (rp (f i) Y),.int (rq (f i) Y)])]
def nZ (ny:y≠0)(h:x.fmod y=0):x.fdiv y*y=x:=by
 have:=Ud x y;rw[h,qX]at this;omega
def ndvd (h:x.fmod y≠0):¬y∣x:=λ⟨q,e⟩=>h (by rw[e];exact Int.mul_fmod_right _ _)
end
section
variable {n t:Nat}{c:Nat->Nat}{z:Nat->Nat->Nat}{S:Nat->Int}
def rep0 (n:Nat):(List.replicate n [D.int 0]).flatten=wI n λ_=>0:=by
 induction n with
 |zero=>rfl
 |succ n ih=>
  rw[List.replicate_succ',List.flatten_append,ih];unfold wI wL;rw[Hw,kQ]
  rfl
theorem zk0 (n1:1<=n)(n7:n<=7)(t1:1<=t)(t7:t<=7)(hr:∀i,i<t->Rise n (c i) (z i))(hs:∀i,i<t->(S i).natAbs<=2^236):Ok (Lv [lU n t c z S]) λx=>∃d,Out n t (bF c z) S d/\x= .val d:=by
 simp![↓Lv,↓zjT];refine(yQ n1 n7 t1 t7).mono ?_;rintro _ ⟨b,w,v,k,s,F,rfl⟩;obtain⟨e,he,B⟩:=F.B;have mo:∀i j,i<t->j<t->jF (w i j) (S j)=true:=λi j hi hj=>fF (B.1 i j hi hj) (hs j hj) ∅ ∅
 have tb:∀i,i<t->(bT t S (w i)).natAbs<=2^(e+240):=λi hi=>by
  have:=sO (e:=e+236) t7 λj hj=>by
   have:=jX (B.1 i j hi hj) (hs j hj);rw[<-Uo]at this;exact this
  exact bO this (jE ∅)
 show OkQ _ (some _)
 generalize hd:lU n t c z S=d
 have i0:bG d (.int 0)=some (.int (n:Nat)):=by rw[<-hd];rfl
 have i2:bG d (.int 2)=some (.tup (wI t S)):=by rw[<-hd];rfl
 simp![i0,rep0,↓zim,wR,g1];refine⟨∅,?_⟩;refine Cs (λi ρ=>∃R s3 s4 s5 s6,(∀j,j<t->Jx t n (bF c z) w R j=if j<i then bT t S (w j)else 0)/\ρ=[.val d,.val (oD t n b w v k s),.val (.lst (wI n R)),s3,s4,s5,s6]) ⟨λ_=>0,_,_,_,_,λj hj=>?_,rfl⟩ ?_ ?_
 ·unfold Jx;rw[cI (g:=λ_=>0) λp _=>by simp,Yj];simp
 ·rintro r _ hrt ⟨R,s3,s4,s5,s6,hR,rfl⟩;simp![↓zif,i2];refine(zik (Sq.lst t (w r)) (Sq.tup t S) ∅ λj hj=>mo r j hrt hj).mono ?_;rintro _ rfl;simp![Sm];have we:(aH t λj=>w r j*S j)=bT t S (w r):=rfl;rw[we];have eb:=F.e r hrt;refine⟨λh=>?_,λh=>?_⟩
  ·obtain⟨p,hp,e1⟩:∃p∈s,p.1=r:= ~~~h
   obtain⟨p1,cc⟩:=p;obtain rfl:p1=r:=e1;have hc:cc<n:=(F.S.lt _ hp).2;have nz:b p1 cc≠0:=F.S.nz _ hp;have br:∀j,j<n->b p1 j=if j=cc then b p1 cc else 0:=λj hj=>by
    split
    ·rename_i q;rw[q]
    ·rename_i q;exact F.S.zr _ hp j hj q
   rw[Os rfl];simp![];refine(zh5 F.S.d1 hp hrt hc).mono ?_;rintro _ rfl;simp![];refine⟨nz,λq=>?_,λq=>?_⟩
   ·refine(zjc (Sq.lst t (w p1)) ∅ nz (eb cc hc)).mono ?_;rintro _ rfl;simp![];refine⟨_,.inr ⟨w p1,b p1 cc,e,he,nz,eb cc hc,λa ha=>B.1 p1 a hrt ha,λp hp=>?_,ndvd (~~~q),rfl⟩,rfl⟩;rw[F.I.back hrt hp,cI (g:=λj=>if j=cc then b p1 cc*k cc p else 0) λj hj=>by
     rw[br j hj]
     by_cases h:j=cc
     ·rw[if_pos h,if_pos h,h]
     ·rw[if_neg h,if_neg h];lia,Ej,if_pos hc]
    exact Int.dvd_mul_right _ _
   ·have q:(bT t S (w p1)).fmod (b p1 cc)=0:= ~~~q
    simp![↓zid,jU,zhP F.S.d1 hp,g2,bZ _ hc];refine⟨Ao nz (eb cc hc),?_⟩;have qb:(-(bT t S (w p1)).fdiv (b p1 cc)).natAbs<=2^(e+240):=by rw[iS];exact bO (Oy _ nz) (tb p1 hrt)
    refine(Rh (Sq.lst n R) (Sq.lst n (v cc)) ∅ λj hj=>fF qb (B.2.1 cc j hc hj) ∅ ∅).mono ?_;rintro _ rfl;simp![];refine⟨_,_,_,_,_,λj hj=>?_,rfl⟩;rw[vI F.I R _ hj hc,hR j hj]
    by_cases e2:j=p1
    ·subst e2;rw[if_neg ∅,if_pos ∅,nZ nz q];lia
    ·have:b j cc=0:=F.S.zc _ hp j hj e2;rw[this]
     by_cases e3:j<p1
     ·rw[if_pos e3,if_pos ∅];lia
     ·rw[if_neg e3,if_neg ∅];lia
  ·have op:r∈opR t s:=by
    unfold opR;rw[qah,h];exact⟨qai.mpr hrt,rfl⟩
   refine⟨λq=>?_,λq=>?_⟩
   ·refine(oX q (tb r hrt) ∅).mono ?_;rintro _ ⟨y,y2,yb,yn,rfl⟩;simp![];have y8:((y:Nat):Int).natAbs<=2^811:=bO yb (jE ∅);refine(zjc (Sq.lst t (w r)) ∅ ∅ y8).mono ?_;rintro _ rfl;simp![];refine⟨_,.inr ⟨w r,y,e,he,∅,y8,λa ha=>B.1 r a hrt ha,λp hp=>?_,yn,rfl⟩,rfl⟩;rw[F.I.back hrt hp,cI (g:=λ_=>0) λj hj=>by rw[F.row0 hrt op j hj,Rp],Yj];exact Sa _
   ·refine⟨R,_,_,_,_,λj hj=>?_,rfl⟩;rw[hR j hj]
    by_cases e2:j=r
    ·subst e2;rw[if_neg ∅,if_pos ∅,q]
    ·by_cases e3:j<r
     ·rw[if_pos e3,if_pos ∅]
     ·rw[if_neg e3,if_neg ∅]
 ·rintro _ ⟨R,s3,s4,s5,s6,hR,rfl⟩;simp![];exact⟨_,.inl ⟨R,rfl,F.right λi hi=>by rw[hR i hi,if_pos hi]⟩,rfl⟩
end
def Vn (k:Nat):((List.range k).map λ_=>true).all id=true:=by simp
def rst (q p:Int×Int):Int×Int:=(q.1*p.2+p.1*q.2,q.2*p.2)
def iR (q:Int×Int)(l:AA (Int×Int)):Int×Int:=l.foldl rst q
def wY (x y m:Nat)(hx:x<=m)(hy:y<=m):2^x+2^y<=2^(m+1):=by
 have:=jE hx;have:=jE hy;rw[Pv];lia
def Bu:∀(l:AA (Int×Int)) (i:Nat) (q:Int×Int),(∀p∈l,p.1.natAbs<=2^e/\p.2.natAbs<=2^811/\p.2≠0)->q.1.natAbs<=2^(e+850*i)->q.2.natAbs<=2^(811*i)->q.2≠0->(iR q l).1.natAbs<=2^(e+850*(i+l.length))/\(iR q l).2.natAbs<=2^(811*(i+l.length))/\(iR q l).2≠0
 |[],i,q,_,h1,h2,h3=>⟨h1,h2,h3⟩
 |p::l,i,q,h,h1,h2,h3=>by
  obtain⟨a1,a2,a3⟩:=h p iW;have b1:=jX h1 a2;have b2:=jX a1 h2;have b3:=jX h2 a2;rw[<-Uo]at b1 b2 b3;have:=Bu l (i+1) (rst q p) (λp hp=>h p (gE _ hp)) (by
   have c1:=Int.natAbs_add_le (q.1*p.2) (p.1*q.2);have c2:=wY (e+850*i+811) (e+811*i) (e+850*i+811) (aY _) ∅;have c3:2^(e+850*i+811+1)<=2^(e+850*(i+1)):=jE ∅;show(q.1*p.2+p.1*q.2).natAbs<=_;exact bO c1 (bO (Nat.add_le_add b1 b2) (bO c2 c3))) (bO b3 (jE ∅)) (Int.mul_ne_zero h3 a3)
  rw[eS,show i+(l.length+1)=i+1+l.length by lia];exact this
def uN {l:AA (Int×Int)}{p:Int×Int}(h:l[i]? =some p):iR (0,1) (l.take (i+1))=rst (iR (0,1) (l.take i)) p:=by
 rw[Qg,h];unfold iR;rw[List.foldl_append];rfl
theorem zpi {α:Type}{P Q f:α->Int}:∀(l:AA α) (T B S:Int),(∀a∈l,P a*Y=f a*Q a)->T*Y=B*S->(iR (T,B) (l.map λa=>(P a,Q a))).1*Y=(iR (T,B) (l.map λa=>(P a,Q a))).2*(S+(l.map f).sum)
 |[],T,B,S,_,h=>by show T*Y=B*(S+0);rw[h,Ox]
 |a::l,T,B,S,h,e=>by
  have:=zpi l (T*Q a+P a*B) (B*Q a) (S+f a) (λx hx=>h x (gE _ hx)) (by
   have:=h a iW;have e1:(T*Q a+P a*B)*Y=(T*Y)*Q a+(P a*Y)*B:=by grind
   rw[e1,e,this];grind)
  rw[eV,eV,List.sum_cons,<-Int.add_assoc];exact this
def zn5:∀(l:AA (Int×Int)) (q:Int×Int),(∀p∈l,0<p.2)->0<q.2->0<(iR q l).2
 |[],_,_,h=>h
 |p::l,q,h,h2=>zn5 l (rst q p) (λx hx=>h x (gE _ hx)) (Int.mul_pos h2 (h p iW))
def znd (n:Nat)(P:Nat->Bool)(f:Nat->Int):(((List.range n).filter P).map f).sum=aH n λj=>if P j=true then f j else 0:=by
 induction n with
 |zero=>rfl
 |succ n ih=>
  rw[Hw,List.filter_append,kQ,List.sum_append,ih];show _=aH n _+_;congr 1
  by_cases h:P n=true<;>simp[h]
def cL (p:Int×Int):D:= .tup [.int p.1,.int p.2]
theorem zgy {l:AA (Int×Int)}{e:Nat}(h:∀p∈l,p.1.natAbs<=2^e/\p.2.natAbs<=2^811/\p.2≠0)(hl:l.length<=7)(he:e<=50000000):Ok (Pe [.lst (l.map cL)]) λx=>x= .val (cL (iR (0,1) l)):=by
 simp![↓Pe,↓zeu,↓zeK];refine Xw (enc:=cL) (l:=l) (λi ρ=>∃s3 s4,ρ=[.val (.lst (l.map cL)),.val (.int (iR (0,1) (l.take i)).1),.val (.int (iR (0,1) (l.take i)).2),s3,s4]) ⟨_,_,rfl⟩ ?_ ?_
 ·rintro i p _ hi ⟨s3,s4,rfl⟩;have hil:i<l.length:=(qat.mp hi).1;obtain⟨a1,a2,a3⟩:=h p (dY hi);have bd:=Bu (e:=e) (l.take i) 0 (0,1) (λp hp=>h p (qcS hp)) (by simp) (by simp) (by decide);rw[yA,qcX ∅]at bd;have w1:=fF bd.1 a2 ∅ ∅;have w2:=fF a1 bd.2.1 ∅ ∅;have w3:=fF bd.2.1 a2 ∅ ∅;simp![↓zeL,cL,w1,w2,w3,uN hi];exact⟨_,_,rfl⟩
 ·rintro _ ⟨s3,s4,rfl⟩;simp![Pz]
  rfl
def mS {α:Type}(l:AA α)(b:α->Bool)(F:α->D):l.filterMap (λi=>if b i=true then some (F i)else none)=(l.filter b).map F:=by
 rw[<-Po,<-Py,Xa];exact Hi _ λp _=>by by_cases c:b p=true<;>simp[c,Option.guard]
def Qz (p c:Nat)(z:Nat->Nat):tT (.int p) (.tup (bJ c z))=some (.bl (bW c z p)):=by
 have e1:bJ c z=((List.range c).map λi=>((z i:Nat):Int)).map .int:=by unfold bJ wI wL;rw[gC];rfl
 rw[show tT (.int p) (.tup (bJ c z))=tT (.int p) (.lst (bJ c z))from rfl,e1,inL];congr 2;unfold bW;rw[qc7,qcL,qcN,qb0]
 constructor
 ·rintro⟨i,hi,e⟩;exact⟨i,hi,by simp;lia⟩
 ·rintro⟨i,hi,e⟩;exact⟨i,hi,by simp at e;lia⟩
section
variable {n t:Nat}{c:Nat->Nat}{z:Nat->Nat->Nat}{S:Nat->Int}{P Q:Nat->Int}
theorem zlj (y0:0<y)(hy:y.natAbs<=2^811)(h:Int.gcd x y=1):Ok (Tu [.int x,.int y]) λz=>z= .val (.bl true):=by
 simp![↓Tu,↓zgE];refine⟨λ_=>?_,λz=>∅⟩;refine(zkR hy).mono ?_;rintro _ rfl;simp![h]
 rfl
theorem zhV {T B:Int}(b0:0<B):Ok (Np [cL (T,B)]) λz=>z= .val (.bl (T%B==0)):=by
 simp![↓Np,↓zgS,cL];exact b0
abbrev Ob (t:Nat)(P Q:Nat->Int):D:= .tup (wL t λi=>cL (P i,Q i))
theorem zjM (t7:t<=7)(h:∀i,i<t->0<Q i/\(Q i).natAbs<=2^811/\Int.gcd (P i) (Q i)=1):Ok (Wn [Ob t P Q]) λz=>z= .val (.bl true):=by
 simp![↓Wn,↓zer,↓zeO];refine⟨∅,iN (λρ=>∃a b,ρ=[a,b]) (λ_=> .bl true) ⟨_,_,rfl⟩ ?_ ?_⟩
 ·rintro i _ hi ⟨a,b,rfl⟩;obtain⟨h1,h2,h3⟩:=h i hi;simp![↓zey,cL];refine(zlj h1 h2 h3).mono ?_;rintro _ rfl;simp![];exact⟨_,_,rfl⟩
 rintro _ ⟨a,b,rfl⟩;simp![zk7,Vn]
def Ds (t:Nat)(c:Nat->Nat)(z:Nat->Nat->Nat)(P Q:Nat->Int)(p:Nat):AA (Int×Int):=((List.range t).filter λi=>bW (c i) (z i) p).map λi=>(P i,Q i)
theorem zk2 (t7:t<=7)(p:Nat):Ok (Ux [.tup (dR t c z),Ob t P Q,.int (p:Nat)]) λx=>x= .own ((Ds t c z P Q p).map cL):=by
 simp![↓Ux,↓zfy,↓ze3,dR,Zu];refine⟨∅,Oa (λρ=>∃a b,ρ=[.val (.int (p:Nat)),a,b]) (λi=>if bW (c i) (z i) p=true then some (cL (P i,Q i))else none) ⟨_,_,rfl⟩ ?_ ?_⟩
 ·rintro i _ hi ⟨a,b,rfl⟩;simp![↓zfl,↓zfk,Qz];exact⟨λh=>⟨by rw[if_pos h],_,_,rfl⟩,λh=>⟨by rw[if_neg (by simp[h])],_,_,rfl⟩⟩
 rintro _ ⟨a,b,rfl⟩;simp![mS];unfold Ds;rw[gC];rfl
theorem zjJ (t7:t<=7)(h:∀i,i<t->jF (P i) (S i)=true):Ok (Qq [Ob t P Q,.tup (wI t S)]) λx=>x= .own (wL t λi=>cL (P i*S i,Q i)):=by
 simp![↓Qq,↓zeg,↓zex,Zu];refine⟨∅,iN (λρ=>∃a b,ρ=[a,b]) (λi=>cL (P i*S i,Q i)) ⟨_,_,rfl⟩ ?_ ?_⟩
 ·rintro i _ hi ⟨a,b,rfl⟩;simp![↓zeh,cL,h i hi];exact⟨_,_,rfl⟩
 rintro _ ⟨a,b,rfl⟩;simp![]
theorem zlo (h:Sq d n r)(n7:n<=7)(t7:t<=7)(hr:∀i,i<t->Rise n (c i) (z i)):Ok (Sy [d,.tup (dR t c z)]) λx=>x= .val (.tup (wI t (bE c z r))):=by
 simp![↓Sy,↓zgR,↓zgt,dR];refine⟨∅,iN (λρ=>∃a,ρ=[.val d,a]) (λi=> .int (bE c z r i)) ⟨_,rfl⟩ ?_ ?_⟩
 ·rintro i _ hi ⟨a,rfl⟩;have cn:=(hr i hi).cn;simp![↓zf1,↓zcJ,↓zeP,↓zek,bJ];refine⟨∅,iN (λρ=>∃a,ρ=[.val d,a]) (λj=> .int (r (z i j))) ⟨_,rfl⟩ ?_ ?_⟩
  ·rintro j _ hj ⟨a,rfl⟩;simp![↓zeA,h.ix,bZ _ ((hr i hi).lt j hj)];exact⟨_,rfl⟩
  rintro _ ⟨a,rfl⟩;simp![zjU,Ou];exact⟨rfl,_,rfl⟩
 rintro _ ⟨a,rfl⟩;simp![]
theorem zkJ {T B Y W:Int}(nb:0<B)(ny:Y≠0)(h:T*Y=B*W):(T%B==0)=decide (Y∣W):=by
 by_cases d:Y∣W
 ·rw[fL d];obtain⟨q,rfl⟩:=d;have:T=B*q:=Int.eq_of_mul_eq_mul_right ny (by rw[h];grind);rw[this,Int.mul_emod_right];rfl
 ·rw[gQ d,qab];intro z;obtain⟨q,rfl⟩:=Int.dvd_of_emod_eq_zero z;exact d ⟨q,Int.eq_of_mul_eq_mul_left (show B≠0 by lia) (by rw[<-h];grind)⟩
def Gv (f:Nat->Int)(p:Nat):((((List.range t).filter λi=>bW (c i) (z i) p)).map f).sum=bX t (bF c z) f p:=by
 rw[znd];unfold bX bF;refine cI λi _=>?_
 cases bW (c i) (z i) p<;>simp
theorem zi7 (n7:n<=7)(t7:t<=7)(hs:∀i,i<t->(S i).natAbs<=2^236){f:Nat->Int}{Y:Int}{e:Nat}(ny:Y≠0)(he:e<=20000000)(hQ:∀i,i<t->0<Q i/\(Q i).natAbs<=2^811/\Int.gcd (P i) (Q i)=1)(hP:∀i,i<t->(P i).natAbs<=2^e)(hf:∀i,i<t->P i*Y=f i*Q i)(h1:∀p,p<n->Y∣bX t (bF c z) f p):Ok (Vc [lU n t c z S,Ob t P Q]) λx=>x= .val (.bl (!decide (Y∣bT t S f))):=by
 generalize hd:lU n t c z S=d
 have i0:bG d (.int 0)=some (.int (n:Nat)):=by rw[<-hd];rfl
 have i1:bG d (.int 1)=some (.tup (dR t c z)):=by rw[<-hd];rfl
 have i2:bG d (.int 2)=some (.tup (wI t S)):=by rw[<-hd];rfl
 have sl:(dR t c z).length=t:=bV _ _;simp![↓Vc,↓zck,i1,sl,bV];refine(zjM t7 hQ).mono ?_;rintro _ rfl;simp![↓zcI,↓zcN,i0];refine⟨iH ∅ ∅,∅,iN (λρ=>∃y,ρ=[.val (.tup (dR t c z)),.val (Ob t P Q),y]) (λp=>cL (iR (0,1) (Ds t c z P Q p))) ⟨_,rfl⟩ ?_ ?_⟩
 ·rintro p _ hp ⟨y,rfl⟩;simp![↓zcF];refine(zk2 t7 p).mono ?_;rintro _ rfl;simp![];refine(zgy (e:=e) (λx hx=>?_) ?_ ∅).mono ?_
  ·obtain⟨i,hi,rfl⟩:=qb0.mp hx;have hi:=qai.mp (qah.mp hi).1;exact⟨hP i hi,(hQ i hi).2.1,by have:=(hQ i hi).1;show Q i≠0;lia⟩
  ·unfold Ds;rw[cO];exact bO (Ab _ _) (by rw[Aj];exact t7)
  rintro _ rfl;simp![];exact⟨_,rfl⟩
 rintro _ ⟨y,rfl⟩;simp![↓zcP,bV];refine⟨∅,iN (λρ=>∃y,ρ=[y]) (λ_=> .bl true) ⟨_,rfl⟩ ?_ ?_⟩
 ·rintro p _ hp ⟨y,rfl⟩;have m:=zpi (P:=P) (Q:=Q) (f:=f) (Y:=Y) ((List.range t).filter λi=>bW (c i) (z i) p) 0 1 0 (λi hi=>hf i (qai.mp (qah.mp hi).1)) (by simp);have pos:=zn5 (Ds t c z P Q p) (0,1) (λx hx=>by
   obtain⟨i,hi,rfl⟩:=qb0.mp hx;exact(hQ i (qai.mp (qah.mp hi).1)).1) (by decide)
  rw[Int.zero_add,Gv]at m;have m:(iR (0,1) (Ds t c z P Q p)).1*Y=(iR (0,1) (Ds t c z P Q p)).2*bX t (bF c z) f p:=m;simp![↓zcO];refine(zhV (T:=(iR (0,1) (Ds t c z P Q p)).1) pos).mono ?_;rintro _ rfl;simp![];rw[zkJ pos ny m,fL (h1 p hp)];exact⟨rfl,_,rfl⟩
 rintro _ ⟨y,rfl⟩;simp![zk7,Vn,↓zcG,i2];refine(zjJ t7 λi hi=>fF (hP i hi) (hs i hi) ∅ ∅).mono ?_;rintro _ rfl;simp![];have el:(wL t λi=>cL (P i*S i,Q i))=((List.range t).map λi=>(P i*S i,Q i)).map cL:=by unfold wL;rw[gC];rfl
 rw[el];refine(zgy (e:=e+236) (λx hx=>?_) (by simp;lia) ∅).mono ?_
 ·obtain⟨i,hi,rfl⟩:=qb0.mp hx;have hi:=qai.mp hi;refine⟨?_,(hQ i hi).2.1,by have:=(hQ i hi).1;show Q i≠0;lia⟩;rw[Uo];exact jX (hP i hi) (hs i hi)
 rintro _ rfl;have m:=zpi (P:=λi=>P i*S i) (Q:=Q) (f:=λi=>f i*S i) (Y:=Y) (List.range t) 0 1 0 (λi hi=>by
  have:=hf i (qai.mp hi);have e1:P i*S i*Y=(P i*Y)*S i:=by grind
  rw[e1,this];grind) (by simp)
 have pos:=zn5 ((List.range t).map λi=>(P i*S i,Q i)) (0,1) (λx hx=>by
  obtain⟨i,hi,rfl⟩:=qb0.mp hx;exact(hQ i (qai.mp hi)).1) (by decide)
 rw[Int.zero_add,Ou]at m;simp![];refine(zhV (T:=(iR (0,1) ((List.range t).map λi=>(P i*S i,Q i))).1) pos).mono ?_;rintro _ rfl;simp![];rw[zkJ pos ny m]
 rfl
theorem zib (n7:n<=7)(t7:t<=7)(hr:∀i,i<t->Rise n (c i) (z i))(hs:∀i,i<t->(S i).natAbs<=2^236)(h:Out n t (bF c z) S d):Ok (lP [lU n t c z S,d]) λx=>x= .val (.bl true):=by
 rcases h with⟨R,rfl,hR⟩|⟨f,Y,e,he,ny,hy,hf,h1,h2,rfl⟩
 ·have i0:bG (lU n t c z S) (.int 0)=some (.int (n:Nat)):=rfl;have i1:bG (lU n t c z S) (.int 1)=some (.tup (dR t c z)):=rfl;have i2:bG (lU n t c z S) (.int 2)=some (.tup (wI t S)):=rfl;have e:(wI t (bE c z R))=wI t S:=Do λi hi=>by rw[zhs hr R hi,hR i hi]
  have p1:Pl 1 (.tup (wI t S)):=Hf (pl_w λc=>Ke 0 _);simp![↓lP,↓Tv,↓Zl,↓zfS,i0,i1,i2,bV];refine(zlo (Sq.tup n R) n7 t7 hr).mono ?_;rintro _ rfl;simp![i2,e,p1.eq ∅]
 ·have e_nr:cX (.str "none") (.str "row")=some (.bl false):=by rw[zlS];rfl
  simp![↓lP,↓Tv,e_nr,↓zbJ];have R:=λi=>rat (x:=f i) ny
  refine(zi7 (c:=c) (z:=z) (P:=λi=>rp (f i) Y) (Q:=λi=>rq (f i) Y) n7 t7 hs ny he (λi hi=>⟨(R i).2.2.1,bO (R i).2.2.2.2.2.2 hy,(R i).2.2.2.1⟩) (λi hi=>bO (R i).2.2.2.2.2.1 (hf i hi)) (λi hi=>(R i).2.2.2.2.1) h1).mono ?_;rintro _ rfl;simp![gQ h2]
def Out.excl {d d':D}(h:Out n t A S d)(h':Out n t A S d'):bG d (.int 0)=bG d' (.int 0):=by
 have no:∀{R f:Nat->Int} {Y:Int},(∀a,a<t->(aH n λp=>A a p*R p)=S a)->(∀p,p<n->Y∣bX t A f p)->Y∣bT t S f:=λ{R f Y} hR h1=>by
  have e1:bT t S f=aH n λp=>bX t A f p*R p:=by
   rw[<-Zn];exact cI λa ha=>by show f a*S a=f a*(aH n λp=>A a p*R p);rw[hR a ha]
  rw[e1];have:∀k,k<=n->Y∣aH k λp=>bX t A f p*R p:=by
   intro k
   induction k with
   |zero=>exactλ_=>Sa _
   |succ k ih=>exactλhk=>Int.dvd_add (ih ∅) (qdv (h1 k ∅))
  exact this n (aY _)
 rcases h with⟨R,rfl,hR⟩|⟨f,Y,e,he,ny,hy,hf,h1,h2,rfl⟩<;>rcases h' with⟨R',rfl,hR'⟩|⟨f',Y',e',he',ny',hy',hf',h1',h2',rfl⟩
 ·rfl
 ·exact AH (no hR h1') h2'
 ·exact AH (no hR' h1) h2
 ·rfl
end
def nI (x:Nat):D:= .int x
def pM (l:AA Nat):l.map nI=wL l.length λi=> .int ((l.getD i 0:Nat):Int):=by
 apply uD;intro i
 by_cases h:i<l.length
 ·rw[bZ _ h,cR,bA h];simp[nI,List.getD,h]
 ·rw[gM (by simp;lia),gM (by rw[bV];lia)]
def xF (key:Nat->Int)(p:AA Nat):AA Nat:=(jM p.length (HT.jO (p.map λx=>[key x]))).map λi=>p.getD i 0
def znl (key:Nat->Int)(p:AA Nat):(xF key p).Perm p:=by
 have pm:=Vh (n:=p.length) (HT.Qs (p.map λx=>[key x]));have e:(List.range p.length).map (λi=>p.getD i 0)=p:=by
  apply uD;intro i
  by_cases hi:i<p.length
  ·simp[hi]
  ·simp[hi]
 have:=pm.map λi=>p.getD i 0
 rw[e]at this;exact this
def pH (key:Nat->Int)(p:AA Nat):(xF key p).Pairwise λa b=>key a<=key b:=by
 have o:=HT.Qs (p.map λx=>[key x]);have pm:=Vh (n:=p.length) o;unfold xF;rw[qc0];intro i j hi hj hij;rw[cO]at hi hj;have up:=Iv o (kY hij) (bA hi) (bA hj);have ra:=qai.mp (pm.mem_iff.mp (Pf hi));have rb:=qai.mp (pm.mem_iff.mp (Pf hj));simp only[List.getElem_map]
 generalize (jM p.length (HT.jO (p.map λx=>[key x])))[i]=a at up ra ⊢
 generalize (jM p.length (HT.jO (p.map λx=>[key x])))[j]=b at up rb ⊢
 unfold HT.jO at up;simp only[List.getD,cR,bA ra,bA rb,Ex,Nv]at up ⊢;change (if key p[b]=key p[a]then _ else decide (key p[b]<key p[a]))=false at up
 by_cases h:key p[b]=key p[a]
 ·lia
 ·rw[if_neg h,qcJ]at up;lia
def Az (key:Nat->Int)(p:AA Nat):(jM p.length (HT.jO (p.map λx=>[key x]))).map (λi=>(p.map nI).getD i .non)=(xF key p).map nI:=by
 have pm:=Vh (n:=p.length) (HT.Qs (p.map λx=>[key x]));unfold xF;rw[gC];apply qcq;intro i hi;have:=qai.mp (pm.mem_iff.mp hi);simp[this]
theorem xE:∀p:AA Nat,eG (p.map nI)=some (p.map λ(x:Nat)=>(x:Int)):=λp=>by
 have:p.map nI=(p.map λ(x:Nat)=>(x:Int)).map D.int:=by rw[gC];rfl
 rw[this,Yc]
theorem Ij (p:AA Nat)(h:p.length<64):rJ [.lst (p.map nI)]=some ((xF (λ(x:Nat)=>(x:Int)) p).map nI):=by
 unfold rJ;show(if(p.map nI).length<64 then Option.map (λnss=>nP nss (p.map nI)) (Nl (p.map nI))else none)=_;have ky:Nl (p.map nI)=some (p.map λ(x:Nat)=>[(x:Int)]):=by
  unfold Nl;rw[xE];show some _=_;rw[gC]
  rfl
 rw[cO,if_pos h,ky];show some (nP _ _)=_;unfold nP;rw[cO,Az]
def Bt (a:Str):gI (.str a) (.str a)=some (.bl false):=by
 unfold gI;rw[show bC (.str a)=true from rfl,show depth (.str a)=0 from rfl];simp[eE]
def sR {l:AA Nat}(p:l.Perm l')(g:Nat->Int):(l.map g).sum=(l'.map g).sum:=by
 induction p with
 |nil=>rfl
 |cons x _ ih=>simp[ih]
 |swap x y l=>simp;lia
 |trans _ _ a b=>rw[a,b]
def nR (L:AA Nat)(f:Nat->Int):aH L.length (λi=>f (L.getD i 0))=(L.map f).sum:=by
 rw[<-Ou];congr 1;apply uD;intro i
 by_cases h:i<L.length
 ·simp[h]
 ·rw[gM (by simp;lia),gM (by simp;lia)]
def zoD {L:AA Nat}(h:i<L.length):L.getD i 0∈L:=by
 rw[jV,bA h];exact Pf h
def rL {L:AA Nat}(nd:L.Nodup)(hi:i<L.length)(hj:j<L.length):L.getD i 0=L.getD j 0↔i=j:=by
 rw[jV,bA hi,jV,bA hj];exact qau nd
def tJ {α β:Type}(f:α->β):∀(l:AA α) (k:Nat),(l.map f).eraseIdx k=(l.eraseIdx k).map f
 |[],_=>by simp
 |_::_,0=>rfl
 |x::l,k+1=>by simp[tJ f l k]
def zov {α:Type}:∀{l:AA α} {k:Nat} (h:k<l.length),([l[k]]++l.eraseIdx k).Perm l
 |x::l,0,_=> .refl _
 |x::l,k+1,h=>((List.Perm.swap x _ _).trans ((zov (l:=l) (k:=k) (~~~h)).cons x))
theorem rV (h:eR ds){m:Nat}(m9:m<=100):Ok (Mp ds [.int (m:Nat)]) λx=>∃(l:AA Nat) (ds':AA D),eR ds'/\l.Perm (List.range m)/\x=(.own (l.map nI),ds'):=by
 simp![↓Mp,↓zeD,↓zel];refine⟨iH ∅ ∅,∅,iH ∅ ∅,∅,zoY (λj acc ρ=>∃(a r:AA Nat) (ds':AA D) (s:Sl),hX [s]=true/\eR ds'/\(a++r).Perm (List.range m)/\a.length=j/\acc=a.map nI/\ρ=[.par (r.map nI),.par ds',s]) ⟨[],List.range m,ds,.emp,rfl,h,.refl _,rfl,rfl,?_⟩ ?_ ?_⟩
 ·rfl
 ·rintro j _ _ hj ⟨a,r,d1,s,no,h1,pm,al,rfl,rfl⟩;have ll:r.length=m-j:=by have:=pm.length_eq;simp at this;lia
  simp![↓zes,ll];refine(fK h1 (m:=((m-j:Nat):Int)) ∅ ∅).mono ?_;rintro _ ⟨k,d2,hk,h2,rfl⟩;have kl:k<r.length:=∅
  have ex:(r.map nI)[k]? =some (.int ((r[k]:Nat):Int)):=by rw[cR,bA kl];rfl
  simp![ll,ex];refine⟨⟨∅,∅,∅⟩,a++[r[k]],r.eraseIdx k,d2,.val (.int j),rfl,h2,?_,by simp;lia,by simp[nI],by rw[tJ]⟩;refine List.Perm.trans ?_ pm;rw[qbw];exact List.Perm.append_left a (zov kl)
 ·rintro _ _ ⟨a,r,d1,s,no,h1,pm,al,rfl,rfl⟩;simp![];have rl:r=[]:=Wc (by have:=pm.length_eq;simp at this;lia);subst rl;refine⟨a,d1,h1,~~~pm,rfl⟩
structure Prm (m:Nat)(o:Nat->Nat):Prop where
 lt:∀i,i<m->o i<m
 inj:∀i j,i<m->j<m->o i=o j->i=j
 sur:∀q,q<m->∃i,i<m/\o i=q
 sum:∀g:Nat->Int,aH m (λi=>g (o i))=aH m g
def mZ (h:eR ds){m:Nat}(m9:m<=100):Ok (Mp ds [.int (m:Nat)]) λx=>∃(o:Nat->Nat) (ds':AA D),eR ds'/\Prm m o/\x=(.own (wL m λi=> .int (o i:Nat)),ds'):=by
 refine(rV h m9).mono ?_;rintro _ ⟨l,d2,h2,pm,rfl⟩;have ll:l.length=m:=by have:=pm.length_eq;simpa using this
 have nd:l.Nodup:=pm.nodup_iff.mpr List.nodup_range;refine⟨λi=>l.getD i 0,d2,h2,⟨λi hi=>?_,λi j hi hj e=>?_,λq hq=>?_,λg=>?_⟩,by rw[pM,ll]⟩
 ·exact qai.mp (pm.mem_iff.mp (zoD ∅))
 ·exact(rL nd ∅ ∅).mp e
 ·obtain⟨i,hi,e⟩:=qc9 (pm.mem_iff.mpr (qai.mpr hq));exact⟨i,∅,by simp[List.getD,hi,e]⟩
 ·have:=nR l g;rw[ll]at this;rw[this,sR pm,Ou]
def e_nr:cX (.str "none") (.str "row")=some (.bl false):=by rw[zlS];rfl
def sr (p:AA Nat):AA Nat:=xF (λ(x:Nat)=>(x:Int)) p
def Tt (p:AA Nat):(sr p).Perm p:=znl _ _
def Nq (p:AA Nat):(sr p).length=p.length:=(Tt p).length_eq
def xX {n:Nat}{p:AA Nat}(h0:p≠[])(nd:p.Nodup)(lt:∀x∈p,x<n)(hl:p.length<=n):Rise n p.length λj=>(sr p).getD j 0:=by
 have:=zpj (n:=n) (Z:=sr p) (λh=>h0 (Wc (by rw[<-Nq,h];rfl))) ?_ λx hx=>lt x ((Tt p).mem_iff.mp hx)
 ·rw[Nq]at this;exact this hl
 ·have up:=pH (λx=>(x:Int)) p;have nd2:(sr p).Nodup:=(Tt p).nodup_iff.mpr nd;rw[qc0];intro i j hi hj hij;have a:(((sr p)[i]:Nat):Int)<=((sr p)[j]:Nat):=(qc0.mp up) i j hi hj hij;have b:=(qc0.mp (List.nodup_iff_pairwise_ne.mp nd2)) i j hi hj hij;lia
def ins {α:Type}(x:Nat)(v:α)(g:Nat->α)(i:Nat):α:=if i<x then g i else if i=x then v else g (i-1)
def Cj {t x:Nat}(hx:x<=t)(v:D)(g:Nat->D):(wL t g).take x++v::(wL t g).drop x=wL (t+1) (ins x v g):=by
 apply uD;intro j
 by_cases hj:j<t+1
 ·rw[bZ _ hj];unfold ins
  by_cases h1:j<x
  ·rw[fT (by simp[bV];lia),qc8,if_pos h1,bZ _ ∅,if_pos h1]
  ·rw[pI (by simp[bV];lia),if_neg h1];have l:((wL t g).take x).length=x:=by simp[bV];lia
   rw[l]
   by_cases h2:j=x
   ·subst h2;rw[Nat.sub_self,if_pos rfl];rfl
   ·rw[if_neg h2];obtain⟨d,hd⟩:∃d,j-x=d+1:=⟨j-x-1,∅⟩;rw[hd,Ag,List.getElem?_drop,bZ _ ∅];congr 2;lia
 ·rw[gM (by simp[bV];lia),gM (by rw[bV];lia)]
def zjq (v:Int)(g:Nat->Int):∀{t x:Nat},x<=t->aH (t+1) (ins x v g)=aH t g+v
 |0,x,h=>by
  have:x=0:=∅
  subst this
  rfl
 |t+1,x,h=>by
  show aH (t+1) (ins x v g)+ins x v g (t+1)=aH t g+g t+v
  by_cases e:x<=t
  ·rw[zjq v g e];unfold ins;rw[if_neg ∅,if_neg ∅,Nat.add_sub_cancel];lia
  ·have:x=t+1:=∅
   subst this;rw[cI (g:=g) λi hi=>by unfold ins;rw[if_pos hi]];unfold ins;rw[if_neg ∅,if_pos rfl];rfl
def zop (x:Nat)(a b:Int)(f g:Nat->Int):(λi=>ins x a f i*ins x b g i)=ins x (a*b) λi=>f i*g i:=by
 funext i;unfold ins;split
 ·rfl
 ·split<;>rfl
def znQ {α:Type}{p:α->Prop}{x t:Nat}{v:α}{g:Nat->α}(hv:p v)(hg:∀i,i<t->p (g i))(hx:x<=t):∀i,i<t+1->p (ins x v g i):=λi hi=>by
 unfold ins
 split
 ·exact hg i ∅
 ·split
  ·exact hv
  ·exact hg _ ∅
section
variable {n t:Nat}{c:Nat->Nat}{z:Nat->Nat->Nat}{r S P Q f:Nat->Int}{Y:Int}
structure J (n t:Nat)(c:Nat->Nat)(z:Nat->Nat->Nat)(S P Q f:Nat->Int)(Y:Int):Prop where
 rise:∀i,i<t->Rise n (c i) (z i)
 q:∀i,i<t->0<Q i/\(Q i).natAbs<=2^811/\Int.gcd (P i) (Q i)=1
 p:∀i,i<t->(P i).natAbs<=2^10
 pf:∀i,i<t->P i*Y=f i*Q i
 pl:∀p,p<n->Y∣bX t (bF c z) f p
 no:¬Y∣bT t S f
 bd:∀i,i<t->(S i).natAbs<=2^236
def vH {x c':Nat}(p:Nat):(λi=>bF (ins x c' c) (ins x z' z) i p)=ins x (if bW c' z' p then 1 else 0) λi=>bF c z i p:=by
 funext i
 unfold bF ins
 split
 ·rfl
 ·split<;>rfl
theorem J.ins1 (h:J n t c z S P Q f Y){x c':Nat}{z':Nat->Nat}(hx:x<=t)(hr:Rise n c' z')(hv:v.natAbs<=2^236):J n (t+1) (ins x c' c) (ins x z' z) (ins x v S) (ins x 0 P) (ins x 1 Q) (ins x 0 f) Y where
 rise:=λi hi=>by
  unfold ins
  split
  ·exact h.rise i ∅
  ·split
   ·exact hr
   ·exact h.rise _ ∅
 q:=λi hi=>by
  unfold ins
  split
  ·exact h.q i ∅
  ·split
   ·exact⟨by decide,by decide+kernel,by decide⟩
   ·exact h.q _ ∅
 p:=znQ (p:=λy:Int=>y.natAbs<=2^10) (by decide) h.p hx
 pf:=λi hi=>by
  unfold ins
  split
  ·exact h.pf i ∅
  ·split
   ·lia
   ·exact h.pf _ ∅
 pl:=λp hp=>by
  have e:bX (t+1) (bF (ins x c' c) (ins x z' z)) (ins x 0 f) p=bX t (bF c z) f p:=by
   unfold bX;have:=vH (c:=c) (z:=z) (x:=x) (c':=c') (z':=z') p;rw[show(λa=>ins x 0 f a*bF (ins x c' c) (ins x z' z) a p)=λa=>ins x 0 f a*(ins x (if bW c' z' p then 1 else 0) (λi=>bF c z i p)) a from funext λa=>by rw[<-congrFun this a],zop,zjq _ _ hx,Rp,Ox]
  rw[e];exact h.pl p hp
 no:=by
  have e:bT (t+1) (ins x v S) (ins x 0 f)=bT t S f:=by
   unfold bT;rw[zop,zjq _ _ hx,Rp,Ox]
  rw[e];exact h.no
 bd:=znQ (p:=λy:Int=>y.natAbs<=2^236) hv h.bd hx
def Mu (p:AA Nat)(x:Nat):bW p.length (λj=>(sr p).getD j 0) x=decide (x∈p):=by
 unfold bW;rw[qc7,qcN,decide_eq_true_iff]
 constructor
 ·rintro⟨j,hj,e⟩;have e:(sr p).getD j 0=x:= ~~~e
  rw[<-e];exact(Tt p).mem_iff.mp (zoD (by rw[Nq];exact qai.mp hj))
 ·intro h;obtain⟨j,hj,e⟩:=qc9 ((Tt p).mem_iff.mpr h);rw[Nq]at hj;exact⟨j,qai.mpr hj,by simp[List.getD,Nq,hj,e]⟩
structure K (n t:Nat)(l:Nat->List Nat)(off:Int)(P Q f:Nat->Int)(Y:Int):Prop where
 t2:1<=t
 t7:t<=7
 len:∀i,i<t->l i≠[]/\(l i).Nodup/\(∀x∈l i,x<n)/\(l i).length<=n
 q:∀i,i<t->0<Q i/\(Q i).natAbs<=2^811/\Int.gcd (P i) (Q i)=1
 p:∀i,i<t->(P i).natAbs<=2^10
 pf:∀i,i<t->P i*Y=f i*Q i
 pl:∀p,Y∣aH t λi=>f i*if p∈l i then 1 else 0
 no:¬Y∣f (t-1)*off
 ob:off.natAbs<=100
abbrev lc (l:Nat->AA Nat)(i:Nat):Nat:=(l i).length
abbrev lz (l:Nat->AA Nat)(i j:Nat):Nat:=(sr (l i)).getD j 0
def K.toJ {l:Nat->AA Nat}(h:K n t l off P Q f Y)(n7:n<=7)(hb:Bds n r):J n t (lc l) (lz l) (λi=>if i=t-1 then bE (lc l) (lz l) r i+off else bE (lc l) (lz l) r i) P Q f Y:=by
 have rise:∀i,i<t->Rise n (lc l i) (lz l i):=λi hi=>by
  obtain⟨h1,h2,h3,h4⟩:=h.len i hi;exact xX h1 h2 h3 h4
 have pl:∀p,p<n->Y∣bX t (bF (lc l) (lz l)) f p:=λp hp=>by
  have:=h.pl p;unfold bX bF;rw[cI (g:=λi=>f i*if p∈l i then 1 else 0) λi _=>by rw[Mu];by_cases q:p∈l i<;>simp[q]]
  exact this
 refine⟨rise,h.q,h.p,h.pf,pl,λd=>h.no ?_,λi hi=>?_⟩
 ·have d2:Y∣bT t (λa=>aH n λp=>bF (lc l) (lz l) a p*r p) f:=by
   rw[Zn];have:∀k,k<=n->Y∣aH k λp=>bX t (bF (lc l) (lz l)) f p*r p:=by
    intro k
    induction k with
    |zero=>exactλ_=>Sa _
    |succ k ih=>exactλhk=>Int.dvd_add (ih ∅) (qdv (pl k ∅))
   exact this n (aY _)
  have e:bT t (λi=>if i=t-1 then bE (lc l) (lz l) r i+off else bE (lc l) (lz l) r i) f=bT t (λa=>aH n λp=>bF (lc l) (lz l) a p*r p) f+f (t-1)*off:=by
   unfold bT;rw[cI (g:=λa=>f a*(aH n λp=>bF (lc l) (lz l) a p*r p)+if a=t-1 then f (t-1)*off else 0) λa ha=>by
    rw[<-zhs rise r ha];show f a*(if a=t-1 then bE (lc l) (lz l) r a+off else bE (lc l) (lz l) r a)=_
    by_cases q:a=t-1
    ·rw[if_pos q,if_pos q,q,Int.mul_add]
    ·rw[if_neg q,if_neg q,Ox],tZ,Ej,if_pos (by have:=h.t2;lia)]
  rw[e]at d;have:=Int.dvd_sub d d2;rwa[Int.add_comm,Int.add_sub_cancel]at this
 ·have b1:=zoK n7 rise hb i hi;have b0:=h.ob;have e0:((2^223:Nat):Int)=2^223:=by decide+kernel
  have b2:(2:Nat)^223+100<=2^236:=by decide+kernel
  split<;>lia
end
abbrev Gw (t:Nat)(l:Nat->AA Nat):D:= .lst (wL t λi=> .lst ((l i).map nI))
def KO (m:Nat)(x:Sl×AA D):Prop:=∃(t:Nat) (l:Nat->AA Nat) (off:Int) (P Q f:Nat->Int) (Y:Int) (d':AA D),eR d'/\K m t l off P Q f Y/\0<Y/\Y<=1000/\
 ((x=(.val (.tup [Gw t l,.int off,.non]),d')/\Ok (lW [Gw t l,.int off,.non]) λy=>y= .own (wL t λi=>cL (P i,Q i)))\/x=(.tre (.tup [.d (Gw t l),.d (.int off),.l (wL t λi=>cL (P i,Q i))]),d'))
theorem KO.a {l:Nat->AA Nat}{P Q f:Nat->Int}{x:Sl×AA D}(h:eR d')(hK:K m t l off P Q f Y)(y0:0<Y)(y1:Y<=1000)(e:x=(.val (.tup [Gw t l,.int off,.non]),d'))(hw:Ok (lW [Gw t l,.int off,.non]) λy=>y= .own (wL t λi=>cL (P i,Q i))):KO m x:=⟨t,l,off,P,Q,f,Y,d',h,hK,y0,y1,.inl ⟨e,hw⟩⟩
theorem KO.b {l:Nat->AA Nat}{P Q f:Nat->Int}{x:Sl×AA D}(h:eR d')(hK:K m t l off P Q f Y)(y0:0<Y)(y1:Y<=1000)(e:x=(.tre (.tup [.d (Gw t l),.d (.int off),.l (wL t λi=>cL (P i,Q i))]),d')):KO m x:=⟨t,l,off,P,Q,f,Y,d',h,hK,y0,y1,.inr e⟩
def Pu (h:a.natAbs<100)(h':b.natAbs<100):vN a b=true:=by
 unfold vN;rw[fL (show a.natAbs<2^64 by lia)];rfl
theorem sM (hL:L.length=2)(ho:off.natAbs<100):Ok (lW [.lst L,.int off,.non]) λy=>y= .own [cL (1,2*off),cL (-1,2*off)]:=by
 simp![↓lW,↓zbQ,↓zbf,Pu (show(2:Int).natAbs<100 by decide) ho,hL];exact⟨λ_=>rfl,λh=>AH rfl h⟩
theorem mR (hL:L.length=3)(ho:off.natAbs<100):Ok (lW [.lst L,.int off,.non]) λy=>y= .own [cL (1,2*off),cL (1,2*off),cL (-1,2*off)]:=by
 simp![↓lW,↓zbQ,↓zbf,↓zbM,Pu (show(2:Int).natAbs<100 by decide) ho,hL];exact⟨λh=>AH h (by decide),λ_=>⟨λ_=>rfl,λh=>AH rfl h⟩⟩
theorem qE (hL:L.length=4)(ho:off.natAbs<100):Ok (lW [.lst L,.int off,.non]) λy=>y= .own [cL (1,4*off),cL (1,4*off),cL (1,4*off),cL (-1,2*off)]:=by
 simp![↓lW,↓zbQ,↓zbf,↓zbM,↓zdf,Pu (show(2:Int).natAbs<100 by decide) ho,Pu (show(4:Int).natAbs<100 by decide) ho,hL];exact⟨λh=>AH h (by decide),λ_=>⟨λh=>AH h (by decide),λ_=>rfl⟩⟩
def pk {α:Type}[Inhabited α](L:AA α)(i:Nat):α:=L.getD i default
section
variable {m a b c:Nat}{off:Int}
def K0 (m4:4<=m)(ha:a<m)(hb:b<m)(ab:a≠b)(h0:0<off)(h1:off<100):K m 2 (pk [[a,b],[a,b]]) off (pk [1,-1]) (pk [2*off,2*off]) (pk [1,-1]) (2*off):=by
 have e:∀i,i<2->i=0\/i=1:=∅
 refine⟨∅,∅,λi hi=>?_,λi hi=>?_,λi hi=>?_,λi hi=>?_,λp=>?_,λd=>?_,∅⟩
 ·rcases e i hi with rfl|rfl<;>simp[pk]<;>lia
 ·rcases e i hi with rfl|rfl<;>simp only[pk,lN,lT]<;>exact⟨∅,bO (show(2*off).natAbs<=200 by lia) (by decide+kernel),by simp⟩
 ·rcases e i hi with rfl|rfl<;>simp[pk]
 ·rcases e i hi with rfl|rfl<;>simp only[pk,lN,lT]
 ·simp only[aH,pk,lN,lT]
  by_cases p1:p∈[a,b]<;>simp[p1]
 ·simp only[pk,lN,lT]at d;have:=qdy ∅ ((Int.dvd_neg).mpr d);lia
def K1 (m4:4<=m)(ha:a<m)(hb:b<m)(hc:c<m)(ab:a≠b)(ac:a≠c)(bc:b≠c)(h0:0<off)(h1:off<100):K m 3 (pk [[a],[b,c],[a,b,c]]) off (pk [1,1,-1]) (pk [2*off,2*off,2*off]) (pk [1,1,-1]) (2*off):=by
 have e:∀i,i<3->i=0\/i=1\/i=2:=∅
 refine⟨∅,∅,λi hi=>?_,λi hi=>?_,λi hi=>?_,λi hi=>?_,λp=>?_,λd=>?_,∅⟩
 ·rcases e i hi with rfl|rfl|rfl<;>simp[pk]<;>lia
 ·rcases e i hi with rfl|rfl|rfl<;>simp only[pk,lN,lT]<;>exact⟨∅,bO (show(2*off).natAbs<=200 by lia) (by decide+kernel),by simp⟩
 ·rcases e i hi with rfl|rfl|rfl<;>simp[pk]
 ·rcases e i hi with rfl|rfl|rfl<;>simp only[pk,lN,lT]
 ·simp only[aH,pk,lN,lT,qaq,Bj,or_false]
  by_cases p1:p=a
  ·subst p1;simp[ab,ac]
  ·by_cases p2:p=b
   ·subst p2;simp[p1,bc]
   ·by_cases p3:p=c
    ·subst p3;simp[p1,p2]
    ·simp[p1,p2,p3]
 ·simp only[pk,lN,lT]at d;have:=qdy ∅ ((Int.dvd_neg).mpr d);lia
def K3 (m4:4<=m)(ha:a<m)(hb:b<m)(hc:c<m)(ab:a≠b)(ac:a≠c)(bc:b≠c)(h0:0<off)(h1:off<100):K m 4 (pk [[a,b],[b,c],[a,c],[a,b,c]]) off (pk [1,1,1,-1]) (pk [4*off,4*off,4*off,2*off]) (pk [1,1,1,-2]) (4*off):=by
 have e:∀i,i<4->i=0\/i=1\/i=2\/i=3:=∅
 refine⟨∅,∅,λi hi=>?_,λi hi=>?_,λi hi=>?_,λi hi=>?_,λp=>?_,λd=>?_,∅⟩
 ·rcases e i hi with rfl|rfl|rfl|rfl<;>simp[pk]<;>lia
 ·rcases e i hi with rfl|rfl|rfl|rfl<;>simp only[pk,lN,lT]<;>exact⟨∅,bO (show _<=400 by lia) (by decide+kernel),by simp⟩
 ·rcases e i hi with rfl|rfl|rfl|rfl<;>simp[pk]
 ·rcases e i hi with rfl|rfl|rfl|rfl<;>simp only[pk,lN,lT]<;>lia
 ·simp only[aH,pk,lN,lT,qaq,Bj,or_false]
  by_cases p1:p=a
  ·subst p1;simp[ab,ac]
  ·by_cases p2:p=b
   ·subst p2;simp[p1,bc]
   ·by_cases p3:p=c
    ·subst p3;simp[p1,p2]
    ·simp[p1,p2,p3]
 ·simp only[pk,lN,lT]at d;have:=qdy ∅ ((Int.dvd_neg).mpr d);lia
end
section
variable {m t:Nat}{o:Nat->Nat}{off:Int}
def zkl (g:Nat->Int):∀k,aH k (λi=>g (i+1))+g 0=aH (k+1) g
 |0=>by simp[aH]
 |k+1=>by
  show aH k _+g (k+1)+g 0=aH (k+1) g+g (k+1);rw[<-zkl g k];lia
def tG (g:Nat->Int)(h:0<t):aH t (λi=>g ((i+1)%t))=aH t g:=by
 obtain⟨k,rfl⟩:∃k,t=k+1:=⟨t-1,∅⟩;rw[<-zkl g k];show aH k _+g ((k+1)%(k+1))=_;rw[Nat.mod_self,cI λi hi=>by rw[Nat.mod_eq_of_lt ∅]]
def K2 (m7:m<=7)(pm:Prm m o)(ht:t=3\/t=5\/t=7)(tm:t<=m)(hu:off=1+2*u)(h0:0<off)(h1:off<100):K m t (λi=>[o i,o ((i+1)%t)]) off (λ_=>1) (λ_=>2) (λ_=>1) 2:=by
 have nx:∀i,i<t->(i+1)%t<t/\(i+1)%t≠i:=λi hi=>by rcases ht with rfl|rfl|rfl<;>lia
 refine⟨∅,∅,λi hi=>?_,λi hi=>?_,λi hi=>by decide,λi hi=>rfl,λp=>?_,λd=>?_,∅⟩
 ·have n1:=nx i hi;have ne:o i≠o ((i+1)%t):=λe=>n1.2 (pm.inj _ _ ∅ ∅ e).symm
  have l1:=pm.lt i ∅;have l2:=pm.lt ((i+1)%t) ∅;simp[ne];lia
 ·exact⟨by decide,by decide+kernel,by decide⟩
 ·have e1:∀i,i<t->(1*if p∈[o i,o ((i+1)%t)]then(1:Int)else 0)=(if p=o i then 1 else 0)+if p=o ((i+1)%t)then 1 else 0:=λi hi=>by
   have n1:=nx i hi;have ne:o i≠o ((i+1)%t):=λe=>n1.2 (pm.inj _ _ ∅ ∅ e).symm
   by_cases p1:p=o i
   ·subst p1;simp[ne]
   ·simp[p1]
  rw[cI e1,tZ];have e2:aH t (λi=>if p=o ((i+1)%t)then(1:Int)else 0)=aH t λi=>if p=o i then 1 else 0:=tG (λi=>if p=o i then 1 else 0) ∅
  rw[e2];exact⟨aH t λi=>if p=o i then 1 else 0,∅⟩
 ·change (2:Int)∣1*off at d;lia
def K4 (m7:m<=7)(pm:Prm m o)(t4:4<=t)(tm:t<=m)(h0:0<off)(h1:off<(t:Int)-1):K m t (λi=>((List.range t).filter λj=>decide (o j≠o i)).map o) off (λ_=>1) (λ_=>(t:Int)-1) (λ_=>1) ((t:Int)-1):=by
  refine⟨∅,∅,λi hi=>?_,λi hi=>?_,λi hi=>by decide,λi hi=>rfl,λp=>?_,λd=>?_,∅⟩
  . refine⟨λe=>?_,?_,λx hx=>?_,?_⟩
    . obtain⟨j,hj,ne⟩:∃j,j<t/\j≠i:=by
        by_cases h:i=0
        . exact⟨1,∅,∅⟩
        . exact⟨0,∅,∅⟩
      have:o j∈((List.range t).filter λj=>decide (o j≠o i)).map o:=qb0.mpr ⟨j,qah.mpr ⟨qai.mpr hj,~~~λe=>ne (pm.inj _ _ ∅ ∅ e)⟩,rfl⟩;rw[e]at this;exact AH this Bj
    . refine List.pairwise_map.mpr ?_
      refine List.Pairwise.imp_of_mem (R:=λa b=>a<b) (λ{a b} ha hb ab e=>?_) (Yx _ List.pairwise_lt_range);have:=pm.inj a b (by have:=qai.mp (qah.mp ha).1;lia) (by have:=qai.mp (qah.mp hb).1;lia) e;lia
    . obtain⟨j,hj,rfl⟩:=qb0.mp hx
      exact pm.lt j (by have:=qai.mp (qah.mp hj).1;lia)
    . rw[cO]
      exact bO (Ab _ _) (by rw[Aj];exact tm)
  . exact⟨∅,bO (show _<=10 by lia) (by decide+kernel),by simp⟩
  . have mem:∀i,i<t->(p∈((List.range t).filter λj=>decide (o j≠o i)).map o↔∃j,j<t/\j≠i/\o j=p):=λi hi=>by
      rw[qb0]
      constructor
      . rintro⟨j,hj,rfl⟩
        obtain⟨h1,h2⟩:=qah.mp hj;exact⟨j,qai.mp h1,λe=>by subst e;simp at h2,rfl⟩
      . rintro⟨j,h1,h2,rfl⟩
        exact⟨j,qah.mpr ⟨qai.mpr h1,~~~λe=>h2 (pm.inj _ _ ∅ ∅ e)⟩,rfl⟩
    by_cases h:∃q,q<t/\o q=p
    . obtain⟨q,hq,e⟩:=h
      have e1:∀i,i<t->(1*if p∈((List.range t).filter λj=>decide (o j≠o i)).map o then(1:Int)else 0)=1+if i=q then-1 else 0:=λi hi=>by
        by_cases iq:i=q
        . rw[if_neg λh=>?_,if_pos iq];· rfl
          obtain⟨j,h1,h2,h3⟩:=(mem i hi).mp h;exact h2 ((pm.inj _ _ ∅ ∅ (h3.trans e.symm)).trans iq.symm)
        . rw[if_pos ((mem i hi).mpr ⟨q,hq,λz=>iq z.symm,e⟩),if_neg iq];rfl
      rw[cI e1,tZ,Ej,if_pos hq];have:∀k,aH k (λ_=>(1:Int))=k:=λk=>by
        induction k with
        |zero=>rfl
        |succ k ih=>show aH k _+1=_;rw[ih];lia
      rw[this];exact⟨1,∅⟩
    . have e0:∀i,i<t->(1*if p∈((List.range t).filter λj=>decide (o j≠o i)).map o then(1:Int)else 0)=0:=λi hi=>by
        rw[if_neg λz=>?_]
        . rfl
        obtain⟨j,h1,_,h3⟩:=(mem i hi).mp z;exact h ⟨j,h1,h3⟩
      rw[cI e0];have:∀k,aH k (λ_=>(0:Int))=0:=λk=>by
        induction k with
        |zero=>rfl
        |succ k ih=>show aH k _+0=_;rw[ih];rfl
      rw[this];exact Sa _
  . change (t:Int)-1∣1*off at d
    have:=qdy ∅ d;lia
end
def zpc (f:Nat->D)(h:n<=m):(wL m f).take n=wL n f:=by
 apply uD;intro i
 by_cases hi:i<n
 ·rw[qc8,if_pos hi,bZ _ hi,bZ _ ∅]
 ·rw[qc8,if_neg hi,gM (by rw[bV];lia)]
def By (n:Nat)(d:D):(List.replicate n [d]).flatten=wL n λ_=>d:=by
 induction n with
 |zero=>rfl
 |succ n ih=>
  rw[List.replicate_succ',List.flatten_append,ih];unfold wL;rw[Hw,kQ]
  rfl
theorem vO (h:eR ds){m:Nat}{o:Nat->Nat}(m4:4<=m)(m7:m<=7)(pm:Prm m o):Ok (Nj ds [.lst (wL m λi=> .int (o i:Nat))]) (KO m):=by
 have c3:bY (wL m λi=>D.int (o i:Nat)) none (some 3)=[.int (o 0:Nat),.int (o 1:Nat),.int (o 2:Nat)]:=by
  rw[show(3:Int)=((3:Nat):Int)from rfl,Ym,zpc _ ∅];rfl
 have l0:=pm.lt 0 ∅;have l1:=pm.lt 1 ∅;have l2:=pm.lt 2 ∅;have n01:o 0≠o 1:=λe=>AH (pm.inj _ _ ∅ ∅ e) (by decide)
 have n02:o 0≠o 2:=λe=>AH (pm.inj _ _ ∅ ∅ e) (by decide)
 have n12:o 1≠o 2:=λe=>AH (pm.inj _ _ ∅ ∅ e) (by decide)
 simp![↓Nj,↓zfA];refine(fK h (m:=5) ∅ ∅).mono ?_;rintro _ ⟨way,d1,hw,h1,rfl⟩;simp![c3];refine⟨λ_=>?_,λ_=>?_⟩
 ·refine(fK h1 (m:=9) ∅ ∅).mono ?_;rintro _ ⟨u,d2,hu,h2,rfl⟩;simp![];exact KO.a h2 (K0 m4 l0 l1 n01 ∅ ∅) ∅ ∅ rfl (sM rfl ∅)
 simp![↓ze6];refine⟨λ_=>?_,λ_=>?_⟩
 ·refine(fK h1 (m:=9) ∅ ∅).mono ?_;rintro _ ⟨u,d2,hu,h2,rfl⟩;simp![];exact KO.a h2 (K1 m4 l0 l1 l2 n01 n02 n12 ∅ ∅) ∅ ∅ rfl (mR rfl ∅)
 simp![↓ze5];refine⟨λ_=>?_,λ_=>?_⟩
 ·refine⟨by decide,?_⟩;refine(fK h1 (m:=1+((m:Int)-3)/2) ∅ ∅).mono ?_;rintro _ ⟨u,d2,hu,h2,rfl⟩;obtain⟨t,ht,et,tm⟩:∃t:Nat,(t=3\/t=5\/t=7)/\(3:Int)+2*(u:Int)=(t:Nat)/\t<=m:=⟨3+2*u,∅,∅,∅⟩;simp![Pu (show(2:Int).natAbs<100 by decide) (show(u:Int).natAbs<100 by lia),et,↓zfu];refine⟨iH ∅ ∅,∅,iN (λρ=>∃y,ρ=[.val (.lst (wL m λi=> .int (o i:Nat))),.val (.int (t:Nat)),y]) (λi=> .lst ([o i,o ((i+1)%t)].map nI)) ⟨_,rfl⟩ ?_ ?_⟩
  ·rintro i _ hi ⟨y,rfl⟩;have e1:((i:Int)+1)%(t:Int)=(((i+1)%t:Nat):Int):=by push_cast;rfl
   have n1:(i+1)%t<m:=by have:=Nat.mod_lt (i+1) (show t>0 by lia);lia
   simp![↓zfs,e1,bZ (λi=>D.int (o i:Nat)) (show i<m by lia),bZ (λi=>D.int (o i:Nat)) n1];exact⟨∅,rfl,_,rfl⟩
  rintro _ ⟨y,rfl⟩;simp![];refine(fK h2 (m:=5) ∅ ∅).mono ?_;rintro _ ⟨v,d3,hv,h3,rfl⟩;simp![Pu (show(2:Int).natAbs<100 by decide) (show(v:Int).natAbs<100 by lia)];rw[By];exact⟨⟨iH ∅ ∅,∅⟩,KO.b h3 (K2 m7 pm ht tm rfl ∅ ∅) (by decide) (by decide) rfl⟩
 simp![↓zfm];refine⟨λ_=>?_,λ_=>?_⟩
 ·refine(fK h1 (m:=9) ∅ ∅).mono ?_;rintro _ ⟨u,d2,hu,h2,rfl⟩;simp![];exact KO.a h2 (K3 m4 l0 l1 l2 n01 n02 n12 ∅ ∅) ∅ ∅ rfl (qE rfl ∅)
 simp![↓ze4,bV];refine(fK h1 (m:=(m:Int)-3) ∅ ∅).mono ?_;rintro _ ⟨u,d2,hu,h2,rfl⟩;obtain⟨t,et,t4,tm⟩:∃t:Nat,(4:Int)+(u:Int)=(t:Nat)/\4<=t/\t<=m:=⟨4+u,∅,∅,∅⟩;have ct:bY (wL m λi=>D.int (o i:Nat)) none (some (t:Int))=wL t λi=>D.int (o i:Nat):=by rw[Ym,zpc _ tm]
 simp![et,↓ze1,ct];refine⟨∅,iN (λρ=>∃y,ρ=[.val (.lst (wL m λi=> .int (o i:Nat))),.val (.int (t:Nat)),y]) (λi=> .lst ((((List.range t).filter λj=>decide (o j≠o i)).map o).map nI)) ⟨_,rfl⟩ ?_ ?_⟩
 ·rintro i _ hi ⟨y,rfl⟩;simp![↓zfv,↓zfc,ct];refine⟨∅,Oa (λρ=>∃y,ρ=[.val (.int (o i:Nat)),y]) (λj=>if decide (o j≠o i)=true then some (D.int (o j:Nat))else none) ⟨_,rfl⟩ ?_ ?_⟩
  ·rintro j _ hj ⟨y,rfl⟩;simp![↓zfg,↓zfo];refine⟨λe=>⟨?_,_,rfl⟩,λe=>⟨?_,_,rfl⟩⟩
   ·rw[if_pos ∅]
   ·rw[if_neg ∅]
  rintro _ ⟨y,rfl⟩;simp![];refine⟨?_,_,rfl⟩;rw[gC];congr 2;rw[<-mS];exact Hi _ λj _=>by by_cases e:o j=o i<;>simp[e,nI]
 rintro _ ⟨y,rfl⟩;simp![];refine(fK h2 (m:=(t:Int)-2) ∅ ∅).mono ?_;rintro _ ⟨v,d3,hv,h3,rfl⟩;simp![];rw[By];exact⟨⟨iH ∅ ∅,∅⟩,KO.b h3 (K4 m7 pm t4 tm ∅ ∅) ∅ ∅ rfl⟩
section
variable {n t:Nat}{c:Nat->Nat}{z:Nat->Nat->Nat}{r S P Q f:Nat->Int}{Y:Int}
theorem J.weights (h:J n t c z S P Q f Y)(n7:n<=7)(t7:t<=7)(y0:0<Y)(y1:Y<=1000){T:Nat->Int}(hT:∀i,i<t->(T i).natAbs<=2^236):Ok (lP [lU n t c z T,.tup [.str "none",Ob t P Q]]) λx=>x= .val (.bl (!decide (Y∣bT t T f))):=by
 simp![↓lP,↓Tv,↓zbJ];refine⟨λe=>AH e (by decide),λ_=>?_⟩;refine(zi7 (c:=c) (z:=z) (P:=P) (Q:=Q) (e:=10) n7 t7 hT ∅ (by decide) h.q h.p h.pf h.pl).mono ?_;rintro _ rfl;simp![]
theorem J.none (h:J n t c z S P Q f Y)(y0:0<Y)(y1:Y<=1000):∃d,Out n t (bF c z) S d/\bG d (.int 0)=some (.str "none"):=by
 refine⟨_,.inr ⟨f,Y,2000,by decide,∅,bO (show Y.natAbs<=1000 by lia) (by decide+kernel),λa ha=>?_,h.pl,h.no,rfl⟩,rfl⟩;have q:=h.q a ha;have e:=h.pf a ha;have e1:(f a*Q a).natAbs=(P a*Y).natAbs:=by rw[e]
 rw[kX,kX]at e1;have q1:1<=(Q a).natAbs:=∅
 have l1:(f a).natAbs<=(f a).natAbs*(Q a).natAbs:=Nat.le_mul_of_pos_right _ q1;have l2:(P a).natAbs*Y.natAbs<=2^10*1000:=Nat.mul_le_mul (h.p a ha) ∅;have l3:(2:Nat)^10*1000<=2^2000:=by decide+kernel
 lia
def zm7 (hr:∀i,i<t->Rise n (c i) (z i))(h:∀p,p<n->Y∣bX t (bF c z) f p):Y∣bT t (bE c z r) f:=by
 have e:bT t (bE c z r) f=bT t (λa=>aH n λp=>bF c z a p*r p) f:=by
  unfold bT;exact cI λa ha=>by rw[zhs hr r ha]
 rw[e,Zn];have:∀k,k<=n->Y∣aH k λp=>bX t (bF c z) f p*r p:=by
  intro k
  induction k with
  |zero=>exactλ_=>Sa _
  |succ k ih=>exactλhk=>Int.dvd_add (ih ∅) (qdv (h k ∅))
 exact this n (aY _)
def nG (x c':Nat)(z':Nat->Nat):bE (ins x c' c) (ins x z' z) r=ins x (aH c' λj=>r (z' j)) (bE c z r):=by
 funext i
 unfold bE ins
 split
 ·rfl
 ·split<;>rfl
def xY {α β:Type}(F:α->β)(x:Nat)(v:α)(g:Nat->α):(λi=>F (ins x v g i))=ins x (F v) λi=>F (g i):=by
 funext i
 unfold ins
 split
 ·rfl
 ·split<;>rfl
def rK (x c':Nat)(z':Nat->Nat):(λi=>D.tup (bJ (ins x c' c i) (ins x z' z i)))=ins x (.tup (bJ c' z')) λi=> .tup (bJ (c i) (z i)):=by
 funext i
 unfold ins
 split
 ·rfl
 ·split<;>rfl
def xN (x:Nat):(λi=>cL (ins x 0 P i,ins x 1 Q i))=ins x (cL (0,1)) λi=>cL (P i,Q i):=by
 funext i
 unfold ins
 split
 ·rfl
 ·split<;>rfl
end
structure LI (n:Nat)(r:Nat->Int)(Y:Int)(ns:List Int)(i T:Nat)(ρ:R):Prop where
 ex:∃(c:Nat->Nat) (z:Nat->Nat->Nat) (S P Q f:Nat->Int) (ds:List D) (off:Int) (od cl:D) (s7 s11 s12 s13 s14 s15:Sl),eR ds/\J n T c z S P Q f Y/\
  ρ=[.val (.scr ns),.val cl,.own ds,.val od,.val (.lst (wI n r)),.own (dR T c z),.val (.int off),s7,.own (wL T λi=>cL (P i,Q i)),.own (wI T S),.own (wI T (bE c z r)),s11,s12,s13,s14,s15]
theorem LI.of {n i T:Nat}{S P Q f:Nat->Int}{od cl:D}{s7 s11 s12 s13 s14 s15:Sl}(h:eR ds)(hJ:J n T c z S P Q f Y)(e:ρ=[.val (.scr ns),.val cl,.own ds,.val od,.val (.lst (wI n r)),.own (dR T c z),.val (.int off),s7,.own (wL T λi=>cL (P i,Q i)),.own (wI T S),.own (wI T (bE c z r)),s11,s12,s13,s14,s15]):LI n r Y ns i T ρ:=⟨⟨c,z,S,P,Q,f,ds,off,od,cl,s7,s11,s12,s13,s14,s15,h,hJ,e⟩⟩
theorem xU {n t k i:Nat}(n1:1<=n)(n7:n<=7)(hb:Bds n r)(hk:t+k<=7)(hi:i<k)(hr:Rise n c' z')(h:LI n r Y ns i (t+i) ρ):
  Ok (zj0 (ρ.set 11 (.val (.tup (bJ c' z'))))) (Turn (LI n r Y ns (i+1) (t+(i+1))) Q'):=by
 obtain⟨c,z,S,P,Q,f,ds,off,od,cl,s7,s11,s12,s13,s14,s15,h0,hJ,rfl⟩:=h.ex;have sl:(dR (t+i) c z).length=t+i:=bV _ _;simp![↓zj0,sl];refine(fK h0 (m:=((t+i:Nat):Int)+1) ∅ ∅).mono ?_;rintro _ ⟨x,d1,hx,h1,rfl⟩;have xt:x<=t+i:=∅
 have v2:=znO (f:=λj=>r (z' j)) (c:=c') (by have:=hr.cn;lia) λj hj=>hb _ (hr.lt j hj)
 have vb:(aH c' λj=>r (z' j)).natAbs<=2^236:=by
  have e0:((2^223:Nat):Int)=2^223:=by decide+kernel
  have b2:(2:Nat)^223<=2^236:=by decide+kernel
  lia
 simp![sl];refine⟨∅,∅,?_⟩;refine(zeG (d2:= .lst [.tup (bJ c' z')]) (t:=1) (c:=λ_=>c') (z:=λ_=>z') (Sq.lst n r) n7 ∅ (λ_ _=>hr) rfl).mono ?_;rintro _ rfl;have e1:bG (D.lst (wI 1 (bE (λ_=>c') (λ_=>z') r))) (.int 0)=some (.int (aH c' λj=>r (z' j))):=rfl;have e2:ins x (aH c' λj=>r (z' j)) S x=aH c' λj=>r (z' j):=by unfold ins;rw[if_neg ∅,if_pos rfl]
 simp![e1,Za,Cj xt,bZ (ins x (D.int (aH c' λj=>r (z' j))) λi=>D.int (S i)) (show x<t+i+1 by lia)];have a1:(dR (t+i) c z).take x++D.tup (bJ c' z')::(dR (t+i) c z).drop x=dR (t+i+1) (ins x c' c) (ins x z' z):=by
  unfold dR;rw[Cj xt,<-rK]
 have a2:(wL (t+i+1) (ins x (D.tup [.int 0,.int 1]) λi=>cL (P i,Q i)))=wL (t+i+1) λi=>cL (ins x 0 P i,ins x 1 Q i):=by rw[xN];rfl
 have a3:∀(v:Int) (g:Nat->Int),(wL (t+i+1) (ins x (D.int v) λi=>D.int (g i)))=wI (t+i+1) (ins x v g):=λv g=>by unfold wI;rw[xY D.int]
 have a4:(ins x (D.int (aH c' λj=>r (z' j))) (λi=>D.int (S i)) x)=D.int (aH c' λj=>r (z' j)):=by unfold ins;rw[if_neg ∅,if_pos rfl]
 rw[a1,a2,a4,a3,a3,<-nG];exact⟨⟨∅,∅,∅⟩,⟨∅,∅,∅⟩,LI.of h1 (hJ.ins1 xt hr vb) rfl⟩
def oJ (F:Nat->D){t:Nat}(ht:t<=7):∃k,t+k<=7/\k<=t'/\bY (wL t' F) none (some ((7:Int)-(t:Nat)))=wL k F:=by
 refine⟨min t' (7-t),∅,∅,?_⟩;rw[show(7:Int)-(t:Nat)=((7-t:Nat):Int) by lia,Ym]
 by_cases h:7-t<=t'
 ·rw[zpc _ h,Nat.min_eq_right h]
 ·rw[oO (by rw[bV];lia),qcX ∅]
def qP:MS:=
 (aI (jP 5 zjH)
  (aI (Sb 9 (Tp Ff) [none, none] [5] (vG (aA 4) (Vz 5 vW)))
  (aI (jP 10 (rT 9))
  (aI (pF 9 (M.m1 dU (eC (.int 1))) (M.m2 bH (aU 9 (M.m1 dU (eC (.int 1)))) (aA 6)))
  (aI zjt
  (aI (aN 13 (bL (aE (fB 4) (aE (mC fI (aE (aA 5) aB)) (aE (mC fI (aE (aA 9) aB)) aB)))))
  (aI (aN 14 (bL (aE (fB 4) (aE (mC fI (aE (aA 5) aB)) (aE (mC fI (aE (aA 10) aB)) aB)))))
  (aI (aN 15 (cM Lv (aE (aA 13) aB)))
  (aI (eD (gY (aO (M.m2 gI (aU 15 (eC (.int 0))) (eC (.str "none")))) (gY (tK (aO (cM lP (aE (aA 13) (aE (aA 15) aB))))) (tK (aO (cM lP (aE (aA 13) (aE (bL (aE (eC (.str "none")) (aE (mC fI (aE (aA 8) aB)) aB))) aB)))))))
  (bK (eC (.bl false)))
  eN)
  zjX)))))))))
theorem Gi:zmS=
 (aI (jP 2 (Bz Nk (aE (aA 0) (aE (aA 1) aB))))
  (aI (aN 3 (dI Mp 2 (aE (M.m2 bH (eC (.int 4)) (dI dJ 2 (aE (eC (.int 4)) aB))) aB)))
  (aI (aN 4 (dI Og 2 (aE (fB 3) aB)))
  (aI (pG 2 5 6 7 Nj (aE (aA 3) aB))
  (aI (Yl 8 5 6 7 lW)
  qP))))):=rfl
def Ev (ns:AA Int)(ρ:R):Prop:=∃s1 s2 s3 s4 s5 s6 s7 s8 s9 s10 s11 s12 s13 s14 s15,ρ=[.val (.scr ns),s1,s2,s3,s4,s5,s6,s7,s8,s9,s10,s11,s12,s13,s14,s15]
def Ev.of (e:ρ=[.val (.scr ns),s1,s2,s3,s4,s5,s6,s7,s8,s9,s10,s11,s12,s13,s14,s15]):Ev ns ρ:=⟨s1,s2,s3,s4,s5,s6,s7,s8,s9,s10,s11,s12,s13,s14,s15,e⟩
theorem zoz {n t i:Nat}(hol:ol.length=n){l:Nat->AA Nat}{P Q f:Nat->Int}{d4:AA D}(p4:eR d4)(n1:1<=n)(n7:n<=7)(hb:Bds n r)(hK:K n t l off P Q f Y)(y0:0<Y)(y1:Y<=1000)(s7 s9 s10 s11 s12 s13 s14 s15:Sl):
  OkQ (Turn (Ev ns) Q')
   (qP [.val (.scr ns),.val (.int (i:Nat)),.own d4,.val (.lst ol),.val (.lst (wI n r)),.val (Gw t l),.val (.int off),s7,.own (wL t λi=>cL (P i,Q i)),s9,s10,s11,s12,s13,s14,s15]):=by
 have t2:=hK.t2;have t7:=hK.t7;have hJ:=hK.toJ n7 hb;simp![↓qP,↓zjH];refine⟨∅,iN (λρ=>∃y,ρ=[y]) (λi=> .tup (bJ (lc l i) (lz l i))) ⟨_,rfl⟩ ?_ ?_⟩
 ·rintro j _ hj ⟨y,rfl⟩;have hl:=(hK.len j hj).2.2.2;simp![↓zl6,Ij _ (show(l j).length<64 by lia)];have e:((xF (λ(x:Nat)=>(x:Int)) (l j)).map nI)=bJ (lc l j) (lz l j):=by
   rw[pM,show(xF (λ(x:Nat)=>(x:Int)) (l j)).length=(l j).length from Nq (l j)]
   rfl
  rw[e];exact⟨rfl,_,rfl⟩
 rintro _ ⟨y,rfl⟩;simp![];refine(zeG (d2:= .lst (dR t (lc l) (lz l))) (t:=t) (c:=lc l) (z:=lz l) (Sq.lst n r) n7 t7 hJ.rise rfl).mono ?_;rintro _ rfl;obtain⟨tt,rfl⟩:∃tt,t=tt+1:=⟨t-1,∅⟩;have al:atI (wI (tt+1) (bE (lc l) (lz l) r)) (-1)=some (.int (bE (lc l) (lz l) r tt)):=by
  unfold atI;rw[bV,zmt];exact bZ _ ∅
 simp![bV,zmt,al];have sset:(wI (tt+1) (bE (lc l) (lz l) r)).set tt (.int (bE (lc l) (lz l) r tt+off))=wI (tt+1) λi=>if i=tt+1-1 then bE (lc l) (lz l) r i+off else bE (lc l) (lz l) r i:=by
  rw[Lx _ _ ∅];exact Do λj _=>by
   rw[Nat.add_sub_cancel]
   by_cases e:j=tt
   ·subst e;simp only[if_true]
   ·simp only[e,dG]
 rw[sset];refine⟨qbZ.mpr λx hx=>by obtain⟨j,_,rfl⟩:=qb0.mp hx;rfl,?_⟩;simp![↓zjt,bV,hol];refine(wB p4 n1 n7).mono ?_;rintro _ ⟨t',c',z',d5,p5,t1',t7',hr',rfl⟩;obtain⟨k,hk,kt,ek⟩:=oJ (t':=t') (λi=>D.tup (bJ (c' i) (z' i))) t7;simp![dR,ek,bV];refine Cs (λj ρ=>LI n r Y ns j (tt+1+j) ρ) (LI.of p5 hJ rfl) ?_ ?_
 ·rintro j ρ hj h;simp![];exact xU n1 n7 hb hk hj (hr' j ∅) h
 ·rintro ρ h;obtain⟨c,z,S,P,Q,f,ds,off,od,cl,s7,s11,s12,s13,s14,s15,h0,hJ,rfl⟩:=h.ex;have T7:tt+1+k<=7:=hk;have T1:1<=tt+1+k:=∅
  generalize tt+1+k=T at hJ T7 T1 ⊢
  have te:∀S:Nat->Int,(D.tup [.int (n:Nat),.tup (dR T c z),.tup (wI T S)])=lU n T c z S:=λ_=>rfl
  have gs:∀i,i<T->(bE c z r i).natAbs<=2^236:=λi hi=>by
   have b1:=zoK n7 hJ.rise hb i hi;have e0:((2^223:Nat):Int)=2^223:=by decide+kernel
   have b2:(2:Nat)^223<=2^236:=by decide+kernel
   lia
  simp![bV];rw[te,te];refine(zk0 n1 n7 T1 T7 hJ.rise hJ.bd).mono ?_;rintro _ ⟨d,hd,rfl⟩;obtain⟨dn,hn,kn⟩:=hJ.none y0 y1;have kd:bG d (.int 0)=some (.str "none"):=by rw[hd.excl hn,kn]
  simp![kd,Bt];refine(zib n7 T7 hJ.rise hJ.bd hd).mono ?_;rintro _ rfl;simp![];refine(hJ.weights n7 T7 y0 y1 hJ.bd).mono ?_;rintro _ rfl;simp![gQ hJ.no,↓zjX];refine(zk0 n1 n7 T1 T7 hJ.rise gs).mono ?_;rintro _ ⟨e,he,rfl⟩;have ke:bG e (.int 0)=some (.str "row"):=by
   have hR:Out n T (bF c z) (bE c z r) (.tup [.str "row",.tup (wI n r)]):= .inl ⟨r,rfl,λa ha=>(zhs hJ.rise r ha).symm⟩;rw[he.excl hR];rfl
  simp![ke,Bt];refine(hJ.weights n7 T7 y0 y1 gs).mono ?_;rintro _ rfl;simp![fL (zm7 (r:=r) hJ.rise hJ.pl)];exact Ev.of rfl
theorem math (ns:AA Int)(hl:ns.length<=63):Dh [.scr ns]=some (.val (.bl true)):=by
 have:Ok (Dh [.scr ns]) λr=>r= .val (.bl true):=by
  have hm:∃m:Nat,m<=8/\mK 1 (iO (ns.length:Int) 8)=(m:Int):=by
   unfold mK iO;exact⟨(if(if(8:Int)<(ns.length:Int)then 8 else(ns.length:Int))>1 then(if(8:Int)<(ns.length:Int)then 8 else(ns.length:Int))else 1).toNat,by split<;>split<;>lia,by split<;>split<;>lia⟩
  obtain⟨m,hm8,em⟩:=hm;simp![↓Dh,↓rD,em,↓zmN];refine⟨iH ∅ ∅,Cs (λi ρ=>Ev ns ρ) (Ev.of rfl) ?_ ?_⟩
  ·rintro i _ hi ⟨s1,s2,s3,s4,s5,s6,s7,s8,s9,s10,s11,s12,s13,s14,s15,rfl⟩;simp![↓Gi];refine(Ld ns i ∅).mono ?_;rintro _ ⟨ds,p0,rfl⟩;simp![];refine(fK p0 (m:=4) ∅ ∅).mono ?_;rintro _ ⟨u,d1,hu,p1,rfl⟩;obtain⟨n,en,n4,n7⟩:∃n:Nat,(4:Int)+(u:Int)=(n:Nat)/\4<=n/\n<=7:=⟨4+u,∅,∅,∅⟩;simp![en];refine(mZ p1 (m:=n) ∅).mono ?_;rintro _ ⟨o,d2,p2,pm,rfl⟩;simp![bV];refine(znq p2 n ∅).mono ?_;rintro _ ⟨r,d3,p3,hb,rfl⟩;simp![];refine(vO p3 n4 n7 pm).mono ?_;rintro⟨k1,k2⟩ ⟨t,l,off,P,Q,f,Y,d4,p4,hK,y0,y1,⟨h,hw⟩|h⟩
   ·cases h;simp![];refine hw.mono ?_;rintro _ rfl;simp![];exact zoz (bV _ _) p4 ∅ n7 hb hK y0 y1 _ _ _ _ _ _ _ _
   ·cases h;simp![];exact zoz (bV _ _) p4 ∅ n7 hb hK y0 y1 _ _ _ _ _ _ _ _
  ·rintro _ ⟨s1,s2,s3,s4,s5,s6,s7,s8,s9,s10,s11,s12,s13,s14,s15,rfl⟩;simp![]
 obtain⟨_,e,rfl⟩:=this.ex;exact e
end Prf
namespace PySem.W.Fast
def tw9762853547798011827:=0
def tw1911636700352273099:=0
def tw18097205464299118757:=0
def tw3656281954164698800:=0
def tw5872628396244177393:=0
def tw9742558815125041791:=0
def tw5347729584517199321:=0
def tw6461380379145759443:=0
def tw4582422582052534357:=0
def tw1768027491251398646:=0
def tw2317609321355072475:=0
def tw15838982257780524183:=0
def tw5484112191243527071:=0
def tw18215806934969303821:=0
def tw16723111924354606697:=0
def tw4268778060683410129:=0
def tw18076190424651442031:=0
def tw9733135586623053150:=0
def tw17015561263947289313:=0
def tw15596939475519436430:=0
def tw8561699072307702217:=0
def tw8864480563354971654:=0
def tw2052252563933468551:=0
def tw4256766025597822635:=0
def tw4123258458074032323:=0
def tw14895549630936790153:=0
def tw8964023784825483047:=0
def tw14271361243740432412:=0
def tw11164545834852902100:=0
def tw467152079947496654:=0
def tw6128901875562731866:=0
def tw16397658339933763700:=0
def tw2907851889899605841:=0
def tw3411597511019818226:=0
def tw3042744514426443174:=0
def tw14331830599205856207:=0
def tw5918904106644618134:=0
def tw370302060194034202:=0
def tw10137305524353237058:=0
def tw13099593598530545894:=0
def tw517185889651030266:=0
def tw15385694429194895233:=0
def tw121048574495384608:=0
def tw13232498099660265891:=0
def tw9168421279805905623:=0
def tw16063582988806631055:=0
def tw15044236757838133015:=0
def tw5969948012854318095:=0
def tw15928956661414674954:=0
def tw6518609728962193387:=0
def tw7809753788846147348:=0
def tw2779739966111170117:=0
def tw3763750507345176730:=0
def tw9093477385317477399:=0
def tw14021998754543187246:=0
def tw12424260507540883751:=0
def tw3771644525711576774:=0
def tw7366712804952106930:=0
def tw8105534404730986842:=0
def tw1528303443673770158:=0
def tw9150473136674913664:=0
def tw6635139633832760882:=0
def tw761803067678094499:=0
def tw2572750236358048046:=0
def tw2678782551341327806:=0
def tw16310080030776591269:=0
def tw1021095246326836730:=0
def tw12555797062035042785:=0
def tw576006861616861513:=0
def tw4809542505084693398:=0
def tw7632391275311973024:=0
def tw18190779357452052560:=0
def tw15141503207534498712:=0
def tw6485849457298294900:=0
def tw13248237209090738430:=0
def tw10495507115985642621:=0
def tw12266526274974502055:=0
def tw3424414197403562736:=0
def tw4717294528735390229:=0
def tw10520418729655755912:=0
def tw2100190445240747281:=0
def tw14229609466646389135:=0
def tw7222537044907797523:=0
def tw17200933654794484525:=0
def tw14808511733031490612:=0
def tw5602726491877434532:=0
def tw11275607689943582718:=0
def tw18195262537907885782:=0
def tw4197244005549971439:=0
def tw5169275109197207696:=0
def tw16687648656203913420:=0
def tw11885285516400249143:=0
def tw6684215070397298960:=0
def tw11170092550283306926:=0
def tw4902462976152856677:=0
def tw10573814520952075885:=0
def tw4724142323864877904:=0
def tw9565989383800885315:=0
def tw18187713025744977824:=0
def tw10685566113607881095:=0
def tw5985787756647140291:=0
def tw4870573486994391180:=0
def tw784435255439876764:=0
def tw7487295980231887294:=0
def tw16517343527687495985:=0
def tw18176390469738283513:=0
def tw11531697990740184020:=0
def tw11233851197241561591:=0
def tw5382194678099668855:=0
def tw18163457797317143847:=0
def tw16685353823196782508:=0
def tw11380964181431620874:=0
def tw1032490032101484753:=0
def tw5427588278136332561:=0
def tw6923345904170953759:=0
def tw16387093756115178413:=0
def tw15934587138827377863:=0
def tw6368704161114151161:=0
def tw4725539732338595469:=0
def tw9481538409223298172:=0
def tw7200659659796458360:=0
def tw3512706729148741070:=0
def tw15148705924350173884:=0
def tw7808207627117247791:=0
def tw738913687743662862:=0
def tw8264881285936716552:=0
def tw303604310187236878:=0
def tw3591846418230707371:=0
def tw6678859418227065084:=0
def tw165169003601218930:=0
def tw10458368689882059420:=0
def tw13370110836506990291:=0
def tw12539153437625175311:=0
def tw8723881301851049331:=0
def tw10198205550590724428:=0
def tw3150154304864875648:=0
def tw13293272198991841653:=0
def tw12575651435695996090:=0
def tw16274214698777323820:=0
def tw5920812423607580160:=0
def tw5129690903016740937:=0
def tw16090448912821327638:=0
def tw1306636252480356752:=0
def tw5290568800639573491:=0
def tw13182889018544575694:=0
def tw13969191250654859084:=0
def tw7405577849475667480:=0
def tw4930617731737307921:=0
end PySem.W.Fast
open PyProof.Rows PySem PySem.W
set_option maxRecDepth 100000 in
set_option maxHeartbeats 0 in
theorem PySem.Challenge.cw_tellsum_k52_tellings_without_a_row_holds : PySem.Challenge.rw_tellsum_k52_tellings_without_a_row.Holds := by
  w_on; o_law; k_head; (case hw => w_witness2)
  k_fill
  refine Prf.walk (l := PySem.Challenge.rw_tellsum_k52_tellings_without_a_row) rfl rfl Prf.math (λw h Y => W.kIn_of Y) ?F
  case F =>
    intro w mg fa h KX G hmg
    refine' Prf.Ht KX G hmg ?h1 ?h2 ?h3 ?h4 ?h5 ?h6 ?h7 ?h8 ?h9 ?h18 ?h19 ?h20 ?h21 ?h22 ?h23 ?h24 ?h25 ?h26 ?h27 ?h28 ?h29 ?h30 ?h31 ?h32 ?h33 ?h34 ?h35 ?h36 ?h37 ?h38 ?h39 ?aC ?pg ?hd ?po ?sa ?mkC ?kc ?zle ?zh6 ?zpS ?zlW ?zju ?aopen_columns ?iopen_columns ?lopen_columns ?copen_columns ?kopen_columns ?aopen_rows ?iopen_rows ?lopen_rows ?copen_rows ?kopen_rows ?aleast_corner ?ileast_corner ?lleast_corner ?cleast_corner ?kleast_corner ?atake_row ?itake_row ?ltake_row ?ctake_row ?ktake_row ?atake_column ?itake_column ?ltake_column ?ctake_column ?ktake_column ?aclear_cross ?iclear_cross ?lclear_cross ?cclear_cross ?kclear_cross ?ainit ?iinit ?linit ?cinit ?kinit ?aslant_number ?islant_number ?lslant_number ?cslant_number ?kslant_number ?z0 ?z1 ?z2 ?z3 ?z4 ?z5 ?z6 ?z7 ?z8 ?z9 ?z10 ?z11 ?z12
    (case h1 | h2 | h3 | h4 | h5 | h6 | h7 | h8 | h9 | h18 | h19 | h20 | h21 | h22 | h23 | h24 | h25 | h26 | h27 | h28 | h29 | h30 | h31 | h32 | h33 | h34 | h35 | h36 | h37 | h38 | h39 =>
      refine' M.FnAt.mk ?a ?l ?c ?k
      (case a => k_is)
      (case l => k_is)
      (case c => k_is)
      (case k => k_is))
    (case aC | pg | hd | po | sa | mkC | kc | zle | zh6 | zpS | zlW | zju | aopen_columns | iopen_columns | lopen_columns | copen_columns | kopen_columns | aopen_rows | iopen_rows | lopen_rows | copen_rows | kopen_rows | aleast_corner | ileast_corner | lleast_corner | cleast_corner | kleast_corner | atake_row | itake_row | ltake_row | ctake_row | ktake_row | atake_column | itake_column | ltake_column | ctake_column | ktake_column | aclear_cross | iclear_cross | lclear_cross | cclear_cross | kclear_cross | ainit | iinit | linit | cinit | kinit | aslant_number | islant_number | lslant_number | cslant_number | kslant_number | z0 | z1 | z2 | z3 | z4 | z5 | z6 | z7 | z8 | z9 | z10 | z11 | z12 => k_is)
end
