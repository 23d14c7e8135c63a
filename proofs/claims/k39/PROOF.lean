import PyProof.Rows.All
import Wide.All
import OpenK.AllK
import Wide.FinOn
import Lean
import PyProof.EqAt
import PyProof.EqKinds
import PyProof.TupleCall
import PyProof.Rows.Range3
import PyProof.ZipIter
import PyProof.Draws
import PyProof.EnumMake
import PyProof.Rows.FactsTup
import PyProof.LayNew
import PyProof.Rows.SeqMore2
import PyProof.Rows.RuleIs
import KE.KRevIter
import PyProof.P3In
import KE.KSortTup
import PyProof.Rows.SortWalk
import PyProof.Rows.SetFrom
import KE.KIntText
import PyProof.StrOps2
import PySem.Challenge.RW_tellsum_k39_floors_judged
set_option Elab.async false
set_option linter.all false
set_option bootstrap.genMatcherCode false
set_option compiler.extract_closed false
set_option maxRecDepth 100000
theorem zu0(h:True:=by first|exact .inl rfl|exact .inr rfl|assumption):True:=trivial
theorem zu1(h:True:=by decide):True:=trivial
theorem zu2(h:True:=by rfl):True:=trivial
theorem zu3(h:True:=by intro _;rfl):True:=trivial
theorem zu4(h:True:=by intros;rfl):True:=trivial
theorem zu5(h:True:=by with_unfolding_all rfl):True:=trivial
theorem zu6(h:True:=by trivial):True:=trivial
theorem zu7(h:True:=by exactλ_ _=>rfl):True:=trivial
theorem zu8(h:True:=by decide+kernel):True:=trivial
theorem zu9(h:True:=by exactλ_=>rfl):True:=trivial
theorem zu10(h:True:=by kernel_rfl):True:=trivial
local macro_rules | `(tactic| trivial) => `(tactic| first|exact Or.inl rfl|exact Or.inr rfl|exact Or.inr (Or.inl rfl)|exact Or.inr (Or.inr rfl))
theorem xE02 {P Q:Prop}{C:Prop}(h:P∧Q)(k:P→Q→C):C:=by obtain⟨p,q⟩:=h;exact k p q
theorem xE03 {P Q R:Prop}{C:Prop}(h:P∧Q∧R)(k:P→Q→R→C):C:=by obtain⟨p,q,r⟩:=h;exact k p q r
theorem xE04 {P Q R S:Prop}{C:Prop}(h:P∧Q∧R∧S)(k:P→Q→R→S→C):C:=by obtain⟨p,q,r,s⟩:=h;exact k p q r s
theorem xE05 {P Q R S T:Prop}{C:Prop}(h:P∧Q∧R∧S∧T)(k:P→Q→R→S→T→C):C:=by obtain⟨p,q,r,s,t⟩:=h;exact k p q r s t
theorem xE06 {P Q R S T U:Prop}{C:Prop}(h:P∧Q∧R∧S∧T∧U)(k:P→Q→R→S→T→U→C):C:=by obtain⟨p,q,r,s,t,u⟩:=h;exact k p q r s t u
theorem xE11 {α:Sort _}{P:α→Prop}{C:Prop}(h:∃a,P a)(k:∀a,P a→C):C:=by obtain⟨a,p⟩:=h;exact k a p
theorem xE12 {α:Sort _}{P Q:α→Prop}{C:Prop}(h:∃a,P a∧Q a)(k:∀a,P a→Q a→C):C:=by obtain⟨a,p,q⟩:=h;exact k a p q
theorem xE13 {α:Sort _}{P Q R:α→Prop}{C:Prop}(h:∃a,P a∧Q a∧R a)(k:∀a,P a→Q a→R a→C):C:=by obtain⟨a,p,q,r⟩:=h;exact k a p q r
theorem xE14 {α:Sort _}{P Q R S:α→Prop}{C:Prop}(h:∃a,P a∧Q a∧R a∧S a)(k:∀a,P a→Q a→R a→S a→C):C:=by obtain⟨a,p,q,r,s⟩:=h;exact k a p q r s
theorem xE15 {α:Sort _}{P Q R S T:α→Prop}{C:Prop}(h:∃a,P a∧Q a∧R a∧S a∧T a)(k:∀a,P a→Q a→R a→S a→T a→C):C:=by obtain⟨a,p,q,r,s,t⟩:=h;exact k a p q r s t
theorem xE21 {α β:Sort _}{P:α→β→Prop}{C:Prop}(h:∃a b,P a b)(k:∀a b,P a b→C):C:=by obtain⟨a,b,p⟩:=h;exact k a b p
theorem xE22 {α β:Sort _}{P Q:α→β→Prop}{C:Prop}(h:∃a b,P a b∧Q a b)(k:∀a b,P a b→Q a b→C):C:=by obtain⟨a,b,p,q⟩:=h;exact k a b p q
theorem xE23 {α β:Sort _}{P Q R:α→β→Prop}{C:Prop}(h:∃a b,P a b∧Q a b∧R a b)(k:∀a b,P a b→Q a b→R a b→C):C:=by obtain⟨a,b,p,q,r⟩:=h;exact k a b p q r
theorem xE24 {α β:Sort _}{P Q R S:α→β→Prop}{C:Prop}(h:∃a b,P a b∧Q a b∧R a b∧S a b)(k:∀a b,P a b→Q a b→R a b→S a b→C):C:=by obtain⟨a,b,p,q,r,s⟩:=h;exact k a b p q r s
theorem xE31 {α β γ:Sort _}{P:α→β→γ→Prop}{C:Prop}(h:∃a b c,P a b c)(k:∀a b c,P a b c→C):C:=by obtain⟨a,b,c,p⟩:=h;exact k a b c p
theorem xE32 {α β γ:Sort _}{P Q:α→β→γ→Prop}{C:Prop}(h:∃a b c,P a b c∧Q a b c)(k:∀a b c,P a b c→Q a b c→C):C:=by obtain⟨a,b,c,p,q⟩:=h;exact k a b c p q
theorem xE33 {α β γ:Sort _}{P Q R:α→β→γ→Prop}{C:Prop}(h:∃a b c,P a b c∧Q a b c∧R a b c)(k:∀a b c,P a b c→Q a b c→R a b c→C):C:=by obtain⟨a,b,c,p,q,r⟩:=h;exact k a b c p q r
open Lean in
local macro_rules
| `(tactic| obtain ⟨$ps,*⟩ := $h) => do
 let ps:=ps.getElems
 let k:=ps.size
 if k<2||k>6 then Macro.throwUnsupported
 let mut bs:Array Term:= #[]
 let mut post:Array (TSyntax `tactic):= #[]
 let mut i:=0
 for p in ps do
  let q:=p.raw[0][0][0]
  if p.raw[1].getNumArgs != 0||p.raw[0][0].getNumArgs != 1 then Macro.throwUnsupported
  let x:=mkIdent (← Macro.addMacroScope (.mkSimple s!"y{i}"))
  i:=i+1
  if q.isOfKind ``Parser.Tactic.rcasesPat.one then
   let d:Ident:=⟨q[0]⟩
   if d.getId== `rfl then
    bs:=bs.push x
    let pp:TSyntax ``Parser.Tactic.rcasesPatMed:=⟨p.raw[0]⟩
    post:=post.push (← `(tactic| obtain $pp := $x))
   else
    bs:=bs.push d
    if h.raw.isIdent&&h.raw.getId==d.getId then Macro.throwUnsupported
  else if q.isOfKind ``Parser.Tactic.rcasesPat.ignore then bs:=bs.push (← `(_))
  else if q.isOfKind ``Parser.Tactic.rcasesPat.tuple then
   bs:=bs.push x
   let pp:TSyntax ``Parser.Tactic.rcasesPatMed:=⟨p.raw[0]⟩
   post:=post.push (← `(tactic| obtain $pp := $x))
  else Macro.throwUnsupported
 let mut alts:Array (TSyntax ``Parser.Tactic.tacticSeq):= #[]
 for n in [0:min 4 k] do
  let f:=mkIdent (.mkSimple s!"xE{n}{k-n}")
  alts:=alts.push (← `(tacticSeq| refine $f $h λ$bs* => ?_))
 let cl← if h.raw.isIdent then `(tactic| try clear $(⟨h.raw⟩)) else `(tactic| skip)
 `(tactic| ((first $[| $alts]*);$cl;$[$post];*))
noncomputable section
section
open PySem PySem.Spec PySem.W
abbrev AA:=@List
abbrev AB:=@Option
abbrev AC:=@Value
abbrev AD:=@Addr
abbrev AE:=@Shared
abbrev AF:=@W.Frag
abbrev AG:=@wpAny
abbrev AH:=@absurd
abbrev AI:=@Expr
abbrev AJ:=@Program
abbrev AK:=@Heap
abbrev AL:=@mainGlobals
end
noncomputable abbrev mG:=@decide_eq_false
abbrev qab:=@beq_eq_false_iff_ne
noncomputable abbrev Xg:=@PySem.Paired.length
noncomputable abbrev dQ:=@PySem.Heap.lt_size
noncomputable abbrev iV:=@Nat.lt_of_lt_of_le
noncomputable abbrev Dg:=@Nat.lt_irrefl
noncomputable abbrev gG:=@Nat.ne_of_lt
abbrev qah:=@List.mem_range
noncomputable abbrev jE:=@Nat.le_trans
noncomputable abbrev Rg:=@List.filterMap_cons
noncomputable abbrev jP:=@List.mem_cons_self
noncomputable abbrev iN:=@List.mem_cons_of_mem
abbrev qam:=@List.mem_cons
abbrev qan:=@List.mem_append
noncomputable abbrev kZ:=@List.mem_append_left
abbrev qap:=@List.getElem?_eq_some_iff
noncomputable abbrev Wb:=@List.getElem?_set_self
noncomputable abbrev iF:=@List.getElem?_set_ne
noncomputable abbrev lY:=@PySem.wpAny_mono
noncomputable abbrev Fv:=@PySem.wpAny_truthy_bool
noncomputable abbrev Yv:=@Array.length_toList
noncomputable abbrev Wj:=@PySem.wpAny_execs_nil
noncomputable abbrev aJ:=@PySem.wpAny_bind
noncomputable abbrev jS:=@PySem.wpAny_holding
noncomputable abbrev Za:=@PySem.wpAny_standAt
noncomputable abbrev Es:=@PySem.wpAny_passesOwn
noncomputable abbrev hZ:=@Bool.false_ne_true
abbrev qaB:=@PySem.wpAny_pure
noncomputable abbrev bK:=@PySem.Heap.get?_push_of_some
noncomputable abbrev eL:=@PySem.Heap.get?_push_size
noncomputable abbrev bZ:=@Nat.le_refl
noncomputable abbrev Uo:=@PyProof.Rows.callWith_type1
abbrev qaG:=@List.mem_filterMap
noncomputable abbrev eX:=@List.mem_append_right
noncomputable abbrev gF:=@PySem.sizeLine_eq
noncomputable abbrev cJ:=@List.size_toArray
noncomputable abbrev qU:=@PySem.W.kia_one
abbrev qaL:=@PySem.Calls.spliced_cons
noncomputable abbrev lW:=@List.append_nil
abbrev qaN:=@PySem.wpAny_Call_Name_kw
abbrev qaO:=@List.nodup_cons
abbrev qaP:=@Option.isSome_iff_exists
noncomputable abbrev kO:=@List.length_take
noncomputable abbrev Qn:=@PySem.mem_of_lookup
noncomputable abbrev Ba:=@List.getElem?_append_right
noncomputable abbrev wY:=@List.getElem?_replicate
noncomputable abbrev iU:=@List.getElem?_append_left
noncomputable abbrev eG:=@List.getElem?_map
abbrev qaW:=@List.getElem?_take_of_lt
noncomputable abbrev xB:=@List.mem_of_getElem?
noncomputable abbrev eB:=@List.length_append
noncomputable abbrev cY:=@List.length_map
noncomputable abbrev Tp:=@List.length_replicate
abbrev qa1:=@PySem.F.slot_tuple_add
abbrev qa2:=@PySem.F.entry_tuple_add
abbrev qa3:=@PySem.F.args_tuple_add_2
noncomputable abbrev Lx:=@Int.toNat_natCast
noncomputable abbrev kU:=@if_false
noncomputable abbrev gJ:=@PySem.wpAny_field
noncomputable abbrev pT:=@List.length_drop
noncomputable abbrev yI:=@PySem.wpAny_callSpecial?_slot
noncomputable abbrev Wl:=@PyProof.Rows.slot_tuple_getitem
noncomputable abbrev qL:=@PySem.wpAny_call_entry
noncomputable abbrev fJ:=@Bool.and_eq_true
noncomputable abbrev tW:=@PySem.wpAny_newObj_type
noncomputable abbrev Xo:=@PySem.Heap.get?_update_self
noncomputable abbrev fR:=@List.length_set
noncomputable abbrev Yd:=@List.all_cons
noncomputable abbrev Nu:=@List.any_cons
noncomputable abbrev mE:=@List.replicate_succ
noncomputable abbrev Bv:=@List.flatten_cons
noncomputable abbrev qK:=@List.append_assoc
noncomputable abbrev Yy:=@List.foldl_cons
noncomputable abbrev Mh:=@PySem.call_meets
noncomputable abbrev Ut:=@List.length_singleton
noncomputable abbrev Ou:=@Nat.succ_mul
noncomputable abbrev Mb:=@Nat.add_comm
noncomputable abbrev Nl:=@Nat.mul_comm
noncomputable abbrev jJ:=@List.map_cons
noncomputable abbrev iP:=@decide_eq_true
noncomputable abbrev Yz:=@List.find?_cons
noncomputable abbrev eW:=@List.length_cons
noncomputable abbrev Zd:=@List.length_nil
noncomputable abbrev fV:=@Exists.imp
noncomputable abbrev iG:=@List.getElem?_set
abbrev qbx:=@Option.ne_none_iff_exists'
noncomputable abbrev jN:=@Option.bind_some
noncomputable abbrev Cq:=@Option.map_some
noncomputable abbrev Yw:=@Option.some.injEq
noncomputable abbrev Dj:=@decide_eq_true_eq
noncomputable abbrev jR:=@Nat.zero_le
abbrev qbD:=@List.eq_nil_of_length_eq_zero
noncomputable abbrev Sj:=@List.range_succ_eq_map
noncomputable abbrev cI:=@List.getElem?_eq_getElem
noncomputable abbrev Hy:=@Nat.lt_of_le_of_lt
noncomputable abbrev Br:=@Nat.not_lt_zero
noncomputable abbrev Mu:=@bne_iff_ne
abbrev qbJ:=@beq_iff_eq
noncomputable abbrev Nq:=@PySem.boot_len
noncomputable abbrev Dd:=@PySem.F.plainAttrs_list
abbrev qbM:=@PySem.F.slot_list_append
abbrev qbN:=@PySem.F.type_list_append
noncomputable abbrev Xj:=@List.drop_eq_getElem_cons
abbrev qbP:=@PySem.wpAny_pyIter_tuple
noncomputable abbrev zN:=@List.getElem?_cons_succ
noncomputable abbrev Zx:=@List.cons_append
noncomputable abbrev Ff:=@List.forIn_cons
noncomputable abbrev lT:=@List.lookup_cons
noncomputable abbrev Yn:=@beq_self_eq_true
noncomputable abbrev Zg:=@Nat.lt_succ_self
noncomputable abbrev Zc:=@Nat.lt_succ_of_lt
noncomputable abbrev kF:=@PySem.Heap.size_push
noncomputable abbrev Jy:=@List.forIn_nil
noncomputable abbrev Fo:=@Bool.false_eq_true
noncomputable abbrev Bu:=@List.all_eq_true
abbrev qb1:=@List.mem_map
abbrev qb2:=@List.take_succ_eq_append_getElem
noncomputable abbrev uE:=@List.take_of_length_le
noncomputable abbrev eO:=@List.getElem?_eq_none
noncomputable abbrev Jb:=@PySem.wpAny_rule
noncomputable abbrev Ke:=@List.map_drop
noncomputable abbrev Fc:=@List.map_take
noncomputable abbrev Ys:=@List.range_succ
abbrev qb9:=@List.map_append
noncomputable abbrev fA:=@List.map_map
abbrev qcb:=@Nat.add_left_cancel
noncomputable abbrev kM:=@PySem.wpAny_seqItems
noncomputable abbrev Tf:=@PySem.Obj.data_mapFields
noncomputable abbrev Wo:=@PySem.wpAny_setField
noncomputable abbrev Sv:=@PySem.Heap.SameBut.update
noncomputable abbrev kC:=@PySem.wpAny_setField_rec
noncomputable abbrev Wn:=@List.zipIdx_cons
noncomputable abbrev Yo:=@List.zipIdx_nil
noncomputable abbrev tX:=@PySem.wpAny_onRaise
noncomputable abbrev Cg:=@PySem.wpAny_letGo
abbrev qcl:=@PySem.AutoSeq1.wpAny_loadPart'
noncomputable abbrev Nk:=@List.not_mem_nil
noncomputable abbrev Mg:=@PySem.wpAny_attempt
noncomputable abbrev Cb:=@PySem.F.slot_zip_next
noncomputable abbrev Zi:=@PySem.F.entry_zip_next
noncomputable abbrev Yc:=@PySem.F.args_zip_next_1
noncomputable abbrev Ly:=@List.getElem?_zipWith
abbrev qcs:=@List.mem_singleton
noncomputable abbrev Pf:=@List.set_set
abbrev qcu:=@List.contains_cons
noncomputable abbrev mD:=@List.map_congr_left
noncomputable abbrev uD:=@Nat.zero_add
abbrev qcx:=@List.nodup_append
abbrev qcy:=@PySem.wpAny_updateSeq_pair
noncomputable abbrev Wi:=@PySem.F.slot_dict_keyiterator_next
noncomputable abbrev Xi:=@PySem.wpAny_typeNameOfWhole_keyiter
noncomputable abbrev Xa:=@PySem.wpAny_typeNameOf_keyiter
abbrev qcC:=@PySem.tupleKind_room_in1
noncomputable abbrev Oy:=@List.nodup_nil
abbrev qcE:=@PySem.F.slot_list_pop
abbrev qcF:=@PySem.F.type_list_pop
noncomputable abbrev Rj:=@List.eraseIdx_eq_take_drop_succ
abbrev qcH:=@exists_eq_left'
abbrev qcI:=@false_implies
noncomputable abbrev Nb:=@Function.comp_def
noncomputable abbrev lH:=@List.ext_getElem?
noncomputable abbrev Xr:=@Nat.min_eq_left
noncomputable abbrev eP:=@PySem.PassesOwn.never
noncomputable abbrev lO:=@PySem.W.mg_none_of
abbrev qcO:=@Nat.mul_le_mul_right
noncomputable abbrev Yp:=@Nat.mod_eq_of_lt
noncomputable abbrev Dm:=@Nat.mod_lt
namespace L2
open PyProof.Rows PySem PySem.Spec
variable {xs vs:AA V}{us its:AA AC}{x qual:Str}{u cd:AC}{H:Hp}{a b it dx:AD}{o:Obj}{w:World}{h base:AK}{g':Array GenState}{t' i j k n:Nat}{d':Drawn}{ch fp:AA AD}{e c tg:AI}{pins' AM pl:AA (AD×Obj)}{N ps:AA Str}{A:Around}{E:AC->AE->Prop}{v:V}{Q:Unit->AE->Prop}{X:Cx}{t:sE}{s s':AE}{pos pos':Pos}{σ:St}{K:AF}{f:AC->AC->Sem AC}{tc:TT}{es:AA AI}{te:TE}{g:Int->Int->Int}{op op':CmpOp}{tget:V->V->Hp->VK->Prop}{body:AA Stmt}{tb:TS}{p:AD×Obj}{r:V->Hp->VK->Prop}{C:Int->Int->Prop}{mA mg:Str->AB AC}{fd:FuncData}{kindOf:Str->AB NameKind}{sc scope:Scope}{CX:xK}{outer:AA Env}{params:Arguments}
noncomputable abbrev bX:=Sum Int Str
noncomputable def Mw:bX->AC->Bool
 | .inl k,v=>Value.isInt k v
 | .inr x,v=>Value.isStrOf x v
noncomputable def Sw (w:World):bX->Int
 | .inl k=>hashInt k
 | .inr x=>hashStr w x
theorem vB:∀{k:bX} {v:AC},Mw k v=true->(∃i t,k=Sum.inl i/\v=Value.int i t)\/(∃x t,k=Sum.inr x/\v=Value.str x t)
 | .inl i,v,h=>by
  obtain⟨t,e⟩:=Value.isInt_shape (k:=i) (v:=v) h;exact .inl ⟨i,t,rfl,e⟩
 | .inr x,v,h=>by
  obtain⟨t,e⟩:=Value.isStrOf_shape (x:=x) (v:=v) h;exact .inr ⟨x,t,rfl,e⟩
theorem zok (i:Int)(t:Tok):Mw (.inl i) (.int i t)=true:=by simp[Mw,Value.isInt]
theorem zn7 (x:Str)(t:Tok):Mw (.inr x) (.str x t)=true:=by simp[Mw,Value.isStrOf]
theorem Jm (a b:Int):decide ((Sum.inl a:bX)=Sum.inl b)=(a==b):=by
 by_cases e:a=b
 ·subst e;simp
 ·have h:¬(Sum.inl a:bX)=Sum.inl b:=λq=>e (Sum.inl.inj q)
  rw[mG h];exact(qab.mpr e).symm
theorem Ee (a b:Str):decide ((Sum.inr a:bX)=Sum.inr b)=decide (a=b):=by
 by_cases e:a=b
 ·subst e;simp
 ·have h:¬(Sum.inr a:bX)=Sum.inr b:=λq=>e (Sum.inr.inj q)
  rw[mG h,mG e]
theorem Ls (a:Int)(b:Str):decide ((Sum.inl a:bX)=Sum.inr b)=false:=mG (λq=>nomatch q)
theorem Ka (a:Str)(b:Int):decide ((Sum.inr a:bX)=Sum.inl b)=false:=mG (λq=>nomatch q)
noncomputable def jW (prog:AJ)(w:World):PySem.KeyKind prog w bX where
 is:=Mw
 hash:=Sw w
 inj:=λv a b ha hb=>by
  rcases vB ha with⟨i,t,rfl,rfl⟩|⟨x,t,rfl,rfl⟩
  ·rcases vB hb with⟨j,u,rfl,e⟩|⟨y,u,rfl,e⟩
   ·injection e with e1 _;rw[e1]
   ·exact nomatch e
  ·rcases vB hb with⟨j,u,rfl,e⟩|⟨y,u,rfl,e⟩
   ·exact nomatch e
   ·injection e with e1 _;rw[e1]
 byValue:=λk v h=>by
  rcases vB h with⟨i,t,rfl,rfl⟩|⟨x,t,rfl,rfl⟩<;>rfl
 pyHash:=λhv h=>by
  rcases vB hv with⟨i,t,rfl,rfl⟩|⟨x,t,rfl,rfl⟩
  ·exact wpAny_pyHash_int h
  ·exact wpAny_pyHash_str h
 eqBool:=λhu hv h=>by
  rcases vB hu with⟨i,t,rfl,rfl⟩|⟨x,t,rfl,rfl⟩
  ·rcases vB hv with⟨j,u,rfl,rfl⟩|⟨y,u,rfl,rfl⟩
   ·rw[Jm]at h;exact wpAny_eqBool_int h
   ·rw[Ls]at h;exact SeqAt.EqAt.int_str i t y u _ _ _ _ h
  ·rcases vB hv with⟨j,u,rfl,rfl⟩|⟨y,u,rfl,rfl⟩
   ·rw[Ka]at h;exact SeqAt.EqAt.str_int x t j u _ _ _ _ h
   ·rw[Ee]at h;exact wpAny_eqBool_str h
 «strs»:=λk x t v h=>by
  rcases vB h with⟨i,u,rfl,e⟩|⟨y,u,rfl,e⟩
  ·exact nomatch e
  ·injection e with e1 _
   subst e1;cases v<;>rfl
theorem zmq (prog:AJ)(w:World)(i:Int)(t:Tok):(jW prog w).is (.inl i) (.int i t)=true:=zok i t
theorem zmc (prog:AJ)(w:World)(x:Str)(t:Tok):(jW prog w).is (.inr x) (.str x t)=true:=zn7 x t
inductive V where
 |non|bl (b:Bool)|int (i:Int)|str (x:Str)|byt (b:Array UInt8)|flt (b:UInt64)|ref (a:Addr)|ty (n:String)
 deriving DecidableEq
noncomputable def RelV:V->AC->Prop
 | .non,u=>u=Value.none
 | .bl b,u=>u=Value.bool b
 | .int i,u=>∃t,u=Value.int i t
 | .str x,u=>∃t,u=Value.str x t
 | .byt b,u=>∃t,u=Value.bytes b t
 | .flt b,u=>∃t,u=Value.float b t
 | .ref a,u=>u=Value.ref a
 | .ty n,u=>u=Value.type n
noncomputable abbrev Vals:AA V->AA AC->Prop:=Paired RelV
theorem Vals.length (r:Vals xs us):xs.length=us.length:=Xg r
theorem Vals.get:∀{xs:AA V} {us:AA AC} {i:Nat} {x:V},Vals xs us->xs[i]? =some x->∃u,us[i]? =some u/\RelV x u
 |_,_,_,_,.nil,e=>by simp at e
 |_,_,0,_,.cons r _,e=>by simp at e;subst e;exact⟨_,rfl,r⟩
 |_,_,i+1,x,.cons _ t,e=>by
  obtain⟨u,h1,h2⟩:=Vals.get (i:=i) (x:=x) t (by simpa using e);exact⟨u,by simpa using h1,h2⟩
theorem Vals.set {x:V}(r:RelV x u):∀{xs:AA V} {us:AA AC} (i:Nat),Vals xs us->Vals (xs.set i x) (us.set i u)
 |_,_,_,.nil=> .nil
 |_,_,0,.cons _ t=> .cons r t
 |_,_,i+1,.cons q t=> .cons q (Vals.set r i t)
theorem Vals.append:∀{xs ys:AA V} {us ws:AA AC},Vals xs us->Vals ys ws->Vals (xs++ys) (us++ws)
 |_,_,_,_,.nil,s=>s
 |_,_,_,_,.cons r t,s=> .cons r (Vals.append t s)
theorem Vals.take:∀{xs:AA V} {us:AA AC} (n:Nat),Vals xs us->Vals (xs.take n) (us.take n)
 |_,_,0,_=> .nil
 |_,_,_+1,.nil=> .nil
 |_,_,n+1,.cons r t=> .cons r (Vals.take n t)
theorem Vals.drop:∀{xs:AA V} {us:AA AC} (n:Nat),Vals xs us->Vals (xs.drop n) (us.drop n)
 |_,_,0,r=>r
 |_,_,_+1,.nil=> .nil
 |_,_,n+1,.cons _ t=>Vals.drop n t
noncomputable def RelO:AB V->AB AC->Prop
 |some v,some u=>RelV v u
 |none,none=>True
 |_,_=>False
noncomputable def KV {κ:Type}:AA (κ×V)->AA (κ×AC)->Prop:=Paired λ(p:κ×V) (q:κ×AC)=>p.1=q.1/\RelV p.2 q.2
noncomputable def kV:bX->V
 | .inl i=> .int i
 | .inr x=> .str x
inductive HO where
 /-- a list -/
 |lst (xs:List V)
 /-- a tuple (never changes) -/
 |tup (xs:List V)
 /-- a dict whose keys are ints and texts; one whose keys are tuples of ints and texts (the empty one is both) -/
 |dK (kvs:List (bX×V))|dT (kvs:List (List bX×V))
 /-- a set of ints: its members, its size -/
 |set (S:Int->Bool) (n:Nat)
 /-- an instance of the class at C, its dict at dx, its attributes -/
 |ins (C dx:Addr) (fs:List (Str×V))
 /-- the dict of the instance at x -/
 |own (x:Addr)
 /-- the dict of an exception -/
 |xd (fs:List (Str×V))
 /-- a bound method, f of x -/
 |met (f x:Addr)
 /-- a range object lo, lo + 1, .. below hi -/
 |rng (lo hi:Int)
 /-- a thing that is known to the object (the script; a dict while a loop walks it): read, never written while it is so -/
 |frz (o:Obj) (u:HO)
 /-- a code object's table -/
 |tbl (ps:Array Value)
 /-- any other thing, by what is true of its one object (a def of one's own: SetO a S n := HO.ext λh => ..) -/
 |ext (φ:Heap->Prop)
noncomputable abbrev Hp:=AD->AB HO
noncomputable def upd (H:Hp)(a:AD)(o:HO):Hp:=λb=>if b=a then some o else H b
theorem dU {o:HO}:upd H a o a=some o:=by unfold upd;rw[if_pos rfl]
theorem bF {o:HO}(h:b≠a):upd H a o b=H b:=by unfold upd;rw[if_neg h]
theorem jU {o:HO}(h:H a=some o)(h':H b=none):a≠b:=by
 intro e;subst e;rw[h]at h';cases h'
section
variable (P:AJ)(w:World)
noncomputable def ObjOk (H:Hp)(h:AK)(a:AD):HO->Prop
 | .lst xs=>xs.length<=sizeLine/\∃(its:AA AC) (n:Nat),Vals xs its/\h.get? a=some {cls:= .type "list",data:= .seq its.toArray n}
 | .tup xs=>xs.length<=sizeLine/\∃its:AA AC,Vals xs its/\IsTup h a its.toArray
 | .dK kvs=>kvs.length<=sizeLine/\(a==sysModules)=false/\∃vs,KV kvs vs/\h.DictOf (jW P w) a vs
 | .dT kvs=>kvs.length<=sizeLine/\(a==sysModules)=false/\∃xs:AA (AA bX×AD×AC),
   Paired (λ(p:AA bX×V) (q:AA bX×AD×AC)=>p.1=q.1/\H q.2.1=some (.tup (p.1.map kV))/\RelV p.2 q.2.2) kvs xs/\
   ∃o es ep,h.get? a=some o/\o.ExactDict/\o.data= .dict es ep/\es.toList=xs.map (entryOfKey (tupleKind (jW P w)))/\(xs.map (·.1)).Nodup
 | .set S n=>h.SetOf (intKind P w) a S n
 | .ins C dx fs=>H dx=some (.own a)/\fs.length<=1000/\dx≠a/\h.get? a=some (W.instObj C dx)/\
   ∃mA,h.Ns1 dx mA/\(∀f,RelO (fs.lookup f) (mA f))/\PySem.Within mA (fs.map (·.1))
 | .own _=>∃o,h.get? a=some o
 | .xd fs=>∃mA,h.Ns1 a mA/\∀f,RelO (fs.lookup f) (mA f)
 | .rng lo hi=>∃t u v,h.get? a=some {cls:= .type "range",data:= .fields #[.int lo t,.int hi u,.int 1 v]}
 | .frz o u=>h.get? a=some o/\ObjOk H h a u
 | .tbl ps=>h.get? a=some {cls:= .none,data:= .fields ps}
 | .met f x=>h.get? a=some (W.methodObj (.ref f) (.ref x))
 | .ext φ=>φ h/\(∃o,h.get? a=some o)/\∀h1 h2:AK,φ h1->(∀o,h1.get? a=some o->h2.get? a=some o)->φ h2
noncomputable def HOk (H:Hp)(h:AK):Prop:=∀a o,H a=some o->ObjOk P w H h a o
end
section
variable {P:AJ}{w:World}{H H':Hp}{h h':AK}{a:AD}{o:HO}
theorem ObjOk.lt (x:ObjOk P w H h a o):a<h.objs.size:=by
 cases o with
 |lst xs=>obtain⟨_,_,_,_,e⟩:=x;exact dQ e
 |tup xs=>obtain⟨_,_,_,p⟩:=x;exact p.lt
 |dK kvs=>obtain⟨_,_,_,_,o,_,_,e,_⟩:=x;exact dQ e
 |dT kvs=>obtain⟨_,_,_,_,o,_,_,e,_⟩:=x;exact dQ e
 |set S n=>obtain⟨o,_,_,_,e,_⟩:=x;exact dQ e
 |ins C dx fs=>obtain⟨_,_,_,e,_⟩:=x;exact dQ e
 |own y=>obtain⟨_,e⟩:=x;exact dQ e
 |xd fs=>obtain⟨_,⟨_,_,_,e,_⟩,_⟩:=x;exact dQ e
 |rng lo hi=>obtain⟨_,_,_,e⟩:=x;exact dQ e
 |frz ob u=>obtain⟨e,_⟩:=x;exact dQ e
 |tbl ps=>exact dQ (show h.get? a=some _ from x)
 |met f y=>exact dQ (show h.get? a=some _ from x)
 |ext φ=>obtain⟨_,⟨_,e⟩,_⟩:=x;exact dQ e
theorem Paired.mapP {α β:Type}{F G:α->β->Prop}:∀{l₁:AA α} {l₂:AA β},Paired F l₁ l₂->(∀a b,F a b->G a b)->Paired G l₁ l₂
 |_,_,.nil,_=> .nil
 |_,_,.cons r t,f=> .cons (f _ _ r) (Paired.mapP t f)
theorem ObjOk.stay (x:ObjOk P w H h a o)(k:∀b u,(b=a\/H b=some (.own a))->h.get? b=some u->h'.get? b=some u)(ho:∀b,H b=some (.own a)->H' b=some (.own a))(ht:∀b xs,H b=some (.tup xs)->H' b=some (.tup xs)):ObjOk P w H' h' a o:=by
 induction o with
 |lst xs=>obtain⟨z,its,n,r,e⟩:=x;exact⟨z,its,n,r,k _ _ (.inl rfl) e⟩
 |tup xs=>obtain⟨z,its,r,ob,e,c⟩:=x;exact⟨z,its,r,ob,k _ _ (.inl rfl) e,c⟩
 |dK kvs=>obtain⟨z,y,vs,r,ob,es,ep,e,c⟩:=x;exact⟨z,y,vs,r,ob,es,ep,k _ _ (.inl rfl) e,c⟩
 |dT kvs=>
  obtain⟨z,y,xs,r,ob,es,ep,e,c⟩:=x;exact⟨z,y,xs,Paired.mapP r λp q z=>⟨z.1,ht _ _ z.2.1,z.2.2⟩,ob,es,ep,k _ _ (.inl rfl) e,c⟩
 |set S n=>obtain⟨ob,es,ep,t,e,c⟩:=x;exact⟨ob,es,ep,t,k _ _ (.inl rfl) e,c⟩
 |ins C dx fs=>
  obtain⟨d,z,ne,e,mA,⟨od,es,ep,e2,c⟩,r⟩:=x;exact⟨ho _ d,z,ne,k _ _ (.inl rfl) e,mA,⟨od,es,ep,k _ _ (.inr d) e2,c⟩,r⟩
 |own y=>obtain⟨ob,e⟩:=x;exact⟨ob,k _ _ (.inl rfl) e⟩
 |xd fs=>obtain⟨mA,⟨od,es,ep,e,c⟩,r⟩:=x;exact⟨mA,⟨od,es,ep,k _ _ (.inl rfl) e,c⟩,r⟩
 |rng lo hi=>obtain⟨t,u,v,e⟩:=x;exact⟨t,u,v,k _ _ (.inl rfl) e⟩
 |frz ob u ih=>obtain⟨e,q⟩:=x;exact⟨k _ _ (.inl rfl) e,ih q⟩
 |tbl ps=>
  have e:h.get? a=some {cls:= .none,data:= .fields ps}:=x;show h'.get? a=some {cls:= .none,data:= .fields ps};exact k a _ (.inl rfl) e
 |met f y=>
  have e:h.get? a=some (W.methodObj (.ref f) (.ref y)):=x;show h'.get? a=some (W.methodObj (.ref f) (.ref y));exact k a _ (.inl rfl) e
 |ext φ=>obtain⟨p,⟨o,e⟩,st⟩:=x;exact⟨st _ _ p λo q=>k _ _ (.inl rfl) q,⟨o,k _ _ (.inl rfl) e⟩,st⟩
theorem HOk.lt (x:HOk P w H h)(e:H a=some o):a<h.objs.size:=(x a o e).lt
theorem HOk.fresh (x:HOk P w H h)(e:h.objs.size<=a):H a=none:=by
 cases q:H a with
 |none=>rfl
 |some u=>exact AH (iV (x.lt q) e) (Dg _)
theorem HOk.kept (x:HOk P w H h)(k:∀b u,h.get? b=some u->h'.get? b=some u):HOk P w H h':=λa o e=>
 (x a o e).stay (λb u _ q=>k b u q) (λ_ q=>q) λ_ _ q=>q
theorem HOk.laid (x:HOk P w H h)(k:∀b u,h.get? b=some u->h'.get? b=some u)(hp:h.objs.size<=a)(new:ObjOk P w (upd H a o) h' a o):HOk P w (upd H a o) h':=λb u e=>by
 have hn:=x.fresh hp
 by_cases hb:b=a
 ·subst hb;rw[dU]at e;cases e;exact new
 ·rw[bF hb]at e;exact(x b u e).stay (λc v _ q=>k c v q) (λc q=>by rw[bF (jU q hn)];exact q) λc xs q=>by rw[bF (jU q hn)];exact q
end
noncomputable def Rd (H:Hp)(a:AD)(u:HO):Prop:=H a=some u\/∃o,H a=some (.frz o u)
theorem Rd.ok {P:AJ}{u:HO}(r:Rd H a u)(x:HOk P w H h):ObjOk P w H h a u:=by
 rcases r with r|⟨o,r⟩
 ·exact x a u r
 ·obtain⟨_,q⟩:=x a _ r;exact q
noncomputable def Sm:AB HO->Prop
 |some (.lst _)=>True
 |some (.dK _)=>True
 |some (.dT _)=>True
 |some (.set _ _)=>True
 |some (.ins _ _ _)=>True
 |some (.ext _)=>True
 |_=>False
section
variable {P:AJ}{w:World}{H:Hp}{h h':AK}{x e:AD}{o':HO}
theorem HOk.write (ok:HOk P w H h)(mu:Sm (H x))(he:e=x\/H e=some (.own x))(k:∀b u,b≠e->h.get? b=some u->h'.get? b=some u)(heo:∃u,h'.get? e=some u)(new:ObjOk P w (upd H x o') h' x o'):HOk P w (upd H x o') h':=λb u q=>by
 have nown:∀c y,H c=some (.own y)->c≠x:=λc y r z=>by subst z;rw[r]at mu;exact mu
 have ntup:∀c xs,H c=some (.tup xs)->c≠x:=λc xs r z=>by subst z;rw[r]at mu;exact mu
 by_cases hb:b=x
 ·subst hb;rw[dU]at q;cases q;exact new
 ·rw[bF hb]at q
  by_cases hbe:b=e
  ·have q':H b=some (.own x):=by
    rcases he with z|z
    ·exact AH (hbe.trans z) hb
    ·rw[hbe];exact z
   rw[q]at q';cases q';obtain⟨v,hv⟩:=heo;exact⟨v,by rw[hbe];exact hv⟩
  ·refine(ok b u q).stay (λc v hc r=>k c v ?_ r) (λc r=>by rw[bF (nown c b r)];exact r) λc xs r=>by rw[bF (ntup c xs r)];exact r
   rcases hc with rfl|hc
   ·exact hbe
   ·rintro rfl;rcases he with z|z
    ·exact nown c b hc z
    ·rw[hc]at z;cases z;exact hb rfl
end
structure Un (fs ex:List Addr)(H H':Hp)(h h':Heap):Prop where
 keep:∀b o,h.get? b=some o->H b=none->b∉fs->b∉ex->h'.get? b=some o
 slot:∀b o,h.get? b=some o->H b=none->b∈fs->b∉ex->∃sl,h'.get? b=some {o with slots:=sl}
 free:∀b o,h.get? b=some o->H b=none->b∉ex->H' b=none
 there:∀b o,h.get? b=some o->b∉ex->∃o',h'.get? b=some o'
 tups:∀b xs,H b=some (.tup xs)->H' b=some (.tup xs)
 frzs:∀b o u,H b=some (.frz o u)->H' b=some (.frz o u)
 tbls:∀b ps,H b=some (.tbl ps)->∃more,H' b=some (.tbl (ps++more))
section
variable {fs fs' ex ex':AA AD}{H H1 H2:Hp}{h h1 h2 h':AK}{a x e:AD}{o:HO}
theorem Un.any (u:Un fs ex H H1 h h1){ob:Obj}(q:h.get? b=some ob)(n:H b=none)(hx:b∉ex):∃sl,h1.get? b=some {ob with slots:=sl}:=by
 by_cases hb:b∈fs
 ·exact u.slot b ob q n hb hx
 ·exact⟨ob.slots,u.keep b ob q n hb hx⟩
theorem Un.kept (k:∀b u,h.get? b=some u->h'.get? b=some u):Un fs ex H H h h':=
 ⟨λb ob q _ _ _=>k b ob q,λb ob q _ _ _=>⟨ob.slots,k b ob q⟩,λ_ _ _ n _=>n,λb ob q _=>⟨ob,k b ob q⟩,λ_ _ q=>q,λ_ _ _ q=>q,λ_ ps q=>⟨#[],by rw[q];simp⟩⟩
theorem Un.refl:Un fs ex H H h h:=Un.kept λ_ _ q=>q
theorem Un.laid (k:∀b u,h.get? b=some u->h'.get? b=some u)(hp:h.objs.size<=a)(hn:H a=none):Un fs ex H (upd H a o) h h' where
 keep:=λb u q _ _ _=>k b u q
 slot:=λb u q _ _ _=>⟨u.slots,k b u q⟩
 free:=λb u q n _=>by rw[bF (gG (iV (dQ q) hp))];exact n
 there:=λb u q _=>⟨u,k b u q⟩
 tups:=λb xs q=>by rw[bF (jU q hn)];exact q
 frzs:=λb u xs q=>by rw[bF (jU q hn)];exact q
 tbls:=λb ps q=>⟨#[],by rw[bF (jU q hn),q];simp⟩
theorem Un.write (mu:Sm (H x))(he:e=x\/H e=some (.own x))(k:∀b u,b≠e->h.get? b=some u->h'.get? b=some u)(heo:∃u,h'.get? e=some u):Un fs ex H (upd H x o) h h':=by
 have hx:∀b,H b=none->b≠x:=λb n z=>by subst z;rw[n]at mu;exact mu
 have hb:∀b,H b=none->b≠e:=λb n z=>by
  subst z;rcases he with r|r
  ·exact hx b n r
  ·rw[n]at r;cases r
 have hm:∀b u,H b=some u->¬Sm (some u)->b≠x:=λb u q nm z=>by subst z;rw[q]at mu;exact nm mu
 refine⟨λb u q n _ _=>k b u (hb b n) q,λb u q n _ _=>⟨u.slots,k b u (hb b n) q⟩,λb u q n _=>by rw[bF (hx b n)];exact n,λb u q _=>?_,
  λb xs q=>by rw[bF (hm b _ q λz=>z)];exact q,λb u xs q=>by rw[bF (hm b _ q λz=>z)];exact q,λb ps q=>⟨#[],by rw[bF (hm b _ q λz=>z),q];simp⟩⟩
 by_cases hbe:b=e
 ·subst hbe;exact heo
 ·exact⟨u,k b u hbe q⟩
end
noncomputable def Vo (h:AK)(H:Hp):AA AD:=(List.range h.objs.size).filter λa=>(H a).isSome
noncomputable def iD (h:AK)(H:Hp):AK:=W.hideAll h (Vo h H)
theorem zoF (h:AK)(H:Hp):(iD h H).objs.size=h.objs.size:=W.hideAll_size _ _
theorem mM (e:h.get? b=some o)(n:H b=none):(iD h H).get? b=some o:=
 W.hideAll_get _ e λhm=>by
  have q:(H b).isSome=true:=(List.mem_filter.mp hm).2;rw[n]at q;simp at q
theorem Aq (e:(iD h H).get? b=some o):h.get? b=some o/\H b=none:=by
 have e':h.get? b=some o:=W.of_hideAll (Vo h H) e;refine⟨e',?_⟩;cases q:H b with
 |none=>rfl
 |some x=>
  have hm:b∈Vo h H:=List.mem_filter.mpr ⟨qah.mpr (dQ e'),by simp[q]⟩;have z:(iD h H).get? b=none:=W.hideAll_none (Vo h H) hm;rw[z]at e;cases e
noncomputable def uR (g h:AK)(L:AD):AA (AD×Obj):=(List.range h.objs.size).filterMap λa=>if a=L\/(g.get? a).isSome=true then none else(h.get? a).map λo=>(a,o)
noncomputable def rest (g h:AK)(L d:AD):AA (AD×Obj):=(uR g h L).filter λp=>decide (p.1≠d)
structure Mod (K:W.Frag)(mg:Str->Option Value)(base:Heap):Prop where
 kin:K.In base
 glob:base.Ns mainGlobals mg
 blt:∃mb,base.Ns builtinsNs mb/\∀x:Str,x≠"__name__"->mb x=bootBuiltins x
 nolimit:base.NoLimit
structure Cx where
 prog:Program
 w:World
 K:W.Frag
 mg:Str->Option Value
 base:Heap
 A:Around
 N:List Str
 s₀:Shared
 H₀:Hp
 env:Env
 outer:List Env
 stack:List Env
 ex:List Addr
 fn:Str->Bool
 calm:Bool
 pn:List (Addr×Obj)
 xe:Value->Shared->Prop
noncomputable def frs (l:AA Env):AA AD:=l.filterMap (·.frame)
noncomputable abbrev Cx.fs (X:Cx):AA AD:=frs X.outer
noncomputable def dG (sc:Scope)(x:Str):Prop:=sc.names.lookup x=some .local\/sc.names.lookup x=some .cell\/sc.names.lookup x=some .free
noncomputable def iO (sc:Scope)(x:Str):Prop:=sc.names.lookup x=some .local\/sc.names.lookup x=some .cell
noncomputable def Look (env:Env)(h:AK)(m:Str->AB AC)(x:Str)(u:AC):Prop:=
 (env.kindOf x=some .local/\m x=some u)\/((env.kindOf x=some .cell\/env.kindOf x=some .free)/\∃c,env.cells.lookup x=some c/\h.IsCell c (some u))
structure Cx.Ok (X:Cx):Prop where
 mod:Mod X.K X.mg X.base
 kind:X.env.scope.kind= .function
 glob:X.env.globals=mainGlobals
 blt:X.env.builtins=builtinsNs
 above:X.s₀.heap.objs.size<=X.env.locals
 inj:∀x y c,X.env.cells.lookup x=some c->X.env.cells.lookup y=some c->x=y
 has:∀x,(X.env.kindOf x=some .cell\/X.env.kindOf x=some .free)->∃c,X.env.cells.lookup x=some c
 cab:∀x c,X.fn x=true->X.env.cells.lookup x=some c->X.s₀.heap.objs.size<=c
 hd:X.calm=true->X.A.handled=none
 frames:X.A.frames=some X.stack
 stk:X.stack=X.outer\/(X.stack=X.env::X.outer/\X.env.frame=some X.env.locals)
 exf:∀b∈X.ex,b≠X.env.locals/\∀x c,X.env.cells.lookup x=some c->c≠b
 bs:∀b o,X.base.get? b=some o->X.s₀.heap.get? b=some o/\X.H₀ b=none
 bsz:X.base.objs.size<=X.s₀.heap.objs.size
 noex:∀b o,X.base.get? b=some o->b∉X.ex
 exfs:∀b∈X.ex,b∉X.fs
 funs:X.s₀.heap.FunFrames X.base X.outer
 frf:∀b∈X.fs,X.H₀ b=none
structure Inv (X:Cx)(AM:List (Addr×Obj))(σ:List (Option V))(H:Hp)(s:Shared):Prop where
 ok:X.Ok
 os:s.os=X.s₀.os
 bare:AllBare s.gens
 base:Un X.fs X.ex X.H₀ H X.s₀.heap s.heap
 loc:∃m,s.heap.Ns X.env.locals m/\∀(i:Nat) (x:Str) (v:V),X.N[i]? =some x->σ[i]? =some (some v)->dG X.env.scope x->∃u,RelV v u/\Look X.env s.heap m x u
 cell:∀x c,X.env.cells.lookup x=some c->∃v,s.heap.IsCell c v
 free:H X.env.locals=none
 freeC:∀x c,X.env.cells.lookup x=some c->H c=none
 pin:∀p∈X.pn++AM,s.heap.get? p.1=some p.2/\H p.1=none/\p.1≠X.env.locals/\p.1∉X.fs/\∀v,p.2.data≠ .cell v
 hok:HOk X.prog X.w H s.heap
 len:σ.length=X.N.length
section
variable {X:Cx}{AM:AA (AD×Obj)}{σ:AA (AB V)}{H H':Hp}{s:AE}{h':AK}
theorem Cx.Ok.nofr (ok:X.Ok)(e:X.base.get? b=some o):b∉X.fs:=λhb=>by
 have:=(ok.funs.mem hb).1;rw[e]at this;cases this
theorem Inv.bs (I:Inv X AM σ H s):∀b o,X.base.get? b=some o->s.heap.get? b=some o/\H b=none:=λb o e=>
 ⟨I.base.keep b o (I.ok.bs b o e).1 (I.ok.bs b o e).2 (I.ok.nofr e) (I.ok.noex b o e),I.base.free b o (I.ok.bs b o e).1 (I.ok.bs b o e).2 (I.ok.noex b o e)⟩
theorem Inv.bk (I:Inv X AM σ H s):∀b o,X.base.get? b=some o->s.heap.get? b=some o:=λb o e=>(I.bs b o e).1
theorem Inv.mod (I:Inv X AM σ H s):Mod X.K X.mg X.base:=I.ok.mod
theorem Inv.kIn (I:Inv X AM σ H s):X.K.In s.heap:=I.ok.mod.kin.keeps I.bk
theorem Inv.lt (I:Inv X AM σ H s):X.env.locals<s.heap.objs.size:=let⟨_,hn,_⟩:=I.loc;hn.lt
theorem Inv.sz (I:Inv X AM σ H s):X.s₀.heap.objs.size<=s.heap.objs.size:=jE I.ok.above (Nat.le_of_lt I.lt)
theorem Inv.nofs (I:Inv X AM σ H s)(h:s.heap.objs.size<=a):a∉X.fs:=λhb=>by
 obtain⟨_,o,ho,_⟩:=I.ok.funs.mem hb;exact AH (iV (dQ ho) (jE I.sz h)) (Dg _)
theorem Inv.cne (I:Inv X AM σ H s):∀x c,X.env.cells.lookup x=some c->c≠X.env.locals:=λx c e z=>by
 obtain⟨v,o,ho,hd⟩:=I.cell x c e;obtain⟨m,⟨o',es,ep,ho',hd',_⟩,_⟩:=I.loc;rw[z,ho']at ho;cases ho;rw[hd']at hd;cases hd
theorem Inv.funs (I:Inv X AM σ H s):s.heap.FunFrames X.base X.outer:=by
 have all:∀(l:AA Env),(∀b∈frs l,b∈X.fs)->X.s₀.heap.FunFrames X.base l->s.heap.FunFrames X.base l:=by
  intro l
  induction l with
  |nil=>intro _ _;trivial
  |cons env r ih=>
   intro hs hl;obtain⟨hk,⟨L,o,hf,hn,ho,hd⟩,hr⟩:=hl;have hL:L∈X.fs:=hs L (by unfold frs;rw[Rg,hf];exact jP);obtain⟨sl,e⟩:=I.base.slot L o ho (I.ok.frf L hL) hL λz=>I.ok.exfs L z hL
   exact⟨hk,⟨L,_,hf,hn,e,hd⟩,ih (λb hb=>hs b (by unfold frs;rw[Rg,hf];exact iN _ hb)) hr⟩
 exact all X.outer (λ_ hb=>hb) I.ok.funs
theorem Inv.stack (I:Inv X AM σ H s):s.heap.FunFrames X.base X.stack:=by
 rcases I.ok.stk with e|⟨e,hf⟩
 ·rw[e];exact I.funs
 ·rw[e];obtain⟨m,hn,_⟩:=I.loc;refine .cons (by rw[I.ok.kind];decide) hf hn ?_ I.funs;exact Heap.get?_none_of_le (jE I.ok.bsz I.ok.above)
theorem Inv.stkSub (I:Inv X AM σ H s):∀b∈frs X.stack,b∈X.env.locals::X.fs:=λb hb=>by
 rcases I.ok.stk with e|⟨e,hf⟩
 ·rw[e]at hb;exact iN _ hb
 ·rw[e]at hb;unfold frs at hb;rw[Rg,hf]at hb;exact hb
theorem Inv.stkFree (I:Inv X AM σ H s):∀b∈frs X.stack,H b=none:=λb hb=>by
 rcases qam.mp (I.stkSub b hb)with e|hb
 ·rw[e];exact I.free
 ·obtain⟨_,o,ho,_⟩:=I.ok.funs.mem hb;exact I.base.free b o ho (I.ok.frf b hb) λz=>I.ok.exfs b z hb
theorem Inv.step (I:Inv X AM σ H s)(hch:∀b∈ch,(b∈X.ex\/X.s₀.heap.objs.size<=b)/\b≠X.env.locals/\(∀x c,X.env.cells.lookup x=some c->c≠b)/\∀p∈X.pn++AM,p.1≠b)(keep:∀b o,b≠X.env.locals->b∉X.fs->b∉ch->s.heap.get? b=some o->H b=none->h'.get? b=some o)(slot:∀b o,b≠X.env.locals->b∈X.fs->b∉ch->s.heap.get? b=some o->H b=none->∃sl,h'.get? b=some {o with slots:=sl})(free:∀b o,b∉ch->s.heap.get? b=some o->H b=none->H' b=none)(there:∀b o,b∉ch->s.heap.get? b=some o->∃o',h'.get? b=some o')(tups:∀b xs,H b=some (.tup xs)->H' b=some (.tup xs))(frzs:∀b o u,H b=some (.frz o u)->H' b=some (.frz o u))(tbls:∀b ps,H b=some (.tbl ps)->∃more,H' b=some (.tbl (ps++more)))(ns:∀m,s.heap.Ns X.env.locals m->h'.Ns X.env.locals m)(hok:HOk X.prog X.w H' h')(hg:AllBare g'):
  Inv X AM σ H' {s with heap:=h',gens:=g',drawn:=d',toks:=t'}:=by
 have neL:∀b o,X.s₀.heap.get? b=some o->b≠X.env.locals:=λb o e=>gG (iV (dQ e) I.ok.above)
 have neC:∀b o,X.s₀.heap.get? b=some o->b∉X.ex->b∉ch:=λb o e hx hb=>by
  rcases(hch b hb).1 with z|z
  ·exact hx z
  ·exact AH (iV (dQ e) z) (Dg _)
 have cellK:∀x c,X.env.cells.lookup x=some c->∀v,s.heap.IsCell c v->h'.IsCell c v:=λx c e v ⟨o,ho,hd⟩=>by
  have nch:c∉ch:=λz=>(hch c z).2.2.1 x c e rfl
  by_cases hc:c∈X.fs
  ·obtain⟨sl,q⟩:=slot c o (I.cne x c e) hc nch ho (I.freeC x c e);exact⟨_,q,hd⟩
  ·exact⟨o,keep c o (I.cne x c e) hc nch ho (I.freeC x c e),hd⟩
 refine⟨I.ok,I.os,hg,⟨λb o e n hb hx=>?_,λb o e n hb hx=>?_,λb o e n hx=>?_,λb o e hx=>?_,λb xs e=>tups b xs (I.base.tups b xs e),λb o xs e=>frzs b o xs (I.base.frzs b o xs e),λb ps e=>?_⟩,?_,λx c e=>?_,?_,λx c e=>?_,λp hp=>?_,hok,I.len⟩
 ·exact keep b o (neL b o e) hb (neC b o e hx) (I.base.keep b o e n hb hx) (I.base.free b o e n hx)
 ·obtain⟨sl,e1⟩:=I.base.slot b o e n hb hx;obtain⟨sl',e2⟩:=slot b _ (neL b o e) hb (neC b o e hx) e1 (I.base.free b o e n hx);exact⟨sl',e2⟩
 ·obtain⟨o',e1⟩:=I.base.there b o e hx;exact free b o' (neC b o e hx) e1 (I.base.free b o e n hx)
 ·obtain⟨o',e1⟩:=I.base.there b o e hx;exact there b o' (neC b o e hx) e1
 ·obtain⟨m1,e1⟩:=I.base.tbls b ps e;obtain⟨m2,e2⟩:=tbls b _ e1;exact⟨m1++m2,by rw[e2,Array.append_assoc]⟩
 ·obtain⟨m,hn,hl⟩:=I.loc;refine⟨m,ns m hn,λi x v e1 e2 e3=>?_⟩;obtain⟨u,r,l⟩:=hl i x v e1 e2 e3;refine⟨u,r,?_⟩;rcases l with l|⟨k,c,e,z⟩
  ·exact .inl l
  ·exact .inr ⟨k,c,e,cellK x c e _ z⟩
 ·obtain⟨v,z⟩:=I.cell x c e;exact⟨v,cellK x c e v z⟩
 ·obtain⟨m,⟨o,_,_,ho,_⟩,_⟩:=I.loc;exact free _ o (λz=>(hch _ z).2.1 rfl) ho I.free
 ·obtain⟨v,o,ho,hd⟩:=I.cell x c e;exact free c o (λz=>(hch c z).2.2.1 x c e rfl) ho (I.freeC x c e)
 ·obtain⟨e,n,ne,nf,d⟩:=I.pin p hp;have nch:p.1∉ch:=λz=>(hch p.1 z).2.2.2 p hp rfl
  exact⟨keep p.1 p.2 ne nf nch e n,free p.1 p.2 nch e n,ne,nf,d⟩
theorem Inv.un (I:Inv X AM σ H s)(u:Un X.fs [] H H' s.heap h')(hok:HOk X.prog X.w H' h'):Inv X AM σ H' {s with heap:=h',toks:=t'}:=by
  obtain⟨m,⟨o,es,ep,ho,r⟩,_⟩:=id I.loc;obtain⟨sl,hL⟩:=u.any ho I.free (by simp);exact I.step (g':=s.gens) (d':=s.drawn) (ch:=[]) (λ_ z=>nomatch z) (λb o _ hb _ e n=>u.keep b o e n hb (by simp)) (λb o _ hb _ e n=>u.slot b o e n hb (by simp)) (λb o _ e n=>u.free b o e n (by simp)) (λb o _ e=>u.there b o e (by simp)) u.tups u.frzs u.tbls (λm' hm=>by
    obtain⟨o',es',ep',ho',r'⟩:=hm;rw[ho]at ho';cases ho';exact⟨_,es',ep',hL,r'⟩) hok I.bare
theorem Inv.call {ch:AA AD}(I:Inv X AM σ H s)(u:Un (frs X.stack) ch H H' s.heap h')(hok:HOk X.prog X.w H' h')(hg:AllBare g')(hch:∀b∈ch,(b∈X.ex\/X.s₀.heap.objs.size<=b)/\b≠X.env.locals/\(∀x c,X.env.cells.lookup x=some c->c≠b)/\∀p∈X.pn++AM,p.1≠b):
  Inv X AM σ H' {s with heap:=h',gens:=g',drawn:=d',toks:=t'}:=by
 obtain⟨m,⟨o,es,ep,ho,r⟩,_⟩:=id I.loc;obtain⟨sl,hL⟩:=u.any ho I.free λz=>(hch _ z).2.1 rfl
 exact I.step (ch:=ch) hch (λb o hL hb hc e n=>u.keep b o e n (λz=>(qam.mp (I.stkSub b z)).elim hL hb) hc) (λb o _ _ hc e n=>u.any e n hc) (λb o hc e n=>u.free b o e n hc) (λb o hc e=>u.there b o e hc) u.tups u.frzs u.tbls (λm' hm=>by
  obtain⟨o',es',ep',ho',r'⟩:=hm;rw[ho]at ho';cases ho';exact⟨_,es',ep',hL,r'⟩) hok hg
theorem Inv.turned (I:Inv X AM σ H s)(k:∀b o,b≠it->s.heap.get? b=some o->h'.get? b=some o)(hn:H it=none)(hL:it≠X.env.locals)(h1:it∈X.ex\/X.s₀.heap.objs.size<=it)(h2:∀x c,X.env.cells.lookup x=some c->c≠it)(h3:∀p∈X.pn++AM,p.1≠it):Inv X AM σ H {s with heap:=h',toks:=t'}:=by
 have nit:∀b u,H b=some u->b≠it:=λb u e z=>by rw[z,hn]at e;cases e
 refine I.step (g':=s.gens) (d':=s.drawn) (ch:=[it]) (λb hb=>?_) (λb o _ _ hc e _=>k b o (λz=>hc (by simp[z])) e) (λb o _ _ hc e _=>⟨o.slots,k b o (λz=>hc (by simp[z])) e⟩) (λ_ _ _ _ n=>n)
  (λb o hc e=>⟨o,k b o (λz=>hc (by simp[z])) e⟩) (λ_ _ e=>e) (λ_ _ _ e=>e) (λb ps e=>⟨#[],by rw[e];simp⟩) (λm hm=>?_) (λb u e=>?_) I.bare
 ·have e:b=it:=by simpa using hb
  subst e;exact⟨h1,hL,h2,h3⟩
 ·obtain⟨o,es,ep,ho,r⟩:=hm;exact⟨o,es,ep,k _ o (Ne.symm hL) ho,r⟩
 ·refine(I.hok b u e).stay (λc v hc q=>k c v ?_ q) (λ_ q=>q) λ_ _ q=>q
  rcases hc with z|z
  ·rw[z];exact nit b u e
  ·exact nit c _ z
theorem Inv.tok (I:Inv X AM σ H s)(t:Nat):Inv X AM σ H {s with toks:=t}:=I.un (h':=s.heap) (t':=t) Un.refl I.hok
theorem Inv.kept (I:Inv X AM σ H s)(k:∀b u,s.heap.get? b=some u->h'.get? b=some u):Inv X AM σ H {s with heap:=h',toks:=t'}:=I.un (Un.kept k) (I.hok.kept k)
theorem Inv.laid {o:HO}(I:Inv X AM σ H s)(k:∀b u,s.heap.get? b=some u->h'.get? b=some u)(hp:s.heap.objs.size<=a)(new:ObjOk X.prog X.w (upd H a o) h' a o):
  Inv X AM σ (upd H a o) {s with heap:=h',toks:=t'}:=I.un (Un.laid k hp (I.hok.fresh hp)) (I.hok.laid k hp new)
theorem Inv.write {x e:AD}{o:HO}(I:Inv X AM σ H s)(mu:Sm (H x))(he:e=x\/H e=some (.own x))(k:∀b u,b≠e->s.heap.get? b=some u->h'.get? b=some u)(heo:∃u,h'.get? e=some u)(new:ObjOk X.prog X.w (upd H x o) h' x o):Inv X AM σ (upd H x o) {s with heap:=h',toks:=t'}:=I.un (Un.write mu he k heo) (I.hok.write mu he k heo new)
theorem Inv.pins_of (I:Inv X AM σ H s)(h:∀p∈pins',s.heap.get? p.1=some p.2/\H p.1=none/\p.1≠X.env.locals/\p.1∉X.fs/\∀v,p.2.data≠ .cell v):Inv X pins' σ H s:=
 ⟨I.ok,I.os,I.bare,I.base,I.loc,I.cell,I.free,I.freeC,λp hp=>(qan.mp hp).elim (λz=>I.pin p (kZ _ z)) (h p),I.hok,I.len⟩
theorem zmN (hN:N.Nodup)(a:N[i]? =some x)(b:N[j]? =some x):i=j:=by
 obtain⟨h1,e1⟩:=qap.mp a;obtain⟨h2,e2⟩:=qap.mp b;exact(List.getElem_inj hN).mp (e1.trans e2.symm)
theorem zoK {M:Model}(I:Inv X AM σ H s)(hN:X.N.Nodup)(hi:X.N[i]? =some x)(hx:iO X.env.scope x)(r:RelV v u)(h:∀s',Inv X AM (σ.set i (some v)) H s'->(∃a,Heap.SameBut a s.heap s'.heap/\(a=X.env.locals\/X.env.cells.lookup x=some a))->Q () s')(hf:autoParam (X.fn x=true\/X.env.scope.names.lookup x=some .local) zu0._auto_1):AG M A (storeName X.env x u) Q E s:=by
  obtain⟨m,hn,hl⟩:=id I.loc;have hcls:(X.env.scope.kind== .class||(X.env.scope.kind== .module&&X.env.locals !=X.env.globals))=false:=by rw[I.ok.kind];rfl
  have hiσ:i<σ.length:=by rw[I.len];exact(qap.mp hi).1
  have cne:=I.cne;have tracked:∀{a:AD} {h':AK},(∃o,s.heap.get? a=some o/\H a=none)->Heap.SameBut a s.heap h'->HOk X.prog X.w H h':=λ{a h'} ha hs b ob e=>by
    obtain⟨_,_,hfree⟩:=ha;refine(I.hok b ob e).stay (λc w' hc q=>(hs.2 c ?_).trans q) (λ_ q=>q) λ_ _ q=>q
    rintro rfl;rcases hc with rfl|hc
    . rw[hfree]at e;cases e
    . rw[hfree]at hc;cases hc
  rcases hx with hk|hk
  . refine wpAny_storeName_local hk hn (λh' hn' hs=>?_) hcls
    obtain⟨oL,_,_,hoL,_⟩:=id hn;refine h _ ⟨I.ok,I.os,I.bare,⟨λb o e n hb hx=>?_,λb o e n hb hx=>?_,I.base.free,λb o e hx=>?_,I.base.tups,I.base.frzs,I.base.tbls⟩,⟨_,hn',λj y v' e1 e2 e3=>?_⟩,λy c e=>?_,I.free,I.freeC,λp hp=>?_,tracked ⟨oL,hoL,I.free⟩ hs,by simpa using I.len⟩ ⟨_,hs,.inl rfl⟩
    . exact(hs.2 b (gG (iV (dQ e) I.ok.above))).trans (I.base.keep b o e n hb hx)
    . obtain⟨sl,e1⟩:=I.base.slot b o e n hb hx
      exact⟨sl,(hs.2 b (gG (iV (dQ e) I.ok.above))).trans e1⟩
    . obtain⟨o',e1⟩:=I.base.there b o e hx
      exact⟨o',(hs.2 b (gG (iV (dQ e) I.ok.above))).trans e1⟩
    . by_cases hj:j=i
      . subst hj
        rw[hi]at e1;cases e1;rw[Wb hiσ]at e2;cases e2;exact⟨u,r,.inl ⟨hk,by simp⟩⟩
      . rw[iF (Ne.symm hj)]at e2
        obtain⟨u',r',q⟩:=hl j y v' e1 e2 e3;refine⟨u',r',?_⟩;rcases q with⟨k,e⟩|⟨k,c,e,z⟩
        . refine .inl ⟨k,?_⟩
          have:y≠x:=λe=>hj (zmN hN e1 (e ▸ hi))
          simp[this,e]
        . exact .inr ⟨k,c,e,z.sameBut hs (cne y c e)⟩
    . obtain⟨w',z⟩:=I.cell y c e
      exact⟨w',z.sameBut hs (cne y c e)⟩
    . obtain⟨e,n,ne,nf,d⟩:=I.pin p hp
      exact⟨(hs.2 p.1 ne).trans e,n,ne,nf,d⟩
  . have hfn:X.fn x=true:=by
      rcases hf with z|z
      . exact z
      . rw[z]at hk;cases hk
    obtain⟨c,hc⟩:=I.ok.has x (.inl hk);obtain⟨w',z⟩:=I.cell x c hc;refine wpAny_storeName_cell I.ok.kind hk hc z (λh' hc' hs=>?_);obtain⟨oc,hoc,hocd⟩:=id z;refine h {s with heap:=h'} ⟨I.ok,I.os,I.bare,⟨λb o e n hb hx=>?_,λb o e n hb hx=>?_,I.base.free,λb o e hx=>?_,I.base.tups,I.base.frzs,I.base.tbls⟩,⟨m,hn.sameBut hs (Ne.symm (cne x c hc)),λj y v' e1 e2 e3=>?_⟩,λy c' e=>?_,I.free,I.freeC,λp hp=>?_,tracked ⟨oc,hoc,I.freeC x c hc⟩ hs,by simpa using I.len⟩ ⟨c,hs,.inr hc⟩
    . exact(hs.2 b (gG (iV (dQ e) (I.ok.cab x c hfn hc)))).trans (I.base.keep b o e n hb hx)
    . obtain⟨sl,e1⟩:=I.base.slot b o e n hb hx
      exact⟨sl,(hs.2 b (gG (iV (dQ e) (I.ok.cab x c hfn hc)))).trans e1⟩
    . obtain⟨o',e1⟩:=I.base.there b o e hx
      exact⟨o',(hs.2 b (gG (iV (dQ e) (I.ok.cab x c hfn hc)))).trans e1⟩
    . by_cases hj:j=i
      . subst hj
        rw[hi]at e1;cases e1;rw[Wb hiσ]at e2;cases e2;exact⟨u,r,.inr ⟨.inl hk,c,hc,hc'⟩⟩
      . rw[iF (Ne.symm hj)]at e2
        obtain⟨u',r',q⟩:=hl j y v' e1 e2 e3;refine⟨u',r',?_⟩;rcases q with q|⟨k,c',e,z'⟩
        . exact .inl q
        . refine .inr ⟨k,c',e,z'.sameBut hs ?_⟩
          rintro rfl;exact hj (zmN hN e1 (I.ok.inj _ _ _ e hc ▸ hi))
    . by_cases hcc:c'=c
      . subst hcc;exact⟨_,hc'⟩
      . obtain⟨w2,z2⟩:=I.cell y c' e
        exact⟨w2,z2.sameBut hs hcc⟩
    . obtain⟨e,n,ne,nf,d⟩:=I.pin p hp
      refine⟨(hs.2 p.1 ?_).trans e,n,ne,nf,d⟩;intro q;rw[q,hoc]at e;have q':oc=p.2:=Option.some.inj e;exact d w' (by rw[<-q'];exact hocd)
theorem zkE {M:Model}(I:Inv X AM σ H s)(hN:X.N.Nodup)(hi:X.N[i]? =some x)(hx:iO X.env.scope x)(r:RelV v u)(h:∀s',Inv X AM (σ.set i (some v)) H s'->Q () s')(hf:autoParam (X.fn x=true\/X.env.scope.names.lookup x=some .local) zu0._auto_1):AG M A (storeName X.env x u) Q E s:=
 zoK I hN hi hx r (λs' I' _=>h s' I') hf
end
noncomputable abbrev XK:=AC->AB AD->Hp->Prop
noncomputable abbrev St:=AA (AB V)
noncomputable abbrev VK:=V->Hp->Prop
noncomputable abbrev TE:=St->Hp->VK->Prop
noncomputable abbrev TT:=St->Hp->(Bool->Hp->Prop)->Prop
noncomputable abbrev TA:=St->Hp->(AA V->Hp->Prop)->Prop
structure Ends where
 nx:St->Hp->Prop
 rt:VK
 bk:St->Hp->Prop:=λ_ _=>False
 ct:St->Hp->Prop:=λ_ _=>False
noncomputable abbrev TS:=Ends->St->Hp->Prop
noncomputable def EP (X:Cx)(AM:AA (AD×Obj))(σ:St)(Q:VK)(u:AC)(s':AE):Prop:=∃v H',Inv X AM σ H' s'/\RelV v u/\Q v H'
noncomputable def TP (X:Cx)(AM:AA (AD×Obj))(σ:St)(Q:Bool->Hp->Prop)(b:Bool)(s':AE):Prop:=∃H',Inv X AM σ H' s'/\Q b H'
noncomputable def AP (X:Cx)(AM:AA (AD×Obj))(σ:St)(Q:AA V->Hp->Prop)(us:AA AC)(s':AE):Prop:=∃vs H',Inv X AM σ H' s'/\Vals vs us/\Q vs H'
noncomputable def SP (X:Cx)(AM:AA (AD×Obj))(D:Ends)(f:Flow)(s':AE):Prop:=
 match f with
 | .next=>∃σ' H',Inv X AM σ' H' s'/\D.nx σ' H'
 | .brk=>∃σ' H',Inv X AM σ' H' s'/\D.bk σ' H'
 | .cont=>∃σ' H',Inv X AM σ' H' s'/\D.ct σ' H'
 | .ret u=>∃v σ' H',Inv X AM σ' H' s'/\RelV v u/\D.rt v H'
noncomputable def PE (X:Cx)(e:AI)(t:TE):Prop:=
 ∀(AM:AA (AD×Obj)) (s:AE) (σ:St) (H:Hp) (Q:VK),Inv X AM σ H s->t σ H Q->AG (model X.prog X.w) X.A (eval e X.env) (EP X AM σ Q) X.xe s
noncomputable def PT (X:Cx)(e:AI)(t:TT):Prop:=
 ∀(AM:AA (AD×Obj)) (s:AE) (σ:St) (H:Hp) (Q:Bool->Hp->Prop),Inv X AM σ H s->t σ H Q->AG (model X.prog X.w) X.A (isTrue e X.env (eval e X.env)) (TP X AM σ Q) X.xe s
noncomputable def PW (X:Cx)(e:AI)(t:TT):Prop:=
 ∀(whole:Sem AC) (AM:AA (AD×Obj)) (s:AE) (σ:St) (H:Hp) (Q:Bool->Hp->Prop),Inv X AM σ H s->t σ H Q->AG (model X.prog X.w) X.A (isTrue e X.env whole) (TP X AM σ Q) X.xe s
theorem PW.pt {t:TT}(h:PW X e t):PT X e t:=h _
noncomputable def PA (X:Cx)(es:AA AI)(t:TA):Prop:=
 ∀(pos:Pos) (AM:AA (AD×Obj)) (s:AE) (σ:St) (H:Hp) (Q:AA V->Hp->Prop),Inv X AM σ H s->t σ H Q->AG (model X.prog X.w) X.A (spliced (backTo pos (starEach es X.env))) (AP X AM σ Q) X.xe s
noncomputable def PS (X:Cx)(st:Stmt)(t:TS):Prop:=
 ∀(AM:AA (AD×Obj)) (s:AE) (σ:St) (H:Hp) (D:Ends),Inv X AM σ H s->t D σ H->AG (model X.prog X.w) X.A (exec st X.env) (SP X AM D) X.xe s
noncomputable def PSs (X:Cx)(st:AA Stmt)(t:TS):Prop:=
 ∀(AM:AA (AD×Obj)) (s:AE) (σ:St) (H:Hp) (D:Ends),Inv X AM σ H s->t D σ H->AG (model X.prog X.w) X.A (execs st X.env) (SP X AM D) X.xe s
theorem bE {α:Type}{t:Sem α}{Q Q':α->AE->Prop}{M:Model}(h:AG M A t Q E s)(hQ:∀a s,Q a s->Q' a s):AG M A t Q' E s:=lY h hQ λ_ _ x=>x
section
variable {X:Cx}
noncomputable def Se (i:Nat):TE:=λσ H Q=>∃v,σ[i]? =some (some v)/\Q v H
noncomputable def tC (v:V):TE:=λ_ H Q=>Q v H
theorem eE (hN:X.N[i]? =some x)(hv:dG X.env.scope x)(hd:autoParam ((x==("__debug__":Str))=false) zu1._auto_1)(hcd:autoParam ((x==("__classdict__":Str))=false) zu1._auto_1):PE X (.Name x pos) (Se i):=by
 intro AM s σ H Q I h;obtain⟨v,e,h⟩:=h;obtain⟨m,hn,hl⟩:=I.loc;obtain⟨u,r,l⟩:=hl i x v hN e hv;have fin:EP X AM σ Q u s:=⟨v,H,I,r,h⟩;rcases l with⟨hk,hm⟩|⟨hk,c,hc,hcell⟩
 ·exact wpAny_Name (wpAny_loadName_local I.ok.kind hk hn hm fin) hd
 ·rcases hk with hk|hk
  ·exact wpAny_Name (wpAny_loadName_cell I.ok.kind hk hc hcell fin) hd
  ·exact wpAny_Name (wpAny_loadName_free I.ok.kind hk hc hcell fin hcd) hd
theorem Vy {i j pos}:PE X (.Constant (.int i) j pos) (tC (.int i)):=λ_ _ _ H _ I h=>wpAny_Constant_int ⟨.int i,H,I.tok _,⟨_,rfl⟩,h⟩
theorem Tx {b j pos}:PE X (.Constant (.bool b) j pos) (tC (.bl b)):=λ_ _ _ H _ I h=>Constant_bool ⟨.bl b,H,I,rfl,h⟩
theorem Ep {j pos}:PE X (.Constant .none j pos) (tC .non):=λ_ _ _ H _ I h=>Constant_none ⟨.non,H,I,rfl,h⟩
theorem Kl {x j pos}:PE X (.Constant (.str x) j pos) (tC (.str x)):=λ_ _ _ H _ I h=>Calls.Constant_str ⟨.str x,H,I.tok _,⟨_,rfl⟩,h⟩
noncomputable def Gl (X:Cx)(x:Str):Prop:=X.env.kindOf x=some .globalImplicit
theorem Ar {Q:AC->AE->Prop}(I:Inv X AM σ H s)(hg:Gl X x)(hm:X.mg x=some u)(h:Q u s)(hd:autoParam ((x==("__debug__":Str))=false) zu1._auto_1):AG (model X.prog X.w) X.A (eval (.Name x pos) X.env) Q E s:=
 Calls.Name_function_global I.ok.kind hg (Calls.loadGlobal_global (by rw[I.ok.glob];exact I.mod.glob.keeps I.bk) hm h) hd
theorem Iq {Q:AC->AE->Prop}(I:Inv X AM σ H s)(hg:Gl X x)(hm:X.mg x=none)(hv:bootBuiltins x=some u)(h:Q u s)(hn:autoParam (x≠"__name__") zu1._auto_1)(hd:autoParam ((x==("__debug__":Str))=false) zu1._auto_1):AG (model X.prog X.w) X.A (eval (.Name x pos) X.env) Q E s:=by
 obtain⟨mb,h1,h2⟩:=I.mod.blt;exact Calls.Name_function_global I.ok.kind hg (Calls.loadGlobal_builtin (by rw[I.ok.glob];exact I.mod.glob.keeps I.bk) hm (by rw[I.ok.blt];exact h1.keeps I.bk) ((h2 x hn).trans hv) h) hd
theorem Aj (hg:Gl X x)(hm:X.mg x=none)(hv:bootBuiltins x=some u)(r:RelV v u)(hn:autoParam (x≠"__name__") zu1._auto_1)(hd:autoParam ((x==("__debug__":Str))=false) zu1._auto_1):PE X (.Name x pos) (tC v):=
 λ_ _ _ H _ I h=>Iq I hg hm hv ⟨v,H,I,r,h⟩ hn hd
variable {a b:AI}{ta tb:TE}{pos:Pos}
variable {tA tB':TT}{rest:AA AI}
noncomputable def tAnd (t u:TT):TT:=λσ H Q=>t σ H λc H1=>if c=true then u σ H1 Q else Q false H1
noncomputable def tOr (t u:TT):TT:=λσ H Q=>t σ H λc H1=>if c=true then Q true H1 else u σ H1 Q
noncomputable def tNot (t:TT):TT:=λσ H Q=>t σ H λc H1=>Q (!c) H1
theorem wF (ha:PT X a tA):PW X (.BoolOp .And [a] pos) tA:=by
 intro wh AM s σ H Q I h;refine isTrue_and (bE (ha AM s σ H Q I h) λc s1 e=>?_);cases c with
 |true=>exact isTrue_and_nil e
 |false=>exact e
theorem Eu (ha:PT X a tA):PW X (.BoolOp .Or [a] pos) tA:=by
 intro wh AM s σ H Q I h;refine isTrue_or (bE (ha AM s σ H Q I h) λc s1 e=>?_);cases c with
 |false=>exact isTrue_or_nil e
 |true=>exact e
theorem Gm (ha:PT X a tA)(hb:PW X (.BoolOp .And (b::rest) pos) tB'):PW X (.BoolOp .And (a::b::rest) pos) (tAnd tA tB'):=by
 intro wh AM s σ H Q I h;refine isTrue_and (bE (ha AM s σ H _ I h) λc s1 ⟨H1,I1,q1⟩=>?_);cases c with
 |true=>exact hb wh AM s1 σ H1 Q I1 q1
 |false=>exact⟨H1,I1,q1⟩
theorem Rm (ha:PT X a tA)(hb:PW X (.BoolOp .Or (b::rest) pos) tB'):PW X (.BoolOp .Or (a::b::rest) pos) (tOr tA tB'):=by
 intro wh AM s σ H Q I h;refine isTrue_or (bE (ha AM s σ H _ I h) λc s1 ⟨H1,I1,q1⟩=>?_);cases c with
 |true=>exact⟨H1,I1,q1⟩
 |false=>exact hb wh AM s1 σ H1 Q I1 q1
theorem Gy (ha:PT X a tA):PT X (.UnaryOp .Not a pos) (tNot tA):=by
 intro AM s σ H Q I h;exact isTrue_not (ha AM s σ H (λc H1=>Q (!c) H1) I h)
noncomputable def Oi (ta tb:TE):TE:=λσ H Q=>ta σ H λx H1=>∃c,x= .bl c/\if c=true then tb σ H1 Q else Q (.bl false) H1
theorem Hu {op}{t:TE}(h:PE X a t):PE X (.BoolOp op [a] pos) t:=λAM s σ H Q I hw=>BoolOp_one (h AM s σ H Q I hw)
theorem Kb (ha:PE X a ta)(hb:PE X (.BoolOp .And (b::rest) pos) tb):PE X (.BoolOp .And (a::b::rest) pos) (Oi ta tb):=by
 intro AM s σ H Q I h;refine BoolOp_and (bE (ha AM s σ H _ I h) λv s1 ⟨x,H1,I1,r1,q1⟩=>?_);obtain⟨c,rfl,q1⟩:=q1;cases r1;refine Fv ?_;cases c with
 |true=>exact hb AM s1 σ H1 Q I1 q1
 |false=>exact⟨.bl false,H1,I1,rfl,q1⟩
noncomputable def tIf (t:TT)(ta tb:TE):TE:=λσ H Q=>t σ H λc H1=>if c=true then ta σ H1 Q else tb σ H1 Q
theorem sW (hc:PT X c tA)(ha:PE X a ta)(hb:PE X b tb):PE X (.IfExp c a b pos) (tIf tA ta tb):=by
 intro AM s σ H Q I h;refine wpAny_IfExp (bE (hc AM s σ H _ I h) λd s1 ⟨H1,I1,q1⟩=>?_);cases d with
 |true=>exact ha AM s1 σ H1 Q I1 q1
 |false=>exact hb AM s1 σ H1 Q I1 q1
end
noncomputable def SqL (K:AF)(H:Hp)(a:AD)(xs:AA V):Prop:=
 Rd H a (.lst xs)\/
  ∃(o:Obj) (its:Array AC) (n:Nat),K.lookup a=some o/\o.cls= .type "list"/\o.dict=none/\o.data= .seq its n/\its.size<=sizeLine/\Vals xs its.toList
noncomputable def SqT (K:AF)(H:Hp)(a:AD)(xs:AA V):Prop:=
 Rd H a (.tup xs)\/
  ∃(o:Obj) (its:Array AC) (n:Nat),K.lookup a=some o/\o.cls= .type "tuple"/\o.data= .seq its n/\its.size<=sizeLine/\Vals xs its.toList
noncomputable def absV:AC->AB V
 | .none=>some .non
 | .bool b=>some (.bl b)
 | .int i _=>some (.int i)
 | .str x _=>some (.str x)
 | .bytes b _=>some (.byt b)
 | .float b _=>some (.flt b)
 | .ref a=>some (.ref a)
 | .type n=>some (.ty n)
 |_=>none
theorem RelV.abs {x:V}(r:RelV x u):absV u=some x:=by
 cases x with
 |non=>cases r;rfl
 |bl _=>cases r;rfl
 |int _=>obtain⟨t,rfl⟩:=r;rfl
 |str _=>obtain⟨t,rfl⟩:=r;rfl
 |byt _=>obtain⟨t,rfl⟩:=r;rfl
 |flt _=>obtain⟨t,rfl⟩:=r;rfl
 |ref _=>cases r;rfl
 |ty _=>cases r;rfl
theorem RelV.inj {x y:V}(r:RelV x u)(q:RelV y u):x=y:=Option.some.inj (r.abs.symm.trans q.abs)
theorem Vals.inj:∀{xs ys:AA V} {us:AA AC},Vals xs us->Vals ys us->xs=ys
 |_,_,_,.nil,.nil=>rfl
 |_,_,_,.cons r t,.cons r' t'=>by rw[r.inj r',Vals.inj t t']
section
variable {X:Cx}{AM:AA (AD×Obj)}{σ:St}{H:Hp}{s:AE}{a:AD}{xs ys:AA V}
theorem SqL.of (h:H a=some (.lst xs)):SqL K H a xs:= .inl (.inl h)
theorem SqT.of (h:H a=some (.tup xs)):SqT K H a xs:= .inl (.inl h)
theorem Inv.list (I:Inv X AM σ H s)(h:SqL X.K H a xs):∃its:AA AC,Vals xs its/\PlainL s.heap a its.toArray/\xs.length<=sizeLine:=by
 rcases h with h|⟨o,its,n,hk,hc,hd,hs,hz,r⟩
 ·obtain⟨z,its,n,r,e⟩:=h.ok I.hok;exact⟨its,r,⟨_,n,e,rfl,rfl,rfl⟩,z⟩
 ·refine⟨its.toList,r,⟨o,n,I.kIn a o hk,hc,hd,by simpa using hs⟩,?_⟩;have e:=r.length;simp only[Yv]at e;lia
theorem Inv.tuple (I:Inv X AM σ H s)(h:SqT X.K H a xs):∃its:AA AC,Vals xs its/\IsTup s.heap a its.toArray/\xs.length<=sizeLine:=by
 rcases h with h|⟨o,its,n,hk,hc,hs,hz,r⟩
 ·obtain⟨z,its,r,p⟩:=h.ok I.hok;exact⟨its,r,p,z⟩
 ·refine⟨its.toList,r,⟨o,I.kIn a o hk,hc,n,by simpa using hs⟩,?_⟩;have e:=r.length;simp only[Yv]at e;lia
theorem Inv.list_inj (I:Inv X AM σ H s)(h:SqL X.K H a xs)(h':SqL X.K H a ys):xs=ys:=by
 obtain⟨its,r,⟨o,n,e,_,_,d⟩,_⟩:=I.list h;obtain⟨its',r',⟨o',n',e',_,_,d'⟩,_⟩:=I.list h';rw[e]at e';cases e';rw[d]at d';injection d' with d1 _
 have:its=its':=by simpa using congrArg Array.toList d1
 subst this;exact r.inj r'
theorem Inv.tuple_inj (I:Inv X AM σ H s)(h:SqT X.K H a xs)(h':SqT X.K H a ys):xs=ys:=by
 obtain⟨its,r,⟨o,e,_,n,d⟩,_⟩:=I.tuple h;obtain⟨its',r',⟨o',e',_,n',d'⟩,_⟩:=I.tuple h';rw[e]at e';cases e';rw[d]at d';injection d' with d1 _
 have:its=its':=by simpa using congrArg Array.toList d1
 subst this;exact r.inj r'
end
noncomputable abbrev Cx.wish (X:Cx)(E:AC->AE->Prop):Cx:={X with xe:=E}
noncomputable abbrev Cx.nox (X:Cx):Cx:=X.wish λ_ _=>False
theorem Cx.Ok.wish (ok:X.Ok)(E:AC->AE->Prop):(X.wish E).Ok:=
 ⟨ok.mod,ok.kind,ok.glob,ok.blt,ok.above,ok.inj,ok.has,ok.cab,ok.hd,ok.frames,ok.stk,ok.exf,ok.bs,ok.bsz,ok.noex,ok.exfs,ok.funs,ok.frf⟩
theorem Cx.Ok.unwish (ok:(X.wish E).Ok):X.Ok:=
 ⟨ok.mod,ok.kind,ok.glob,ok.blt,ok.above,ok.inj,ok.has,ok.cab,ok.hd,ok.frames,ok.stk,ok.exf,ok.bs,ok.bsz,ok.noex,ok.exfs,ok.funs,ok.frf⟩
section
variable {X:Cx}{AM:AA (AD×Obj)}{σ:St}{H:Hp}{s:AE}{E:AC->AE->Prop}
theorem Inv.wish (I:Inv X AM σ H s)(E:AC->AE->Prop):Inv (X.wish E) AM σ H s:=⟨I.ok.wish E,I.os,I.bare,I.base,I.loc,I.cell,I.free,I.freeC,I.pin,I.hok,I.len⟩
theorem Inv.unwish (I:Inv (X.wish E) AM σ H s):Inv X AM σ H s:=⟨I.ok.unwish,I.os,I.bare,I.base,I.loc,I.cell,I.free,I.freeC,I.pin,I.hok,I.len⟩
theorem SP.unwish {D:Ends}{f:Flow}(h:SP (X.wish E) AM D f s'):SP X AM D f s':=by
 cases f with
 |next=>obtain⟨σ',H',I,q⟩:=h;exact⟨σ',H',I.unwish,q⟩
 |brk=>obtain⟨σ',H',I,q⟩:=h;exact⟨σ',H',I.unwish,q⟩
 |cont=>obtain⟨σ',H',I,q⟩:=h;exact⟨σ',H',I.unwish,q⟩
 |ret u=>obtain⟨v,σ',H',I,r,q⟩:=h;exact⟨v,σ',H',I.unwish,r,q⟩
theorem PSs.nox {st:AA Stmt}{t:TS}(h:PSs X.nox st t):PSs X st t:=λAM s σ H D I hw=>
 lY (h AM s σ H D (I.wish _) hw) (λ_ _ q=>q.unwish) λ_ _ z=>False.elim z
end
section
variable {X:Cx}{st:Stmt}{rest:AA Stmt}{t u:TS}{e:AI}{te:TE}{pos:Pos}
noncomputable def Rz:TS:=λD σ H=>D.nx σ H
noncomputable def tSeq (t u:TS):TS:=λD σ H=>t {D with nx:=u D} σ H
theorem xW:PSs X [] Rz:=λ_ _ σ H _ I h=>Wj ⟨σ,H,I,h⟩
theorem pE (h1:PS X st t)(h2:PSs X rest u):PSs X (st::rest) (tSeq t u):=by
 intro AM s σ H D I h;refine wpAny_execs_cons (bE (h1 AM s σ H {D with nx:=u D} I h) λf s1 q=>?_);cases f with
 |next=>
  obtain⟨σ',H',I',q⟩:=q;exact h2 AM s1 σ' H' D I' q
 |ret v=>exact q
 |brk=>exact q
 |cont=>exact q
theorem Bf (h1:PS X st t):PSs X [st] t:=by
 intro AM s σ H D I h;refine wpAny_execs_cons (bE (h1 AM s σ H D I h) λf s1 q=>?_);cases f with
 |next=>exact Wj q
 |ret v=>exact q
 |brk=>exact q
 |cont=>exact q
theorem Inv.quiet (I:Inv X AM σ H s):interactive X.env=false:=by simp[interactive,I.ok.kind]
noncomputable def Ta (te:TE):TS:=λD σ H=>te σ H λ_ H1=>D.nx σ H1
theorem Ca (he:PE X e te)(hs:autoParam (swapsWith e none pos.line X.env=pure false) zu2._auto_1):PS X (.Expr e pos) (Ta te):=by
 intro AM s σ H D I h;exact wpAny_Expr_any (bE (he AM s σ H _ I h) λv s1 ⟨x,H1,I1,r1,q1⟩=>⟨σ,H1,I1,q1⟩) I.quiet hs
noncomputable def tRet (te:TE):TS:=λD σ H=>te σ H D.rt
theorem Ww (he:PE X e te):PS X (.Return (some e) pos) (tRet te):=by
 intro AM s σ H D I h;exact wpAny_Return_some (bE (he AM s σ H _ I h) λv s1 ⟨x,H1,I1,r1,q1⟩=>⟨x,σ,H1,I1,r1,q1⟩)
noncomputable def tIfS (c:TT)(t u:TS):TS:=λD σ H=>c σ H λb H1=>if b=true then t D σ H1 else u D σ H1
theorem Qo {a b:AA Stmt}(hc:PT X c tc)(ha:PSs X a t)(hb:PSs X b u):PS X (.If c a b pos) (tIfS tc t u):=by
 intro AM s σ H D I h;refine wpAny_If (bE (hc AM s σ H _ I h) λd s1 ⟨H1,I1,q1⟩=>?_);cases d with
 |true=>exact ha AM s1 σ H1 D I1 q1
 |false=>exact hb AM s1 σ H1 D I1 q1
end
noncomputable abbrev TG:=V->St->Hp->(St->Hp->Prop)->Prop
noncomputable abbrev nE:=AA V->St->Hp->(St->Hp->Prop)->Prop
noncomputable def PG (X:Cx)(target:AI)(t:TG):Prop:=
 ∀(AM:AA (AD×Obj)) (s:AE) (σ:St) (H:Hp) (v:V) (u:AC) (Q:St->Hp->Prop),Inv X AM σ H s->RelV v u->t v σ H Q->
  AG (model X.prog X.w) X.A (assign target X.env u) (λ_ s'=>∃σ' H',Inv X AM σ' H' s'/\Q σ' H') X.xe s
noncomputable def Bq (X:Cx)(ts:AA AI)(t:nE):Prop:=
 ∀(AM:AA (AD×Obj)) (s:AE) (σ:St) (H:Hp) (vs:AA V) (us:AA AC) (Q:St->Hp->Prop),Inv X AM σ H s->Vals vs us->t vs σ H Q->
  AG (model X.prog X.w) X.A (assignInOrder ((assignEach ts X.env).map (·.2)) us) (λ_ s'=>∃σ' H',Inv X AM σ' H' s'/\Q σ' H') X.xe s
noncomputable abbrev sE:=V->V->V->Hp->(Hp->Prop)->Prop
noncomputable def Hx (X:Cx)(t:sE):Prop:=
 ∀(AM:AA (AD×Obj)) (s:AE) (σ:St) (H:Hp) (o i v:V) (ov iv u:AC) (Q:Hp->Prop),Inv X AM σ H s->RelV o ov->RelV i iv->RelV v u->t o i v H Q->
  AG (model X.prog X.w) X.A (setItem ov iv u) (λ_ s'=>∃H',Inv X AM σ H' s'/\Q H') X.xe s
noncomputable abbrev Nc:=V->V->Hp->VK->Prop
noncomputable def Yg (X:Cx)(op:Operator)(t:Nc):Prop:=
 ∀(AM:AA (AD×Obj)) (s:AE) (σ:St) (H:Hp) (x y:V) (v u:AC) (Q:VK),Inv X AM σ H s->RelV x v->RelV y u->t x y H Q->
  AG (model X.prog X.w) X.A (inplaceOp op v u) (EP X AM σ Q) X.xe s
section
variable {X:Cx}{pos:Pos}
noncomputable def pW (i:Nat):TG:=λv σ H Q=>Q (σ.set i (some v)) H
theorem zmi (hN:X.N.Nodup)(hi:X.N[i]? =some x)(hx:iO X.env.scope x)(hf:autoParam (X.fn x=true\/X.env.scope.names.lookup x=some .local) zu0._auto_1):PG X (.Name x pos) (pW i):=by
  intro AM s σ H v u Q I r h;exact wpAny_assign_Name (zkE I hN hi hx r (λs' I'=>⟨_,H,I',h⟩) hf)
noncomputable def Qw:nE:=λvs σ H Q=>vs=[]/\Q σ H
noncomputable def Dq (t:TG)(u:nE):nE:=λvs σ H Q=>∃v r,vs=v::r/\t v σ H λσ' H'=>u r σ' H' Q
theorem zoD:Bq X [] Qw:=by
 intro AM s σ H vs us Q I r h;obtain⟨e,h⟩:=h;subst e;cases r;exact assignInOrder_nil ⟨σ,H,I,h⟩
theorem zmB {t:TG}{u:nE}(h1:PG X e t)(h2:Bq X es u)(hs:autoParam ((assignEach (e::es) X.env).map (·.2)=assign e X.env::(assignEach es X.env).map (·.2)) zu2._auto_1):Bq X (e::es) (Dq t u):=by
 intro AM s σ H vs us Q I r h;obtain⟨v,vr,e1,h⟩:=h;subst e1;cases r with
 |cons r rr=>
  rw[hs];refine assignInOrder_cons (bE (h1 AM s σ H _ _ _ I r h) λ_ s1 ⟨σ1,H1,I1,q1⟩=>?_);exact h2 AM s1 σ1 H1 _ _ Q I1 rr q1
noncomputable def gTup (K:AF)(n:Nat)(t:nE):TG:=λv σ H Q=>∃a xs,v= .ref a/\SqT K H a xs/\xs.length=n/\t xs σ H Q
theorem Fx {t:nE}(hc:X.calm=true)(h:Bq X es t)(hn:autoParam ((assignEach es X.env).length=n) zu2._auto_1)(hst:autoParam ((assignEach es X.env).findIdx? (·.1)=none) zu2._auto_1):PG X (.Tuple es k pos) (gTup X.K n t):=by
 intro AM s σ H v u Q I r hw;obtain⟨a,xs,e1,hq,hl,hw⟩:=hw;subst e1;cases r;obtain⟨its,rv,ht,hz⟩:=I.tuple hq;refine assign_Tuple_tuple (I.ok.hd hc) ht (by simp[hn,<-hl,rv.length]) hst λh' hx=>?_
 have I1:Inv X AM σ H {s with heap:=h'}:=I.kept (t':=s.toks) λb o e=>hx b o (gG (dQ e)) e
 exact h AM _ σ H xs _ Q I1 (by simpa using rv) hw
noncomputable def gSub (to ti:TE)(t:sE):TG:=λv σ H Q=>to σ H λo H1=>ti σ H1 λi H2=>t o i v H2 λH3=>Q σ H3
theorem zoN {o i:AI}{to ti:TE}(ho:PE X o to)(hi:PE X i ti)(hs:Hx X t)(ha :autoParam (∀ v, assign (.Subscript o i pos) X.env v = (do
      let ov<-holding [v] (eval o X.env)
      let iv<-holding [v,ov] (eval i X.env)
      standAt pos
      holding [v,ov,iv] (setItem ov iv v)
      release [v,ov,iv] [])) zu3._auto_1):PG X (.Subscript o i pos) (gSub to ti t):=by
  intro AM s σ H v u Q I r h;rw[ha];refine aJ (jS (bE (ho AM s σ H _ I h) λov s1 ⟨x,H1,I1,r1,q1⟩=>?_));refine aJ (jS (bE (hi AM s1 σ H1 _ I1 q1) λiv s2 ⟨y,H2,I2,r2,q2⟩=>?_));refine aJ (Za (aJ (jS (bE (hs AM s2 σ H2 x y v ov iv u _ I2 r1 r2 r q2) λ_ s3 ⟨H3,I3,q3⟩=>?_))));exact wpAny_release ⟨σ,H3,I3,q3⟩
noncomputable def Qf (te:TE)(g:TG):TS:=λD σ H=>te σ H λx H1=>g x σ H1 D.nx
theorem Vp {g:TG}(he:PE X e te)(hg:PG X tg g)(hs:autoParam (swapsWithSole [tg] e pos.line X.env=pure false) zu2._auto_1)(hw:autoParam (swappedStores [tg] e X.env=pure none) zu2._auto_1)(h1:autoParam ((assignEach [tg] X.env).map (·.2)=[assign tg X.env]) zu2._auto_1):PS X (.Assign [tg] e pos) (Qf te g):=by
 intro AM s σ H D I h;refine wpAny_Assign_stores (bE (he AM s σ H _ I h) λv s1 ⟨x,H1,I1,r1,q1⟩=>?_) hs hw;rw[h1];exact bE (hg AM s1 σ H1 x v _ I1 r1 q1) λ_ s2 q=>q
theorem Xb (hN:X.N.Nodup)(hi:X.N[i]? =some x)(hx:iO X.env.scope x)(he:PE X e te)(hs:autoParam (swapsWith e (some (.Name x pos')) pos.line X.env=pure false) zu2._auto_1)(hf:autoParam (X.fn x=true\/X.env.scope.names.lookup x=some .local) zu0._auto_1):
  PS X (.Assign [.Name x pos'] e pos) (Qf te (pW i)):=by
 intro AM s σ H D I h;refine wpAny_Assign_Name (bE (he AM s σ H _ I h) λv s1 ⟨y,H1,I1,r1,q1⟩=>?_) hs;exact zkE I1 hN hi hx r1 (λs2 I2=>⟨_,H1,I2,q1⟩) hf
noncomputable def tAug (i:Nat)(te:TE)(ti:Nc):TS:=λD σ H=>∃x,σ[i]? =some (some x)/\te σ H λy H1=>ti x y H1 λz H2=>D.nx (σ.set i (some z)) H2
theorem Iz {op:Operator}{ti:Nc}(hN:X.N.Nodup)(hi:X.N[i]? =some x)(hx:iO X.env.scope x)(he:PE X e te)(ho:Yg X op ti)(hf:autoParam (X.fn x=true\/X.env.scope.names.lookup x=some .local) zu0._auto_1):
  PS X (.AugAssign (.Name x pos') op e pos) (tAug i te ti):=by
 intro AM s σ H D I h;obtain⟨v,e1,h⟩:=h;obtain⟨m,hn,hl⟩:=I.loc;have vis:dG X.env.scope x:=by rcases hx with k|k;exact .inl k;exact .inr (.inl k)
 obtain⟨u,r,l⟩:=hl i x v hi e1 vis;refine wpAny_AugAssign_Name ?_;have go:AG (model X.prog X.w) X.A (eval e X.env) (λw s₂=>AG (model X.prog X.w) X.A (inplaceOp op u w) (λr s₃=>AG (model X.prog X.w) X.A (storeName X.env x r) (λ_=>SP X AM D .next) X.xe s₃) X.xe s₂) X.xe s:=by
  refine bE (he AM s σ H _ I h) λw s1 ⟨y,H1,I1,r1,q1⟩=>?_
  refine bE (ho AM s1 σ H1 v y u w _ I1 r r1 q1) λz s2 ⟨zv,H2,I2,r2,q2⟩=>?_
  exact zkE I2 hN hi hx r2 (λs3 I3=>⟨_,H2,I3,q2⟩) hf
 rcases l with⟨hk,hm⟩|⟨hk,c,hc,hcell⟩
 ·exact wpAny_loadName_local I.ok.kind hk hn hm go
 ·rcases hk with hk|hk
  ·exact wpAny_loadName_cell I.ok.kind hk hc hcell go
  ·rcases hx with k|k
   ·have:X.env.scope.names.lookup x=some .free:=hk;rw[k]at this;cases this
   ·have:X.env.scope.names.lookup x=some .free:=hk;rw[k]at this;cases this
noncomputable def Rf (to ti te:TE)(tget:V->V->Hp->VK->Prop)(tip:Nc)(tset:sE):TS:=λD σ H=>to σ H λo H1=>ti σ H1 λi H2=>tget o i H2 λx H3=>te σ H3 λy H4=>tip x y H4 λz H5=>tset o i z H5 λH6=>D.nx σ H6
noncomputable def Ot (X:Cx)(t:V->V->Hp->VK->Prop):Prop:=
 ∀(AM:AA (AD×Obj)) (s:AE) (σ:St) (H:Hp) (o i:V) (ov iv:AC) (Q:VK),Inv X AM σ H s->RelV o ov->RelV i iv->t o i H Q->
  AG (model X.prog X.w) X.A (getItem ov iv) (EP X AM σ Q) X.xe s
theorem zpx {o i e:AI}{to ti te:TE}{tip:Nc}{tset:sE}{op:Operator}{tpos:Pos}(ho:PE X o to)(hi:PE X i ti)(hg:Ot X tget)(he:PE X e te)(hp:Yg X op tip)(hs:Hx X tset)(ha:autoParam (∀ov iv new,augStore i ov iv new=(do holding [new,ov,iv] (setItem ov iv new);release [new,ov,iv] [];pure .next)) zu4._auto_1):PS X (.AugAssign (.Subscript o i tpos) op e pos) (Rf to ti te tget tip tset):=by
 intro AM s σ H D I h;refine wpAny_AugAssign_SubscriptAny (bE (ho AM s σ H _ I h) λov s1 ⟨x1,H1,I1,r1,q1⟩=>?_) ha;refine bE (hi AM s1 σ H1 _ I1 q1) λiv s2 ⟨x2,H2,I2,r2,q2⟩=>?_
 refine bE (hg AM s2 σ H2 x1 x2 ov iv _ I2 r1 r2 q2) λold s3 ⟨x3,H3,I3,r3,q3⟩=>?_
 refine bE (he AM s3 σ H3 _ I3 q3) λv s4 ⟨x4,H4,I4,r4,q4⟩=>?_
 refine bE (hp AM s4 σ H4 x3 x4 old v _ I4 r3 r4 q4) λnew s5 ⟨x5,H5,I5,r5,q5⟩=>?_
 exact bE (hs AM s5 σ H5 x1 x2 x5 ov iv new _ I5 r1 r2 r5 q5) λ_ s6 ⟨H6,I6,q6⟩=>⟨σ,H6,I6,q6⟩
noncomputable def ipI (f:Int->Int->Int):Nc:=λx y H Q=>∃i j,x= .int i/\y= .int j/\Q (.int (f i j)) H
theorem zpW:Yg X .Add (ipI λi j=>i+j):=by
 intro AM s σ H x y v u Q I r1 r2 h;obtain⟨i,j,e1,e2,q⟩:=h;subst e1;subst e2;obtain⟨t,rfl⟩:=r1;obtain⟨t',rfl⟩:=r2;exact iadd_int ⟨.int _,H,I.tok _,⟨_,rfl⟩,q⟩
end
section
variable {X:Cx}{pos:Pos}
noncomputable def Il (c:TT)(tb:TS):TS:=λD σ H=>∃W:Nat->St->Hp->Prop,(∃m,W m σ H)/\∀m σ H,W m σ H->
 c σ H λb H1=>if b=true then ∃N:St->Hp->Prop,(∀σ' H',N σ' H'->∃m',m'<m/\W m' σ' H')/\tb {D with nx:=N,ct:=N,bk:=D.nx} σ H1 else D.nx σ H1
theorem qY (hp:PassesOwn (model X.prog X.w) X.A X.env X.xe)(hc:PT X c tc)(hb:PSs X body tb):PS X (.While c body [] pos) (Il tc tb):=by
 intro AM s σ H D I h;obtain⟨W,⟨m0,w0⟩,turn⟩:=h;refine wpAny_While (codeAny_whileLoop (λn s'=>∃σ' H',Inv X AM σ' H' s'/\W n σ' H') ?_ m0 ⟨σ,H,I,w0⟩);rintro n s1 ⟨σ1,H1,I1,w1⟩;refine Es hp (bE (hc AM s1 σ1 H1 _ I1 (turn n σ1 H1 w1)) λb s2 ⟨H2,I2,q2⟩=>?_);cases b with
 |true=>
  obtain⟨N,hN,q2⟩:=q2;rw[if_pos rfl];refine Es hp (bE (hb AM s2 σ1 H2 _ I2 q2) λf s3 q3=>?_);cases f with
  |next=>
   obtain⟨σ3,H3,I3,n3⟩:=q3;obtain⟨m',hm,w3⟩:=hN σ3 H3 n3;exact⟨m',hm,σ3,H3,I3,w3⟩
  |cont=>
   obtain⟨σ3,H3,I3,n3⟩:=q3;obtain⟨m',hm,w3⟩:=hN σ3 H3 n3;exact⟨m',hm,σ3,H3,I3,w3⟩
  |brk=>exact q3
  |ret v=>exact q3
 |false=>
  rw[if_neg hZ];exact Wj ⟨σ1,H2,I2,q2⟩
end
structure It where
 go:Nat->Hp->Prop
 yld:Nat->Hp->V->Hp->Prop
 stop:Nat->Hp->Prop
noncomputable def eF (X:Cx)(AM:AA (AD×Obj))(H:Hp)(b:AD):Prop:=
 H b=none/\b≠X.env.locals/\b∉X.fs/\(b∈X.ex\/X.s₀.heap.objs.size<=b)/\(∀x c,X.env.cells.lookup x=some c->c≠b)/\∀p∈X.pn++AM,p.1≠b
theorem Inv.fpOk {H H':Hp}(I:Inv X AM σ H s)(hb:s.heap.objs.size<=b)(hn:H' b=none):eF X AM H' b:=by
 refine⟨hn,Nat.ne_of_gt (iV I.lt hb),I.nofs hb,.inr (jE I.sz hb),λx c e z=>?_,λp hp z=>?_⟩
 ·obtain⟨v,q⟩:=I.cell x c e;exact AH (iV q.lt (by rw[z];exact hb)) (Dg _)
 ·exact AH (iV (dQ (I.pin p hp).1) (by rw[z];exact hb)) (Dg _)
structure Turn (P:Program)(w:World)(K:W.Frag)(tg:Expr)(J:It)(fp:List Addr)(it:Addr)(tn:Nat->Heap->Prop):Prop where
 mem:it∈fp
 obj:∀i h,tn i h->∀b∈fp,∃o,h.get? b=some o/\∀v,o.data≠ .cell v
 keep:∀i h h',tn i h->(∀b∈fp,∀o,h.get? b=some o->h'.get? b=some o)->tn i h'
 item:∀(X:Cx),X.prog=P->X.w=w->X.K=K->X.calm=true->∀(i:Nat) (AM:List (Addr×Obj)) (s:Shared) (σ:St) (H:Hp) (E:Value->Shared->Prop),Inv X AM σ H s->(∀b∈fp,eF X AM H b)->tn i s.heap->J.go i H->
  wpAny (model P w) X.A (pyNext (.ref it)) (λr s1=>∃u,r=some u/\
   wpAny (model P w) X.A (letOwnedTupleGo tg (.ref it) u) (λ_ s2=>∃x H',Inv X AM σ H' s2/\RelV x u/\J.yld i H x H'/\tn (i+1) s2.heap/\∀b∈fp,H' b=none) E s1) E s
 done:∀(X:Cx),X.prog=P->X.w=w->X.K=K->X.calm=true->∀(i:Nat) (AM:List (Addr×Obj)) (s:Shared) (σ:St) (H:Hp) (E:Value->Shared->Prop),Inv X AM σ H s->(∀b∈fp,eF X AM H b)->tn i s.heap->J.stop i H->
  wpAny (model P w) X.A (pyNext (.ref it)) (λr s1=>r=none/\Inv X AM σ H s1) E s
 self:∀(A:Around) (i:Nat) (s:Shared) (Q:Value->Shared->Prop) (E:Value->Shared->Prop),tn i s.heap->Q (.ref it) s->wpAny (model P w) A (pyIter (.ref it)) Q E s
noncomputable abbrev TI:=St->Hp->(It->Hp->Prop)->Prop
noncomputable def PIE (X:Cx)(AM:AA (AD×Obj))(σ:St)(tg:AI)(R:It->Hp->Prop)(itv:AC)(s2:AE):Prop:=
 ∃(it:AD) (fp:AA AD) (tn:Nat->AK->Prop) (J:It) (H':Hp),itv= .ref it/\Inv X AM σ H' s2/\Turn X.prog X.w X.K tg J fp it tn/\tn 0 s2.heap/\(∀b∈fp,eF X AM H' b)/\R J H'
noncomputable def PI (X:Cx)(tg iter:AI)(wi:TI):Prop:=
 ∀(AM:AA (AD×Obj)) (s:AE) (σ:St) (H:Hp) (R:It->Hp->Prop),Inv X AM σ H s->wi σ H R->
  AG (model X.prog X.w) X.A (eval iter X.env) (λv s1=>AG (model X.prog X.w) X.A (pyIter v) (PIE X AM σ tg R) X.xe s1) X.xe s
theorem kT {M:Model}{n:String}{vs:Array AC}(ho:s.heap.get? it=some o)(hc:o.cls= .type n)(hd:o.data= .fields vs)(hn:["enumerate","zip","dict_itemiterator","dict_reverseitemiterator","odict_iterator","itertools.zip_longest","itertools.pairwise"].contains n=false)(hQ:Q () s):AG M A (letOwnedTupleGo tg (.ref it) u) Q E s:=by
  unfold letOwnedTupleGo;cases tg<;>first
    |exact qaB hQ
    | (cases u <;> first
        |exact qaB hQ
        | (refine aJ (wpAny_load ho ?_)
           rw[hc,hd];show AG M A (if(["enumerate","zip","dict_itemiterator","dict_reverseitemiterator","odict_iterator","itertools.zip_longest","itertools.pairwise"].contains n&&vs[0]? ==some (rawInt _))=true then _ else _) Q E s;rw[if_neg (by intro h;rw[hn,Bool.false_and]at h;cases h)];exact qaB hQ))
noncomputable def Itl (K:AF)(a:AD):It:=
 ⟨λi H=>∃xs x,SqL K H a xs/\xs[i]? =some x,λi H x H'=>H'=H/\∀xs,SqL K H a xs->xs[i]? =some x,λi H=>∃xs,SqL K H a xs/\xs.length<=i⟩
noncomputable def Itt (K:AF)(a:AD):It:=
 ⟨λi H=>∃xs x,SqT K H a xs/\xs[i]? =some x,λi H x H'=>H'=H/\∀xs,SqT K H a xs->xs[i]? =some x,λi H=>∃xs,SqT K H a xs/\xs.length<=i⟩
noncomputable def Yk (lo:Int)(n:Nat):It:=⟨λi _=>i<n,λi H x H'=>H'=H/\x= .int (lo+i),λi _=>n<=i⟩
theorem zoz {P:AJ}(a it:AD):Turn P w K tg (Itl K a) [it] it (λi h=>h.IsListIter it a i) where
 mem:=by simp
 obj:=λi h st b hb=>by
  have e:b=it:=by simpa using hb
  subst e;obtain⟨o,e,c,d⟩:=st;exact⟨o,e,λv z=>by rw[d]at z;cases z⟩
 keep:=λi h h' st k=>st.at λo e=>k it (by simp) o e
 item:=by
  intro X hP hw hK hc i AM s σ H E I hf st hg;subst hP hw hK;obtain⟨xs,x,hq,hx⟩:=hg;obtain⟨its,rv,p,hz⟩:=I.list hq;obtain⟨u,hu,ru⟩:=rv.get hx;obtain⟨f0,f1,f2,f3,f4,f5⟩:=hf it (by simp);refine wpAny_pyNext_list_item st p.isList (x:=u) (by simpa using hu) λh' st' sb=>?_
  have I1:Inv X AM σ H {s with heap:=h'}:=I.turned (t':=s.toks) (λb o hb e=>(sb.2 b hb).trans e) f0 f1 f3 f4 f5;obtain⟨o,e,c,d⟩:=id st';exact⟨u,rfl,kT (s:={s with heap:=h'}) e c d (by decide) ⟨x,H,I1,ru,⟨rfl,λys hy=>by rw[I.list_inj hy hq];exact hx⟩,st',λb hb=>(hf b hb).1⟩⟩
 done:=by
  intro X hP hw hK hc i AM s σ H E I hf st hg;subst hP hw hK;obtain⟨xs,hq,hx⟩:=hg;obtain⟨its,rv,p,hz⟩:=I.list hq;obtain⟨f0,f1,f2,f3,f4,f5⟩:=hf it (by simp);have hl:=rv.length;exact wpAny_pyNext_list_end (I.ok.hd hc) st p.isList (by simp;lia) λh' eb=>⟨rfl,I.turned (t':=s.toks) (λb o hb e=>eb b o hb e) f0 f1 f3 f4 f5⟩
 self:=λ_ _ _ _ _ st h=>wpAny_pyIter_listiter st h
theorem zn0 {P:AJ}(a it:AD):Turn P w K tg (Itt K a) [it] it (λi h=>h.IsTupleIter it a i) where
 mem:=by simp
 obj:=λi h st b hb=>by
  have e:b=it:=by simpa using hb
  subst e;obtain⟨o,e,c,d⟩:=st;exact⟨o,e,λv z=>by rw[d]at z;cases z⟩
 keep:=λi h h' st k=>st.at λo e=>k it (by simp) o e
 item:=by
  intro X hP hw hK hc i AM s σ H E I hf st hg;subst hP hw hK;obtain⟨xs,x,hq,hx⟩:=hg;obtain⟨its,rv,p,hz⟩:=I.tuple hq;obtain⟨u,hu,ru⟩:=rv.get hx;obtain⟨f0,f1,f2,f3,f4,f5⟩:=hf it (by simp);refine wpAny_pyNext_tuple_item st (show s.heap.IsTuple a its.toArray from p) (x:=u) (by simpa using hu) λh' st' sb=>?_
  have I1:Inv X AM σ H {s with heap:=h'}:=I.turned (t':=s.toks) (λb o hb e=>(sb.2 b hb).trans e) f0 f1 f3 f4 f5;obtain⟨o,e,c,d⟩:=id st';exact⟨u,rfl,kT (s:={s with heap:=h'}) e c d (by decide) ⟨x,H,I1,ru,⟨rfl,λys hy=>by rw[I.tuple_inj hy hq];exact hx⟩,st',λb hb=>(hf b hb).1⟩⟩
 done:=by
  intro X hP hw hK hc i AM s σ H E I hf st hg;subst hP hw hK;obtain⟨xs,hq,hx⟩:=hg;obtain⟨its,rv,p,hz⟩:=I.tuple hq;obtain⟨f0,f1,f2,f3,f4,f5⟩:=hf it (by simp);have hl:=rv.length;exact wpAny_pyNext_tuple_end (I.ok.hd hc) st (show s.heap.IsTuple a its.toArray from p) (by simp;lia) λh' eb=>⟨rfl,I.turned (t':=s.toks) (λb o hb e=>eb b o hb e) f0 f1 f3 f4 f5⟩
 self:=λ_ _ _ _ _ st h=>wpAny_pyIter_tupleiter st h
theorem znA {P:AJ}{w:World}(it:AD)(lo:Int)(n:Nat):Turn P w K tg (Yk lo n) [it] it (λi h=>IsRangeIter h it (lo+(i:Nat)*1) ((n:Int)-(i:Nat)) 1) where
 mem:=by simp
 obj:=λi h st b hb=>by
  have e:b=it:=by simpa using hb
  subst e;exact⟨_,st,λv z=>by
   have z':Data.fields _=Data.cell v:=z;cases z'⟩
 keep:=λi h h' st k=>k it (by simp) _ st
 item:=by
  intro X hP hw hK hc i AM s σ H E I hf st hg;subst hP hw hK;obtain⟨f0,f1,f2,f3,f4,f5⟩:=hf it (by simp);have W:=Walks.range (prog:=X.prog) (w:=X.w) (I.ok.hd hc) it lo 1 n;refine W.item i s _ _ hg st λv h' tk hv st' kk=>?_
  obtain⟨t,rfl⟩:=hv;have I1:Inv X AM σ H {s with heap:=h',toks:=tk}:=I.turned (λb o hb e=>kk b o (by simpa using hb) e) f0 f1 f3 f4 f5;refine⟨_,rfl,kT (s:={s with heap:=h',toks:=tk}) (n:="range_iterator") st' rfl rfl (by decide) ⟨.int (lo+i),H,I1,⟨t,?_⟩,⟨rfl,rfl⟩,st',λb hb=>(hf b hb).1⟩⟩;rw[Int.mul_one]
 done:=by
  intro X hP hw hK hc i AM s σ H E I hf st hg;subst hP hw hK;obtain⟨f0,f1,f2,f3,f4,f5⟩:=hf it (by simp);exact wpAny_pyNext_range_end (I.ok.hd hc) st (by have:n<=i:=hg;lia) λh' eb=>⟨rfl,I.turned (t':=s.toks) (λb o hb e=>eb b o hb e) f0 f1 f3 f4 f5⟩
 self:=λ_ _ _ _ _ st h=>wpAny_pyIter_rangeiter st h
section
variable {X:Cx}{tg:AI}
theorem oK {R:It->Hp->Prop}{lo hi:Int}{t u v:Tok}{tk:Nat}(I:Inv X AM σ H s)(h1: -(2^62)<=lo)(h2:lo<2^62)(h3: -(2^62)<=hi)(h4:hi<2^62)(q:R (Yk lo (hi-lo).toNat) H):AG (model X.prog X.w) X.A (pyIter (.ref s.heap.objs.size)) (PIE X AM σ tg R) E {s with heap:=s.heap.push {cls:= .type "range",data:= .fields #[.int lo t,.int hi u,.int 1 v]},toks:=tk}:=by
 refine wpAny_pyIter_range (IsRange.new ..) (small_one h1 h2 h3 h4) ?_;have I1:Inv X AM σ H {s with heap:=s.heap.push {cls:= .type "range",data:= .fields #[.int lo t,.int hi u,.int 1 v]},toks:=tk}:=I.kept λb o e=>bK _ e
 refine⟨(s.heap.push {cls:= .type "range",data:= .fields #[.int lo t,.int hi u,.int 1 v]}).objs.size,[(s.heap.push {cls:= .type "range",data:= .fields #[.int lo t,.int hi u,.int 1 v]}).objs.size],_,_,H,rfl,
  I1.kept (t':=tk) λb o e=>bK _ e,znA _ lo (hi-lo).toNat,?_,λb hb=>?_,q⟩
 ·have e1:lo+((0:Nat):Int)*1=lo:=by simp
  have e2:(((hi-lo).toNat:Nat):Int)-((0:Nat):Int)=Builtin.Range.rangeSize lo hi 1:=by rw[rangeSize_one];split<;>lia
  show IsRangeIter _ _ (lo+((0:Nat):Int)*1) ((((hi-lo).toNat:Nat):Int)-((0:Nat):Int)) 1;rw[e1,e2];exact eL _ rfl
 ·have e:b=(s.heap.push {cls:= .type "range",data:= .fields #[.int lo t,.int hi u,.int 1 v]}).objs.size:=by simpa using hb
  subst e;exact I1.fpOk (bZ _) (I1.hok.fresh (bZ _))
noncomputable def Oz (ta:TA):TI:=λσ H R=>ta σ H λvs H1=>∃j:Int,vs=[.int j]/\ -(2^62)<=j/\j<2^62/\R (Yk 0 j.toNat) H1
theorem zpd {a:AI}{ta:TA}{p pos:Pos}(hg:Gl X "range")(hm:X.mg "range"=none)(ha:PA X [a] ta)(hs:autoParam (starEach [a] X.env=[(false,eval a X.env)]) zu2._auto_1):PI X tg (.Call (.Name "range" p) [a] [] pos) (Oz ta):=by
 intro AM s σ H R I h;refine Call_ (Iq I hg hm boot_range (Uo (bE (ha pos AM s σ H _ I h) λus s1 ⟨vs,H1,I1,r1,q1⟩=>?_) hs rfl));obtain⟨j,e,q1,q2,q⟩:=q1;subst e;cases r1 with
 |cons r rr=>
  cases rr;obtain⟨t,rfl⟩:=r;exact call_range_1 (oK I1 (by lia) (by lia) q1 q2 (by simpa using q))
noncomputable def tFor (wi:TI)(g:TG)(tb:TS):TS:=λD σ H=>wi σ H λJ H1=>∃W:Nat->Nat->St->Hp->Prop,(∃m,W 0 m σ H1)/\∀i m σ H,W i m σ H->
 (J.stop i H/\D.nx σ H)\/(J.go i H/\∃N:St->Hp->Prop,(∀σ' H',N σ' H'->∃m',m'<m/\W (i+1) m' σ' H')/\∀x H',J.yld i H x H'->g x σ H' λσ2 H2=>tb {D with nx:=N,ct:=N,bk:=D.nx} σ2 H2)
noncomputable def Ts (fp:AA AD)(h:AK):AA (AD×Obj):=fp.filterMap λb=>(h.get? b).map λo=>(b,o)
theorem Xc (hb:b∈fp)(e:h.get? b=some o):(b,o)∈Ts fp h:=qaG.mpr ⟨b,hb,by rw[e];rfl⟩
theorem zpH (hp:p∈Ts fp h):p.1∈fp/\h.get? p.1=some p.2:=by
 obtain⟨b,hb,e⟩:=qaG.mp hp;cases q:h.get? b with
 |none=>rw[q]at e;cases e
 |some o=>
  rw[q]at e;have e':(b,o)=p:=Option.some.inj e;subst e';exact⟨hb,q⟩
theorem Inv.pinned (I:Inv X AM σ H s)(hf:∀b∈fp,eF X AM H b)(ho:∀b∈fp,∃o,s.heap.get? b=some o/\∀v,o.data≠ .cell v):Inv X (AM++Ts fp s.heap) σ H s:=
 I.pins_of λp hp=>(qan.mp hp).elim (λz=>I.pin p (eX _ z)) λz=>by
  obtain⟨hb,e⟩:=zpH z;obtain⟨f0,f1,f2,_⟩:=hf p.1 hb;obtain⟨o,e',d⟩:=ho p.1 hb;rw[e]at e';cases e';exact⟨e,f0,f1,f2,d⟩
theorem Inv.unpinned (I:Inv X (AM++pl) σ H s):Inv X AM σ H s:=I.pins_of λp hp=>I.pin p (eX _ (kZ _ hp))
theorem Jk {iter:AI}{wi:TI}{g:TG}(hp:PassesOwn (model X.prog X.w) X.A X.env X.xe)(hc:X.calm=true)(hi:PI X tg iter wi)(hg:PG X tg g)(hb:PSs X body tb)(hs:autoParam (∀x,foldedSetIterable iter X.env x=pure x) zu3._auto_1):PS X (.For tg iter body [] pos) (tFor wi g tb):=by
  intro AM s σ H D I h;refine wpAny_For (bE (hi AM s σ H _ I h) λv s1 h1=>bE h1 λitv s2 h2=>?_) hs;obtain⟨it,fp,tn,J,H2,e,I2,T,st2,f2,W,⟨m0,w0⟩,turn⟩:=h2;subst e;have stat:∀{H':Hp},(∀b∈fp,H' b=none)->∀b∈fp,eF X AM H' b:=λhn b hb=>⟨hn b hb,(f2 b hb).2⟩
  refine codeAny_forLoop_any (λn s'=>∃i σ' H',Inv X AM σ' H' s'/\tn i s'.heap/\(∀b∈fp,H' b=none)/\W i n σ' H') ?_ m0 ⟨0,σ,H2,I2,st2,λb hb=>(f2 b hb).1,w0⟩;rintro n s3 ⟨i,σ3,H3,I3,st3,fr3,w3⟩;rcases turn i n σ3 H3 w3 with⟨stop,qn⟩|⟨go,N,hN,step⟩
  . refine Es hp (bE (T.done X rfl rfl rfl hc i AM s3 σ3 H3 X.xe I3 (stat fr3) st3 stop) λr s4 ⟨hr,I4⟩=>?_)
    subst hr;exact Wj ⟨σ3,H3,I4,qn⟩
  . refine Es hp (bE (T.item X rfl rfl rfl hc i AM s3 σ3 H3 X.xe I3 (stat fr3) st3 go) λr s4 ⟨u,hr,h4⟩=>?_)
    subst hr;refine Es hp (bE h4 λ_ s5 ⟨x,H5,I5,r5,y5,st5,fr5⟩=>?_);have I5':=I5.pinned (stat fr5) (T.obj _ _ st5);refine Es hp (bE (hg _ s5 σ3 H5 x u _ I5' r5 (step x H5 y5)) λ_ s6 ⟨σ6,H6,I6,q6⟩=>?_);refine Es hp (bE (hb _ s6 σ6 H6 _ I6 q6) λf s7 q7=>?_);have again:∀{σ7:St} {H7:Hp},Inv X (AM++Ts fp s5.heap) σ7 H7 s7->N σ7 H7->∃m,m<n/\∃i σ' H',Inv X AM σ' H' s7/\tn i s7.heap/\(∀b∈fp,H' b=none)/\W i m σ' H':=λ{σ7 H7} I7 n7=>by
      obtain⟨m',hm,w7⟩:=hN σ7 H7 n7;refine⟨m',hm,i+1,σ7,H7,I7.unpinned,T.keep _ _ _ st5 λb hb o e=>(I7.pin (b,o) (eX _ (eX _ (Xc hb e)))).1,λb hb=>?_,w7⟩;obtain⟨o,e,d⟩:=T.obj _ _ st5 b hb;exact(I7.pin (b,o) (eX _ (eX _ (Xc hb e)))).2.1
    cases f with
    |next=>obtain⟨σ7,H7,I7,n7⟩:=q7;exact again I7 n7
    |cont=>obtain⟨σ7,H7,I7,n7⟩:=q7;exact again I7 n7
    |brk=>obtain⟨σ7,H7,I7,q7⟩:=q7;exact⟨σ7,H7,I7.unpinned,q7⟩
    |ret v=>obtain⟨x7,σ7,H7,I7,r7,q7⟩:=q7;exact⟨x7,σ7,H7,I7.unpinned,r7,q7⟩
end
noncomputable abbrev R2:=V->V->Hp->VK->Prop
noncomputable def OpR (X:Cx)(f:AC->AC->Sem AC)(r:R2):Prop:=
 ∀(AM:AA (AD×Obj)) (s:AE) (σ:St) (H:Hp) (x y:V) (v u:AC) (Q:VK),Inv X AM σ H s->RelV x v->RelV y u->r x y H Q->
  AG (model X.prog X.w) X.A (f v u) (EP X AM σ Q) X.xe s
noncomputable def Yj (X:Cx)(f:AC->Sem AC)(r:V->Hp->VK->Prop):Prop:=
 ∀(AM:AA (AD×Obj)) (s:AE) (σ:St) (H:Hp) (x:V) (v:AC) (Q:VK),Inv X AM σ H s->RelV x v->r x H Q->
  AG (model X.prog X.w) X.A (f v) (EP X AM σ Q) X.xe s
noncomputable def jQ (X:Cx)(f:AC)(r:AA V->Hp->VK->Prop):Prop:=
 ∀(AM:AA (AD×Obj)) (s:AE) (σ:St) (H:Hp) (xs:AA V) (us:AA AC) (Q:VK),Inv X AM σ H s->Vals xs us->r xs H Q->
  AG (model X.prog X.w) X.A (call f us) (EP X AM σ Q) X.xe s
noncomputable def TruR (X:Cx)(r:V->Hp->(Bool->Hp->Prop)->Prop):Prop:=
 ∀(AM:AA (AD×Obj)) (s:AE) (σ:St) (H:Hp) (x:V) (v:AC) (Q:Bool->Hp->Prop),Inv X AM σ H s->RelV x v->r x H Q->
  AG (model X.prog X.w) X.A (truthy v) (TP X AM σ Q) X.xe s
noncomputable def Px (r:R2)(ta tb:TE):TE:=λσ H Q=>ta σ H λx H1=>tb σ H1 λy H2=>r x y H2 Q
noncomputable def tUn (r:V->Hp->VK->Prop)(ta:TE):TE:=λσ H Q=>ta σ H λx H1=>r x H1 Q
noncomputable def rI (C:Int->Int->Prop)(g:Int->Int->V):R2:=λx y H Q=>∃i j,x= .int i/\y= .int j/\C i j/\Q (g i j) H
noncomputable def uH (g:Int->Int->V):R2:=λx y H Q=>∃i j,x= .int i/\y= .int j/\Q (g i j) H
noncomputable def rU (g:Int->V):V->Hp->VK->Prop:=λx H Q=>∃i,x= .int i/\Q (g i) H
section
variable {X:Cx}{a b c:AI}{ta tb tc:TE}{pos:Pos}
theorem Ef (ha:PE X a ta)(hb:PE X b tb){R:V->V->Hp->Prop}(I:Inv X AM σ H s)(h:ta σ H λx H1=>tb σ H1 λy H2=>R x y H2){Q:AC->AE->Prop}{f:AC->AC->Sem AC}(hf:∀v u s2 x y H2,Inv X AM σ H2 s2->RelV x v->RelV y u->R x y H2->AG (model X.prog X.w) X.A (f v u) Q X.xe s2):
  AG (model X.prog X.w) X.A (eval a X.env) (λv s₁=>AG (model X.prog X.w) X.A (eval b X.env) (λu s₂=>AG (model X.prog X.w) X.A (f v u) Q X.xe s₂) X.xe s₁) X.xe s:=by
 refine bE (ha AM s σ H _ I h) λv s1 ⟨x,H1,I1,r1,q1⟩=>?_
 refine bE (hb AM s1 σ H1 _ I1 q1) λu s2 ⟨y,H2,I2,r2,q2⟩=>?_
 exact hf v u s2 x y H2 I2 r1 r2 q2
theorem sJ {op:Operator}{r:R2}(ho:OpR X (binaryOp op) r)(ha:PE X a ta)(hb:PE X b tb):PE X (.BinOp a op b pos) (Px r ta tb):=by
 intro AM s σ H Q I h;exact wpAny_BinOp (Ef ha hb I h λv u s2 x y H2 I2 rx ry q=>ho AM s2 σ H2 x y v u Q I2 rx ry q)
theorem Vh {op:UnaryOp}(ho:Yj X (unaryOp op) r)(ha:PE X a ta):PE X (.UnaryOp op a pos) (tUn r ta):=by
 intro AM s σ H Q I h;exact UnaryOp_ (bE (ha AM s σ H _ I h) λv s1 ⟨x,H1,I1,r1,q1⟩=>ho AM s1 σ H1 x v Q I1 r1 q1)
theorem Vu
  (rule:∀(i j:Int) (t u:Tok) (s:AE) (Q:AC->AE->Prop) (E:AC->AE->Prop),C i j->Q (.int (g i j) s.toks) {s with toks:=s.toks+1}->AG (model X.prog X.w) X.A (f (.int i t) (.int j u)) Q E s):
  OpR X f (rI C λi j=> .int (g i j)):=by
 intro AM s σ H x y v u Q I rx ry h;obtain⟨i,j,rfl,rfl,hc,q⟩:=h;obtain⟨t,rfl⟩:=rx;obtain⟨t',rfl⟩:=ry;exact rule i j t t' s _ _ hc ⟨.int (g i j),H,I.tok _,⟨_,rfl⟩,q⟩
theorem Pu
  (rule:∀(i j:Int) (t u:Tok) (s:AE) (Q:AC->AE->Prop) (E:AC->AE->Prop),Q (.int (g i j) s.toks) {s with toks:=s.toks+1}->AG (model X.prog X.w) X.A (f (.int i t) (.int j u)) Q E s):
  OpR X f (uH λi j=> .int (g i j)):=by
 intro AM s σ H x y v u Q I rx ry h;obtain⟨i,j,rfl,rfl,q⟩:=h;obtain⟨t,rfl⟩:=rx;obtain⟨t',rfl⟩:=ry;exact rule i j t t' s _ _ ⟨.int (g i j),H,I.tok _,⟨_,rfl⟩,q⟩
theorem vG {g:Int->Int->Bool}(rule:∀(i j:Int) (t u:Tok) (s:AE) (Q:AC->AE->Prop) (E:AC->AE->Prop),Q (.bool (g i j)) s->AG (model X.prog X.w) X.A (f (.int i t) (.int j u)) Q E s):
  OpR X f (uH λi j=> .bl (g i j)):=by
 intro AM s σ H x y v u Q I rx ry h;obtain⟨i,j,rfl,rfl,q⟩:=h;obtain⟨t,rfl⟩:=rx;obtain⟨t',rfl⟩:=ry;exact rule i j t t' s _ _ ⟨.bl (g i j),H,I,rfl,q⟩
noncomputable def CPow (i j:Int):Prop:=0<=j/\j<=1000000/\i.natAbs<2^64
theorem op_add:OpR X (binaryOp .Add) (uH λi j=> .int (i+j)):=Pu λ_ _ _ _ _ _ _ q=>add_int q
theorem Fk:OpR X (binaryOp .Sub) (uH λi j=> .int (i-j)):=Pu λ_ _ _ _ _ _ _ q=>sub_int q
theorem mJ:OpR X (binaryOp .Mod) (rI (λ_ j=>0<j) λi j=> .int (i%j)):=Vu λi j _ _ _ _ _ hc q=>by
 have h1:(0:Int)<j:=hc;exact mod_int' (by lia) (by rw[Int.fmod_eq_emod_of_nonneg i (by lia)];exact q)
theorem Fm:OpR X (binaryOp .Pow) (rI CPow λi j=> .int (i^j.toNat)):=Vu λ_ _ _ _ _ _ _ hc q=>pow_int_small hc.1 hc.2.1 hc.2.2 q
theorem unI {f:AC->Sem AC}{g:Int->Int}(rule:∀(i:Int) (t:Tok) (s:AE) (Q:AC->AE->Prop) (E:AC->AE->Prop),Q (.int (g i) s.toks) {s with toks:=s.toks+1}->AG (model X.prog X.w) X.A (f (.int i t)) Q E s):
  Yj X f (rU λi=> .int (g i)):=by
 intro AM s σ H x v Q I rx h;obtain⟨i,rfl,q⟩:=h;obtain⟨t,rfl⟩:=rx;exact rule i t s _ _ ⟨.int (g i),H,I.tok _,⟨_,rfl⟩,q⟩
theorem Ks:Yj X (unaryOp .USub) (rU λi=> .int (-i)):=unI λ_ _ _ _ _ q=>neg_int q
end
section
variable {X:Cx}{a b c:AI}{ta tb tc:TE}{pos:Pos}
theorem oP {Q:VK}{k k':Bool}(I:Inv X AM σ H s)(q:Q (.bl k) H)(e:k=k'):EP X AM σ Q (.bool k') s:=by
 subst e;exact⟨.bl k,H,I,rfl,q⟩
theorem Rb:OpR X (compareOp .Lt) (uH λi j=> .bl (decide (i<j))):=vG λ_ _ _ _ _ _ _ q=>lt_int q
theorem Cp:OpR X (compareOp .LtE) (uH λi j=> .bl (decide (i<=j))):=vG λ_ _ _ _ _ _ _ q=>le_int q
theorem Bx:OpR X (compareOp .Gt) (uH λi j=> .bl (decide (j<i))):=vG λ_ _ _ _ _ _ _ q=>gt_int q
theorem Tq:OpR X (compareOp .GtE) (uH λi j=> .bl (decide (j<=i))):=vG λ_ _ _ _ _ _ _ q=>ge_int q
theorem Jo:OpR X (compareOp .Is) (λx y H Q=>y= .non/\Q (.bl (decide (x= .non))) H):=by
 intro AM s σ H x y v u Q I rx ry h;obtain⟨rfl,q⟩:=h;cases ry;refine is_none_gen (oP I q ?_);cases x<;>first
  |(cases rx;rfl)
  |(obtain⟨t,rfl⟩:=rx;rfl)
theorem Bl:OpR X (compareOp .IsNot) (λx y H Q=>y= .non/\Q (.bl (!decide (x= .non))) H):=by
 intro AM s σ H x y v u Q I rx ry h;obtain⟨rfl,q⟩:=h;cases ry;refine isnot_none_gen (oP I q ?_);cases x<;>first
  |(cases rx;rfl)
  |(obtain⟨t,rfl⟩:=rx;rfl)
theorem OpR.or {r r':R2}(h:OpR X f r)(h':OpR X f r'):OpR X f (λx y H Q=>r x y H Q\/r' x y H Q):=by
 intro AM s σ H x y v u Q I rx ry q;rcases q with q|q
 ·exact h AM s σ H x y v u Q I rx ry q
 ·exact h' AM s σ H x y v u Q I rx ry q
theorem Cs (b:AI)(h:autoParam (op≠ .In) zu1._auto_1)(h2:autoParam (op≠ .NotIn) zu1._auto_1):behindInMarks op b=false:=by
 have e1:(op==CmpOp.In)=false:=by cases op<;>first|rfl|exact AH rfl h
 have e2:(op==CmpOp.NotIn)=false:=by cases op<;>first|rfl|exact AH rfl h2
 cases b<;>simp[behindInMarks,e1,e2]
theorem Ai {r:R2}(ho:OpR X (compareOp op) r)(ha:PE X a ta)(hb:PE X b tb)(hm:behindInMarks op b=false):PE X (.Compare a [op] [b] pos) (Px r ta tb):=by
 intro AM s σ H Q I h;exact wpAny_Compare1 (Ef ha hb I h λv u s2 x y H2 I2 rx ry q=>ho AM s2 σ H2 x y v u Q I2 rx ry q) hm
noncomputable def Dn (t:TE):TT:=λσ H Q=>t σ H λx H'=>∃k,x= .bl k/\Q k H'
theorem xR {r:R2}(ho:OpR X (compareOp op) r)(ha:PE X a ta)(hb:PE X b tb)(hm:behindInMarks op b=false):PT X (.Compare a [op] [b] pos) (Dn (Px r ta tb)):=by
 intro AM s σ H Q I h;refine wpAny_isTrue_Compare1 (bE (ha AM s σ H _ I h) λv s1 ⟨x,H1,I1,r1,q1⟩=>bE (hb AM s1 σ H1 _ I1 q1) λu s2 ⟨y,H2,I2,r2,q2⟩=>
  bE (ho AM s2 σ H2 x y v u _ I2 r1 r2 q2) λc s3 ⟨z,H3,I3,r3,k,e,q3⟩=>?_) hm
 subst e;cases r3;exact Fv ⟨H3,I3,q3⟩
noncomputable def zo7 (r r':R2)(ta tb tc:TE):TE:=λσ H Q=>ta σ H λx H1=>tb σ H1 λy H2=>r x y H2 λz H3=>∃k,z= .bl k/\
 (if k=true then tc σ H3 λw' H4=>r' y w' H4 Q else Q (.bl false) H3)
theorem rO {r r':R2}(ho:OpR X (compareOp op) r)(ho':OpR X (compareOp op') r')(ha:PE X a ta)(hb:PE X b tb)(hc:PE X c tc)(hm:autoParam (lastMarks [op,op'] [b,c]=false) zu5._auto_1):PE X (.Compare a [op,op'] [b,c] pos) (zo7 r r' ta tb tc):=by
 intro AM s σ H Q I h;refine Compare_chain (bE (ha AM s σ H _ I h) λv s1 ⟨x,H1,I1,r1,q1⟩=>chain_link (bE (hb AM s1 σ H1 _ I1 q1) λu s2 ⟨y,H2,I2,r2,q2⟩=>
  bE (ho AM s2 σ H2 x y v u _ I2 r1 r2 q2) λd s3 ⟨z,H3,I3,r3,k,e,q3⟩=>?_)) hm
 subst e;cases r3;refine Fv ?_;cases k with
 |false=>exact ite_ff ⟨.bl false,H3,I3,rfl,q3⟩
 |true=>exact ite_tt (chain_last (bE (hc AM s3 σ H3 _ I3 q3) λw' s4 ⟨z',H4,I4,r4,q4⟩=>ho' AM s4 σ H4 y z' u w' Q I4 r2 r4 q4))
theorem sS {r r':R2}(ho:OpR X (compareOp op) r)(ho':OpR X (compareOp op') r')(ha:PE X a ta)(hb:PE X b tb)(hc:PE X c tc)(hm:autoParam (lastMarks [op,op'] [b,c]=false) zu5._auto_1):PT X (.Compare a [op,op'] [b,c] pos) (Dn (zo7 r r' ta tb tc)):=by
 intro AM s σ H Q I h;refine isTrue_chain (bE (ha AM s σ H _ I h) λv s1 ⟨x,H1,I1,r1,q1⟩=>test_link (bE (hb AM s1 σ H1 _ I1 q1) λu s2 ⟨y,H2,I2,r2,q2⟩=>
  bE (ho AM s2 σ H2 x y v u _ I2 r1 r2 q2) λd s3 ⟨z,H3,I3,r3,k,e,q3⟩=>?_)) hm
 subst e;cases r3;refine Fv ?_;cases k with
 |false=>
  obtain⟨k',e',q'⟩:=q3;cases e';exact ite_ff ⟨H3,I3,q'⟩
 |true=>
  refine ite_tt (test_last (bE (hc AM s3 σ H3 _ I3 q3) λw' s4 ⟨z',H4,I4,r4,q4⟩=>bE (ho' AM s4 σ H4 y z' u w' _ I4 r2 r4 q4) λd' s5 ⟨z2,H5,I5,r5,k2,e2,q5⟩=>?_));subst e2;cases r5;exact Fv ⟨H5,I5,q5⟩
noncomputable def Qr (K:AF)(x:V)(H:Hp)(k:Bool):Prop:=
 match x with
 | .non=>k=false
 | .bl b=>k=b
 | .int i=>k=(i !=0)
 | .str y=>y.length<=sizeLine/\k=((y.length:Int) !=0)
 | .byt y=>y.size<=sizeLine/\k=((y.size:Int) !=0)
 | .ref p=>(∃xs,SqL K H p xs/\k=!xs.isEmpty)\/(∃xs,SqT K H p xs/\k=!xs.isEmpty)\/∃kvs,H p=some (.dK kvs)/\k=!kvs.isEmpty
 |_=>False
theorem znT {κ:Type}{kvs:AA (κ×V)}{vs:AA (κ×AC)}(r:KV kvs vs):(!vs.isEmpty)=!kvs.isEmpty:=by
 cases r<;>rfl
theorem zj2 (r:Vals xs its):(!its.toArray.isEmpty)=!xs.isEmpty:=by
 cases r<;>simp
theorem Cd:(sizeLine:Nat)<2^63:=by rw[gF];decide
theorem Fd:TruR X (λx H Q=>∃k,Qr X.K x H k/\Q k H):=by
 intro AM s σ H x v Q I rx h;obtain⟨k,e,q⟩:=h;have hl:=Cd;have hs:sizeLine=16777216:=gF;cases x with
 |non=>
  cases rx;have e':k=false:=e;subst e';exact truthy_none ⟨H,I,q⟩
 |bl b=>
  cases rx;have e':k=b:=e;subst e';exact Fv ⟨H,I,q⟩
 |int i=>
  obtain⟨t,rfl⟩:=rx;have e':k=(i !=0):=e;subst e';exact PySem.P.truthy_int ⟨H,I,q⟩
 |str y=>
  obtain⟨t,rfl⟩:=rx;obtain⟨hy,e'⟩:y.length<=sizeLine/\k=((y.length:Int) !=0):=e;subst e';exact PySem.P.truthy_str (by lia) ⟨H,I.tok _,q⟩
 |byt y=>
  obtain⟨t,rfl⟩:=rx;obtain⟨hy,e'⟩:y.size<=sizeLine/\k=((y.size:Int) !=0):=e;subst e';exact W.truthy_bytes (by lia) ⟨H,I.tok _,q⟩
 |ref p=>
  cases rx;have e':(∃xs,SqL X.K H p xs/\k=!xs.isEmpty)\/(∃xs,SqT X.K H p xs/\k=!xs.isEmpty)\/∃kvs,H p=some (.dK kvs)/\k=!kvs.isEmpty:=e;rcases e' with⟨xs,hx,e'⟩|⟨xs,hx,e'⟩|⟨kvs,hx,e'⟩
  ·subst e';obtain⟨its,r,pl,hz⟩:=I.list hx;have AO:=r.length;exact wpAny_truthy_list pl.isList (by simp only[cJ];lia) ⟨H,I.tok _,by rw[zj2 r];exact q⟩
  ·subst e';obtain⟨its,r,pl,hz⟩:=I.tuple hx;have AO:=r.length;exact truthy_tuple pl (by simp only[cJ];lia) ⟨H,I.tok _,by rw[zj2 r];exact q⟩
  ·subst e';obtain⟨hz,hS,vs,r,m⟩:kvs.length<=sizeLine/\(p==sysModules)=false/\∃vs,KV kvs vs/\s.heap.DictOf (jW X.prog X.w) p vs:=I.hok p _ hx;have AO:kvs.length=vs.length:=Xg r;exact wpAny_truthy_dict hS m (by lia) ⟨H,I.tok _,by rw[znT r];exact q⟩
 |_=>exact(show False from e).elim
theorem oD (ha:PE X a ta)(he:∀whole,isTrue a X.env whole=(do let v<-whole;standAt a.pos;holding [v] (truthy v))):
  PT X a (λσ H Q=>ta σ H λx H'=>∃k,Qr X.K x H' k/\Q k H'):=by
 intro AM s σ H Q I h;exact isTrue_plain (bE (ha AM s σ H _ I h) λv s1 ⟨x,H1,I1,r1,q1⟩=>Fd AM s1 σ H1 x v Q I1 r1 q1) (he _)
theorem znR:OpR X (binaryOp .Add) (λx y H Q=>∃i j,x= .str i/\y= .str j/\i.length+j.length<=sizeLine/\Q (.str (i++j)) H):=by
 intro AM s σ H x y v u Q I rx ry h;obtain⟨i,j,rfl,rfl,hz,q⟩:=h;obtain⟨t,rfl⟩:=rx;obtain⟨t',rfl⟩:=ry;exact add_str (λt' tk=>⟨.str (i++j),H,I.tok _,⟨_,rfl⟩,q⟩) hz
theorem tZ {x:V}(r:Vals [x] us):∃u,us=[u]/\RelV x u:=by
 cases r with
 |cons r1 r2=>cases r2;exact⟨_,rfl,r1⟩
theorem tO {x y:V}(r:Vals [x,y] us):∃u w',us=[u,w']/\RelV x u/\RelV y w':=by
 cases r with
 |cons r1 r2=>
  cases r2 with
  |cons r3 r4=>cases r4;exact⟨_,_,rfl,r1,r3⟩
theorem zoQ (hc:X.calm=true):jQ X (.builtin "max") (λxs H Q=>∃i j,xs=[.int i,.int j]/\Q (.int (if j>i then j else i)) H):=by
 intro AM s σ H xs us Q I r h;obtain⟨i,j,rfl,q⟩:=h;obtain⟨u,w',rfl,⟨t,rfl⟩,⟨t',rfl⟩⟩:=tO r;refine max_two_ints (I.ok.hd hc) λh' tk k=>⟨_,H,I.kept k,?_,q⟩
 by_cases hj:j>i
 ·rw[if_pos hj,if_pos hj];exact⟨_,rfl⟩
 ·rw[if_neg hj,if_neg hj];exact⟨_,rfl⟩
theorem zpg (hc:X.calm=true):jQ X (.builtin "min") (λxs H Q=>∃i j,xs=[.int i,.int j]/\Q (.int (if j<i then j else i)) H):=by
 intro AM s σ H xs us Q I r h;obtain⟨i,j,rfl,q⟩:=h;obtain⟨u,w',rfl,⟨t,rfl⟩,⟨t',rfl⟩⟩:=tO r;refine min_two_ints (I.ok.hd hc) λh' tk k=>⟨_,H,I.kept k,?_,q⟩
 by_cases hj:j<i
 ·rw[if_pos hj,if_pos hj];exact⟨_,rfl⟩
 ·rw[if_neg hj,if_neg hj];exact⟨_,rfl⟩
theorem zn8:jQ X (.type "int") (λxs H Q=>(∃i,xs=[.int i]/\Q (.int i) H)\/∃k,xs=[.bl k]/\Q (.int (if k then 1 else 0)) H):=by
 intro AM s σ H xs us Q I r h;rcases h with⟨i,rfl,q⟩|⟨k,rfl,q⟩
 ·obtain⟨u,rfl,t,rfl⟩:=tZ r;exact call_int_int ⟨.int i,H,I,⟨_,rfl⟩,q⟩
 ·obtain⟨u,rfl,r1⟩:=tZ r;cases r1;exact call_int_bool ⟨.int (if k then 1 else 0),H,I.tok _,⟨_,rfl⟩,q⟩
end
structure ObjM (h:Heap)(x dx C:Addr)(mA:Str->Option Value):Prop where
 obj:h.get? x=some (W.instObj C dx)
 ns:h.Ns1 dx mA
 ne:dx≠x
theorem zon (n:h.Ns1 dx mA):∃od,h.get? dx=some od/\∀name,W.lookIn name od=some (mA name):=by
 obtain⟨o,es,ep,ho,hd,hk,_,hm⟩:=n;refine⟨o,ho,λname=>?_⟩;have e:=hm name;unfold nsFind findBy at e;rw[<-Array.find?_toList]at e;unfold W.lookIn;rw[hd];dsimp only
 split
 ·rename_i y q;rw[q]at e;exact congrArg some e
 ·rename_i q;rw[q]at e;have a:es.toList.any (·.refKey)=false:=by
   rw[List.any_eq_false];intro y hy;obtain⟨z,t,hkey⟩:=hk y (Array.mem_toList_iff.mp hy);simp[DictEntry.refKey,hkey]
  have a':¬es.toList.any (·.refKey)=true:=by rw[a];exact hZ
  rw[if_neg a'];exact congrArg some e
theorem ObjM.look {x dx C:AD}(I:ObjM h x dx C mA):∃od,W.InstAt h x (W.instObj C dx) C (some od)/\∀name,W.lookIn name od=some (mA name):=
 let⟨od,ho,hl⟩:=zon I.ns
 ⟨od,⟨I.obj,rfl,rfl,ho⟩,hl⟩
theorem RelO.some_of {o:AB AC}(r:RelO (some v) o):∃u,o=some u/\RelV v u:=by
 cases o with
 |none=>exact(show False from r).elim
 |some u=>exact⟨u,rfl,r⟩
section
variable {P:AJ}{w:World}{H H':Hp}{h h':AK}{a C dx:AD}{fs fs':AA (Str×V)}
theorem As (hok:HOk P w H h)(e:H a=some (.ins C dx fs)):∃mA,ObjM h a dx C mA/\(∀f,RelO (fs.lookup f) (mA f))/\PySem.Within mA (fs.map (·.1))/\fs.length<=1000/\H dx=some (.own a):=by
 obtain⟨d,z,ne,ob,mA,n,r,q⟩:=(show ObjOk P w H h a (.ins C dx fs)from hok a _ e);exact⟨mA,⟨ob,n,ne⟩,r,q,z,d⟩
end
structure Cls (K:W.Frag)(C:Addr):Prop where
 pg:W.plainGet K C Str.empty=true
 hd:W.hasDictIn K C=true
 po:W.plainOver K C=true
 sa:W.findIn K (.ref C) "__setattr__"=some (some (.builtin "object.__setattr__"))
theorem Cls.get {C:AD}(c:Cls K C)(f:Str):W.plainGet K C f=true:=c.pg
section
variable {X:Cx}{AM:AA (AD×Obj)}{σ:St}{H:Hp}{s:AE}{A:Around}{E:AC->AE->Prop}{Q:AC->AE->Prop}{c:AC}{b:Bool}
inductive TyOf (K:W.Frag) (H:Hp):V->Value->Prop where
 |non:TyOf K H .non (.type "NoneType")
 |bl (x:Bool):TyOf K H (.bl x) (.type "bool")
 |int (i:Int):TyOf K H (.int i) (.type "int")
 |str (x:Str):TyOf K H (.str x) (.type "str")
 |flt (x:UInt64):TyOf K H (.flt x) (.type "float")
 |lst {a:Addr} {xs:List V} (e:H a=some (.lst xs)):TyOf K H (.ref a) (.type "list")
 |frz {a:Addr} {o:Obj} {xs:List V} (e:H a=some (.frz o (.lst xs))):TyOf K H (.ref a) (.type "list")
 |tup {a:Addr} {xs:List V} (e:H a=some (.tup xs)):TyOf K H (.ref a) (.type "tuple")
 |dK {a:Addr} {kvs:List (bX×V)} (e:H a=some (.dK kvs)):TyOf K H (.ref a) (.type "dict")
 |dT {a:Addr} {kvs:List (List bX×V)} (e:H a=some (.dT kvs)):TyOf K H (.ref a) (.type "dict")
 |ins {a C dx:Addr} {fs:List (Str×V)} (e:H a=some (.ins C dx fs)) (cl:Cls K C) (ha:W.findIn K (.ref C) "__class__"=some (some (.builtin "object.__class__")))
   (hn:W.specialIn K (.builtin "object.__class__") "__get__"=some (some (.builtin "getset_descriptor.__get__"))) (htk:W.takesIn K (.builtin "object.__class__")=some true)
   (hm:W.mroIn K C (.type "object")=some true):TyOf K H (.ref a) (.ref C)
theorem zpL {x:V}{u t:AC}(I:Inv X AM σ H s)(rx:RelV x u)(ty:TyOf X.K H x t)(e:W.kitOne X.K t c=some b)(h:∀tk,Q (.bool b) {s with toks:=tk}):
  AG (model X.prog X.w) A (call (.builtin "isinstance") [u,c]) Q E s:=by
 cases ty with
 |non=>cases(show u=Value.none from rx);exact qU W.kitx_none I.kIn True.intro e (λz=>nomatch z) h
 |bl y=>cases(show u=Value.bool y from rx);exact qU W.kitx_bool I.kIn True.intro e (λz=>nomatch z) h
 |int i=>obtain⟨t,q⟩:=(show ∃t,u=Value.int i t from rx);cases q;exact qU W.kitx_int I.kIn True.intro e (λz=>nomatch z) h
 |str y=>obtain⟨t,q⟩:=(show ∃t,u=Value.str y t from rx);cases q;exact qU W.kitx_str I.kIn True.intro e (λz=>nomatch z) h
 |flt y=>obtain⟨t,q⟩:=(show ∃t,u=Value.float y t from rx);cases q;exact qU W.kitx_float I.kIn True.intro e (λz=>nomatch z) h
 | @lst a xs ea=>
  cases(show u=Value.ref a from rx);obtain⟨_,_,n,_,h1⟩:=(show ObjOk X.prog X.w H s.heap a (.lst xs)from I.hok a _ ea);exact qU W.kitx_list I.kIn ⟨_,h1,rfl⟩ e (λz=>nomatch z) h
 | @frz a ob xs ea=>
  cases(show u=Value.ref a from rx);obtain⟨_,_,_,n,_,h1⟩:=(show ObjOk X.prog X.w H s.heap a (.frz ob (.lst xs))from I.hok a _ ea);exact qU W.kitx_list I.kIn ⟨_,h1,rfl⟩ e (λz=>nomatch z) h
 | @tup a xs ea=>
  cases(show u=Value.ref a from rx);obtain⟨_,_,_,p⟩:=(show ObjOk X.prog X.w H s.heap a (.tup xs)from I.hok a _ ea);obtain⟨o,h1,h2,_⟩:=p;exact qU W.kitx_tuple I.kIn ⟨o,h1,h2⟩ e (λz=>nomatch z) h
 | @dK a kvs ea=>
  cases(show u=Value.ref a from rx);obtain⟨_,_,vs,_,p⟩:=(show ObjOk X.prog X.w H s.heap a (.dK kvs)from I.hok a _ ea);obtain⟨o,es,ep,h1,h2,_⟩:=p;exact qU W.kitx_dict I.kIn ⟨o,h1,h2.1⟩ e (λz=>nomatch z) h
 | @dT a kvs ea=>
  cases(show u=Value.ref a from rx);obtain⟨_,_,xs,_,o,es,ep,h1,h2,_⟩:=(show ObjOk X.prog X.w H s.heap a (.dT kvs)from I.hok a _ ea);exact qU W.kitx_dict I.kIn ⟨o,h1,h2.1⟩ e (λz=>nomatch z) h
 | @ins a C dx fs ea cl ha hn htk hm=>
  cases(show u=Value.ref a from rx);obtain⟨mA,O,_⟩:=As I.hok ea;obtain⟨od,J,_⟩:=O.look;exact qU (W.kitx_own (cl.get _) cl.hd ha hn htk hm) I.kIn J e (λz=>nomatch z) h
end
structure Room (k:Nat)(A:Around):Prop where
 hd:A.handled=none
 dp:A.depth+3*k+5<recursionLimit
 un:A.units+16*k+200<cLine
 gd:A.guards=some []
theorem Room.mono (r:Room k A)(h:j<=k):Room j A:=⟨r.hd,by have:=r.dp;lia,by have:=r.un;lia,r.gd⟩
theorem Room.deeper (r:Room (k+1) A)(env:Env):Room k (A.deeper env):=
 ⟨r.hd,by have:=r.dp;show A.depth+1+3*k+5<_;lia,by have:=r.un;show A.units+3+16*k+200<_;lia,r.gd⟩
theorem Room.depth (r:Room k A):A.depth<recursionLimit:=by have:=r.dp;lia
theorem Room.units (r:Room k A):A.units+64<cLine:=by have:=r.un;lia
noncomputable def tNil:TA:=λ_ H Q=>Q [] H
noncomputable def By (ta:TE)(tr:TA):TA:=λσ H Q=>ta σ H λx H1=>tr σ H1 λxs H2=>Q (x::xs) H2
section
variable {X:Cx}{e:AI}{es:AA AI}{te:TE}{t:TA}{pos:Pos}
theorem iS:PA X [] tNil:=λ_ _ _ _ H Q I h=>Calls.spliced_nil ⟨[],H,I,.nil,h⟩
theorem gK (ha:PE X e te)(hr:PA X es t)(hs:autoParam (starEach (e::es) X.env=(false,eval e X.env)::starEach es X.env) zu2._auto_1):PA X (e::es) (By te t):=by
 intro pos AM s σ H Q I h;rw[hs];show AG _ _ (spliced ((false,eval e X.env)::backTo pos (starEach es X.env))) _ _ s;refine qaL (bE (ha AM s σ H _ I h) λu s1 ⟨x,H1,I1,r1,q1⟩=>?_);exact bE (hr pos AM s1 σ H1 _ I1 q1) λus s2 ⟨xs,H2,I2,r2,q2⟩=>⟨x::xs,H2,I2,.cons r1 r2,q2⟩
noncomputable def tTup (t:TA):TE:=λσ H Q=>t σ H λxs H1=>xs.length<=sizeLine/\∀p,H1 p=none->Q (.ref p) (upd H1 p (.tup xs))
noncomputable def tLst (t:TA):TE:=λσ H Q=>t σ H λxs H1=>xs.length<=sizeLine/\∀p,H1 p=none->Q (.ref p) (upd H1 p (.lst xs))
theorem Hh {x1}(h:PA X es t):PE X (.Tuple es x1 pos) (tTup t):=by
 intro AM s σ H Q I hq;refine wpAny_Tuple_spliced (bE (h pos AM s σ H _ I hq) λus s1 ⟨xs,H1,I1,r,z,q⟩=>⟨by rw[<-r.length];exact z,?_⟩);have hf:H1 s1.heap.objs.size=none:=I1.hok.fresh (bZ _);refine⟨.ref s1.heap.objs.size,upd H1 s1.heap.objs.size (.tup xs),I1.laid (t':=s1.toks) (λb u e=>bK _ e) (bZ _) ?_,rfl,q _ hf⟩;exact⟨z,us,r,⟨_,eL _ rfl,rfl,_,rfl⟩⟩
theorem zo6 (h:PA X es t):PE X (.List es pos) (tLst t):=by
 intro AM s σ H Q I hq;refine wpAny_List_spliced (bE (h pos AM s σ H _ I hq) λus s1 ⟨xs,H1,I1,r,z,q⟩=>⟨by rw[<-r.length];exact z,?_⟩);have hf:H1 s1.heap.objs.size=none:=I1.hok.fresh (bZ _);refine⟨.ref s1.heap.objs.size,upd H1 s1.heap.objs.size (.lst xs),I1.laid (t':=s1.toks) (λb u e=>bK _ e) (bZ _) ?_,rfl,q _ hf⟩;exact⟨z,us,0,r,eL _ rfl⟩
end
noncomputable abbrev Sp:=AA V->Hp->VK->XK->Prop
noncomputable abbrev xK:=AA Env->Hp->AE->XK->AC->AE->Prop
structure Env0 (P:Program)(w:World)(K:W.Frag)(mg:Str->Option Value)(base:Heap)(A:Around)(outer:List Env)(s:Shared)(H:Hp):Prop where
 frames:A.frames=some outer
 mod:Mod K mg base
 bs:∀b o,base.get? b=some o->s.heap.get? b=some o/\H b=none
 bsz:base.objs.size<=s.heap.objs.size
 funs:s.heap.FunFrames base outer
 frf:∀b∈frs outer,H b=none
 hok:HOk P w H s.heap
 bare:AllBare s.gens
noncomputable def CE (outer:AA Env)(P:AJ)(w:World)(H:Hp)(s:AE)(Q:VK)(u:AC)(s':AE):Prop:=
 ∃v H',s'.os=s.os/\AllBare s'.gens/\Un (frs outer) [] H H' s.heap s'.heap/\HOk P w H' s'.heap/\RelV v u/\Q v H'
noncomputable def CR (CX:xK)(outer:AA Env)(P:AJ)(w:World)(H:Hp)(s:AE)(Q:VK)(E:XK)(r:Result)(s':AE):Prop:=
 match r with
 | .ok (.ret u)=>CE outer P w H s Q u s'
 | .ok _=>False
 | .error e=>CX outer H s E e s'
structure FnOk (P:Program)(w:World)(K:W.Frag)(mg:Str->Option Value)(base:Heap)(CX:xK)(k:Nat)(f:Addr)(fd:FuncData)(ps:List Str)(sp:Sp):Prop where
 len:∀vs H Q E,sp vs H Q E->vs.length=ps.length
 run:∀(A:Around) (outer:List Env) (s:Shared) (H:Hp) (args:Args) (us:List Value) (vs:List V) (Q:VK) (E:XK),Room k A->Env0 P w K mg base A outer s H->BindsTo s fd args (ps.zip us)->Vals vs us->sp vs H Q E->
  codeAny (model P w) A (.call (.ref f) args) (CR CX outer P w H s Q E) s
section
variable {X:Cx}{AM:AA (AD×Obj)}{σ:St}{H:Hp}{s s':AE}
theorem Inv.env0 (I:Inv X AM σ H s):Env0 X.prog X.w X.K X.mg X.base X.A X.stack s H:=
 ⟨I.ok.frames,I.ok.mod,I.bs,jE I.ok.bsz I.sz,I.stack,I.stkFree,I.hok,I.bare⟩
theorem Inv.after {Q:VK}(I:Inv X AM σ H s)(h:CE X.stack X.prog X.w H s Q u s'):EP X AM σ Q u s':=by
 obtain⟨v,H',os,bare,un,hok,r,q⟩:=h;obtain⟨hh,g,d,t,os'⟩:=s';obtain rfl:os'=s.os:=os;exact⟨v,H',I.call (h':=hh) (g':=g) (d':=d) (t':=t) (ch:=[]) un hok bare (λb z=>AH z (by simp)),r,q⟩
end
noncomputable def Dk (sp:Sp)(dvs:AA V)(E:XK)(t:TA):TE:=λσ H Q=>t σ H λvs H1=>sp (vs++dvs) H1 Q E
noncomputable def Binds (K:AF)(fd:FuncData)(ps:AA Str)(ds:AA AC):Prop:=
 ∀(s:AE) (us:AA AC),K.In s.heap->(us++ds).length=ps.length->BindsTo s fd ⟨us,[]⟩ (ps.zip (us++ds))
theorem Binds.all (h:∀us:AA AC,us.length=ps.length->bindArgs fd ⟨us,[]⟩=pure (ps.zip us)):Binds K fd ps []:=λs us _ hl=>by
 rw[lW]at hl ⊢;exact .of_eq (h us hl)
noncomputable def zol (CX:xK)(X:Cx)(E:XK):Prop:=∀(AM:AA (AD×Obj)) (σ:St) (H:Hp) (s:AE) (e:AC) (s':AE),Inv X AM σ H s->CX X.stack H s E e s'->X.xe e s'
section
variable {X:Cx}{CX:xK}{k:Nat}{f C:AD}{fd:FuncData}{ps:AA Str}{sp:Sp}{dvs:AA V}{ds:AA AC}{E:XK}{x m:Str}{p pos apos:Pos}{e o:AI}{es:AA AI}{ta:TE}{t:TA}
theorem Hi {Q:VK}(F:FnOk X.prog X.w X.K X.mg X.base CX k f fd ps sp)(hr:Room k X.A)(hb:Binds X.K fd ps ds)(hd:Vals dvs ds)(hx:zol CX X E)(I:Inv X AM σ H s)(r:Vals vs us)(h:sp (vs++dvs) H Q E):AG (model X.prog X.w) X.A (call (.ref f) us) (EP X AM σ Q) X.xe s:=by
 have r2:Vals (vs++dvs) (us++ds):=r.append hd;have hl:(us++ds).length=ps.length:=by rw[<-r2.length];exact F.len _ _ _ _ h
 refine wpAny_call (codeAny_mono (F.run X.A X.stack s H ⟨us,[]⟩ (us++ds) (vs++dvs) Q E hr I.env0 (hb s us I.kIn hl) r2 h) λr s' hq=>?_);cases r with
 |error e=>exact hx AM σ H s e s' I hq
 |ok fl=>
  cases fl with
  |ret u=>exact I.after hq
  |next=>exact False.elim hq
  |brk=>exact False.elim hq
  |cont=>exact False.elim hq
theorem Ve (F:FnOk X.prog X.w X.K X.mg X.base CX k f fd ps sp)(hr:Room k X.A)(hg:Gl X x)(hm:X.mg x=some (.ref f))(hk:W.keepIn X.K (.ref f)=true)(hb:Binds X.K fd ps ds)(hd:Vals dvs ds)(hx:zol CX X E)(ha:PA X (e::es) t)(hdb:autoParam ((x==("__debug__":Str))=false) zu1._auto_1)(he:autoParam (starEach (e::es) X.env=(false,eval e X.env)::starEach es X.env) zu2._auto_1)(hpl:autoParam ((backTo pos (starEach es X.env)).any (·.1)=false) zu2._auto_1):
  PE X (.Call (.Name x p) (e::es) [] pos) (Dk sp dvs E t):=by
 intro AM s σ H Q I h;refine qaN (Ar I hg hm ?_ hdb);refine W.callWith_K (h₀:=X.base) I.ok.mod.kin hk (bE (ha pos AM s σ H _ I h) λus s1 ⟨vs,H1,I1,r,q⟩=>⟨I1.kIn,?_⟩) he hpl;exact Hi F hr hb hd hx I1 r q
end
structure FnScope (N P:List Str)(sc:Scope):Prop where
 kind:sc.kind= .function
 co:sc.isCoroutine=false
 gen:sc.isGenerator=false
 nd:N.Nodup
 pre:N.take P.length=P
 par:∀x∈P,sc.names.lookup x=some .local\/sc.names.lookup x=some .cell
 nofree:∀y∈sc.names,y.2≠ .free
theorem zle:∀{binds:AA (Str×AC)} {m:Str->AB AC},(∀v,(x,v)∉binds)->bindL kindOf binds m x=m x
 |[],_,_=>rfl
 |(n,v)::r,m,h=>by
  unfold bindL;rw[zle λw hw=>h w (iN _ hw)]
  split
  ·have:x≠n:=by rintro rfl;exact h v jP
   simp[this]
  ·rfl
theorem zlc:∀{binds:AA (Str×AC)} {m:Str->AB AC},(∀v,(x,v)∉binds)->bindC kindOf binds m x=m x
 |[],_,_=>rfl
 |(n,v)::r,m,h=>by
  unfold bindC;rw[zlc λw hw=>h w (iN _ hw)]
  split
  ·rfl
  ·have:x≠n:=by rintro rfl;exact h v jP
   simp[this]
theorem zlf {v:AC}:∀{P:AA Str} {vs:AA AC} {i:Nat} {m:Str->AB AC},P.Nodup->P[i]? =some x->vs[i]? =some v->kindOf x=some .local->
  bindL kindOf (P.zip vs) m x=some v
 |[],_,_,_,_,h,_,_=>by simp at h
 |_::_,[],_,_,_,_,h,_=>by simp at h
 |p::P,w::vs,0,m,nd,h1,h2,hk=>by
  simp at h1 h2;subst h1;subst h2;show bindL kindOf ((p,w)::P.zip vs) m p=_;unfold bindL;rw[zle λv hv=>(qaO.mp nd).1 (List.of_mem_zip hv).1,if_pos hk];simp
 |p::P,w::vs,i+1,m,nd,h1,h2,hk=>by
  show bindL kindOf ((p,w)::P.zip vs) m x=_;unfold bindL;exact zlf (i:=i) (qaO.mp nd).2 (by simpa using h1) (by simpa using h2) hk
theorem zli {v:AC}:∀{P:AA Str} {vs:AA AC} {i:Nat} {m:Str->AB AC},P.Nodup->P[i]? =some x->vs[i]? =some v->kindOf x≠some .local->
  bindC kindOf (P.zip vs) m x=some v
 |[],_,_,_,_,h,_,_=>by simp at h
 |_::_,[],_,_,_,_,h,_=>by simp at h
 |p::P,w::vs,0,m,nd,h1,h2,hk=>by
  simp at h1 h2;subst h1;subst h2;show bindC kindOf ((p,w)::P.zip vs) m p=_;unfold bindC;rw[zlc λv hv=>(qaO.mp nd).1 (List.of_mem_zip hv).1,if_neg hk];simp
 |p::P,w::vs,i+1,m,nd,h1,h2,hk=>by
  show bindC kindOf ((p,w)::P.zip vs) m x=_;unfold bindC;exact zli (i:=i) (qaO.mp nd).2 (by simpa using h1) (by simpa using h2) hk
noncomputable def start (N:AA Str)(vs:AA V):St:=vs.map some++List.replicate (N.length-vs.length) none
noncomputable def gR (CX:xK)(P:AJ)(w:World)(K:AF)(mg:Str->AB AC)(base:AK)(N:AA Str)(qual:Str)(scope:Scope)(f:AD)(cd:AC)(A:Around)(outer:AA Env)(s:AE)(H:Hp)(E:XK):Cx where
 prog:=P
 w:=w
 K:=K
 mg:=mg
 base:=base
 A:=A.deeper (envOfC qual scope s.heap.objs.size f cd)
 N:=N
 s₀:=s
 H₀:=H
 env:=envOfC qual scope s.heap.objs.size f cd
 outer:=outer
 stack:=envOfC qual scope s.heap.objs.size f cd::outer
 ex:=[]
 calm:=true
 fn:=λ_=>true
 pn:=[]
 xe:=λe s'=>AG (model P w) (A.deeper (envOfC qual scope s.heap.objs.size f cd)) (leaving (envOfC qual scope s.heap.objs.size f cd) e) (λ_ s''=>CX outer H s E e s'') (λe' s''=>CX outer H s E e' s'') s'
theorem zmJ (h:sc.names.lookup x=some .cell):∃c,(cellsFrom n sc.names []).lookup x=some c:=by
 have q:=W.cellsFrom_some sc.names n [] (.inl h);exact qaP.mp q
theorem zoo {P:AJ}{f:AD}{s s1:AE}{E:XK}(S:FnScope N ps scope)(hd:A.handled=none)(e0:Env0 P w K mg base A outer s H)(hl:vs.length=ps.length)(r:Vals vs us)(x:InCallC s s.heap.objs.size (bindL (envOfC qual scope s.heap.objs.size f cd).kindOf (ps.zip us) λ_=>none) (cellsFrom (s.heap.objs.size+1) scope.names []) (bindC (envOfC qual scope s.heap.objs.size f cd).kindOf (ps.zip us) λ_=>none) s1):
  Inv (gR CX P w K mg base N qual scope f cd A outer s H E) [] (start N vs) H s1:=by
 have hpl:ps.length<=N.length:=by have:=congrArg List.length S.pre;rw[kO]at this;lia
 obtain⟨h1,tk,rfl,hk⟩:=x.done;have noA:∀b:AD,b∉(gR CX P w K mg base N qual scope f cd A outer s H E).ex:=λb z=>AH (show b∈([]:AA AD)from z) (by simp)
 refine⟨⟨e0.mod,S.kind,rfl,rfl,bZ _,λy z c h1 h2=>?_,λy hy=>?_,λy c _ h=>?_,λ_=>hd,Around.frames_deeper e0.frames,.inr ⟨rfl,rfl⟩,λb z=>AH z (noA b),e0.bs,e0.bsz,λb _ _=>noA b,λb z=>AH z (noA b),e0.funs,e0.frf⟩,
  rfl,e0.bare,Un.kept hk,⟨_,x.toInCall.ns,λi y v h1 h2 h3=>?_⟩,λy c h=>⟨_,x.cell y c h⟩,e0.hok.fresh (bZ _),λy c h=>?_,λp hp=>AH (show p∈([]:AA (AD×Obj))from hp) (by simp),e0.hok.kept hk,?_⟩
 ·exact name_of_addr x.apart (Qn h1) (Qn h2)
 ·have hy:scope.names.lookup y=some .cell\/scope.names.lookup y=some .free:=hy;rcases hy with hy|hy
  ·exact zmJ hy
  ·exact AH rfl (S.nofree _ (Qn hy))
 ·exact Nat.le_of_lt (x.above y c (Qn h))
 ·have hi:i<vs.length:=by
   unfold start at h2
   by_cases hi:i<vs.length
   ·exact hi
   ·rw[Ba (by simpa using hi)]at h2;rw[wY]at h2
    split at h2<;>cases h2
  have ha:vs[i]? =some v:=by
   unfold start at h2;rw[iU (by simpa using hi),eG]at h2;cases e:vs[i]? with
   |none=>rw[e]at h2;cases h2
   |some a=>rw[e]at h2;cases h2;rfl
  obtain⟨u,hu,rv⟩:=r.get ha;have hp:ps[i]? =some y:=by
   rw[<-S.pre,qaW (by lia)];exact h1
  have ndP:ps.Nodup:=by rw[<-S.pre];exact S.nd.sublist (List.take_sublist _ _)
  refine⟨u,rv,?_⟩;rcases S.par y (xB hp)with k|k
  ·exact .inl ⟨k,zlf ndP hp hu k⟩
  ·obtain⟨c,e⟩:=zmJ (n:=s.heap.objs.size+1) k;refine .inr ⟨.inl k,c,e,?_⟩;have q:=x.cell y c e;rw[zli ndP hp hu (by show scope.names.lookup y≠_;rw[k];decide)]at q;exact q
 ·exact e0.hok.fresh (Nat.le_of_lt (x.above y c (Qn h)))
 ·unfold start;show _=N.length;rw[eB,cY,Tp];lia
theorem Oj {P:AJ}{f:AD}{name qual:Str}{dV kV doc pm cdv ct oc:AC}{an od:AB AD}{osl:Array (AB AC)}{N ps:AA Str}{sp:Sp}(lk:K.lookup f=some ⟨oc,od,.func (W.fnOf name qual params body scope dV kV doc pm an cdv ct),osl⟩)(hcd:W.codeIn K cdv qual=true)(S:FnScope N ps scope)(len:∀vs H Q E,sp vs H Q E->vs.length=ps.length)(hbody : ∀ (A : Around) (outer : AA Env) (s : AE) (H : Hp) (vs : AA V) (Q : VK) (E : XK), Room k (A.deeper (envOfC qual scope s.heap.objs.size f cdv)) -> sp vs H Q E ->
   ∃t,PSs (gR CX P w K mg base N qual scope f cdv A outer s H E) body t/\t {nx:=λ_ H'=>Q .non H',rt:=Q} (start N vs) H):
  FnOk P w K mg base CX (k+1) f (W.fnOf name qual params body scope dV kV doc pm an cdv ct) ps sp:=by
 refine⟨len,λA outer s H args us vs Q E hr e0 hb r hsp=>?_⟩;have hl:=len _ _ _ _ hsp;have KX:K.In s.heap:=e0.mod.kin.keeps λb o e=>(e0.bs b o e).1
 have lim:s.heap.NoLimit:=e0.mod.nolimit.keeps λb o e=>(e0.bs b o e).1
 have hkind:∀y∈ps.zip us,scope.names.lookup y.1=some .local\/(scope.names.lookup y.1=some .cell/\((cellsFrom (s.heap.objs.size+1) scope.names []).lookup y.1).isSome=true):=λ⟨n,v⟩ hy=>by
  rcases S.par n (List.of_mem_zip hy).1 with q|q
  ·exact .inl q
  ·exact .inr ⟨q,W.cellsFrom_some _ _ _ (.inl q)⟩
 refine codeAny_call_function hr.depth (KX _ _ lk) rfl S.co S.gen rfl (W.codeRec_of KX hcd) (hb _ _ _ _ ?_);refine wpAny_newFunctionEnv_cells S.kind hkind λenv he s1 x=>?_
 subst he;refine⟨lim.keeps x.toInCall.keep,codeAny_func ?_⟩;obtain⟨t,ht,hq⟩:=hbody A outer s H vs Q E (hr.deeper _) hsp;have I:Inv (gR CX P w K mg base N qual scope f cdv A outer s H E) [] (start N vs) H s1:=zoo S hr.hd e0 hl r x;refine lY (ht [] s1 (start N vs) H _ I hq) (λfl s' hs=>?_) λe s' hs=>hs
 have fin:∀{σ':St} {H':Hp} {v:V} {u:AC},Inv (gR CX P w K mg base N qual scope f cdv A outer s H E) [] σ' H' s'->RelV v u->Q v H'->CE outer P w H s Q u s':=
  λ{σ' H' v u} J rv q=>⟨v,H',J.os,J.bare,J.base,J.hok,rv,q⟩
 cases fl with
 |ret u=>
  obtain⟨v,σ',H',J,rv,q⟩:=hs;exact fin J rv q
 |next=>
  obtain⟨σ',H',J,q⟩:=hs;exact fin (v:=V.non) (u:=Value.none) J rfl q
 |brk=>
  obtain⟨_,_,_,q⟩:=hs;exact False.elim q
 |cont=>
  obtain⟨_,_,_,q⟩:=hs;exact False.elim q
section
variable {X:Cx}{x:Str}{p pos:Pos}{e:AI}{es:AA AI}{t:TA}{id T:String}{r:AA V->Hp->VK->Prop}
noncomputable def tCB (r:AA V->Hp->VK->Prop)(t:TA):TE:=λσ H Q=>t σ H λvs H1=>r vs H1 Q
theorem Iy (hc:jQ X (.builtin id) r)(hg:Gl X x)(hm:X.mg x=none)(hv:bootBuiltins x=some (.builtin id))(ha:PA X (e::es) t)(hn:autoParam (x≠"__name__") zu1._auto_1)(hdb:autoParam ((x==("__debug__":Str))=false) zu1._auto_1)(he:autoParam (starEach (e::es) X.env=(false,eval e X.env)::starEach es X.env) zu2._auto_1)(hpl:autoParam ((backTo pos (starEach es X.env)).any (·.1)=false) zu2._auto_1):PE X (.Call (.Name x p) (e::es) [] pos) (tCB r t):=by
 intro AM s σ H Q I h;refine qaN (Iq I hg hm hv ?_ hn hdb);exact PyProof.Rows.callWith_builtin1 (bE (ha pos AM s σ H _ I h) λus s1 ⟨vs,H1,I1,r1,q1⟩=>hc AM s1 σ H1 vs us Q I1 r1 q1) he hpl
theorem Wv (hc:jQ X (.type T) r)(hg:Gl X x)(hm:X.mg x=none)(hv:bootBuiltins x=some (.type T))(ha:PA X (e::es) t)(hn:autoParam (x≠"__name__") zu1._auto_1)(hdb:autoParam ((x==("__debug__":Str))=false) zu1._auto_1)(he:autoParam (starEach (e::es) X.env=(false,eval e X.env)::starEach es X.env) zu2._auto_1)(hpl:autoParam ((backTo pos (starEach es X.env)).any (·.1)=false) zu2._auto_1):PE X (.Call (.Name x p) (e::es) [] pos) (tCB r t):=by
 intro AM s σ H Q I h;refine qaN (Iq I hg hm hv ?_ hn hdb);exact Uo (bE (ha pos AM s σ H _ I h) λus s1 ⟨vs,H1,I1,r1,q1⟩=>hc AM s1 σ H1 vs us Q I1 r1 q1) he hpl
end
end L2
namespace HT
open PyProof.Rows PySem
section
variable {prog:AJ}{w:World}{A:Around}{E:AC->AE->Prop}{s:AE}
theorem yP {t b:AD}{vs ws:AA AC}{Q:AC->AE->Prop}(ht:IsTup s.heap t vs.toArray)(hb:IsTup s.heap b ws.toArray)(hv:vs≠[])(h1:ws=[]->Q (.ref t) s)(h2:ws≠[]->Q (.ref s.heap.objs.size) {s with heap:=s.heap.push {cls:= .type "tuple",data:= .seq (vs++ws).toArray}})(hsz:vs.length+ws.length<=sizeLine):AG (model prog w) A (binaryOp .Add (.ref t) (.ref b)) Q E s:=by
 obtain⟨⟨cls,dd,data,sl⟩,ho,hc,n,hd⟩:=id ht;obtain⟨⟨cls2,dd2,data2,sl2⟩,ho2,hc2,n2,hd2⟩:=id hb;simp only at hc hd hc2 hd2;subst hc hd hc2 hd2;have e:vs.toArray++ws.toArray=(vs++ws).toArray:=by simp
 by_cases hw:ws=[]
 ·exact concat_meets ⟨_,ho,rfl⟩ ⟨_,ho2,rfl⟩ noFill_tuple_add seq_tuple_add qa1 qa2 (qa3 _ _)
   (tuple_addW1 t b vs.toArray ws.toArray n n2 dd dd2 sl sl2 (by simpa using hv) (by simp[hw])) ⟨ho,ho2,h1 hw⟩
 ·refine concat_meets ⟨_,ho,rfl⟩ ⟨_,ho2,rfl⟩ noFill_tuple_add seq_tuple_add qa1 qa2 (qa3 _ _)
   (tuple_addW2 t b vs.toArray ws.toArray n n2 dd dd2 sl sl2 (by simpa using hv) (by simpa using hw) (by rw[cJ,cJ];exact hsz)) ⟨ho,ho2,?_⟩
  rw[e];exact h2 hw
noncomputable def sIx (n d:Nat):AB Int->Nat
 |none=>d
 |some v=>if v<0 then(v+(n:Int)).toNat else min v.toNat n
theorem zmG (n d:Nat):sIx n d none=d:=rfl
theorem Wt (n d k:Nat):sIx n d (some (k:Int))=min k n:=by
 show(if(k:Int)<0 then((k:Int)+(n:Int)).toNat else min (k:Int).toNat n)=min k n;rw[if_neg (by lia),Lx]
theorem Kf (n d:Nat)(hd:d<=n)(o:AB Int):sIx n d o<=n:=by
 cases o with
 |none=>exact hd
 |some v=>
  show(if v<0 then(v+(n:Int)).toNat else min v.toNat n)<=n
  by_cases hv:v<0
  ·rw[if_pos hv];lia
  ·rw[if_neg hv];exact Nat.min_le_right _ _
theorem zot (v:Int)(n d:Nat):(if v<0 then max (v+(n:Int)) 0 else min v (n:Int))=((sIx n d (some v):Nat):Int):=by
 show(if v<0 then max (v+(n:Int)) 0 else min v (n:Int))=(((if v<0 then(v+(n:Int)).toNat else min v.toNat n):Nat):Int)
 by_cases hv:v<0
 ·simp only[if_pos hv];lia
 ·simp only[if_neg hv];lia
theorem znz (lo hi:AB Int)(n:Nat):Builtin.Slice.sliceAdjust lo hi 1 (n:Int)=(((sIx n 0 lo:Nat):Int),((sIx n n hi:Nat):Int)):=by
 have h1:¬((1:Int)<0):=by lia
 unfold Builtin.Slice.sliceAdjust;simp only[h1,kU];refine Prod.ext ?_ ?_
 ·cases lo with
  |none=>rfl
  |some v=>exact zot v n 0
 ·cases hi with
  |none=>rfl
  |some v=>exact zot v n n
theorem znN (i j:Nat):Builtin.Slice.slicePlaces (i:Int) (j:Int) 1=j-i:=by
 unfold Builtin.Slice.slicePlaces;have h1:(1:Int)>0:=by lia
 simp only[h1,if_true,Int.ediv_one]
 split<;>lia
theorem zj7 {v:AC}{o:AB Int}{Q:AB Int->AE->Prop}(p:IsPart v o)(h:Q o s):AG (model prog w) A (Builtin.Slice.slicePartIndex v) Q E s:=by
 cases p with
 |none=>exact slicePart_none h
 |int i t=>exact slicePart_int h
theorem zfK {sl:AD}{vl vu:AC}{lo hi:AB Int}{n:Nat}{Q:Int×Int×Nat->AE->Prop}(hs:s.heap.IsSliceOf sl vl vu .none)(pl:IsPart vl lo)(pu:IsPart vu hi)(h:Q (((sIx n 0 lo:Nat):Int),1,sIx n n hi-sIx n 0 lo) s):AG (model prog w) A (Builtin.Slice.sliceApplied (.ref sl) (pure (n:Int))) Q E s:=by
 obtain⟨os,hos,hcs,hds⟩:=id hs;unfold Builtin.Slice.sliceApplied Builtin.Slice.sliceFields;refine aJ (aJ (gJ hos hds (x:=vl) rfl (aJ (gJ hos hds (x:=vu) rfl (aJ (gJ hos hds (x:= .none) rfl (qaB ?_)))))));refine aJ (slicePart_none ?_);show AG _ _ (if((1:Int)==0)=true then _ else _) _ _ s;rw[if_neg (by decide)];refine aJ (zj7 pl (aJ (zj7 pu (aJ (qaB ?_)))));show AG _ _ (match Builtin.Slice.sliceAdjust lo hi 1 (n:Int)with|(lo,hi)=>pure (lo,(1:Int),Builtin.Slice.slicePlaces lo hi 1)) _ _ s;rw[znz lo hi n];show AG _ _ (pure (((sIx n 0 lo:Nat):Int),(1:Int),Builtin.Slice.slicePlaces ((sIx n 0 lo:Nat):Int) ((sIx n n hi:Nat):Int) 1)) _ _ s;rw[znN];exact qaB h
theorem oF (xs:Array AC)(i k:Nat):((List.range k).filterMap λ(m:Nat)=>xs[((i:Int)+(m:Int)*1).toNat]?).toArray=((xs.toList.drop i).take k).toArray:=by
 have e:(λ(m:Nat)=>xs[((i:Int)+(m:Int)*1).toNat]?)=λm=>xs[i+m]?:=by
  funext m
  have:((i:Int)+(m:Int)*1).toNat=i+m:=by lia
  rw[this]
 rw[e];have:=pick_run xs i k;rw[List.filterMap_map]at this;have e2:((λx=>xs[x]?) ∘ λx=>i+x)=λm=>xs[i+m]?:=rfl
 rw[e2]at this;rw[this]
theorem zh6 {t sl:AD}{items:Array AC}{vl vu:AC}{lo hi:AB Int}{Q:AC->AE->Prop}(ht:IsTup s.heap t items)(hs:s.heap.IsSliceOf sl vl vu .none)(pl:IsPart vl lo)(pu:IsPart vu hi)(hw:¬(sIx items.size 0 lo=0/\sIx items.size items.size hi=items.size))(h:Q (.ref s.heap.objs.size) {s with heap:=s.heap.push {cls:= .type "tuple",data:= .seq ((items.toList.drop (sIx items.size 0 lo)).take (sIx items.size items.size hi-sIx items.size 0 lo)).toArray}})(hsz:items.size<=sizeLine):AG (model prog w) A (getItem (.ref t) (.ref sl)) Q E s:=by
 have htake:sizeOk (.seq ((items.toList.drop (sIx items.size 0 lo)).take (sIx items.size items.size hi-sIx items.size 0 lo)).toArray):=by
  show((items.toList.drop (sIx items.size 0 lo)).take (sIx items.size items.size hi-sIx items.size 0 lo)).toArray.size<=sizeLine;rw[cJ,kO,pT,Yv];lia
 have hj:sIx items.size items.size hi<=items.size:=Kf _ _ (bZ _) hi;obtain⟨os,hos,hcs,hds⟩:=id hs;have hTs:s.TypeIs (.ref sl) "slice":=⟨os,hos,hcs⟩;unfold getItem
 try with_reducible refine jS ?_
 first|refine aJ (qaB ?_)|skip
 refine aJ (wpAny_sequenceKey ht.typeIs (by decide) ?_);refine aJ (yI (name:=Str.ofString "__getitem__") ht.typeIs Wl
  (qL Wl ht.typeIs entry_tuple_getitem ?_ (args_tuple_getitem _ _)))
 show AG _ _ (Builtin.Tuple.tupleItemsOf (.ref t)>>=_) _ _ s;refine aJ (tupleItemsOf_ ht ?_);refine aJ (wpAny_typeOf hTs ?_);rw[if_pos (by decide)];refine aJ (zfK hs pl pu ?_);have hno:¬((((sIx items.size 0 lo:Nat):Int)==0&&(1:Int)==1&&(sIx items.size items.size hi-sIx items.size 0 lo)==items.size)=true):=by
  intro q;rw[fJ,fJ]at q;have q1:((sIx items.size 0 lo:Nat):Int)=0:=eq_of_beq q.1.1;have q2:sIx items.size items.size hi-sIx items.size 0 lo=items.size:=eq_of_beq q.2;exact hw ⟨by lia,by lia⟩
 show AG _ _ (if(((sIx items.size 0 lo:Nat):Int)==0&&(1:Int)==1&&(sIx items.size items.size hi-sIx items.size 0 lo)==items.size)=true then _ else _) _ _ s;rw[if_neg hno,oF]
 first
  |exact aJ (m:=Builtin.Tuple.tupleExact _) (tW (qaB ⟨_,rfl,qaB h⟩) htake)
  |exact aJ (m:=Builtin.Tuple.tupleExact _) (tW (aJ (qaB (qaB ⟨_,rfl,qaB h⟩))) htake)
  |exact aJ (aJ (m:=Builtin.Tuple.tupleExact _) (tW (qaB (qaB ⟨_,rfl,qaB h⟩)) htake))
  |exact aJ (aJ (m:=Builtin.Tuple.tupleExact _) (tW (qaB ⟨_,rfl,qaB h⟩) htake))
end
end HT
namespace L2
open PyProof.Rows PySem PySem.Spec
variable {r r':V->AB Int->AB Int->Hp->VK->Prop}{xs:AA V}{us its its':AA AC}{n j t':Nat}{i:Int}{AM:AA (AD×Obj)}{σ:St}{H:Hp}{s:AE}{p:AD}{f:Array AC->Array AC}{A:Around}{y x:V}{u v:AC}
noncomputable abbrev TO:=St->Hp->(AB Int->Hp->Prop)->Prop
noncomputable def PO (X:Cx)(e:AB AI)(t:TO):Prop:=
 ∀(AM:AA (AD×Obj)) (s:AE) (σ:St) (H:Hp) (Q:AB Int->Hp->Prop),Inv X AM σ H s->t σ H Q->
  AG (model X.prog X.w) X.A (evalPart e X.env) (λu s'=>∃o H',Inv X AM σ H' s'/\IsPart u o/\Q o H') X.xe s
noncomputable def zI:TO:=λ_ H Q=>Q none H
noncomputable def Nv (t:TE):TO:=λσ H Q=>t σ H λx H1=>∃i,x= .int i/\Q (some i) H1
section
variable {X:Cx}{e:AI}{te:TE}{lo hi:AB AI}{tl th:TO}{pos p2:Pos}
theorem wU:PO X none zI:=by
 intro AM s σ H Q I h;rw[evalPart_none];exact qaB ⟨none,H,I,.none,h⟩
theorem xF (h:PE X e te):PO X (some e) (Nv te):=by
 intro AM s σ H Q I hw;rw[evalPart_some];refine bE (h AM s σ H _ I hw) λu s1 ⟨x,H1,I1,r1,q1⟩=>?_
 obtain⟨i,rfl,q⟩:=q1;obtain⟨t,rfl⟩:=r1;exact⟨some i,H1,I1,.int i t,q⟩
noncomputable def SlR (X:Cx)(r:V->AB Int->AB Int->Hp->VK->Prop):Prop:=
 ∀(AM:AA (AD×Obj)) (s:AE) (σ:St) (H:Hp) (x:V) (v vl vu:AC) (lo hi:AB Int) (sl:AD) (Q:VK),Inv X AM σ H s->RelV x v->s.heap.IsSliceOf sl vl vu .none->IsPart vl lo->IsPart vu hi->r x lo hi H Q->
  ∃T id,typeLookup (.type T) "__getitem__"=pure (some (.builtin id))/\s.TypeIs v T/\AG (model X.prog X.w) X.A (getItem v (.ref sl)) (EP X AM σ Q) X.xe s
theorem SlR.or (h:SlR X r)(h':SlR X r'):SlR X (λx lo hi H Q=>r x lo hi H Q\/r' x lo hi H Q):=by
 intro AM s σ H x v vl vu lo hi sl Q I rx hs pl pu q;rcases q with q|q
 ·exact h AM s σ H x v vl vu lo hi sl Q I rx hs pl pu q
 ·exact h' AM s σ H x v vl vu lo hi sl Q I rx hs pl pu q
noncomputable def tSl (r:V->AB Int->AB Int->Hp->VK->Prop)(te:TE)(tl th:TO):TE:=λσ H Q=>te σ H λx H1=>tl σ H1 λl H2=>th σ H2 λu H3=>r x l u H3 Q
theorem pU (hr:SlR X r)(he:PE X e te)(hl:PO X lo tl)(hu:PO X hi th):PE X (.Subscript e (.Slice lo hi none p2) pos) (tSl r te tl th):=by
 intro AM s σ H Q I h;refine Subscript_ (bE (he AM s σ H _ I h) λv s1 ⟨x,H1,I1,r1,q1⟩=>?_);refine wpAny_Slice (bE (hl AM s1 σ H1 _ I1 q1) λvl s2 ⟨l,H2,I2,pl,q2⟩=>bE (hu AM s2 σ H2 _ I2 q2) λvu s3 ⟨u,H3,I3,pu,q3⟩=>?_);rw[evalPart_none];refine qaB ?_;have I4:Inv X AM σ H3 {s3 with heap:=s3.heap.push {cls:= .type "slice",data:= .fields #[vl,vu,.none]}}:=I3.kept (t':=s3.toks) λb ob q=>bK _ q
 obtain⟨T,id,hT,ht,hg⟩:=hr AM {s3 with heap:=s3.heap.push {cls:= .type "slice",data:= .fields #[vl,vu,.none]}} σ H3 x v vl vu l u s3.heap.objs.size Q I4 r1 (Heap.IsSliceOf.new ..) pl pu q3;show AG (model X.prog X.w) X.A (subscriptTail e (.Slice lo hi none p2) v (.ref s3.heap.objs.size)) (EP X AM σ Q) X.xe {s3 with heap:=s3.heap.push {cls:= .type "slice",data:= .fields #[vl,vu,.none]}};exact tail_any (ops:=[.ref s3.heap.objs.size,v]) ht hT hg (by with_unfolding_all rfl)
noncomputable def gQ (xs:AA V)(lo hi:AB Int):AA V:=(xs.drop (HT.sIx xs.length 0 lo)).take (HT.sIx xs.length xs.length hi-HT.sIx xs.length 0 lo)
theorem zi0 (xs:AA V)(lo hi:AB Int):(gQ xs lo hi).length<=xs.length:=by
 unfold gQ;rw[kO,pT];lia
noncomputable def rSlT (K:AF):V->AB Int->AB Int->Hp->VK->Prop:=λx lo hi H Q=>∃a xs,x= .ref a/\SqT K H a xs/\
 ¬(HT.sIx xs.length 0 lo=0/\HT.sIx xs.length xs.length hi=xs.length)/\∀p,H p=none->Q (.ref p) (upd H p (.tup (gQ xs lo hi)))
theorem sl_tup:SlR X (rSlT X.K):=by
 intro AM s σ H x v vl vu lo hi sl Q I rx hs pl pu h;obtain⟨a,xs,rfl,hx,hw,q⟩:=h;cases rx;obtain⟨its,r,ht,hz⟩:=I.tuple hx;have AO:its.toArray.size=xs.length:=by rw[cJ];exact r.length.symm
 refine⟨"tuple",_,PyProof.Rows.slot_tuple_getitem.lookup,ht.typeIs,?_⟩;refine HT.zh6 ht hs pl pu (by rw[AO];exact hw) ?_ (by rw[AO];exact hz);rw[AO];refine⟨.ref s.heap.objs.size,_,I.laid (t':=s.toks) (o:= .tup (gQ xs lo hi)) (λb ob q=>bK _ q) (bZ _) ?_,rfl,q _ (I.hok.fresh (bZ _))⟩;exact⟨jE (zi0 xs lo hi) hz,_,(r.drop (HT.sIx xs.length 0 lo)).take (HT.sIx xs.length xs.length hi-HT.sIx xs.length 0 lo),IsTup.new _ _⟩
noncomputable def Td (K:AF):R2:=λx y H Q=>∃a b xs ys,x= .ref a/\y= .ref b/\SqT K H a xs/\SqT K H b ys/\xs≠[]/\xs.length+ys.length<=sizeLine/\
 (ys=[]->Q (.ref a) H)/\(ys≠[]->∀p,H p=none->Q (.ref p) (upd H p (.tup (xs++ys))))
theorem Vals.nil_iff (r:Vals xs us):us=[]↔xs=[]:=by
 cases r with
 |nil=>simp
 |cons _ _=>simp
theorem op_catT:OpR X (binaryOp .Add) (Td X.K):=by
 intro AM s σ H x y v u Q I rx ry h;obtain⟨a,b,xs,ys,rfl,rfl,ha,hb,hx,hz,q1,q2⟩:=h;cases rx;cases ry;obtain⟨its,r1,p1,_⟩:=I.tuple ha;obtain⟨its2,r2,p2,_⟩:=I.tuple hb;refine HT.yP p1 p2 (λz=>hx (r1.nil_iff.mp z)) (λz=>⟨.ref a,H,I,rfl,q1 (r2.nil_iff.mp z)⟩) (λz=>?_) (by rw[<-r1.length,<-r2.length];exact hz);refine⟨.ref s.heap.objs.size,_,I.laid (t':=s.toks) (o:= .tup (xs++ys)) (λb ob q=>bK _ q) (bZ _) ?_,rfl,q2 (λw=>z (r2.nil_iff.mpr w)) _ (I.hok.fresh (bZ _))⟩;exact⟨by rw[eB];exact hz,_,r1.append r2,IsTup.new _ _⟩
end
noncomputable def cB (n:Nat)(i:Int):AB Nat:=if 0<=i then(if i<n then some i.toNat else none)else if-(n:Int)<=i then some (i+n).toNat else none
noncomputable def atI {α:Type}(xs:AA α)(i:Int):AB α:=(cB xs.length i).bind λj=>xs[j]?
theorem zoH {n:Nat}(h:cB n i=some j):seqIndex? i n=some j/\j<n/\ -(n:Int)<=i/\i<n:=by
 unfold cB at h
 by_cases h0:0<=i
 ·rw[if_pos h0]at h
  by_cases h1:i<n
  ·rw[if_pos h1]at h;have e:i.toNat=j:=Option.some.inj h;exact⟨by rw[seqIndex_of h0 h1,e],by lia,by lia,h1⟩
  ·rw[if_neg h1]at h;cases h
 ·rw[if_neg h0]at h
  by_cases h1: -(n:Int)<=i
  ·rw[if_pos h1]at h;have e:(i+n).toNat=j:=Option.some.inj h;exact⟨by rw[seqIndex_neg (by lia) h1,e],by lia,h1,by lia⟩
  ·rw[if_neg h1]at h;cases h
theorem Vz {α:Type}{xs:AA α}{v:α}(h:atI xs i=some v):∃j,seqIndex? i xs.length=some j/\xs[j]? =some v/\j<xs.length/\ -(xs.length:Int)<=i/\i<xs.length:=by
 unfold atI at h;cases e:cB xs.length i with
 |none=>rw[e]at h;cases h
 |some j=>
  rw[e]at h;obtain⟨h1,h2,h3,h4⟩:=zoH e;exact⟨j,h1,h,h2,h3,h4⟩
theorem znd {α:Type}(xs:AA α)(v:α):atI (xs++[v]) (-1)=some v:=by
 have hl:(xs++[v]).length=xs.length+1:=by simp
 have e:cB (xs++[v]).length (-1)=some xs.length:=by
  unfold cB;rw[hl,if_neg (by decide),if_pos (by lia)];congr 1;lia
 unfold atI;rw[e];show(xs++[v])[xs.length]? =some v;simp
noncomputable def lL (b:AI):Prop:=∀o i,subscripted b false o i=operate [o,i] (getItem o i)
noncomputable def IxR (X:Cx)(r:R2):Prop:=
 ∀(value slice:AI) (AM:AA (AD×Obj)) (s:AE) (σ:St) (H:Hp) (x y:V) (v u:AC) (Q:VK),Inv X AM σ H s->RelV x v->RelV y u->r x y H Q->
  subscripted slice false v u=operate [v,u] (getItem v u)->AG (model X.prog X.w) X.A (subscriptTail value slice v u) (EP X AM σ Q) X.xe s
noncomputable def MtR (X:Cx)(id:String)(r:V->AA V->Hp->VK->Prop):Prop:=
 ∀(AM:AA (AD×Obj)) (s:AE) (σ:St) (H:Hp) (x:V) (xs:AA V) (v:AC) (us:AA AC) (Q:VK),Inv X AM σ H s->RelV x v->Vals xs us->r x xs H Q->
  AG (model X.prog X.w) X.A (call (.builtin id) (v::us)) (EP X AM σ Q) X.xe s
section
variable {X:Cx}{a b:AI}{ta tb:TE}{pos:Pos}
theorem IxR.or {r r':R2}(h:IxR X r)(h':IxR X r'):IxR X (λx y H Q=>r x y H Q\/r' x y H Q):=by
 intro value slice AM s σ H x y v u Q I rx ry q hs;rcases q with q|q
 ·exact h value slice AM s σ H x y v u Q I rx ry q hs
 ·exact h' value slice AM s σ H x y v u Q I rx ry q hs
theorem oH {r:R2}(hr:IxR X r)(ha:PE X a ta)(hb:PE X b tb)(hs:lL b):PE X (.Subscript a b pos) (Px r ta tb):=by
 intro AM s σ H Q I h;exact Subscript_ (Ef ha hb I h λv u s2 x y H2 I2 rx ry q=>hr a b AM s2 σ H2 x y v u Q I2 rx ry q (hs _ _))
noncomputable def Ga (K:AF):R2:=λx y H Q=>∃p xs i v,x= .ref p/\y= .int i/\SqL K H p xs/\atI xs i=some v/\Q v H
noncomputable def Oo (K:AF):R2:=λx y H Q=>∃p xs i v,x= .ref p/\y= .int i/\SqT K H p xs/\atI xs i=some v/\Q v H
noncomputable def Vi:R2:=λx y H Q=>∃z i c,x= .str z/\y= .int i/\z.length<=sizeLine/\atI z.cps.toList i=some c/\Q (.str ⟨#[c]⟩) H
theorem ix_list:IxR X (Ga X.K):=by
 intro value slice AM s σ H x y v u Q I rx ry h hs;obtain⟨p,xs,i,z,rfl,rfl,hq,he,q⟩:=h;cases rx;obtain⟨t,rfl⟩:=ry;obtain⟨its,r,pl,hz⟩:=I.list hq;obtain⟨j,h1,h2,h3,h4,h5⟩:=Vz he;obtain⟨w,ew,rw'⟩:=r.get h2;have hl:=r.length;have hn:=Cd;have fin:EP X AM σ Q w s:=⟨z,H,I,rw',q⟩
 by_cases h0:0<=i
 ·have hj:i.toNat=j:=by
   rw[seqIndex_of h0 h5]at h1;exact Option.some.inj h1
  exact item_listR pl.isList h0 (by lia) (by rw[hj];simpa using ew) fin hs
 ·have hj:(i+(its.toArray.size:Int)).toNat=j:=by
   rw[seqIndex_neg (by lia) h4]at h1;rw[cJ,<-hl];exact Option.some.inj h1
  exact subscriptTail_builtinR (x:=w) pl.isList.typeIs slot_list_getitem.lookup
   (wpAny_getItem_list_neg (Q:=λr s'=>r=w/\EP X AM σ Q r s') pl.isList (by lia) (by rw[cJ]<;>lia) (by lia) (by rw[hj];simpa using ew) ⟨rfl,fin⟩) hs
theorem ix_tup:IxR X (Oo X.K):=by
 intro value slice AM s σ H x y v u Q I rx ry h hs;obtain⟨p,xs,i,z,rfl,rfl,hq,he,q⟩:=h;cases rx;obtain⟨t,rfl⟩:=ry;obtain⟨its,r,pl,hz⟩:=I.tuple hq;obtain⟨j,h1,h2,h3,h4,h5⟩:=Vz he;obtain⟨w,ew,rw'⟩:=r.get h2;have hl:=r.length;have hn:=Cd;have fin:EP X AM σ Q w s:=⟨z,H,I,rw',q⟩;exact subscriptTail_builtinR (x:=w) pl.typeIs slot_tuple_getitem.lookup
  (getItem_tuple (j:=j) (Q:=λr s'=>r=w/\EP X AM σ Q r s') pl (by lia) (by lia) (by rw[cJ,<-hl];exact h1) (by simpa using ew) ⟨rfl,fin⟩) hs
theorem Iv:IxR X Vi:=by
 intro value slice AM s σ H x y v u Q I rx ry h hs;obtain⟨z,i,c,rfl,rfl,hz,he,q⟩:=h;obtain⟨t,rfl⟩:=rx;obtain⟨t',rfl⟩:=ry;obtain⟨j,h1,h2,h3,h4,h5⟩:=Vz he;have hl:z.cps.toList.length=z.length:=by simp[Str.length]
 rw[hl]at h1 h4 h5;have hn:=Cd;exact tail_any (typeIs_str s z t) slot_str_getitem.lookup (getItem_str (c:=c) (by
  have e1:decide (i< -(2^63:Int))=false:=mG (by lia);have e2:decide (i>=2^63)=false:=mG (by lia);rw[e1,e2,Bool.or_false]) (by rw[h1];simpa using h2) ⟨.str ⟨#[c]⟩,H,I.tok _,⟨_,rfl⟩,q⟩) hs
noncomputable def rIx (K:AF):R2:=λx y H Q=>Ga K x y H Q\/Oo K x y H Q\/Vi x y H Q
theorem mZ:IxR X (rIx X.K):=ix_list.or (ix_tup.or Iv)
theorem znK (its:AA AC)(n j:Nat)(u:AC):Obj.mapSeq (·.setIfInBounds j u) {cls:= .type "list",data:= .seq its.toArray n}={cls:= .type "list",data:= .seq (its.set j u).toArray n}:=by
 simp[Obj.mapSeq]
theorem Inv.lst (I:Inv X AM σ H s)(h:H p=some (.lst xs)):
  ∃(its:AA AC) (n:Nat),Vals xs its/\s.heap.get? p=some {cls:= .type "list",data:= .seq its.toArray n}/\xs.length<=sizeLine:=by
 obtain⟨z,its,n,r,e⟩:=I.hok p _ h;exact⟨its,n,r,e,z⟩
theorem Inv.lstUpd {xs ys:AA V}{n n':Nat}{f:Obj->Obj}(I:Inv X AM σ H s)(h:H p=some (.lst xs))(ho:s.heap.get? p=some {cls:= .type "list",data:= .seq its.toArray n})(hf:f {cls:= .type "list",data:= .seq its.toArray n}={cls:= .type "list",data:= .seq its'.toArray n'})(r:Vals ys its')(hz:ys.length<=sizeLine)(t:Nat):
  Inv X AM σ (upd H p (.lst ys)) {s with heap:=s.heap.update p f,toks:=t}:=by
 have e:(s.heap.update p f).get? p=some {cls:= .type "list",data:= .seq its'.toArray n'}:=by
  rw[Xo f ho (by rw[hf]<;>rfl),hf]
 refine I.write (x:=p) (e:=p) (by rw[h];trivial) (.inl rfl) (λb u hb q=>(Heap.get?_update_other _ _ (Ne.symm hb)).trans q) ⟨_,e⟩ ?_;exact⟨hz,its',n',r,e⟩
noncomputable def Od:V->V->V->Hp->(Hp->Prop)->Prop:=λo i v H Q=>∃p xs k j,o= .ref p/\i= .int k/\H p=some (.lst xs)/\cB xs.length k=some j/\Q (upd H p (.lst (xs.set j v)))
theorem Vc:Hx X Od:=by
 intro AM s σ H o i v ov iv u Q I ro ri rv h;obtain⟨p,xs,k,j,rfl,rfl,hp,hj,q⟩:=h;cases ro;obtain⟨t,rfl⟩:=ri;obtain⟨its,n,r,ho,hz⟩:=I.lst hp;obtain⟨h1,h2,h3,h4⟩:=zoH hj;have hl:=r.length;have hn:=Cd;have I':Inv X AM σ (upd H p (.lst (xs.set j v))) {s with heap:=s.heap.update p (Obj.mapSeq (·.setIfInBounds j u))}:=
  I.lstUpd hp ho (znK its n j u) (r.set rv j) (by rw[fR];exact hz) s.toks
 by_cases h0:0<=k
 ·have hk:k.toNat=j:=by
   rw[seqIndex_of h0 h4]at h1;exact Option.some.inj h1
  exact W.ki_setAt ho h0 (by lia) (by rw[cJ,<-hl];exact h4) (by rw[hk];exact⟨_,I',q⟩)
 ·have hk:(k+(its.toArray.size:Int)).toNat=j:=by
   rw[seqIndex_neg (by lia) h3]at h1;rw[cJ,<-hl];exact Option.some.inj h1
  exact W.ki_setBack ho (by lia) (by rw[cJ,<-hl];exact h3) (by lia) (by rw[hk];exact⟨_,I',q⟩)
theorem zk5 (lo hi:AB Int)(n:Nat):(sliceBounds lo hi none n).1=((HT.sIx n 0 lo:Nat):Int)/\(sliceBounds lo hi none n).2.1=((HT.sIx n n hi:Nat):Int)/\(sliceBounds lo hi none n).2.2=1:=by
 refine⟨?_,?_,rfl⟩
 ·cases lo with
  |none=>simp[sliceBounds,HT.sIx]
  |some i=>
   simp only[sliceBounds,HT.sIx,Option.getD_none,show(1:Int)>0 by decide,if_true]
   by_cases h:i<0
   ·simp only[h,if_true]<;>lia
   ·simp only[h,kU]<;>lia
 ·cases hi with
  |none=>simp[sliceBounds,HT.sIx]
  |some i=>
   simp only[sliceBounds,HT.sIx,Option.getD_none,show(1:Int)>0 by decide,if_true]
   by_cases h:i<0
   ·simp only[h,if_true]<;>lia
   ·simp only[h,kU]<;>lia
theorem zki (its:AA AC)(lo hi:AB Int):slicePick its.toArray lo hi none=((its.drop (HT.sIx its.length 0 lo)).take (HT.sIx its.length its.length hi-HT.sIx its.length 0 lo)).toArray:=by
 obtain⟨h1,h2,h3⟩:=zk5 lo hi its.toArray.size;unfold slicePick;rw[h1,h2,h3];simp only[sliceRange_one,pick_run,cJ]<;>rfl
noncomputable def rSlL (K:AF):V->AB Int->AB Int->Hp->VK->Prop:=λx lo hi H Q=>∃a xs,x= .ref a/\SqL K H a xs/\∀p,H p=none->Q (.ref p) (upd H p (.lst (gQ xs lo hi)))
theorem sl_list:SlR X (rSlL X.K):=by
 intro AM s σ H x v vl vu lo hi sl Q I rx hs pl pu h;obtain⟨a,xs,rfl,hx,q⟩:=h;cases rx;obtain⟨its,r,ht,hz⟩:=I.list hx;have AO:=r.length;refine⟨"list",_,slot_list_getitem.lookup,ht.isList.typeIs,?_⟩;refine wpAny_getItem_list_slice ht.isList hs pl pu .none (by simp) ?_ (by rw[cJ]<;>lia)
 rw[zki,<-AO];refine⟨.ref s.heap.objs.size,_,I.laid (t':=s.toks) (o:= .lst (gQ xs lo hi)) (λb ob q=>bK _ q) (bZ _) ?_,rfl,q _ (I.hok.fresh (bZ _))⟩;exact⟨jE (zi0 xs lo hi) hz,_,0,(r.drop (HT.sIx xs.length 0 lo)).take (HT.sIx xs.length xs.length hi-HT.sIx xs.length 0 lo),eL _ rfl⟩
noncomputable def uF:V->Bool
 | .non=>true
 | .bl _=>true
 | .int _=>true
 | .str _=>true
 |_=>false
noncomputable def wR:V->V->Bool
 | .non,.non=>true
 | .bl a,.bl b=>a==b
 | .bl a,.int b=>(if a then 1 else 0)==b
 | .int a,.bl b=>a==(if b then 1 else 0)
 | .int a,.int b=>a==b
 | .str a,.str b=>a==b
 |_,_=>false
theorem Gr (ry:RelV y u)(rx:RelV x v)(fy:uF y=true)(fx:uF x=true):SeqAt.EqAt A s u v (wR y x):=by
 cases y with
 |non=>
  cases ry;cases x with
  |non=>cases rx;exact SeqAt.EqAt.same _
  |bl b=>cases rx;exact SeqAt.EqAt.none_bool b
  |int b=>obtain⟨t,rfl⟩:=rx;exact SeqAt.EqAt.none_int b t
  |str b=>obtain⟨t,rfl⟩:=rx;exact SeqAt.EqAt.none_str b t
  |_=>exact AH (show false=true from fx) hZ
 |bl a=>
  cases ry;cases x with
  |non=>cases rx;exact SeqAt.EqAt.bool_none a
  |bl b=>cases rx;exact SeqAt.EqAt.bool_bool a b
  |int b=>obtain⟨t,rfl⟩:=rx;exact SeqAt.EqAt.bool_int a b t
  |str b=>obtain⟨t,rfl⟩:=rx;exact SeqAt.EqAt.bool_str a b t
  |_=>exact AH (show false=true from fx) hZ
 |int a=>
  obtain⟨t',rfl⟩:=ry;cases x with
  |non=>cases rx;exact SeqAt.EqAt.int_none a t'
  |bl b=>cases rx;exact SeqAt.EqAt.int_bool a t' b
  |int b=>obtain⟨t,rfl⟩:=rx;exact SeqAt.EqAt.int_int a t' b t
  |str b=>obtain⟨t,rfl⟩:=rx;exact SeqAt.EqAt.int_str a t' b t
  |_=>exact AH (show false=true from fx) hZ
 |str a=>
  obtain⟨t',rfl⟩:=ry;cases x with
  |non=>cases rx;exact SeqAt.EqAt.str_none a t'
  |bl b=>cases rx;exact SeqAt.EqAt.str_bool a t' b
  |int b=>obtain⟨t,rfl⟩:=rx;exact SeqAt.EqAt.str_int a t' b t
  |str b=>obtain⟨t,rfl⟩:=rx;exact SeqAt.EqAt.str_str a t' b t
  |_=>exact AH (show false=true from fx) hZ
 |_=>exact AH (show false=true from fy) hZ
noncomputable def kA (x:V)(u:AC):Bool:=match u with
 | .none=>wR .non x
 | .bool b=>wR (.bl b) x
 | .int i _=>wR (.int i) x
 | .str z _=>wR (.str z) x
 |_=>false
theorem mH (r:RelV y u)(f:uF y=true):kA x u=wR y x:=by
 cases y with
 |non=>cases r;rfl
 |bl b=>cases r;rfl
 |int i=>obtain⟨t,rfl⟩:=r;rfl
 |str z=>obtain⟨t,rfl⟩:=r;rfl
 |_=>exact AH (show false=true from f) hZ
theorem Oh:∀{xs:AA V} {us:AA AC},Vals xs us->xs.all uF=true->us.any (kA x)=xs.any λy=>wR y x
 |_,_,.nil,_=>rfl
 |y::xs,u::us,.cons r t,f=>by
  rw[Yd,fJ]at f;rw[Nu,Nu,mH r f.1,Oh t f.2]
theorem Ub (rx:RelV x v)(fx:uF x=true):∀{xs:AA V} {us:AA AC},Vals xs us->xs.all uF=true->∀u∈us,SeqAt.EqAt A s u v (kA x u)
 |_,_,.nil,_=>λu hu=>by cases hu
 |y::xs,u::us,.cons r t,f=>λu' hu=>by
  rw[Yd,fJ]at f;rcases qam.mp hu with rfl|hu
  ·rw[mH r f.1];exact Gr r rx f.1 fx
  ·exact Ub rx fx t f.2 u' hu
noncomputable def Hl (x:V)(xs:AA V):Bool:=xs.any λy=>wR y x
noncomputable def rIn (K:AF)(neg:Bool):R2:=λx y H Q=>∃p xs,y= .ref p/\(SqL K H p xs\/SqT K H p xs)/\uF x=true/\xs.all uF=true/\Q (.bl (if neg then !Hl x xs else Hl x xs)) H
theorem zpo:OpR X (compareOp .In) (rIn X.K false):=by
 intro AM s σ H x y v u Q I rx ry h;obtain⟨p,xs,rfl,hq,fx,fs,q⟩:=h;cases ry;rcases hq with hq|hq
 ·obtain⟨its,r,pl,hz⟩:=I.list hq;refine SeqAt.in_listAt (kA x) pl.isList (λw hw=>Ub rx fx r fs w (by simpa using hw)) ⟨.bl _,H,I,rfl,?_⟩;rw[show its.toArray.any (kA x)=its.any (kA x) by simp,Oh r fs];exact q
 ·obtain⟨its,r,pl,hz⟩:=I.tuple hq;refine SeqAt.in_tupleAt (kA x) pl (λw hw=>Ub rx fx r fs w (by simpa using hw)) ⟨.bl _,H,I,rfl,?_⟩;rw[show its.toArray.any (kA x)=its.any (kA x) by simp,Oh r fs];exact q
theorem zlx:OpR X (compareOp .NotIn) (rIn X.K true):=by
 intro AM s σ H x y v u Q I rx ry h;obtain⟨p,xs,rfl,hq,fx,fs,q⟩:=h;cases ry;rcases hq with hq|hq
 ·obtain⟨its,r,pl,hz⟩:=I.list hq;refine SeqAt.notIn_listAt (kA x) pl.isList (λw hw=>Ub rx fx r fs w (by simpa using hw)) ⟨.bl _,H,I,rfl,?_⟩;rw[show its.toArray.any (kA x)=its.any (kA x) by simp,Oh r fs];exact q
 ·obtain⟨its,r,pl,hz⟩:=I.tuple hq;refine SeqAt.notIn_tupleAt (kA x) pl (λw hw=>Ub rx fx r fs w (by simpa using hw)) ⟨.bl _,H,I,rfl,?_⟩;rw[show its.toArray.any (kA x)=its.any (kA x) by simp,Oh r fs];exact q
theorem Nf:jQ X (.builtin "len") (λxs H Q=>∃p ys,xs=[.ref p]/\(SqL X.K H p ys\/SqT X.K H p ys)/\Q (.int ys.length) H):=by
 intro AM s σ H xs us Q I r h;obtain⟨p,ys,rfl,hq,q⟩:=h;obtain⟨u,rfl,rx⟩:=tZ r;cases rx;have hn:=Cd;rcases hq with hq|hq
 ·obtain⟨its,r',pl,hz⟩:=I.list hq;have AO:=r'.length;exact Calls.call_len_list pl.isList (by simp only[cJ]<;>lia) ⟨.int ys.length,H,I.tok _,⟨s.toks+1,by rw[cJ,AO]⟩,q⟩
 ·obtain⟨its,r',pl,hz⟩:=I.tuple hq;have AO:=r'.length;exact len_tuple pl (by simp only[cJ]<;>lia) ⟨.int ys.length,H,I.tok _,⟨s.toks+1,by rw[cJ,AO]⟩,q⟩
theorem zlB:jQ X (.type "list") (λxs H Q=>∃p ys,xs=[.ref p]/\(SqL X.K H p ys\/SqT X.K H p ys)/\∀l,H l=none->Q (.ref l) (upd H l (.lst ys))):=by
 intro AM s σ H xs us Q I r h;obtain⟨p,ys,rfl,hq,q⟩:=h;obtain⟨u,rfl,rx⟩:=tZ r;cases rx;have fin:∀(its:AA AC),Vals ys its->ys.length<=sizeLine->∀(h':AK) (c':Nat),(∀b o',s.heap.get? b=some o'->h'.get? b=some o')->
   h'.get? s.heap.objs.size=some {cls:= .type "list",dict:=none,data:= .seq its.toArray c',slots:= #[]}->EP X AM σ Q (.ref s.heap.objs.size) {s with heap:=h'}:=λits r' hz h' c' kp e=>
  ⟨.ref s.heap.objs.size,_,I.laid (t':=s.toks) kp (bZ _) (show ObjOk X.prog X.w _ h' _ (.lst ys)from⟨hz,its,c',r',e⟩),rfl,q _ (I.hok.fresh (bZ _))⟩
 rcases hq with hq|hq
 ·obtain⟨its,r',pl,hz⟩:=I.list hq;have AO:=r'.length;obtain⟨o,ho,hc,n,hd⟩:=pl.isList;exact call_list_seq p (.inl rfl) ho hc hd (λh' c' kp e=>fin its r' hz h' c' kp e) (by simp only[cJ]<;>lia)
 ·obtain⟨its,r',pl,hz⟩:=I.tuple hq;have AO:=r'.length;obtain⟨o,ho,hc,n,hd⟩:=pl;exact call_list_seq p (.inr rfl) ho hc hd (λh' c' kp e=>fin its r' hz h' c' kp e) (by simp only[cJ]<;>lia)
theorem zka:jQ X (.type "tuple") (λxs H Q=>∃p ys,xs=[.ref p]/\((SqL X.K H p ys/\∀l,H l=none->Q (.ref l) (upd H l (.tup ys)))\/(SqT X.K H p ys/\Q (.ref p) H))):=by
 intro AM s σ H xs us Q I r h;obtain⟨p,ys,rfl,h⟩:=h;obtain⟨u,rfl,rx⟩:=tZ r;cases rx;rcases h with⟨hq,q⟩|⟨hq,q⟩
 ·obtain⟨its,r',pl,hz⟩:=I.list hq;have AO:=r'.length;refine call_tuple_list pl.isList (λh' kp=>?_) (by simp only[cJ]<;>lia)
  have I1:Inv X AM σ H {s with heap:=h'}:=I.kept (t':=s.toks) kp;have I2:Inv X AM σ (upd H h'.objs.size (.tup ys)) {s with heap:=h'.push {cls:= .type "tuple",data:= .seq its.toArray}}:=
   I1.laid (t':=s.toks) (λb o e=>bK _ e) (bZ _) (show ObjOk X.prog X.w _ _ _ (.tup ys)from⟨hz,its,r',IsTup.new _ _⟩)
  exact⟨.ref h'.objs.size,_,I2,rfl,q _ (I1.hok.fresh (bZ _))⟩
 ·obtain⟨its,r',pl,hz⟩:=I.tuple hq;exact call_tuple_same pl ⟨.ref p,H,I,rfl,q⟩
noncomputable def tyV (K:AF)(T:String)(x:V)(H:Hp):Prop:=match x with
 | .str _=>T="str"
 | .int _=>T="int"
 | .ref p=>(T="list"/\∃xs,SqL K H p xs)\/(T="tuple"/\∃o,K.lookup p=some o/\o.cls= .type "tuple"/\o.dict=none)\/
   (T="dict"/\((∃kvs,H p=some (.dK kvs))\/∃kvs,H p=some (.dT kvs)))\/(T="set"/\∃S n,H p=some (.set S n))
 |_=>False
theorem Hw {T:String}(I:Inv X AM σ H s)(r:RelV x v)(ty:tyV X.K T x H):
  s.TypeIs v T/\∀a,v= .ref a->∃ob,s.heap.get? a=some ob/\ob.dict=none:=by
 cases x with
 |str z=>
  obtain⟨t,rfl⟩:=r;cases(show T="str" from ty);exact⟨typeIs_str s z t,λ_ e=>nomatch e⟩
 |int i=>
  obtain⟨t,rfl⟩:=r;cases(show T="int" from ty);exact⟨typeIs_int s i t,λ_ e=>nomatch e⟩
 |ref p=>
  cases r;rcases ty with⟨rfl,xs,hq⟩|⟨rfl,o,hk,hc,hd⟩|⟨rfl,hk⟩|⟨rfl,S,n,hk⟩
  ·obtain⟨its,_,pl,_⟩:=I.list hq;refine⟨pl.isList.typeIs,λa e=>?_⟩;cases e;obtain⟨o,n,e,c,hd,_⟩:=pl;exact⟨o,e,hd⟩
  ·refine⟨⟨o,I.kIn p o hk,hc⟩,λa e=>?_⟩;cases e;exact⟨o,I.kIn _ o hk,hd⟩
  ·have z:∃o,s.heap.get? p=some o/\o.ExactDict:=by
    rcases hk with⟨kvs,hk⟩|⟨kvs,hk⟩
    ·obtain⟨_,_,_,_,o,_,_,e,ex,_⟩:=I.hok p _ hk;exact⟨o,e,ex⟩
    ·obtain⟨_,_,_,_,o,_,_,e,ex,_⟩:=I.hok p _ hk;exact⟨o,e,ex⟩
   obtain⟨o,e,ex⟩:=z;refine⟨⟨o,e,ex.1⟩,λa e2=>?_⟩;cases e2;exact⟨o,e,ex.2.1⟩
  ·obtain⟨o,_,_,_,e,ex,_⟩:=I.hok p _ hk;refine⟨⟨o,e,ex.1⟩,λa e2=>?_⟩;cases e2;exact⟨o,e,ex.2.1⟩
 |_=>exact False.elim ty
noncomputable def tBM (K:AF)(T:String)(r:V->AA V->Hp->VK->Prop)(to:TE)(t:TA):TE:=λσ H Q=>to σ H λx H1=>tyV K T x H1/\t σ H1 λxs H2=>r x xs H2 Q
variable {o e:AI}{es:AA AI}{to:TE}{t:TA}{name:Str}{apos cpos:Pos}{T id:String}{r:V->AA V->Hp->VK->Prop}
theorem Ck (pa:PlainAttrs T)(slot:Slot T name id)(hty:typeOf (.builtin id)=pure (.type "method_descriptor"))(hm:MtR X id r)(ho:PE X o to)(ha:PA X (e::es) t)(hbase:autoParam (attributeBase o name X.env (eval o X.env)=eval o X.env) zu2._auto_1)(hfew :autoParam (((backTo cpos (starEach (e :: es) X.env)).all (λx => !x.1) && (backToKw cpos (keywordEach [] X.env)).all (λx => x.1.isSome)
   &&decide ((e::es).length+([]:AA Keyword).length+(if([]:AA Keyword).isEmpty then 0 else 1)<30))=true) zu2._auto_1)(hline:autoParam ((apos.endLine==cpos.line)=true) zu2._auto_1)(hs:autoParam (starEach (e::es) X.env=(false,eval e X.env)::starEach es X.env) zu2._auto_1)(hplain:autoParam ((backTo cpos (starEach es X.env)).any (·.1)=false) zu2._auto_1):
  PE X (.Call (.Attribute o name apos) (e::es) [] cpos) (tBM X.K T r to t):=by
 intro AM s σ H Q I h;refine wpAny_Call_method_late hbase hfew hline rfl (bE (ho AM s σ H _ I h) λv s1 ⟨x,H1,I1,r1,ty,q1⟩=>?_);obtain⟨h1,h2⟩:=Hw I1 r1 ty;refine⟨T,id,pa,slot,hty,h1,h2,?_⟩;have hA:=ha cpos AM s1 σ H1 _ I1 q1;rw[hs]at hA ⊢;refine Calls.callWith_builtin (by show(false||(backTo cpos (starEach es X.env)).any (·.1))=false;rw[hplain]<;>rfl) (Calls.evalArgs_plain ?_)
 exact bE hA λus s2 ⟨vs,H2,I2,r2,q2⟩=>hm AM s2 σ H2 x vs v us Q I2 r1 r2 q2
end
noncomputable def Xh (X:Cx)(id:String)(r:V->AA V->Hp->VK->Prop):Prop:=
 ∀(AM:AA (AD×Obj)) (s:AE) (σ:St) (H:Hp) (x:V) (xs:AA V) (v:AC) (us:AA AC) (Q:VK),Inv X AM σ H s->RelV x v->Vals xs us->r x xs H Q->
  AG (model X.prog X.w) X.A (call (.builtin id) (v::us)) (EP X AM σ Q) X.xe s
theorem Vals.one:∀{x:V} {us:AA AC},Vals [x] us->∃u,us=[u]/\RelV x u
 |_,_,.cons r .nil=>⟨_,rfl,r⟩
theorem Vals.two:∀{x y:V} {us:AA AC},Vals [x,y] us->∃u v,us=[u,v]/\RelV x u/\RelV y v
 |_,_,_,.cons r (.cons q .nil)=>⟨_,_,rfl,r,q⟩
theorem Vals.eraseIdx:∀{xs:AA V} {us:AA AC} (i:Nat),Vals xs us->Vals (xs.eraseIdx i) (us.eraseIdx i)
 |_,_,_,.nil=> .nil
 |_,_,0,.cons _ t=>t
 |_,_,i+1,.cons r t=> .cons r (Vals.eraseIdx i t)
theorem Vals.rep (h:Vals xs us):∀k:Nat,Vals (List.replicate k xs).flatten (List.replicate k us).flatten
 |0=> .nil
 |k+1=>by
  rw[mE,mE,Bv,Bv];exact Vals.append h (Vals.rep h k)
theorem zlS {α:Type}:∀(l:AA α) (i:Nat),(l.eraseIdx i).length<=l.length
 |[],_=>bZ _
 |_::_,0=>Nat.le_succ _
 |_::r,i+1=>Nat.succ_le_succ (zlS r i)
theorem zlY (its:AA AC):∀(k:Nat) (acc:AA AC),
  List.foldl (λx1 x2=>x1++x2) acc.toArray (List.replicate k its.toArray)=(acc++(List.replicate k its).flatten).toArray
 |0,acc=>by simp
 |k+1,acc=>by
  have e:acc.toArray++its.toArray=(acc++its).toArray:=by simp
  have e2:(acc++its)++(List.replicate k its).flatten=acc++(List.replicate (k+1) its).flatten:=by
   rw[mE,Bv,qK]
  rw[<-e2,<-zlY its k (acc++its),<-e,mE,Yy]
section
variable {X:Cx}{AM:AA (AD×Obj)}{σ:St}{H:Hp}{s:AE}{l b:AD}{xs ys zs:AA V}
theorem Inv.lset (I:Inv X AM σ H s)(hH:H l=some (.lst xs))(e:s.heap.get? l=some {cls:= .type "list",data:= .seq its.toArray n})(hf:f its.toArray=its'.toArray)(hv:Vals ys its')(hz:ys.length<=sizeLine):
  Inv X AM σ (upd H l (.lst ys)) {s with heap:=s.heap.update l (Obj.mapSeq f),toks:=t'}:=by
 have q:=PySem.IsL.update e f;rw[hf]at q;refine I.write (x:=l) (e:=l) (by rw[hH];exact trivial) (.inl rfl) (λb' u hb hu=>(Heap.get?_update_other s.heap (Obj.mapSeq f) (Ne.symm hb)).trans hu) ⟨_,q⟩ ?_;exact⟨hz,its',_,hv,q⟩
theorem Inv.lnew (I:Inv X AM σ H s)(hv:Vals ys its)(hz:ys.length<=sizeLine):
  Inv X AM σ (upd H s.heap.objs.size (.lst ys)) {s with heap:=s.heap.push {cls:= .type "list",data:= .seq its.toArray},toks:=t'}:=
 I.laid (λ_ _ q=>bK _ q) (bZ _) ⟨hz,its,0,hv,eL _ rfl⟩
theorem Inv.fresh (I:Inv X AM σ H s):H s.heap.objs.size=none:=I.hok.fresh (bZ _)
theorem Inv.lstM (I:Inv X AM σ H s)(hH:H l=some (.lst xs)):xs.length<=sizeLine/\∃(its:AA AC) (n:Nat),Vals xs its/\xs.length=its.length/\s.heap.get? l=some {cls:= .type "list",data:= .seq its.toArray n}:=by
 obtain⟨z,its,n,r,e⟩:=I.hok l _ hH;exact⟨z,its,n,r,r.length,e⟩
theorem zne (h:n<=sizeLine):Builtin.List.listTooLong n=false:=by
 unfold Builtin.List.listTooLong;exact mG (by lia)
end
section
variable {X:Cx}
noncomputable def Ao:V->AA V->Hp->VK->Prop:=λx vs H Q=>∃l xs y,x= .ref l/\vs=[y]/\H l=some (.lst xs)/\xs.length<sizeLine/\Q .non (upd H l (.lst (xs++[y])))
theorem Yf:Xh X "list.append" Ao:=by
 intro AM s σ H x vs v us Q I rx rv h;obtain⟨l,xs,y,rfl,rfl,hH,hz,q⟩:=h;cases rx;obtain⟨u,rfl,ru⟩:=rv.one;obtain⟨z,its,n,r,hl,e⟩:=I.lstM hH;refine Mh F.slot_list_append ⟨_,e,rfl⟩ F.entry_list_append (F.args_list_append_2 _ _) (PySem.list_append l its.toArray n u (by rw[cJ];lia)) ⟨e,?_⟩;refine⟨.non,_,I.lset (its':=its++[u]) hH e (by simp) (r.append (.cons ru .nil)) ?_,rfl,q⟩;rw[eB,Ut];lia
noncomputable def wG:V->AA V->Hp->VK->Prop:=λx vs H Q=>∃l b xs zs,x= .ref l/\vs=[.ref b]/\H l=some (.lst xs)/\H b=some (.lst zs)/\xs.length+zs.length<=sizeLine/\Q .non (upd H l (.lst (xs++zs)))
theorem zob:Xh X "list.extend" wG:=by
 intro AM s σ H x vs v us Q I rx rv h;obtain⟨l,b,xs,zs,rfl,rfl,hH,hB,hz,q⟩:=h;cases rx;obtain⟨u,rfl,ru⟩:=rv.one;cases ru;obtain⟨z,its,n,r,hl,e⟩:=I.lstM hH;obtain⟨z2,its2,n2,r2,hl2,e2⟩:=I.lstM hB;have hsz:its.toArray.size+its2.toArray.size<=sizeLine:=by rw[cJ,cJ];lia
 have hlong:¬(!its.toArray.isEmpty&&Builtin.List.listTooLong (its.toArray.size+its2.toArray.size))=true:=by
  rw[zne hsz,Bool.and_false];exact hZ
 refine Mh F.slot_list_extend ⟨_,e,rfl⟩ F.entry_list_extend (F.args_list_extend_2 _ _)
  (AutoSeq1.list_extend_list_list_0 l its.toArray n b its2.toArray n2 hlong (by rw[cJ];lia) (by lia)) ⟨e,e2,?_⟩
 refine⟨.non,_,I.lset (its':=its++its2) hH e (by simp) (r.append r2) ?_,rfl,q⟩;rw[eB];lia
noncomputable def Lo:V->AA V->Hp->VK->Prop:=λx vs H Q=>∃l xs i k y,x= .ref l/\vs=[.int i]/\H l=some (.lst xs)/\ -(2^63)<=i/\i<2^63/\seqIndex? i xs.length=some k/\xs[k]? =some y/\Q y (upd H l (.lst (xs.eraseIdx k)))
theorem zkY:Xh X "list.pop" Lo:=by
 intro AM s σ H x vs v us Q I rx rv h;obtain⟨l,xs,i,k,y,rfl,rfl,hH,h1,h2,hk,hy,q⟩:=h;cases rx;obtain⟨u,rfl,ru⟩:=rv.one;obtain⟨t,rfl⟩:=ru;obtain⟨z,its,n,r,hl,e⟩:=I.lstM hH;obtain⟨w,hw,rw'⟩:=r.get hy;refine Mh F.slot_list_pop ⟨_,e,rfl⟩ F.entry_list_pop (F.args_list_pop_2 _ _)
  (MeetsSeq.list_pop_at l its.toArray n i t k w (fitsIndex_both h1 h2) (by rw[cJ,<-hl];exact hk) (by rw[<-Array.getElem?_toList];exact hw) (by rw[cJ];lia)) ⟨e,?_⟩
 refine⟨y,_,I.lset (its':=its.eraseIdx k) hH e ?_ (r.eraseIdx k) ?_,rw',q⟩
 ·show its.toArray.eraseIdxIfInBounds k=(its.eraseIdx k).toArray;rw[List.eraseIdxIfInBounds_toArray]
 ·have:=zlS xs k;lia
noncomputable def Zm:R2:=λx y H Q=>∃l b xs zs,x= .ref l/\y= .ref b/\H l=some (.lst xs)/\H b=some (.lst zs)/\xs.length+zs.length<=sizeLine/\∀p,H p=none->Q (.ref p) (upd H p (.lst (xs++zs)))
theorem op_cat:OpR X (binaryOp .Add) Zm:=by
 intro AM s σ H x y v u Q I rx ry h;obtain⟨l,b,xs,zs,rfl,rfl,hH,hB,hz,q⟩:=h;cases rx;cases ry;obtain⟨z,its,n,r,hl,e⟩:=I.lstM hH;obtain⟨z2,its2,n2,r2,hl2,e2⟩:=I.lstM hB;refine PySem.P.add_list e e2 ?_ (by rw[cJ,cJ];lia);have ea:its.toArray++its2.toArray=(its++its2).toArray:=by simp
 rw[ea];exact⟨.ref _,_,I.lnew (t':=s.toks) (r.append r2) (by rw[eB];lia),rfl,q _ I.fresh⟩
noncomputable def rRep:R2:=λx y H Q=>∃l k xs,x= .ref l/\y= .int k/\H l=some (.lst xs)/\ -(2^63)<=k/\k<2^63/\xs.length*k.toNat<=sizeLine/\
 ∀p,H p=none->Q (.ref p) (upd H p (.lst (List.replicate k.toNat xs).flatten))
theorem yA {α:Type}(xs:AA α)(k:Nat):(List.replicate k xs).flatten.length=k*xs.length:=by
 induction k with
 |zero=>simp
 |succ k ih=>rw[mE,Bv,eB,ih,Ou,Mb]
theorem nX:OpR X (binaryOp .Mult) rRep:=by
 intro AM s σ H x y v u Q I rx ry h;obtain⟨l,k,xs,rfl,rfl,hH,h1,h2,hz,q⟩:=h;cases rx;obtain⟨t,rfl⟩:=ry;obtain⟨z,its,n,r,hl,e⟩:=I.lstM hH;have AO:its.toArray.size*k.toNat<=sizeLine:=by rw[cJ,<-hl];exact hz
 have hcap:¬its.toArray.size*k.toNat>(2^63-1)/8:=by
  have:(sizeLine:Nat)<=(2^63-1)/8:=by decide
  lia
 have hfit:¬(!Builtin.List.listFitsIndex k)=true:=by
  rw[fitsIndex_both h1 h2];exact hZ
 have hlong:¬Builtin.List.listTooLong (its.toArray.size*k.toNat)=true:=by
  rw[zne AO];exact hZ
 have hnew:List.foldl (λx1 x2=>x1++x2) #[] (List.replicate (if its.toArray.isEmpty=true then 0 else k.toNat) its.toArray)=(List.replicate k.toNat its).flatten.toArray:=by
  have f0:∀m:Nat,List.foldl (λx1 x2=>x1++x2) #[] (List.replicate m its.toArray)=(List.replicate m its).flatten.toArray:=λm=>by
   have:=zlY its m [];rw[List.nil_append]at this;exact this
  rw[f0];cases its with
  |nil=>simp
  |cons a r'=>rw[if_neg (by simp)]
 refine wpAny_binaryOp_repeat_ref (T:="list") (U:="int") (by decide) ⟨_,e,rfl⟩ (λs'=>typeIs_int s' k t) noFill_list_mul F.fills_int_mul F.slot_int_rmul repeat_list F.slot_int_index.lookup
  (Mh F.slot_int_rmul (typeIs_int s k t) F.entry_int_rmul (F.args_int_rmul_2 _ _) (int___rmul___int_list k t l its.toArray n)
   ⟨e,rfl,⟨_,e,rfl⟩,Mh F.slot_list_mul ⟨_,e,rfl⟩ F.entry_list_mul (F.args_list_mul_2 _ _) (AutoListH.list___mul___list_int_3 l its.toArray n k t hfit hcap hlong) ⟨e,?_⟩⟩)
 rw[hnew];exact⟨.ref _,_,I.lnew (t':=s.toks) (r.rep k.toNat) (by rw[yA,Nl];exact hz),rfl,q _ I.fresh⟩
end
end L2
namespace Att
open PyProof.Rows PySem PySem.Calls PySem.W
theorem ziY {P:Params}{h:AK}:∀(ns:AA Int) (vs:AA AC),WellAll P h vs (ns.map WData.int)->IntsAre vs ns:=by
 intro ns
 induction ns with
 |nil=>
  intro vs w;rw[List.map_nil]at w;cases w;exact .nil
 |cons n ns ih=>
  intro vs w;rw[jJ]at w;cases w with
  |cons a b=>
   cases a;exact .cons _ _ (ih _ b)
theorem zpI {l:OpenLaw}{n:Nat}(hn:l.most=some n){P:Params}{h:AK}{args:AA WData}{vals:AA AC}(hpre:l.row.toRowW.claim.pre args=true)(hwl:WellAll P h vals args):
  ∃a vs ns,vals=[Value.ref a]/\args=[WData.list (ns.map WData.int)]/\h.get? a=some {cls:= .type "list",data:= .seq vs.toArray}/\IntsAre vs ns/\ns.length<=n:=by
 have hsh:WShape.hasAll [] args [.list .int]=true:=(pre_splitW hpre).1;have hc:l.pre.holds [] {args:=args}=true:=(pre_splitW hpre).2;obtain⟨d,r,rfl,h1,h2⟩:=hasAllW_cons hsh;obtain rfl:=hasAllW_nil h2;obtain⟨xs,rfl,h3⟩:=hasW_list h1;obtain⟨ns,rfl⟩:=items_int h3;have AO:ns.length<=n:=by
  unfold OpenLaw.pre at hc;have h4:(WTm.not (.lt (.lit (.int (n:Int))) (.len (.arg 0)))).holds [] {args:=[.list (ns.map .int)]}=true:=by
   have h4:=(holds_andW hc).1;rw[hn]at h4;exact h4
  have h5:=condW_of h4 (w_not (w_lt w_lit (w_len_list (w_arg rfl))));rw[cY]at h5;refine Nat.le_of_not_lt λq=>?_
  have q':(n:Int)<((ns.length:Nat):Int):=by lia
  first
   |(rw[iP q']at h5;exact AH h5 (by decide))
   |(simp at h5;lia)
 cases hwl with
 |cons w1 w2=>
  cases w2;cases w1 with
  |list ho hall=>exact⟨_,_,ns,rfl,rfl,ho,ziY ns _ hall,AO⟩
theorem zoA (l:OpenLaw)(args:AA WData):l.row.toRowW.claim.post args (.bool true) args=true:=
 postW_of (r:=l.row.toRowW) (X:=(true==true))
  (show WShape.has [] (.bool true) .bool=true by first|rfl|decide|simp[WShape.has,WShape.arms,WShape.armsAll])
  (show(WTm.eq .res (.lit (.bool true))).value [] {args:=args,res:=some (.bool true),after:=args}=some (.bool (true==true))from w_eq_bool (w_res rfl) w_lit) rfl
theorem attach_call {l:OpenLaw}{n:Nat}{q:AJ}{loose:AA Str}{XP:(Str->AB AC)->AK->Prop}{YP:World->AK->Prop}{d:DefRec}(hn:l.most=some n)(hdf:d.params.defaults=[])(call : ∀ (w : World) (s₀ s₁ : AE) (mg mb : Str -> AB AC) (fa : AD) (o : Obj) (pm cd doc : AC) (a : AD) (vs : AA AC) (ns : AA Int),
   Ground q loose [] XP w s₀ mg mb s₁.heap->YP w s₁.heap->
   s₁.heap.get? fa=some o->o.data= .func (docDef d.name d.params d.body d.scope pm cd doc)->s₁.heap.CodeRec cd d.name->mg d.name=some (.ref fa)->
   s₁.heap.get? a=some {cls:= .type "list",data:= .seq vs.toArray}->IntsAre vs ns->ns.length<=n->s₁.gens= #[]->
   codeAny (model l.prog w) callerA (.call (.ref fa) ⟨[.ref a],[]⟩) (λr s'=>r= .ok (.ret (.bool true))/\OldK s₁.heap s'.heap/\s'.os=s₁.os/\AllBare s'.gens) s₁):
  WalkO q loose XP YP l.row.toRowW d [] (λf vs=>PySem.call f vs):=by
 intro w s₀ s₁ mg mb G Y fa o pm cd doc dV kV ho hd hcd hD hmg hg args vals as hpre hlay hrd hwl hlo;obtain rfl:dV= .none:=Dflts.none hD hdf;obtain rfl:kV= .none:=Dflts.noKw hD;obtain⟨a,vs,ns,rfl,rfl,hobj,hints,AO⟩:=zpI hn hpre hwl;refine enter_call (codeAny_mono (call w s₀ s₁ mg mb fa o pm cd doc a vs ns G Y ho (fd_plain hd) hcd hmg hobj hints AO hg) λr s' hq=>?_);obtain⟨rfl,h2,h3,h4⟩:=hq;exact⟨.inl ⟨.bool true,.bool true,[],rfl,λ_=>rfl,.bool true,zoA l _,λ_=>⟨List.Pairwise.nil,λ_ hm=>(nomatch hm)⟩⟩,h2,h3,h4⟩
end Att
namespace L2
open PyProof.Rows PySem PySem.Spec
variable {w:World}{K:AF}{mg mb:Str->AB AC}{CX:World->xK}{k:Nat}{a f b:AD}{fd:FuncData}{x qual:Str}{sp:Sp}{vs:AA AC}{ns:AA Int}{l:W.OpenLaw}{q prog:AJ}{loose ps:AA Str}{XP:(Str->AB AC)->AK->Prop}{YP:World->AK->Prop}{d:DefRec}{oc d':AC}{osl:Array (AB AC)}{H:Hp}{xs:AA (AA bX×AD×AC)}{o:AB V}{u:AB AC}{kvs:AA (AA bX×V)}{y:V}{ks:AA bX}{h':AK}{A:Around}{E Q:AC->AE->Prop}{s:AE}
theorem Zh:∀{vs:AA AC} {ns:AA Int},IntsAre vs ns->Vals (ns.map V.int) vs
 |_,_,.nil=> .nil
 |_,_,.cons n t h=> .cons ⟨t,rfl⟩ (Zh h)
noncomputable def Eo (H:Hp):Prop:=∀b,H b=none\/∃o xs,H b=some (.frz o (.lst xs))
theorem mP {P:AJ}{CX:xK}{fa a:AD}{s₁:AE}(KX:K.In s₁.heap)(hns:s₁.heap.Ns AL mg)(hb:s₁.heap.Ns builtinsNs mb)(hbb:∀x:Str,x≠"__name__"->mb x=bootBuiltins x)(hlim:s₁.heap.NoLimit)(hg:s₁.gens= #[])(ha:s₁.heap.get? a=some {cls:= .type "list",data:= .seq vs.toArray})(hi:IntsAre vs ns)(hl:ns.length<=sizeLine)(hr:Room k callerA)(F:∀base:AK,K.In base->base.Ns AL mg->FnOk P w K mg base CX k fa fd [x] sp)(hbind:∀(s:AE) (u:AC),BindsTo s fd ⟨[u],[]⟩ [(x,u)])(hsp:∀H:Hp,Eo H->SqL K H a (ns.map V.int)->sp [.ref a] H (λv _=>v= .bl true) λ_ _ _=>False)(hCX:∀H e s',CX [] H s₁ (λ_ _ _=>False) e s'->False):
  codeAny (model P w) callerA (.call (.ref fa) ⟨[.ref a],[]⟩) (λr s'=>r= .ok (.ret (.bool true))/\OldK s₁.heap s'.heap/\s'.os=s₁.os/\AllBare s'.gens) s₁:=by
 have rv:=Zh hi;have lenV:=hi.length;have core:∀H:Hp,Eo H->SqL K H a (ns.map V.int)->HOk P w H s₁.heap->(∀b,H b≠none->b=a)->(H a≠none->K.lookup a=none)->
   codeAny (model P w) callerA (.call (.ref fa) ⟨[.ref a],[]⟩) (λr s'=>r= .ok (.ret (.bool true))/\OldK s₁.heap s'.heap/\s'.os=s₁.os/\AllBare s'.gens) s₁:=by
  intro H hO hS hok hA hK;have base_of:∀{b:AD} {o:Obj},s₁.heap.get? b=some o->H b=none->(iD s₁.heap H).get? b=some o:=λe n=>mM e n
  have noA:∀{b:AD} {o:Obj} {es:Array DictEntry} {ep:Nat},s₁.heap.get? b=some o->o.data= .dict es ep->H b=none:=λ{b o es ep} e d=>by
   cases q:H b with
   |none=>rfl
   |some u=>
    have e':b=a:=hA b (by rw[q];simp);subst e';rw[ha]at e;cases e;have d':Data.seq vs.toArray _=Data.dict es ep:=d;cases d'
  have nsK:∀{b:AD} {m:Str->AB AC},s₁.heap.Ns b m->(iD s₁.heap H).Ns b m:=λ{b m} ⟨o,es,ep,e,d,r⟩=>⟨o,es,ep,base_of e (noA e d),d,r⟩
  have hKb:K.In (iD s₁.heap H):=λb o e=>base_of (KX b o e) (by
   cases q:H b with
   |none=>rfl
   |some u=>
    have e':b=a:=hA b (by rw[q];simp);subst e';rw[hK (by rw[q];simp)]at e;cases e)
  have hM:Mod K mg (iD s₁.heap H):=⟨hKb,nsK hns,⟨mb,nsK hb,hbb⟩,let⟨mc,h1,h2⟩:=hlim;⟨mc,nsK h1,h2⟩⟩;have e0:Env0 P w K mg (iD s₁.heap H) callerA [] s₁ H:=⟨rfl,hM,λb o e=>Aq e,Nat.le_of_eq (zoF _ _),trivial,λb hb=>AH (show b∈([]:AA AD)from hb) (by simp),hok,.of_eq hg⟩;refine codeAny_mono ((F _ hKb (nsK hns)).run callerA [] s₁ H ⟨[.ref a],[]⟩ [.ref a] [.ref a] _ _ hr e0 (hbind s₁ (.ref a)) (.cons rfl .nil) (hsp H hO hS)) λr s' h=>?_
  cases r with
  |error e=>exact(hCX H e s' h).elim
  |ok fl=>
   cases fl with
   |next=>exact False.elim h
   |brk=>exact False.elim h
   |cont=>exact False.elim h
   |ret u=>
    obtain⟨v,H',os,bare,un,hok',r',q⟩:=h;have q':v= .bl true:=q;subst q';obtain rfl:u=Value.bool true:=r';refine⟨rfl,OldK.of_keep λb o e=>?_,os,bare⟩;cases q:H b with
    |none=>exact un.keep b o e q (by intro z;exact AH (show b∈([]:AA AD)from z) (by simp)) (by simp)
    |some u=>
     rcases hO b with z|⟨ob,xs,z⟩
     ·rw[q]at z;cases z
     ·have z2:=un.frzs b ob _ z;obtain⟨e1,_⟩:=hok b _ z;obtain⟨e2,_⟩:=hok' b _ z2;rw[e]at e1;cases e1;exact e2
 cases hk:K.lookup a with
 |some o=>
  have e:=KX a o hk;rw[ha]at e;cases e;refine core (λ_=>none) (λ_=> .inl rfl) (.inr ⟨_,vs.toArray,_,hk,rfl,rfl,rfl,by rw[cJ,lenV];exact hl,by simpa using rv⟩) (λb u z=>by have z':(none:AB HO)=some u:=z;cases z') (λb z=>AH rfl z) λz=>AH rfl z
 |none=>
  refine core (λb=>if b=a then some (.frz {cls:= .type "list",data:= .seq vs.toArray} (.lst (ns.map V.int)))else none) (λb=>?_) (.inl (.inr ⟨{cls:= .type "list",data:= .seq vs.toArray},if_pos rfl⟩)) (λb u z=>?_) (λb z=>?_) λ_=>hk
  ·by_cases hb:b=a
   ·exact .inr ⟨_,_,if_pos hb⟩
   ·exact .inl (if_neg hb)
  ·by_cases hb:b=a
   ·have z':=(if_pos hb).symm.trans z;cases z';subst hb;exact⟨ha,by rw[cY];exact hl,vs,_,rv,ha⟩
   ·have z':=(if_neg hb).symm.trans z;cases z'
  ·by_cases hb:b=a
   ·exact hb
   ·exact AH (if_neg hb) z
theorem zS {n k:Nat}{K:Params->AF}{sp:World->Sp}(hn:l.most=some n)(hn2:n<=sizeLine)(hdf:d.params.defaults=[])(hr:Room k callerA)(hY:∀(w:World) (h:AK),YP w h->(K w.params).In h)(F : ∀ (w : World) (mg : Str -> AB AC) (fa : AD) (h : AK), (K w.params).In h -> h.Ns AL mg -> mg d.name = some (.ref fa) ->
   ∃fd:FuncData,(∀(s:AE) (u:AC),BindsTo s fd ⟨[u],[]⟩ [(x,u)])/\
    ∀base:AK,(K w.params).In base->base.Ns AL mg->FnOk l.prog w (K w.params) mg base (CX w) k fa fd [x] (sp w))(hsp:∀(w:World) (H:Hp) (a:AD) (ns:AA Int),ns.length<=n->Eo H->SqL (K w.params) H a (ns.map V.int)->sp w [.ref a] H (λv _=>v= .bl true) λ_ _ _=>False)(hCX:∀(w:World) (H:Hp) (s:AE) (e:AC) (s':AE),CX w [] H s (λ_ _ _=>False) e s'->False):
  W.WalkO q loose XP YP l.row.toRowW d [] (λf vs=>PySem.call f vs):=by
 refine Att.attach_call hn hdf λw s₀ s₁ mg mb fa o pm cd doc a vs ns G Y ho hd hcd hmg hobj hints AO hg=>?_
 have KX:=hY w _ Y;obtain⟨fd,hb,hF⟩:=F w mg fa _ KX G.T.g hmg;exact mP KX G.T.g G.T.b G.T.builtins G.T.nolimit hg hobj hints (jE AO hn2) hr hF hb (λH hO hS=>hsp w H a ns AO hO hS) λH e s'=>hCX w H s₁ e s'
noncomputable def zf8 (s:Stmt):Arguments:=match s with
 | .FunctionDef _ a _ _ _ _ _ _ _ _=>a
 |_=>{posonlyargs:=[],args:=[],vararg:=none,kwonlyargs:=[],kw_defaults:=[],kwarg:=none,defaults:=[]}
noncomputable def zcN (s:Stmt):AA Stmt:=match s with
 | .FunctionDef _ _ b _ _ _ _ _ _ _=>b
 |_=>[]
noncomputable def zaT (s:Stmt):Scope:=match s with
 | .FunctionDef _ _ _ _ _ _ sc _ _ _=>sc
 |_=>{kind:= .function,names:=[],isGenerator:=false,isCoroutine:=false}
noncomputable abbrev jI:xK:=λ_ _ _ _ _ _=>False
noncomputable abbrev E0:XK:=λ_ _ _=>False
theorem Oe {X:Cx}:zol jI X E0:=λ_ _ _ _ _ _ _ h=>h.elim
structure Fun (K:W.Frag)(x qual:Str)(st:Stmt)(f:Addr)(fd:FuncData):Prop where
 ex:∃(oc:Value) (od:Option Addr) (kV doc pm:Value) (an:Option Addr) (cdv ct:Value) (osl:Array (Option Value)),
  fd=W.fnOf x qual (zf8 st) (zcN st) (zaT st) .none kV doc pm an cdv ct/\K.lookup f=some ⟨oc,od,.func fd,osl⟩/\W.codeIn K cdv qual=true
 kp:W.keepIn K (.ref f)=true
section
variable {P:AJ}{w:World}{K:AF}{mg:Str->AB AC}{base:AK}
theorem Fun.ok {st:Stmt}{N ps:AA Str}(F:Fun K x qual st f fd)(S:FnScope N ps (zaT st))(len:∀vs H Q E,sp vs H Q E->vs.length=ps.length)(hbody : ∀ (cdv : AC) (A : Around) (outer : AA Env) (s : AE) (H : Hp) (vs : AA V) (Q : VK) (E : XK), Room k (A.deeper (envOfC qual (zaT st) s.heap.objs.size f cdv)) -> sp vs H Q E ->
   ∃t,PSs (gR jI P w K mg base N qual (zaT st) f cdv A outer s H E).nox (zcN st) t/\t {nx:=λ_ H'=>Q .non H',rt:=Q} (start N vs) H):FnOk P w K mg base jI (k+1) f fd ps sp:=by
 obtain⟨oc,od,kV,doc,pm,an,cdv,ct,osl,rfl,lk,hcd⟩:=F.ex;refine Oj lk hcd S len λA outer s H vs Q E hr hsp=>?_
 obtain⟨t,h,q⟩:=hbody cdv A outer s H vs Q E hr hsp;exact⟨t,h.nox,q⟩
theorem Fun.binds {st:Stmt}(F:Fun K x qual st f fd)(h:∀(kV doc pm:AC) (an:AB AD) (cdv ct:AC) (us:AA AC),us.length=ps.length->bindArgs (W.fnOf x qual (zf8 st) (zcN st) (zaT st) .none kV doc pm an cdv ct) ⟨us,[]⟩=pure (ps.zip us)):Binds K fd ps []:=by
 obtain⟨oc,od,kV,doc,pm,an,cdv,ct,osl,rfl,lk,hcd⟩:=F.ex;exact .all (h kV doc pm an cdv ct)
theorem Fy {st:Stmt}{od an:AB AD}{kV doc pm cdv ct:AC}(l:K.lookup f=some ⟨oc,od,.func (W.fnOf x qual (zf8 st) (zcN st) (zaT st) .none kV doc pm an cdv ct),osl⟩)(c:W.codeIn K cdv qual=true)(k:W.keepIn K (.ref f)=true):Fun K x qual st f (W.fnOf x qual (zf8 st) (zcN st) (zaT st) .none kV doc pm an cdv ct):=⟨⟨oc,od,kV,doc,pm,an,cdv,ct,osl,rfl,l,c⟩,k⟩
end
noncomputable def Same (H H':Hp):Prop:=∀b o,H b=some o->H' b=some o
theorem Same.seq {H H':Hp}{xs:AA V}(e:Same H H')(h:SqL K H a xs):SqL K H' a xs:=by
 rcases h with(h|⟨o,h⟩)|h
 ·exact .inl (.inl (e _ _ h))
 ·exact .inl (.inr ⟨o,e _ _ h⟩)
 ·exact .inr h
section
variable {κ:Type}[DecidableEq κ]
noncomputable def fZ (kvs:AA (κ×V))(k:κ):AB V:=(kvs.find? λkv=>decide (kv.1=k)).map (·.2)
noncomputable def fU (kvs:AA (κ×V))(k:κ)(v:V):AA (κ×V):=
 if(kvs.any λkv=>decide (kv.1=k))=true then kvs.map (λkv=>if kv.1=k then(kv.1,v)else kv)else kvs++[(k,v)]
theorem zkV {p:κ×V}{r:AA (κ×V)}{k:κ}(e:p.1=k):fZ (p::r) k=some p.2:=by simp[fZ,Yz,e]
theorem Vx {p:κ×V}{r:AA (κ×V)}{k:κ}(e:¬p.1=k):fZ (p::r) k=fZ r k:=by simp[fZ,Yz,e]
theorem znm (k:κ):∀kvs:AA (κ×V),(kvs.any λkv=>decide (kv.1=k))=(fZ kvs k).isSome
 |[]=>rfl
 |p::r=>by
  rw[Nu]
  by_cases e:p.1=k
  ·simp only[zkV e,iP e,Bool.true_or,Option.isSome_some]
  ·rw[Vx e,mG e,Bool.false_or];exact znm k r
theorem zmk (kvs:AA (κ×V))(k:κ)(v:V):(fU kvs k v).length<=kvs.length+1:=by
 unfold fU
 split
 ·rw[cY];lia
 ·rw[eB,eW,Zd];lia
theorem RelO.isSome_eq (r:RelO o u):o.isSome=u.isSome:=by
 cases o with
 |none=>cases u with
  |none=>rfl
  |some _=>exact(show False from r).elim
 |some _=>cases u with
  |none=>exact(show False from r).elim
  |some _=>rfl
theorem RelO.getD {d:V}(r:RelO o u)(rd:RelV d d'):RelV (o.getD d) (u.getD d'):=by
 cases o with
 |none=>cases u with
  |none=>exact rd
  |some _=>exact(show False from r).elim
 |some _=>cases u with
  |none=>exact(show False from r).elim
  |some _=>exact r
end
theorem Uc {P:AJ}{k:bX}{u:AC}(r:RelV (kV k) u):(jW P w).is k u=true:=by
 cases k with
 |inl i=>obtain⟨t,e⟩:=(show ∃t,u=Value.int i t from r);subst e;exact zmq P w i t
 |inr x=>obtain⟨t,e⟩:=(show ∃t,u=Value.str x t from r);subst e;exact zmc P w x t
theorem zk8 {P:AJ}:∀{ks:AA bX} {us:AA AC},Vals (ks.map kV) us->ItemsAre (jW P w) ks us
 |[],_,r=>by rw[List.map_nil]at r;cases r;exact .nil
 |k::ks,_,r=>by
  rw[jJ]at r;cases r with
  |cons h t=>exact .cons (Uc h) (zk8 t)
noncomputable abbrev KT (H:Hp):AA (AA bX×V)->AA (AA bX×AD×AC)->Prop:=Paired λp q=>p.1=q.1/\H q.2.1=some (.tup (p.1.map kV))/\RelV p.2 q.2.2
theorem KT.val (r:KT H kvs xs)(k:AA bX):RelO (fZ kvs k) ((atKey xs k).map (·.2)):=by
 induction r with
 |nil=>exact True.intro
 | @cons p q ps qs h t ih=>
  obtain⟨h1,_,h2⟩:=h
  by_cases e:p.1=k
  ·have e':q.1=k:=h1.symm.trans e;have b:atKey (q::qs) k=some q.2:=by simp[atKey,Yz,e']
   rw[zkV e,b];exact h2
  ·have e':¬q.1=k:=λz=>e (h1.trans z)
   have b:atKey (q::qs) k=atKey qs k:=by simp[atKey,Yz,e']
   rw[Vx e,b];exact ih
theorem KT.repl (r:KT H kvs xs)(k:AA bX){u:AC}(ry:RelV y u):
  KT H (kvs.map λkv=>if kv.1=k then(kv.1,y)else kv) (xs.map (putAt k u)):=by
 induction r with
 |nil=>exact .nil
 | @cons p q ps qs h t ih=>
  rw[jJ,jJ];refine .cons ?_ ih;obtain⟨h1,h2,h3⟩:=h;unfold putAt
  by_cases e:p.1=k
  ·rw[if_pos e,if_pos (h1.symm.trans e)];exact⟨h1,h2,ry⟩
  ·rw[if_neg e,if_neg (λz=>e (h1.trans z))];exact⟨h1,h2,h3⟩
theorem KT.put (r:KT H kvs xs)(k:AA bX){u:AC}(hb:H b=some (.tup (k.map kV)))(ry:RelV y u):
  KT H (fU kvs k y) (storedH xs k b u):=by
 have e:(kvs.any λkv=>decide (kv.1=k))=(atKey xs k).isSome:=by
  rw[znm,(r.val k).isSome_eq,Option.isSome_map]
 unfold fU storedH;rw[e]
 by_cases q:(atKey xs k).isSome=true
 ·rw[if_pos q,if_pos q];exact r.repl k ry
 ·rw[if_neg q,if_neg q];exact Paired.snoc r ⟨rfl,hb,ry⟩
section
variable {P:AJ}{w:World}{H:Hp}{h:AK}{a:AD}
theorem Xe (ok:HOk P w H h)(e:H a=some (.tup (ks.map kV))):(tupleKind (jW P w)).is h ks a:=by
 obtain⟨_,its,r,o,h1,h2,n,h3⟩:=(show ObjOk P w H h a (.tup (ks.map kV))from ok a _ e);exact⟨o,its.toArray,n,h1,h2,h3,by simpa using zk8 r⟩
end
section
variable {X:Cx}{AM:AA (AD×Obj)}{σ:St}{H:Hp}{s:AE}{a:AD}{y v:V}{u r:AC}{o:AB V}{A:Around}{E:AC->AE->Prop}
theorem Inv.big (I:Inv X AM σ H s):sysModules<s.heap.objs.size:=by
 have h:AL<s.heap.objs.size:=(I.mod.glob.keeps I.bk).lt;exact Nat.lt_trans (by decide) h
theorem wZ {t':Nat}{ob:HO}(I:Inv X AM σ H s)(mu:Sm (H a))(hs:Heap.SameBut a s.heap h')(he:∃q,h'.get? a=some q)(new:ObjOk X.prog X.w (upd H a ob) h' a ob):
  Inv X AM σ (upd H a ob) {s with heap:=h',toks:=t'}:=
 I.write (x:=a) (e:=a) mu (.inl rfl) (λb q hb z=>(hs.2 b hb).trans z) he new
end
noncomputable def Gu (i:AI):Prop:=∀ov iv,subscripted i false ov iv=operate [ov,iv] (getItem ov iv)
theorem xJ {env:Env}{value slice:AI}{pos:Pos}{T id:String}(hl:typeLookup (.type T) "__getitem__"=pure (some (.builtin id)))(hs:Gu slice)(h:AG (model prog w) A (eval value env) (λo s₁=>AG (model prog w) A (eval slice env) (λi s₂=>s₂.TypeIs o T/\AG (model prog w) A (getItem o i) Q E s₂) E s₁) E s):
  AG (model prog w) A (eval (.Subscript value slice pos) env) Q E s:=by
 refine Subscript_ (lY h (λo s₁ h₁=>lY h₁ (λi s₂ h₂=>?_) λ_ _ x=>x) λ_ _ x=>x);obtain⟨hT,h₂⟩:=h₂;unfold subscriptTail;refine aJ ?_;rw[getitemInPython_of_ne hT.not_modules];refine aJ (wpAny_specialOf hT hl ?_);have fin:AG (model prog w) A (subscripted slice false o i) (λr s₃=>AG (model prog w) A (letTemporaryGo value o r>>=λ_=>pure r) Q E s₃) E s₂:=by
  rw[hs o i];exact wpAny_operating (lY h₂ (λr s₃ h₃=>aJ (wpAny_letTemporaryGo (qaB h₃))) λ_ _ x=>x)
 first
  |exact qaB (aJ fin)
  |exact aJ (qaB (aJ fin))
  |exact aJ fin
structure M2 (X:Cx)(o:Expr)(m:Str)(apos:Pos)(e f:Expr)(cpos:Pos):Prop where
 base:attributeBase o m X.env (eval o X.env)=eval o X.env
 few:((backTo cpos (starEach [e,f] X.env)).all (λx=>!x.1)&&(backToKw cpos (keywordEach [] X.env)).all (λx=>x.1.isSome)
  &&decide (([e,f]:List Expr).length+([]:List Keyword).length+(if([]:List Keyword).isEmpty then 0 else 1)<30))=true
 line:(apos.endLine==cpos.line)=true
 trees:backTo cpos (starEach [e,f] X.env)=[(false,eval e X.env),(false,eval f X.env)]
end L2
namespace M
open L2 PySem
variable {C:Prop}{c:Ch}{G G' H:Hp}{a p l:AD}{o:Obj}{xs ys:AA V}{ks:AA (AA Int)}{A A':AA AD}{K:AF}{x v:V}{d:D}{ds es:AA D}{i:Nat}{ls:AA (AA D)}{dk:AB (AA Int×AA D)}{t:T}{ov:AB (AB V)}{s:Sl}{X:Cx}{e:AI}{m:MO}{ρ ρ':R}{b:Bool}{f:D->D->AB D}{ma:ME}{op:Operator}{r:V->Hp->VK->Prop}{g:D->AB D}
theorem aM {α β:Type}{o:AB α}{f:α->AB β}{b:β}(h:o.bind f=some b)(k:∀a,o=some a->f a=some b->C):C:=by
 cases o with
 |none=>cases h
 |some a=>exact k a rfl h
theorem bN {α α' β:Type}{o:AB (α×α')}{f:α×α'->AB β}{b:β}(h:o.bind f=some b)(k:∀x y,o=some (x,y)->f (x,y)=some b->C):C:=aM h λa=>k a.1 a.2
theorem dE {α β:Type}{o:AB α}{f:α->β}{b:β}(h:o.map f=some b)(k:∀a,o=some a->f a=b->C):C:=by
 cases o with
 |none=>cases h
 |some a=>exact k a rfl (Option.some.inj h)
theorem gZ {α α' β:Type}{o:AB (α×α')}{f:α×α'->β}{b:β}(h:o.map f=some b)(k:∀x y,o=some (x,y)->f (x,y)=b->C):C:=dE h λa=>k a.1 a.2
theorem aK {α:Type}{a:α}(h:none=some a):C:=by cases h
theorem bM {α β:Type}{a c:α}{b d:β}(h:some (a,b)=some (c,d)):a=c/\b=d:=by cases h;exact⟨rfl,rfl⟩
theorem bC {α:Type}{c:Prop}[Decidable c]{a:AB α}{b:α}(h:(if c then a else none)=some b)(k:c->a=some b->C):C:=by
 by_cases z:c
 ·rw[if_pos z]at h;exact k z h
 ·rw[if_neg z]at h;exact aK h
inductive D where
 |non|bl (b:Bool)|int (i:Int)|str (x:Str)|lst (ds:List D)|tup (ds:List D)|scr (ns:List Int)|exc (c:Str)|dic (ks:List Int) (ds:List D)|dit (ks:List (List Int)) (ds:List D)|obj (c:Str) (ns:List Str) (ls:List D) (ks:List Int) (ds:List D)
noncomputable def Rc (a C:AD)(h:AK):Prop:=∃o,h.get? a=some o/\o.cls= .ref C
noncomputable def kI (n:Int):bX:=Sum.inl n
noncomputable def kn (a:AD)(o:Obj):HO:= .ext (λh=>h.get? a=some o)
noncomputable def hI:bX->Int
 | .inl k=>hashInt k
 | .inr _=>0
noncomputable def DtN (o:Obj)(xs:AA (AA bX×AD×AC)):Prop:=o.ExactDict/\(∃es ep,o.data= .dict es ep/\es.toList=xs.map λx=>⟨reduceHash (Builtin.Tuple.tupleHashOf (x.1.map hI)),.ref x.2.1,x.2.2⟩)/\(xs.map (·.1)).Nodup
structure DtI (G:Hp)(a:Addr)(o:Obj)(xs:List (List bX×Addr×Value))(ks:List (List Int))(ys:List (List bX×V)):Prop where
 sys:(a==sysModules)=false
 dn:DtN o xs
 len:ys.length<=sizeLine
 key:ys.map (·.1)=ks.map (·.map kI)
 kt:Paired (λ(p:List bX×V) (q:List bX×Addr×Value)=>p.1=q.1/\G q.2.1=some (.tup (p.1.map kV))/\RelV p.2 q.2.2) ys xs
structure DkN (a:Addr)(o:Obj)(zs:List (Int×Tok×Value))(ks:List Int)(ys:List (bX×V)):Prop where
 sys:(a==sysModules)=false
 ex:o.ExactDict
 dat:∃es ep,o.data= .dict es ep/\es.toList=zs.map λz=>⟨hashInt z.1,.int z.1 z.2.1,z.2.2⟩
 nd:ks.Nodup
 len:ys.length<=sizeLine
 zk:zs.map (·.1)=ks
 key:ys.map (·.1)=ks.map kI
 kv:Paired (λ(p:bX×V) (q:Int×Tok×Value)=>p.1=kI q.1/\RelV p.2 q.2.2) ys zs
mutual
noncomputable def RepD (K:W.Frag)(G:Hp)(v:V):D->Prop
 | .non=>v= .non
 | .bl b=>v= .bl b
 | .int i=>v= .int i
 | .str x=>v= .str x
 | .lst ds=>∃a xs,v= .ref a/\G a=some (.lst xs)/\RepL K G xs ds
 | .tup ds=>∃a xs,v= .ref a/\G a=some (.tup xs)/\RepL K G xs ds
 | .scr ns=>∃a,v= .ref a/\SqL K G a (ns.map V.int)
 | .exc c=>∃a C,v= .ref a/\W.nsIn K mainGlobals c=some (some (.ref C))/\G a=some (.ext (Rc a C))
 | .dic ks ds=>∃a ys,v= .ref a/\Rd G a (.dK ys)/\ys.map (·.1)=ks.map kI/\RepL K G (ys.map (·.2)) ds
 | .dit ks ds=>∃a ys o xs,v= .ref a/\G a=some (kn a o)/\DtI G a o xs ks ys/\RepL K G (ys.map (·.2)) ds
 | .obj c ns ls ks ds=>∃a C dx vs ws p o zs ys,v= .ref a/\W.nsIn K mainGlobals c=some (some (.ref C))/\G a=some (.ins C dx vs)/\vs.map (·.1)=ns/\vs.map (·.2)=ws++[.ref p]/\RepL K G ws ls/\G p=some (kn p o)/\DkN p o zs ks ys/\RepL K G (ys.map (·.2)) ds
noncomputable def RepL (K:W.Frag)(G:Hp)(xs:List V):List D->Prop
 |[]=>xs=[]
 |d::ds=>∃x ys,xs=x::ys/\RepD K G x d/\RepL K G ys ds
end
noncomputable def Fz (G H:Hp):Prop:=∀a o,G a=some o->H a=some o
theorem DtI.mono {xs:AA (AA bX×AD×AC)}{ys:AA (AA bX×V)}(d:DtI G a o xs ks ys)(h:Fz G G'):DtI G' a o xs ks ys:={d with kt:=Paired.mapP d.kt λ_ _ z=>⟨z.1,h _ _ z.2.1,z.2.2⟩}
theorem Fz.refl (G:Hp):Fz G G:=λ_ _ h=>h
theorem Fz.trans {A B C:Hp}(h:Fz A B)(k:Fz B C):Fz A C:=λa o e=>k a o (h a o e)
theorem Fz.free (h:Fz G H)(e:H p=none):G p=none:=by
 cases q:G p with
 |none=>rfl
 |some o=>rw[h p o q]at e;cases e
theorem Fz.new (e:G p=none)(o:HO):Fz G (upd G p o):=λa u q=>by
 rw[bF (jU q e)];exact q
theorem Fz.upd2 (h:Fz G H)(p:AD)(o:HO):Fz (upd G p o) (upd H p o):=λa u q=>by
 by_cases e:a=p
 ·subst e;rw[dU]at q ⊢;exact q
 ·rw[bF e]at q ⊢;exact h a u q
theorem Fz.right (h:Fz G H)(e:G p=none)(o:HO):Fz G (upd H p o):=λa u q=>by
 rw[bF (jU q e)];exact h a u q
theorem Fz.sql {G H:Hp}(h:Fz G H)(q:SqL K G a xs):SqL K H a xs:=Same.seq (H:=G) (H':=H) h q
mutual
theorem RepD.mono (h:Fz G G'):∀{v:V} {d:D},RepD K G v d->RepD K G' v d:=by
 intro v d r;cases d with
 |lst _=>exact fV (λa=>fV λxs=>And.imp id (And.imp (h a _) (RepL.mono h))) r
 |tup _=>exact fV (λa=>fV λxs=>And.imp id (And.imp (h a _) (RepL.mono h))) r
 |scr _=>exact fV (λa=>And.imp id h.sql) r
 |exc _=>exact fV (λa=>fV λC=>And.imp id (And.imp id (h a _))) r
 |dic _ _=>exact fV (λa=>fV λys=>And.imp id (And.imp (Or.imp (h a _) (fV λo=>h a _)) (And.imp id (RepL.mono h)))) r
 |dit _ _=>exact fV (λa=>fV λys=>fV λo=>fV λxs=>And.imp id (And.imp (h a _) (And.imp (λf=>f.mono h) (RepL.mono h)))) r
 |obj _ _ _ _ _=>exact fV (λa=>fV λC=>fV λdx=>fV λvs=>fV λws=>fV λp=>fV λo=>fV λzs=>fV λys=>And.imp id (And.imp id (And.imp (h a _) (And.imp id (And.imp id (And.imp (RepL.mono h) (And.imp (h p _) (And.imp id (RepL.mono h))))))))) r
 |_=>exact r
theorem RepL.mono (h:Fz G G'):∀{xs:List V} {ds:List D},RepL K G xs ds->RepL K G' xs ds:=by
 intro xs ds r;cases ds with
 |nil=>exact r
 |cons _ _=>exact fV (λx=>fV λys=>And.imp id (And.imp (RepD.mono h) (RepL.mono h))) r
end
section
variable {K:AF}{G:Hp}
theorem RepL.nil:RepL K G [] []:=rfl
theorem RepL.cons {x:V}{d:D}(h:RepD K G x d)(t:RepL K G xs ds):RepL K G (x::xs) (d::ds):=⟨x,xs,rfl,h,t⟩
theorem RepL.length:∀{xs:AA V} {ds:AA D},RepL K G xs ds->xs.length=ds.length
 |_,[],e=>by cases e;rfl
 |_,_::_,⟨x,ys,e,_,r⟩=>by subst e;rw[eW,eW,RepL.length r]
theorem RepL.get:∀{xs:AA V} {ds:AA D} {i:Nat} {d:D},RepL K G xs ds->ds[i]? =some d->∃x,xs[i]? =some x/\RepD K G x d
 |_,[],_,_,_,h=>by simp at h
 |_,_::_,0,_,⟨x,ys,e,q,r⟩,h=>by subst e;simp at h;subst h;exact⟨x,rfl,q⟩
 |_,_::_,i+1,_,⟨x,ys,e,q,r⟩,h=>by
  subst e;obtain⟨y,h1,h2⟩:=RepL.get (i:=i) r (by simpa using h);exact⟨y,by simpa using h1,h2⟩
theorem RepL.append:∀{xs ys:AA V} {ds es:AA D},RepL K G xs ds->RepL K G ys es->RepL K G (xs++ys) (ds++es)
 |_,_,[],_,e,r=>by cases e;exact r
 |_,_,_::_,_,⟨x,zs,e,q,r⟩,s=>by subst e;exact⟨x,zs++_,rfl,q,RepL.append r s⟩
theorem RepL.snoc (h:RepL K G xs ds)(q:RepD K G x d):RepL K G (xs++[x]) (ds++[d]):=h.append (.cons q .nil)
theorem RepL.take:∀{xs:AA V} {ds:AA D} (n:Nat),RepL K G xs ds->RepL K G (xs.take n) (ds.take n)
 |_,_,0,_=>by simp;exact .nil
 |_,[],n+1,e=>by cases e;exact .nil
 |_,_::_,n+1,⟨x,zs,e,q,r⟩=>by subst e;exact⟨x,zs.take n,rfl,q,RepL.take n r⟩
theorem RepL.drop:∀{xs:AA V} {ds:AA D} (n:Nat),RepL K G xs ds->RepL K G (xs.drop n) (ds.drop n)
 |_,_,0,r=>by simpa using r
 |_,[],n+1,e=>by cases e;exact .nil
 |_,_::_,n+1,⟨x,zs,e,q,r⟩=>by subst e;exact RepL.drop n r
theorem RepL.set:∀{xs:AA V} {ds:AA D} (i:Nat) {x:V} {d:D},RepL K G xs ds->RepD K G x d->RepL K G (xs.set i x) (ds.set i d)
 |_,[],_,_,_,e,_=>by cases e;exact .nil
 |_,_::_,0,_,_,⟨x,zs,e,q,r⟩,h=>by subst e;exact⟨_,zs,rfl,h,r⟩
 |_,_::_,i+1,_,_,⟨x,zs,e,q,r⟩,h=>by subst e;exact⟨x,_,rfl,q,RepL.set i r h⟩
theorem RepL.rep (h:RepL K G xs ds):∀k:Nat,RepL K G (List.replicate k xs).flatten (List.replicate k ds).flatten
 |0=> .nil
 |k+1=>by rw[mE,mE,Bv,Bv];exact h.append (RepL.rep h k)
theorem RepL.ints:∀(ns:AA Int),RepL K G (ns.map V.int) (ns.map D.int)
 |[]=> .nil
 |n::ns=>⟨.int n,ns.map V.int,rfl,rfl,RepL.ints ns⟩
theorem RepL.ints_eq:∀{ns:AA Int} {xs:AA V},RepL K G xs (ns.map D.int)->xs=ns.map V.int
 |[],_,e=>e
 |n::ns,_,⟨x,ys,e,q,r⟩=>by subst e;cases(show x=V.int n from q);rw[RepL.ints_eq r];rfl
theorem RepL.at {i:Int}(h:RepL K G xs ds)(e:atI ds i=some d):∃x,atI xs i=some x/\RepD K G x d:=by
 unfold atI at e ⊢;rw[h.length];cases q:cB ds.length i with
 |none=>rw[q]at e;exact aK e
 |some j=>rw[q]at e;exact h.get e
end
inductive Ch where
 |d (x:D)|l (xs:List D)|t (xss:List (List D))
inductive T where
 |lst (cs:List Ch)|tup (cs:List Ch)|ins (c:Str) (fs:List (Str×Ch))|dic (ks:List Int) (ds:List D)|dit (ks:List (List Int)) (ds:List D)|obj (c:Str) (ns:List Str) (ls:List (List D)) (dk:Option (List Int×List D))
inductive Sl where
 |emp|val (d:D)|own (ds:List D)|par (ds:List D)|two (ds es:List D)|tre (t:T)|ptr (t:T)
noncomputable abbrev R:=AA Sl
noncomputable def Sl.items:Sl->AB (AA D)
 | .own ds=>some ds
 | .par ds=>some ds
 |_=>none
structure Bs where
 G:Hp
 H:Hp
 O:List (Nat×Addr)
noncomputable def RepTb (K:AF)(G H:Hp):AA V->AA (AA D)->AA AD->Prop
 |[],[],A=>A=[]
 |x::xs,ds::dss,A=>∃r ys A2,x= .ref r/\H r=some (.lst ys)/\RepL K G ys ds/\RepTb K G H xs dss A2/\A=r::A2
 |_,_,_=>False
noncomputable def RepC (K:AF)(G H:Hp)(x:V):Ch->AA AD->Prop
 | .d y,A=>RepD K G x y/\A=[]
 | .l ds,A=>∃l xs,x= .ref l/\H l=some (.lst xs)/\RepL K G xs ds/\A=[l]
 | .t xss,A=>∃p xs A',x= .ref p/\H p=some (.lst xs)/\RepTb K G H xs xss A'/\A=p::A'
noncomputable def RepCs (K:AF)(G H:Hp):AA V->AA Ch->AA AD->Prop
 |[],[],A=>A=[]
 |x::xs,c::cs,A=>∃A1 A2,RepC K G H x c A1/\RepCs K G H xs cs A2/\A=A1++A2
 |_,_,_=>False
noncomputable def RepO (K:AF)(G H:Hp)(xs:AA V)(ls:AA (AA D)):AB (AA Int×AA D)->AA AD->Prop
 |none,A=>RepTb K G H xs ls A
 |some q,A=>∃ws p o zs ys A',xs=ws++[.ref p]/\RepTb K G H ws ls A'/\H p=some (kn p o)/\DkN p o zs q.1 ys/\RepL K G (ys.map (·.2)) q.2/\A=A'++[p]
noncomputable def RepT (K:AF)(G H:Hp)(v:V):T->AA AD->Prop
 | .lst cs,A=>∃p xs A',v= .ref p/\H p=some (.lst xs)/\RepCs K G H xs cs A'/\A=p::A'
 | .tup cs,A=>∃p xs A',v= .ref p/\H p=some (.tup xs)/\RepCs K G H xs cs A'/\A=p::A'
 | .ins c fs,A=>∃p C dx vs A',v= .ref p/\W.nsIn K AL c=some (some (.ref C))/\H p=some (.ins C dx vs)/\H dx=some (.own p)/\vs.map (·.1)=fs.map (·.1)/\RepCs K G H (vs.map (·.2)) (fs.map (·.2)) A'/\A=p::dx::A'
 | .dic ks ds,A=>∃p ys,v= .ref p/\H p=some (.dK ys)/\ys.map (·.1)=ks.map kI/\RepL K G (ys.map (·.2)) ds/\A=[p]
 | .dit ks ds,A=>∃p ys o xs,v= .ref p/\H p=some (kn p o)/\DtI G p o xs ks ys/\RepL K G (ys.map (·.2)) ds/\A=[p]
 | .obj c ns ls dk,A=>∃p C dx vs A',v= .ref p/\W.nsIn K AL c=some (some (.ref C))/\H p=some (.ins C dx vs)/\H dx=some (.own p)/\vs.map (·.1)=ns/\RepO K G H (vs.map (·.2)) ls dk A'/\A=p::dx::A'
section
variable {K:AF}{G G' H H':Hp}
theorem RepTb.move:∀{xs:AA V} {dss:AA (AA D)} {A:AA AD},RepTb K G H xs dss A->Fz G G'->(∀a∈A,H' a=H a)->RepTb K G' H' xs dss A
 |[],[],_,h,_,_=>h
 |x::xs,ds::dss,A,⟨r,ys,A2,e1,e2,e3,e4,e5⟩,hg,hh=>⟨r,ys,A2,e1,by rw[hh r (by rw[e5];simp)];exact e2,e3.mono hg,e4.move hg λa m=>hh a (by rw[e5];simp[m]),e5⟩
 |[],_::_,_,h,_,_=>h.elim
 |_::_,[],_,h,_,_=>h.elim
theorem RepTb.det:∀{xs:AA V} {dss:AA (AA D)} {A A':AA AD},RepTb K G H xs dss A->RepTb K G' H' xs dss A'->A=A'
 |[],[],_,_,h,h'=>by rw[show _=[]from h,show _=[]from h']
 |x::xs,ds::dss,_,_,⟨r,ys,A2,e1,_,_,e4,e5⟩,⟨r',ys',A2',e1',_,_,e4',e5'⟩=>by
  rw[e1]at e1';cases e1';rw[e5,e5',e4.det e4']
 |[],_::_,_,_,h,_=>h.elim
 |_::_,[],_,_,h,_=>h.elim
theorem RepTb.here:∀{xs:AA V} {dss:AA (AA D)} {A:AA AD},RepTb K G H xs dss A->∀{a:AD},a∈A->∃xs,H a=some (.lst xs)
 |[],[],_,h,a,m=>by rw[show _=[]from h]at m;cases m
 |x::xs,ds::dss,_,⟨r,ys,A2,e1,e2,_,e4,e5⟩,a,m=>by
  rw[e5]at m;rcases qam.mp m with rfl|m
  ·exact⟨ys,e2⟩
  ·exact e4.here m
 |[],_::_,_,h,_,_=>h.elim
 |_::_,[],_,h,_,_=>h.elim
theorem RepO.move (h:RepO K G H xs ls dk A)(hg:Fz G G')(hh:∀a∈A,H' a=H a):RepO K G' H' xs ls dk A:=by
 cases dk with
 |none=>exact RepTb.move h hg hh
 |some q=>
  obtain⟨ws,p,o,zs,ys,A',e,r,q1,q2,q3,rfl⟩:=h;exact⟨ws,p,o,zs,ys,A',e,r.move hg λa m=>hh a (by simp[m]),by rw[hh p (by simp)];exact q1,q2,q3.mono hg,rfl⟩
theorem RepO.det (h:RepO K G H xs ls dk A)(h':RepO K G' H' xs ls dk A'):A=A':=by
 cases dk with
 |none=>exact RepTb.det h h'
 |some q=>
  obtain⟨ws,p,_,_,ys,B,e,r,_,_,_,rfl⟩:=h;obtain⟨ws',p',_,_,ys',B',e',r',_,_,_,rfl⟩:=h';rw[e]at e';obtain⟨rfl,q2⟩:=List.append_inj' e' rfl;cases q2;rw[r.det r']
theorem RepO.here (h:RepO K G H xs ls dk A)(m:a∈A):(∃xs,H a=some (.lst xs))\/∃o,H a=some (kn a o):=by
 cases dk with
 |none=>exact .inl (RepTb.here h m)
 |some q=>
  obtain⟨ws,p,o,zs,ys,B,e,r,q1,_,_,rfl⟩:=h;rcases qan.mp m with m|m
  ·exact .inl (r.here m)
  ·simp at m;subst m;exact .inr ⟨o,q1⟩
theorem RepC.move (h:RepC K G H x c A)(hg:Fz G G')(hh:∀a∈A,H' a=H a):RepC K G' H' x c A:=by
 cases c with
 |d y=>exact⟨h.1.mono hg,h.2⟩
 |l ds=>obtain⟨l,xs,e,q,r,rfl⟩:=h;exact⟨l,xs,e,by rw[hh l (by simp)];exact q,r.mono hg,rfl⟩
 |t xss=>obtain⟨p,xs,A',e,q,r,rfl⟩:=h;exact⟨p,xs,A',e,by rw[hh p (by simp)];exact q,r.move hg λa m=>hh a (by simp[m]),rfl⟩
theorem RepCs.move:∀{xs:AA V} {cs:AA Ch} {A:AA AD},RepCs K G H xs cs A->Fz G G'->(∀a∈A,H' a=H a)->RepCs K G' H' xs cs A
 |[],[],_,h,_,_=>h
 |x::xs,c::cs,A,⟨A1,A2,h1,h2,e⟩,hg,hh=>⟨A1,A2,h1.move hg λa m=>hh a (by rw[e];exact kZ _ m),h2.move hg λa m=>hh a (by rw[e];exact eX _ m),e⟩
 |[],_::_,_,h,_,_=>h.elim
 |_::_,[],_,h,_,_=>h.elim
theorem RepT.move (h:RepT K G H v t A)(hg:Fz G G')(hh:∀a∈A,H' a=H a):RepT K G' H' v t A:=by
 cases t with
 |lst cs=>obtain⟨p,xs,A',e,q,r,rfl⟩:=h;exact⟨p,xs,A',e,by rw[hh p (by simp)];exact q,r.move hg λa m=>hh a (by simp[m]),rfl⟩
 |tup cs=>obtain⟨p,xs,A',e,q,r,rfl⟩:=h;exact⟨p,xs,A',e,by rw[hh p (by simp)];exact q,r.move hg λa m=>hh a (by simp[m]),rfl⟩
 |ins c fs=>obtain⟨p,C,dx,vs,A',e,n,q,q2,f,r,rfl⟩:=h;exact⟨p,C,dx,vs,A',e,n,by rw[hh p (by simp)];exact q,by rw[hh dx (by simp)];exact q2,f,r.move hg λa m=>hh a (by simp[m]),rfl⟩
 |dic ks ds=>obtain⟨p,ys,e,q,f,r,rfl⟩:=h;exact⟨p,ys,e,by rw[hh p (by simp)];exact q,f,r.mono hg,rfl⟩
 |dit ks ds=>obtain⟨p,ys,o,xs,e,q,f,r,rfl⟩:=h;exact⟨p,ys,o,xs,e,by rw[hh p (by simp)];exact q,f.mono hg,r.mono hg,rfl⟩
 |obj c ns ls dk=>obtain⟨p,C,dx,vs,A',e,n,q,q2,f,r,rfl⟩:=h;exact⟨p,C,dx,vs,A',e,n,by rw[hh p (by simp)];exact q,by rw[hh dx (by simp)];exact q2,f,r.move hg λa m=>hh a (by simp[m]),rfl⟩
theorem RepC.det (h:RepC K G H x c A)(h':RepC K G' H' x c A')(hh:∀a∈A,H' a=H a):A=A':=by
 cases c with
 |d y=>rw[h.2,h'.2]
 |l ds=>obtain⟨l,xs,e,_,_,rfl⟩:=h;obtain⟨l',xs',e',_,_,rfl⟩:=h';rw[e]at e';cases e';rfl
 |t xss=>
  obtain⟨p,xs,B,e,q,r,rfl⟩:=h;obtain⟨p',xs',B',e',q',r',rfl⟩:=h';rw[e]at e';cases e';rw[hh p (by simp),q]at q';cases q';rw[r.det r']
theorem RepCs.det:∀{xs:AA V} {cs:AA Ch} {A A':AA AD},RepCs K G H xs cs A->RepCs K G' H' xs cs A'->(∀a∈A,H' a=H a)->A=A'
 |[],[],_,_,h,h',_=>by rw[show _=[]from h,show _=[]from h']
 |x::xs,c::cs,_,_,⟨A1,A2,h1,h2,e⟩,⟨B1,B2,k1,k2,e'⟩,hh=>by rw[e,e',h1.det k1 λa m=>hh a (by rw[e];exact kZ _ m),h2.det k2 λa m=>hh a (by rw[e];exact eX _ m)]
 |[],_::_,_,_,h,_,_=>h.elim
 |_::_,[],_,_,h,_,_=>h.elim
theorem RepT.det (h:RepT K G H v t A)(h':RepT K G' H' v t A')(hh:∀a∈A,H' a=H a):A=A':=by
 cases t with
 |lst cs=>
  obtain⟨p,xs,B,e,q,r,rfl⟩:=h;obtain⟨p',xs',B',e',q',r',rfl⟩:=h';rw[e]at e';cases e';rw[hh p (by simp),q]at q';cases q';rw[r.det r' λa m=>hh a (by simp[m])]
 |tup cs=>
  obtain⟨p,xs,B,e,q,r,rfl⟩:=h;obtain⟨p',xs',B',e',q',r',rfl⟩:=h';rw[e]at e';cases e';rw[hh p (by simp),q]at q';cases q';rw[r.det r' λa m=>hh a (by simp[m])]
 |ins c fs=>
  obtain⟨p,C,dx,vs,B,e,n,q,q2,f,r,rfl⟩:=h;obtain⟨p',C',dx',vs',B',e',n',q',q2',f',r',rfl⟩:=h';rw[e]at e';cases e';rw[hh p (by simp),q]at q';cases q';rw[r.det r' λa m=>hh a (by simp[m])]
 |dic ks ds=>obtain⟨p,ys,e,q,f,r,rfl⟩:=h;obtain⟨p',ys',e',q',f',r',rfl⟩:=h';rw[e]at e';cases e';rfl
 |dit ks ds=>obtain⟨p,ys,o,xs,e,q,f,r,rfl⟩:=h;obtain⟨p',ys',o',xs',e',q',f',r',rfl⟩:=h';rw[e]at e';cases e';rfl
 |obj c ns ls dk=>
  obtain⟨p,C,dx,vs,B,e,n,q,q2,f,r,rfl⟩:=h;obtain⟨p',C',dx',vs',B',e',n',q',q2',f',r',rfl⟩:=h';rw[e]at e';cases e';rw[hh p (by simp),q]at q';cases q';rw[r.det r']
theorem RepC.here (h:RepC K G H x c A)(m:a∈A):∃xs,H a=some (.lst xs):=by
 cases c with
 |d y=>rw[h.2]at m;cases m
 |l ds=>obtain⟨l,xs,_,q,_,rfl⟩:=h;simp at m;subst m;exact⟨xs,q⟩
 |t xss=>
  obtain⟨p,xs,A',_,q,r,rfl⟩:=h;rcases qam.mp m with rfl|m
  ·exact⟨xs,q⟩
  ·exact r.here m
theorem RepCs.here:∀{xs:AA V} {cs:AA Ch} {A:AA AD},RepCs K G H xs cs A->∀{a:AD},a∈A->∃xs,H a=some (.lst xs)
 |[],[],_,h,a,m=>by rw[show _=[]from h]at m;cases m
 |x::xs,c::cs,_,⟨A1,A2,h1,h2,e⟩,a,m=>by
  rw[e]at m;rcases qan.mp m with m|m
  ·exact h1.here m
  ·exact h2.here m
 |[],_::_,_,h,_,_=>h.elim
 |_::_,[],_,h,_,_=>h.elim
theorem RepT.here (h:RepT K G H v t A)(m:a∈A):H a≠none:=by
 cases t with
 |lst cs=>
  obtain⟨p,xs,B,e,q,r,rfl⟩:=h;rcases qam.mp m with rfl|m
  ·rw[q];simp
  ·obtain⟨ys,z⟩:=r.here m;rw[z];simp
 |tup cs=>
  obtain⟨p,xs,B,e,q,r,rfl⟩:=h;rcases qam.mp m with rfl|m
  ·rw[q];simp
  ·obtain⟨ys,z⟩:=r.here m;rw[z];simp
 |ins c fs=>
  obtain⟨p,C,dx,vs,B,e,n,q,q2,f,r,rfl⟩:=h;rcases qam.mp m with rfl|m
  ·rw[q];simp
  rcases qam.mp m with rfl|m
  ·rw[q2];simp
  ·obtain⟨ys,z⟩:=r.here m;rw[z];simp
 |dic ks ds=>obtain⟨p,ys,e,q,f,r,rfl⟩:=h;simp at m;subst m;rw[q];simp
 |dit ks ds=>obtain⟨p,ys,o,xs,e,q,f,r,rfl⟩:=h;simp at m;subst m;rw[q];simp
 |obj c ns ls dk=>
  obtain⟨p,C,dx,vs,B,e,n,q,q2,f,r,rfl⟩:=h;rcases qam.mp m with rfl|m
  ·rw[q];simp
  rcases qam.mp m with rfl|m
  ·rw[q2];simp
  ·rcases r.here m with⟨ys,z⟩|⟨ys,z⟩<;>(rw[z];simp)
end
noncomputable def T.isObj:T->Bool
 | .obj _ _ _ _=>true
 |_=>false
noncomputable def SlotOk (K:AF)(B:Bs)(G H:Hp)(i:Nat)(ov:AB (AB V)):Sl->Prop
 | .emp=>True
 | .two _ _=>True
 | .val d=>∃v,ov=some (some v)/\RepD K G v d
 | .own ds=>∃l xs,ov=some (some (.ref l))/\G l=none/\H l=some (.lst xs)/\RepL K G xs ds/\B.H l=none
 | .par ds=>∃l xs,ov=some (some (.ref l))/\G l=none/\H l=some (.lst xs)/\RepL K G xs ds/\(i,l)∈B.O
 | .tre t=>∃v A,ov=some (some v)/\RepT K G H v t A/\A.Nodup/\∀a∈A,G a=none/\B.H a=none
 | .ptr t=>∃v A,ov=some (some v)/\RepT K G H v t A/\(A.Nodup/\∃p,v= .ref p/\(i+4096,p)∈B.O/\(t.isObj=true->(i+8192,p)∈B.O))/\∀a∈A,G a=none/\((i,a)∈B.O\/(B.H a=none/\∃p,v= .ref p/\(i+8192,p)∈B.O))
noncomputable def Wr (ρ:R)(i:Nat):Prop:=∃s ds,ρ[i]? =some s/\s.items=some ds
noncomputable def fD (K:AF)(G H:Hp)(ov:AB (AB V))(a:AD):Sl->Prop
 | .own _=>ov=some (some (.ref a))
 | .par _=>ov=some (some (.ref a))
 | .tre t=>∃v A,ov=some (some v)/\RepT K G H v t A/\a∈A
 | .ptr t=>∃v A,ov=some (some v)/\RepT K G H v t A/\a∈A
 |_=>False
noncomputable def Nw (K:AF)(G H:Hp)(σ:St)(ρ:R)(a:AD):Prop:=∀(i:Nat) (s:Sl),ρ[i]? =some s->¬fD K G H σ[i]? a s
structure SI (K:W.Frag)(B:Bs)(G H:Hp)(σ:St)(ρ:R):Prop where
 fz:Fz G H
 g0:Fz B.G G
 new:∀b o,G b=some o->B.G b≠none\/B.H b=none
 keep:∀b o,B.H b=some o->(∀i,(i,b)∉B.O)->H b=some o
 there:∀b,H b=none->B.H b=none
 len:σ.length=ρ.length
 ob:∀i b,(i,b)∈B.O->B.H b≠none
 slot:∀i s,ρ[i]? =some s->SlotOk K B G H i σ[i]? s
 dis:∀(i j:Nat) (s t:Sl) (a:Addr),i≠j->ρ[i]? =some s->ρ[j]? =some t->fD K G H σ[i]? a s->¬fD K G H σ[j]? a t
section
variable {K:AF}{B:Bs}{G G' H H':Hp}{σ:St}{ρ:R}
theorem SlotOk.own (h:SlotOk K B G H i ov s)(w:fD K G H ov a s):G a=none/\H a≠none/\(B.H a=none\/(i,a)∈B.O):=by
 cases s with
 |emp=>exact w.elim
 |two _ _=>exact w.elim
 |val d=>exact w.elim
 |own ds=>obtain⟨l,xs,e,g,k,r,n⟩:=h;rw[show ov=_ from w]at e;cases e;exact⟨g,by rw[k];simp,.inl n⟩
 |par ds=>obtain⟨l,xs,e,g,k,r,n⟩:=h;rw[show ov=_ from w]at e;cases e;exact⟨g,by rw[k];simp,.inr n⟩
 |tre t=>
  obtain⟨v,A,e,r,nd,f⟩:=h;obtain⟨v',A',e',r',m⟩:=w;rw[e]at e';cases e';rw[<-r.det r' λ_ _=>rfl]at m;exact⟨(f a m).1,r.here m,.inl (f a m).2⟩
 |ptr t=>
  obtain⟨v,A,e,r,nd,f⟩:=h;obtain⟨v',A',e',r',m⟩:=w;rw[e]at e';cases e';rw[<-r.det r' λ_ _=>rfl]at m;exact⟨(f a m).1,r.here m,(f a m).2.elim .inr λz=> .inl z.1⟩
theorem SlotOk.mono (h:SlotOk K B G H i ov s)(hg:Fz G G')(hw:∀a,fD K G H ov a s->G a=none->H a≠none->G' a=none/\H' a=H a):SlotOk K B G' H' i ov s:=by
 have ow:=λa (w:fD K G H ov a s)=>h.own w
 cases s with
 |emp=>trivial
 |two _ _=>trivial
 |val d=>obtain⟨v,e,r⟩:=h;exact⟨v,e,r.mono hg⟩
 |own ds=>
  obtain⟨l,xs,e,g,k,r,n⟩:=h;obtain⟨h1,h2⟩:=hw l e g (by rw[k];simp);exact⟨l,xs,e,h1,h2.trans k,r.mono hg,n⟩
 |par ds=>
  obtain⟨l,xs,e,g,k,r,n⟩:=h;obtain⟨h1,h2⟩:=hw l e g (by rw[k];simp);exact⟨l,xs,e,h1,h2.trans k,r.mono hg,n⟩
 |tre t=>
  obtain⟨v,A,e,r,nd,f⟩:=h;have w:=λa m=>hw a ⟨v,A,e,r,m⟩ (f a m).1 (r.here m)
  exact⟨v,A,e,r.move hg λa m=>(w a m).2,nd,λa m=>⟨(w a m).1,(f a m).2⟩⟩
 |ptr t=>
  obtain⟨v,A,e,r,nd,f⟩:=h;have w:=λa m=>hw a ⟨v,A,e,r,m⟩ (f a m).1 (r.here m)
  exact⟨v,A,e,r.move hg λa m=>(w a m).2,nd,λa m=>⟨(w a m).1,(f a m).2⟩⟩
theorem SlotOk.back (h:SlotOk K B G H i ov s)(hw:∀a,fD K G H ov a s->G a=none->H a≠none->G' a=none/\H' a=H a)(w:fD K G' H' ov a s):fD K G H ov a s:=by
 cases s with
 |emp=>exact w
 |two _ _=>exact w
 |val d=>exact w
 |own ds=>exact w
 |par ds=>exact w
 |tre t=>
  obtain⟨v,A,e,r,nd,f⟩:=h;obtain⟨v',A',e',r',m⟩:=w;rw[e]at e';cases e';have q:=r.det r' λa m=>(hw a ⟨v,A,e,r,m⟩ (f a m).1 (r.here m)).2
  subst q;exact⟨v,A,e,r,m⟩
 |ptr t=>
  obtain⟨v,A,e,r,nd,f⟩:=h;obtain⟨v',A',e',r',m⟩:=w;rw[e]at e';cases e';have q:=r.det r' λa m=>(hw a ⟨v,A,e,r,m⟩ (f a m).1 (r.here m)).2
  subst q;exact⟨v,A,e,r,m⟩
theorem SI.move (I:SI K B G H σ ρ)(fz:Fz G' H')(fg:Fz G G')(new:∀b o,G' b=some o->B.G b≠none\/B.H b=none)(keep:∀b o,B.H b=some o->(∀i,(i,b)∉B.O)->H' b=some o)(there:∀b,H' b=none->B.H b=none)(ow:∀(i:Nat) (s:Sl) (a:AD),ρ[i]? =some s->fD K G H σ[i]? a s->G a=none->H a≠none->G' a=none/\H' a=H a):SI K B G' H' σ ρ where
 fz:=fz
 g0:=I.g0.trans fg
 new:=new
 keep:=keep
 there:=there
 len:=I.len
 ob:=I.ob
 slot:=λi s e=>(I.slot i s e).mono fg λa w g h=>ow i s a e w g h
 dis:=λi j s t a n e1 e2 w1 w2=>I.dis i j s t a n e1 e2 ((I.slot i s e1).back (λa w g h=>ow i s a e1 w g h) w1) ((I.slot j t e2).back (λa w g h=>ow j t a e2 w g h) w2)
theorem SI.chg (I:SI K B G H σ ρ){ov:AB V}{s':Sl}(fz:Fz G' H')(fg:Fz G G')(new:∀b o,G' b=some o->B.G b≠none\/B.H b=none)(keep:∀b o,B.H b=some o->(∀i,(i,b)∉B.O)->H' b=some o)(there:∀b,H' b=none->B.H b=none)(ow:∀(j:Nat) (s:Sl) (a:AD),j≠i->ρ[j]? =some s->fD K G H σ[j]? a s->G a=none->H a≠none->G' a=none/\H' a=H a/\¬fD K G' H' (some ov) a s')(sl:SlotOk K B G' H' i (some ov) s'):SI K B G' H' (σ.set i ov) (ρ.set i s'):=by
 have atI:∀{s},(ρ.set i s')[i]? =some s->s=s'/\(σ.set i ov)[i]? =some ov:=λ{s} e=>by
  rw[iG,if_pos rfl]at e ⊢
  split at e
  ·rename_i h;cases e;rw[if_pos (by rw[I.len];exact h)];exact⟨rfl,rfl⟩
  ·exact aK e
 have atJ:∀{j s},j≠i->(ρ.set i s')[j]? =some s->ρ[j]? =some s/\(σ.set i ov)[j]? =σ[j]?:=λ{j s} n e=>by
  rw[iF (Ne.symm n)]at e ⊢;exact⟨e,rfl⟩
 refine⟨fz,I.g0.trans fg,new,keep,there,by rw[fR,fR];exact I.len,I.ob,λj s e=>?_,λj k s t a n e1 e2 w1 w2=>?_⟩
 ·by_cases z:j=i
  ·subst z;obtain⟨rfl,q⟩:=atI e;rw[q];exact sl
  ·obtain⟨e1,q⟩:=atJ z e;rw[q];exact(I.slot j s e1).mono fg λa w g h=>⟨(ow j s a z e1 w g h).1,(ow j s a z e1 w g h).2.1⟩
 ·have one:∀j s,j≠i->(ρ.set i s')[j]? =some s->fD K G' H' (σ.set i ov)[j]? a s->ρ[j]? =some s/\fD K G H σ[j]? a s:=λj s z e w=>by
   obtain⟨e1,q⟩:=atJ z e;rw[q]at w;exact⟨e1,(I.slot j s e1).back (λa w g h=>⟨(ow j s a z e1 w g h).1,(ow j s a z e1 w g h).2.1⟩) w⟩
  by_cases z1:j=i
  ·subst z1;obtain⟨rfl,q1⟩:=atI e1;obtain⟨f2,w2⟩:=one k t (Ne.symm n) e2 w2;obtain⟨o1,o2,_⟩:=(I.slot k t f2).own w2;rw[q1]at w1;exact(ow k t a (Ne.symm n) f2 w2 o1 o2).2.2 w1
  ·have p1:=one j s z1 e1 w1
   by_cases z2:k=i
   ·subst z2;obtain⟨rfl,q2⟩:=atI e2;obtain⟨o1,o2,_⟩:=(I.slot j s p1.1).own p1.2;rw[q2]at w2;exact(ow j s a z1 p1.1 p1.2 o1 o2).2.2 w2
   ·have p2:=one k t z2 e2 w2;exact I.dis j k s t a n p1.1 p2.1 p1.2 p2.2
theorem SI.nw (I:SI K B G H σ ρ)(hp:H p=none):Nw K G H σ ρ p:=λi s e w=>((I.slot i s e).own w).2.1 hp
theorem SI.nw_move (I:SI K B G H σ ρ)(n:Nw K G H σ ρ p)(ow:∀(i:Nat) (s:Sl) (a:AD),ρ[i]? =some s->fD K G H σ[i]? a s->G a=none->H a≠none->G' a=none/\H' a=H a):Nw K G' H' σ ρ p:=
 λi s e w=>n i s e ((I.slot i s e).back (λa w g h=>ow i s a e w g h) w)
theorem SI.allocF (I:SI K B G H σ ρ)(hp:H p=none)(o:HO):SI K B (upd G p o) (upd H p o) σ ρ:=
 I.move (I.fz.upd2 p o) (Fz.new (I.fz.free hp) o) (λb u e=>by
  by_cases q:b=p
  ·subst q;exact .inr (I.there b hp)
  ·rw[bF q]at e;exact I.new b u e) (λb u e n=>by
  have q:=I.keep b u e n;rw[bF (jU q hp)];exact q) (λb e=>by
  by_cases q:b=p
  ·subst q;rw[dU]at e;cases e
  ·rw[bF q]at e;exact I.there b e) (λi s a _ _ g h=>by
  have q:a≠p:=λz=>h (by rw[z];exact hp)
  rw[bF q,bF q];exact⟨g,rfl⟩)
theorem SI.allocO (I:SI K B G H σ ρ)(hp:H p=none)(o:HO):SI K B G (upd H p o) σ ρ:=
 I.move (I.fz.right (I.fz.free hp) o) (Fz.refl G) I.new (λb u e n=>by
  have q:=I.keep b u e n;rw[bF (jU q hp)];exact q) (λb e=>by
  by_cases q:b=p
  ·subst q;rw[dU]at e;cases e
  ·rw[bF q]at e;exact I.there b e) (λi s a _ _ g h=>by
  have q:a≠p:=λz=>h (by rw[z];exact hp)
  rw[bF q];exact⟨g,rfl⟩)
theorem SI.frz (I:SI K B G H σ ρ){o:HO}(hl:H l=some o)(hB:B.H l=none)(hn:Nw K G H σ ρ l)(hg:G l=none):SI K B (upd G l o) H σ ρ:=
 I.move (λa u q=>by
  by_cases e:a=l
  ·subst e;rw[dU]at q;cases q;exact hl
  ·rw[bF e]at q;exact I.fz a u q) (Fz.new hg o) (λb u e=>by
  by_cases q:b=l
  ·subst q;exact .inr hB
  ·rw[bF q]at e;exact I.new b u e) I.keep I.there (λi s a e w g _=>by
  refine⟨?_,rfl⟩;rw[bF (λz=>?_)]
  ·exact g
  ·subst z;exact hn i s e w)
theorem SI.set (I:SI K B G H σ ρ)(h:RepD K G v d):SI K B G H (σ.set i (some v)) (ρ.set i (.val d)):=
 I.chg I.fz (Fz.refl G) I.new I.keep I.there (λ_ _ _ _ _ _ g _=>⟨g,rfl,id⟩) ⟨v,rfl,h⟩
theorem SI.setO (I:SI K B G H σ ρ)(hg:G l=none)(hl:H l=some (.lst xs))(h:RepL K G xs ds)(hB:B.H l=none)(hn:Nw K G H σ ρ l):
  SI K B G H (σ.set i (some (.ref l))) (ρ.set i (.own ds)):=
 I.chg I.fz (Fz.refl G) I.new I.keep I.there (λj s a _ e w g _=>⟨g,rfl,λz=>by cases(show some (some (V.ref l))=some (some (.ref a))from z);exact hn j s e w⟩) ⟨l,xs,rfl,hg,hl,h,hB⟩
theorem SI.wr (I:SI K B G H σ ρ)(e:ρ[i]? =some s)(q:s.items=some ds):∃l xs,σ[i]? =some (some (.ref l))/\G l=none/\H l=some (.lst xs)/\RepL K G xs ds:=by
 have h:=I.slot i s e;cases s with
 |emp=>exact aK q
 |two _ _=>exact aK q
 |val d=>exact aK q
 |tre _=>exact aK q
 |ptr _=>exact aK q
 |own es=>cases q;obtain⟨l,xs,h1,h2,h3,h4,_⟩:=h;exact⟨l,xs,h1,h2,h3,h4⟩
 |par es=>cases q;obtain⟨l,xs,h1,h2,h3,h4,_⟩:=h;exact⟨l,xs,h1,h2,h3,h4⟩
noncomputable def Sl.put (s:Sl)(ds:AA D):Sl:=match s with
 | .own _=> .own ds
 | .par _=> .par ds
 |s=>s
theorem hG (q:s.items=some ds):fD K G H ov a s↔ov=some (some (.ref a)):=by
 cases s with
 |own _=>exact Iff.rfl
 |par _=>exact Iff.rfl
 |_=>exact aK q
theorem Mq (q:s.items=some ds)(es:AA D):(s.put es).items=some es:=by
 cases s with
 |own _=>rfl
 |par _=>rfl
 |_=>exact aK q
theorem vV {α:Type}{l:AA α}{x:α}(e:l[i]? =some x):l.set i x=l:=by
 obtain⟨h,rfl⟩:=qap.mp e;exact List.set_getElem_self h
theorem SI.chgW (I:SI K B G H σ ρ){i:Nat}(e:ρ[i]? =some s)(q:s.items=some ds)(hl:σ[i]? =some (some (.ref l)))(fz:Fz G' H')(fg:Fz G G')(nw:∀b o,G' b=some o->G b≠none\/H b=none)(kp:∀b o,b≠l->H b=some o->H' b=some o)(gl:G' l=none)(hl':H' l=some (.lst ys))(r:RepL K G' ys es):SI K B G' H' σ (ρ.set i (s.put es)):=by
 obtain⟨l',xs,e1,e2,e3,e4⟩:=I.wr e q;rw[hl]at e1;cases e1;have sl:=I.slot i s e;have nb:∀b o,B.H b=some o->(∀i,(i,b)∉B.O)->b≠l:=λb o h1 h2 z=>by
  subst z;rcases(sl.own ((hG q).mpr hl)).2.2 with z|z
  ·rw[h1]at z;cases z
  ·exact h2 i z
 have h:=I.chg (i:=i) (ov:=some (.ref l)) (s':=s.put es) (G':=G') (H':=H') fz fg (λb o k=>?_) (λb o k1 k2=>kp b o (nb b o k1 k2) (I.keep b o k1 k2)) (λb k=>?_) (λj t a z ej w g ha=>?_) ?_
 ·rwa[vV hl]at h
 ·rcases nw b o k with h|h
  ·cases q2:G b with
   |none=>exact AH q2 h
   |some u=>exact I.new b u q2
  ·exact .inr (I.there b h)
 ·refine I.there b ?_;cases q2:H b with
  |none=>rfl
  |some u=>
   by_cases z:b=l
   ·subst z;rw[hl']at k;cases k
   ·rw[kp b u z q2]at k;cases k
 ·have na:a≠l:=λw'=>by subst w';exact I.dis j i t s a z ej e w ((hG q).mpr hl)
  obtain⟨u,hu⟩:=qbx.mp ha;refine⟨?_,(kp a u na hu).trans hu.symm,λz=>na ?_⟩
  ·cases q2:G' a with
   |none=>rfl
   |some u=>
    rcases nw a u q2 with z|z
    ·exact AH g z
    ·exact AH z ha
  ·cases(hG (Mq q es)).mp z;rfl
 ·cases s with
  |own es'=>obtain⟨l',xs',k1,k2,k3,k4,k5⟩:=sl;rw[hl]at k1;cases k1;exact⟨_,ys,rfl,gl,hl',r,k5⟩
  |par es'=>obtain⟨l',xs',k1,k2,k3,k4,k5⟩:=sl;rw[hl]at k1;cases k1;exact⟨_,ys,rfl,gl,hl',r,k5⟩
  |_=>cases q
theorem SI.write (I:SI K B G H σ ρ)(e:ρ[i]? =some s)(q:s.items=some ds)(hl:σ[i]? =some (some (.ref l)))(h:RepL K G ys es):
  SI K B G (upd H l (.lst ys)) σ (ρ.set i (s.put es)):=by
 obtain⟨l',xs,e1,e2,e3,e4⟩:=I.wr e q;rw[hl]at e1;cases e1;exact I.chgW e q hl (I.fz.right e2 _) (Fz.refl G) (λb o k=> .inl (by rw[k];simp)) (λb o z k=>by rw[bF z];exact k) e2 dU h
theorem SI.freeze (I:SI K B G H σ ρ){i:Nat}(e:ρ[i]? =some (.own ds)):∃l xs,σ[i]? =some (some (.ref l))/\Fz G (upd G l (.lst xs))/\RepD K (upd G l (.lst xs)) (.ref l) (.lst ds)/\
  SI K B (upd G l (.lst xs)) H σ (ρ.set i (.val (.lst ds))):=by
 obtain⟨l,xs,h1,h2,h3,h4,h5⟩:=I.slot i _ e;have fz:=Fz.new h2 (.lst xs);have rep:RepD K (upd G l (.lst xs)) (.ref l) (.lst ds):=⟨l,xs,rfl,dU,h4.mono fz⟩;refine⟨l,xs,h1,fz,rep,?_⟩;have h:=I.chg (i:=i) (ov:=some (.ref l)) (s':= .val (.lst ds)) (G':=upd G l (.lst xs)) (H':=H) (λa u q=>?_) fz (λb u q=>?_) I.keep I.there (λj t a z ej w g _=>⟨?_,rfl,id⟩) ⟨.ref l,rfl,rep⟩
 ·rwa[vV h1]at h
 ·by_cases z:a=l
  ·subst z;rw[dU]at q;cases q;exact h3
  ·rw[bF z]at q;exact I.fz a u q
 ·by_cases z:b=l
  ·subst z;exact .inr h5
  ·rw[bF z]at q;exact I.new b u q
 ·rw[bF (λq=>by subst q;exact I.dis j i t _ a z ej e w h1)];exact g
end
noncomputable abbrev ME:=R->AB (D×R)
noncomputable abbrev MO:=R->AB (AA D×R)
noncomputable abbrev MT:=R->AB (Bool×R)
noncomputable abbrev MA:=R->AB (AA D×R)
noncomputable def SEb (X:Cx)(e:AI)(m:ME)(t:TE):Prop:=∀B G H σ ρ d ρ' (Q:VK),SI X.K B G H σ ρ->m ρ=some (d,ρ')->(∀G' H' v,SI X.K B G' H' σ ρ'->Fz G G'->RepD X.K G' v d->Q v H')->t σ H Q
noncomputable def SE (X:Cx)(e:AI)(m:ME):Prop:=∃t,PE X e t/\SEb X e m t
theorem SE.el {m:ME}(h:SE X e m)(k:∀t,PE X e t->SEb X e m t->C):C:=h.elim λt q=>k t q.1 q.2
noncomputable def SOb (X:Cx)(e:AI)(m:MO)(t:TE):Prop:=∀B G H σ ρ ds ρ' (Q:VK),SI X.K B G H σ ρ->m ρ=some (ds,ρ')->
  (∀G' H' l xs,SI X.K B G' H' σ ρ'->Fz G G'->G' l=none->H' l=some (.lst xs)->RepL X.K G' xs ds->B.H l=none->Nw X.K G' H' σ ρ' l->Q (.ref l) H')->t σ H Q
noncomputable def SO (X:Cx)(e:AI)(m:MO):Prop:=∃t,PE X e t/\SOb X e m t
theorem SO.el (h:SO X e m)(k:∀t,PE X e t->SOb X e m t->C):C:=h.elim λt q=>k t q.1 q.2
noncomputable def Pr (X:Cx)(e:AI)(m:MT)(t:TT):Prop:=∀B G H σ ρ d ρ' (Q:Bool->Hp->Prop),SI X.K B G H σ ρ->m ρ=some (d,ρ')->(∀G' H',SI X.K B G' H' σ ρ'->Fz G G'->Q d H')->t σ H Q
noncomputable def STt (X:Cx)(e:AI)(m:MT):Prop:=∃t,PT X e t/\Pr X e m t
theorem STt.el {m:MT}(h:STt X e m)(k:∀t,PT X e t->Pr X e m t->C):C:=h.elim λt q=>k t q.1 q.2
noncomputable def SAb (X:Cx)(es:AA AI)(m:MA)(t:TA):Prop:=∀B G H σ ρ ds ρ' (Q:AA V->Hp->Prop),SI X.K B G H σ ρ->m ρ=some (ds,ρ')->(∀G' H' vs,SI X.K B G' H' σ ρ'->Fz G G'->RepL X.K G' vs ds->Q vs H')->t σ H Q
noncomputable def SA (X:Cx)(es:AA AI)(m:MA):Prop:=∃t,PA X es t/\SAb X es m t
theorem SA.el {es:AA AI}{m:MA}(h:SA X es m)(k:∀t,PA X es t->SAb X es m t->C):C:=h.elim λt q=>k t q.1 q.2
theorem Me {B:Bs}{σ:St}(I:SI K B G H σ ρ)(hg:G l=none)(hl:H l=some (.lst xs))(h:RepL K G xs ds)(hB:B.H l=none)(hn:Nw K G H σ ρ l):
  SI K B (upd G l (.lst xs)) H σ ρ/\Fz G (upd G l (.lst xs))/\RepD K (upd G l (.lst xs)) (.ref l) (.lst ds):=
 ⟨I.frz hl hB hn hg,Fz.new hg _,⟨l,xs,rfl,dU,h.mono (Fz.new hg _)⟩⟩
noncomputable def cZ (m:MO):ME:=λρ=>(m ρ).map λp=>(.lst p.1,p.2)
theorem SO.se (h:SO X e m):SE X e (cZ m):=by
 refine h.el λt p s=>?_
 refine⟨t,p,λB G H σ ρ d ρ' Q I hm k=>?_⟩;unfold cZ at hm;cases q:m ρ with
 |none=>rw[q]at hm;exact aK hm
 |some r=>
  obtain⟨ds,ρ1⟩:=r;rw[q]at hm;obtain⟨rfl,rfl⟩:=bM hm;refine s B G H σ ρ ds _ Q I q λG' H' l xs I' fz hg hl hr hB hn=>?_
  obtain⟨I2,f2,r2⟩:=Me I' hg hl hr hB hn;exact k _ _ _ I2 (fz.trans f2) r2
noncomputable def eC (d:D):ME:=λρ=>some (d,ρ)
noncomputable def aA (i:Nat):ME:=λρ=>match ρ[i]? with
 |some (.val d)=>some (d,ρ)
 |some (.own ds)=>some (.lst ds,ρ.set i (.val (.lst ds)))
 |_=>none
section
variable {X:Cx}{pos:Pos}
theorem aE (i:Nat){x:Str}(hN:autoParam (X.N[i]? =some x) zu2._auto_1)(hv:autoParam (dG X.env.scope x) zu6._auto_1)(hd:autoParam ((x==("__debug__":Str))=false) zu1._auto_1)(hcd:autoParam ((x==("__classdict__":Str))=false) zu1._auto_1):SE X (.Name x pos) (aA i):=by
 refine⟨_,eE hN hv hd hcd,λB G H σ ρ d ρ' Q I hm k=>?_⟩;unfold aA at hm;cases e:ρ[i]? with
 |none=>rw[e]at hm;exact aK hm
 |some s=>
  rw[e]at hm;cases s with
  |emp=>exact aK hm
  |two _ _=>exact aK hm
  |tre _=>exact aK hm
  |ptr _=>exact aK hm
  |par ds=>exact aK hm
  |val d'=>
   obtain⟨rfl,rfl⟩:=bM hm;obtain⟨v,h1,h2⟩:=I.slot i _ e;exact⟨v,h1,k G H v I (Fz.refl G) h2⟩
  |own ds=>
   obtain⟨rfl,rfl⟩:=bM hm;obtain⟨l,xs,h1,f,r,I'⟩:=I.freeze e;exact⟨.ref l,h1,k _ H _ I' f r⟩
theorem aL {i:Int}{j}:SE X (.Constant (.int i) j pos) (eC (.int i)):=⟨_,Vy,λB G H σ ρ d ρ' Q I hm k=>by obtain⟨rfl,rfl⟩:=bM hm;exact k G H _ I (Fz.refl G) rfl⟩
theorem kH {j}:SE X (.Constant (.bool b) j pos) (eC (.bl b)):=⟨_,Tx,λB G H σ ρ d ρ' Q I hm k=>by obtain⟨rfl,rfl⟩:=bM hm;exact k G H _ I (Fz.refl G) rfl⟩
theorem Kn {j}:SE X (.Constant .none j pos) (eC .non):=⟨_,Ep,λB G H σ ρ d ρ' Q I hm k=>by obtain⟨rfl,rfl⟩:=bM hm;exact k G H _ I (Fz.refl G) rfl⟩
theorem jO {x:Str}{j}:SE X (.Constant (.str x) j pos) (eC (.str x)):=⟨_,Kl,λB G H σ ρ d ρ' Q I hm k=>by obtain⟨rfl,rfl⟩:=bM hm;exact k G H _ I (Fz.refl G) rfl⟩
end
noncomputable def aB:MA:=λρ=>some ([],ρ)
noncomputable def aC (m:ME)(r:MA):MA:=λρ=>(m ρ).bind λp=>(r p.2).map λq=>(p.1::q.1,q.2)
section
variable {X:Cx}{e:AI}{es:AA AI}{m:ME}{r:MA}
theorem aG:SA X [] aB:=⟨_,iS,λB G H σ ρ ds ρ' Q I hm k=>by obtain⟨rfl,rfl⟩:=bM hm;exact k G H [] I (Fz.refl G) .nil⟩
theorem aD (h:SE X e m)(hr:SA X es r)(hs:autoParam (starEach (e::es) X.env=(false,eval e X.env)::starEach es X.env) zu2._auto_1):SA X (e::es) (aC m r):=by
 refine h.el λt p s=>?_
 refine hr.el λu q z=>?_
 refine⟨_,gK p q hs,λB G H σ ρ ds ρ' Q I hm k=>?_⟩;unfold aC at hm;cases e1:m ρ with
 |none=>rw[e1]at hm;exact aK hm
 |some a=>
  obtain⟨d,ρ1⟩:=a;rw[e1]at hm;cases e2:r ρ1 with
  |none=>simp[e2]at hm
  |some b=>
   obtain⟨es',ρ2⟩:=b;simp only[jN,e2,Cq,Yw,Prod.mk.injEq]at hm;obtain⟨rfl,rfl⟩:=hm;exact s B G H σ ρ d ρ1 _ I e1 λG1 H1 v I1 f1 r1=>z B G1 H1 σ ρ1 es' ρ2 _ I1 e2 λG2 H2 vs I2 f2 r2=>k G2 H2 (v::vs) I2 (f1.trans f2) (.cons (r1.mono f2) r2)
end
noncomputable def V2 (X:Cx)(r:R2)(f:D->D->AB D):Prop:=∀B G H σ ρ x y a b d (Q:VK),SI X.K B G H σ ρ->RepD X.K G x a->RepD X.K G y b->f a b=some d->(∀G' H' v,SI X.K B G' H' σ ρ->Fz G G'->RepD X.K G' v d->Q v H')->r x y H Q
noncomputable def V1 (X:Cx)(r:V->Hp->VK->Prop)(f:D->AB D):Prop:=∀B G H σ ρ x a d (Q:VK),SI X.K B G H σ ρ->RepD X.K G x a->f a=some d->(∀G' H' v,SI X.K B G' H' σ ρ->Fz G G'->RepD X.K G' v d->Q v H')->r x H Q
noncomputable def VC (X:Cx)(r:AA V->Hp->VK->Prop)(f:AA D->AB D):Prop:=∀B G H σ ρ xs ds d (Q:VK),SI X.K B G H σ ρ->RepL X.K G xs ds->f ds=some d->(∀G' H' v,SI X.K B G' H' σ ρ->Fz G G'->RepD X.K G' v d->Q v H')->r xs H Q
noncomputable def m2 (f:D->D->AB D)(ma mb:ME):ME:=λρ=>(ma ρ).bind λp=>(mb p.2).bind λq=>(f p.1 q.1).map λd=>(d,q.2)
noncomputable def m1 (f:D->AB D)(ma:ME):ME:=λρ=>(ma ρ).bind λp=>(f p.1).map λd=>(d,p.2)
noncomputable def mC (f:AA D->AB D)(ma:MA):ME:=λρ=>(ma ρ).bind λp=>(f p.1).map λd=>(d,p.2)
theorem rP {ma mb:ME}(h:m2 f ma mb ρ=some (d,ρ')):∃a ρ1 b,ma ρ=some (a,ρ1)/\mb ρ1=some (b,ρ')/\f a b=some d:=by
 unfold m2 at h;cases e1:ma ρ with
 |none=>rw[e1]at h;exact aK h
 |some p=>
  obtain⟨a,ρ1⟩:=p;rw[e1]at h;cases e2:mb ρ1 with
  |none=>simp[e2]at h
  |some q=>
   obtain⟨b,ρ2⟩:=q;simp only[jN,e2]at h;cases e3:f a b with
   |none=>rw[e3]at h;exact aK h
   |some c=>rw[e3]at h;obtain⟨rfl,rfl⟩:=bM h;exact⟨a,ρ1,b,rfl,e2,e3⟩
theorem Ll {f:D->AB D}(h:m1 f ma ρ=some (d,ρ')):∃a,ma ρ=some (a,ρ')/\f a=some d:=by
 unfold m1 at h;cases e1:ma ρ with
 |none=>rw[e1]at h;exact aK h
 |some p=>
  obtain⟨a,ρ1⟩:=p;rw[e1]at h;simp only[jN]at h;cases e3:f a with
  |none=>rw[e3]at h;exact aK h
  |some c=>rw[e3]at h;obtain⟨rfl,rfl⟩:=bM h;exact⟨a,rfl,e3⟩
theorem Kz {f:AA D->AB D}{ma:MA}(h:mC f ma ρ=some (d,ρ')):∃a,ma ρ=some (a,ρ')/\f a=some d:=by
 unfold mC at h;cases e1:ma ρ with
 |none=>rw[e1]at h;exact aK h
 |some p=>
  obtain⟨a,ρ1⟩:=p;rw[e1]at h;simp only[jN]at h;cases e3:f a with
  |none=>rw[e3]at h;exact aK h
  |some c=>rw[e3]at h;obtain⟨rfl,rfl⟩:=bM h;exact⟨a,rfl,e3⟩
section
variable {X:Cx}{a b:AI}{ma mb:ME}{pos:Pos}{f:D->D->AB D}
theorem Xs {r:R2}{ta tb:TE}(hv:V2 X r f)(sa:∀B G H σ ρ d ρ' (Q:VK),SI X.K B G H σ ρ->ma ρ=some (d,ρ')->(∀G' H' v,SI X.K B G' H' σ ρ'->Fz G G'->RepD X.K G' v d->Q v H')->ta σ H Q)(sb:∀B G H σ ρ d ρ' (Q:VK),SI X.K B G H σ ρ->mb ρ=some (d,ρ')->(∀G' H' v,SI X.K B G' H' σ ρ'->Fz G G'->RepD X.K G' v d->Q v H')->tb σ H Q):
  ∀B G H σ ρ d ρ' (Q:VK),SI X.K B G H σ ρ->m2 f ma mb ρ=some (d,ρ')->(∀G' H' v,SI X.K B G' H' σ ρ'->Fz G G'->RepD X.K G' v d->Q v H')->Px r ta tb σ H Q:=by
 intro B G H σ ρ d ρ' Q I hm k;obtain⟨x,ρ1,y,e1,e2,e3⟩:=rP hm;exact sa B G H σ ρ x ρ1 _ I e1 λG1 H1 v I1 f1 r1=>sb B G1 H1 σ ρ1 y ρ' _ I1 e2 λG2 H2 u I2 f2 r2=>
  hv B G2 H2 σ ρ' v u x y d Q I2 (r1.mono f2) r2 e3 λG3 H3 z I3 f3 r3=>k G3 H3 z I3 (f1.trans (f2.trans f3)) r3
theorem Mp {r:R2}(ho:OpR X (binaryOp op) r)(hv:V2 X r f)(ha:SE X a ma)(hb:SE X b mb):SE X (.BinOp a op b pos) (m2 f ma mb):=by
 refine ha.el λta pa sa=>?_
 refine hb.el λtb pb sb=>?_
 exact⟨_,sJ ho pa pb,Xs hv sa sb⟩
theorem zpQ {op:CmpOp}{r:R2}(ho:OpR X (compareOp op) r)(hv:V2 X r f)(ha:SE X a ma)(hb:SE X b mb)(hm:behindInMarks op b=false):SE X (.Compare a [op] [b] pos) (m2 f ma mb):=by
 refine ha.el λta pa sa=>?_
 refine hb.el λtb pb sb=>?_
 exact⟨_,Ai ho pa pb hm,Xs hv sa sb⟩
theorem Rh {op:UnaryOp}(ho:Yj X (unaryOp op) r)(hv:V1 X r g)(ha:SE X a ma):SE X (.UnaryOp op a pos) (m1 g ma):=by
 refine ha.el λta pa sa=>?_
 refine⟨_,Vh ho pa,λB G H σ ρ d ρ' Q I hm k=>?_⟩;obtain⟨x,e1,e2⟩:=Ll hm;exact sa B G H σ ρ x ρ' _ I e1 λG1 H1 v I1 f1 r1=>hv B G1 H1 σ ρ' v x d Q I1 r1 e2 λG2 H2 z I2 f2 r2=>k G2 H2 z I2 (f1.trans f2) r2
theorem Qj {r:R2}(hr:IxR X r)(hv:V2 X r f)(ha:SE X a ma)(hb:SE X b mb)(hs:lL b):SE X (.Subscript a b pos) (m2 f ma mb):=by
 refine ha.el λta pa sa=>?_
 refine hb.el λtb pb sb=>?_
 exact⟨_,oH hr pa pb hs,Xs hv sa sb⟩
end
section
variable {X:Cx}{x:Str}{p pos:Pos}{e:AI}{es:AA AI}{ma:MA}{id T:String}{r:AA V->Hp->VK->Prop}{f:AA D->AB D}
theorem tI {t:TA}(hv:VC X r f)(sa:∀B G H σ ρ ds ρ' (Q:AA V->Hp->Prop),SI X.K B G H σ ρ->ma ρ=some (ds,ρ')->(∀G' H' vs,SI X.K B G' H' σ ρ'->Fz G G'->RepL X.K G' vs ds->Q vs H')->t σ H Q):
  ∀B G H σ ρ d ρ' (Q:VK),SI X.K B G H σ ρ->mC f ma ρ=some (d,ρ')->(∀G' H' v,SI X.K B G' H' σ ρ'->Fz G G'->RepD X.K G' v d->Q v H')->tCB r t σ H Q:=by
 intro B G H σ ρ d ρ' Q I hm k;obtain⟨ds,e1,e2⟩:=Kz hm;exact sa B G H σ ρ ds ρ' _ I e1 λG1 H1 vs I1 f1 r1=>hv B G1 H1 σ ρ' vs ds d Q I1 r1 e2 λG2 H2 z I2 f2 r2=>k G2 H2 z I2 (f1.trans f2) r2
theorem Nr (hc:jQ X (.builtin id) r)(hv:VC X r f)(hb:bootBuiltins x=some (.builtin id))(hm:X.mg x=none)(ha:SA X (e::es) ma)(hg:autoParam (Gl X x) zu2._auto_1)(hn:autoParam (x≠"__name__") zu1._auto_1)(hdb:autoParam ((x==("__debug__":Str))=false) zu1._auto_1)(he:autoParam (starEach (e::es) X.env=(false,eval e X.env)::starEach es X.env) zu2._auto_1)(hpl:autoParam ((backTo pos (starEach es X.env)).any (·.1)=false) zu2._auto_1):SE X (.Call (.Name x p) (e::es) [] pos) (mC f ma):=by
 refine ha.el λt pa sa=>?_
 exact⟨_,Iy hc hg hm hb pa hn hdb he hpl,tI hv sa⟩
theorem zlt (hc:jQ X (.type T) r)(hv:VC X r f)(hb:bootBuiltins x=some (.type T))(hm:X.mg x=none)(ha:SA X (e::es) ma)(hg:autoParam (Gl X x) zu2._auto_1)(hn:autoParam (x≠"__name__") zu1._auto_1)(hdb:autoParam ((x==("__debug__":Str))=false) zu1._auto_1)(he:autoParam (starEach (e::es) X.env=(false,eval e X.env)::starEach es X.env) zu2._auto_1)(hpl:autoParam ((backTo pos (starEach es X.env)).any (·.1)=false) zu2._auto_1):SE X (.Call (.Name x p) (e::es) [] pos) (mC f ma):=by
 refine ha.el λt pa sa=>?_
 exact⟨_,Wv hc hg hm hb pa hn hdb he hpl,tI hv sa⟩
end
end M
namespace M
open L2 PySem PySem.Spec
open PyProof.Rows hiding St
variable {v:V}{ds cs out:AA D}{p pos pos':Pos}{xs vs ys:AA V}{c:Int->Int->Bool}{g:D->R->AB R}{x qual:Str}{d:D}{C:Prop}{X:Cx}{a b e tg it:AI}{ma:MA}{k i j n t:Nat}{mb:ME}{K:AF}{G H H' G' Hc Gc:Hp}{us its:AA AC}{u:AC}{A:Around}{B:Bs}{σ σc:St}{ρ ρ':R}{s:Sl}{Q E:AC->AE->Prop}{f:D->D->AB D}{op op':CmpOp}{m:MS}{mc:MT}{tgs es ifs:AA AI}{h:AA D->R->AB R}{body:AA Stmt}{l DD:AD}{N ps:AA Str}{fd:FuncData}{env:Env}{scope:Scope}{cl:AA (Str×AD)}{h':AK}{prog:AJ}{w:World}{use:AB (AC->Sem Unit)}{ov:AB (AB V)}{cap:AA Nat}{o:AB D}{O:AA (Nat×AD)}{tg':AD->AE->Hp->AA AD->TG}{tt:AD->AE->Hp->AA AD->TT}{te:AD->AE->Hp->AA AD->TE}{JJ:Hp->Hp->St->R->Prop}{wi:TI}{ns:AA Int}
section
variable {X:Cx}{K:AF}{B:Bs}{G H:Hp}{σ:St}{ρ:R}
theorem SI.lst (I:SI K B G H σ ρ)(h:RepD K G v (.lst ds)):∃a xs,v= .ref a/\H a=some (.lst xs)/\RepL K G xs ds:=by
 obtain⟨a,xs,e,q,r⟩:=h;exact⟨a,xs,e,I.fz a _ q,r⟩
theorem SI.tup (I:SI K B G H σ ρ)(h:RepD K G v (.tup ds)):∃a xs,v= .ref a/\H a=some (.tup xs)/\RepL K G xs ds:=by
 obtain⟨a,xs,e,q,r⟩:=h;exact⟨a,xs,e,I.fz a _ q,r⟩
theorem SI.newT (I:SI K B G H σ ρ){p:AD}(hp:H p=none)(h:RepL K G xs ds):SI K B (upd G p (.tup xs)) (upd H p (.tup xs)) σ ρ/\Fz G (upd G p (.tup xs))/\RepD K (upd G p (.tup xs)) (.ref p) (.tup ds):=
 ⟨I.allocF hp _,Fz.new (I.fz.free hp) _,⟨p,xs,rfl,dU,h.mono (Fz.new (I.fz.free hp) _)⟩⟩
theorem SI.newL (I:SI K B G H σ ρ){p:AD}(hp:H p=none)(h:RepL K G xs ds):SI K B (upd G p (.lst xs)) (upd H p (.lst xs)) σ ρ/\Fz G (upd G p (.lst xs))/\RepD K (upd G p (.lst xs)) (.ref p) (.lst ds):=
 ⟨I.allocF hp _,Fz.new (I.fz.free hp) _,⟨p,xs,rfl,dU,h.mono (Fz.new (I.fz.free hp) _)⟩⟩
end
noncomputable def lI (c:Int->Int->Bool)(g:Int->Int->D):D->D->AB D
 | .int i,.int j=>if c i j then some (g i j)else none
 |_,_=>none
theorem Wx {g:Int->Int->D}{x y d:D}(h:lI c g x y=some d)(k:∀i j,x= .int i->y= .int j->c i j=true->g i j=d->C):C:=by
 cases x with
 |int i=>cases y with
  |int j=>exact bC h λz h=>k i j rfl rfl z (Option.some.inj h)
  |_=>exact aK h
 |_=>exact aK h
theorem zn2 {C:Int->Int->Prop}{g:Int->Int->Int}(hc:∀i j,c i j=true->C i j):V2 X (rI C λi j=> .int (g i j)) (lI c λi j=> .int (g i j)):=λB G H σ ρ x y a b d Q I ra rb hf k=>Wx hf λi j ea eb h ed=>by
 subst ea eb ed;exact⟨i,j,ra,rb,hc i j h,k G H _ I (Fz.refl G) rfl⟩
theorem Ap {g:Int->Int->Int}:V2 X (uH λi j=> .int (g i j)) (lI (λ_ _=>true) λi j=> .int (g i j)):=λB G H σ ρ x y a b d Q I ra rb hf k=>Wx hf λi j ea eb h ed=>by
 subst ea eb ed;exact⟨i,j,ra,rb,k G H _ I (Fz.refl G) rfl⟩
theorem jM {g:Int->Int->Bool}:V2 X (uH λi j=> .bl (g i j)) (lI (λ_ _=>true) λi j=> .bl (g i j)):=λB G H σ ρ x y a b d Q I ra rb hf k=>Wx hf λi j ea eb h ed=>by
 subst ea eb ed;exact⟨i,j,ra,rb,k G H _ I (Fz.refl G) rfl⟩
noncomputable def bO:D->D->AB D:=lI (λ_ _=>true) λi j=> .int (i-j)
noncomputable def Mn (j:Int):Bool:=decide (0<j)&&decide (j.natAbs.log2<9000)
theorem tQ:OpR X (binaryOp .FloorDiv) (rI (λ_ j=>0<j/\j.natAbs.log2<9000) λi j=> .int (i/j)):=Vu λi j _ _ _ _ _ hc q=>by
 have h1:(0:Int)<j:=hc.1;exact PyProof.Rows.floordiv_int (by lia) (by rw[Int.fdiv_eq_ediv_of_nonneg i (by lia)];exact q) (.inl (PyProof.noPylong_of_log2 hc.2))
noncomputable def tG:D->D->AB D:=lI (λ_ j=>Mn j) λi j=> .int (i/j)
noncomputable def dJ:D->D->AB D:=lI (λ_ j=>decide (0<j)) λi j=> .int (i%j)
noncomputable def gM:D->D->AB D:=lI (λi j=>decide (0<=j)&&decide (j<=1000000)&&decide (i.natAbs<2^64)) λi j=> .int (i^j.toNat)
noncomputable def tK:D->D->AB D:=lI (λ_ _=>true) λi j=> .bl (decide (i<j))
noncomputable def xV:D->D->AB D:=lI (λ_ _=>true) λi j=> .bl (decide (i<=j))
noncomputable def Ma:D->D->AB D:=lI (λ_ _=>true) λi j=> .bl (decide (j<i))
noncomputable def dGe:D->D->AB D:=lI (λ_ _=>true) λi j=> .bl (decide (j<=i))
section
variable {X:Cx}{a b:AI}{ma mb:ME}{pos:Pos}
theorem eI (ha:SE X a ma)(hb:SE X b mb):SE X (.BinOp a .Sub b pos) (m2 bO ma mb):=Mp Fk Ap ha hb
theorem zom (ha:SE X a ma)(hb:SE X b mb):SE X (.BinOp a .FloorDiv b pos) (m2 tG ma mb):=Mp tQ (zn2 λi j h=>by simpa[Mn]using h) ha hb
theorem jH (ha:SE X a ma)(hb:SE X b mb):SE X (.BinOp a .Mod b pos) (m2 dJ ma mb):=Mp mJ (zn2 λi j h=>by simpa using h) ha hb
theorem Cu (ha:SE X a ma)(hb:SE X b mb):SE X (.BinOp a .Pow b pos) (m2 gM ma mb):=Mp Fm (zn2 λi j h=>by simp only[fJ,Dj]at h;exact⟨h.1.1,h.1.2,h.2⟩) ha hb
theorem Df (ha:SE X a ma)(hb:SE X b mb):SE X (.Compare a [.Gt] [b] pos) (m2 Ma ma mb):=zpQ Bx jM ha hb (Cs _)
end
noncomputable def dR:D->AB D
 | .int i=>some (.int (-i))
 |_=>none
theorem kL {ma:ME}(ha:SE X a ma):SE X (.UnaryOp .USub a pos) (m1 dR ma):=
 Rh Ks (λB G H σ ρ x a d Q I ra hf k=>by
  cases a<;>simp only[dR]at hf<;>try cases hf
  exact⟨_,ra,k G H _ I (Fz.refl G) rfl⟩) ha
noncomputable def Bg (i j:Int):Bool:=(decide (i.natAbs<2^64)||decide (j.natAbs<2^64))||(decide (i.natAbs<2^4000)&&decide (j.natAbs<2^4000))
noncomputable def bY:D->D->AB D
 | .int i,.int j=>if Bg i j then some (.int (i*j))else none
 | .lst ds,.int k=>if decide (-1000000<=k)&&decide (k<=1000000)&&decide (ds.length*k.toNat<=1000000)then some (.lst (List.replicate k.toNat ds).flatten)else none
 |_,_=>none
theorem zj0 {k:Int}(h:k.natAbs<2^4000):Builtin.Int.intBits k<=4000:=by
 unfold Builtin.Int.intBits
 split
 ·exact jR _
 ·have:k.natAbs.log2<4000:=by
   rcases Nat.eq_zero_or_pos k.natAbs with h0|hp
   ·rw[h0];decide
   ·exact(Nat.log2_lt (Nat.ne_of_gt hp)).mpr h
  lia
theorem sI {i j:Int}(h:Bg i j=true):IntMulOk i j:=by
 unfold Bg at h;simp only[Bool.or_eq_true,fJ,Dj]at h;rcases h with(h|h)|⟨h1,h2⟩
 ·exact .of_left (intBits_le_64 (by lia) (by lia))
 ·exact .of_right (intBits_le_64 (by lia) (by lia))
 ·have b1:=zj0 h1;have b2:=zj0 h2;unfold IntMulOk;intro z;simp only[fJ]at z;have z2:=z.2;unfold Builtin.Int.intTooBig at z2
  revert z2
  generalize Builtin.Int.intBits i=p at*
  generalize Builtin.Int.intBits j=q at*
  intro z2;have z3:=of_decide_eq_true z2;have hb:=bitsLine_eq;lia
theorem op_mulG:OpR X (binaryOp .Mult) (rI IntMulOk λi j=> .int (i*j)):=Vu λ_ _ _ _ _ _ _ hc q=>mul_int q hc
theorem fO {ma mb:ME}(ha:SE X a ma)(hb:SE X b mb):SE X (.BinOp a .Mult b pos) (m2 bY ma mb):=by
 refine Mp (op_mulG.or nX) (λB G H σ ρ x y a b d Q I ra rb hf k=>?_) ha hb;cases a with
 |int i=>cases b with
  |int j=>
   refine bC hf λh hf=>?_
   obtain rfl:=Option.some.inj hf;exact .inl ⟨i,j,ra,rb,sI h,k G H _ I (Fz.refl G) rfl⟩
  |_=>exact aK hf
 |lst ds=>cases b with
  |int j=>
   refine bC hf λh hf=>?_
   obtain rfl:=Option.some.inj hf;simp only[fJ,Dj]at h;obtain⟨a,xs,rfl,ha,r⟩:=I.lst ra;have hl:=r.length;refine .inr ⟨a,j,xs,rfl,rb,ha,by lia,by lia,by rw[hl,gF];lia,λp hp=>?_⟩;obtain⟨I2,f2,r2⟩:=I.newL hp (r.rep j.toNat);exact k _ _ _ I2 f2 r2
  |_=>exact aK hf
 |_=>exact aK hf
noncomputable def aV:D->D->AB D
 | .int i,.int j=>some (.int (i+j))
 | .tup a,.tup b=>if a.length+b.length<=16777216 then some (.tup (a++b))else none
 | .lst a,.lst b=>if a.length+b.length<=16777216 then some (.lst (a++b))else none
 | .str a,.str b=>if a.length+b.length<=16777216 then some (.str (a++b))else none
 |_,_=>none
theorem op_catT0:OpR X (binaryOp .Add) (λx y H Q=>∃a b ys,x= .ref a/\y= .ref b/\SqT X.K H a []/\SqT X.K H b ys/\Q (.ref b) H):=by
 intro AM s σ H x y v u Q I rx ry h;obtain⟨a,b,ys,rfl,rfl,ha,hb,q⟩:=h;cases rx;cases ry;obtain⟨its,r1,p1,_⟩:=I.tuple ha;obtain⟨its2,r2,p2,_⟩:=I.tuple hb;obtain rfl:its=[]:=by cases r1;rfl
 obtain⟨⟨cls,dd,data,sl⟩,ho,hc,n,hd⟩:=id p1;obtain⟨⟨cls2,dd2,data2,sl2⟩,ho2,hc2,n2,hd2⟩:=id p2;simp only at hc hd hc2 hd2;subst hc hd hc2 hd2;exact concat_meets ⟨_,ho,rfl⟩ ⟨_,ho2,rfl⟩ noFill_tuple_add seq_tuple_add qa1 qa2 (qa3 _ _)
   (tuple_addW0 a b _ _ n n2 dd dd2 sl sl2 (by simp)) ⟨ho,ho2,⟨.ref b,H,I,rfl,q⟩⟩
theorem cF {ma mb:ME}(ha:SE X a ma)(hb:SE X b mb):SE X (.BinOp a .Add b pos) (m2 aV ma mb):=by
 refine Mp (op_add.or (op_catT.or (op_catT0.or (op_cat.or znR)))) (λB G H σ ρ x y a b d Q I ra rb hf k=>?_) ha hb;cases a with
 |int i=>cases b with
  |int j=>obtain rfl:=Option.some.inj hf;exact .inl ⟨_,_,ra,rb,k G H _ I (Fz.refl G) rfl⟩
  |_=>exact aK hf
 |str i=>cases b with
  |str j=>
   refine bC hf λh hf=>?_
   obtain rfl:=Option.some.inj hf;exact .inr (.inr (.inr (.inr ⟨i,j,ra,rb,by rw[gF];exact h,k G H _ I (Fz.refl G) rfl⟩)))
  |_=>exact aK hf
 |lst as=>cases b with
  |lst bs=>
   refine bC hf λh hf=>?_
   obtain rfl:=Option.some.inj hf;obtain⟨a,xs,rfl,ha,r⟩:=I.lst ra;obtain⟨b,ys,rfl,hb,r2⟩:=I.lst rb;refine .inr (.inr (.inr (.inl ⟨a,b,xs,ys,rfl,rfl,ha,hb,by rw[r.length,r2.length,gF];exact h,λp hp=>?_⟩)));obtain⟨I2,f2,r2⟩:=I.newL hp (r.append r2);exact k _ _ _ I2 f2 r2
  |_=>exact aK hf
 |tup as=>cases b with
  |tup bs=>
   refine bC hf λh hf=>?_
   obtain rfl:=Option.some.inj hf;obtain⟨a,xs,rfl,ha,r⟩:=I.tup ra;obtain⟨b,ys,rfl,hb,r2⟩:=I.tup rb
   by_cases z:xs=[]
   ·subst z;have z':as=[]:=qbD r.length.symm;subst z';exact .inr (.inr (.inl ⟨a,b,ys,rfl,rfl,SqT.of ha,SqT.of hb,k G H _ I (Fz.refl G) rb⟩))
   ·refine .inr (.inl ⟨a,b,xs,ys,rfl,rfl,SqT.of ha,SqT.of hb,z,by rw[r.length,r2.length,gF];exact h,λw=>?_,λw p hp=>?_⟩)
    ·subst w;have w':bs=[]:=qbD r2.length.symm;subst w';rw[lW]at k;exact k G H _ I (Fz.refl G) ra
    ·obtain⟨I2,f2,r2⟩:=I.newT hp (r.append r2);exact k _ _ _ I2 f2 r2
  |_=>exact aK hf
 |_=>exact aK hf
mutual
noncomputable def bP:D->Bool
 | .scr _=>false
 | .exc _=>false
 | .dic _ _=>false
 | .dit _ _=>false
 | .obj _ _ _ _ _=>false
 | .lst ds=>dW ds
 | .tup ds=>dW ds
 |_=>true
noncomputable def dW:List D->Bool
 |[]=>true
 |d::ds=>bP d&&dW ds
end
mutual
noncomputable def eJ:D->D->Bool
 | .non,.non=>true
 | .bl a,.bl b=>a==b
 | .int a,.int b=>a==b
 | .str a,.str b=>a==b
 | .bl a,.int b=>(if a then 1 else 0)==b
 | .int a,.bl b=>a==(if b then 1 else 0)
 | .lst a,.lst b=>cS a b
 | .tup a,.tup b=>cS a b
 |_,_=>false
noncomputable def cS:List D->List D->Bool
 |[],[]=>true
 |a::as,b::bs=>eJ a b&&cS as bs
 |_,_=>false
end
theorem Oc:∀{as bs:AA D},as.length≠bs.length->cS as bs=false
 |[],[],h=>AH rfl h
 |[],_::_,_=>rfl
 |_::_,[],_=>rfl
 |a::as,b::bs,h=>by
  have:=Oc (as:=as) (bs:=bs) (λe=>h (by simp[e]));simp[cS,this]
mutual
theorem zkI:∀d,bP d=true->eJ d d=true
 | .non,_=>rfl
 | .bl b,_=>by simp[eJ]
 | .int b,_=>by simp[eJ]
 | .str b,_=>by simp[eJ]
 | .lst ds,h=>by simp only[bP]at h;simp only[eJ];exact zjo ds h
 | .tup ds,h=>by simp only[bP]at h;simp only[eJ];exact zjo ds h
 | .scr _,h=>by simp[bP]at h
 | .exc _,h=>by simp[bP]at h
 |(.dic _ _),h=>by simp[bP]at h
 |(.dit _ _),h=>by simp[bP]at h
 |(.obj _ _ _ _ _),h=>by simp[bP]at h
theorem zjo:∀ds,dW ds=true->cS ds ds=true
 |[],_=>rfl
 |d::ds,h=>by
  simp only[dW,fJ]at h;simp only[cS,fJ];exact⟨zkI d h.1,zjo ds h.2⟩
end
mutual
noncomputable def depth:D->Nat
 | .lst ds=>vA ds+1
 | .tup ds=>vA ds+1
 |_=>0
noncomputable def vA:List D->Nat
 |[]=>0
 |d::ds=>max (depth d) (vA ds)
end
theorem zjZ:∀{l:AA D} {i:Nat} {d:D},l[i]? =some d->depth d<=vA l
 |[],_,_,h=>by simp at h
 |c::l,0,d,h=>by simp at h;subst h;simp only[vA];lia
 |c::l,i+1,d,h=>by
  have:=zjZ (l:=l) (i:=i) (d:=d) (by simpa using h);simp only[vA];lia
theorem To:∀{l:AA D} {i:Nat} {d:D},l[i]? =some d->dW l=true->bP d=true
 |[],_,_,h,_=>by simp at h
 |c::l,0,d,h,z=>by simp at h;subst h;simp only[dW,fJ]at z;exact z.1
 |c::l,i+1,d,h,z=>by simp only[dW,fJ]at z;exact To (l:=l) (i:=i) (by simpa using h) z.2
mutual
theorem RepD.inj:∀{a b:D} {x:V},bP a=true->bP b=true->RepD K G x a->RepD K G x b->a=b
 | .non,b,x,_,nb,ra,rb=>by
  cases(show x=V.non from ra);cases b<;>simp_all [RepD,bP]
 | .bl c,b,x,_,nb,ra,rb=>by
  cases(show x=V.bl c from ra);cases b<;>simp_all [RepD,bP]
 | .int c,b,x,_,nb,ra,rb=>by
  cases(show x=V.int c from ra);cases b<;>simp_all [RepD,bP]
 | .str c,b,x,_,nb,ra,rb=>by
  cases(show x=V.str c from ra);cases b<;>simp_all [RepD,bP]
 | .lst ds,b,x,na,nb,ra,rb=>by
  obtain⟨p,xs,rfl,q,r⟩:=ra;cases b with
  |lst es=>
   obtain⟨p2,ys,e,q2,r2⟩:=rb;cases e;rw[q]at q2;cases q2;simp only[bP]at na nb;rw[RepL.inj na nb r r2]
  |tup es=>
   obtain⟨p2,ys,e,q2,r2⟩:=rb;cases e;rw[q]at q2;cases q2
  |scr _=>simp[bP]at nb
  |exc _=>simp[bP]at nb
  |dic _ _=>simp[bP]at nb
  |dit _ _=>simp[bP]at nb
  |obj _ _ _ _ _=>simp[bP]at nb
  |non=>simp[RepD]at rb
  |bl _=>simp[RepD]at rb
  |int _=>simp[RepD]at rb
  |str _=>simp[RepD]at rb
 | .tup ds,b,x,na,nb,ra,rb=>by
  obtain⟨p,xs,rfl,q,r⟩:=ra;cases b with
  |tup es=>
   obtain⟨p2,ys,e,q2,r2⟩:=rb;cases e;rw[q]at q2;cases q2;simp only[bP]at na nb;rw[RepL.inj na nb r r2]
  |lst es=>
   obtain⟨p2,ys,e,q2,r2⟩:=rb;cases e;rw[q]at q2;cases q2
  |scr _=>simp[bP]at nb
  |exc _=>simp[bP]at nb
  |dic _ _=>simp[bP]at nb
  |dit _ _=>simp[bP]at nb
  |obj _ _ _ _ _=>simp[bP]at nb
  |non=>simp[RepD]at rb
  |bl _=>simp[RepD]at rb
  |int _=>simp[RepD]at rb
  |str _=>simp[RepD]at rb
 | .scr _,_,_,na,_,_,_=>by simp[bP]at na
 | .exc _,_,_,na,_,_,_=>by simp[bP]at na
 |(.dic _ _),_,_,na,_,_,_=>by simp[bP]at na
 |(.dit _ _),_,_,na,_,_,_=>by simp[bP]at na
 |(.obj _ _ _ _ _),_,_,na,_,_,_=>by simp[bP]at na
theorem RepL.inj:∀{as bs:List D} {xs:List V},dW as=true->dW bs=true->RepL K G xs as->RepL K G xs bs->as=bs
 |[],[],_,_,_,_,_=>rfl
 |[],_::_,xs,_,_,e,h=>by
  obtain⟨_,_,e2,_⟩:=h;cases(show xs=[]from e);cases e2
 |_::_,[],xs,_,_,h,e=>by
  obtain⟨_,_,e2,_⟩:=h;cases(show xs=[]from e);cases e2
 |a::as,b::bs,xs,na,nb,h,h2=>by
  obtain⟨x,ys,e,q,r⟩:=h;obtain⟨x2,ys2,e2,q2,r2⟩:=h2;subst e;cases e2;simp only[dW,fJ]at na nb;rw[RepD.inj na.1 nb.1 q q2,RepL.inj na.2 nb.2 r r2]
end
noncomputable def Cm (ds es:AA D)(j:Nat):Bool:=match ds[j]?,es[j]? with
 |some a,some b=>eJ a b
 |_,_=>false
theorem Qg:∀(as bs:AA D),as.length=bs.length->(List.range as.length).all (Cm as bs)=cS as bs
 |[],[],_=>by simp[cS]
 |a::as,b::bs,h=>by
  have ih:=Qg as bs (by simpa using h);rw[eW,Sj,Yd,List.all_map];simp only[cS,<-ih];congr 1
 |[],_::_,h=>by simp at h
 |_::_,[],h=>by simp at h
section
variable {X:Cx}{AM:AA (AD×Obj)}{σ:St}{H G:Hp}{s:AE}
theorem zoB (r:Vals xs us)(h:RepL X.K G xs ds)(e:us[j]? =some u):∃x d,ds[j]? =some d/\RelV x u/\RepD X.K G x d:=by
 have hl:=r.length;have hl2:=h.length;have hj:j<us.length:=(qap.mp e).1;have ej:ds[j]? =some ds[j]:=cI (by lia);obtain⟨x,q1,q2⟩:=h.get ej;obtain⟨u',h1,h2⟩:=r.get q1;have:u'=u:=by rw[h1]at e;exact Option.some.inj e
 subst this;exact⟨x,_,ej,h2,q2⟩
inductive Sh (K:W.Frag) (G:Hp) (s:Shared):D->Value->Prop
 |non:Sh K G s .non .none
 |bl (c:Bool):Sh K G s (.bl c) (.bool c)
 |int (c:Int) (t:Tok):Sh K G s (.int c) (.int c t)
 |str (c:Str) (t:Tok):Sh K G s (.str c) (.str c t)
 |lst {ds:List D} {p:Addr} {xs:List V} {its:List Value} (q:G p=some (.lst xs)) (r:RepL K G xs ds) (rv:Vals xs its) (pl:PlainL s.heap p its.toArray):Sh K G s (.lst ds) (.ref p)
 |tup {ds:List D} {p:Addr} {xs:List V} {its:List Value} (q:G p=some (.tup xs)) (r:RepL K G xs ds) (rv:Vals xs its) (pl:IsTup s.heap p its.toArray):Sh K G s (.tup ds) (.ref p)
theorem Nn (I:Inv X AM σ H s)(fz:Fz G H){x:V}(na:bP d=true)(ra:RepD X.K G x d)(rx:RelV x u):Sh X.K G s d u:=by
 cases d with
 |non=>rw[show x=V.non from ra]at rx;rw[show u=Value.none from rx];exact .non
 |bl c=>rw[show x=V.bl c from ra]at rx;rw[show u=Value.bool c from rx];exact .bl c
 |int c=>rw[show x=V.int c from ra]at rx;exact Exists.elim rx λt e=>by rw[e];exact .int c t
 |str c=>rw[show x=V.str c from ra]at rx;exact Exists.elim rx λt e=>by rw[e];exact .str c t
 |lst ds=>
  obtain⟨p,xs,e,q,r⟩:=ra;rw[e]at rx;rw[show u=Value.ref p from rx];exact(I.list (SqL.of (fz _ _ q))).elim λits h=> .lst q r h.1 h.2.1
 |tup ds=>
  obtain⟨p,xs,e,q,r⟩:=ra;rw[e]at rx;rw[show u=Value.ref p from rx];exact(I.tuple (SqT.of (fz _ _ q))).elim λits h=> .tup q r h.1 h.2.1
 |_=>exact nomatch (show false=true from na)
theorem Ye (I:Inv X AM σ H s)(fz:Fz G H)(ih:∀(a b:D) (u v:AC),depth a<n->bP a=true->bP b=true->Sh X.K G s a u->Sh X.K G s b v->SeqAt.EqAt A s u v (eJ a b)){ds es:AA D}{xs ys:AA V}{its its2:AA AC}(hd:vA ds<n)(nd:dW ds=true)(ne:dW es=true)(r:RepL X.K G xs ds)(r2:RepL X.K G ys es)(rv:Vals xs its)(rv2:Vals ys its2)(j:Nat)(h1:j<its.toArray.size)(h2:j<its2.toArray.size):SeqAt.EqAt A s its.toArray[j] its2.toArray[j] (Cm ds es j):=by
 rw[cJ]at h1 h2;obtain⟨x1,d1,e1,k1,m1⟩:=zoB rv r (j:=j) (u:=its[j]) (cI h1);obtain⟨x2,d2,e2,k2,m2⟩:=zoB rv2 r2 (j:=j) (u:=its2[j]) (cI h2);rw[show Cm ds es j=eJ d1 d2 by unfold Cm;rw[e1,e2]];exact ih d1 d2 _ _ (Hy (zjZ e1) hd) (To e1 nd) (To e2 ne) (Nn I fz (To e1 nd) m1 k1) (Nn I fz (To e2 ne) m2 k2)
theorem zpb (I:Inv X AM σ H s)(fz:Fz G H)(n:Nat):∀(A:Around) (a b:D) (u v:AC),depth a<n->bP a=true->bP b=true->A.units+n<cLine->Sh X.K G s a u->Sh X.K G s b v->
  SeqAt.EqAt A s u v (eJ a b)/\SeqAt.RcAt A s u v (eJ a b):=by
 induction n with
 |zero=>intro A a b u v hd;exact AH hd (Br _)
 |succ n ih=>
  intro A a b u v hd na nb hu ha hb;have hu':A.units<cLine:=by lia
  cases ha with
  |non=>cases hb with
   |non=>exact⟨.same _,.none_none⟩
   |bl c=>exact⟨.none_bool _,.none_bool _⟩
   |int c t=>exact⟨.none_int _ _,.none_int _ _⟩
   |str c t=>exact⟨.none_str _ _,.none_str _ _⟩
   |lst _ _ _ pl=>exact⟨.none_list pl.isList hu',.none_list pl.isList hu'⟩
   |tup _ _ _ pl=>exact⟨.none_tuple pl hu',.none_tuple pl hu'⟩
  |bl c0=>cases hb with
   |non=>exact⟨.bool_none _,.bool_none _⟩
   |bl c=>exact⟨.bool_bool _ _,.bool_bool _ _⟩
   |int c t=>exact⟨.bool_int _ _ _,.bool_int _ _ _⟩
   |str c t=>exact⟨.bool_str _ _ _,.bool_str _ _ _⟩
   |lst _ _ _ pl=>exact⟨.bool_list _ pl.isList hu',.bool_list _ pl.isList hu'⟩
   |tup _ _ _ pl=>exact⟨.bool_tuple _ pl hu',.bool_tuple _ pl hu'⟩
  |int c0 t0=>cases hb with
   |non=>exact⟨.int_none _ _,.int_none _ _⟩
   |bl c=>exact⟨.int_bool _ _ _,.int_bool _ _ _⟩
   |int c t=>exact⟨.int_int _ _ _ _,.int_int _ _ _ _⟩
   |str c t=>exact⟨.int_str _ _ _ _,.int_str _ _ _ _⟩
   |lst _ _ _ pl=>exact⟨.int_list _ _ pl.isList hu',.int_list _ _ pl.isList hu'⟩
   |tup _ _ _ pl=>exact⟨.int_tuple _ _ pl hu',.int_tuple _ _ pl hu'⟩
  |str c0 t0=>cases hb with
   |non=>exact⟨.str_none _ _,.str_none _ _⟩
   |bl c=>exact⟨.str_bool _ _ _,.str_bool _ _ _⟩
   |int c t=>exact⟨.str_int _ _ _ _,.str_int _ _ _ _⟩
   |str c t=>exact⟨.str_str _ _ _ _,.str_str _ _ _ _⟩
   |lst _ _ _ pl=>exact⟨.str_list _ _ pl.isList hu',.str_list _ _ pl.isList hu'⟩
   |tup _ _ _ pl=>exact⟨.str_tuple _ _ pl hu',.str_tuple _ _ pl hu'⟩
  | @lst ds p xs its q r rv pl=>cases hb with
   |non=>exact⟨.list_none pl.isList hu',.list_none pl.isList hu'⟩
   |bl c=>exact⟨.list_bool _ pl.isList hu',.list_bool _ pl.isList hu'⟩
   |int c t=>exact⟨.list_int _ _ pl.isList hu',.list_int _ _ pl.isList hu'⟩
   |str c t=>exact⟨.list_str _ _ pl.isList hu',.list_str _ _ pl.isList hu'⟩
   |tup _ _ _ pl2=>exact⟨.list_tuple pl.isList pl2 hu',.list_tuple pl.isList pl2 hu'⟩
   | @lst es p2 ys its2 q2 r2 rv2 pl2=>
    have l1:=rv.length;have l2:=r.length;have l3:=rv2.length;have l4:=r2.length;have rc:SeqAt.RcAt A s (.ref p) (.ref p2) (cS ds es):=by
     by_cases hl:ds.length=es.length
     ·have z:=SeqAt.RcAt.lists (A:=A) (s:=s) (e:=Cm ds es) pl.isList pl2.isList (by rw[cJ,cJ];lia) hu' (Ye I fz (λa b u v h1 h2 h3 h4 h5=>(ih A.in1 a b u v h1 h2 h3 (by show A.units+1+n<cLine;lia) h4 h5).1) (Nat.lt_of_succ_lt_succ hd) na nb r r2 rv rv2);rw[cJ,<-l1,l2,Qg ds es hl]at z;exact z
     ·rw[Oc hl];refine .lists_lengths pl.isList pl2.isList ?_ hu';rw[cJ,cJ,Mu];lia
    refine⟨?_,rc⟩
    by_cases hp:p=p2
    ·subst hp;rw[show D.lst ds= .lst es from RepD.inj na nb ⟨p,xs,rfl,q,r⟩ ⟨p,ys,rfl,q2,r2⟩,zkI _ nb];exact .same _
    ·exact .of_refs hp rc
  | @tup ds p xs its q r rv pl=>cases hb with
   |non=>exact⟨.tuple_none pl hu',.tuple_none pl hu'⟩
   |bl c=>exact⟨.tuple_bool _ pl hu',.tuple_bool _ pl hu'⟩
   |int c t=>exact⟨.tuple_int _ _ pl hu',.tuple_int _ _ pl hu'⟩
   |str c t=>exact⟨.tuple_str _ _ pl hu',.tuple_str _ _ pl hu'⟩
   |lst _ _ _ pl2=>exact⟨.tuple_list pl pl2.isList hu',.tuple_list pl pl2.isList hu'⟩
   | @tup es p2 ys its2 q2 r2 rv2 pl2=>
    have l1:=rv.length;have l2:=r.length;have l3:=rv2.length;have l4:=r2.length;have rc:SeqAt.RcAt A s (.ref p) (.ref p2) (cS ds es):=by
     have z:=SeqAt.RcAt.tuples (A:=A) (s:=s) (e:=Cm ds es) pl pl2 hu' (Ye I fz (λa b u v h1 h2 h3 h4 h5=>(ih A.in1 a b u v h1 h2 h3 (by show A.units+1+n<cLine;lia) h4 h5).1) (Nat.lt_of_succ_lt_succ hd) na nb r r2 rv rv2);rw[cJ,cJ]at z
     by_cases hl:ds.length=es.length
     ·rw[show min its.length its2.length=ds.length by lia,show(its.length==its2.length)=true from qbJ.mpr (by lia),Bool.and_true,Qg ds es hl]at z;exact z
     ·rw[show(its.length==its2.length)=false from qab.mpr (by lia),Bool.and_false]at z;rw[Oc hl];exact z
    refine⟨?_,rc⟩
    by_cases hp:p=p2
    ·subst hp;rw[show D.tup ds= .tup es from RepD.inj na nb ⟨p,xs,rfl,q,r⟩ ⟨p,ys,rfl,q2,r2⟩,zkI _ nb];exact .same _
    ·exact .of_refs hp rc
theorem Lj (I:Inv X AM σ H s)(fz:Fz G H)(n:Nat)(A:Around)(a b:D)(x y:V)(u v:AC)(hd:depth a<=n)(na:bP a=true)(nb:bP b=true)(hu:A.units+n+1<cLine)(ra:RepD X.K G x a)(rb:RepD X.K G y b)(rx:RelV x u)(ry:RelV y v):
  SeqAt.EqAt A s u v (eJ a b)/\SeqAt.RcAt A s u v (eJ a b):=zpb I fz (n+1) A a b u v (Nat.lt_succ_of_le hd) na nb hu (Nn I fz na ra rx) (Nn I fz nb rb ry)
end
noncomputable def cV (a b:D):AB D:=if bP a&&bP b&&decide (depth a<=50)then some (.bl (eJ a b))else none
noncomputable def fB (a b:D):AB D:=if bP a&&bP b&&decide (depth a<=50)then some (.bl (!eJ a b))else none
noncomputable def yM (K:AF)(c:Bool->Bool):R2:=λx y H Q=>∃G a b,Fz G H/\RepD K G x a/\RepD K G y b/\bP a=true/\bP b=true/\depth a<=50/\Q (.bl (c (eJ a b))) H
theorem rG (hu:X.A.units+64<cLine):OpR X (compareOp .Eq) (yM X.K id):=by
 intro AM s σ H x y v u Q I rx ry h;obtain⟨G,a,b,fz,ra,rb,na,nb,hd,q⟩:=h;exact(Lj I fz 50 X.A a b x y v u hd na nb (by lia) ra rb rx ry).2 _ _ _ _ ⟨.bl _,H,I,rfl,q⟩
theorem Mr {ma mb:ME}(hu:X.A.units+64<cLine)(ha:SE X a ma)(hb:SE X b mb):SE X (.Compare a [.Eq] [b] pos) (m2 cV ma mb):=by
 refine zpQ (rG hu) (λB G H σ ρ x y a b d Q I ra rb hf k=>?_) ha hb (Cs _);unfold cV at hf;refine bC hf λh hf=>?_
 ·skip
  simp only[fJ,Dj]at h;cases hf;exact⟨G,a,b,I.fz,ra,rb,h.1.1,h.1.2,h.2,k G H _ I (Fz.refl G) rfl⟩
section
variable {X:Cx}{AM:AA (AD×Obj)}{σ:St}{H G:Hp}{s:AE}
theorem yX (I:Inv X AM σ H s)(fz:Fz G H)(A:Around)(a b:D)(u v:AC)(hd:depth a<=50)(na:bP a=true)(nb:bP b=true)(hu:A.units+64<cLine)(ha:Sh X.K G s a u)(hb:Sh X.K G s b v):SeqAt.RcNeAt A s u v (!eJ a b):=by
 have hu':A.units<cLine:=by lia
 have ih:∀(a b:D) (u v:AC),depth a<50->bP a=true->bP b=true->Sh X.K G s a u->Sh X.K G s b v->SeqAt.EqAt A.in1 s u v (eJ a b):=λa b u v h1 h2 h3 h4 h5=>(zpb I fz 50 A.in1 a b u v h1 h2 h3 (by show A.units+1+50<cLine;lia) h4 h5).1
 cases ha with
 |non=>cases hb with
  |non=>exact .none_none
  |bl c=>exact .none_bool _
  |int c t=>exact .none_int _ _
  |str c t=>exact .none_str _ _
  |lst _ _ _ pl=>exact .none_list pl.isList hu'
  |tup _ _ _ pl=>exact .none_tuple pl hu'
 |bl c0=>cases hb with
  |non=>exact .bool_none _
  |bl c=>exact .bool_bool _ _
  |int c t=>exact .bool_int _ _ _
  |str c t=>exact .bool_str _ _ _
  |lst _ _ _ pl=>exact .bool_list _ pl.isList hu'
  |tup _ _ _ pl=>exact .bool_tuple _ pl hu'
 |int c0 t0=>cases hb with
  |non=>exact .int_none _ _
  |bl c=>exact .int_bool _ _ _
  |int c t=>exact .int_int _ _ _ _
  |str c t=>exact .int_str _ _ _ _
  |lst _ _ _ pl=>exact .int_list _ _ pl.isList hu'
  |tup _ _ _ pl=>exact .int_tuple _ _ pl hu'
 |str c0 t0=>cases hb with
  |non=>exact .str_none _ _
  |bl c=>exact .str_bool _ _ _
  |int c t=>exact .str_int _ _ _ _
  |str c t=>exact .str_str _ _ _ _
  |lst _ _ _ pl=>exact .str_list _ _ pl.isList hu'
  |tup _ _ _ pl=>exact .str_tuple _ _ pl hu'
 | @lst ds p xs its q r rv pl=>cases hb with
  |non=>exact .list_none pl.isList hu'
  |bl c=>exact .list_bool _ pl.isList hu'
  |int c t=>exact .list_int _ _ pl.isList hu'
  |str c t=>exact .list_str _ _ pl.isList hu'
  |tup _ _ _ pl2=>exact .list_tuple pl.isList pl2 hu'
  | @lst es p2 ys its2 q2 r2 rv2 pl2=>
   have l1:=rv.length;have l2:=r.length;have l3:=rv2.length;have l4:=r2.length;show SeqAt.RcNeAt A s (.ref p) (.ref p2) (!cS ds es)
   by_cases hl:ds.length=es.length
   ·have z:=SeqAt.RcNeAt.lists (A:=A) (s:=s) (e:=Cm ds es) pl.isList pl2.isList (by rw[cJ,cJ];lia) hu' (Ye I fz ih (Nat.lt_of_succ_le hd) na nb r r2 rv rv2);rw[cJ,<-l1,l2,Qg ds es hl]at z;exact z
   ·rw[Oc hl];refine .lists_lengths pl.isList pl2.isList ?_ hu';rw[cJ,cJ,Mu];lia
 | @tup ds p xs its q r rv pl=>cases hb with
  |non=>exact .tuple_none pl hu'
  |bl c=>exact .tuple_bool _ pl hu'
  |int c t=>exact .tuple_int _ _ pl hu'
  |str c t=>exact .tuple_str _ _ pl hu'
  |lst _ _ _ pl2=>exact .tuple_list pl pl2.isList hu'
  | @tup es p2 ys its2 q2 r2 rv2 pl2=>
   have l1:=rv.length;have l2:=r.length;have l3:=rv2.length;have l4:=r2.length;show SeqAt.RcNeAt A s (.ref p) (.ref p2) (!cS ds es);have z:=SeqAt.RcNeAt.tuples (A:=A) (s:=s) (e:=Cm ds es) pl pl2 hu' (Ye I fz ih (Nat.lt_of_succ_le hd) na nb r r2 rv rv2);rw[cJ,cJ]at z
   by_cases hl:ds.length=es.length
   ·rw[show min its.length its2.length=ds.length by lia,show(its.length==its2.length)=true from qbJ.mpr (by lia),Bool.and_true,Qg ds es hl]at z;exact z
   ·rw[show(its.length==its2.length)=false from qab.mpr (by lia),Bool.and_false]at z;rw[Oc hl];exact z
theorem Gv (I:Inv X AM σ H s)(fz:Fz G H)(A:Around)(a b:D)(x y:V)(u v:AC)(hd:depth a<=50)(na:bP a=true)(nb:bP b=true)(hu:A.units+64<cLine)(ra:RepD X.K G x a)(rb:RepD X.K G y b)(rx:RelV x u)(ry:RelV y v):
  SeqAt.RcNeAt A s u v (!eJ a b):=yX I fz A a b u v hd na nb hu (Nn I fz na ra rx) (Nn I fz nb rb ry)
end
theorem rQ (hu:X.A.units+64<cLine):OpR X (compareOp .NotEq) (yM X.K not):=by
 intro AM s σ H x y v u Q I rx ry h;obtain⟨G,a,b,fz,ra,rb,na,nb,hd,q⟩:=h;exact Gv I fz X.A a b x y v u hd na nb hu ra rb rx ry _ _ _ _ ⟨.bl _,H,I,rfl,q⟩
theorem Ci:V2 X (yM X.K not) fB:=by
 intro B G H σ ρ x y a b d Q I ra rb hf k;unfold fB at hf;refine bC hf λh hf=>?_
 ·skip
  simp only[fJ,Dj]at h;cases hf;exact⟨G,a,b,I.fz,ra,rb,h.1.1,h.1.2,h.2,k G H _ I (Fz.refl G) rfl⟩
theorem Sk:V2 X (yM X.K id) cV:=by
 intro B G H σ ρ x y a b d Q I ra rb hf k;unfold cV at hf;refine bC hf λh hf=>?_
 ·skip
  simp only[fJ,Dj]at h;cases hf;exact⟨G,a,b,I.fz,ra,rb,h.1.1,h.1.2,h.2,k G H _ I (Fz.refl G) rfl⟩
theorem Ss {ma mb:ME}(hu:X.A.units+64<cLine)(ha:SE X a ma)(hb:SE X b mb):SE X (.Compare a [.NotEq] [b] pos) (m2 fB ma mb):=
 zpQ (rQ hu) Ci ha hb (Cs _)
noncomputable def cG:D->D->AB D
 | .lst ds,.int i=>atI ds i
 | .tup ds,.int i=>atI ds i
 | .scr ns,.int i=>(atI ns i).map .int
 |_,_=>none
theorem Bk {α β:Type}(f:α->β){xs:AA α}{i:Int}{v:α}(h:atI xs i=some v):atI (xs.map f) i=some (f v):=by
 unfold atI at h ⊢;rw[cY];cases q:cB xs.length i with
 |none=>rw[q]at h;exact aK h
 |some j=>
  rw[q]at h;show(xs.map f)[j]? =_;rw[eG,show xs[j]? =some v from h]
  rfl
noncomputable def ReadD (K:AF)(G H:Hp)(v:V):D->Prop
 | .lst ds=>∃a xs,v= .ref a/\H a=some (.lst xs)/\RepL K G xs ds
 |d=>RepD K G v d
theorem ReadD.of (fz:Fz G H)(h:RepD K G v d):ReadD K G H v d:=by
 cases d with
 |lst ds=>obtain⟨a,xs,e,q,r⟩:=h;exact⟨a,xs,e,fz a _ q,r⟩
 |_=>exact h
noncomputable def Sl.read:Sl->AB D
 | .emp=>none
 | .two _ _=>none
 | .tre _=>none
 | .ptr _=>none
 | .val d=>some d
 | .own ds=>some (.lst ds)
 | .par ds=>some (.lst ds)
noncomputable def fC (ρ:R)(j:Nat):Bool:=match ρ[j]? with
 |some (.val _)=>true
 |some (.own _)=>true
 |some (.par _)=>true
 |_=>false
theorem SI.has (I:SI K B G H σ ρ)(h:fC ρ j=true):∃v,σ[j]? =some (some v):=by
 unfold fC at h;cases e:ρ[j]? with
 |none=>rw[e]at h;cases h
 |some s=>
  rw[e]at h;have q:=I.slot j s e;cases s with
  |emp=>cases h
  |two _ _=>cases h
  |tre _=>cases h
  |ptr _=>cases h
  |val d=>obtain⟨v,e,_⟩:=q;exact⟨v,e⟩
  |own d=>obtain⟨l,_,e,_⟩:=q;exact⟨_,e⟩
  |par d=>obtain⟨l,_,e,_⟩:=q;exact⟨_,e⟩
theorem SI.read (I:SI K B G H σ ρ)(hv:σ[j]? =some (some v))(e:ρ[j]? =some s)(q:s.read=some d):ReadD K G H v d:=by
 have h:=I.slot j s e;cases s with
 |emp=>exact aK q
 |two _ _=>exact aK q
 |tre _=>exact aK q
 |ptr _=>exact aK q
 |val d'=>
  cases q;obtain⟨w,e1,r⟩:=h;rw[hv]at e1;cases e1;exact .of I.fz r
 |own ds=>
  cases q;obtain⟨l,xs,e1,_,h3,h4,_⟩:=h;rw[hv]at e1;cases e1;exact⟨l,xs,rfl,h3,h4⟩
 |par ds=>
  cases q;obtain⟨l,xs,e1,_,h3,h4,_⟩:=h;rw[hv]at e1;cases e1;exact⟨l,xs,rfl,h3,h4⟩
theorem zpm {x y:V}{a b d:D}{Q:VK}(I:SI K B G H σ ρ)(ra:ReadD K G H x a)(rb:RepD K G y b)(hf:cG a b=some d)(k:∀v,RepD K G v d->Q v H):rIx K x y H Q:=by
 cases a<;>cases b<;>simp only[cG]at hf<;>try exact aK hf
 ·rename_i ds i;obtain⟨p,xs,rfl,hp,r⟩:=ra;obtain⟨v,e,q⟩:=r.at hf;exact .inl ⟨p,xs,i,v,rfl,rb,SqL.of hp,e,k _ q⟩
 ·rename_i ds i;obtain⟨p,xs,rfl,hp,r⟩:=I.tup ra;obtain⟨v,e,q⟩:=r.at hf;exact .inr (.inl ⟨p,xs,i,v,rfl,rb,SqT.of hp,e,k _ q⟩)
 ·rename_i ns i;obtain⟨p,rfl,hp⟩:=ra;cases e:atI ns i with
  |none=>rw[e]at hf;exact aK hf
  |some n=>
   rw[e]at hf;cases hf;exact .inl ⟨p,_,i,.int n,rfl,rb,I.fz.sql hp,Bk V.int e,k _ rfl⟩
theorem Sg:V2 X (rIx X.K) cG:=λB G H σ ρ x y a b d Q I ra rb hf k=>zpm I (.of I.fz ra) rb hf λv q=>k G H v I (Fz.refl G) q
theorem eS {ma mb:ME}(ha:SE X a ma)(hb:SE X b mb)(hs:autoParam (lL b) zu7._auto_1):SE X (.Subscript a b pos) (m2 cG ma mb):=Qj mZ Sg ha hb hs
noncomputable def aI (j:Nat)(mi:ME):ME:=λρ=>if fC ρ j then(mi ρ).bind λp=>(p.2[j]?.bind Sl.read).bind λd=>(cG d p.1).map λe=>(e,p.2)else none
theorem aR (j:Nat)(hb:SE X b mb)(hN:autoParam (X.N[j]? =some x) zu2._auto_1)(hv:autoParam (dG X.env.scope x) zu6._auto_1)(hd:autoParam ((x==("__debug__":Str))=false) zu1._auto_1)(hcd:autoParam ((x==("__classdict__":Str))=false) zu1._auto_1)(hs:autoParam (lL b) zu7._auto_1):SE X (.Subscript (.Name x pos') b pos) (aI j mb):=by
  refine hb.el λtb pb sb=>?_
  refine⟨_,oH mZ (eE hN hv hd hcd) pb hs,λB G H σ ρ d ρ' Q I hm k=>?_⟩;unfold aI at hm;refine bC hm λhh hm=>?_
  . skip
    obtain⟨v,ev⟩:=I.has hh;cases e1:mb ρ with
    |none=>rw[e1]at hm;exact aK hm
    |some q=>
      obtain⟨i,ρ1⟩:=q;rw[e1]at hm;simp only[jN]at hm;cases e2:ρ1[j]? with
      |none=>rw[e2]at hm;exact aK hm
      |some s=>
        rw[e2]at hm;simp only[jN]at hm;cases e3:s.read with
        |none=>rw[e3]at hm;exact aK hm
        |some a=>
          rw[e3]at hm;simp only[jN]at hm;cases e4:cG a i with
          |none=>rw[e4]at hm;exact aK hm
          |some c=>
            rw[e4]at hm;cases hm;exact⟨v,ev,sb B G H σ ρ i ρ' _ I e1 λG1 H1 y I1 f1 r1=>zpm I1 (I1.read ev e2 e3) r1 e4 λw q=>k G1 H1 w I1 f1 q⟩
noncomputable def bS:AA D->AB D
 |[.lst ds]=>some (.int ds.length)
 |[.tup ds]=>some (.int ds.length)
 |[.scr ns]=>some (.int ns.length)
 |_=>none
theorem zm6 {x:V}{a d:D}{Q:VK}(I:SI K B G H σ ρ)(ra:ReadD K G H x a)(hf:bS [a]=some d)(k:∀v,RepD K G v d->Q v H):
  ∃p ys,[x]=[V.ref p]/\(SqL K H p ys\/SqT K H p ys)/\Q (.int ys.length) H:=by
 cases a<;>simp only[bS]at hf<;>try cases hf
 ·obtain⟨p,xs,rfl,hp,r⟩:=ra;exact⟨p,xs,rfl,.inl (SqL.of hp),by rw[r.length];exact k _ rfl⟩
 ·obtain⟨p,xs,rfl,hp,r⟩:=I.tup ra;exact⟨p,xs,rfl,.inr (SqT.of hp),by rw[r.length];exact k _ rfl⟩
 ·obtain⟨p,rfl,hp⟩:=ra;exact⟨p,_,rfl,.inl (I.fz.sql hp),by rw[cY];exact k _ rfl⟩
theorem RepL.one (h:RepL K G xs [d]):∃x,xs=[x]/\RepD K G x d:=by
 obtain⟨x,ys,e,q,r⟩:=h;cases(show ys=[]from r);exact⟨x,e,q⟩
theorem RepL.two {a b:D}(h:RepL K G xs [a,b]):∃x y,xs=[x,y]/\RepD K G x a/\RepD K G y b:=by
 obtain⟨x,ys,e,q,r⟩:=h;obtain⟨y,e2,q2⟩:=r.one;subst e2;exact⟨x,y,e,q,q2⟩
theorem qH (h:bS ds=some d):∃a,ds=[a]:=by
 match ds,h with
 |[a],_=>exact⟨a,rfl⟩
 |[],h=>exact aK h
 |_::_::_,h=>simp[bS]at h
theorem Gw:VC X (λxs H Q=>∃p ys,xs=[.ref p]/\(SqL X.K H p ys\/SqT X.K H p ys)/\Q (.int ys.length) H) bS:=by
 intro B G H σ ρ xs ds d Q I r hf k;obtain⟨a,rfl⟩:=qH hf;obtain⟨x,rfl,ra⟩:=r.one;exact zm6 I (.of I.fz ra) hf λv q=>k G H v I (Fz.refl G) q
theorem jD (ml:X.mg "len"=none)(ha:SA X [e] ma)(hg:autoParam (Gl X "len") zu2._auto_1)(he:autoParam (starEach [e] X.env=(false,eval e X.env)::starEach [] X.env) zu2._auto_1):SE X (.Call (.Name "len" p) [e] [] pos) (mC bS ma):=
 Nr Nf Gw Nq ml ha hg (by decide) (by decide) he rfl
noncomputable def eU (j:Nat):ME:=λρ=>(ρ[j]?.bind Sl.read).bind λd=>(bS [d]).map λe=>(e,ρ)
theorem fG (j:Nat)(ml:X.mg "len"=none)(hN:autoParam (X.N[j]? =some x) zu2._auto_1)(hv:autoParam (dG X.env.scope x) zu6._auto_1)(hd:autoParam ((x==("__debug__":Str))=false) zu1._auto_1)(hcd:autoParam ((x==("__classdict__":Str))=false) zu1._auto_1)(hg:autoParam (Gl X "len") zu2._auto_1)(he:autoParam (starEach [.Name x pos'] X.env=(false,eval (.Name x pos') X.env)::starEach [] X.env) zu2._auto_1):SE X (.Call (.Name "len" p) [.Name x pos'] [] pos) (eU j):=by
 refine⟨_,Iy Nf hg ml Nq (gK (eE hN hv hd hcd) iS he) (by decide) (by decide) he rfl,λB G H σ ρ d ρ' Q I hm k=>?_⟩;unfold eU at hm;cases e2:ρ[j]? with
 |none=>rw[e2]at hm;exact aK hm
 |some s=>
  rw[e2]at hm;simp only[jN]at hm;cases e3:s.read with
  |none=>rw[e3]at hm;exact aK hm
  |some a=>
   rw[e3]at hm;simp only[jN]at hm;cases e4:bS [a]with
   |none=>rw[e4]at hm;exact aK hm
   |some c=>
    rw[e4]at hm;obtain⟨rfl,rfl⟩:=bM hm;have hh:fC ρ j=true:=by
     unfold fC;rw[e2];cases s<;>first|rfl|exact aK e3
    obtain⟨v,ev⟩:=I.has hh;exact⟨v,ev,zm6 I (I.read ev e2 e3) e4 λw q=>k G H w I (Fz.refl G) q⟩
noncomputable def fX:AA D->AB D
 |[.lst ds]=>some (.tup ds)
 |[.tup ds]=>some (.tup ds)
 |[.scr ns]=>some (.tup (ns.map .int))
 |_=>none
theorem qG:VC X (λxs H Q=>∃p ys,xs=[.ref p]/\((SqL X.K H p ys/\∀l,H l=none->Q (.ref l) (upd H l (.tup ys)))\/(SqT X.K H p ys/\Q (.ref p) H))) fX:=by
 intro B G H σ ρ xs ds d Q I r hf k
 match ds,hf with
 |[a],hf=>
  obtain⟨x,rfl,ra⟩:=r.one;cases a<;>simp only[fX]at hf<;>try cases hf
  ·obtain⟨p,ys,rfl,hp,q⟩:=I.lst ra;refine⟨p,ys,rfl,.inl ⟨SqL.of hp,λl hl=>?_⟩⟩;obtain⟨I2,f2,r2⟩:=I.newT hl q;exact k _ _ _ I2 f2 r2
  ·obtain⟨p,ys,e,hp,q⟩:=I.tup ra;subst e;exact⟨p,ys,rfl,.inr ⟨SqT.of hp,k G H _ I (Fz.refl G) ra⟩⟩
  ·obtain⟨p,rfl,hp⟩:=ra;refine⟨p,_,rfl,.inl ⟨I.fz.sql hp,λl hl=>?_⟩⟩;obtain⟨I2,f2,r2⟩:=I.newT hl (RepL.ints _);exact k _ _ _ I2 f2 r2
 |[],hf=>exact aK hf
 |_::_::_,hf=>simp[fX]at hf
theorem kS (ml:X.mg "tuple"=none)(ha:SA X [e] ma)(hg:autoParam (Gl X "tuple") zu2._auto_1)(he:autoParam (starEach [e] X.env=(false,eval e X.env)::starEach [] X.env) zu2._auto_1)(hb:autoParam (bootBuiltins "tuple"=some (.type "tuple")) zu8._auto_1):
  SE X (.Call (.Name "tuple" p) [e] [] pos) (mC fX ma):=
 zlt zka qG hb ml ha hg (by decide) (by decide) he rfl
noncomputable def cL:AA D->AB (AA D)
 |[.lst ds]=>some ds
 |[.tup ds]=>some ds
 |[.scr ns]=>some (ns.map .int)
 |_=>none
noncomputable def oC (f:AA D->AB (AA D))(ma:MA):MO:=λρ=>(ma ρ).bind λp=>(f p.1).map λd=>(d,p.2)
theorem Gd {f:AA D->AB (AA D)}{d:AA D}(h:oC f ma ρ=some (d,ρ')):∃a,ma ρ=some (a,ρ')/\f a=some d:=by
 unfold oC at h;cases e1:ma ρ with
 |none=>rw[e1]at h;exact aK h
 |some p=>
  obtain⟨a,ρ1⟩:=p;rw[e1]at h;simp only[jN]at h;cases e3:f a with
  |none=>rw[e3]at h;exact aK h
  |some c=>rw[e3]at h;obtain⟨rfl,rfl⟩:=bM h;exact⟨a,rfl,e3⟩
theorem SI.newO (I:SI K B G H σ ρ){p:AD}(hp:H p=none)(xs:AA V):SI K B G (upd H p (.lst xs)) σ ρ/\G p=none/\(upd H p (.lst xs)) p=some (.lst xs)/\B.H p=none/\Nw K G (upd H p (.lst xs)) σ ρ p:=
 ⟨I.allocO hp _,I.fz.free hp,dU,I.there p hp,I.nw_move (I.nw hp) λi s a _ _ g h=>⟨g,bF λz=>h (by rw[z];exact hp)⟩⟩
theorem uY (ml:X.mg "list"=none)(ha:SA X [e] ma)(hg:autoParam (Gl X "list") zu2._auto_1)(he:autoParam (starEach [e] X.env=(false,eval e X.env)::starEach [] X.env) zu2._auto_1)(hb:autoParam (bootBuiltins "list"=some (.type "list")) zu8._auto_1):
  SO X (.Call (.Name "list" p) [e] [] pos) (oC cL ma):=by
 refine ha.el λt pa sa=>?_
 refine⟨_,Wv zlB hg ml hb pa (by decide) (by decide) he rfl,λB G H σ ρ ds ρ' Q I hm k=>?_⟩;obtain⟨as,e1,e2⟩:=Gd hm;refine sa B G H σ ρ as ρ' _ I e1 λG1 H1 vs I1 f1 r1=>?_
 match as,e2 with
 |[a],e2=>
  obtain⟨x,rfl,ra⟩:=r1.one;have fin:∀(q:AD) (ys:AA V) (sq:SqL X.K H1 q ys\/SqT X.K H1 q ys),x= .ref q->RepL X.K G1 ys ds->∃p ys,[x]=[V.ref p]/\(SqL X.K H1 p ys\/SqT X.K H1 p ys)/\∀l,H1 l=none->Q (.ref l) (upd H1 l (.lst ys)):=λq ys sq ex r=>by
   refine⟨q,ys,by rw[ex],sq,λl hl=>?_⟩;obtain⟨I2,g2,h2,b2,n2⟩:=I1.newO hl ys;exact k G1 _ l ys I2 f1 g2 h2 r b2 n2
  cases a<;>simp only[cL]at e2<;>try cases e2
  ·obtain⟨p,ys,ex,hp,q⟩:=I1.lst ra;exact fin p ys (.inl (SqL.of hp)) ex q
  ·obtain⟨p,ys,ex,hp,q⟩:=I1.tup ra;exact fin p ys (.inr (SqT.of hp)) ex q
  ·obtain⟨p,ex,hp⟩:=ra;exact fin p _ (.inl (I1.fz.sql hp)) ex (RepL.ints _)
 |[],e2=>exact aK e2
 |_::_::_,e2=>simp[cL]at e2
section
variable {X:Cx}{es:AA AI}{ma:MA}{pos:Pos}
noncomputable def aT (ma:MA):ME:=λρ=>(ma ρ).bind λp=>if p.1.length<=16777216 then some (.tup p.1,p.2)else none
theorem cA {x1}(h:SA X es ma):SE X (.Tuple es x1 pos) (aT ma):=by
 refine h.el λt pa sa=>?_
 refine⟨_,Hh pa,λB G H σ ρ d ρ' Q I hm k=>?_⟩;unfold aT at hm;cases e1:ma ρ with
 |none=>rw[e1]at hm;exact aK hm
 |some q=>
  obtain⟨ds,ρ1⟩:=q;rw[e1]at hm;simp only[jN]at hm;refine bC hm λhl hm=>?_
  ·skip
   cases hm;refine sa B G H σ ρ ds ρ' _ I e1 λG1 H1 vs I1 f1 r1=>⟨by rw[r1.length,gF];exact hl,λp hp=>?_⟩
   obtain⟨I2,f2,r2⟩:=I1.newT hp r1;exact k _ _ _ I2 (f1.trans f2) r2
noncomputable def bT (ma:MA):MO:=λρ=>(ma ρ).bind λp=>if p.1.length<=16777216 then some (p.1,p.2)else none
theorem fK (h:SA X es ma):SO X (.List es pos) (bT ma):=by
 refine h.el λt pa sa=>?_
 refine⟨_,zo6 pa,λB G H σ ρ d ρ' Q I hm k=>?_⟩;unfold bT at hm;cases e1:ma ρ with
 |none=>rw[e1]at hm;exact aK hm
 |some q=>
  obtain⟨ds,ρ1⟩:=q;rw[e1]at hm;simp only[jN]at hm;refine bC hm λhl hm=>?_
  ·skip
   cases hm;refine sa B G H σ ρ _ ρ' _ I e1 λG1 H1 vs I1 f1 r1=>⟨by rw[r1.length,gF];exact hl,λp hp=>?_⟩
   obtain⟨I2,g2,h2,b2,n2⟩:=I1.newO hp vs;exact k G1 _ p vs I2 f1 g2 h2 r1 b2 n2
end
theorem Wu {α β:Type}{o:AB α}{f:α->AB β}{b:β}(h:o.bind f=some b):∃a,o=some a/\f a=some b:=by
 cases o with
 |none=>exact aK h
 |some a=>exact⟨a,rfl,h⟩
theorem Os {α β:Type}{o:AB α}{f:α->β}{b:β}(h:o.map f=some b):∃a,o=some a/\f a=b:=by
 cases o with
 |none=>exact aK h
 |some a=>cases h;exact⟨a,rfl,rfl⟩
noncomputable def Ab:D->AB Bool
 | .bl b=>some b
 | .int i=>some (i !=0)
 | .non=>some false
 | .lst ds=>some (!ds.isEmpty)
 | .tup ds=>some (!ds.isEmpty)
 |_=>none
noncomputable def aQ (ma:ME):MT:=λρ=>(ma ρ).bind λp=>(Ab p.1).map λb=>(b,p.2)
section
variable {X:Cx}{a b c:AI}{ma mb mc:ME}{pos:Pos}
theorem zox (h:RepL K G xs ds):(!xs.isEmpty)=!ds.isEmpty:=by
 have:=h.length;cases xs<;>cases ds<;>simp_all
theorem Wd (ha:SE X a ma)(he:autoParam (∀whole,isTrue a X.env whole=(do let v<-whole;standAt a.pos;holding [v] (truthy v))) zu9._auto_1):STt X a (aQ ma):=by
  refine ha.el λta pa sa=>?_
  refine⟨_,oD pa he,λB G H σ ρ d ρ' Q I hm k=>?_⟩;refine bN hm λx ρ1 e1 e2=>?_
  refine dE e2 λt e3 e4=>?_
  obtain⟨rfl,rfl⟩:=Prod.mk.inj e4;refine sa B G H σ ρ x ρ1 _ I e1 λG1 H1 v I1 f1 r1=>⟨t,?_,k G1 H1 I1 f1⟩
  cases x<;>simp only[Ab]at e3<;>try cases e3
  . cases r1;exact rfl
  . cases r1;exact rfl
  . cases r1;exact rfl
  . obtain⟨p,xs,rfl,hp,r⟩:=I1.lst r1
    exact .inl ⟨xs,SqL.of hp,(zox r).symm⟩
  . obtain⟨p,xs,rfl,hp,r⟩:=I1.tup r1
    exact .inr (.inl ⟨xs,SqT.of hp,(zox r).symm⟩)
theorem zC {r:R2}(ho:OpR X (compareOp op) r)(hv:V2 X r f)(hB:∀x y d,f x y=some d->∃t,d= .bl t)(ha:SE X a ma)(hb:SE X b mb)(hm:behindInMarks op b=false):STt X (.Compare a [op] [b] pos) (aQ (m2 f ma mb)):=by
 refine ha.el λta pa sa=>?_
 refine hb.el λtb pb sb=>?_
 refine⟨_,xR ho pa pb hm,λB G H σ ρ d ρ' Q I hm k=>?_⟩;refine bN hm λx ρ1 e1 e2=>?_
 refine dE e2 λt e3 e4=>?_
 obtain⟨rfl,rfl⟩:=Prod.mk.inj e4;obtain⟨_,_,_,_,_,e5⟩:=rP e1;obtain⟨t',rfl⟩:=hB _ _ _ e5;obtain rfl:t'=t:=Option.some.inj e3;refine Xs hv sa sb B G H σ ρ (.bl t') ρ1 _ I e1 λG1 H1 v I1 f1 r1=>?_
 cases(show v=V.bl t' from r1);exact⟨t',rfl,k G1 H1 I1 f1⟩
theorem Mc {g:Int->Int->Bool}(x y d:D)(h:lI (λ_ _=>true) (λi j=> .bl (g i j)) x y=some d):∃t,d= .bl t:=Wx h λ_ _ _ _ _ e=>⟨_,e.symm⟩
theorem Sx (x y d:D)(h:cV x y=some d):∃t,d= .bl t:=by
 unfold cV at h
 split at h
 ·cases h;exact⟨_,rfl⟩
 ·exact aK h
theorem Ud (x y d:D)(h:fB x y=some d):∃t,d= .bl t:=by
 unfold fB at h
 split at h
 ·cases h;exact⟨_,rfl⟩
 ·exact aK h
theorem Uw (ha:SE X a ma)(hb:SE X b mb):STt X (.Compare a [.Lt] [b] pos) (aQ (m2 tK ma mb)):=zC Rb jM Mc ha hb (Cs _)
theorem Pi (ha:SE X a ma)(hb:SE X b mb):STt X (.Compare a [.Gt] [b] pos) (aQ (m2 Ma ma mb)):=zC Bx jM Mc ha hb (Cs _)
theorem Th (ha:SE X a ma)(hb:SE X b mb):STt X (.Compare a [.GtE] [b] pos) (aQ (m2 dGe ma mb)):=zC Tq jM Mc ha hb (Cs _)
theorem gX (hu:X.A.units+64<cLine)(ha:SE X a ma)(hb:SE X b mb):STt X (.Compare a [.Eq] [b] pos) (aQ (m2 cV ma mb)):=zC (rG hu) Sk Sx ha hb (Cs _)
theorem lZ (hu:X.A.units+64<cLine)(ha:SE X a ma)(hb:SE X b mb):STt X (.Compare a [.NotEq] [b] pos) (aQ (m2 fB ma mb)):=zC (rQ hu) Ci Ud ha hb (Cs _)
end
noncomputable def Sy (X:Cx)(e:AI)(m:MT)(t:TT):Prop:=∀B G H σ ρ d ρ' (Q:Bool->Hp->Prop),SI X.K B G H σ ρ->m ρ=some (d,ρ')->(∀G' H',SI X.K B G' H' σ ρ'->Fz G G'->Q d H')->t σ H Q
noncomputable def STw (X:Cx)(e:AI)(m:MT):Prop:=∃t,PW X e t/\Sy X e m t
theorem STw.el {m:MT}(h:STw X e m)(k:∀t,PW X e t->Sy X e m t->C):C:=h.elim λt q=>k t q.1 q.2
theorem STw.st {m:MT}(h:STw X e m):STt X e m:=h.el λt p s=>⟨t,p.pt,s⟩
noncomputable def Mi (a b:MT):MT:=λρ=>(a ρ).bind λp=>if p.1 then b p.2 else some (false,p.2)
noncomputable def fT (a b:MT):MT:=λρ=>(a ρ).bind λp=>if p.1 then some (true,p.2)else b p.2
noncomputable def Bj (a:MT):MT:=λρ=>(a ρ).map λp=>(!p.1,p.2)
section
variable {X:Cx}{a b c:AI}{ma mb:MT}{pos:Pos}{rest:AA AI}
theorem zl0 (h:STt X a ma):STw X (.BoolOp .And [a] pos) ma:=h.el λt p s=>⟨t,wF p,s⟩
theorem Jw (h:STt X a ma):STw X (.BoolOp .Or [a] pos) ma:=h.el λt p s=>⟨t,Eu p,s⟩
theorem zoV (ha:STt X a ma)(hb:STw X (.BoolOp .And (b::rest) pos) mb):STw X (.BoolOp .And (a::b::rest) pos) (Mi ma mb):=by
 refine ha.el λta pa sa=>?_
 refine hb.el λtb pb sb=>?_
 refine⟨_,Gm pa pb,λB G H σ ρ d ρ' Q I hm k=>?_⟩;refine bN hm λx ρ1 e1 e2=>?_
 refine sa B G H σ ρ x ρ1 _ I e1 λG1 H1 I1 f1=>?_
 cases x with
 |true=>exact sb B G1 H1 σ ρ1 d ρ' Q I1 e2 λG2 H2 I2 f2=>k G2 H2 I2 (f1.trans f2)
 |false=>obtain⟨rfl,rfl⟩:=bM e2;exact k G1 H1 I1 f1
theorem uJ (ha:STt X a ma)(hb:STw X (.BoolOp .Or (b::rest) pos) mb):STw X (.BoolOp .Or (a::b::rest) pos) (fT ma mb):=by
 refine ha.el λta pa sa=>?_
 refine hb.el λtb pb sb=>?_
 refine⟨_,Rm pa pb,λB G H σ ρ d ρ' Q I hm k=>?_⟩;refine bN hm λx ρ1 e1 e2=>?_
 refine sa B G H σ ρ x ρ1 _ I e1 λG1 H1 I1 f1=>?_
 cases x with
 |false=>exact sb B G1 H1 σ ρ1 d ρ' Q I1 e2 λG2 H2 I2 f2=>k G2 H2 I2 (f1.trans f2)
 |true=>obtain⟨rfl,rfl⟩:=bM e2;exact k G1 H1 I1 f1
theorem Kv (ha:STt X a ma):STt X (.UnaryOp .Not a pos) (Bj ma):=by
 refine ha.el λta pa sa=>?_
 refine⟨_,Gy pa,λB G H σ ρ d ρ' Q I hm k=>?_⟩;refine gZ hm λx ρ1 e1 e2=>?_
 cases e2;exact sa B G H σ ρ x ρ1 _ I e1 λG1 H1 I1 f1=>k G1 H1 I1 f1
end
noncomputable def jA (a b:ME):ME:=λρ=>(a ρ).bind λp=>match p.1 with
 | .bl true=>b p.2
 | .bl false=>some (.bl false,p.2)
 |_=>none
noncomputable def eOr (a b:ME):ME:=λρ=>(a ρ).bind λp=>match p.1 with
 | .bl true=>some (.bl true,p.2)
 | .bl false=>b p.2
 |_=>none
section
variable {X:Cx}{a b c:AI}{ma mb:ME}{pos:Pos}{rest:AA AI}{op:BoolOp}
theorem Tt (h:SE X a ma):SE X (.BoolOp op [a] pos) ma:=h.el λt p s=>⟨t,Hu p,s⟩
theorem Ov (ha:SE X a ma)(hb:SE X (.BoolOp .And (b::rest) pos) mb):SE X (.BoolOp .And (a::b::rest) pos) (jA ma mb):=by
 refine ha.el λta pa sa=>?_
 refine hb.el λtb pb sb=>?_
 refine⟨_,Kb pa pb,λB G H σ ρ d ρ' Q I hm k=>?_⟩;refine bN hm λx ρ1 e1 e2=>?_
 refine sa B G H σ ρ x ρ1 _ I e1 λG1 H1 v I1 f1 r1=>?_
 cases x<;>try exact aK e2
 rename_i y;refine⟨y,r1,?_⟩;cases y with
 |true=>exact sb B G1 H1 σ ρ1 d ρ' Q I1 e2 λG2 H2 v I2 f2 r2=>k G2 H2 v I2 (f1.trans f2) r2
 |false=>obtain⟨rfl,rfl⟩:=bM e2;exact k G1 H1 _ I1 f1 rfl
noncomputable def Sa (c:MT)(a b:ME):ME:=λρ=>(c ρ).bind λp=>if p.1 then a p.2 else b p.2
theorem zm1 (hc:STt X c mc)(ha:SE X a ma)(hb:SE X b mb):SE X (.IfExp c a b pos) (Sa mc ma mb):=by
 refine hc.el λtc pc sc=>?_
 refine ha.el λta pa sa=>?_
 refine hb.el λtb pb sb=>?_
 refine⟨_,sW pc pa pb,λB G H σ ρ d ρ' Q I hm k=>?_⟩;refine bN hm λx ρ1 e1 e2=>?_
 refine sc B G H σ ρ x ρ1 _ I e1 λG1 H1 I1 f1=>?_
 cases x with
 |true=>exact sa B G1 H1 σ ρ1 d ρ' Q I1 e2 λG2 H2 v I2 f2 r2=>k G2 H2 v I2 (f1.trans f2) r2
 |false=>exact sb B G1 H1 σ ρ1 d ρ' Q I1 e2 λG2 H2 v I2 f2 r2=>k G2 H2 v I2 (f1.trans f2) r2
end
noncomputable def sR (f g:D->D->AB D)(a b c:ME):ME:=λρ=>(a ρ).bind λp=>(b p.2).bind λq=>(f p.1 q.1).bind λt=>match t with
 | .bl true=>(c q.2).bind λr=>(g q.1 r.1).map λd=>(d,r.2)
 | .bl false=>some (.bl false,q.2)
 |_=>none
section
variable {X:Cx}{a b c:AI}{ma mb mc:ME}{pos:Pos}
theorem ziZ {r r':R2}{f g:D->D->AB D}{ta tb tc:TE}(hv:V2 X r f)(hw:V2 X r' g)(sa:∀B G H σ ρ d ρ' (Q:VK),SI X.K B G H σ ρ->ma ρ=some (d,ρ')->(∀G' H' v,SI X.K B G' H' σ ρ'->Fz G G'->RepD X.K G' v d->Q v H')->ta σ H Q)(sb:∀B G H σ ρ d ρ' (Q:VK),SI X.K B G H σ ρ->mb ρ=some (d,ρ')->(∀G' H' v,SI X.K B G' H' σ ρ'->Fz G G'->RepD X.K G' v d->Q v H')->tb σ H Q)(sc:∀B G H σ ρ d ρ' (Q:VK),SI X.K B G H σ ρ->mc ρ=some (d,ρ')->(∀G' H' v,SI X.K B G' H' σ ρ'->Fz G G'->RepD X.K G' v d->Q v H')->tc σ H Q):
  ∀B G H σ ρ d ρ' (Q:VK),SI X.K B G H σ ρ->sR f g ma mb mc ρ=some (d,ρ')->(∀G' H' v,SI X.K B G' H' σ ρ'->Fz G G'->RepD X.K G' v d->Q v H')->zo7 r r' ta tb tc σ H Q:=by
 intro B G H σ ρ d ρ' Q I hm k;refine bN hm λx ρ1 e1 h1=>?_
 refine bN h1 λy ρ2 e2 h2=>?_
 refine aM h2 λt e3 h3=>?_
 refine sa B G H σ ρ x ρ1 _ I e1 λG1 H1 v I1 f1 r1=>sb B G1 H1 σ ρ1 y ρ2 _ I1 e2 λG2 H2 u I2 f2 r2=>hv B G2 H2 σ ρ2 v u x y t _ I2 (r1.mono f2) r2 e3 λG3 H3 z I3 f3 r3=>?_
 cases t<;>try exact aK h3
 rename_i t;refine⟨t,r3,?_⟩;cases t with
 |true=>
  refine bN h3 λw ρ3 e4 h4=>?_
  refine dE h4 λd' e5 e6=>?_
  cases e6;exact sc B G3 H3 σ ρ2 w ρ3 _ I3 e4 λG4 H4 s I4 f4 r4=>hw B G4 H4 σ ρ3 u s y w d Q I4 (r2.mono (f3.trans f4)) r4 e5 λG5 H5 z5 I5 f5 r5=>k G5 H5 z5 I5 (f1.trans (f2.trans (f3.trans (f4.trans f5)))) r5
 |false=>obtain⟨rfl,rfl⟩:=bM h3;exact k G3 H3 _ I3 (f1.trans (f2.trans f3)) rfl
theorem zk2 {r r':R2}{f g:D->D->AB D}(ho:OpR X (compareOp op) r)(ho':OpR X (compareOp op') r')(hv:V2 X r f)(hw:V2 X r' g)(ha:SE X a ma)(hb:SE X b mb)(hc:SE X c mc)(hm:autoParam (lastMarks [op,op'] [b,c]=false) zu5._auto_1):SE X (.Compare a [op,op'] [b,c] pos) (sR f g ma mb mc):=by
 refine ha.el λta pa sa=>?_
 refine hb.el λtb pb sb=>?_
 refine hc.el λtc pc sc=>?_
 exact⟨_,rO ho ho' pa pb pc hm,ziZ hv hw sa sb sc⟩
theorem zkf {r r':R2}{f g:D->D->AB D}(ho:OpR X (compareOp op) r)(ho':OpR X (compareOp op') r')(hv:V2 X r f)(hw:V2 X r' g)(hB:∀x y d,g x y=some d->∃t,d= .bl t)(ha:SE X a ma)(hb:SE X b mb)(hc:SE X c mc)(hm:autoParam (lastMarks [op,op'] [b,c]=false) zu5._auto_1):STt X (.Compare a [op,op'] [b,c] pos) (aQ (sR f g ma mb mc)):=by
 refine ha.el λta pa sa=>?_
 refine hb.el λtb pb sb=>?_
 refine hc.el λtc pc sc=>?_
 refine⟨_,sS ho ho' pa pb pc hm,λB G H σ ρ d ρ' Q I hm k=>?_⟩;refine bN hm λx ρ1 e1 e2=>?_
 refine dE e2 λt e3 e4=>?_
 obtain⟨rfl,rfl⟩:=Prod.mk.inj e4;have hx:∃t',x= .bl t':=by
  refine bN e1 λx' ρ1' _ h1=>?_
  refine bN h1 λy' ρ2' _ h2=>?_
  refine aM h2 λt' et' h3=>?_
  clear et';cases t'<;>try exact aK h3
  rename_i t';cases t' with
  |true=>
   refine bN h3 λw ρ3 e4 h4=>?_
   refine dE h4 λd' e5 e6=>?_
   cases e6;exact hB _ _ _ e5
  |false=>obtain⟨rfl,rfl⟩:=bM h3;exact⟨_,rfl⟩
 obtain⟨t',rfl⟩:=hx;obtain rfl:t'=t:=Option.some.inj e3;refine ziZ hv hw sa sb sc B G H σ ρ (.bl t') ρ1 _ I e1 λG1 H1 v I1 f1 r1=>?_
 cases(show v=V.bl t' from r1);exact⟨t',rfl,k G1 H1 I1 f1⟩
end
inductive Fl where
 |next|brk|cont|ret (r:Sl)
noncomputable abbrev MS:=R->AB (Fl×R)
noncomputable def Ug (K:AF)(B:Bs)(G H:Hp)(v:V):Sl->Prop
 | .val d=>RepD K G v d
 | .own ds=>∃l xs,v= .ref l/\G l=none/\H l=some (.lst xs)/\RepL K G xs ds/\B.H l=none
 | .tre t=>∃A,RepT K G H v t A/\A.Nodup/\∀a∈A,G a=none/\B.H a=none
 | .two ds es=>∃t l xs m ys,v= .ref t/\H t=some (.tup [.ref l,.ref m])/\l≠m/\G l=none/\H l=some (.lst xs)/\RepL K G xs ds/\B.H l=none/\G m=none/\H m=some (.lst ys)/\RepL K G ys es/\B.H m=none
 |_=>False
noncomputable def Post (K:AF)(B:Bs)(G:Hp)(E:Ends)(fl:Fl)(ρ':R):Prop:=match fl with
 | .next=>∀G' H' σ',SI K B G' H' σ' ρ'->Fz G G'->E.nx σ' H'
 | .brk=>∀G' H' σ',SI K B G' H' σ' ρ'->Fz G G'->E.bk σ' H'
 | .cont=>∀G' H' σ',SI K B G' H' σ' ρ'->Fz G G'->E.ct σ' H'
 | .ret r=>∀G' H' σ' v,SI K B G' H' σ' ρ'->Fz G G'->Ug K B G' H' v r->E.rt v H'
theorem Post.mono {G G1:Hp}{E:Ends}{fl:Fl}(h:Post K B G E fl ρ')(f:Fz G G1):Post K B G1 E fl ρ':=by
 cases fl with
 |next=>exactλG' H' σ' I g=>h G' H' σ' I (f.trans g)
 |brk=>exactλG' H' σ' I g=>h G' H' σ' I (f.trans g)
 |cont=>exactλG' H' σ' I g=>h G' H' σ' I (f.trans g)
 |ret r=>exactλG' H' σ' v I g=>h G' H' σ' v I (f.trans g)
noncomputable def SSb (X:Cx)(st:Stmt)(m:MS)(t:TS):Prop:=∀B G H σ ρ fl ρ' (E:Ends),SI X.K B G H σ ρ->m ρ=some (fl,ρ')->Post X.K B G E fl ρ'->t E σ H
noncomputable def SS (X:Cx)(st:Stmt)(m:MS):Prop:=∃t,PS X st t/\SSb X st m t
theorem SS.el {st:Stmt}(h:SS X st m)(k:∀t,PS X st t->SSb X st m t->C):C:=h.elim λt q=>k t q.1 q.2
noncomputable def Re (X:Cx)(st:AA Stmt)(m:MS)(t:TS):Prop:=∀B G H σ ρ fl ρ' (E:Ends),SI X.K B G H σ ρ->m ρ=some (fl,ρ')->Post X.K B G E fl ρ'->t E σ H
noncomputable def SSs (X:Cx)(st:AA Stmt)(m:MS):Prop:=∃t,PSs X st t/\Re X st m t
theorem SSs.el {st:AA Stmt}(h:SSs X st m)(k:∀t,PSs X st t->Re X st m t->C):C:=h.elim λt q=>k t q.1 q.2
noncomputable def dS:MS:=λρ=>some (.next,ρ)
noncomputable def aF (a b:MS):MS:=λρ=>(a ρ).bind λp=>match p.1 with
 | .next=>b p.2
 |f=>some (f,p.2)
section
variable {X:Cx}{st:Stmt}{rest:AA Stmt}{m n:MS}{e:AI}{me:ME}{pos:Pos}
theorem eD:SSs X [] dS:=⟨_,xW,λB G H σ ρ fl ρ' E I hm k=>by obtain⟨rfl,rfl⟩:=bM hm;exact k G H σ I (Fz.refl G)⟩
theorem aU (h:SS X st m):SSs X [st] m:=h.el λt p s=>⟨t,Bf p,s⟩
theorem aN (h:SS X st m)(hr:SSs X rest n):SSs X (st::rest) (aF m n):=by
 refine h.el λt p s=>?_
 refine hr.el λu q z=>?_
 refine⟨_,pE p q,λB G H σ ρ fl ρ' E I hm k=>?_⟩;refine bN hm λf ρ1 e1 e2=>?_
 refine s B G H σ ρ f ρ1 _ I e1 ?_;cases f with
 |next=>exactλG1 H1 σ1 I1 f1=>z B G1 H1 σ1 ρ1 fl ρ' E I1 e2 (k.mono f1)
 |brk=>obtain⟨rfl,rfl⟩:=bM e2;exact k
 |cont=>obtain⟨rfl,rfl⟩:=bM e2;exact k
 |ret r=>obtain⟨rfl,rfl⟩:=bM e2;exact k
noncomputable def sC (m:ME):MS:=λρ=>(m ρ).map λp=>(.next,p.2)
theorem Bm (h:SE X e me)(hs:autoParam (swapsWith e none pos.line X.env=pure false) zu2._auto_1):SS X (.Expr e pos) (sC me):=by
 refine h.el λt p s=>?_
 refine⟨_,Ca p hs,λB G H σ ρ fl ρ' E I hm k=>?_⟩;refine gZ hm λd ρ1 e1 e2=>?_
 cases e2;exact s B G H σ ρ d ρ1 _ I e1 λG1 H1 v I1 f1 _=>k G1 H1 σ I1 f1
noncomputable def bA (m:ME):MS:=λρ=>(m ρ).map λp=>(.ret (.val p.1),p.2)
theorem cO (h:SE X e me):SS X (.Return (some e) pos) (bA me):=by
 refine h.el λt p s=>?_
 refine⟨_,Ww p,λB G H σ ρ fl ρ' E I hm k=>?_⟩;refine gZ hm λd ρ1 e1 e2=>?_
 cases e2;exact s B G H σ ρ d ρ1 _ I e1 λG1 H1 v I1 f1 r1=>k G1 H1 σ v I1 f1 r1
noncomputable def De (m:MO):MS:=λρ=>(m ρ).map λp=>(.ret (.own p.1),p.2)
theorem Mk {mo:MO}(h:SO X e mo):SS X (.Return (some e) pos) (De mo):=by
 refine h.el λt p s=>?_
 refine⟨_,Ww p,λB G H σ ρ fl ρ' E I hm k=>?_⟩;refine gZ hm λd ρ1 e1 e2=>?_
 cases e2;exact s B G H σ ρ d ρ1 _ I e1 λG1 H1 l xs I1 f1 g1 h1 r1 b1 _=>k G1 H1 σ _ I1 f1 ⟨l,xs,rfl,g1,h1,r1,b1⟩
theorem SI.emp (I:SI K B G H σ ρ)(i:Nat):SI K B G H σ (ρ.set i .emp):=by
 by_cases hi:i<ρ.length
 ·have hs:σ[i]? =some (σ[i]'(by rw[I.len];exact hi)):=cI _;have h:=I.chg (i:=i) (ov:=σ[i]'(by rw[I.len];exact hi)) (s':= .emp) I.fz (Fz.refl G) I.new I.keep I.there (λ_ _ _ _ _ _ g _=>⟨g,rfl,id⟩) trivial;rwa[vV hs]at h
 ·rw[List.set_eq_of_length_le (by lia)];exact I
noncomputable def jL (i:Nat):MS:=λρ=>match ρ[i]? with
 |some (.val d)=>some (.ret (.val d),ρ)
 |some (.own ds)=>some (.ret (.own ds),ρ.set i .emp)
 |_=>none
theorem lR (i:Nat)(hN:autoParam (X.N[i]? =some x) zu2._auto_1)(hv:autoParam (dG X.env.scope x) zu6._auto_1)(hd:autoParam ((x==("__debug__":Str))=false) zu1._auto_1)(hcd:autoParam ((x==("__classdict__":Str))=false) zu1._auto_1):SS X (.Return (some (.Name x pos')) pos) (jL i):=by
 refine⟨_,Ww (eE hN hv hd hcd),λB G H σ ρ fl ρ' E I hm k=>?_⟩;unfold jL at hm;cases e:ρ[i]? with
 |none=>rw[e]at hm;exact aK hm
 |some s=>
  rw[e]at hm;have h:=I.slot i s e;cases s with
  |emp=>exact aK hm
  |two _ _=>exact aK hm
  |tre _=>exact aK hm
  |ptr _=>exact aK hm
  |par ds=>exact aK hm
  |val d=>obtain⟨rfl,rfl⟩:=bM hm;obtain⟨v,h1,h2⟩:=h;exact⟨v,h1,k G H σ v I (Fz.refl G) h2⟩
  |own ds=>
   obtain⟨rfl,rfl⟩:=bM hm;obtain⟨l,xs,h1,h2,h3,h4,h5⟩:=h;exact⟨.ref l,h1,k G H σ _ (I.emp i) (Fz.refl G) ⟨l,xs,rfl,h2,h3,h4,h5⟩⟩
noncomputable def dH (c:MT)(a b:MS):MS:=λρ=>(c ρ).bind λp=>if p.1 then a p.2 else b p.2
theorem dY {c:AI}{a b:AA Stmt}{ma mb:MS}(hc:STt X c mc)(ha:SSs X a ma)(hb:SSs X b mb):SS X (.If c a b pos) (dH mc ma mb):=by
 refine hc.el λtc pc sc=>?_
 refine ha.el λta pa sa=>?_
 refine hb.el λtb pb sb=>?_
 refine⟨_,Qo pc pa pb,λB G H σ ρ fl ρ' E I hm k=>?_⟩;refine bN hm λx ρ1 e1 e2=>?_
 refine sc B G H σ ρ x ρ1 _ I e1 λG1 H1 I1 f1=>?_
 cases x with
 |true=>exact sa B G1 H1 σ ρ1 fl ρ' E I1 e2 (k.mono f1)
 |false=>exact sb B G1 H1 σ ρ1 fl ρ' E I1 e2 (k.mono f1)
end
noncomputable def Yq (X:Cx)(tg:AI)(g:D->R->AB R)(t:TG):Prop:=∀B G H σ ρ v d ρ' (Q:St->Hp->Prop),SI X.K B G H σ ρ->RepD X.K G v d->g d ρ=some ρ'->(∀G' H' σ',SI X.K B G' H' σ' ρ'->Fz G G'->Q σ' H')->t v σ H Q
noncomputable def SG (X:Cx)(tg:AI)(g:D->R->AB R):Prop:=∃t,PG X tg t/\Yq X tg g t
theorem SG.el (h:SG X tg g)(k:∀t,PG X tg t->Yq X tg g t->C):C:=h.elim λt q=>k t q.1 q.2
noncomputable def Pa (X:Cx)(tgs:AA AI)(g:AA D->R->AB R)(t:nE):Prop:=∀B G H σ ρ vs ds ρ' (Q:St->Hp->Prop),SI X.K B G H σ ρ->RepL X.K G vs ds->g ds ρ=some ρ'->(∀G' H' σ',SI X.K B G' H' σ' ρ'->Fz G G'->Q σ' H')->t vs σ H Q
noncomputable def SGs (X:Cx)(tgs:AA AI)(g:AA D->R->AB R):Prop:=∃t,Bq X tgs t/\Pa X tgs g t
theorem SGs.el {g:AA D->R->AB R}(h:SGs X tgs g)(k:∀t,Bq X tgs t->Pa X tgs g t->C):C:=h.elim λt q=>k t q.1 q.2
noncomputable def gN (i:Nat):D->R->AB R:=λd ρ=>some (ρ.set i (.val d))
noncomputable def eA:AA D->R->AB R:=λds ρ=>match ds with
 |[]=>some ρ
 |_=>none
noncomputable def bI (g:D->R->AB R)(h:AA D->R->AB R):AA D->R->AB R:=λds ρ=>match ds with
 |d::ds=>(g d ρ).bind λρ1=>h ds ρ1
 |[]=>none
noncomputable def gT (n:Nat)(g:AA D->R->AB R):D->R->AB R:=λd ρ=>match d with
 | .tup ds=>if ds.length=n then g ds ρ else none
 |_=>none
section
variable {X:Cx}{pos:Pos}
theorem aW (i:Nat)(hN:X.N.Nodup)(hi:autoParam (X.N[i]? =some x) zu2._auto_1)(hx:autoParam (iO X.env.scope x) zu6._auto_1)(hf:autoParam (X.fn x=true\/X.env.scope.names.lookup x=some .local) zu6._auto_1):SG X (.Name x pos) (gN i):=
 ⟨_,zmi hN hi hx hf,λB G H σ ρ v d ρ' Q I r hm k=>by cases hm;exact k G H _ (I.set r) (Fz.refl G)⟩
theorem eZ:SGs X [] eA:=⟨_,zoD,λB G H σ ρ vs ds ρ' Q I r hm k=>by
 cases ds with
 |nil=>cases hm;exact⟨r,k G H σ I (Fz.refl G)⟩
 |cons=>exact aK hm⟩
theorem bQ {e:AI}(h1:SG X e g)(h2:SGs X es h)(hs:autoParam ((assignEach (e::es) X.env).map (·.2)=assign e X.env::(assignEach es X.env).map (·.2)) zu2._auto_1):SGs X (e::es) (bI g h):=by
 refine h1.el λt p s=>?_
 refine h2.el λu q z=>?_
 refine⟨_,zmB p q hs,λB G H σ ρ vs ds ρ' Q I r hm k=>?_⟩;cases ds with
 |nil=>exact aK hm
 |cons d ds=>
  obtain⟨x,ys,rfl,rx,ry⟩:=r;refine aM hm λρ1 e1 e2=>?_
  exact⟨x,ys,rfl,s B G H σ ρ x d ρ1 _ I rx e1 λG1 H1 σ1 I1 f1=>z B G1 H1 σ1 ρ1 ys ds ρ' Q I1 (ry.mono f1) e2 λG2 H2 σ2 I2 f2=>k G2 H2 σ2 I2 (f1.trans f2)⟩
theorem eV {g:AA D->R->AB R}(hc:X.calm=true)(h:SGs X es g)(hn:autoParam ((assignEach es X.env).length=n) zu2._auto_1)(hst:autoParam ((assignEach es X.env).findIdx? (·.1)=none) zu2._auto_1):SG X (.Tuple es k pos) (gT n g):=by
 refine h.el λt p s=>?_
 refine⟨_,Fx hc p hn hst,λB G H σ ρ v d ρ' Q I r hm k=>?_⟩;cases d<;>try exact aK hm
 rename_i ds;simp only[gT]at hm;refine bC hm λhl hm=>?_
 ·skip
  obtain⟨a,xs,e,ha,rx⟩:=I.tup r;exact⟨a,xs,e,SqT.of ha,by rw[rx.length];exact hl,s B G H σ ρ xs ds ρ' Q I rx hm k⟩
variable {e tg:AI}{me:ME}{mo:MO}
noncomputable def iH (m:ME)(g:D->R->AB R):MS:=λρ=>(m ρ).bind λp=>(g p.1 p.2).map λρ'=>(.next,ρ')
theorem Gi (he:SE X e me)(hg:SG X tg g)(hs:autoParam (swapsWithSole [tg] e pos.line X.env=pure false) zu2._auto_1)(hw:autoParam (swappedStores [tg] e X.env=pure none) zu2._auto_1)(h1:autoParam ((assignEach [tg] X.env).map (·.2)=[assign tg X.env]) zu2._auto_1):SS X (.Assign [tg] e pos) (iH me g):=by
 refine he.el λt p s=>?_
 refine hg.el λu q z=>?_
 refine⟨_,Vp p q hs hw h1,λB G H σ ρ fl ρ' E I hm k=>?_⟩;refine bN hm λd ρ1 e1 h2=>?_
 refine dE h2 λρ2 e2 e3=>?_
 obtain⟨rfl,rfl⟩:=Prod.mk.inj e3;exact s B G H σ ρ d ρ1 _ I e1 λG1 H1 v I1 f1 r1=>z B G1 H1 σ ρ1 v d ρ2 _ I1 r1 e2 λG2 H2 σ2 I2 f2=>k G2 H2 σ2 I2 (f1.trans f2)
noncomputable def aO (i:Nat)(m:ME):MS:=λρ=>(m ρ).map λp=>(.next,p.2.set i (.val p.1))
theorem bL (i:Nat)(he:SE X e me)(hN:X.N.Nodup)(hi:autoParam (X.N[i]? =some x) zu2._auto_1)(hx:autoParam (iO X.env.scope x) zu6._auto_1)(hs:autoParam (swapsWith e (some (.Name x pos')) pos.line X.env=pure false) zu2._auto_1)(hf:autoParam (X.fn x=true\/X.env.scope.names.lookup x=some .local) zu6._auto_1):SS X (.Assign [.Name x pos'] e pos) (aO i me):=by
  refine he.el λt p s=>?_
  refine⟨_,Xb hN hi hx p hs hf,λB G H σ ρ fl ρ' E I hm k=>?_⟩;refine gZ hm λd ρ1 e1 e3=>?_
  cases e3;exact s B G H σ ρ d ρ1 _ I e1 λG1 H1 v I1 f1 r1=>k G1 H1 _ (I1.set r1) f1
noncomputable def fW (i:Nat)(m:MO):MS:=λρ=>(m ρ).map λp=>(.next,p.2.set i (.own p.1))
theorem iB (i:Nat)(he:SO X e mo)(hN:X.N.Nodup)(hi:autoParam (X.N[i]? =some x) zu2._auto_1)(hx:autoParam (iO X.env.scope x) zu6._auto_1)(hs:autoParam (swapsWith e (some (.Name x pos')) pos.line X.env=pure false) zu2._auto_1)(hf:autoParam (X.fn x=true\/X.env.scope.names.lookup x=some .local) zu6._auto_1):SS X (.Assign [.Name x pos'] e pos) (fW i mo):=by
  refine he.el λt p s=>?_
  refine⟨_,Xb hN hi hx p hs hf,λB G H σ ρ fl ρ' E I hm k=>?_⟩;refine gZ hm λd ρ1 e1 e3=>?_
  cases e3;exact s B G H σ ρ d ρ1 _ I e1 λG1 H1 l xs I1 f1 g1 h1 r1 b1 n1=>k G1 H1 _ (I1.setO g1 h1 r1 b1 n1) f1
noncomputable def cN (i:Nat)(m:ME):MS:=λρ=>if(ρ[i]?.bind Sl.items).isSome then(m ρ).bind λp=>p.2[i]?.bind λs=>s.items.bind λds=>if ds.length<16777216 then some (.next,p.2.set i (s.put (ds++[p.1])))else none else none
theorem gW (i:Nat){pos' apos cpos:Pos}(he:SE X e me)(hN:autoParam (X.N[i]? =some x) zu2._auto_1)(hv:autoParam (dG X.env.scope x) zu6._auto_1)(hd:autoParam ((x==("__debug__":Str))=false) zu1._auto_1)(hcd:autoParam ((x==("__classdict__":Str))=false) zu1._auto_1)(hbase:autoParam (attributeBase (.Name x pos') "append" X.env (eval (.Name x pos') X.env)=eval (.Name x pos') X.env) zu2._auto_1)(hfew :autoParam (((backTo cpos (starEach [e] X.env)).all (λx => !x.1) && (backToKw cpos (keywordEach [] X.env)).all (λx => x.1.isSome)
   &&decide ([e].length+([]:AA Keyword).length+(if([]:AA Keyword).isEmpty then 0 else 1)<30))=true) zu2._auto_1)(hline:autoParam ((apos.endLine==cpos.line)=true) zu2._auto_1)(hs:autoParam (starEach [e] X.env=(false,eval e X.env)::starEach [] X.env) zu2._auto_1):SS X (.Expr (.Call (.Attribute (.Name x pos') "append" apos) [e] [] cpos) pos) (cN i me):=by
 refine he.el λt p s=>?_
 refine⟨_,Ca (Ck Dd qbM qbN Yf (eE hN hv hd hcd) (gK p iS hs) hbase hfew hline hs rfl) (by rfl),λB G H σ ρ fl ρ' E I hm k=>?_⟩;unfold cN at hm;refine bC hm λhso hm=>?_
 ·skip
  obtain⟨ds0,hso⟩:=qaP.mp hso;refine aM hso λs0 e0 q0=>?_
  obtain⟨l,xs0,h1,h2,h3,h4⟩:=I.wr e0 q0;refine bN hm λd ρ1 e1 hm=>?_
  refine aM hm λs1 e2 hm=>?_
  refine aM hm λds e3 hm=>?_
  refine bC hm λhl hm=>?_
  ·skip
   obtain⟨rfl,rfl⟩:=bM hm;refine⟨.ref l,h1,.inl ⟨rfl,_,SqL.of h3⟩,s B G H σ ρ d ρ1 _ I e1 λG1 H1 v I1 f1 r1=>?_⟩;obtain⟨l',xs,k1,k2,k3,k4⟩:=I1.wr e2 e3;rw[h1]at k1;cases k1;refine⟨l,xs,v,rfl,rfl,k3,by rw[k4.length,gF];exact hl,?_⟩;exact k G1 _ σ (I1.write e2 e3 h1 (k4.snoc r1)) f1
noncomputable def iE (j:Nat)(mi me:ME):MS:=λρ=>(me ρ).bind λp=>if fC p.2 j then(mi p.2).bind λq=>match q.1 with
 | .int k=>q.2[j]?.bind λs=>s.items.bind λds=>(cB ds.length k).bind λn=>some (.next,q.2.set j (s.put (ds.set n p.1)))
 |_=>none else none
theorem Jx (j:Nat){i:AI}{mi:ME}{pos' tpos:Pos}(he:SE X e me)(hi:SE X i mi)(hN:autoParam (X.N[j]? =some x) zu2._auto_1)(hv:autoParam (dG X.env.scope x) zu6._auto_1)(hd:autoParam ((x==("__debug__":Str))=false) zu1._auto_1)(hcd:autoParam ((x==("__classdict__":Str))=false) zu1._auto_1)(ha :autoParam (∀ v, assign (.Subscript (.Name x pos') i tpos) X.env v = (do
   let ov<-holding [v] (eval (.Name x pos') X.env)
   let iv<-holding [v,ov] (eval i X.env)
   standAt tpos
   holding [v,ov,iv] (setItem ov iv v)
   release [v,ov,iv] [])) zu9._auto_1)(hs:autoParam (swapsWithSole [.Subscript (.Name x pos') i tpos] e pos.line X.env=pure false) zu2._auto_1)(hw:autoParam (swappedStores [.Subscript (.Name x pos') i tpos] e X.env=pure none) zu2._auto_1)(h1:autoParam ((assignEach [.Subscript (.Name x pos') i tpos] X.env).map (·.2)=[assign (.Subscript (.Name x pos') i tpos) X.env]) zu2._auto_1):SS X (.Assign [.Subscript (.Name x pos') i tpos] e pos) (iE j mi me):=by
 refine he.el λt p s=>?_
 refine hi.el λu q z=>?_
 refine⟨_,Vp p (zoN (eE hN hv hd hcd) q Vc ha) hs hw h1,λB G H σ ρ fl ρ' E I hm k=>?_⟩;refine bN hm λd ρ1 e1 hm=>?_
 refine s B G H σ ρ d ρ1 _ I e1 λG1 H1 v I1 f1 r1=>?_
 refine bC hm λhh hm=>?_
 ·skip
  obtain⟨w,ew⟩:=I1.has hh;refine bN hm λkd ρ2 e2 hm=>?_
  cases kd<;>try exact aK hm
  rename_i kk;refine aM hm λs2 e3 hm=>?_
  refine aM hm λds e4 hm=>?_
  refine aM hm λn e5 hm=>?_
  obtain⟨rfl,rfl⟩:=bM hm;refine⟨w,ew,z B G1 H1 σ ρ1 (.int kk) ρ2 _ I1 e2 λG2 H2 y I2 f2 r2=>?_⟩;obtain⟨l,xs,k1,k2,k3,k4⟩:=I2.wr e3 e4;rw[ew]at k1;cases k1;refine⟨l,xs,kk,n,rfl,r2,k3,by rw[k4.length];exact e5,?_⟩;exact k G2 _ σ (I2.write e3 e4 ew (k4.set n (r1.mono f2))) (f1.trans f2)
end
structure Itm (K:W.Frag)(J:It)(G:Hp)(items:List D):Prop where
 go:∀H i,Fz G H->i<items.length->J.go i H
 yld:∀H i x H',Fz G H->J.yld i H x H'->∀d,items[i]? =some d->(H'=H/\RepD K G x d)\/∃p xs ds,H p=none/\H'=upd H p (.tup xs)/\x= .ref p/\d= .tup ds/\RepL K G xs ds
 stop:∀H i,Fz G H->items.length<=i->J.stop i H
noncomputable def lU (X:Cx)(tg it:AI)(m:MA)(wi:TI):Prop:=∀B G H σ ρ ds ρ' (Q:It->Hp->Prop),SI X.K B G H σ ρ->m ρ=some (ds,ρ')->(∀J G' H',SI X.K B G' H' σ ρ'->Fz G G'->Itm X.K J G' ds->Q J H')->wi σ H Q
noncomputable def SIt (X:Cx)(tg it:AI)(m:MA):Prop:=∃wi,PI X tg it wi/\lU X tg it m wi
theorem SIt.el {m:MA}(h:SIt X tg it m)(k:∀wi,PI X tg it wi->lU X tg it m wi->C):C:=h.elim λwi q=>k wi q.1 q.2
noncomputable def fI (f:D->R->AB (Fl×R)):AA D->R->AB (Fl×R)
 |[],ρ=>some (.next,ρ)
 |d::ds,ρ=>(f d ρ).bind λp=>match p.1 with
  | .next=>fI f ds p.2
  | .cont=>fI f ds p.2
  | .brk=>some (.next,p.2)
  | .ret r=>some (.ret r,p.2)
noncomputable def bR (mi:MA)(g:D->R->AB R)(mb:MS):MS:=λρ=>(mi ρ).bind λp=>fI (λd ρ=>(g d ρ).bind λρ'=>mb ρ') p.1 p.2
theorem SI.yld {x:V}(I:SI K B G H σ ρ)(h:(H'=H/\RepD K G x d)\/∃p xs ds,H p=none/\H'=upd H p (.tup xs)/\x= .ref p/\d= .tup ds/\RepL K G xs ds):∃G',SI K B G' H' σ ρ/\Fz G G'/\RepD K G' x d:=by
 rcases h with⟨rfl,r⟩|⟨p,xs,ds,hp,rfl,rfl,rfl,r⟩
 ·exact⟨G,I,Fz.refl G,r⟩
 ·obtain⟨I2,f2,r2⟩:=I.newT hp r;exact⟨_,I2,f2,r2⟩
theorem eY {mi:MA}{mb:MS}(hp:PassesOwn (model X.prog X.w) X.A X.env X.xe)(hc:X.calm=true)(hi:SIt X tg it mi)(hg:SG X tg g)(hb:SSs X body mb)(hs:autoParam (∀x,foldedSetIterable it X.env x=pure x) zu9._auto_1):SS X (.For tg it body [] pos) (bR mi g mb):=by
  refine hi.el λwi pi si=>?_
  refine hg.el λtg' pg sg=>?_
  refine hb.el λtb pb sb=>?_
  refine⟨_,Jk hp hc pi pg pb hs,λB G H σ ρ fl ρ' E I hm k=>?_⟩;refine bN hm λds ρ1 e1 hm=>?_
  refine si B G H σ ρ ds ρ1 _ I e1 λJ G1 H1 I1 f1 IT=>?_
  refine⟨λi m σ H=>m=ds.length-i/\i<=ds.length/\∃G2 ρ2,SI X.K B G2 H σ ρ2/\Fz G1 G2/\fI (λd ρ=>(g d ρ).bind λρ'=>mb ρ') (ds.drop i) ρ2=some (fl,ρ'),⟨ds.length,by simp,jR _,G1,ρ1,I1,Fz.refl _,by simpa using hm⟩,?_⟩;rintro i m σ2 H2 ⟨rfl,hi,G2,ρ2,I2,f2,e2⟩
  by_cases hlt:i<ds.length
  . rw[Xj hlt]at e2
    simp only[fI]at e2;refine bN e2 λf ρ3 e3 e4=>?_
    refine aM e3 λρ2' e5 e6=>?_
    have fz2:Fz G1 H2:=f2.trans I2.fz;refine .inr ⟨IT.go H2 i fz2 hlt,λσ' H'=>(∃G3,SI X.K B G3 H' σ' ρ3/\Fz G1 G3)/\(f= .next\/f= .cont),?_,λx H' y=>?_⟩
    . rintro σ' H' ⟨⟨G3,I3,f3⟩,hf⟩
      refine⟨ds.length-(i+1),by lia,rfl,hlt,G3,ρ3,I3,f3,?_⟩;rcases hf with rfl|rfl<;>exact e4
    . have yy:=IT.yld H2 i x H' fz2 y ds[i] (cI hlt)
      have yy2:(H'=H2/\RepD X.K G2 x ds[i])\/∃p xs es,H2 p=none/\H'=upd H2 p (.tup xs)/\x= .ref p/\ds[i]= .tup es/\RepL X.K G2 xs es:=by
        rcases yy with⟨a,b⟩|⟨p,xs,es,a,b,c,d,e⟩
        . exact .inl ⟨a,b.mono f2⟩
        . exact .inr ⟨p,xs,es,a,b,c,d,e.mono f2⟩
      obtain⟨G3,I3,f3,r3⟩:=I2.yld yy2;refine sg B G3 H' σ2 ρ2 x ds[i] ρ2' _ I3 r3 e5 λG4 H4 σ4 I4 f4=>sb B G4 H4 σ4 ρ2' f ρ3 _ I4 e6 ?_
      have ff:Fz G1 G4:=f2.trans (f3.trans f4);cases f with
      |next=>exactλG5 H5 σ5 I5 f5=>⟨⟨G5,I5,ff.trans f5⟩,.inl rfl⟩
      |cont=>exactλG5 H5 σ5 I5 f5=>⟨⟨G5,I5,ff.trans f5⟩,.inr rfl⟩
      |brk=>obtain⟨rfl,rfl⟩:=bM e4;exactλG5 H5 σ5 I5 f5=>k G5 H5 σ5 I5 (f1.trans (ff.trans f5))
      |ret r=>obtain⟨rfl,rfl⟩:=bM e4;exactλG5 H5 σ5 v I5 f5=>k G5 H5 σ5 v I5 (f1.trans (ff.trans f5))
  . have e:i=ds.length:=by lia
    subst e;rw[List.drop_length]at e2;obtain⟨rfl,rfl⟩:=bM e2;exact .inl ⟨IT.stop H2 _ (f2.trans I2.fz) (bZ _),k G2 H2 σ2 I2 (f1.trans f2)⟩
section
variable {X:Cx}{tg it:AI}{me:ME}
noncomputable def bV (m:ME):MA:=λρ=>(m ρ).bind λp=>(cL [p.1]).map λds=>(ds,p.2)
theorem Qt {l:AI}{tl:TE}(hl:PE X l tl):PI X tg l (λσ H R=>tl σ H λx H1=>∃a,x= .ref a/\(((∃xs,SqL X.K H1 a xs)/\R (Itl X.K a) H1)\/((∃xs,SqT X.K H1 a xs)/\R (Itt X.K a) H1))):=by
 intro AM s σ H R I h;refine bE (hl AM s σ H _ I h) λv s1 ⟨x,H1,I1,r1,q1⟩=>?_
 obtain⟨a,e,q⟩:=q1;subst e;cases r1;rcases q with⟨⟨xs,hq⟩,q⟩|⟨⟨xs,hq⟩,q⟩
 ·obtain⟨its,rv,p,hz⟩:=I1.list hq;refine wpAny_pyIter_list p.isList ?_;refine⟨s1.heap.objs.size,[s1.heap.objs.size],_,_,H1,rfl,I1.kept (t':=s1.toks) λb o e=>bK _ e,zoz a _,⟨_,eL _ rfl,rfl,rfl⟩,λb hb=>?_,q⟩;have e:b=s1.heap.objs.size:=by simpa using hb
  subst e;exact I1.fpOk (bZ _) (I1.hok.fresh (bZ _))
 ·obtain⟨its,rv,p,hz⟩:=I1.tuple hq;refine qbP (show s1.heap.IsTuple a its.toArray from p) ?_;refine⟨s1.heap.objs.size,[s1.heap.objs.size],_,_,H1,rfl,I1.kept (t':=s1.toks) λb o e=>bK _ e,zn0 a _,⟨_,eL _ rfl,rfl,rfl⟩,λb hb=>?_,q⟩;have e:b=s1.heap.objs.size:=by simpa using hb
  subst e;exact I1.fpOk (bZ _) (I1.hok.fresh (bZ _))
theorem zm8 {a:AD}(hg:SqL K G a xs)(r:RepL K G xs ds):Itm K (Itl K a) G ds where
 go:=λH i f hi=>by
  have hl:=r.length;exact⟨xs,xs[i],f.sql hg,cI (by lia)⟩
 yld:=λH i x H' f y d e=>by
  obtain⟨rfl,y⟩:=y;have hx:=y xs (f.sql hg);obtain⟨x',h1,h2⟩:=r.get e;rw[hx]at h1;cases h1;exact .inl ⟨rfl,h2⟩
 stop:=λH i f hi=>⟨xs,f.sql hg,by rw[r.length];exact hi⟩
theorem vY {a:AD}(hg:G a=some (.tup xs))(r:RepL K G xs ds):Itm K (Itt K a) G ds where
 go:=λH i f hi=>by
  have hl:=r.length;exact⟨xs,xs[i],SqT.of (f _ _ hg),cI (by lia)⟩
 yld:=λH i x H' f y d e=>by
  obtain⟨rfl,y⟩:=y;have hx:=y xs (SqT.of (f _ _ hg));obtain⟨x',h1,h2⟩:=r.get e;rw[hx]at h1;cases h1;exact .inl ⟨rfl,h2⟩
 stop:=λH i f hi=>⟨xs,SqT.of (f _ _ hg),by rw[r.length];exact hi⟩
theorem fE (h:SE X it me):SIt X tg it (bV me):=by
 refine h.el λt p s=>?_
 refine⟨_,Qt p,λB G H σ ρ ds ρ' Q I hm k=>?_⟩;refine bN hm λd ρ1 e1 hm=>?_
 refine dE hm λes e2 e3=>?_
 cases e3;refine s B G H σ ρ d ρ1 _ I e1 λG1 H1 v I1 f1 r1=>?_
 cases d<;>simp only[cL]at e2<;>try cases e2
 ·obtain⟨a,xs,rfl,ha,r⟩:=r1;exact⟨a,rfl,.inl ⟨⟨xs,SqL.of (I1.fz _ _ ha)⟩,k _ G1 H1 I1 f1 (zm8 (SqL.of ha) r)⟩⟩
 ·obtain⟨a,xs,rfl,ha,r⟩:=r1;exact⟨a,rfl,.inr ⟨⟨xs,SqT.of (I1.fz _ _ ha)⟩,k _ G1 H1 I1 f1 (vY ha r)⟩⟩
 ·obtain⟨a,rfl,ha⟩:=r1;exact⟨a,rfl,.inl ⟨⟨_,I1.fz.sql ha⟩,k _ G1 H1 I1 f1 (zm8 ha (RepL.ints _))⟩⟩
end
noncomputable def lF (lo:Int)(n:Nat):AA D:=(List.range n).map λ(i:Nat)=>D.int (lo+(i:Int))
theorem zpf (lo:Int)(n:Nat):Itm K (Yk lo n) G (lF lo n) where
 go:=λH i f hi=>by show i<n;simpa[lF]using hi
 yld:=λH i x H' f y d e=>by
  obtain⟨rfl,rfl⟩:=y;unfold lF at e;rw[eG]at e;cases q:(List.range n)[i]? with
  |none=>rw[q]at e;exact aK e
  |some j=>
   rw[q]at e;have hj:j=i:=by
    have:=qap.mp q;obtain⟨h1,h2⟩:=this;simpa using h2.symm
   subst hj;cases e;exact .inl ⟨rfl,rfl⟩
 stop:=λH i f hi=>by show n<=i;simpa[lF]using hi
noncomputable def uA (j:Int):Bool:=decide (-1000000000000<=j)&&decide (j<=1000000000000)
theorem Ui {j:Int}(h:uA j=true): -(2^62)<=j/\j<2^62:=by
 unfold uA at h;simp only[fJ,Dj]at h;lia
noncomputable def fS (ma:MA):MA:=λρ=>(ma ρ).bind λp=>match p.1 with
 |[.int j]=>if uA j then some (lF 0 j.toNat,p.2)else none
 |_=>none
section
variable {X:Cx}{tg a b:AI}{ma:MA}{p pos:Pos}
theorem gI (hm:X.mg "range"=none)(ha:SA X [a] ma)(hg:autoParam (Gl X "range") zu2._auto_1)(hs:autoParam (starEach [a] X.env=[(false,eval a X.env)]) zu2._auto_1):SIt X tg (.Call (.Name "range" p) [a] [] pos) (fS ma):=by
 obtain⟨t,pa,sa⟩:=ha;refine⟨_,zpd hg hm pa hs,λB G H σ ρ ds ρ' Q I hm k=>?_⟩;obtain⟨⟨es,ρ1⟩,e1,h2⟩:=Wu hm;dsimp only at h2;refine sa B G H σ ρ es ρ1 _ I e1 λG1 H1 vs I1 f1 r1=>?_
 split at h2
 ·rename_i j
  split at h2
  ·rename_i hj;cases h2;obtain⟨x,rfl,rx⟩:=r1.one;cases(show x=V.int j from rx);exact⟨j,rfl,(Ui hj).1,(Ui hj).2,k _ G1 H1 I1 f1 (zpf 0 _)⟩
  ·exact aK h2
 ·exact aK h2
end
noncomputable def jY (K:AF)(G' H' H:Hp)(v:V):Sl->Prop
 | .val d=>RepD K G' v d
 | .own ds=>∃l xs,v= .ref l/\G' l=none/\H' l=some (.lst xs)/\RepL K G' xs ds/\H l=none
 | .tre t=>∃A,RepT K G' H' v t A/\A.Nodup/\∀a∈A,G' a=none/\H a=none
 | .two ds es=>∃t l xs m ys,v= .ref t/\H' t=some (.tup [.ref l,.ref m])/\l≠m/\G' l=none/\H' l=some (.lst xs)/\RepL K G' xs ds/\H l=none/\G' m=none/\H' m=some (.lst ys)/\RepL K G' ys es/\H m=none
 |_=>False
noncomputable def aY (K:AF)(n:Nat)(F:AA D->AB Sl):Sp:=λvs H Q _=>∃G ds r,F ds=some r/\ds.length=n/\Fz G H/\RepL K G vs ds/\
 ∀G' H' v,Fz G G'->Fz G' H'->(∀b o,G' b=some o->G b≠none\/H b=none)->Fz H H'->jY K G' H' H v r->Q v H'
noncomputable def eM (K:AF)(n:Nat)(F:AA D->AA D->AB (Sl×AA D)):Sp:=λvs H Q _=>∃G l xs cs ws ds r out,vs= .ref l::ws/\F cs ds=some (r,out)/\ds.length+1=n/\Fz G H/\G l=none/\H l=some (.lst xs)/\RepL K G xs cs/\RepL K G ws ds/\
 ∀G' H' v ys,Fz G G'->Fz G' H'->(∀b o,G' b=some o->G b≠none\/H b=none)->(∀b o,b≠l->H b=some o->H' b=some o)->G' l=none->H' l=some (.lst ys)->RepL K G' ys out->jY K G' H' H v r->Q v H'
noncomputable def fP (N:Nat)(m:MS):AA D->AB Sl:=λds=>(m (ds.map .val++List.replicate (N-ds.length) .emp)).bind λp=>match p.1 with
 | .ret r=>some r
 | .next=>some (.val .non)
 |_=>none
noncomputable def fM (N:Nat)(m:MS):AA D->AA D->AB (Sl×AA D):=λcs ds=>(m (.par cs::(ds.map .val++List.replicate (N-(ds.length+1)) .emp))).bind λp=>match p.1,(p.2[0]?:AB Sl)with
 |Fl.ret r,some (Sl.par out)=>some (r,out)
 |Fl.next,some (Sl.par out)=>some (.val .non,out)
 |_,_=>none
theorem ziT (h:vs.length<=N.length):(L2.start N vs).length=N.length:=by
 unfold L2.start;rw[eB,cY,Tp];lia
theorem SI.start (fz:Fz G H)(r:RepL K G vs ds)(h:ds.length<=N.length):
  SI K ⟨G,H,[]⟩ G H (L2.start N vs) (ds.map .val++List.replicate (N.length-ds.length) .emp) where
 fz:=fz
 g0:=Fz.refl G
 new:=λb o e=> .inl (by show G b≠none;rw[e];simp)
 keep:=λb o e _=>e
 there:=λb e=>e
 ob:=λi b m=>by cases m
 len:=by rw[ziT (by rw[r.length];exact h),eB,cY,Tp];lia
 slot:=λi s e=>by
  by_cases hi:i<ds.length
  ·rw[iU (by simpa using hi),eG,cI hi]at e;cases e;obtain⟨x,h1,h2⟩:=r.get (cI hi);refine⟨x,?_,h2⟩;unfold L2.start;rw[iU (by rw[cY,r.length];exact hi),eG,h1]
   rfl
  ·rw[Ba (by simpa using hi),wY]at e
   split at e
   ·cases e;trivial
   ·exact aK e
 dis:=λi j s _ a _ e _ w=>by
  exfalso
  by_cases hi:i<ds.length
  ·rw[iU (by simpa using hi),eG,cI hi]at e;cases e;exact w
  ·rw[Ba (by simpa using hi),wY]at e
   split at e
   ·cases e;exact w
   ·exact aK e
theorem SI.startM (fz:Fz G H)(hg:G l=none)(hl:H l=some (.lst xs))(rc:RepL K G xs cs)(r:RepL K G vs ds)(h:ds.length+1<=N.length):
  SI K ⟨G,H,[(0,l)]⟩ G H (L2.start N (.ref l::vs)) (.par cs::(ds.map .val++List.replicate (N.length-(ds.length+1)) .emp)) where
 fz:=fz
 g0:=Fz.refl G
 new:=λb o e=> .inl (by show G b≠none;rw[e];simp)
 keep:=λb o e _=>e
 there:=λb e=>e
 ob:=λi b m=>by
  have:b=l:=((by simpa using m):i=0/\b=l).2;subst this;show H b≠none;rw[hl];simp
 len:=by
  have:=r.length;rw[ziT (by rw[eW,r.length];exact h),eW,eB,cY,Tp];lia
 slot:=λi s e=>by
  cases i with
  |zero=>simp at e;subst e;exact⟨l,xs,rfl,hg,hl,rc,by simp⟩
  |succ i=>
   rw[zN]at e
   by_cases hi:i<ds.length
   ·rw[iU (by simpa using hi),eG,cI hi]at e;cases e;obtain⟨x,h1,h2⟩:=r.get (cI hi);refine⟨x,?_,h2⟩;unfold L2.start;rw[jJ,Zx,zN,iU (by rw[cY,r.length];exact hi),eG,h1]
    rfl
   ·rw[Ba (by simpa using hi),wY]at e
    split at e
    ·cases e;trivial
    ·exact aK e
 dis:=λi j s t a hij hi hj w1 w2=>by
  have z:∀(i:Nat) (s:Sl),(Sl.par cs::(ds.map .val++List.replicate (N.length-(ds.length+1)) .emp))[i]? =some s->fD K G H (L2.start N (.ref l::vs))[i]? a s->i=0:=λi s e q=>by
   cases i with
   |zero=>rfl
   |succ i=>
    exfalso;rw[zN]at e
    by_cases hi:i<ds.length
    ·rw[iU (by simpa using hi),eG,cI hi]at e;cases e;exact q
    ·rw[Ba (by simpa using hi),wY]at e
     split at e
     ·cases e;exact q
     ·exact aK e
  exact hij ((z i s hi w1).trans (z j t hj w2).symm)
section
variable {P:AJ}{w:World}{K:AF}{mg:Str->AB AC}{base:AK}
theorem oN {st:Stmt}{f:AD}(F:Fun K x qual st f fd)(S:FnScope N ps (zaT st))(hn:ps.length=n)(hN:n<=N.length)(body:∀(cdv:AC) (A:Around) (outer:AA Env) (s:AE) (H:Hp) (E:XK),Room k (A.deeper (envOfC qual (zaT st) s.heap.objs.size f cdv))->SSs (gR jI P w K mg base N qual (zaT st) f cdv A outer s H E).nox (zcN st) m):
  FnOk P w K mg base jI (k+1) f fd ps (aY K n (fP N.length m)):=by
 refine F.ok S (λvs H Q E h=>?_) (λcdv A outer s H vs Q E hr h=>?_)
 ·obtain⟨G,ds,r,_,h2,_,h4,_⟩:=h;rw[h4.length,h2,hn]
 ·obtain⟨G,ds,r,e1,h2,fz,h4,kk⟩:=h;obtain⟨t,pt,so⟩:=body cdv A outer s H E hr;refine⟨t,pt,?_⟩;refine bN e1 λfl ρ' e2 e3=>?_
  refine so ⟨G,H,[]⟩ G H (L2.start N vs) _ fl ρ' _ (SI.start fz h4 (by lia)) e2 ?_;have fin:∀G' H' σ' v,SI K ⟨G,H,[]⟩ G' H' σ' ρ'->Fz G G'->jY K G' H' H v r->Q v H':=λG' H' σ' v I f rr=>kk G' H' v f I.fz I.new (λb o e=>I.keep b o e (by simp)) rr
  cases fl with
  |next=>cases e3;exactλG' H' σ' I f=>fin G' H' σ' .non I f rfl
  |brk=>exact aK e3
  |cont=>exact aK e3
  |ret r'=>
   cases e3;refineλG' H' σ' v I f rr=>fin G' H' σ' v I f ?_
   cases r with
   |val d=>exact rr
   |own ds=>exact rr
   |emp=>exact rr
   |two _ _=>exact rr
   |tre _=>exact rr
   |ptr _=>exact rr
   |par ds=>exact rr
theorem Ig {st:Stmt}{f:AD}(F:Fun K x qual st f fd)(S:FnScope N ps (zaT st))(hn:ps.length=n)(hN:n<=N.length)(body:∀(cdv:AC) (A:Around) (outer:AA Env) (s:AE) (H:Hp) (E:XK),Room k (A.deeper (envOfC qual (zaT st) s.heap.objs.size f cdv))->SSs (gR jI P w K mg base N qual (zaT st) f cdv A outer s H E).nox (zcN st) m):
  FnOk P w K mg base jI (k+1) f fd ps (eM K n (fM N.length m)):=by
 refine F.ok S (λvs H Q E h=>?_) (λcdv A outer s H vs Q E hr h=>?_)
 ·obtain⟨G,l,xs,cs,ws,ds,r,out,rfl,_,h2,_,_,_,_,h4,_⟩:=h;rw[eW,h4.length,h2,hn]
 ·obtain⟨G,l,xs,cs,ws,ds,r,out,rfl,e1,h2,fz,hg,hl,rc,h4,kk⟩:=h;obtain⟨t,pt,so⟩:=body cdv A outer s H E hr;refine⟨t,pt,?_⟩;refine bN e1 λfl ρ' e2 e3=>?_
  refine so ⟨G,H,[(0,l)]⟩ G H _ _ fl ρ' _ (SI.startM fz hg hl rc h4 (by lia)) e2 ?_;have fin:∀G' H' σ' v,ρ'[0]? =some (.par out)->SI K ⟨G,H,[(0,l)]⟩ G' H' σ' ρ'->Fz G G'->jY K G' H' H v r->Q v H':=λG' H' σ' v e0 I f rr=>by
   obtain⟨l',ys,k1,k2,k3,k4,k5⟩:=I.slot 0 _ e0;have:l'=l:=by simpa using k5
   subst this;exact kk G' H' v ys f I.fz I.new (λb o hb e=>I.keep b o e (λi hm=>by simp at hm;exact hb hm.2)) k2 k3 k4 rr
  cases e0:ρ'[0]? with
  |none=>rw[e0]at e3;cases fl<;>exact aK e3
  |some s0=>
   rw[e0]at e3;cases s0 with
   |emp=>cases fl<;>exact aK e3
   |two _ _=>cases fl<;>exact aK e3
   |tre _=>cases fl<;>exact aK e3
   |ptr _=>cases fl<;>exact aK e3
   |val d=>cases fl<;>exact aK e3
   |own d=>cases fl<;>exact aK e3
   |par o2=>
    cases fl with
    |next=>obtain⟨rfl,rfl⟩:=bM e3;exactλG' H' σ' I f=>fin G' H' σ' .non e0 I f rfl
    |brk=>exact aK e3
    |cont=>exact aK e3
    |ret r'=>
     cases e3;refineλG' H' σ' v I f rr=>fin G' H' σ' v e0 I f ?_
     cases r with
     |val d=>exact rr
     |own ds=>exact rr
     |emp=>exact rr
     |two _ _=>exact rr
     |tre _=>exact rr
     |ptr _=>exact rr
     |par ds=>exact rr
end
structure FD (P:Program)(w:World)(K:W.Frag)(mg:Str->Option Value)(base:Heap)(k:Nat)(x:Str)(sp:Sp):Prop where
 ex:∃f fd ps,FnOk P w K mg base jI k f fd ps sp/\mg x=some (.ref f)/\W.keepIn K (.ref f)=true/\Binds K fd ps []
theorem zoa (nw:∀b o,G' b=some o->G b≠none\/H b=none)(kp:Fz H H'):∀(i:Nat) (s:Sl) (a:AD),ρ[i]? =some s->fD K G H σ[i]? a s->G a=none->H a≠none->G' a=none/\H' a=H a:=λi s a _ _ g h=>by
 obtain⟨u,hu⟩:=qbx.mp h;refine⟨?_,(kp a u hu).trans hu.symm⟩;cases q:G' a with
 |none=>rfl
 |some u=>
  rcases nw a u q with z|z
  ·exact AH g z
  ·exact AH z h
theorem SI.grow (I:SI K B G H σ ρ)(f:Fz G G')(fz:Fz G' H')(nw:∀b o,G' b=some o->G b≠none\/H b=none)(kp:Fz H H'):SI K B G' H' σ ρ:=
 I.move fz f (λb o e=>by
  rcases nw b o e with h|h
  ·cases q:G b with
   |none=>exact AH q h
   |some u=>exact I.new b u q
  ·exact .inr (I.there b h)) (λb o e n=>kp b o (I.keep b o e n)) (λb e=>I.there b (kp.free e)) (zoa nw kp)
theorem SI.own_ne (I:SI K B G H σ ρ){p:AD}(hp:H p=none)(nw:∀b o,G' b=some o->G b≠none\/H b=none)(kp:Fz H H'):Nw K G' H' σ ρ p:=I.nw_move (I.nw hp) (zoa nw kp)
noncomputable def bU (F:AA D->AB Sl)(ma:MA):ME:=λρ=>(ma ρ).bind λp=>(F p.1).bind λr=>match r with
 | .val d=>some (d,p.2)
 | .own ds=>some (.lst ds,p.2)
 |_=>none
noncomputable def qJ (F:AA D->AB Sl)(ma:MA):MO:=λρ=>(ma ρ).bind λp=>(F p.1).bind λr=>match r with
 | .own ds=>some (ds,p.2)
 |_=>none
section
variable {X:Cx}{x:Str}{p pos:Pos}{e:AI}{es:AA AI}{ma:MA}{k k' n:Nat}{F:AA D->AB Sl}
theorem bW (fd:FD X.prog X.w X.K X.mg X.base k x (aY X.K n F))(hr:Room k' X.A)(ha:SA X (e::es) ma)(hn:autoParam ((e::es).length=n) zu2._auto_1)(hk:autoParam (k<=k') zu1._auto_1)(hg:autoParam (Gl X x) zu2._auto_1)(hdb:autoParam ((x==("__debug__":Str))=false) zu1._auto_1)(he:autoParam (starEach (e::es) X.env=(false,eval e X.env)::starEach es X.env) zu2._auto_1)(hpl:autoParam ((backTo pos (starEach es X.env)).any (·.1)=false) zu2._auto_1)(AO:∀ρ as ρ',ma ρ=some (as,ρ')->as.length=n):SE X (.Call (.Name x p) (e::es) [] pos) (bU F ma):=by
 obtain⟨f,fdd,ps,G0,h1,h2,h3⟩:=fd.ex;refine ha.el λt pa sa=>?_
 refine⟨_,Ve G0 (hr.mono hk) hg h1 h2 h3 .nil Oe pa hdb he hpl,λB G H σ ρ d ρ' Q I hm kk=>?_⟩;refine bN hm λas ρ1 e1 hm=>?_
 refine aM hm λr e2 hm=>?_
 refine sa B G H σ ρ as ρ1 _ I e1 λG1 H1 vs I1 f1 r1=>?_
 show aY X.K n F (vs++[]) H1 Q E0;rw[lW];refine⟨G1,as,r,e2,AO ρ as ρ1 e1,I1.fz,r1,λG2 H2 v f2 fz2 nw kp rr=>?_⟩;have I2:=I1.grow f2 fz2 nw kp;cases r with
 |val d'=>obtain⟨rfl,rfl⟩:=bM hm;exact kk G2 H2 v I2 (f1.trans f2) rr
 |own ds=>
  obtain⟨rfl,rfl⟩:=bM hm;obtain⟨l,xs,rfl,g3,h3,r3,b3⟩:=rr;obtain⟨I3,f3,r4⟩:=Me I2 g3 h3 r3 (I1.there l b3) (I1.own_ne b3 nw kp);exact kk _ H2 _ I3 (f1.trans (f2.trans f3)) r4
 |emp=>exact aK hm
 |two _ _=>exact aK hm
 |tre _=>exact aK hm
 |ptr _=>exact aK hm
 |par _=>exact aK hm
theorem Bb (fd:FD X.prog X.w X.K X.mg X.base k x (aY X.K n F))(hr:Room k' X.A)(ha:SA X (e::es) ma)(hn:autoParam ((e::es).length=n) zu2._auto_1)(hk:autoParam (k<=k') zu1._auto_1)(hg:autoParam (Gl X x) zu2._auto_1)(hdb:autoParam ((x==("__debug__":Str))=false) zu1._auto_1)(he:autoParam (starEach (e::es) X.env=(false,eval e X.env)::starEach es X.env) zu2._auto_1)(hpl:autoParam ((backTo pos (starEach es X.env)).any (·.1)=false) zu2._auto_1)(AO:∀ρ as ρ',ma ρ=some (as,ρ')->as.length=n):SO X (.Call (.Name x p) (e::es) [] pos) (qJ F ma):=by
 obtain⟨f,fdd,ps,G0,h1,h2,h3⟩:=fd.ex;refine ha.el λt pa sa=>?_
 refine⟨_,Ve G0 (hr.mono hk) hg h1 h2 h3 .nil Oe pa hdb he hpl,λB G H σ ρ d ρ' Q I hm kk=>?_⟩;refine bN hm λas ρ1 e1 hm=>?_
 refine aM hm λr e2 hm=>?_
 refine sa B G H σ ρ as ρ1 _ I e1 λG1 H1 vs I1 f1 r1=>?_
 show aY X.K n F (vs++[]) H1 Q E0;rw[lW];refine⟨G1,as,r,e2,AO ρ as ρ1 e1,I1.fz,r1,λG2 H2 v f2 fz2 nw kp rr=>?_⟩;have I2:=I1.grow f2 fz2 nw kp;cases r with
 |val d'=>exact aK hm
 |own ds=>
  obtain⟨rfl,rfl⟩:=bM hm;obtain⟨l,xs,rfl,g3,h3,r3,b3⟩:=rr;exact kk G2 H2 l xs I2 (f1.trans f2) g3 h3 r3 (I1.there l b3) (I1.own_ne b3 nw kp)
 |emp=>exact aK hm
 |two _ _=>exact aK hm
 |tre _=>exact aK hm
 |ptr _=>exact aK hm
 |par _=>exact aK hm
end
noncomputable def tP (ma:MA)(n:Nat):Prop:=∀ρ as ρ',ma ρ=some (as,ρ')->as.length=n
theorem bB:tP aB 0:=λρ as ρ' h=>by obtain⟨rfl,rfl⟩:=bM h;rfl
theorem aP {m:ME}{r:MA}(h:tP r n):tP (aC m r) (n+1):=λρ as ρ' e=>by
 refine bN e λd ρ1 _ h2=>?_
 refine gZ h2 λds ρ2 e3 e4=>?_
 cases e4;rw[eW,h ρ1 ds ρ2 e3]
noncomputable def cU (F:AA D->AA D->AB (Sl×AA D))(j:Nat)(ma:MA):ME:=λρ=>if(ρ[j]?.bind Sl.items).isSome then(ma ρ).bind λp=>p.2[j]?.bind λs=>s.items.bind λcs=>(F cs p.1).bind λr=>match r.1 with
 | .val d=>some (d,p.2.set j (s.put r.2))
 | .own ds=>some (.lst ds,p.2.set j (s.put r.2))
 |_=>none else none
theorem SI.growW (I:SI K B G H σ ρ)(e:ρ[j]? =some s)(q:s.items=some cs)(hl:σ[j]? =some (some (.ref l)))(f:Fz G G')(fz:Fz G' H')(nw:∀b o,G' b=some o->G b≠none\/H b=none)(kp:∀b o,b≠l->H b=some o->H' b=some o)(gl:G' l=none)(hl':H' l=some (.lst ys))(r:RepL K G' ys out):SI K B G' H' σ (ρ.set j (s.put out)):=
 I.chgW e q hl fz f nw kp gl hl' r
theorem SI.own_neW {l p:AD}(I:SI K B G H σ ρ)(e:ρ[j]? =some s)(q:s.items=some cs)(hl:σ[j]? =some (some (.ref l)))(hp:H p=none)(nw:∀b o,G' b=some o->G b≠none\/H b=none)(kp:∀b o,b≠l->H b=some o->H' b=some o):Nw K G' H' σ (ρ.set j (s.put out)) p:=λi t et w=>by
 obtain⟨l',xs,e1,e2,e3,e4⟩:=I.wr e q;rw[hl]at e1;cases e1;have hpl:p≠l:=λz=>by rw[z,e3]at hp;cases hp
 by_cases z:i=j
 ·subst z;rw[iG,if_pos rfl]at et
  split at et
  ·cases et;have:=(hG (Mq q out)).mp w;rw[hl]at this;exact hpl (V.ref.inj (Option.some.inj (Option.some.inj this))).symm
  ·cases et
 ·rw[iF (Ne.symm z)]at et;have sl:=I.slot i t et;refine(sl.own (sl.back (λa w g h=>?_) w)).2.1 hp;have na:a≠l:=λw'=>by subst w';exact I.dis i j t s a z et e w ((hG q).mpr hl)
  obtain⟨u,hu⟩:=qbx.mp h;refine⟨?_,(kp a u na hu).trans hu.symm⟩;cases q2:G' a with
  |none=>rfl
  |some u=>
   rcases nw a u q2 with z|z
   ·exact AH g z
   ·exact AH z h
section
variable {X:Cx}{x y:Str}{p py pos:Pos}{es:AA AI}{ma:MA}{k k' n:Nat}{F:AA D->AA D->AB (Sl×AA D)}
theorem Im {t:TA}{Q:VK}(sa:∀B G H σ ρ ds ρ' (Q:AA V->Hp->Prop),SI X.K B G H σ ρ->ma ρ=some (ds,ρ')->(∀G' H' vs,SI X.K B G' H' σ ρ'->Fz G G'->RepL X.K G' vs ds->Q vs H')->t σ H Q)(AO:∀ρ as ρ',ma ρ=some (as,ρ')->as.length+1=n)(I:SI X.K B G H σ ρ){ds0:AA D}(h0:ρ[j]?.bind Sl.items=some ds0){as:AA D}{ρ1:R}(e1:ma ρ=some (as,ρ1)){s:Sl}(e2:ρ1[j]? =some s){cs:AA D}(e3:s.items=some cs){r:Sl}{out:AA D}(e4:F cs as=some (r,out))(kk:∀G' H' v,SI X.K B G' H' σ (ρ1.set j (s.put out))->Fz G G'->True->(∃H1,jY X.K G' H' H1 v r/\(∀b,H1 b=none->B.H b=none)/\∀b,H1 b=none->Nw X.K G' H' σ (ρ1.set j (s.put out)) b)->Q v H'):
  Dk (eM X.K n F) [] E0 (By (Se j) t) σ H Q:=by
 obtain⟨s0,k0,q0⟩:=Wu h0;obtain⟨l,xs0,h1,h2,h3,h4⟩:=I.wr k0 q0;refine⟨.ref l,h1,sa B G H σ ρ as ρ1 _ I e1 λG1 H1 vs I1 f1 r1=>?_⟩;show eM X.K n F ((.ref l::vs)++[]) H1 Q E0;rw[lW];obtain⟨l',xs,m1,m2,m3,m4⟩:=I1.wr e2 e3;rw[h1]at m1;cases m1;refine⟨G1,l,xs,cs,vs,as,r,out,rfl,e4,AO ρ as ρ1 e1,I1.fz,m2,m3,m4,r1,λG2 H2 v ys f2 fz2 nw kp gl hl r2 rr=>?_⟩;exact kk G2 H2 v (I1.growW e2 e3 h1 f2 fz2 nw kp gl hl r2) (f1.trans f2) trivial ⟨H1,rr,λb hb=>I1.there b hb,λb hb=>I1.own_neW e2 e3 h1 hb nw kp⟩
theorem dA (j:Nat)(fd:FD X.prog X.w X.K X.mg X.base k x (eM X.K n F))(hr:Room k' X.A)(ha:SA X es ma)(AO:∀ρ as ρ',ma ρ=some (as,ρ')->as.length+1=n)(hN:autoParam (X.N[j]? =some y) zu2._auto_1)(hv:autoParam (dG X.env.scope y) zu6._auto_1)(hd:autoParam ((y==("__debug__":Str))=false) zu1._auto_1)(hcd:autoParam ((y==("__classdict__":Str))=false) zu1._auto_1)(hk:autoParam (k<=k') zu1._auto_1)(hg:autoParam (Gl X x) zu2._auto_1)(hdb:autoParam ((x==("__debug__":Str))=false) zu1._auto_1)(he:autoParam (starEach (.Name y py::es) X.env=(false,eval (.Name y py) X.env)::starEach es X.env) zu2._auto_1)(hpl:autoParam ((backTo pos (starEach es X.env)).any (·.1)=false) zu2._auto_1):SE X (.Call (.Name x p) (.Name y py::es) [] pos) (cU F j ma):=by
 obtain⟨f,fdd,ps,G0,h1,h2,h3⟩:=fd.ex;refine ha.el λt pa sa=>?_
 refine⟨_,Ve G0 (hr.mono hk) hg h1 h2 h3 .nil Oe (gK (eE hN hv hd hcd) pa he) hdb he hpl,λB G H σ ρ d ρ' Q I hm kk=>?_⟩;unfold cU at hm;refine bC hm λhso hm=>?_
 ·skip
  obtain⟨ds0,hso⟩:=qaP.mp hso;refine bN hm λas ρ1 e1 hm=>?_
  refine aM hm λs e2 hm=>?_
  refine aM hm λcs e3 hm=>?_
  refine bN hm λr out e4 hm=>?_
  refine Im sa AO I hso e1 e2 e3 e4 λG' H' v I' f' _ ⟨H1,rr,bb,nn⟩=>?_
  cases r with
  |val d'=>obtain⟨rfl,rfl⟩:=bM hm;exact kk G' H' v I' f' rr
  |own ds=>
   obtain⟨rfl,rfl⟩:=bM hm;obtain⟨l,xs,rfl,g3,h3,r3,b3⟩:=rr;obtain⟨I3,f3,r4⟩:=Me I' g3 h3 r3 (bb l b3) (nn l b3);exact kk _ H' _ I3 (f'.trans f3) r4
  |emp=>exact aK hm
  |two _ _=>exact aK hm
  |tre _=>exact aK hm
  |ptr _=>exact aK hm
  |par _=>exact aK hm
end
noncomputable def nN (env:Env)(cs:AA (Str×AD))(x:Str×NameKind):AA (Str×AD):=if x.2== .free then(x.1,(env.cells.lookup x.1).getD 0)::cs else cs
noncomputable def gY (scope:Scope)(env:Env):AA (Str×AD):=scope.names.foldl (nN env) []
theorem zin:∀(names:AA (Str×NameKind)) (cs:AA (Str×AD)),(∀y∈names,y.2= .free->∃c,env.cells.lookup y.1=some c)->
  (forIn names cs (λx r=>if x.2==NameKind.free then do let a<-cellOf env x.1;pure (ForInStep.yield ((x.1,a)::r))else pure (ForInStep.yield r)):Sem (AA (Str×AD)))=pure (names.foldl (nN env) cs)
 |[],cs,_=>rfl
 |(n,k)::r,cs,h=>by
  have ih:=λcs'=>zin r cs' (λy hy=>h y (iN _ hy))
  rw[Ff,Yy]
  by_cases hk:(k==NameKind.free)=true
  ·obtain⟨c,hc⟩:=h (n,k) jP (by simpa using hk);have e:nN env cs (n,k)=(n,c)::cs:=by unfold nN;simp[hk,hc]
   rw[e,<-ih];simp only[hk,if_true];unfold cellOf;simp only at hc;rw[hc]
   rfl
  ·have e:nN env cs (n,k)=cs:=by unfold nN;simp[hk]
   rw[e,<-ih];simp only[hk]
   rfl
theorem znU {env:Env}(h:∀y∈scope.names,y.2= .free->∃c,env.cells.lookup y.1=some c):closureFor scope env=pure (gY scope env):=by
 unfold closureFor gY;have e:=zin (env:=env) scope.names [] h;simp only[bind_pure];exact e
theorem zed {c:AD}:∀{names:AA (Str×NameKind)} {cs:AA (Str×AD)},(∀y∈names,y.2= .free->∃c,env.cells.lookup y.1=some c)->(cs.lookup x=some c->env.cells.lookup x=some c)->
  (names.foldl (nN env) cs).lookup x=some c->env.cells.lookup x=some c
 |[],cs,_,h0,h=>h0 h
 |(n,k)::r,cs,hn,h0,h=>by
  rw[Yy]at h;refine zed (names:=r) (λy hy=>hn y (iN _ hy)) ?_ h;intro q;unfold nN at q
  split at q
  ·rename_i hk;obtain⟨c',hc⟩:=hn (n,k) jP (by simpa using hk);rw[lT]at q;simp only at hc
   by_cases z:(x==n)=true
   ·rw[z]at q;have zz:x=n:=by simpa using z
    subst zz;simp only[hc,Option.getD_some]at q;rw[hc];exact q
   ·have z':(x==n)=false:=by simpa using z
    rw[z']at q;exact h0 q
  ·exact h0 q
theorem Zl:∀{names:AA (Str×NameKind)} {cs:AA (Str×AD)},((x,NameKind.free)∈names\/(cs.lookup x).isSome=true)->((names.foldl (nN env) cs).lookup x).isSome=true
 |[],cs,h=>by
  rcases h with h|h
  ·simp at h
  ·exact h
 |(n,k)::r,cs,h=>by
  rw[Yy];refine Zl (names:=r) ?_;rcases h with h|h
  ·rcases qam.mp h with h|h
   ·cases h;refine .inr ?_;unfold nN;simp
   ·exact .inl h
  ·refine .inr ?_;unfold nN
   split
   ·rw[lT]
    by_cases z:(x==n)=true
    ·rw[z];rfl
    ·have z':(x==n)=false:=by simpa using z
     rw[z'];exact h
   ·exact h
theorem zi5 {c:AD}:∀{names:AA (Str×NameKind)} {n:Nat} {acc:AA (Str×AD)},(cellsFrom n names acc).lookup x=some c->(n<=c/\(x,NameKind.cell)∈names)\/acc.lookup x=some c
 |[],n,acc,h=> .inr h
 |(m,k)::r,n,acc,h=>by
  unfold cellsFrom at h
  split at h
  ·rename_i hk;have hk':k= .cell:=by simpa using hk
   subst hk';rcases zi5 h with⟨h1,h2⟩|h1
   ·exact .inl ⟨Nat.le_of_succ_le h1,iN _ h2⟩
   ·rw[lT]at h1;cases q:x==m with
    |true=>
     rw[q]at h1;cases h1;rw[qbJ.mp q];exact .inl ⟨bZ _,jP⟩
    |false=>rw[q]at h1;exact .inr h1
  ·rcases zi5 h with⟨h1,h2⟩|h1
   ·exact .inl ⟨h1,iN _ h2⟩
   ·exact .inr h1
theorem Xu:∀{names:AA (Str×NameKind)} {n:Nat} {acc:AA (Str×AD)},(x,NameKind.cell)∉names->(cellsFrom n names acc).lookup x=acc.lookup x
 |[],n,acc,_=>rfl
 |(m,k)::r,n,acc,h=>by
  unfold cellsFrom
  split
  ·rename_i hk;have hk':k= .cell:=by simpa using hk
   subst hk';rw[Xu λz=>h (iN _ z),lT];cases q:x==m with
   |true=>exact AH (by rw[qbJ.mp q];exact jP) h
   |false=>rfl
  ·exact Xu λz=>h (iN _ z)
theorem Vn:∀{names:AA (Str×NameKind)} {n:Nat} {acc:AA (Str×AD)},(x,NameKind.cell)∈names->∃c,(cellsFrom n names acc).lookup x=some c/\n<=c
 |(m,k)::r,n,acc,h=>by
  unfold cellsFrom
  by_cases hr:(x,NameKind.cell)∈r
  ·split
   ·obtain⟨c,h1,h2⟩:=Vn (n:=n+1) (acc:=(m,n)::acc) hr;exact⟨c,h1,Nat.le_of_succ_le h2⟩
   ·exact Vn hr
  ·rcases qam.mp h with e|e
   ·cases e;rw[if_pos (Yn _),Xu hr,lT,Yn];exact⟨n,rfl,bZ _⟩
   ·exact AH e hr
theorem zpS:∀{names:AA (Str×NameKind)} {n:Nat} {acc:AA (Str×AD)},(∀x c,acc.lookup x=some c->c<n)->(∀x y c,acc.lookup x=some c->acc.lookup y=some c->x=y)->
  ∀x y c,(cellsFrom n names acc).lookup x=some c->(cellsFrom n names acc).lookup y=some c->x=y
 |[],n,acc,_,hi=>hi
 |(m,k)::r,n,acc,hl,hi=>by
  unfold cellsFrom
  split
  ·refine zpS (λx c h=>?_) (λx y c h1 h2=>?_)
   ·rw[lT]at h;cases q:x==m with
    |true=>rw[q]at h;cases h;exact Zg _
    |false=>rw[q]at h;exact Zc (hl x c h)
   ·rw[lT]at h1 h2;cases q:x==m with
    |true=>
     rw[q]at h1;cases h1;cases q2:y==m with
     |true=>rw[qbJ.mp q,qbJ.mp q2]
     |false=>rw[q2]at h2;exact AH (hl y n h2) (Dg _)
    |false=>
     rw[q]at h1;cases q2:y==m with
     |true=>rw[q2]at h2;cases h2;exact AH (hl x n h1) (Dg _)
     |false=>rw[q2]at h2;exact hi x y c h1 h2
  ·exact zpS hl hi
theorem zl2:∀{names:AA (Str×NameKind)} {h:AK} {acc:AA (Str×AD)},(∀x c,acc.lookup x=some c->∃v,h.IsCell c v)->∀x c,(cellsFrom h.objs.size names acc).lookup x=some c->∃v,(pushCells h names).IsCell c v
 |[],h,acc,ha=>ha
 |(m,k)::r,h,acc,ha=>by
  unfold cellsFrom pushCells
  split
  ·intro x c e;rw[<-kF h {cls:= .type "cell",data:= .cell none}]at e;refine zl2 (λy d q=>?_) x c e;rw[lT]at q;cases z:y==m with
   |true=>rw[z]at q;cases q;exact⟨none,_,eL _ rfl,rfl⟩
   |false=>
    rw[z]at q;obtain⟨v,hv⟩:=ha y d q;exact⟨v,hv.keeps λb o e=>bK _ e⟩
  ·exact zl2 ha
theorem zmv {M:Model}{s:AE}{globals:AD}{Q:Env->AE->Prop}(hQ : ∀ h' : AK, h'.Ns s.heap.objs.size (λ_ => none) -> (∀ a o, s.heap.get? a = some o -> h'.get? a = some o) ->
   ((∀x c,cl.lookup x=some c->∃v,s.heap.IsCell c v)->∀x c,(cellsFrom (s.heap.objs.size+1) scope.names cl).lookup x=some c->∃v,h'.IsCell c v)->
   Q (newEnv scope s.heap.objs.size globals (cellsFrom (s.heap.objs.size+1) scope.names cl) qual none .none (some env) builtinsNs) {s with heap:=h'}):
  AG M A (newFunctionEnv scope globals cl [] qual none .none (some env)) Q E s:=by
 simp only[newFunctionEnv,Option.isSome_some,if_true];refine aJ (wpAny_alloc ?_);refine aJ (wpAny_layCells _ (λname kind cells=>by cases hkc:kind==NameKind.cell<;>simp[hkc]) _ _ _ _ ?_)
 rw[show({s with heap:=s.heap.push {cls:= .type "dict",data:= .dict #[]}}:AE).heap.objs.size=s.heap.objs.size+1 from kF ..];refine aJ ?_;rw[Jy];refine qaB (qaB (hQ _ ((Heap.Ns.new s.heap (.type "dict")).keeps (pushCells_keeps _ _)) (λa o e=>pushCells_keeps _ _ a o (bK _ e)) λhc x c e=>?_));rw[<-kF s.heap {cls:= .type "dict",data:= .dict #[]}]at e;refine zl2 (λy d q=>?_) x c e;obtain⟨v,hv⟩:=hc y d q;exact⟨v,hv.keeps λb o e=>bK _ e⟩
noncomputable def Mj (scope:Scope)(env:Env)(C:AD):AA (Str×AD):=cellsFrom (C+1) scope.names (gY scope env)
noncomputable def Kd (scope:Scope)(x:Str):Bool:=match scope.names.lookup x with
 |some .cell=>true
 |_=>false
noncomputable def cH (X:Cx)(N:AA Str)(scope:Scope)(C:AD)(s:AE)(H:Hp)(fp:AA AD):Cx:=
 {X with N:=N,s₀:=s,H₀:=H,env:=compEnvC scope (Mj scope X.env C) C X.env,outer:=X.stack,ex:=fp,fn:=Kd scope,pn:=[],xe:=λ_ _=>False}
structure BlkOk (X:Cx)(scope:Scope):Prop where
 kind:scope.kind= .function
 uniq:∀y∈scope.names,scope.names.lookup y.1=some y.2
 free:∀y∈scope.names,y.2= .free->X.env.kindOf y.1=some .cell\/X.env.kindOf y.1=some .free
theorem Wp {α:Type}{v:α}:∀{l:AA (Str×α)},l.lookup x=some v->(x,v)∈l
 |[],h=>by simp at h
 |(n,w)::r,h=>by
  rw[lT]at h
  by_cases z:(x==n)=true
  ·rw[z]at h;have zz:x=n:=by simpa using z
   subst zz;cases h;exact jP
  ·have z':(x==n)=false:=by simpa using z
   rw[z']at h;exact iN _ (Wp h)
theorem zeh {env:Env}{x:Str}:∀{names:AA (Str×NameKind)},(names.map λ(n,k)=>if(k==NameKind.free&&env.scope.kind== .function&&env.kindOf n==some .cell)then(n,NameKind.cell)else(n,k)).lookup x=
  (names.lookup x).map λk=>if(k==NameKind.free&&env.scope.kind== .function&&env.kindOf x==some .cell)then NameKind.cell else k
 |[]=>rfl
 |(n,k)::r=>by
  have ih:=zeh (env:=env) (x:=x) (names:=r);show List.lookup x ((if(k==NameKind.free&&env.scope.kind== .function&&env.kindOf n==some .cell)=true then(n,NameKind.cell)else(n,k))::_)=_;cases hx:x==n with
  |true=>
   have zz:x=n:=by simpa using hx
   by_cases hc:(k==NameKind.free&&env.scope.kind== .function&&env.kindOf n==some .cell)=true
   ·rw[if_pos hc];simp only[lT,hx,Cq];rw[zz,if_pos hc]
   ·rw[if_neg hc];simp only[lT,hx,Cq];rw[zz,if_neg hc]
  |false=>
   by_cases hc:(k==NameKind.free&&env.scope.kind== .function&&env.kindOf n==some .cell)=true
   ·rw[if_pos hc];simp only[lT,hx];exact ih
   ·rw[if_neg hc];simp only[lT,hx];exact ih
section
variable {X:Cx}{AM:AA (AD×Obj)}{σ:St}{H:Hp}{s:AE}{scope:Scope}{N:AA Str}{fp:AA AD}{C:AD}
theorem zjb (I:Inv X AM σ H s)(b:BlkOk X scope):∀y∈scope.names,y.2= .free->∃c,X.env.cells.lookup y.1=some c:=λy hy hf=>I.ok.has y.1 (b.free y hy hf)
theorem uN (h:(relabel scope X.env).names.lookup x=some .cell\/(relabel scope X.env).names.lookup x=some .free):(x,NameKind.free)∈scope.names\/(x,NameKind.cell)∈scope.names:=by
 have e:(relabel scope X.env).names.lookup x=(scope.names.lookup x).map λk=>if(k==NameKind.free&&X.env.scope.kind== .function&&X.env.kindOf x==some .cell)then NameKind.cell else k:=zeh
 rw[e]at h;cases q:scope.names.lookup x with
 |none=>rw[q]at h;simp at h
 |some k=>
  have hm:=Wp q
  by_cases hk:k= .free
  ·subst hk;exact .inl hm
  ·rw[q]at h;have hkf:(k==NameKind.free)=false:=by simpa using hk
   simp only[Cq,hkf,Bool.false_and,Fo,kU,Yw]at h;rcases h with h|h
   ·subst h;exact .inr hm
   ·exact AH h hk
theorem Ul (I:Inv X AM σ H s)(b:BlkOk X scope){c:AD}(h:(gY scope X.env).lookup x=some c):X.env.cells.lookup x=some c:=zed (zjb I b) (by simp) h
theorem zih (I:Inv X AM σ H s)(b:BlkOk X scope){c:AD}(h:(Mj scope X.env C).lookup x=some c):C<c\/X.env.cells.lookup x=some c:=by
 rcases zi5 h with⟨h1,_⟩|h1
 ·exact .inl h1
 ·exact .inr (Ul I b h1)
theorem zmA (b:BlkOk X scope)(h:(x,NameKind.free)∈scope.names):(Mj scope X.env C).lookup x=(gY scope X.env).lookup x:=Xu λz=>by
 have h1:=b.uniq _ h;have h2:=b.uniq _ z;simp only at h1 h2;rw[h1]at h2;cases h2
theorem Gp (I:Inv X AM σ H s)(b:BlkOk X scope)(hC:s.heap.objs.size<=C)(hf:∀b∈fp,eF X AM H b)(hfC:∀b∈fp,b<C):(cH X N scope C s H fp).Ok where
 mod:=I.ok.mod
 kind:=b.kind
 glob:=I.ok.glob
 blt:=I.ok.blt
 above:=hC
 inj:=zpS (λx c h=>by
  obtain⟨v,hv⟩:=I.cell x c (Ul I b h);exact Zc (iV hv.lt hC)) λx y c h1 h2=>I.ok.inj x y c (Ul I b h1) (Ul I b h2)
 has:=λx hx=>by
  rcases uN (x:=x) hx with hm|hm
  ·show ∃c,(Mj scope X.env C).lookup x=some c;rw[zmA b hm];exact qaP.mp (Zl (.inl hm))
  ·obtain⟨c,h,_⟩:=Vn (n:=C+1) (acc:=gY scope X.env) hm;exact⟨c,h⟩
 cab:=λx c h e=>by
  have h':Kd scope x=true:=h;unfold Kd at h'
  split at h'
  ·rename_i q;obtain⟨c',h1,h2⟩:=Vn (n:=C+1) (acc:=gY scope X.env) (Wp q);have e':some c'=some c:=h1.symm.trans e;cases e';exact jE hC (Nat.le_of_succ_le h2)
  ·cases h'
 hd:=I.ok.hd
 frames:=I.ok.frames
 stk:= .inl rfl
 exf:=λa ha=>⟨gG (hfC a ha),λx c e z=>by
  rcases zih I b e with q|q
  ·exact Nat.lt_asymm q (z ▸ hfC a ha)
  ·exact(hf a ha).2.2.2.2.1 x c q z⟩
 bs:=I.bs
 bsz:=jE I.ok.bsz I.sz
 noex:=λa o e ha=>by
  rcases(hf a ha).2.2.2.1 with z|z
  ·exact I.ok.noex a o e z
  ·exact AH (iV (dQ e) (jE I.ok.bsz z)) (Dg _)
 exfs:=λa ha hs=>by
  rcases qam.mp (I.stkSub a hs)with z|z
  ·exact(hf a ha).2.1 z
  ·exact(hf a ha).2.2.1 z
 funs:=I.stack
 frf:=I.stkFree
theorem zo1 {tk:Nat}(I:Inv X AM σ H s)(b:BlkOk X scope)(hf:∀b∈fp,eF X AM H b)(hfs:∀b∈fp,b<s.heap.objs.size)(hns:h'.Ns s.heap.objs.size (λ_=>none))(hk:∀a o,s.heap.get? a=some o->h'.get? a=some o)(hcl:∀x c,(Mj scope X.env s.heap.objs.size).lookup x=some c->∃v,h'.IsCell c v)(hl:σc.length=N.length)(hσ:∀(i:Nat) (x:Str) (v:V),N[i]? =some x->σc[i]? =some (some v)->(x,NameKind.free)∈scope.names/\∃j:Nat,X.N[j]? =some x/\σ[j]? =some (some v))(hloc:∀(i:Nat) (x:Str) (v:V),N[i]? =some x->σc[i]? =some (some v)->¬(relabel scope X.env).names.lookup x=some .local):
  Inv (cH X N scope s.heap.objs.size s H fp) [] σc H {s with heap:=h',toks:=tk}:=by
 have ok:=Gp (N:=N) I b (bZ _) hf hfs;refine⟨ok,rfl,I.bare,Un.kept hk,⟨_,hns,λi x v h1 h2 h3=>?_⟩,λx c e=>?_,I.hok.fresh (bZ _),λx c e=>?_,λp hp=>AH (show p∈([]:AA (AD×Obj))from hp) (by simp),I.hok.kept hk,hl⟩
 ·obtain⟨hm,j,hj,hv⟩:=hσ i x v h1 h2;have hkind:=b.free _ hm rfl;obtain⟨m,hn,hloc'⟩:=I.loc;have hvis:dG X.env.scope x:=by
   rcases hkind with z|z
   ·exact .inr (.inl z)
   ·exact .inr (.inr z)
  obtain⟨u,ru,lk⟩:=hloc' j x v hj hv hvis;refine⟨u,ru,?_⟩;rcases lk with⟨z,_⟩|⟨_,c,ec,hc⟩
  ·exfalso;rcases hkind with w|w<;>simp only at w<;>rw[z]at w<;>cases w
  ·refine .inr ⟨?_,c,?_,?_⟩
   ·rcases h3 with z|z|z
    ·exact AH z (hloc i x v h1 h2)
    ·exact .inl z
    ·exact .inr z
   ·have hs:((gY scope X.env).lookup x).isSome=true:=Zl (.inl hm);obtain⟨c',ec'⟩:=qaP.mp hs;have:=zed (zjb I b) (by simp) ec';rw[ec]at this;cases this;exact(zmA b hm).trans ec'
   ·obtain⟨o,ho,hd⟩:=hc;exact⟨o,hk _ _ ho,hd⟩
 ·exact hcl x c e
 ·rcases zih I b e with q|q
  ·exact I.hok.fresh (Nat.le_of_lt q)
  ·exact I.freeC x c q
theorem zpy {h':AK}{s1:AE}(I:Inv X AM σ H s)(hf:∀b∈fp,eF X AM H b)(J:Inv (cH X N scope s.heap.objs.size s H fp) [] σc H' s1)(hs:Heap.SameBut s.heap.objs.size s1.heap h'):Inv X AM σ H' {s1 with heap:=h'}:=by
 have kp:∀a o,a≠s.heap.objs.size->s1.heap.get? a=some o->h'.get? a=some o:=λa o ha e=>hs.extBut a o ha e
 have free:H' s.heap.objs.size=none:=J.free;have ntr:∀a u,H' a=some u->a≠s.heap.objs.size:=λa u e z=>by rw[z,free]at e;exact aK e
 have lt:∀a o,s.heap.get? a=some o->a≠s.heap.objs.size:=λa o e=>gG (dQ e)
 have u:Un (frs X.stack) fp H H' s.heap s1.heap:=J.base;have u':Un (frs X.stack) fp H H' s.heap h':=by
  refine⟨λa o e n hb hx=>kp a o (lt a o e) (u.keep a o e n hb hx),λa o e n hb hx=>?_,u.free,λa o e hx=>?_,u.tups,u.frzs,u.tbls⟩
  ·obtain⟨sl,q⟩:=u.slot a o e n hb hx;exact⟨sl,kp a _ (lt a o e) q⟩
  ·obtain⟨o',q⟩:=u.there a o e hx;exact⟨o',kp a _ (lt a o e) q⟩
 have hok:HOk X.prog X.w H' h':=λa o e=>(J.hok a o e).stay (λc v hc q=>by
  refine kp c v ?_ q;rcases hc with rfl|hc
  ·exact ntr _ _ e
  ·exact ntr _ _ hc) (λ_ q=>q) λ_ _ q=>q
 obtain⟨hh,g,d,t,os'⟩:=s1;have os:os'=s.os:=J.os;subst os;have z:=I.call (h':=h') (g':=g) (d':=d) (t':=t) (ch:=fp) u' hok J.bare (λa ha=>⟨(hf a ha).2.2.2.1,(hf a ha).2.1,(hf a ha).2.2.2.2.1,(hf a ha).2.2.2.2.2⟩);exact z
end
noncomputable def Ml (X:Cx)(ifs:AA AI)(t:TT):Prop:=∀(AM:AA (AD×Obj)) (s:AE) (σ:St) (H:Hp) (Q:Bool->Hp->Prop),Inv X AM σ H s->t σ H Q->
 AG (model X.prog X.w) X.A (forIn ifs true λc r=>if r=true then do let ok<-isTrue c X.env (eval c X.env);pure (ForInStep.yield ok)else pure (ForInStep.yield r)) (TP X AM σ Q) X.xe s
theorem yF:Ml X [] (λ_ H Q=>Q true H):=λAM s σ H Q I h=>wpAny_tests_nil ⟨H,I,h⟩
theorem vL {c:AI}{t:TT}(h:PT X c t):Ml X [c] t:=λAM s σ H Q I hw=>wpAny_tests_one (h AM s σ H Q I hw)
theorem zl8 {R:Result->AE->Prop}{s:AE}{elt target iter:AI}{it acc:AC}(I:Nat->AE->Prop)(turn : ∀ n s, I n s -> AG (model prog w) A (pyNext it) (λr s₁ => match r with
   |none=>R (.ok .next) s₁
   | some v => AG (model prog w) A (letOwnedTupleGo target it v) (λ_ s₁' => AG (model prog w) A (assign target env v) (λ_ s₂ =>
     AG (model prog w) A (forIn ifs true λc r=>if r=true then do let ok<-isTrue c env (eval c env);pure (ForInStep.yield ok)else pure (ForInStep.yield r)) (λok s₃=>
      if ok=true then AG (model prog w) A (eval elt env) (λx s₄=>
       AG (model prog w) A (call (.builtin "list.append") [acc,x]) (λ_ s₅=>∃m,m<n/\I m s₅) (λ_ _=>False) s₄) (λ_ _=>False) s₃
      else ∃m,m<n/\I m s₃) (λ_ _=>False) s₂) (λ_ _=>False) s₁') (λ_ _=>False) s₁) (λ_ _=>False) s)(n:Nat)(h:I n s):codeAny (model prog w) A (.compLoop (.ListComp elt [⟨target,iter,ifs,0⟩] scope pos) 0 it acc env) R s:=by
 refine codeAny_loop rfl I (λn s hI=>?_) n h;show AG _ A ((compTurn (.ListComp elt [⟨target,iter,ifs,0⟩] scope pos) 0 it acc env).onRaise (λx=>do noteFrame x env;theTreesLotGoes x)) _ _ s;refine wpAny_noted ?_;rw[compTurn_list];have no:∀{E:AC->AE->Prop},∀x s',(λ(_:AC) (_:AE)=>False) x s'->E x s':=λ_ _ z=>z.elim
 refine aJ (Za (aJ (lY (turn n s hI) (λr s₁ h₁=>?_) no)));cases r with
 |none=>exact qaB h₁
 |some v=>
  refine aJ (lY h₁ (λ_ s₁' h₁'=>?_) no);refine aJ (lY h₁' (λ_ s₂ h₂=>aJ (lY h₂ (λok s₃ h₃=>?_) no)) no);cases ok with
  |false=>exact qaB ⟨rfl,h₃⟩
  |true=>
   exact aJ (aJ (lY h₃ (λx s₄ h₄=>aJ (lY h₄ (λ_ s₅ h₅=>qaB (qaB ⟨rfl,h₅⟩)) no)) no))
noncomputable def Fb (σ0:St->St)(wi:TI)(g:AD->AE->Hp->AA AD->TG)(tt:AD->AE->Hp->AA AD->TT)(te:AD->AE->Hp->AA AD->TE):TE:=λσ H Q=>wi σ H λJ H1=>∀D,H1 D=none->∃W:Nat->Nat->St->Hp->Prop,(∃m,W 0 m (σ0 σ) (upd H1 D (.lst [])))/\∀i m σ H,W i m σ H->
 (J.stop i H /\ Q (.ref D) H) \/ (J.go i H /\ ∀ C s₀ H₀ fp x H', J.yld i H x H' -> g C s₀ H₀ fp x σ H' λσ2 H2 => tt C s₀ H₀ fp σ2 H2 λok H3 => if ok = true then te C s₀ H₀ fp σ2 H3 λv H4 => ∃ xs, H4 D = some (.lst xs) /\ xs.length < sizeLine /\ ∃ m', m' < m /\ W (i + 1) m' σ2 (upd H4 D (.lst (xs ++ [v])))
  else ∃m',m'<m/\W (i+1) m' σ2 H3)
section
variable {X:Cx}{elt iter tg:AI}{ifs:AA AI}{scope:Scope}{pos:Pos}{N:AA Str}{σ0:St->St}{wi:TI}{g:AD->AE->Hp->AA AD->TG}{tt:AD->AE->Hp->AA AD->TT}{te:AD->AE->Hp->AA AD->TE}
structure Cap (X:Cx)(scope:Scope)(N:List Str)(σ0:St->St):Prop where
 len:∀σ,(σ0 σ).length=N.length
 src:∀(σ:St) (i:Nat) (x:Str) (v:V),N[i]? =some x->(σ0 σ)[i]? =some (some v)->(x,NameKind.free)∈scope.names/\∃j:Nat,X.N[j]? =some x/\σ[j]? =some (some v)
 loc:∀(σ:St) (i:Nat) (x:Str) (v:V),N[i]? =some x->(σ0 σ)[i]? =some (some v)->¬(relabel scope X.env).names.lookup x=some .local
theorem zpJ {E:AC->AE->Prop}(hc:X.calm=true)(b:BlkOk X scope)(cap:Cap X scope N σ0)(hi:PI X tg iter wi)(hg:∀C s H fp,PG (cH X N scope C s H fp) tg (g C s H fp))(ht:∀C s H fp,Ml (cH X N scope C s H fp) ifs (tt C s H fp))(he:∀C s H fp,PE (cH X N scope C s H fp) elt (te C s H fp)){AM:AA (AD×Obj)}{s:AE}{σ:St}{H:Hp}{Q:VK}(I:Inv X AM σ H s)(h:Fb σ0 wi g tt te σ H Q){QQ:AC->AE->Prop}{p0:Pos}(hs:∀x,foldedSetIterable iter X.env x=pure x)(fin : match use with
   |none=>∀u s',EP X AM σ Q u s'->QQ u s'
   |some f=>∀(D:AD) (fp:AA AD) (C:AD) (H1 H':Hp) (σc:St) (s1 s':AE),Inv X AM σ H1 s1->(∀b∈fp,eF X AM H1 b)->C=s1.heap.objs.size->Inv (cH X N scope C s1 H1 fp) [] σc H' s'->Q (.ref D) H'->
     AG (model X.prog X.w) X.A (f (.ref D)) (λ_ s''=>∃m,s''.heap.Ns C m/\∀h',Heap.SameBut C s''.heap h'->QQ .none {s'' with heap:=h'}) X.xe s'):
  AG (model X.prog X.w) X.A (comprehension (.ListComp elt [⟨tg,iter,ifs,0⟩] scope pos) scope X.env p0 (newList []) false (eval iter X.env) use) QQ X.xe s:=by
 refine wpAny_comprehension_free (cl:=gY scope X.env) (g:=⟨tg,iter,ifs,0⟩) (gs:=[]) rfl hs (znU (zjb I b)) b.kind (λx hx hl=>hl ▸ b.uniq x hx) ?_;refine bE (hi AM s σ H _ I h) λv s1 h1=>bE h1 λitv s2 h2=>?_
 obtain⟨it,fp,tn,J,H2,e,I2,T,st2,f2,h3⟩:=h2;subst e;refine tW ?_ (by show(0:Nat)<=sizeLine;exact jR _);have hD:H2 s2.heap.objs.size=none:=I2.fresh;obtain⟨W,⟨m0,w0⟩,turn⟩:=h3 _ hD;have I3:Inv X AM σ (upd H2 s2.heap.objs.size (.lst [])) {s2 with heap:=s2.heap.push {cls:= .type "list",data:= .seq ([]:AA AC).toArray}}:=I2.lnew (t':=s2.toks) .nil (jR _);have f3:∀b∈fp,eF X AM (upd H2 s2.heap.objs.size (.lst [])) b:=λb hb=>by
  obtain⟨a1,a2⟩:=f2 b hb;obtain⟨o,ho,_⟩:=T.obj _ _ st2 b hb;exact⟨by rw[bF (gG (dQ ho))];exact a1,a2⟩
 have st3:tn 0 (s2.heap.push {cls:= .type "list",data:= .seq ([]:AA AC).toArray}):=T.keep _ _ _ st2 λb hb o e=>bK _ e
 generalize hs3:({s2 with heap:=s2.heap.push {cls:= .type "list",data:= .seq ([]:AA AC).toArray}}:AE)=s3 at I3
 have hs3':s3.heap=s2.heap.push {cls:= .type "list",data:= .seq ([]:AA AC).toArray}:=by rw[<-hs3]
 rw[<-hs3']at st3;have hfs:∀b∈fp,b<s3.heap.objs.size:=λb hb=>by
  obtain⟨o,ho,_⟩:=T.obj _ _ st3 b hb;exact dQ ho
 show AG _ _ (newFunctionEnv scope X.env.globals (gY scope X.env) [] X.env.qual none .none (some X.env)) _ _ s3;refine zmv λh' hns hk hcl=>?_
 have hcl:=hcl λx c e=>I3.cell x c (Ul I3 b e)
 generalize hDD:s2.heap.objs.size=DD at*
 have B0:Inv (cH X N scope s3.heap.objs.size s3 (upd H2 DD (.lst [])) fp) [] (σ0 σ) (upd H2 DD (.lst [])) {s3 with heap:=h'}:=
  zo1 (tk:=s3.toks) I3 b f3 hfs hns hk hcl (cap.len σ) (cap.src σ) (cap.loc σ)
 have stat:∀{H':Hp},(∀b∈fp,H' b=none)->∀b∈fp,eF (cH X N scope s3.heap.objs.size s3 (upd H2 DD (.lst [])) fp) [] H' b:=λhn b' hb=>by
  refine⟨hn b' hb,gG (hfs b' hb),λz=>?_,.inl hb,λx c e=>?_,λp hp=>AH (show p∈([]:AA (AD×Obj))from hp) (by simp)⟩
  ·rcases qam.mp (I3.stkSub b' z)with w|w
   ·exact(f3 b' hb).2.1 w
   ·exact(f3 b' hb).2.2.1 w
  ·intro z;rcases zih I3 b e with q|q
   ·exact Nat.lt_asymm q (z ▸ hfs b' hb)
   ·exact(f3 b' hb).2.2.2.2.1 x c q z
 have tn0:tn 0 h':=T.keep _ _ _ st3 λb' hb o e=>hk b' o e
 have post:∀(s':AE) (σc:St) (H':Hp),Inv (cH X N scope s3.heap.objs.size s3 (upd H2 DD (.lst [])) fp) [] σc H' s'->Q (.ref DD) H'->compPost (model X.prog X.w) X.A X.xe use QQ (.ref DD) s3.heap.objs.size (.ok .next) s':=λs' σc H' J' q=>by
  cases use with
  |none=>
   obtain⟨m,hn,_⟩:=J'.loc;exact⟨m,hn,λh'' hs''=>fin _ _ ⟨.ref DD,H',zpy I3 f3 J' hs'',rfl,q⟩⟩
  |some f=>exact fin DD fp _ _ H' σc s3 s' I3 f3 rfl J' q
 have loop:codeAny (model X.prog X.w) X.A (.compLoop (.ListComp elt [⟨tg,iter,ifs,0⟩] scope pos) 0 (.ref it) (.ref DD) (compEnvC scope (Mj scope X.env s3.heap.objs.size) s3.heap.objs.size X.env)) (compPost (model X.prog X.w) X.A X.xe use QQ (.ref DD) s3.heap.objs.size) {s3 with heap:=h'}:=by
  refine zl8 (λn s'=>∃i σ' H',Inv (cH X N scope s3.heap.objs.size s3 (upd H2 DD (.lst [])) fp) [] σ' H' s'/\tn i s'.heap/\(∀b∈fp,H' b=none)/\W i n σ' H') ?_ m0 ⟨0,σ0 σ,_,B0,tn0,λb' hb=>(f3 b' hb).1,w0⟩;rintro n s5 ⟨i,σ5,H5,I5,st5,fr5,w5⟩;rcases turn i n σ5 H5 w5 with⟨stop,qn⟩|⟨go,step⟩
  ·refine bE (T.done (cH X N scope s3.heap.objs.size s3 (upd H2 DD (.lst [])) fp) rfl rfl rfl hc i [] s5 σ5 H5 (λ_ _=>False) I5 (stat fr5) st5 stop) λr s6 ⟨hr,I6⟩=>?_
   subst hr;exact post s6 σ5 H5 I6 qn
  ·refine bE (T.item (cH X N scope s3.heap.objs.size s3 (upd H2 DD (.lst [])) fp) rfl rfl rfl hc i [] s5 σ5 H5 (λ_ _=>False) I5 (stat fr5) st5 go) λr s6 ⟨u,hr,h6⟩=>?_
   subst hr;refine bE h6 λ_ s7 ⟨x,H7,I7,r7,y7,st7,fr7⟩=>?_
   have I7':=I7.pinned (stat fr7) (T.obj _ _ st7);have again:∀{σ8:St} {H8:Hp} {s8:AE} {m':Nat},Inv (cH X N scope s3.heap.objs.size s3 (upd H2 DD (.lst [])) fp) ([]++Ts fp s7.heap) σ8 H8 s8->m'<n->W (i+1) m' σ8 H8->
     ∃m,m<n/\∃i σ' H',Inv (cH X N scope s3.heap.objs.size s3 (upd H2 DD (.lst [])) fp) [] σ' H' s8/\tn i s8.heap/\(∀b∈fp,H' b=none)/\W i m σ' H':=λ{σ8 H8 s8 m'} I8 hm w8=>by
    refine⟨m',hm,i+1,σ8,H8,I8.unpinned,T.keep _ _ _ st7 λb' hb o e=>(I8.pin (b',o) (eX _ (eX _ (Xc hb e)))).1,λb' hb=>?_,w8⟩;obtain⟨o,e,d⟩:=T.obj _ _ st7 b' hb;exact(I8.pin (b',o) (eX _ (eX _ (Xc hb e)))).2.1
   refine bE (hg _ _ _ _ _ s7 σ5 H7 x u _ I7' r7 (step _ _ _ _ x H7 y7)) λ_ s8 ⟨σ8,H8,I8,q8⟩=>?_
   refine bE (ht _ _ _ _ _ s8 σ8 H8 _ I8 q8) λok s9 ⟨H9,I9,q9⟩=>?_
   cases ok with
   |false=>
    obtain⟨m',hm,w9⟩:=q9;exact again I9 hm w9
   |true=>
    refine bE (he _ _ _ _ _ s9 σ8 H9 _ I9 q9) λu10 s10 ⟨v10,H10,I10,r10,xs,hx,hz,m',hm,w10⟩=>?_
    refine bE (Yf _ s10 σ8 H10 (.ref DD) [v10] (.ref DD) [u10] (λv H'=>v= .non/\H'=upd H10 DD (.lst (xs++[v10]))) I10 rfl (.cons r10 .nil) ⟨DD,xs,v10,rfl,rfl,hx,hz,rfl,rfl⟩) λ_ s11 ⟨_,H11,I11,_,_,e11⟩=>?_
    subst e11;exact again I11 hm w10
 exact codeAny_compStart_list loop (T.self _ _ _ _ _ tn0 loop)
theorem pH (hc:X.calm=true)(b:BlkOk X scope)(cap:Cap X scope N σ0)(hi:PI X tg iter wi)(hg:∀C s H fp,PG (cH X N scope C s H fp) tg (g C s H fp))(ht:∀C s H fp,Ml (cH X N scope C s H fp) ifs (tt C s H fp))(he:∀C s H fp,PE (cH X N scope C s H fp) elt (te C s H fp))(hs:autoParam (∀x,foldedSetIterable iter X.env x=pure x) zu9._auto_1):PE X (.ListComp elt [⟨tg,iter,ifs,0⟩] scope pos) (Fb σ0 wi g tt te):=by
  intro AM s σ H Q I h;rw[eval_ListComp];exact zpJ (use:=none) (E:=X.xe) hc b cap hi hg ht he I h hs (λu s' q=>q)
end
noncomputable def fL (ρ:R):Bool:=ρ.all λs=>match s with
 | .own _=>false
 | .par _=>false
 | .tre _=>false
 | .ptr _=>false
 |_=>true
theorem Yt (h:fL ρ=true){a:AD}(e:ρ[i]? =some s):¬fD K G H ov a s:=λw=>by
 unfold fL at h;rw[Bu]at h;have:=h s (xB e);cases s with
 |emp=>exact w
 |two _ _=>exact w
 |val d=>exact w
 |_=>exact AH (show false=true from this) hZ
theorem Ic (h:fL ρ=true)(e:ρ[i]? =some s):(∀t,s≠ .tre t)/\∀t,s≠ .ptr t:=by
 unfold fL at h;rw[Bu]at h;have:=h s (xB e)
 constructor
 ·rintro t rfl;exact AH (show false=true from this) hZ
 ·rintro t rfl;exact AH (show false=true from this) hZ
theorem Fq (h:fL ρ=true):¬Wr ρ i:=λ⟨s,ds,e,q⟩=>by
 unfold fL at h;rw[Bu]at h;have:=h s (xB e);cases s with
 |emp=>exact aK q
 |two _ _=>exact aK q
 |tre _=>exact aK q
 |ptr _=>exact aK q
 |val d=>exact aK q
 |own d=>exact AH (show false=true from this) hZ
 |par d=>exact AH (show false=true from this) hZ
structure VS (K:W.Frag)(G:Hp)(σ:St)(ρ:R):Prop where
 len:σ.length=ρ.length
 no:fL ρ=true
 val:∀(i:Nat) d,ρ[i]? =some (.val d)->∃v,σ[i]? =some (some v)/\RepD K G v d
theorem VS.si (h:VS K G σ ρ)(fz:Fz G H):SI K ⟨G,H,[]⟩ G H σ ρ where
 fz:=fz
 g0:=Fz.refl G
 new:=λb o e=> .inl (by show G b≠none;rw[e];simp)
 keep:=λb o e _=>e
 there:=λb e=>e
 ob:=λi b m=>by cases m
 len:=h.len
 slot:=λi s e=>by
  cases s with
  |emp=>trivial
  |two _ _=>trivial
  |tre t=>exact AH rfl ((Ic h.no e).1 t)
  |ptr t=>exact AH rfl ((Ic h.no e).2 t)
  |val d=>exact h.val i d e
  |own ds=>exact AH ⟨_,ds,e,rfl⟩ (Fq h.no (i:=i))
  |par ds=>exact AH ⟨_,ds,e,rfl⟩ (Fq h.no (i:=i))
 dis:=λi j s _ a _ e _ w=>AH w (Yt h.no e)
theorem VS.of (I:SI K B G H σ ρ)(h:fL ρ=true):VS K G σ ρ:=⟨I.len,h,λi d e=>I.slot i _ e⟩
noncomputable def fz1 (i:Nat)(ρ:R):R:=match ρ[i]? with
 |some (.own ds)=>ρ.set i (.val (.lst ds))
 |_=>ρ
noncomputable def fzL:AA Nat->R->R
 |[],ρ=>ρ
 |i::is,ρ=>fzL is (fz1 i ρ)
theorem SI.fz1 (I:SI K B G H σ ρ)(i:Nat):∃G',SI K B G' H σ (M.fz1 i ρ)/\Fz G G':=by
 unfold M.fz1;cases e:ρ[i]? with
 |none=>exact⟨G,I,Fz.refl G⟩
 |some s=>
  cases s with
  |own ds=>obtain⟨l,xs,_,f,_,I'⟩:=I.freeze e;exact⟨_,I',f⟩
  |emp=>exact⟨G,I,Fz.refl G⟩
  |two _ _=>exact⟨G,I,Fz.refl G⟩
  |tre _=>exact⟨G,I,Fz.refl G⟩
  |ptr _=>exact⟨G,I,Fz.refl G⟩
  |val _=>exact⟨G,I,Fz.refl G⟩
  |par _=>exact⟨G,I,Fz.refl G⟩
theorem SI.fzL:∀(is:AA Nat) {G:Hp} {ρ:R},SI K B G H σ ρ->∃G',SI K B G' H σ (M.fzL is ρ)/\Fz G G'
 |[],G,ρ,I=>⟨G,I,Fz.refl G⟩
 |i::is,G,ρ,I=>by
  obtain⟨G1,I1,f1⟩:=I.fz1 i;obtain⟨G2,I2,f2⟩:=SI.fzL is I1;exact⟨G2,I2,f1.trans f2⟩
noncomputable def kG (ρ:R)(i:Nat):Sl:=match ρ[i]? with
 |some (.val d)=> .val d
 |_=> .emp
theorem znM (ρ:R)(i:Nat):kG ρ i= .emp\/∃d,kG ρ i= .val d:=by
 unfold kG
 split
 ·exact .inr ⟨_,rfl⟩
 ·exact .inl rfl
noncomputable def eN (cap:AA Nat)(t:Nat)(ρ:R):R:=cap.map (kG ρ)++List.replicate t .emp
noncomputable def cX (cap:AA Nat)(t:Nat)(σ:St):St:=cap.map (λi=>(σ[i]?).join)++List.replicate t none
theorem Xz (I:SI K B G H σ ρ)(cap:AA Nat)(t:Nat):VS K G (cX cap t σ) (eN cap t ρ) where
 len:=by unfold cX eN;simp
 no:=by
  unfold fL eN;rw[Bu];intro s hs;rcases qan.mp hs with h|h
  ·obtain⟨i,_,rfl⟩:=qb1.mp h;rcases znM ρ i with e|⟨d,e⟩
   ·rw[e]
   ·rw[e]
  ·rw[List.eq_of_mem_replicate h]
 val:=λi d e=>by
  unfold eN at e
  by_cases hi:i<cap.length
  ·rw[iU (by simpa using hi),eG,cI hi]at e;have e':kG ρ cap[i]= .val d:=by simpa using e
   unfold kG at e'
   split at e'
   ·rename_i d' q;cases e';obtain⟨v,h1,h2⟩:=I.slot _ _ q;refine⟨v,?_,h2⟩;unfold cX;rw[iU (by simpa using hi),eG,cI hi];simp[h1]
   ·cases e'
  ·rw[Ba (by simpa using hi),wY]at e
   split at e
   ·cases e
   ·exact aK e
noncomputable def gH (f:D->R->AB (AB D×R)):AA D->R->AB (AA D×R)
 |[],ρ=>some ([],ρ)
 |d::ds,ρ=>(f d ρ).bind λp=>(gH f ds p.2).map λq=>(p.1.toList++q.1,q.2)
noncomputable def Uz (g:D->R->AB R)(mt:MT)(me:ME):D->R->AB (AB D×R):=λd ρ=>(g d ρ).bind λρ1=>(mt ρ1).bind λp=>if p.1 then(me p.2).bind λq=>if fL q.2 then some (some q.1,q.2)else none else if fL p.2 then some (none,p.2)else none
noncomputable def fQ (cap:AA Nat)(t:Nat)(mi:MA)(g:D->R->AB R)(mt:MT)(me:ME):MO:=λρ=>(mi ρ).bind λp=>if p.1.length<=16777216 then(gH (Uz g mt me) p.1 (eN cap t (fzL cap p.2))).map λq=>(q.1,fzL cap p.2)else none
noncomputable def Ew (X:Cx)(ifs:AA AI)(m:MT)(t:TT):Prop:=∀B G H σ ρ d ρ' (Q:Bool->Hp->Prop),SI X.K B G H σ ρ->m ρ=some (d,ρ')->(∀G' H',SI X.K B G' H' σ ρ'->Fz G G'->Q d H')->t σ H Q
noncomputable def uG (X:Cx)(ifs:AA AI)(m:MT):Prop:=∃t,Ml X ifs t/\Ew X ifs m t
noncomputable def dZ:MT:=λρ=>some (true,ρ)
theorem eK:uG X [] dZ:=⟨_,yF,λB G H σ ρ d ρ' Q I hm k=>by obtain⟨rfl,rfl⟩:=bM hm;exact k G H I (Fz.refl G)⟩
theorem zpE {c:AI}{m:MT}(h:STt X c m):uG X [c] m:=h.el λt p s=>⟨t,vL p,s⟩
noncomputable def iI (env:Env)(scope:Scope):Bool:=(scope.names.all λx=>scope.names.lookup x.1==some x.2&&(x.2 != .free||(env.kindOf x.1==some .cell||env.kindOf x.1==some .free)))
theorem Jp (hk:scope.kind= .function)(h:iI X.env scope=true):BlkOk X scope:=by
 unfold iI at h;rw[Bu]at h;refine⟨hk,λx hx=>?_,λx hx hf=>?_⟩
 ·have:=h x hx;simp only[fJ,Bool.or_eq_true,Mu,qbJ]at this;exact this.1
 ·have:=h x hx;simp only[fJ,Bool.or_eq_true,Mu,qbJ]at this;exact(this.2).resolve_left (λz=>z hf)
noncomputable def iC (names:AA (Str×NameKind))(N XN:AA Str)(cap:AA Nat)(t:Nat):Bool:=N.length==cap.length+t&&(cap.zip N).all λp=>XN[p.1]? ==some p.2&&names.lookup p.2==some .free
theorem Kg (h:iC scope.names N X.N cap t=true):Cap X scope N (cX cap t):=by
 unfold iC at h;rw[fJ,Bu]at h;obtain⟨hl,h⟩:=h;have hl:N.length=cap.length+t:=by simpa using hl
 have key:∀(σ:St) (i:Nat) (x:Str) (v:V),N[i]? =some x->(cX cap t σ)[i]? =some (some v)->∃j,cap[i]? =some j/\σ[j]? =some (some v)/\X.N[j]? =some x/\scope.names.lookup x=some .free:=λσ i x v h1 h2=>by
  unfold cX at h2
  by_cases hi:i<cap.length
  ·rw[iU (by simpa using hi),eG,cI hi]at h2;have h3:(σ[cap[i]]?).join=some v:=by simpa using h2
   have hz:(cap[i],x)∈cap.zip N:=by
    refine xB (i:=i) ?_;rw[List.getElem?_zip_eq_some];exact⟨cI hi,h1⟩
   have:=h _ hz;simp only[fJ,qbJ]at this;refine⟨cap[i],cI hi,?_,this.1,this.2⟩;cases q:σ[cap[i]]? with
   |none=>rw[q]at h3;exact aK h3
   |some o=>rw[q]at h3;rw[show o=some v from h3]
  ·rw[Ba (by simpa using hi),wY]at h2
   split at h2<;>cases h2
 refine⟨λσ=>by unfold cX;simp[hl],λσ i x v h1 h2=>?_,λσ i x v h1 h2 z=>?_⟩
 ·obtain⟨j,_,a,b,c⟩:=key σ i x v h1 h2;exact⟨Wp c,j,b,a⟩
 ·obtain⟨j,_,a,b,c⟩:=key σ i x v h1 h2;have e:(relabel scope X.env).names.lookup x=(scope.names.lookup x).map λk=>if(k==NameKind.free&&X.env.scope.kind== .function&&X.env.kindOf x==some .cell)then NameKind.cell else k:=zeh
  rw[e,c]at z;simp only[Cq,Yw]at z
  split at z<;>cases z
noncomputable def lC (ok:R->Bool)(g:D->R->AB R)(mt:MT)(me:ME):D->R->AB (AB D×R):=λd ρ=>(g d ρ).bind λρ1=>(mt ρ1).bind λp=>if p.1 then(me p.2).bind λq=>if ok q.2 then some (some q.1,q.2)else none else if ok p.2 then some (none,p.2)else none
theorem vW {α β:Type}{a c:α}{b d:β}(h:some (a,b)=some (c,d))(k:a=c->b=d->C):C:=k (bM h).1 (bM h).2
theorem oI {ok:R->Bool}{mt:MT}{me:ME}(h:lC ok g mt me d ρ=some (o,ρ'))(k:∀ρ1 b ρ2,g d ρ=some ρ1->mt ρ1=some (b,ρ2)->((b=true/\∃dv,me ρ2=some (dv,ρ')/\o=some dv)\/(b=false/\o=none/\ρ2=ρ'))->ok ρ'=true->C):C:=by
 unfold lC at h;refine aM h λρ1 e1 h=>bN h λb ρ2 e2 h=>?_
 cases b with
 |true=>exact bN h λdv ρ3 e3 h=>bC h λz h=>vW h λq1 q2=>by subst q2;exact k ρ1 _ ρ2 e1 e2 (.inl ⟨rfl,dv,e3,q1.symm⟩) z
 |false=>exact bC h λz h=>vW h λq1 q2=>by subst q2;exact k ρ1 _ ρ2 e1 e2 (.inr ⟨rfl,q1.symm,rfl⟩) z
theorem znv {f:D->R->AB (AB D×R)}{d:D}(h:gH f (d::ds) ρ=some (out,ρ'))(k:∀o ρ1 rest,f d ρ=some (o,ρ1)->gH f ds ρ1=some (rest,ρ')->out=o.toList++rest->C):C:=by
 simp only[gH]at h;exact bN h λo ρ1 e1 h=>gZ h λrest ρ2 e2 h=>by
  obtain⟨rfl,rfl⟩:=Prod.mk.inj h;exact k o ρ1 rest e1 e2 rfl
structure LcG (K:W.Frag)(O:List (Nat×Addr))(G2 H1:Hp)(DD:Addr)(Hc Gc:Hp)(xs:List V):Prop where
 fc:Fz G2 Gc
 fcH:Fz Gc Hc
 nw:∀b o,Gc b=some o->G2 b≠none\/H1 b=none
 kp:∀b o,(∀i,(i,b)∉O)->H1 b=some o->Hc b=some o
 gD:Gc DD=none
 hDc:Hc DD=some (.lst xs)
theorem Vw {b:AD}(h:∀o,H b=some o->False):H b=none:=by
 cases q:H b with
 |none=>rfl
 |some u=>exact(h u q).elim
theorem LcG.next {G2 H1:Hp}(J:LcG K O G2 H1 DD Hc Gc xs)(hO:∀i,(i,DD)∉O){σ':St}(I:SI K ⟨Gc,Hc,O⟩ G' H' σ' ρ'):LcG K O G2 H1 DD H' G' xs where
 fc:=J.fc.trans I.g0
 fcH:=I.fz
 nw:=λb o e=>(I.new b o e).elim (λh=>by
  cases q:Gc b with
  |none=>exact AH q h
  |some u=>exact J.nw b u q) λh=> .inr (Vw λu q=>Classical.byCases (p:=∀i,(i,b)∉O) (λn=>aK ((show Hc b=none from h).symm.trans (J.kp b u n q))) λn=>n λi m=>I.ob i b m h)
 kp:=λb o n e=>I.keep b o (J.kp b o n e) n
 gD:=Vw λu q=>(I.new DD u q).elim (λh=>h J.gD) λh=>aK ((show Hc DD=none from h).symm.trans J.hDc)
 hDc:=I.keep DD _ J.hDc hO
theorem LcG.put {G2 H1:Hp}(J:LcG K O G2 H1 DD Hc Gc xs)(hD:H1 DD=none)(ys:AA V):LcG K O G2 H1 DD (upd Hc DD (.lst ys)) Gc ys where
 fc:=J.fc
 fcH:=J.fcH.right J.gD _
 nw:=J.nw
 kp:=λb o n e=>(bF (jU e hD)).trans (J.kp b o n e)
 gD:=J.gD
 hDc:=dU
section
variable {X:Cx}{elt iter tg:AI}{ifs:AA AI}{scope:Scope}{pos:Pos}{N:AA Str}{cap:AA Nat}{t:Nat}{mi:MA}{g:D->R->AB R}{mt:MT}{me:ME}
structure LcB (X:Cx)(scope:Scope)(N:List Str)(elt tg:Expr)(ifs:List Expr)(g:D->R->Option R)(mt:MT)(me:ME)(tg':Addr->Shared->Hp->List Addr->TG)(tt:Addr->Shared->Hp->List Addr->TT)(te:Addr->Shared->Hp->List Addr->TE):Prop where
 sg:∀C s H fp,Yq (cH X N scope C s H fp) tg g (tg' C s H fp)
 st:∀C s H fp,Ew (cH X N scope C s H fp) ifs mt (tt C s H fp)
 se:∀C s H fp,SEb (cH X N scope C s H fp) elt me (te C s H fp)
noncomputable def LcW (σs:St)(J:It)(DD:AD)(H1:Hp)(tg':AD->AE->Hp->AA AD->TG)(tt:AD->AE->Hp->AA AD->TT)(te:AD->AE->Hp->AA AD->TE)(Q:VK):Prop:=∃W:Nat->Nat->St->Hp->Prop,(∃m,W 0 m σs (upd H1 DD (.lst [])))/\∀i m σ H,W i m σ H->
 (J.stop i H /\ Q (.ref DD) H) \/ (J.go i H /\ ∀ C s₀ H₀ fp x H', J.yld i H x H' -> tg' C s₀ H₀ fp x σ H' λσ2 H2 => tt C s₀ H₀ fp σ2 H2 λok H3 => if ok = true then te C s₀ H₀ fp σ2 H3 λv H4 => ∃ xs, H4 DD = some (.lst xs) /\ xs.length < sizeLine /\ ∃ m', m' < m /\ W (i + 1) m' σ2 (upd H4 DD (.lst (xs ++ [v])))
  else ∃m',m'<m/\W (i+1) m' σ2 H3)
theorem ziX (blk:LcB X scope N elt tg ifs g mt me tg' tt te){ok:R->Bool}{items all:AA D}{ρs ρf:R}{G1 G2 H1:Hp}{σs:St}{J:It}{Q:VK}(IT:Itm X.K J G1 items)(f2:Fz G1 G2)(fH:Fz G2 H1)(hD:H1 DD=none)(AO:items.length<=16777216)(hO:∀i,(i,DD)∉O)(jsi:∀G H σ ρ,JJ G H σ ρ->Fz G H->SI X.K ⟨G,H,O⟩ G H σ ρ)(joi:∀Gb Hb G H σ ρ,SI X.K ⟨Gb,Hb,O⟩ G H σ ρ->ok ρ=true->JJ G H σ ρ)(jup:∀G H σ ρ xs,JJ G H σ ρ->JJ G (upd H DD (.lst xs)) σ ρ)(j0:JJ G2 H1 σs ρs)(e2:gH (lC ok g mt me) items ρs=some (all,ρf))(k:∀Gc Hc σc xs,LcG X.K O G2 H1 DD Hc Gc xs->RepL X.K Gc xs all->JJ Gc Hc σc ρf->Q (.ref DD) Hc):LcW σs J DD H1 tg' tt te Q:=by
 refine⟨λi m σc Hc=>m=items.length-i/\i<=items.length/\∃Gc ρc acc xs rest,LcG X.K O G2 H1 DD Hc Gc xs/\RepL X.K Gc xs acc/\xs.length<=i/\JJ Gc Hc σc ρc/\gH (lC ok g mt me) (items.drop i) ρc=some (rest,ρf)/\all=acc++rest,
  ⟨items.length,rfl,jR _,G2,ρs,[],[],all,⟨Fz.refl _,fH.right (fH.free hD) _,λb o e=> .inl (by rw[e];exact nofun),λb o _ e=>(bF (jU e hD)).trans e,fH.free hD,dU⟩,.nil,bZ _,jup _ _ _ _ _ j0,e2,rfl⟩,?_⟩
 rintro i m σc Hc ⟨rfl,hi,Gc,ρc,acc,xs,rest,J0,ra,hx,jj,ec,eall⟩
 by_cases hlt:i<items.length
 ·refine .inr ⟨IT.go Hc i (f2.trans (J0.fc.trans J0.fcH)) hlt,λC s₀ H₀ fp x H' y=>?_⟩;rw[Xj hlt]at ec;refine znv ec λo ρ3 rest2 h3 h4 er=>oI h3 λρ5 b ρ6 h5 h6 hb hok=>?_
  have f3':Fz G1 Gc:=f2.trans J0.fc;have yy2:(H'=Hc/\RepD X.K Gc x items[i])\/∃p xs es,Hc p=none/\H'=upd Hc p (.tup xs)/\x= .ref p/\items[i]= .tup es/\RepL X.K Gc xs es:=(IT.yld Hc i x H' (f3'.trans J0.fcH) y items[i] (cI hlt)).imp (λq=>⟨q.1,q.2.mono f3'⟩) λ⟨p,xs,es,a,b,c,d,e⟩=>⟨p,xs,es,a,b,c,d,e.mono f3'⟩
  obtain⟨G3,I3,f3,r3⟩:=(jsi _ _ _ _ jj J0.fcH).yld yy2;refine blk.sg C s₀ H₀ fp _ G3 H' σc ρc x items[i] ρ5 _ I3 r3 h5 λG4 H4 σ4 I4 f4=>blk.st C s₀ H₀ fp _ G4 H4 σ4 ρ5 b ρ6 _ I4 h6 λG5 H5 I5 f5=>?_
  have hlt2:items.length-(i+1)<items.length-i:=by lia
  rcases hb with⟨rfl,dv,h7,rfl⟩|⟨rfl,rfl,rfl⟩
  ·refine blk.se C s₀ H₀ fp _ G5 H5 σ4 ρ6 dv _ _ I5 h7 λG6 H6 v I6 f6 r6=>?_
   have J1:=J0.next hO I6;exact⟨xs,J1.hDc,by rw[gF];lia,_,hlt2,rfl,hlt,G6,_,acc++[dv],xs++[v],rest2,J1.put hD _,(ra.mono I6.g0).snoc r6,by rw[eB,Ut];lia,jup _ _ _ _ _ (joi _ _ _ _ _ _ I6 hok),h4,by rw[eall,er,qK];rfl⟩
  ·exact⟨_,hlt2,rfl,hlt,G5,_,acc,xs,rest2,J0.next hO I5,ra.mono I5.g0,by lia,joi _ _ _ _ _ _ I5 hok,h4,by rw[eall,er];rfl⟩
 ·have e:i=items.length:=by lia
  subst e;rw[List.drop_length]at ec;have hr:=bM ec;obtain⟨q1,q2⟩:=hr;subst q1 q2;rw[lW]at eall;subst eall;exact .inl ⟨IT.stop Hc _ (f2.trans (J0.fc.trans J0.fcH)) (bZ _),k Gc Hc σc xs J0 ra jj⟩
theorem zkS (si:lU X tg iter mi wi)(blk:LcB X scope N elt tg ifs g mt me tg' tt te):
  ∀B G H σ ρ ds ρ' (Q:VK),SI X.K B G H σ ρ->fQ cap t mi g mt me ρ=some (ds,ρ')->
   (∀G' H' l xs,SI X.K B G' H' σ ρ'->Fz G G'->G' l=none->H' l=some (.lst xs)->RepL X.K G' xs ds->B.H l=none->Nw X.K G' H' σ ρ' l->Q (.ref l) H')->Fb (cX cap t) wi tg' tt te σ H Q:=λB G H σ ρ ds ρ' Q I hm k=>
 bN hm λitems ρ1 e1 hm=>si B G H σ ρ items ρ1 _ I e1 λJ G1 H1 I1 f1 IT DD hD=>bC hm λAO hm=>gZ hm λall ρf e2 e3=>by
  obtain⟨rfl,rfl⟩:=Prod.mk.inj e3;obtain⟨G2,I2,f2⟩:=SI.fzL cap I1;exact ziX blk (O:=[]) (JJ:=λG _ σ ρ=>VS X.K G σ ρ) IT f2 I2.fz hD AO (λi m=>nomatch m) (λG H σ ρ h f=>h.si f) (λ_ _ _ _ _ _ I h=>VS.of I h) (λ_ _ _ _ _ h=>h) (Xz I2 cap t) e2
   λGc Hc σc xs J ra _=>k Gc Hc DD xs (I2.grow J.fc J.fcH J.nw λb o e=>J.kp b o nofun e) (f1.trans (f2.trans J.fc)) J.gD J.hDc ra (I2.there DD hD) (I2.own_ne hD J.nw λb o e=>J.kp b o nofun e)
theorem LcB.mk' (hg:∀C s H fp,SG (cH X N scope C s H fp) tg g)(ht:∀C s H fp,uG (cH X N scope C s H fp) ifs mt)(he:∀C s H fp,SE (cH X N scope C s H fp) elt me):LcB X scope N elt tg ifs g mt me (λC s H fp=>(hg C s H fp).choose) (λC s H fp=>(ht C s H fp).choose) (λC s H fp=>(he C s H fp).choose):=⟨λC s H fp=>(hg C s H fp).choose_spec.2,λC s H fp=>(ht C s H fp).choose_spec.2,λC s H fp=>(he C s H fp).choose_spec.2⟩
theorem iJ (cap:AA Nat)(t:Nat)(N:AA Str)(hc:X.calm=true)(hi:SIt X tg iter mi)(hg:∀C s H fp,SG (cH X N scope C s H fp) tg g)(ht:∀C s H fp,uG (cH X N scope C s H fp) ifs mt)(he:∀C s H fp,SE (cH X N scope C s H fp) elt me)(hk:autoParam (scope.kind= .function) zu2._auto_1)(hb:autoParam (iI X.env scope=true) zu10._auto_1)(hcap:autoParam (iC scope.names N X.N cap t=true) zu10._auto_1)(hs:autoParam (∀x,foldedSetIterable iter X.env x=pure x) zu9._auto_1):SO X (.ListComp elt [⟨tg,iter,ifs,0⟩] scope pos) (fQ cap t mi g mt me):=by
  refine hi.el λwi pi si=>?_
  exact⟨_,pH hc (Jp hk hb) (Kg hcap) pi (λC s H fp=>(hg C s H fp).choose_spec.1) (λC s H fp=>(ht C s H fp).choose_spec.1) (λC s H fp=>(he C s H fp).choose_spec.1) hs,
    zkS si (.mk' hg ht he)⟩
end
section
variable {X:Cx}{elt iter tg:AI}{ifs:AA AI}{scope:Scope}{pos lpos pos':Pos}{N:AA Str}{cap:AA Nat}{t:Nat}{mi:MA}{g:D->R->AB R}{mt:MT}{me:ME}
theorem Vv {σ0:St->St}(hN:X.N.Nodup)(hxi:X.N[i]? =some x)(hx:iO X.env.scope x)(hf:X.fn x=true\/X.env.scope.names.lookup x=some .local)(hsw:swapsWith (.ListComp elt [⟨tg,iter,ifs,0⟩] scope lpos) (some (.Name x pos')) pos.line X.env=pure true)(hc:X.calm=true)(b:BlkOk X scope)(cap:Cap X scope N σ0)(hi:PI X tg iter wi)(hg:∀C s H fp,PG (cH X N scope C s H fp) tg (tg' C s H fp))(ht:∀C s H fp,Ml (cH X N scope C s H fp) ifs (tt C s H fp))(he:∀C s H fp,PE (cH X N scope C s H fp) elt (te C s H fp))(hs:∀x,foldedSetIterable iter X.env x=pure x):PS X (.Assign [.Name x pos'] (.ListComp elt [⟨tg,iter,ifs,0⟩] scope lpos) pos) (λE σ H=>Fb σ0 wi tg' tt te σ H λv H'=>E.nx (σ.set i (some v)) H'):=by
 intro AM s σ H E I h;rw[exec_Assign_Name_used _ _ _ _ hsw];refine aJ (Za (aJ ?_));show AG _ _ (do let _<-comprehension (.ListComp elt [⟨tg,iter,ifs,0⟩] scope lpos) scope X.env _ (newList []) false (eval iter X.env) (some (assign (.Name x pos') X.env))) _ _ s;refine aJ (bE (zpJ (use:=some (assign (.Name x pos') X.env)) (QQ:=λ_ s'=>SP X AM E .next s') (E:=X.xe) hc b cap hi hg ht he I h hs ?_) λ_ s' hq=>qaB (qaB hq));intro D fp C H1 H' σc s1 s' I1 f1 eC J q;subst eC;have I2:Inv X AM σ H' s':=by
  have z:=zpy (h':=s'.heap) I1 f1 J (Heap.SameBut.refl _ _);exact z
 obtain⟨m,⟨o,es,ep,ho,hd,hrest⟩,_⟩:=J.loc;have fpk:eF X AM H' s1.heap.objs.size:=I1.fpOk (bZ _) J.free;have I3:Inv X (AM++[(s1.heap.objs.size,o)]) σ H' s':=I2.pins_of λp hp=>by
  rcases qan.mp hp with hp|hp
  ·exact I2.pin p (eX _ hp)
  ·have e:p=(s1.heap.objs.size,o):=by simpa using hp
   subst e;exact⟨ho,fpk.1,fpk.2.1,fpk.2.2.1,λv z=>by rw[hd]at z;cases z⟩
 refine bE (zmi hN hxi hx hf (AM++[(s1.heap.objs.size,o)]) s' σ H' (.ref D) (.ref D) (λσ2 H2=>E.nx σ2 H2) I3 rfl q) λ_ s'' ⟨σ2,H2,I4,q4⟩=>?_
 have pC:=I4.pin (s1.heap.objs.size,o) (eX _ (eX _ (by simp)));refine⟨m,⟨o,es,ep,pC.1,hd,hrest⟩,λh' hs'=>?_⟩;have I5:Inv X AM σ2 H2 s'':=I4.unpinned;have fp2:eF X AM H2 s1.heap.objs.size:=I1.fpOk (bZ _) pC.2.1;have I6:=I5.turned (t':=s''.toks) (h':=h') (it:=s1.heap.objs.size) (λb' o' hb e=>hs'.extBut b' o' hb e) fp2.1 fp2.2.1 fp2.2.2.2.1 fp2.2.2.2.2.1 fp2.2.2.2.2.2;exact⟨σ2,H2,I6,q4⟩
theorem rA (i:Nat)(cap:AA Nat)(t:Nat)(N:AA Str)(hc:X.calm=true)(hi:SIt X tg iter mi)(hg:∀C s H fp,SG (cH X N scope C s H fp) tg g)(ht:∀C s H fp,uG (cH X N scope C s H fp) ifs mt)(he:∀C s H fp,SE (cH X N scope C s H fp) elt me)(hN:X.N.Nodup)(hxi:autoParam (X.N[i]? =some x) zu2._auto_1)(hx:autoParam (iO X.env.scope x) zu6._auto_1)(hf:autoParam (X.fn x=true\/X.env.scope.names.lookup x=some .local) zu6._auto_1)(hsw:autoParam (swapsWith (.ListComp elt [⟨tg,iter,ifs,0⟩] scope lpos) (some (.Name x pos')) pos.line X.env=pure true) zu2._auto_1)(hk:autoParam (scope.kind= .function) zu2._auto_1)(hb:autoParam (iI X.env scope=true) zu10._auto_1)(hcap:autoParam (iC scope.names N X.N cap t=true) zu10._auto_1)(hs:autoParam (∀x,foldedSetIterable iter X.env x=pure x) zu9._auto_1):SS X (.Assign [.Name x pos'] (.ListComp elt [⟨tg,iter,ifs,0⟩] scope lpos) pos) (fW i (fQ cap t mi g mt me)):=by
  refine hi.el λwi pi si=>?_
  refine⟨_,Vv hN hxi hx hf hsw hc (Jp hk hb) (Kg hcap) pi (λC s H fp=>(hg C s H fp).choose_spec.1) (λC s H fp=>(ht C s H fp).choose_spec.1) (λC s H fp=>(he C s H fp).choose_spec.1) hs,λB G H σ ρ fl ρ' E I hm k=>?_⟩;refine gZ hm λd ρ1 e1 e3=>?_
  obtain⟨rfl,rfl⟩:=Prod.mk.inj e3;exact zkS si (.mk' hg ht he) B G H σ ρ d ρ1 _ I e1 λG1 H1 l xs I1 f1 g1 h1 r1 b1 n1=>k G1 H1 _ (I1.setO g1 h1 r1 b1 n1) f1
end
section
variable {X:Cx}{AM:AA (AD×Obj)}{σ:St}{H:Hp}{s:AE}
theorem Yh {A:Around}{p:AD}(hh:A.handled=none)(I:Inv X AM σ H s)(hq:SqL X.K H p ys\/SqT X.K H p ys)(k : ∀ (its : AA AC) (s₂ : AE) (St : Nat -> AK -> Prop), Vals ys its -> Walks X.prog X.w A s.heap.objs.size [s.heap.objs.size, p] [s.heap.objs.size] its.length (λi v => its[i]? = some v) St -> St 0 s₂.heap -> (∀ b ∈ [s.heap.objs.size, p], b < s₂.heap.objs.size) ->
   (∀h' tk,(∀b o,b∉[s.heap.objs.size]->s₂.heap.get? b=some o->h'.get? b=some o)->Inv X AM σ H {s₂ with heap:=h',toks:=tk})->Q (.ref s.heap.objs.size) s₂):AG (model X.prog X.w) A (pyIter (.ref p)) Q E s:=by
 have fin:∀(o:Obj),∀h' tk,(∀b o',b∉[s.heap.objs.size]->(s.heap.push o).get? b=some o'->h'.get? b=some o')->Inv X AM σ H {({s with heap:=s.heap.push o}:AE)with heap:=h',toks:=tk}:=λo h' tk hk=>by
  have z:=I.kept (h':=h') (t':=tk) λb o' e=>hk b o' (by simpa using gG (dQ e)) (bK _ e)
  exact z
 rcases hq with hq|hq
 ·obtain⟨its,r,pl,hz⟩:=I.list hq;have hlt:p<s.heap.objs.size:=by obtain⟨_,_,e,_⟩:=pl;exact dQ e
  refine wpAny_pyIter_list pl.isList (k its _ (λi h=>h.IsListIter s.heap.objs.size p i/\h.IsList p its.toArray) r ?_ ⟨⟨_,eL _ rfl,rfl,rfl⟩,pl.isList.push _⟩ (λb hb=>?_) (fin _))
  ·have w:=Walks.list (prog:=X.prog) (w:=X.w) (A:=A) hh s.heap.objs.size p (gG hlt) its.toArray;simpa using w
  ·show b<(s.heap.push _).objs.size;rw[kF];simp at hb;rcases hb with z|z
   ·rw[z];exact Zg _
   ·rw[z];exact Zc hlt
 ·obtain⟨its,r,pl,hz⟩:=I.tuple hq;have hlt:p<s.heap.objs.size:=pl.lt;refine qbP (show s.heap.IsTuple p its.toArray from pl) (k its _ (λi h=>h.IsTupleIter s.heap.objs.size p i/\h.IsTuple p its.toArray) r ?_ ⟨⟨_,eL _ rfl,rfl,rfl⟩,(show s.heap.IsTuple p its.toArray from pl).push _⟩ (λb hb=>?_) (fin _))
  ·have w:=Walks.tuple (prog:=X.prog) (w:=X.w) (A:=A) hh s.heap.objs.size p (gG hlt) its.toArray;simpa using w
  ·show b<(s.heap.push _).objs.size;rw[kF];simp at hb;rcases hb with z|z
   ·rw[z];exact Zg _
   ·rw[z];exact Zc hlt
end
theorem zj3 (ns:AA Int):∀j,preSum (λi=>ns.getD i 0) j=(ns.take j).sum
 |0=>by simp[preSum]
 |j+1=>by
  rw[preSum,zj3 ns j]
  by_cases h:j<ns.length
  ·rw[qb2 h,List.sum_append];simp[h]
  ·rw[uE (by lia),uE (by lia)];simp[eO (by lia:ns.length<=j)]
theorem zku (r:Vals (ns.map V.int) its){v:AC}(e:its[i]? =some v):∃t,v= .int (ns.getD i 0) t:=by
 have hl:=r.length;have hi:i<its.length:=(qap.mp e).1;rw[cY]at hl;have e2:(ns.map V.int)[i]? =some (.int ns[i]):=by rw[eG,cI (by lia)];rfl
 obtain⟨u,h1,t,h2⟩:=r.get e2;rw[e]at h1;cases h1;exact⟨t,by rw[h2];simp[show i<ns.length by lia]⟩
noncomputable def Tr (K:AF):AA V->Hp->VK->Prop:=λxs H Q=>∃(p:AD) (ns:AA Int),xs=[.ref p]/\(SqL K H p (ns.map V.int)\/SqT K H p (ns.map V.int))/\Q (.int ns.sum) H
theorem zoe (hc:X.calm=true):jQ X (.builtin "sum") (Tr X.K):=by
 intro AM s σ H xs us Q I r h;obtain⟨p,ns,rfl,hq,q⟩:=h;obtain⟨u,rfl,ru⟩:=tZ r;cases ru;refine call_sum_walkG (Yh (A:=X.A.in1) (I.ok.hd hc) I hq λits s₂ St rv W st hfp fin=>?_);refine⟨_,_,_,_,_,_,λi=>ns.getD i 0,rfl,W,st,hfp,λi v e=>zku rv e,λh' tk t' hk=>⟨.int ns.sum,H,fin h' tk hk,⟨t',?_⟩,q⟩⟩;have hl:=rv.length;rw[cY]at hl;rw[zj3,<-hl,uE (bZ _)]
noncomputable def hU:AA D->AB (AA Int)
 |[]=>some []
 | .int i::ds=>(hU ds).map (i:: ·)
 |_=>none
theorem Wq:∀{ds:AA D} {ns:AA Int},hU ds=some ns->ds=ns.map .int
 |[],ns,h=>by cases h;rfl
 |d::ds,ns,h=>by
  cases d<;>simp only[hU]at h<;>try exact aK h
  refine dE h λms e1 e2=>?_
  subst e2;rw[Wq e1];rfl
@[simp] theorem intsOf_map:∀(ns:AA Int),hU (ns.map .int)=some ns
 |[]=>rfl
 |n::ns=>by simp[hU,intsOf_map ns]
noncomputable def iT:AA D->AB D
 |[d]=>(cL [d]).bind λds=>(hU ds).map λns=> .int ns.sum
 |_=>none
theorem Xm (I:SI K B G H σ ρ){x:V}(r:RepD K G x d)(e:cL [d]=some ds):∃p ys,x= .ref p/\(SqL K H p ys\/SqT K H p ys)/\RepL K G ys ds:=by
 cases d<;>simp only[cL]at e<;>try cases e
 ·obtain⟨p,ys,ex,hp,q⟩:=I.lst r;exact⟨p,ys,ex,.inl (SqL.of hp),q⟩
 ·obtain⟨p,ys,ex,hp,q⟩:=I.tup r;exact⟨p,ys,ex,.inr (SqT.of hp),q⟩
 ·obtain⟨p,ex,hp⟩:=r;exact⟨p,_,ex,.inl (I.fz.sql hp),RepL.ints _⟩
theorem Km:VC X (Tr X.K) iT:=by
 intro B G H σ ρ xs ds d Q I r hf k
 match ds,hf with
 |[a],hf=>
  refine aM hf λes e1 hf=>?_
  refine dE hf λns e2 e3=>?_
  subst e3;obtain⟨x,rfl,ra⟩:=r.one;obtain⟨p,ys,rfl,hq,ry⟩:=Xm I ra e1;rw[Wq e2]at ry;rw[RepL.ints_eq ry]at hq;exact⟨p,ns,rfl,hq,k G H _ I (Fz.refl G) rfl⟩
 |[],hf=>exact aK hf
 |_::_::_,hf=>exact aK hf
theorem Sd (hc:X.calm=true)(ml:X.mg "sum"=none)(ha:SA X [e] ma)(hg:autoParam (Gl X "sum") zu2._auto_1)(he:autoParam (starEach [e] X.env=(false,eval e X.env)::starEach [] X.env) zu2._auto_1):SE X (.Call (.Name "sum" p) [e] [] pos) (mC iT ma):=
 Nr (zoe hc) Km (by decide+kernel) ml ha hg (by decide) (by decide) he rfl
noncomputable def xY:AA D->AB (AA Bool)
 |[]=>some []
 | .bl b::ds=>(xY ds).map (b:: ·)
 |_=>none
theorem zjQ:∀{ds:AA D} {bs:AA Bool},xY ds=some bs->ds=bs.map .bl
 |[],ns,h=>by cases h;rfl
 |d::ds,ns,h=>by
  cases d<;>simp only[xY]at h<;>try exact aK h
  refine dE h λms e1 e2=>?_
  subst e2;rw[zjQ e1];rfl
@[simp] theorem boolsOf_map:∀(bs:AA Bool),xY (bs.map .bl)=some bs
 |[]=>rfl
 |n::ns=>by simp[xY,boolsOf_map ns]
theorem RepL.bools_eq:∀{bs:AA Bool} {xs:AA V},RepL K G xs (bs.map D.bl)->xs=bs.map V.bl
 |[],_,e=>e
 |n::ns,_,⟨x,ys,e,q,r⟩=>by subst e;cases(show x=V.bl n from q);rw[RepL.bools_eq r];rfl
theorem zo2 {bs:AA Bool}(r:Vals (bs.map V.bl) its){v:AC}(e:its[i]? =some v):∃b,bs[i]? =some b/\v= .bool b:=by
 have hl:=r.length;have hi:i<its.length:=(qap.mp e).1;rw[cY]at hl;have e2:(bs.map V.bl)[i]? =some (.bl bs[i]):=by rw[eG,cI (by lia)];rfl
 obtain⟨u,h1,h2⟩:=r.get e2;rw[e]at h1;cases h1;exact⟨bs[i],cI (by lia),h2⟩
noncomputable def Ra (K:AF)(f:AA Bool->Bool):AA V->Hp->VK->Prop:=λxs H Q=>∃(p:AD) (bs:AA Bool),xs=[.ref p]/\(SqL K H p (bs.map V.bl)\/SqT K H p (bs.map V.bl))/\Q (.bl (f bs)) H
theorem zoR (hc:X.calm=true):jQ X (.builtin "all") (Ra X.K λbs=>bs.all id):=by
 intro AM s σ H xs us Q I r h;obtain⟨p,bs,rfl,hq,q⟩:=h;obtain⟨u,rfl,ru⟩:=tZ r;cases ru;refine call_all_walk (Yh (A:=X.A.in1) (I.ok.hd hc) I hq λits s₂ St rv W st hfp fin=>?_);have hl:=rv.length;rw[cY]at hl;refine⟨_,_,_,_,_,_,λi=>(bs[i]?).getD true,rfl,W,st,λi v s' Q' E' hP hQ=>?_,λh' tk hk=>⟨.bl (bs.all id),H,fin h' tk hk,?_,q⟩⟩
 ·obtain⟨b,e,rfl⟩:=zo2 rv hP;simp only[e,Option.getD_some]at hQ;exact Fv hQ
 ·rw[<-hl,LSm.range_all];rfl
noncomputable def iR (f:AA Bool->Bool):AA D->AB D
 |[d]=>(cL [d]).bind λds=>(xY ds).map λbs=> .bl (f bs)
 |_=>none
theorem Gg (f:AA Bool->Bool):VC X (Ra X.K f) (iR f):=by
 intro B G H σ ρ xs ds d Q I r hf k
 match ds,hf with
 |[a],hf=>
  refine aM hf λes e1 hf=>?_
  refine dE hf λns e2 e3=>?_
  subst e3;obtain⟨x,rfl,ra⟩:=r.one;obtain⟨p,ys,rfl,hq,ry⟩:=Xm I ra e1;rw[zjQ e2]at ry;rw[RepL.bools_eq ry]at hq;exact⟨p,ns,rfl,hq,k G H _ I (Fz.refl G) rfl⟩
 |[],hf=>exact aK hf
 |_::_::_,hf=>exact aK hf
theorem Uq (hc:X.calm=true)(ml:X.mg "all"=none)(ha:SA X [e] ma)(hg:autoParam (Gl X "all") zu2._auto_1)(he:autoParam (starEach [e] X.env=(false,eval e X.env)::starEach [] X.env) zu2._auto_1):SE X (.Call (.Name "all" p) [e] [] pos) (mC (iR λbs=>bs.all id) ma):=
 Nr (zoR hc) (Gg _) (by decide+kernel) ml ha hg (by decide) (by decide) he rfl
noncomputable def lK (g:Int->Int->Int):AA D->AB D
 |[.int i,.int j]=>some (.int (g i j))
 |_=>none
theorem Bz (g:Int->Int->Int):VC X (λxs H Q=>∃i j,xs=[.int i,.int j]/\Q (.int (g i j)) H) (lK g):=by
 intro B G H σ ρ xs ds d Q I r hf k;unfold lK at hf
 split at hf
 ·rename_i i j;cases hf;obtain⟨x,y,rfl,rx,ry⟩:=r.two;cases(show x=V.int i from rx);cases(show y=V.int j from ry);exact⟨i,j,rfl,k G H _ I (Fz.refl G) rfl⟩
 ·exact aK hf
noncomputable def dN (i j:Int):Int:=if j>i then j else i
noncomputable def eT (i j:Int):Int:=if j<i then j else i
theorem Wy (hc:X.calm=true)(ml:X.mg "max"=none)(ha:SA X [a,b] ma)(hg:autoParam (Gl X "max") zu2._auto_1)(he:autoParam (starEach [a,b] X.env=(false,eval a X.env)::starEach [b] X.env) zu2._auto_1)(hpl:autoParam ((backTo pos (starEach [b] X.env)).any (·.1)=false) zu2._auto_1):SE X (.Call (.Name "max" p) [a,b] [] pos) (mC (lK dN) ma):=
 Nr (zoQ hc) (Bz dN) (by decide+kernel) ml ha hg (by decide) (by decide) he hpl
theorem We (hc:X.calm=true)(ml:X.mg "min"=none)(ha:SA X [a,b] ma)(hg:autoParam (Gl X "min") zu2._auto_1)(he:autoParam (starEach [a,b] X.env=(false,eval a X.env)::starEach [b] X.env) zu2._auto_1)(hpl:autoParam ((backTo pos (starEach [b] X.env)).any (·.1)=false) zu2._auto_1):SE X (.Call (.Name "min" p) [a,b] [] pos) (mC (lK eT) ma):=
 Nr (zpg hc) (Bz eT) (by decide+kernel) ml ha hg (by decide) (by decide) he hpl
noncomputable def mL:AA D->AB D
 |[.int i]=>some (.int i)
 |[.bl b]=>some (.int (if b then 1 else 0))
 |_=>none
theorem sN (ml:X.mg "int"=none)(ha:SA X [a] ma)(hg:autoParam (Gl X "int") zu2._auto_1)(he:autoParam (starEach [a] X.env=(false,eval a X.env)::starEach [] X.env) zu2._auto_1):SE X (.Call (.Name "int" p) [a] [] pos) (mC mL ma):=
 zlt zn8 (λB G H σ ρ xs ds d Q I r hf k=>by
  unfold mL at hf
  split at hf
  ·rename_i i;cases hf;obtain⟨x,rfl,rx⟩:=r.one;cases(show x=V.int i from rx);exact .inl ⟨i,rfl,k G H _ I (Fz.refl G) rfl⟩
  ·rename_i b;cases hf;obtain⟨x,rfl,rx⟩:=r.one;cases(show x=V.bl b from rx);exact .inr ⟨b,rfl,k G H _ I (Fz.refl G) rfl⟩
  ·exact aK hf) (by decide+kernel) ml ha hg (by decide) (by decide) he rfl
theorem ziF (K:AF):W.kitOne K (.type "NoneType") (.type "int")=some false:=by kernel_rfl
theorem zig (K:AF):W.kitOne K (.type "NoneType") (.type "bool")=some false:=by kernel_rfl
theorem zhL (K:AF):W.kitOne K (.type "NoneType") (.type "tuple")=some false:=by kernel_rfl
theorem zib (K:AF):W.kitOne K (.type "NoneType") (.type "list")=some false:=by kernel_rfl
theorem ziE (K:AF):W.kitOne K (.type "NoneType") (.type "str")=some false:=by kernel_rfl
theorem zld (K:AF):W.kitOne K (.type "bool") (.type "int")=some true:=by kernel_rfl
theorem zkL (K:AF):W.kitOne K (.type "bool") (.type "bool")=some true:=by kernel_rfl
theorem zjC (K:AF):W.kitOne K (.type "bool") (.type "tuple")=some false:=by kernel_rfl
theorem zkF (K:AF):W.kitOne K (.type "bool") (.type "list")=some false:=by kernel_rfl
theorem zk4 (K:AF):W.kitOne K (.type "bool") (.type "str")=some false:=by kernel_rfl
theorem zl7 (K:AF):W.kitOne K (.type "int") (.type "int")=some true:=by kernel_rfl
theorem zlA (K:AF):W.kitOne K (.type "int") (.type "bool")=some false:=by kernel_rfl
theorem zkD (K:AF):W.kitOne K (.type "int") (.type "tuple")=some false:=by kernel_rfl
theorem zlD (K:AF):W.kitOne K (.type "int") (.type "list")=some false:=by kernel_rfl
theorem zmm (K:AF):W.kitOne K (.type "int") (.type "str")=some false:=by kernel_rfl
theorem zl1 (K:AF):W.kitOne K (.type "str") (.type "int")=some false:=by kernel_rfl
theorem zlj (K:AF):W.kitOne K (.type "str") (.type "bool")=some false:=by kernel_rfl
theorem zkN (K:AF):W.kitOne K (.type "str") (.type "tuple")=some false:=by kernel_rfl
theorem zlH (K:AF):W.kitOne K (.type "str") (.type "list")=some false:=by kernel_rfl
theorem zl3 (K:AF):W.kitOne K (.type "str") (.type "str")=some true:=by kernel_rfl
theorem zlm (K:AF):W.kitOne K (.type "list") (.type "int")=some false:=by kernel_rfl
theorem zk1 (K:AF):W.kitOne K (.type "list") (.type "bool")=some false:=by kernel_rfl
theorem zjA (K:AF):W.kitOne K (.type "list") (.type "tuple")=some false:=by kernel_rfl
theorem zkl (K:AF):W.kitOne K (.type "list") (.type "list")=some true:=by kernel_rfl
theorem zk9 (K:AF):W.kitOne K (.type "list") (.type "str")=some false:=by kernel_rfl
theorem zkn (K:AF):W.kitOne K (.type "tuple") (.type "int")=some false:=by kernel_rfl
theorem zjJ (K:AF):W.kitOne K (.type "tuple") (.type "bool")=some false:=by kernel_rfl
theorem zi6 (K:AF):W.kitOne K (.type "tuple") (.type "tuple")=some true:=by kernel_rfl
theorem zjL (K:AF):W.kitOne K (.type "tuple") (.type "list")=some false:=by kernel_rfl
theorem zkx (K:AF):W.kitOne K (.type "tuple") (.type "str")=some false:=by kernel_rfl
noncomputable def Sz (T:String):D->Bool
 | .non=>false
 | .bl _=>T=="bool"||T=="int"
 | .int _=>T=="int"
 | .str _=>T=="str"
 | .lst _=>T=="list"
 | .tup _=>T=="tuple"
 | .scr _=>T=="list"
 | .exc _=>false
 | .dic _ _=>false
 | .dit _ _=>false
 | .obj _ _ _ _ _=>false
noncomputable def Py (T:String):Bool:=["int","bool","tuple","list","str"].contains T
noncomputable def Rn (K:AF)(T:String):AA V->Hp->VK->Prop:=λxs H Q=>∃x t b,xs=[x,.ty T]/\TyOf K H x t/\W.kitOne K t (.type T)=some b/\Q (.bl b) H
theorem rE (T:String):jQ X (.builtin "isinstance") (Rn X.K T):=by
 intro AM s σ H xs us Q I r h;obtain⟨x,t,b,rfl,ty,e,q⟩:=h;obtain⟨u,w',rfl,r1,r2⟩:=tO r;cases(show w'=Value.type T from r2);exact zpL I r1 ty e λtk=>⟨.bl b,H,I.tok _,rfl,q⟩
noncomputable def eIsI (T:String)(ma:ME):ME:=λρ=>(ma ρ).bind λp=>if Py T&&noS1 p.1 then some (.bl (Sz T p.1),p.2)else none
where noS1:D->Bool
 | .scr _=>false
 | .exc _=>false
 | .dic _ _=>false
 | .dit _ _=>false
 | .obj _ _ _ _ _=>false
 |_=>true
theorem yG (K:AF){T:String}(hT:Py T=true):W.kitOne K (.type "NoneType") (.type T)=some false/\W.kitOne K (.type "bool") (.type T)=some (T=="bool"||T=="int")/\W.kitOne K (.type "int") (.type T)=some (T=="int")/\
  W.kitOne K (.type "str") (.type T)=some (T=="str")/\W.kitOne K (.type "list") (.type T)=some (T=="list")/\W.kitOne K (.type "tuple") (.type T)=some (T=="tuple"):=by
 have h:T="int"\/T="bool"\/T="tuple"\/T="list"\/T="str":=by simpa[Py]using hT
 rcases h with rfl|rfl|rfl|rfl|rfl
 ·exact⟨ziF K,zld K,zl7 K,zl1 K,zlm K,zkn K⟩
 ·exact⟨zig K,zkL K,zlA K,zlj K,zk1 K,zjJ K⟩
 ·exact⟨zhL K,zjC K,zkD K,zkN K,zjA K,zi6 K⟩
 ·exact⟨zib K,zkF K,zlD K,zlH K,zkl K,zjL K⟩
 ·exact⟨ziE K,zk4 K,zmm K,zl3 K,zk9 K,zkx K⟩
theorem Ie {ma:ME}{p q pos:Pos}(T:String)(ml:X.mg "isinstance"=none)(mT:X.mg x=none)(hbT:bootBuiltins x=some (.type T))(ha:SE X a ma)(hg:autoParam (Gl X "isinstance") zu2._auto_1)(hgT:autoParam (Gl X x) zu2._auto_1)(hn:autoParam (x≠"__name__") zu1._auto_1)(hd:autoParam ((x==("__debug__":Str))=false) zu1._auto_1)(he:autoParam (starEach [a,.Name x q] X.env=(false,eval a X.env)::starEach [.Name x q] X.env) zu2._auto_1)(he2:autoParam (starEach [.Name x q] X.env=(false,eval (.Name x q) X.env)::starEach [] X.env) zu2._auto_1)(hpl:autoParam ((backTo pos (starEach [.Name x q] X.env)).any (·.1)=false) zu2._auto_1):
  SE X (.Call (.Name "isinstance" p) [a,.Name x q] [] pos) (eIsI T ma):=by
 refine ha.el λta pa sa=>?_
 refine⟨_,Iy (rE T) hg ml boot_isinstance (gK pa (gK (Aj (v:= .ty T) hgT mT hbT rfl hn hd) iS he2) he) (by decide) (by decide) he hpl,λB G H σ ρ d ρ' Q I hm k=>?_⟩;refine bN hm λy ρ1 e1 hm=>?_
 dsimp only at hm;refine bC hm λhT hm=>?_
 ·skip
  obtain⟨rfl,rfl⟩:=Prod.mk.inj (Option.some.inj hm);rw[fJ]at hT;obtain⟨hT,hS⟩:=hT;refine sa B G H σ ρ y ρ1 _ I e1 λG1 H1 v I1 f1 r1=>?_
  obtain⟨k0,k1,k2,k3,k4,k5⟩:=yG X.K hT;have fin:∀t,TyOf X.K H1 v t->W.kitOne X.K t (.type T)=some (Sz T y)->Rn X.K T [v,.ty T] H1 Q:=λt ty e=>⟨v,t,Sz T y,rfl,ty,e,k G1 H1 _ I1 f1 rfl⟩
  cases y with
  |non=>cases(show v=V.non from r1);exact fin _ .non k0
  |bl c=>cases(show v=V.bl c from r1);exact fin _ (.bl c) k1
  |int c=>cases(show v=V.int c from r1);exact fin _ (.int c) k2
  |str c=>cases(show v=V.str c from r1);exact fin _ (.str c) k3
  |lst ds=>obtain⟨a,xs,e,hp,r⟩:=I1.lst r1;subst e;exact fin _ (.lst hp) k4
  |tup ds=>obtain⟨a,xs,e,hp,r⟩:=I1.tup r1;subst e;exact fin _ (.tup hp) k5
  |scr _=>cases hS
  |exc _=>cases hS
  |dic _ _=>cases hS
  |dit _ _=>cases hS
  |obj _ _ _ _ _=>cases hS
noncomputable def bD {α:Type}(xs:AA α)(lo hi:AB Int):AA α:=(xs.drop (HT.sIx xs.length 0 lo)).take (HT.sIx xs.length xs.length hi-HT.sIx xs.length 0 lo)
theorem RepL.cut (h:RepL K G xs ds)(lo hi:AB Int):RepL K G (gQ xs lo hi) (bD ds lo hi):=by
 unfold gQ bD;rw[h.length];exact(h.drop _).take _
section
variable {prog:AJ}{w:World}{A:Around}{E:AC->AE->Prop}{s:AE}
theorem zhi {t sl:AD}{items:Array AC}{vl vu:AC}{lo hi:AB Int}(ht:IsTup s.heap t items)(hs:s.heap.IsSliceOf sl vl vu .none)(pl:IsPart vl lo)(pu:IsPart vu hi)(hw:HT.sIx items.size 0 lo=0/\HT.sIx items.size items.size hi=items.size)(h:Q (.ref t) s):AG (model prog w) A (getItem (.ref t) (.ref sl)) Q E s:=by
 obtain⟨os,hos,hcs,hds⟩:=id hs;have hTs:s.TypeIs (.ref sl) "slice":=⟨os,hos,hcs⟩;unfold getItem
 try with_reducible refine jS ?_
 first|refine aJ (qaB ?_)|skip
 refine aJ (wpAny_sequenceKey ht.typeIs (by decide) ?_);refine aJ (yI (name:=Str.ofString "__getitem__") ht.typeIs Wl
  (qL Wl ht.typeIs entry_tuple_getitem ?_ (args_tuple_getitem _ _)))
 show AG _ _ (Builtin.Tuple.tupleItemsOf (.ref t)>>=_) _ _ s;refine aJ (tupleItemsOf_ ht ?_);refine aJ (wpAny_typeOf hTs ?_);rw[if_pos (by decide)];refine aJ (HT.zfK hs pl pu ?_);have hyes:(((HT.sIx items.size 0 lo:Nat):Int)==0&&(1:Int)==1&&(HT.sIx items.size items.size hi-HT.sIx items.size 0 lo)==items.size)=true:=by
  rw[hw.1,hw.2];simp
 show AG _ _ (if(((HT.sIx items.size 0 lo:Nat):Int)==0&&(1:Int)==1&&(HT.sIx items.size items.size hi-HT.sIx items.size 0 lo)==items.size)=true then _ else _) _ _ s;rw[if_pos hyes];refine aJ (m:=Builtin.Tuple.tupleIsExact _) ?_;unfold Builtin.Tuple.tupleIsExact;refine aJ (wpAny_typeOf ht.typeIs (qaB ?_));rw[if_pos (by decide)];refine aJ (Jb ?_);exact qaB ⟨_,rfl,qaB h⟩
end
noncomputable def Uk (K:AF):V->AB Int->AB Int->Hp->VK->Prop:=λx lo hi H Q=>∃a xs,x= .ref a/\SqT K H a xs/\(HT.sIx xs.length 0 lo=0/\HT.sIx xs.length xs.length hi=xs.length)/\Q (.ref a) H
theorem xG:SlR X (Uk X.K):=by
 intro AM s σ H x v vl vu lo hi sl Q I rx hs pl pu h;obtain⟨a,xs,rfl,hx,hw,q⟩:=h;cases rx;obtain⟨its,r,ht,hz⟩:=I.tuple hx;have AO:its.toArray.size=xs.length:=by rw[cJ];exact r.length.symm
 refine⟨"tuple",_,PyProof.Rows.slot_tuple_getitem.lookup,ht.typeIs,?_⟩;exact zhi ht hs pl pu (by rw[AO];exact hw) ⟨.ref a,H,I,rfl,q⟩
noncomputable abbrev MP:=R->AB (AB Int×R)
noncomputable def Ua (X:Cx)(e:AB AI)(m:MP)(t:TO):Prop:=∀B G H σ ρ o ρ' (Q:AB Int->Hp->Prop),SI X.K B G H σ ρ->m ρ=some (o,ρ')->(∀G' H',SI X.K B G' H' σ ρ'->Fz G G'->Q o H')->t σ H Q
noncomputable def SPt (X:Cx)(e:AB AI)(m:MP):Prop:=∃t,PO X e t/\Ua X e m t
theorem SPt.el {e:AB AI}{m:MP}(h:SPt X e m)(k:∀t,PO X e t->Ua X e m t->C):C:=h.elim λt q=>k t q.1 q.2
noncomputable def kB:MP:=λρ=>some (none,ρ)
noncomputable def gL (m:ME):MP:=λρ=>(m ρ).bind λp=>match p.1 with
 | .int i=>some (some i,p.2)
 |_=>none
theorem lQ:SPt X none kB:=⟨_,wU,λB G H σ ρ o ρ' Q I hm k=>by obtain⟨rfl,rfl⟩:=bM hm;exact k G H I (Fz.refl G)⟩
theorem iK {m:ME}(h:SE X e m):SPt X (some e) (gL m):=by
 refine h.el λt p s=>?_
 refine⟨_,xF p,λB G H σ ρ o ρ' Q I hm k=>?_⟩;refine bN hm λd ρ1 e1 hm=>?_
 refine s B G H σ ρ d ρ1 _ I e1 λG1 H1 v I1 f1 r1=>?_
 cases d<;>try cases hm
 rename_i i;exact⟨i,r1,k G1 H1 I1 f1⟩
noncomputable def lN (d:D)(lo hi:AB Int):AB D:=match d with
 | .lst ds=>some (.lst (bD ds lo hi))
 | .tup ds=>some (.tup (bD ds lo hi))
 | .scr ns=>some (.lst ((bD ns lo hi).map .int))
 |_=>none
noncomputable def dP (ma:ME)(ml mh:MP):ME:=λρ=>(ma ρ).bind λp=>(ml p.2).bind λq=>(mh q.2).bind λr=>(lN p.1 q.1 r.1).map λd=>(d,r.2)
theorem zpU (ns:AA Int)(lo hi:AB Int):gQ (ns.map V.int) lo hi=(bD ns lo hi).map V.int:=by
 unfold gQ bD;rw[cY,<-Ke,<-Fc]
theorem jK {lo hi:AB AI}{ma:ME}{ml mh:MP}{pos p2:Pos}(he:SE X e ma)(hl:SPt X lo ml)(hu:SPt X hi mh):SE X (.Subscript e (.Slice lo hi none p2) pos) (dP ma ml mh):=by
 refine he.el λta pa sa=>?_
 refine hl.el λtl pl sl=>?_
 refine hu.el λth ph sh=>?_
 refine⟨_,pU (sl_list.or (sl_tup.or xG)) pa pl ph,λB G H σ ρ d ρ' Q I hm k=>?_⟩;refine bN hm λx ρ1 e1 hm=>?_
 refine bN hm λl ρ2 e2 hm=>?_
 refine bN hm λu ρ3 e3 hm=>?_
 refine dE hm λc e4 e5=>?_
 obtain⟨rfl,rfl⟩:=Prod.mk.inj e5;refine sa B G H σ ρ x ρ1 _ I e1 λG1 H1 v I1 f1 r1=>sl B G1 H1 σ ρ1 l ρ2 _ I1 e2 λG2 H2 I2 f2=>sh B G2 H2 σ ρ2 u ρ3 _ I2 e3 λG3 H3 I3 f3=>?_
 have r3:=r1.mono (f2.trans f3);dsimp only at e4;cases x with
 |exc _=>exact aK e4
 |dic _ _=>exact aK e4
 |dit _ _=>exact aK e4
 |obj _ _ _ _ _=>exact aK e4
 |non=>exact aK e4
 |bl _=>exact aK e4
 |int _=>exact aK e4
 |str _=>exact aK e4
 |lst ds=>
  cases e4;obtain⟨a,xs,rfl,ha,r⟩:=I3.lst r3;refine .inl ⟨a,xs,rfl,SqL.of ha,λp hp=>?_⟩;obtain⟨I4,f4,r4⟩:=I3.newL hp (r.cut l u);exact k _ _ _ I4 (f1.trans (f2.trans (f3.trans f4))) r4
 |tup ds=>
  cases e4;obtain⟨a,xs,rfl,ha,r⟩:=I3.tup r3
  by_cases hw:HT.sIx xs.length 0 l=0/\HT.sIx xs.length xs.length u=xs.length
  ·refine .inr (.inr ⟨a,xs,rfl,SqT.of ha,hw,?_⟩);have e:bD ds l u=ds:=by
    unfold bD;rw[<-r.length,hw.1,hw.2,List.drop_zero,Nat.sub_zero,uE (by rw[r.length];exact bZ _)]
   rw[e]at k;exact k G3 H3 _ I3 (f1.trans (f2.trans f3)) r3
  ·refine .inr (.inl ⟨a,xs,rfl,SqT.of ha,hw,λp hp=>?_⟩);obtain⟨I4,f4,r4⟩:=I3.newT hp (r.cut l u);exact k _ _ _ I4 (f1.trans (f2.trans (f3.trans f4))) r4
 |scr ns=>
  cases e4;obtain⟨a,rfl,ha⟩:=r3;refine .inl ⟨a,_,rfl,I3.fz.sql ha,λp hp=>?_⟩;rw[zpU];obtain⟨I4,f4,r4⟩:=I3.newL hp (RepL.ints (bD ns l u));exact k _ _ _ I4 (f1.trans (f2.trans (f3.trans f4))) r4
theorem dB (h:tP ma n):∀ρ as ρ',ma ρ=some (as,ρ')->as.length+1=n+1:=λρ as ρ' e=>congrArg (· +1) (h ρ as ρ' e)
section
variable {X:Cx}{elt iter tg:AI}{ifs:AA AI}{scope:Scope}{pos lpos pos':Pos}{N:AA Str}{cap:AA Nat}{t:Nat}{mi:MA}{g:D->R->AB R}{mt:MT}{me:ME}
theorem zn9 (i:Nat)(cap:AA Nat)(t:Nat)(N:AA Str)(hc:X.calm=true)(hi:SIt X tg iter mi)(hg:∀C s H fp,SG (cH X N scope C s H fp) tg g)(ht:∀C s H fp,uG (cH X N scope C s H fp) ifs mt)(he:∀C s H fp,SE (cH X N scope C s H fp) elt me)(hN:X.N.Nodup)(hxi:autoParam (X.N[i]? =some x) zu2._auto_1)(hx:autoParam (iO X.env.scope x) zu6._auto_1)(hf:autoParam (X.fn x=true\/X.env.scope.names.lookup x=some .local) zu6._auto_1)(hsw:autoParam (swapsWith (.ListComp elt [⟨tg,iter,ifs,0⟩] scope lpos) (some (.Name x pos')) pos.line X.env=pure true) zu2._auto_1)(hk:autoParam (scope.kind= .function) zu2._auto_1)(hb:autoParam (iI X.env scope=true) zu10._auto_1)(hcap:autoParam (iC scope.names N X.N cap t=true) zu10._auto_1)(hs:autoParam (∀x,foldedSetIterable iter X.env x=pure x) zu9._auto_1):SS X (.Assign [.Name x pos'] (.ListComp elt [⟨tg,iter,ifs,0⟩] scope lpos) pos) (aO i (cZ (fQ cap t mi g mt me))):=by
  refine hi.el λwi pi si=>?_
  refine⟨_,Vv hN hxi hx hf hsw hc (Jp hk hb) (Kg hcap) pi (λC s H fp=>(hg C s H fp).choose_spec.1) (λC s H fp=>(ht C s H fp).choose_spec.1) (λC s H fp=>(he C s H fp).choose_spec.1) hs,λB G H σ ρ fl ρ' E I hm k=>?_⟩;refine gZ hm λd ρ1 e1 e3=>?_
  refine gZ e1 λds ρ2 e4 e5=>?_
  obtain⟨rfl,rfl⟩:=Prod.mk.inj e5;obtain⟨rfl,rfl⟩:=Prod.mk.inj e3;refine zkS si (.mk' hg ht he) B G H σ ρ ds ρ2 _ I e4 λG1 H1 l xs I1 f1 g1 h1 r1 b1 n1=>?_
  obtain⟨I2,f2,r2⟩:=Me I1 g1 h1 r1 b1 n1;exact k _ H1 _ (I2.set r2) (f1.trans f2)
end
noncomputable def Rq:AA V->Hp->VK->Prop:=λxs H Q=>∃j,xs=[.int j]/\∀p,H p=none->Q (.ref p) (upd H p (.rng 0 j))
theorem zpC:jQ X (.type "range") Rq:=by
 intro AM s σ H xs us Q I r h;obtain⟨j,rfl,q⟩:=h;obtain⟨u,rfl,t,rfl⟩:=tZ r;refine call_range_1 ⟨.ref s.heap.objs.size,_,I.laid (o:= .rng 0 j) (λb o e=>bK _ e) (bZ _) ⟨_,_,_,eL _ rfl⟩,rfl,q _ I.fresh⟩
noncomputable def Io:AA V->Hp->VK->Prop:=λxs H Q=>∃p i j,xs=[.ref p]/\H p=some (.rng i j)/\(-(2^62)<=i/\i<2^62/\ -(2^62)<=j/\j<2^62)/\(j-i).toNat<=16777216/\∀l,H l=none->Q (.ref l) (upd H l (.lst ((List.range (j-i).toNat).map λ(k:Nat)=>V.int (i+k))))
theorem znQ (hc:X.calm=true):jQ X (.type "list") Io:=by
 intro AM s σ H xs us Q I r h;obtain⟨p,i,j,rfl,hp,⟨h1,h2,h3,h4⟩,hz,q⟩:=h;obtain⟨u,rfl,ru⟩:=tZ r;cases ru;obtain⟨t,t',t'',e⟩:=I.hok p _ hp;refine call_list_range (a:=i) (b:=j) (c:=1) (t:=t) (u:=t') (v:=t'') (n:=(j-i).toNat) (I.ok.hd hc) e (small_one h1 h2 h3 h4) (by rw[rangeSize_one];split<;>lia) (by lia) λh' tk acc' c' hk hl ⟨hs1,hs2⟩=>?_
 refine⟨.ref s.heap.objs.size,_,I.laid (h':=h') (t':=tk) (o:= .lst ((List.range (j-i).toNat).map λ(k:Nat)=>V.int (i+k))) hk (bZ _) ⟨by rw[cY,List.length_range,gF];exact hz,acc'.toList,c',?_,by simpa using hl⟩,rfl,q _ I.fresh⟩;have key:∀(n:Nat) (l:AA AC),l.length=n->(∀k v,l[k]? =some v->∃t,v=Value.int (i+(k:Nat)*1) t)->Vals ((List.range n).map λ(k:Nat)=>V.int (i+k)) l:=by
  intro n
  induction n with
  |zero=>intro l hl _;have:l=[]:=qbD hl;subst this;exact .nil
  |succ n ih=>
   intro l hl hv;have e:l=l.take n++[l[n]'(by lia)]:=by
    rw[<-qb2 (by lia),uE (by lia)]
   rw[Ys,qb9,e];refine Vals.append (ih (l.take n) (by rw[kO];lia) λk v hk=>?_) (.cons ?_ .nil)
   ·have hkn:k<n:=by
     have:=(qap.mp hk).1;rw[kO]at this;lia
    rw[qaW hkn]at hk;exact hv k v hk
   ·obtain⟨t,ht⟩:=hv n _ (cI (by lia));exact⟨t,by rw[ht,Int.mul_one]⟩
 exact key _ acc'.toList (by rw[Yv];exact hs1) λk v hk=>hs2 k v (by simpa using hk)
theorem znt (i:Int)(n:Nat):RepL K G ((List.range n).map λ(k:Nat)=>V.int (i+k)) (lF i n):=by
 have e1:((List.range n).map λ(k:Nat)=>V.int (i+k))=((List.range n).map λ(k:Nat)=>i+(k:Int)).map V.int:=by rw[fA];rfl
 have e2:lF i n=((List.range n).map λ(k:Nat)=>i+(k:Int)).map D.int:=by unfold lF;rw[fA];rfl
 rw[e1,e2];exact RepL.ints _
noncomputable def oR (m:MA):MO:=λρ=>(m ρ).bind λp=>if p.1.length<=16777216 then some p else none
end M
namespace M
open L2 PySem
@[simp] theorem atI_nat' {α:Type}(xs:AA α)(i:Nat):atI xs (i:Int)=xs[i]?:=by
 unfold atI cB;rw[if_pos (by lia)]
 by_cases h:i<xs.length
 ·rw[if_pos (by lia)];simp
 ·rw[if_neg (by lia)];simp[eO (by lia:xs.length<=i)]
end M
namespace M
open L2 PyProof.Rows PySem PySem.Spec
noncomputable def Ms (i:Nat)(g:Int->Int->Int)(me:ME):MS:=λρ=>match ρ[i]? with
 |some (.val (.int a))=>(me ρ).bind λp=>match p.1 with
  | .int b=>some (.next,p.2.set i (.val (.int (g a b))))
  |_=>none
 |_=>none
section
variable {X:Cx}{e:AI}{me:ME}{pos:Pos}
theorem wH (i:Nat){x:Str}{pos':Pos}{op:Operator}{g:Int->Int->Int}(ho:Yg X op (ipI g))(he:SE X e me)(hN:X.N.Nodup)(hi:autoParam (X.N[i]? =some x) zu2._auto_1)(hx:autoParam (iO X.env.scope x) zu6._auto_1)(hf:autoParam (X.fn x=true\/X.env.scope.names.lookup x=some .local) zu6._auto_1):SS X (.AugAssign (.Name x pos') op e pos) (Ms i g me):=by
  refine he.el λt p s=>?_
  refine⟨_,Iz hN hi hx p ho hf,λB G H σ ρ fl ρ' E I hm k=>?_⟩;unfold Ms at hm
  split at hm
  . rename_i a e0
    refine bN hm λd ρ1 e1 h2=>?_
    dsimp only at h2
    split at h2
    . rename_i b
      obtain⟨rfl,rfl⟩:=bM h2;obtain⟨v,h1,hv⟩:=I.slot i _ e0;cases(show v=V.int a from hv);refine⟨_,h1,s B G H σ ρ (.int b) ρ1 _ I e1 λG1 H1 w I1 f1 r1=>?_⟩;cases(show w=V.int b from r1);exact⟨a,b,rfl,rfl,k G1 H1 _ (I1.set (d:= .int (g a b)) rfl) f1⟩
    . exact aK h2
  . exact aK hm
theorem zk6 (i:Nat){x:Str}{pos':Pos}(he:SE X e me)(hN:X.N.Nodup)(hi:autoParam (X.N[i]? =some x) zu2._auto_1)(hx:autoParam (iO X.env.scope x) zu6._auto_1)(hf:autoParam (X.fn x=true\/X.env.scope.names.lookup x=some .local) zu6._auto_1):SS X (.AugAssign (.Name x pos') .Add e pos) (Ms i (λi j=>i+j) me):=wH i zpW he hN hi hx hf
end
end M
namespace M
open L2 PySem PySem.Spec
open PyProof.Rows hiding St
variable {X:Cx}{e a b:AI}{ma mb:ME}{pos:Pos}{K:AF}{G:Hp}{xs:AA V}{ds:AA D}
noncomputable def Lh (lt:Int->Int->Bool)(ns:AA Int):Int:=ns.getD (argBest (λi j=>lt (ns.getD i 0) (ns.getD j 0)) (ns.length-1)) 0
noncomputable def Co (K:AF)(lt:Int->Int->Bool):AA V->Hp->VK->Prop:=λxs H Q=>∃(p:AD) (ns:AA Int),xs=[.ref p]/\ns≠[]/\(SqL K H p (ns.map V.int)\/SqT K H p (ns.map V.int))/\Q (.int (Lh lt ns)) H
theorem zpw (hc:X.calm=true):jQ X (.builtin "min") (Co X.K λi j=>decide (i<j)):=by
 intro AM s σ H xs us Q I r h;obtain⟨p,ns,rfl,ne,hq,q⟩:=h;obtain⟨u,rfl,ru⟩:=tZ r;cases ru;refine call_min_walk (Yh (A:=X.A.in1) (I.ok.hd hc) I hq λits s₂ St rv W st hfp fin=>?_);have hl:=rv.length;rw[cY]at hl;have hp:0<its.length:=by rw[<-hl];exact List.length_pos_iff.mpr ne
 refine⟨_,_,_,_,_,_,_,rfl,W,st,hfp,hp,CmpOf.ints_lt (λi=>ns.getD i 0) (λi v e=>zku rv e),λv h' tk hP hk=>?_⟩;obtain⟨t,rfl⟩:=zku rv hP;refine⟨.int (Lh _ ns),H,fin h' tk hk,⟨t,?_⟩,q⟩;unfold Lh;rw[hl]
noncomputable def kP (lt:Int->Int->Bool):AA D->AB D
 |[d]=>(cL [d]).bind λds=>(hU ds).bind λns=>if ns.isEmpty then none else some (.int (Lh lt ns))
 |_=>none
theorem uL (lt:Int->Int->Bool):VC X (Co X.K lt) (kP lt):=by
 intro B G H σ ρ xs ds d Q I r hf k
 match ds,hf with
 |[a],hf=>
  refine aM hf λes e1 hf=>?_
  refine aM hf λns e2 hf=>?_
  split at hf
  ·exact aK hf
  ·rename_i ne;cases hf;obtain⟨x,rfl,ra⟩:=r.one;obtain⟨p,ys,rfl,hq,ry⟩:=Xm I ra e1;rw[Wq e2]at ry;rw[RepL.ints_eq ry]at hq;exact⟨p,ns,rfl,λz=>ne (by rw[z];rfl),hq,k G H _ I (Fz.refl G) rfl⟩
 |[],hf=>exact aK hf
 |_::_::_,hf=>exact aK hf
noncomputable def oZ:AA D->AB D:=kP λi j=>decide (i<j)
theorem wA {ma:MA}{p pos:Pos}(hc:X.calm=true)(ml:X.mg "min"=none)(ha:SA X [e] ma)(hg:autoParam (Gl X "min") zu2._auto_1)(he:autoParam (starEach [e] X.env=(false,eval e X.env)::starEach [] X.env) zu2._auto_1):SE X (.Call (.Name "min" p) [e] [] pos) (mC oZ ma):=
 Nr (zpw hc) (uL _) (by decide+kernel) ml ha hg (by decide) (by decide) he rfl
noncomputable def rZ (ma mb:ME):MO:=λρ=>(ma ρ).bind λp=>(mb p.2).bind λq=>match p.1,q.1 with
 | .lst xs,.int k=>if uA k&&decide (xs.length*k.toNat<=16777216)then some ((List.replicate k.toNat xs).flatten,q.2)else none
 |_,_=>none
theorem RepL.times (h:RepL K G xs ds):∀n:Nat,RepL K G (List.replicate n xs).flatten (List.replicate n ds).flatten
 |0=>RepL.nil
 |n+1=>by
  rw[mE,Bv,mE,Bv];exact h.append (h.times n)
theorem zoU (ha:SE X a ma)(hb:SE X b mb):SO X (.BinOp a .Mult b pos) (rZ ma mb):=by
 refine ha.el λta pa sa=>?_
 refine hb.el λtb pb sb=>?_
 refine⟨_,sJ nX pa pb,λB G H σ ρ d ρ' Q I hm k=>?_⟩;refine bN hm λx ρ1 e1 hm=>?_
 refine bN hm λy ρ2 e2 hm=>?_
 refine sa B G H σ ρ x ρ1 _ I e1 λG1 H1 v I1 f1 r1=>sb B G1 H1 σ ρ1 y ρ2 _ I1 e2 λG2 H2 u I2 f2 r2=>?_
 dsimp only at hm
 split at hm
 ·rename_i xs n _;refine bC hm λhs hm=>?_
  ·skip
   obtain⟨rfl,rfl⟩:=bM hm;simp only[fJ,Dj]at hs;cases(show u=V.int n from r2);obtain⟨l,ys,rfl,hl,r⟩:=I2.lst (r1.mono f2);have a1:=Ui hs.1;refine⟨l,n,ys,rfl,rfl,hl,by lia,by lia,by rw[r.length,gF];exact hs.2,λp hp=>?_⟩;obtain⟨I3,g3,h3,b3,n3⟩:=I2.newO hp (List.replicate n.toNat ys).flatten;exact k G2 _ p _ I3 (f1.trans f2) g3 h3 (r.times _) b3 n3
 ·exact aK hm
noncomputable def Sb:D->AB V
 | .non=>some .non
 | .bl b=>some (.bl b)
 | .int i=>some (.int i)
 | .str x=>some (.str x)
 |_=>none
noncomputable def Na:AA D->AB (AA V)
 |[]=>some []
 |d::ds=>(Sb d).bind λv=>(Na ds).map (v:: ·)
theorem mS {x v:V}{d:D}(r:RepD K G x d)(e:Sb d=some v):x=v/\uF v=true:=by
 cases d<;>simp only[Sb]at e<;>cases e<;>exact⟨r,rfl⟩
theorem zmF:∀{ys xs:AA V} {ds:AA D},RepL K G ys ds->Na ds=some xs->ys=xs/\xs.all uF=true
 |ys,xs,[],r,e=>by cases e;cases(show ys=[]from r);exact⟨rfl,rfl⟩
 |ys,xs,d::ds,r,e=>by
  obtain⟨y,zs,rfl,ry,rz⟩:=r;refine aM e λv e1 e=>?_
  obtain⟨vs,e2,rfl⟩:=Os e;obtain⟨rfl,f1⟩:=mS ry e1;obtain⟨rfl,f2⟩:=zmF rz e2;exact⟨rfl,by rw[Yd,f1,f2];rfl⟩
noncomputable def vT (neg:Bool)(a b:D):AB D:=(Sb a).bind λx=>(cL [b]).bind λds=>(Na ds).map λxs=> .bl (if neg then !Hl x xs else Hl x xs)
noncomputable def dIn:D->D->AB D:=vT false
noncomputable def Yx:D->D->AB D:=vT true
theorem Do (neg:Bool):V2 X (rIn X.K neg) (vT neg):=by
 intro B G H σ ρ x y a b d Q I ra rb hf k;refine aM hf λv e1 hf=>?_
 refine aM hf λds e2 hf=>?_
 obtain⟨xs,e3,rfl⟩:=Os hf;obtain⟨rfl,f1⟩:=mS ra e1;obtain⟨p,ys,rfl,hq,ry⟩:=Xm I rb e2;obtain⟨rfl,f2⟩:=zmF ry e3;exact⟨p,ys,rfl,hq,f1,f2,k G H _ I (Fz.refl G) rfl⟩
theorem Bp (neg:Bool):∀x y d,vT neg x y=some d->∃t,d= .bl t:=by
 intro x y d hf;refine aM hf λv e1 hf=>?_
 refine aM hf λds e2 hf=>?_
 obtain⟨xs,e3,rfl⟩:=Os hf;exact⟨_,rfl⟩
theorem Ro (ha:SE X a ma)(hb:SE X b mb)(hm:autoParam (behindInMarks .In b=false) zu2._auto_1):STt X (.Compare a [.In] [b] pos) (aQ (m2 dIn ma mb)):=zC zpo (Do false) (Bp false) ha hb hm
theorem oQ (ha:SE X a ma)(hb:SE X b mb)(hm:autoParam (behindInMarks .NotIn b=false) zu2._auto_1):STt X (.Compare a [.NotIn] [b] pos) (aQ (m2 Yx ma mb)):=zC zlx (Do true) (Bp true) ha hb hm
end M
namespace M
open L2 PySem PySem.Spec
open PyProof.Rows hiding St
open Sem (wp)
variable {b N i k:Nat}{a it l:AD}{t:Bool}{h h':AK}{is xs ys:Array AC}{Q:AC->AE->Prop}
theorem aX {b x y z:Nat}(h:b∈[x,y])(h1:x≠z)(h2:y≠z):b≠z:=by
 simp at h;rcases h with rfl|rfl<;>assumption
theorem nA {N a b:Nat}(h:a≠b):N+a≠N+b:=λe=>h (qcb e)
theorem nB (h:0≠b):N≠N+b:=λe=>h (qcb (show N+0=N+b from e))
theorem nC (h:b≠0):N+b≠N:=λe=>h (qcb (show N+b=N+0 from e))
theorem nL {a N b:Nat}(h:a<N):a≠N+b:=gG (iV h (Nat.le_add_right _ _))
theorem bG {a b:Nat}(h:a≠b):a≠b:=h
local macro_rules | `(tactic| ac_rfl) => `(tactic| first | exact M.nA (by decide) | exact M.nB (by decide) | exact M.nC (by decide) | exact M.nL (by assumption) | exact Nat.ne_of_lt (by assumption) | lia)
noncomputable def SrcIt:Bool->AK->AD->AD->Nat->Prop
 |true,h,it,a,i=>h.IsTupleIter it a i
 |false,h,it,a,i=>h.IsListIter it a i
noncomputable def SrcH:Bool->AK->AD->Array AC->Prop
 |true,h,a,its=>h.IsTuple a its
 |false,h,a,its=>h.IsList a its
theorem SrcIt.at (x:SrcIt t h it a i)(e:∀o,h.get? it=some o->h'.get? it=some o):SrcIt t h' it a i:=by
 cases t
 ·exact Heap.IsListIter.at x e
 ·exact Heap.IsTupleIter.at x e
theorem SrcH.at (x:SrcH t h a is)(e:∀o,h.get? a=some o->h'.get? a=some o):SrcH t h' a is:=by
 cases t
 ·exact Heap.IsList.at x e
 ·obtain⟨o,ho,r⟩:=x;exact⟨o,e _ ho,r⟩
theorem SrcIt.obj (x:SrcIt t h it a i):∃o,h.get? it=some o/\∀v,o.data≠ .cell v:=by
 cases t<;>(obtain⟨o,e,c,d⟩:=x;exact⟨o,e,λv z=>by rw[d]at z;cases z⟩)
theorem SrcH.lt (x:SrcH t h a is):a<h.objs.size:=by
 cases t<;>(obtain⟨o,e,_⟩:=x;exact dQ e)
section
variable {prog:AJ}{w:World}{A:Around}{E:AC->AE->Prop}{s:AE}
theorem znl {items}(hit:s.heap.IsTupleIter it l i)(hl:s.heap.IsTuple l items)(k : (∃ x, items[i]? = some x /\ ∀ h', h'.IsTupleIter it l (i + 1) -> Heap.SameBut it s.heap h' -> Q x { s with heap := h' }) \/
   (items[i]? =none/\A.handled=none/\∀h' e,Heap.ExtBut it s.heap h'->(∃o,h'.get? e=some o/\o.cls= .type "StopIteration")->E (.ref e) {s with heap:=h'})):
  AG (model prog w) A (Builtin.SmallTypes.nextOf (.ref it)) Q E s:=by
 obtain⟨o,ho,hc,hd⟩:=id hit;obtain⟨ol,hol,-,nl,hdl⟩:=hl;have ne:¬((Value.ref l==Value.none)=true):=hZ;unfold Builtin.SmallTypes.nextOf;refine aJ (yI (name:=Str.ofString "__next__") hit.typeIs slot_tupleiter_next (qL slot_tupleiter_next hit.typeIs entry_tupleiter_next ?_ (args_tupleiter_next _)));refine(?_:AG _ _ (field (.ref it) 0>>=_) _ _ s);refine aJ (gJ ho hd (x:= .ref l) rfl (?_:AG _ _ (if(Value.ref l==Value.none)=true then _ else _) _ _ s));rw[if_neg ne];refine(?_:AG _ _ (field (.ref it) 1>>=_) _ _ s);refine aJ (gJ ho hd (x:= .int i 0) rfl (?_:AG _ _ (seqItems? (.ref l)>>=_) _ _ s));refine aJ (kM hol hdl ?_);rcases k with⟨x,hx,k⟩|⟨hx,hh,k⟩<;>simp only[Lx,hx]
 ·have upd:∀h':AK,h'.get? it=some (o.mapFields λa=>a.setIfInBounds 1 (rawInt (((i:Nat):Int)+1)))->h'.IsTupleIter it l (i+1):=λh' e=>⟨_,e,(Obj.cls_mapFields ..).trans hc,by rw[Tf hd];simp[rawInt]⟩
  refine aJ (Wo ho hd (by simp) (qaB ⟨x,rfl,qaB (k _ ?_ (Sv ..))⟩));refine⟨_,Xo _ ho (Obj.isFreed_of_fields (Tf hd _)),(Obj.cls_mapFields ..).trans hc,?_⟩;rw[Tf hd];simp[rawInt]
 ·refine aJ (Jb (aJ (Wo ho hd (by simp) (?_:AG _ _ (newExc (.type "StopIteration") []>>=_) _ _ _))));refine aJ ?_;simp only[newExc,newTuple];refine aJ (tW (aJ (m:=firstArgMember _ _) (wpAny_of_eq (a:=Value.none) (by first|rfl|(simp only[firstArgMember];rfl)) (tW ?_ (by size_fits)))) (by size_fits));simp only[raiseNew];refine aJ (wpAny_handled ?_)
  first|rw[show A.in1.handled=none from hh]|rw[hh]
  exact aJ (qaB (wpAny_throw (k _ _ (((Sv ..).extBut.push _).push _) ⟨_,eL _ rfl,rfl⟩)))
theorem mB (hh:A.handled=none)(it l:AD)(hne:l≠it)(items:Array AC):Draws prog w A it [it,l] items.size (λi v=>items[i]? =some v) (λi h=>SrcIt t h it l i/\SrcH t h l items):=by
 cases t
 ·exact Draws.list hh it l hne items
 ·refine⟨λ_ _ st=>?_,λ_ _ _ st hk=>⟨SrcIt.at st.1 λo e=>hk it (by simp) o e,SrcH.at st.2 λo e=>hk l (by simp) o e⟩,λi s Q E hi st hQ=>?_,λs Q E st hE=>znl st.1 st.2 (.inr ⟨by simp,hh,hE⟩)⟩
  ·obtain⟨o,e,-⟩:=SrcIt.obj st.1;exact⟨o,e⟩
  ·exact znl st.1 st.2 (.inl ⟨items[i],by simp[hi],λh' a b=>hQ _ h' s.toks (by simp[hi]) ⟨a,SrcH.at st.2 λo e=>(b.2 l hne).trans e⟩ b⟩)
noncomputable def bJ (t:Bool)(a:AD):Obj:={cls:= .type (if t then "tuple_iterator" else "list_iterator"),data:= .fields #[.ref a,.int 0 0]}
theorem Md (e:h.get? it=some (bJ t a)):SrcIt t h it a 0:=by
 cases t<;>exact⟨_,e,rfl,rfl⟩
theorem Nh (t:Bool)(a:AD):(bJ t a).isFreed=false:=by cases t<;>rfl
theorem Gk {items}(hl:SrcH t s.heap a items)(hQ:Q (.ref s.heap.objs.size) {s with heap:=s.heap.push (bJ t a)}):
  AG (model prog w) A (pyIter (.ref a)) Q E s:=by
 cases t
 ·exact wpAny_pyIter_list hl hQ
 ·exact qbP hl hQ
noncomputable abbrev gO (h:AK)(T:AD)(a b c:AC):Prop:=h.get? T=some {cls:= .type "tuple",data:= .seq #[a,b,c]}
theorem Qv {T:AD}{a b c x:AC}{Q:Unit->AE->Prop}(hT:gO s.heap T a b c)(h:∀h',h'.get? T=some {cls:= .type "tuple",data:= .seq ((#[a,b,c]:Array AC).setIfInBounds k x)}->Heap.SameBut T s.heap h'->Q () {s with heap:=h'}):
  AG (model prog w) A (updateSeq T (·.setIfInBounds k x)) Q E s:=
 wpAny_updateSeq hT rfl (h _ (by rw[Xo _ hT rfl];simp[Obj.mapSeq]) (Sv ..))
section
variable {N a1 a2 a3:Nat}{n1 n2 n3:Nat}{P1 P2 P3:Nat->AC->Prop}{S1 S2 S3:Nat->AK->Prop}
theorem zpK {a b c:AC}(D1:Draws prog w A N [N,a1] n1 P1 S1)(D2:Draws prog w A (N+1) [N+1,a2] n2 P2 S2)(D3:Draws prog w A (N+2) [N+2,a3] n3 P3 S3)(l1:a1<N)(l2:a2<N)(l3:a3<N)(hz:IsZip s.heap (N+5) (N+3) (N+4) .none)(hTI:gO s.heap (N+3) (.ref N) (.ref (N+1)) (.ref (N+2)))(hTO:gO s.heap (N+4) a b c)(h1:S1 i s.heap)(h2:S2 i s.heap)(h3:S3 i s.heap)(i1:i<n1)(i2:i<n2)(i3:i<n3)(k : ∀ x y z h' tk, P1 i x -> P2 i y -> P3 i z -> IsZip h' (N + 5) (N + 3) (N + 4) (rawInt s.heap.objs.size) -> gO h' (N + 4) x y z -> S1 (i + 1) h' -> S2 (i + 1) h' -> S3 (i + 1) h' -> gO h' s.heap.objs.size x y z ->
   (∀c o,c≠N->c≠N+1->c≠N+2->c≠N+4->c≠N+5->s.heap.get? c=some o->h'.get? c=some o)->Q (.ref s.heap.objs.size) {s with heap:=h',toks:=tk}):
  AG (model prog w) A (Builtin.«zip.__next__» ⟨[.ref (N+5)],[]⟩) (λfin s'=>∃v,fin= .done (.ret v)/\Q v s') E s:=by
 refine(?_:AG _ _ (field (.ref (N+5)) 2>>=_) _ _ _);refine aJ (gJ hz rfl (x:= .bool false) rfl (?_:AG _ _ (field (.ref (N+5)) 3>>=_) _ _ _));refine aJ (gJ hz rfl (x:= .ref (N+3)) rfl (aJ (kM hTI rfl (?_:AG _ _ (Builtin.SmallTypes.ownedTupleIsFree (.ref (N+5))>>=_) _ _ _))));refine aJ ?_;unfold Builtin.SmallTypes.ownedTupleIsFree;refine aJ (gJ hz rfl (x:= .none) rfl (qaB ?_));simp only[if_true];refine aJ (Jb (aJ (gJ hz rfl (x:= .ref (N+4)) rfl (aJ (kC hz (by simp) λg1 z1 s1=>aJ ?_)))))
 replace z1:IsZip g1 (N+5) (N+3) (N+4) .ellipsis:=z1
 simp only[Wn,Yo,Ff,Jy];refine aJ (aJ (tX (?_:AG _ _ (Builtin.SmallTypes.nextOf (.ref N)>>=_) _ _ _)));have e1:S1 i g1:=D1.frame _ _ _ h1 λb hb o e=>(s1.2 b (aX hb (by ac_rfl) (by ac_rfl))).trans e
 refine aJ (D1.item i _ _ _ i1 e1 λx g2 t2 p1 f2 s2=>qaB ?_);have q2:gO g2 (N+4) a b c:=(s2.2 _ (bG (by ac_rfl))).trans ((s1.2 _ (bG (by ac_rfl))).trans hTO);refine aJ (kM q2 rfl (aJ (Qv q2 λg3 q3 s3=>aJ (Cg (qaB ?_)))))
 replace q3:gO g3 (N+4) x b c:=q3
 have k3:∀d o,d≠N->d≠N+4->d≠N+5->s.heap.get? d=some o->g3.get? d=some o:=λd o c1 c2 c3 e=>(s3.2 d c2).trans ((s2.2 d c1).trans ((s1.2 d c3).trans e))
 refine aJ (aJ (tX (?_:AG _ _ (Builtin.SmallTypes.nextOf (.ref (N+1))>>=_) _ _ _)));have e3:S2 i g3:=D2.frame _ _ _ h2 λb hb o e=>k3 b o (aX hb (by ac_rfl) (by ac_rfl)) (aX hb (by ac_rfl) (by ac_rfl)) (aX hb (by ac_rfl) (by ac_rfl)) e
 refine aJ (D2.item i _ _ _ i2 e3 λy g4 t4 p2 f4 s4=>qaB ?_);have q4:gO g4 (N+4) x b c:=(s4.2 _ (bG (by ac_rfl))).trans q3;refine aJ (kM q4 rfl (aJ (Qv q4 λg5 q5 s5=>aJ (Cg (qaB ?_)))))
 replace q5:gO g5 (N+4) x y c:=q5
 refine aJ (aJ (tX (?_:AG _ _ (Builtin.SmallTypes.nextOf (.ref (N+2))>>=_) _ _ _)));have e5:S3 i g5:=D3.frame _ _ _ h3 λb hb o e=>(s5.2 b (aX hb (by ac_rfl) (by ac_rfl))).trans ((s4.2 b (aX hb (by ac_rfl) (by ac_rfl))).trans (k3 b o (aX hb (by ac_rfl) (by ac_rfl)) (aX hb (by ac_rfl) (by ac_rfl)) (aX hb (by ac_rfl) (by ac_rfl)) e))
 refine aJ (D3.item i _ _ _ i3 e5 λz g6 t6 p3 f6 s6=>qaB ?_);have q6:gO g6 (N+4) x y c:=(s6.2 _ (bG (by ac_rfl))).trans q5;refine aJ (kM q6 rfl (aJ (Qv q6 λg7 q7 s7=>aJ (Cg (qaB (qaB ?_))))))
 replace q7:gO g7 (N+4) x y z:=q7
 have sz:g7.objs.size=s.heap.objs.size:=by rw[s7.1,s6.1,s5.1,s4.1,s3.1,s2.1,s1.1]
 have z7:IsZip g7 (N+5) (N+3) (N+4) .ellipsis:=(s7.2 _ (bG (by ac_rfl))).trans ((s6.2 _ (bG (by ac_rfl))).trans ((s5.2 _ (bG (by ac_rfl))).trans ((s4.2 _ (bG (by ac_rfl))).trans ((s3.2 _ (bG (by ac_rfl))).trans ((s2.2 _ (bG (by ac_rfl))).trans z1)))));have zl:(N+5:Nat)<g7.objs.size:=dQ z7;have k7:∀d o,d≠N->d≠N+1->d≠N+2->d≠N+4->d≠N+5->s.heap.get? d=some o->g7.get? d=some o:=λd o c1 c2 c3 c4 c5 e=>(s7.2 d c4).trans ((s6.2 d c3).trans ((s5.2 d c4).trans ((s4.2 d c2).trans (k3 d o c1 c4 c5 e))))
 have f7:S1 (i+1) g7:=D1.frame _ _ _ f2 λb hb o e=>(s7.2 b (aX hb (by ac_rfl) (by ac_rfl))).trans ((s6.2 b (aX hb (by ac_rfl) (by ac_rfl))).trans ((s5.2 b (aX hb (by ac_rfl) (by ac_rfl))).trans ((s4.2 b (aX hb (by ac_rfl) (by ac_rfl))).trans ((s3.2 b (aX hb (by ac_rfl) (by ac_rfl))).trans e))))
 have f7':S2 (i+1) g7:=D2.frame _ _ _ f4 λb hb o e=>(s7.2 b (aX hb (by ac_rfl) (by ac_rfl))).trans ((s6.2 b (aX hb (by ac_rfl) (by ac_rfl))).trans ((s5.2 b (aX hb (by ac_rfl) (by ac_rfl))).trans e))
 have f7'':S3 (i+1) g7:=D3.frame _ _ _ f6 λb hb o e=>(s7.2 b (aX hb (by ac_rfl) (by ac_rfl))).trans e
 refine aJ (kM q7 rfl (aJ (wpAny_newTuple (?_:AG _ _ (Builtin.SmallTypes.ownedTupleHandOut (.ref (N+5)) (.ref g7.objs.size)>>=_) _ _ _))));refine aJ ?_;unfold Builtin.SmallTypes.ownedTupleHandOut;refine aJ (kC (show IsZip (g7.push {cls:= .type "tuple",data:= .seq #[x,y,z]}) (N+5) (N+3) (N+4) .ellipsis from bK _ z7) (by simp) λg9 z9 s9=>?_)
 replace z9:IsZip g9 (N+5) (N+3) (N+4) (rawInt g7.objs.size):=z9
 refine kC z9 (by simp) λg8 z8 s8=>qaB ⟨_,rfl,?_⟩
 replace z8:IsZip g8 (N+5) (N+3) (N+4) (rawInt g7.objs.size):=z8
 have up:∀c o,c≠N+5->g7.get? c=some o->g8.get? c=some o:=λc o c1 e=>(s8.2 c c1).trans ((s9.2 c c1).trans (bK _ e))
 have T8:gO g8 g7.objs.size x y z:=(s8.2 _ (bG (by ac_rfl))).trans ((s9.2 _ (bG (by ac_rfl))).trans (eL _ rfl));rw[sz]at z8 T8;refine(?_:Q (.ref g7.objs.size) _);rw[sz];exact k x y z g8 _ p1 p2 p3 z8 (up _ _ (bG (by ac_rfl)) q7) (D1.frame _ _ _ f7 λb hb o e=>up b o (aX hb (by ac_rfl) (by ac_rfl)) e) (D2.frame _ _ _ f7' λb hb o e=>up b o (aX hb (by ac_rfl) (by ac_rfl)) e) (D3.frame _ _ _ f7'' λb hb o e=>up b o (aX hb (by ac_rfl) (by ac_rfl)) e) T8 λc o c1 c2 c3 c4 c5 e=>up c o c5 (k7 c o c1 c2 c3 c4 c5 e)
theorem qM {a b c:AC}{Q:Fin->AE->Prop}(D1:Draws prog w A N [N,a1] n1 P1 S1)(D2:Draws prog w A (N+1) [N+1,a2] n2 P2 S2)(D3:Draws prog w A (N+2) [N+2,a3] n3 P3 S3)(l1:a1<N)(l2:a2<N)(l3:a3<N)(hz:IsZip s.heap (N+5) (N+3) (N+4) .none)(hTI:gO s.heap (N+3) (.ref N) (.ref (N+1)) (.ref (N+2)))(hTO:gO s.heap (N+4) a b c)(h1:S1 i s.heap)(h2:S2 i s.heap)(h3:S3 i s.heap)(hi:i=n1\/(i<n1/\(i=n2\/(i<n2/\i=n3))))(k:∀h' e tk,(∀c o,c≠N->c≠N+1->c≠N+2->c≠N+4->c≠N+5->s.heap.get? c=some o->h'.get? c=some o)->(∃o,h'.get? e=some o/\o.cls= .type "StopIteration")->E (.ref e) {s with heap:=h',toks:=tk}):
  AG (model prog w) A (Builtin.«zip.__next__» ⟨[.ref (N+5)],[]⟩) Q E s:=by
 refine(?_:AG _ _ (field (.ref (N+5)) 2>>=_) _ _ _);refine aJ (gJ hz rfl (x:= .bool false) rfl (?_:AG _ _ (field (.ref (N+5)) 3>>=_) _ _ _));refine aJ (gJ hz rfl (x:= .ref (N+3)) rfl (aJ (kM hTI rfl (?_:AG _ _ (Builtin.SmallTypes.ownedTupleIsFree (.ref (N+5))>>=_) _ _ _))));refine aJ ?_;unfold Builtin.SmallTypes.ownedTupleIsFree;refine aJ (gJ hz rfl (x:= .none) rfl (qaB ?_));simp only[if_true];refine aJ (Jb (aJ (gJ hz rfl (x:= .ref (N+4)) rfl (aJ (kC hz (by simp) λg1 z1 s1=>aJ ?_)))))
 replace z1:IsZip g1 (N+5) (N+3) (N+4) .ellipsis:=z1
 simp only[Wn,Yo,Ff,Jy];refine aJ (aJ (tX (?_:AG _ _ (Builtin.SmallTypes.nextOf (.ref N)>>=_) _ _ _)));have e1:S1 i g1:=D1.frame _ _ _ h1 λb hb o e=>(s1.2 b (aX hb (by ac_rfl) (by ac_rfl))).trans e
 rcases hi with rfl|⟨i1,hi⟩
 ·refine aJ (D1.done _ _ _ e1 λg2 e x2 he=>?_);obtain⟨oe,hoe,hce⟩:=he;have z2:IsZip g2 (N+5) (N+3) (N+4) .ellipsis:=x2 _ _ (bG (by ac_rfl)) z1;have hez:e≠N+5:=λx=>by subst x;rw[z2]at hoe;cases hoe;simp at hce
  exact kC z2 (by simp) λg3 _ s3=>k g3 e _ (λc o c1 c2 c3 c4 c5 x=>(s3.2 c c5).trans (x2 c o c1 ((s1.2 c c5).trans x))) ⟨oe,(s3.2 _ hez).trans hoe,hce⟩
 refine aJ (D1.item i _ _ _ i1 e1 λx g2 t2 p1 f2 s2=>qaB ?_);have q2:gO g2 (N+4) a b c:=(s2.2 _ (bG (by ac_rfl))).trans ((s1.2 _ (bG (by ac_rfl))).trans hTO);refine aJ (kM q2 rfl (aJ (Qv q2 λg3 q3 s3=>aJ (Cg (qaB ?_)))))
 replace q3:gO g3 (N+4) x b c:=q3
 have k3:∀d o,d≠N->d≠N+4->d≠N+5->s.heap.get? d=some o->g3.get? d=some o:=λd o c1 c2 c3 e=>(s3.2 d c2).trans ((s2.2 d c1).trans ((s1.2 d c3).trans e))
 have z3:IsZip g3 (N+5) (N+3) (N+4) .ellipsis:=(s3.2 _ (bG (by ac_rfl))).trans ((s2.2 _ (bG (by ac_rfl))).trans z1);refine aJ (aJ (tX (?_:AG _ _ (Builtin.SmallTypes.nextOf (.ref (N+1))>>=_) _ _ _)));have e3:S2 i g3:=D2.frame _ _ _ h2 λb hb o e=>k3 b o (aX hb (by ac_rfl) (by ac_rfl)) (aX hb (by ac_rfl) (by ac_rfl)) (aX hb (by ac_rfl) (by ac_rfl)) e
 rcases hi with rfl|⟨i2,rfl⟩
 ·refine aJ (D2.done _ _ _ e3 λg4 e x4 he=>?_);obtain⟨oe,hoe,hce⟩:=he;have z4:IsZip g4 (N+5) (N+3) (N+4) .ellipsis:=x4 _ _ (bG (by ac_rfl)) z3;have hez:e≠N+5:=λx=>by subst x;rw[z4]at hoe;cases hoe;simp at hce
  exact kC z4 (by simp) λg5 _ s5=>k g5 e _ (λc o c1 c2 c3 c4 c5 x=>(s5.2 c c5).trans (x4 c o c2 (k3 c o c1 c4 c5 x))) ⟨oe,(s5.2 _ hez).trans hoe,hce⟩
 refine aJ (D2.item i _ _ _ i2 e3 λy g4 t4 p2 f4 s4=>qaB ?_);have q4:gO g4 (N+4) x b c:=(s4.2 _ (bG (by ac_rfl))).trans q3;refine aJ (kM q4 rfl (aJ (Qv q4 λg5 q5 s5=>aJ (Cg (qaB ?_)))));have z5:IsZip g5 (N+5) (N+3) (N+4) .ellipsis:=(s5.2 _ (bG (by ac_rfl))).trans ((s4.2 _ (bG (by ac_rfl))).trans z3);refine aJ (aJ (tX (?_:AG _ _ (Builtin.SmallTypes.nextOf (.ref (N+2))>>=_) _ _ _)));have e5:S3 i g5:=D3.frame _ _ _ h3 λb hb o e=>(s5.2 b (aX hb (by ac_rfl) (by ac_rfl))).trans ((s4.2 b (aX hb (by ac_rfl) (by ac_rfl))).trans (k3 b o (aX hb (by ac_rfl) (by ac_rfl)) (aX hb (by ac_rfl) (by ac_rfl)) (aX hb (by ac_rfl) (by ac_rfl)) e))
 refine aJ (D3.done _ _ _ e5 λg6 e x6 he=>?_);obtain⟨oe,hoe,hce⟩:=he;have z6:IsZip g6 (N+5) (N+3) (N+4) .ellipsis:=x6 _ _ (bG (by ac_rfl)) z5;have hez:e≠N+5:=λx=>by subst x;rw[z6]at hoe;cases hoe;simp at hce
 exact kC z6 (by simp) λg7 _ s7=>k g7 e _ (λc o c1 c2 c3 c4 c5 x=>(s7.2 c c5).trans (x6 c o c3 ((s5.2 c c4).trans ((s4.2 c c2).trans (k3 c o c1 c4 c5 x))))) ⟨oe,(s7.2 _ hez).trans hoe,hce⟩
end
end
noncomputable abbrev jC (vs:Array AC):Obj:={cls:= .type "tuple",data:= .seq vs}
noncomputable abbrev Ue (ti to:AD):Obj:={cls:= .type "zip",data:= .fields #[.none,.bool false,.bool false,.ref ti,.ref to]}
noncomputable abbrev Ya (h:AK)(t1 t2:Bool)(l1 l2:AD):AK:=(h.push (bJ t1 l1)).push (bJ t2 l2)
noncomputable abbrev Yi (h:AK)(t1 t2:Bool)(l1 l2:AD):AK:=(Ya h t1 t2 l1 l2).push (jC #[.ref h.objs.size,.ref (h.push (bJ t1 l1)).objs.size])
noncomputable abbrev Yl (h:AK)(t1 t2:Bool)(l1 l2:AD):AK:=(Yi h t1 t2 l1 l2).push (jC #[.none,.none])
noncomputable abbrev Ng (h:AK)(t1 t2:Bool)(l1 l2:AD):AK:=(Yl h t1 t2 l1 l2).push (Ue (Ya h t1 t2 l1 l2).objs.size (Yi h t1 t2 l1 l2).objs.size)
theorem znr (t1 t2:Bool)(l1 l2:AD)(xs ys:Array AC):Meets (Builtin.«zip.__new__» ⟨[.type "zip",.ref l1,.ref l2],[]⟩) (λ_ R s=>SrcH t1 s.heap l1 xs/\SrcH t2 s.heap l2 ys/\
   R (.ok (.ret (.ref (Yl s.heap t1 t2 l1 l2).objs.size))) {s with heap:=Ng s.heap t1 t2 l1 l2}):=
 .of_wp λprog w A R s h=>by
  obtain⟨hp,g,d,tk,os⟩:=s;obtain⟨b1,b2,h⟩:=h;have hsub:=sub_zip;have L1:SrcH t1 (Shared.heap ⟨hp,g,d,tk,os⟩) l1 xs:=b1;have L2:SrcH t2 (Shared.heap ⟨hp.push (bJ t1 l1),g,d,tk,os⟩) l2 ys:=SrcH.at b2 λo e=>bK _ e
  wp_walk using Gk L1,Gk L2
  exact⟨_,rfl,h⟩
noncomputable abbrev Zb (h:AK)(t1 t2 t3:Bool)(l1 l2 l3:AD):AK:=((h.push (bJ t1 l1)).push (bJ t2 l2)).push (bJ t3 l3)
noncomputable abbrev Xp (h:AK)(t1 t2 t3:Bool)(l1 l2 l3:AD):AK:=(Zb h t1 t2 t3 l1 l2 l3).push (jC #[.ref h.objs.size,.ref (h.push (bJ t1 l1)).objs.size,.ref ((h.push (bJ t1 l1)).push (bJ t2 l2)).objs.size])
noncomputable abbrev Wm (h:AK)(t1 t2 t3:Bool)(l1 l2 l3:AD):AK:=(Xp h t1 t2 t3 l1 l2 l3).push (jC #[.none,.none,.none])
noncomputable abbrev Ge (h:AK)(t1 t2 t3:Bool)(l1 l2 l3:AD):AK:=(Wm h t1 t2 t3 l1 l2 l3).push (Ue (Zb h t1 t2 t3 l1 l2 l3).objs.size (Xp h t1 t2 t3 l1 l2 l3).objs.size)
set_option maxHeartbeats 4000000 in
theorem znJ (t1 t2 t3:Bool)(l1 l2 l3:AD)(xs ys zs:Array AC):Meets (Builtin.«zip.__new__» ⟨[.type "zip",.ref l1,.ref l2,.ref l3],[]⟩) (λ_ R s=>SrcH t1 s.heap l1 xs/\SrcH t2 s.heap l2 ys/\SrcH t3 s.heap l3 zs/\
   R (.ok (.ret (.ref (Wm s.heap t1 t2 t3 l1 l2 l3).objs.size))) {s with heap:=Ge s.heap t1 t2 t3 l1 l2 l3}):=
 .of_wp λprog w A R s h=>by
  obtain⟨hp,g,d,tk,os⟩:=s;obtain⟨b1,b2,b3,h⟩:=h;have hsub:=sub_zip;have L1:SrcH t1 (Shared.heap ⟨hp,g,d,tk,os⟩) l1 xs:=b1;have L2:SrcH t2 (Shared.heap ⟨hp.push (bJ t1 l1),g,d,tk,os⟩) l2 ys:=SrcH.at b2 λo e=>bK _ e
  have L3:SrcH t3 (Shared.heap ⟨(hp.push (bJ t1 l1)).push (bJ t2 l2),g,d,tk,os⟩) l3 zs:=SrcH.at b3 λo e=>bK _ (bK _ e)
  wp_walk using Gk L1,Gk L2,Gk L3
  exact⟨_,rfl,h⟩
theorem zkj (a b c:AC):checkTypeCall "zip" ⟨[a,b,c],[]⟩=pure ():=by kernel_rfl
theorem zln (a b c:AC):checkBuiltinCall "zip.__new__" ⟨[.type "zip",a,b,c],[]⟩=pure ():=by kernel_rfl
theorem znW (a b c d:AC):argsOk "object.__init__" ⟨[a,b,c,d],[]⟩:=by
 unfold argsOk;rw[signature?_of (id:="object.__init__") (n:=['_','_','t','i','n','i','_','_']) (o:=['t','c','e','j','b','o']) (by kernel_rfl) F.owner_object];kernel_rfl
section
variable {prog:AJ}{w:World}{A:Around}{E:AC->AE->Prop}{s:AE}
theorem zpP {t1 t2:Bool}{l1 l2:AD}(h1:SrcH t1 s.heap l1 xs)(h2:SrcH t2 s.heap l2 ys)(k : ∀ h', IsZip h' (s.heap.objs.size + 4) (s.heap.objs.size + 2) (s.heap.objs.size + 3) .none -> IsPair h' (s.heap.objs.size + 2) (.ref s.heap.objs.size) (.ref (s.heap.objs.size + 1)) ->
   IsPair h' (s.heap.objs.size+3) .none .none->SrcIt t1 h' s.heap.objs.size l1 0->SrcIt t2 h' (s.heap.objs.size+1) l2 0->
   (∀c o,s.heap.get? c=some o->h'.get? c=some o)->Q (.ref (s.heap.objs.size+4)) {s with heap:=h'}):AG (model prog w) A (call (.type "zip") [.ref l1,.ref l2]) Q E s:=by
 refine callType_new F.called_zip (by decide) (F.typeCall_zip_2 _ _) (F.newCall_zip_2 _ _) (λobj=>F.args_object_init_3 obj _ _) F.entry_zip_new (znr t1 t2 l1 l2 xs ys) ⟨h1,h2,(?_:_/\_)⟩;have y1:(s.heap.push (bJ t1 l1)).objs.size=s.heap.objs.size+1:=kF ..;have y2:(Ya s.heap t1 t2 l1 l2).objs.size=s.heap.objs.size+2:=by rw[kF,y1]
 have y3:(Yi s.heap t1 t2 l1 l2).objs.size=s.heap.objs.size+3:=by rw[kF,y2]
 have y4:(Yl s.heap t1 t2 l1 l2).objs.size=s.heap.objs.size+4:=by rw[kF,y3]
 have g5:(Ng s.heap t1 t2 l1 l2).get? (Yl s.heap t1 t2 l1 l2).objs.size=some _:=eL _ rfl;have g4:(Ng s.heap t1 t2 l1 l2).get? (Yi s.heap t1 t2 l1 l2).objs.size=some _:=bK _ (eL _ rfl);have g3:(Ng s.heap t1 t2 l1 l2).get? (Ya s.heap t1 t2 l1 l2).objs.size=some _:=bK _ (bK _ (eL _ rfl));have g2:(Ng s.heap t1 t2 l1 l2).get? (s.heap.push (bJ t1 l1)).objs.size=some (bJ t2 l2):=bK _ (bK _ (bK _ (eL _ (Nh ..))));have g1:(Ng s.heap t1 t2 l1 l2).get? s.heap.objs.size=some (bJ t1 l1):=bK _ (bK _ (bK _ (bK _ (eL _ (Nh ..)))));rw[y2,y3,y4]at g5;rw[y1,y2]at g3;rw[y3]at g4;rw[y1]at g2;rw[y4];exact⟨⟨_,g5,rfl⟩,k _ g5 g3 g4 (Md g1) (Md g2) λc o x=>bK _ (bK _ (bK _ (bK _ (bK _ x))))⟩
theorem zoP {t1 t2 t3:Bool}{l1 l2 l3:AD}{xs ys zs:Array AC}(h1:SrcH t1 s.heap l1 xs)(h2:SrcH t2 s.heap l2 ys)(h3:SrcH t3 s.heap l3 zs)(k : ∀ h', IsZip h' (s.heap.objs.size + 5) (s.heap.objs.size + 3) (s.heap.objs.size + 4) .none -> gO h' (s.heap.objs.size + 3) (.ref s.heap.objs.size) (.ref (s.heap.objs.size + 1)) (.ref (s.heap.objs.size + 2)) ->
   gO h' (s.heap.objs.size+4) .none .none .none->SrcIt t1 h' s.heap.objs.size l1 0->SrcIt t2 h' (s.heap.objs.size+1) l2 0->SrcIt t3 h' (s.heap.objs.size+2) l3 0->
   (∀c o,s.heap.get? c=some o->h'.get? c=some o)->Q (.ref (s.heap.objs.size+5)) {s with heap:=h'}):AG (model prog w) A (call (.type "zip") [.ref l1,.ref l2,.ref l3]) Q E s:=by
 refine callType_new F.called_zip (by decide) (zkj _ _ _) (zln _ _ _) (λobj=>znW obj _ _ _) F.entry_zip_new (znJ t1 t2 t3 l1 l2 l3 xs ys zs) ⟨h1,h2,h3,(?_:_/\_)⟩;have y1:(s.heap.push (bJ t1 l1)).objs.size=s.heap.objs.size+1:=kF ..;have y2:((s.heap.push (bJ t1 l1)).push (bJ t2 l2)).objs.size=s.heap.objs.size+2:=by rw[kF,y1]
 have y3:(Zb s.heap t1 t2 t3 l1 l2 l3).objs.size=s.heap.objs.size+3:=by rw[kF,y2]
 have y4:(Xp s.heap t1 t2 t3 l1 l2 l3).objs.size=s.heap.objs.size+4:=by rw[kF,y3]
 have y5:(Wm s.heap t1 t2 t3 l1 l2 l3).objs.size=s.heap.objs.size+5:=by rw[kF,y4]
 have g6:(Ge s.heap t1 t2 t3 l1 l2 l3).get? (Wm s.heap t1 t2 t3 l1 l2 l3).objs.size=some _:=eL _ rfl;have g5:(Ge s.heap t1 t2 t3 l1 l2 l3).get? (Xp s.heap t1 t2 t3 l1 l2 l3).objs.size=some _:=bK _ (eL _ rfl);have g4:(Ge s.heap t1 t2 t3 l1 l2 l3).get? (Zb s.heap t1 t2 t3 l1 l2 l3).objs.size=some _:=bK _ (bK _ (eL _ rfl));have g3:(Ge s.heap t1 t2 t3 l1 l2 l3).get? ((s.heap.push (bJ t1 l1)).push (bJ t2 l2)).objs.size=some (bJ t3 l3):=bK _ (bK _ (bK _ (eL _ (Nh ..))));have g2:(Ge s.heap t1 t2 t3 l1 l2 l3).get? (s.heap.push (bJ t1 l1)).objs.size=some (bJ t2 l2):=bK _ (bK _ (bK _ (bK _ (eL _ (Nh ..)))));have g1:(Ge s.heap t1 t2 t3 l1 l2 l3).get? s.heap.objs.size=some (bJ t1 l1):=bK _ (bK _ (bK _ (bK _ (bK _ (eL _ (Nh ..))))));rw[y3,y4,y5]at g6;rw[y1,y2,y3]at g4;rw[y4]at g5;rw[y2]at g3;rw[y1]at g2;rw[y5];exact⟨⟨_,g6,rfl⟩,k _ g6 g4 g5 (Md g1) (Md g2) (Md g3) λc o x=>bK _ (bK _ (bK _ (bK _ (bK _ (bK _ x)))))⟩
noncomputable abbrev en_ (it:AD):Obj:={cls:= .type "enumerate",data:= .fields #[.none,.bool false,.ref it,rawInt 0,.none,.none]}
theorem znY (t:Bool)(l:AD)(o:Obj)(xs:Array AC):Meets (Builtin.«enumerate.__new__» ⟨[.type "enumerate",.ref l],[]⟩) (λ_ R s=>s.heap.get? l=some o/\SrcH t s.heap l xs/\
   R (.ok (.ret (.ref (s.heap.push (bJ t l)).objs.size))) {s with heap:=(s.heap.push (bJ t l)).push (en_ s.heap.objs.size)}):=
 .of_wp λprog w A R s h=>by
  obtain⟨hp,g,d,tk,os⟩:=s;obtain⟨hl,b,h⟩:=h;have hsub:=sub_enumerate;have hL:SrcH t (Shared.heap ⟨hp,g,d,tk,os⟩) l xs:=b
  wp_walk using qcl hl
  refine wpAny_stack_any λst=>qaB ?_
  split
  ·rename_i c _ _ _ _ _;cases(c==Value.type "enumerate")<;>(wp_walk using qcl hl,Gk hL;exact⟨_,rfl,h⟩)
  ·wp_walk using qcl hl,Gk hL
   exact⟨_,rfl,h⟩
theorem zpr (h1:SrcH t s.heap l xs)(k:∀h',IsEnum h' (s.heap.objs.size+1) s.heap.objs.size 0 .none->SrcIt t h' s.heap.objs.size l 0->(∀b o,s.heap.get? b=some o->h'.get? b=some o)->Q (.ref (s.heap.objs.size+1)) {s with heap:=h'}):
  AG (model prog w) A (call (.type "enumerate") [.ref l]) Q E s:=by
 have⟨o,ho⟩:∃o,s.heap.get? l=some o:=by cases t<;>(obtain⟨o,e,-⟩:=h1;exact⟨o,e⟩)
 refine callType_new F.called_enumerate (by decide) (F.typeCall_enumerate_1 _) (F.newCall_enumerate_1 _) (λobj=>F.args_object_init_2 obj _) F.entry_enumerate_new (znY t l o xs) ⟨ho,h1,(?_:_/\_)⟩;have y1:(s.heap.push (bJ t l)).objs.size=s.heap.objs.size+1:=kF ..;have g2:((s.heap.push (bJ t l)).push (en_ s.heap.objs.size)).get? (s.heap.push (bJ t l)).objs.size=some _:=eL _ rfl;have g1:((s.heap.push (bJ t l)).push (en_ s.heap.objs.size)).get? s.heap.objs.size=some (bJ t l):=bK _ (eL _ (Nh ..));rw[y1]at g2;rw[y1];exact⟨⟨_,g2,rfl⟩,k _ g2 (Md g1) λb o x=>bK _ (bK _ x)⟩
end
end M
namespace M
local macro_rules | `(tactic| ac_rfl) => `(tactic| first | exact M.nA (by decide) | exact M.nB (by decide) | exact M.nC (by decide) | exact M.nL (by assumption) | exact Nat.ne_of_lt (by assumption) | lia)
open L2 PySem PySem.Spec
open PyProof.Rows hiding St
open Sem (wp)
variable {t' ek:Nat}{h':AK}{fp:AA AD}{vs xs:AA V}{its:AA AC}{t:Bool}{X:Cx}{AM:AA (AD×Obj)}{σ:St}{H:Hp}{s:AE}{a:AI}{K:AF}{elts:AA AI}{ep p pos:Pos}{ta:TA}{es:AA D}{ma:MA}
section
variable {X:Cx}{AM:AA (AD×Obj)}{σ:St}{H:Hp}{s:AE}
theorem Wz (I:Inv X AM σ H s)(k:∀b o,b∉fp->s.heap.get? b=some o->h'.get? b=some o)(hf:∀b∈fp,eF X AM H b):Inv X AM σ H {s with heap:=h',toks:=t'}:=by
 have nit:∀b u,H b=some u->b∉fp:=λb u e z=>by rw[(hf b z).1]at e;exact aK e
 refine I.step (g':=s.gens) (d':=s.drawn) (ch:=fp) (λb hb=>?_) (λb o _ _ hc e _=>k b o hc e) (λb o _ _ hc e _=>⟨o.slots,k b o hc e⟩) (λ_ _ _ _ n=>n)
  (λb o hc e=>⟨o,k b o hc e⟩) (λ_ _ e=>e) (λ_ _ _ e=>e) (λb ps e=>⟨#[],by rw[e];simp⟩) (λm hm=>?_) (λb u e=>?_) I.bare
 ·obtain⟨f0,f1,f2,f3,f4,f5⟩:=hf b hb;exact⟨f3,f1,f4,f5⟩
 ·obtain⟨o,es,ep,ho,r⟩:=hm;exact⟨o,es,ep,k _ o (λz=>(hf _ z).2.1 rfl) ho,r⟩
 ·refine(I.hok b u e).stay (λc v hc q=>k c v ?_ q) (λ_ q=>q) λ_ _ q=>q
  rcases hc with z|z
  ·rw[z];exact nit b u e
  ·exact nit c _ z
theorem zl5 {t':Nat}{h':AK}{fp:AA AD}(I:Inv X AM σ H s)(k:∀b o,b∉fp->s.heap.get? b=some o->h'.get? b=some o)(hf:∀b∈fp,eF X AM H b)(hl:∀b∈fp,b<s.heap.objs.size)(hT:h'.get? s.heap.objs.size=some (jC its.toArray))(hz:vs.length<=sizeLine)(r:Vals vs its):Inv X AM σ (upd H s.heap.objs.size (.tup vs)) {s with heap:=h',toks:=t'}:=by
 have I1:=I.laid (t':=s.toks) (a:=s.heap.objs.size) (o:= .tup vs) (h':=s.heap.push (jC its.toArray)) (λb u q=>bK _ q) (bZ _) ⟨hz,its,r,IsTup.new _ _⟩;refine Wz (s:={s with heap:=s.heap.push (jC its.toArray),toks:=s.toks}) (t':=t') (fp:=fp) I1 (λb o hb e=>?_) λb hb=>?_
 ·have e':(s.heap.push (jC its.toArray)).get? b=some o:=e;rcases Heap.get?_push_cases e' with⟨rfl,rfl⟩|q
  ·exact hT
  ·exact k b o hb q
 ·obtain⟨f0,fr⟩:=hf b hb;refine⟨?_,fr⟩;rw[bF (gG (hl b hb))];exact f0
end
noncomputable def SrcSq (t:Bool)(K:AF)(H:Hp)(a:AD)(xs:AA V):Prop:=match t with
 |true=>SqT K H a xs
 |false=>SqL K H a xs
theorem SrcSq.heap {a:AD}(I:Inv X AM σ H s)(h:SrcSq t X.K H a xs):∃its:AA AC,Vals xs its/\SrcH t s.heap a its.toArray/\xs.length<=sizeLine:=by
 cases t
 ·obtain⟨its,r,p,z⟩:=I.list h;exact⟨its,r,p.isList,z⟩
 ·obtain⟨its,r,p,z⟩:=I.tuple h;exact⟨its,r,p,z⟩
theorem SrcSq.inj {a:AD}{xs ys:AA V}(I:Inv X AM σ H s)(h:SrcSq t X.K H a xs)(h':SrcSq t X.K H a ys):xs=ys:=by
 cases t
 ·exact I.list_inj h h'
 ·exact I.tuple_inj h h'
noncomputable def Eb (K:AF)(t1:Bool)(a1:AD)(t2:Bool)(a2:AD)(n:Nat):It where
 go:=λi H=>i<n/\∃xs ys,SrcSq t1 K H a1 xs/\SrcSq t2 K H a2 ys/\n=min xs.length ys.length
 yld:=λi H x H'=>∃p x1 x2,H p=none/\H'=upd H p (.tup [x1,x2])/\x= .ref p/\∀xs ys,SrcSq t1 K H a1 xs->SrcSq t2 K H a2 ys->xs[i]? =some x1/\ys[i]? =some x2
 stop:=λi H=>n<=i/\∃xs ys,SrcSq t1 K H a1 xs/\SrcSq t2 K H a2 ys/\n=min xs.length ys.length
theorem Pm {c N:Nat}(h:c∉([N,N+1,N+2,N+3,N+4]:AA Nat)):c≠N/\c≠N+1/\c≠N+3/\c≠N+4:=
 ⟨λe=>h (e ▸ .head _),λe=>h (e ▸ .tail _ (.head _)),λe=>h (e ▸ .tail _ (.tail _ (.tail _ (.head _)))),λe=>h (e ▸ .tail _ (.tail _ (.tail _ (.tail _ (.head _)))))⟩
theorem Pg {c N:Nat}(h:c∉([N,N+1,N+2,N+3,N+4,N+5]:AA Nat)):c≠N/\c≠N+1/\c≠N+2/\c≠N+4/\c≠N+5:=
 ⟨λe=>h (e ▸ .head _),λe=>h (e ▸ .tail _ (.head _)),λe=>h (e ▸ .tail _ (.tail _ (.head _))),λe=>h (e ▸ .tail _ (.tail _ (.tail _ (.tail _ (.head _))))),λe=>h (e ▸ .tail _ (.tail _ (.tail _ (.tail _ (.tail _ (.head _))))))⟩
noncomputable def Ur (K:AF)(t1:Bool)(a1:AD)(t2:Bool)(a2:AD)(t3:Bool)(a3:AD)(n:Nat):It where
 go:=λi H=>i<n/\∃xs ys zs,SrcSq t1 K H a1 xs/\SrcSq t2 K H a2 ys/\SrcSq t3 K H a3 zs/\n=min xs.length (min ys.length zs.length)
 yld:=λi H x H'=>∃p x1 x2 x3,H p=none/\H'=upd H p (.tup [x1,x2,x3])/\x= .ref p/\∀xs ys zs,SrcSq t1 K H a1 xs->SrcSq t2 K H a2 ys->SrcSq t3 K H a3 zs->xs[i]? =some x1/\ys[i]? =some x2/\zs[i]? =some x3
 stop:=λi H=>n<=i/\∃xs ys zs,SrcSq t1 K H a1 xs/\SrcSq t2 K H a2 ys/\SrcSq t3 K H a3 zs/\n=min xs.length (min ys.length zs.length)
theorem zow {P:AJ}{w:World}(t1:Bool)(a1:Nat)(t2:Bool)(a2:Nat)(t3:Bool)(a3:Nat)(n N:Nat)(l1:a1<N)(l2:a2<N)(l3:a3<N):
  Turn P w K (.Tuple elts ek ep) (Ur K t1 a1 t2 a2 t3 a3 n) ([N,N+1,N+2,N+3,N+4,N+5]:AA Nat) (N+5:Nat)
   (λi h=>i<=n/\IsZip h (N+5:Nat) (N+3:Nat) (N+4:Nat) .none/\gO h (N+3:Nat) (.ref N) (.ref (N+1:Nat)) (.ref (N+2:Nat))/\(∃a b c,gO h (N+4:Nat) a b c)/\SrcIt t1 h N a1 i/\SrcIt t2 h (N+1:Nat) a2 i/\SrcIt t3 h (N+2:Nat) a3 i) where
 mem:=by simp
 obj:=λi h st b hb=>by
  obtain⟨-,h5,h3,⟨a,c,d,h4⟩,h0,h1,h2⟩:=st;simp only[qam,Nk,or_false]at hb;rcases hb with rfl|rfl|rfl|rfl|rfl|rfl
  ·exact h0.obj
  ·exact h1.obj
  ·exact h2.obj
  ·exact⟨_,h3,λv z=>by cases z⟩
  ·exact⟨_,h4,λv z=>by cases z⟩
  ·exact⟨_,h5,λv z=>by cases z⟩
 keep:=λi h h' st k=>by
  obtain⟨hi,h5,h3,⟨a,c,d,h4⟩,h0,h1,h2⟩:=st;exact⟨hi,k _ (by simp) _ h5,k _ (by simp) _ h3,⟨a,c,d,k _ (by simp) _ h4⟩,h0.at λo e=>k _ (by simp) o e,h1.at λo e=>k _ (by simp) o e,h2.at λo e=>k _ (by simp) o e⟩
 item:=by
  intro X hP hw hK hc i AM s σ H E I hf st hg;subst hP hw hK;obtain⟨hi,h5,h3,⟨a,c,d,h4⟩,h0,h1,h2⟩:=st;obtain⟨hn,xs,ys,zs,q1,q2,q3,en⟩:=hg;obtain⟨us,ru,hu,zu⟩:=q1.heap I;obtain⟨ws,rw',hw',zw⟩:=q2.heap I;obtain⟨os,ro,ho',zo⟩:=q3.heap I;have lu:=ru.length;have lw:=rw'.length;have lo:=ro.length;have D1:=mB (prog:=X.prog) (w:=X.w) (A:=X.A.in1) (t:=t1) (I.ok.hd hc) N a1 (bG (by ac_rfl)) us.toArray;have D2:=mB (prog:=X.prog) (w:=X.w) (A:=X.A.in1) (t:=t2) (I.ok.hd hc) (N+1) a2 (bG (by ac_rfl)) ws.toArray;have D3:=mB (prog:=X.prog) (w:=X.w) (A:=X.A.in1) (t:=t3) (I.ok.hd hc) (N+2) a3 (bG (by ac_rfl)) os.toArray;have hT:s.TypeIs (.ref (N+5:Nat)) "zip":=⟨_,h5,rfl⟩;unfold pyNext;refine aJ (Mg (yI (name:=Str.ofString "__next__") hT Cb (qL Cb hT Zi
   (zpK D1 D2 D3 l1 l2 l3 h5 h3 h4 ⟨h0,hu⟩ ⟨h1,hw'⟩ ⟨h2,ho'⟩ (by simp;lia) (by simp;lia) (by simp;lia) λx y z h' tk p1 p2 p3 g5 g4 g0 g1 g2 gT kk=>qaB ?_) (Yc _))))
  obtain⟨x1,hx1⟩:∃x1,xs[i]? =some x1:=⟨xs[i]'(by lia),cI _⟩;obtain⟨x2,hx2⟩:∃x2,ys[i]? =some x2:=⟨ys[i]'(by lia),cI _⟩;obtain⟨x3,hx3⟩:∃x3,zs[i]? =some x3:=⟨zs[i]'(by lia),cI _⟩;obtain⟨u1,hu1,r1⟩:=ru.get hx1;obtain⟨u2,hu2,r2⟩:=rw'.get hx2;obtain⟨u3,hu3,r3⟩:=ro.get hx3;have e1:u1=x:=by
   have:us[i]? =some x:=by simpa using p1
   rw[hu1]at this;cases this;rfl
  have e2:u2=y:=by
   have:ws[i]? =some y:=by simpa using p2
   rw[hu2]at this;cases this;rfl
  have e3:u3=z:=by
   have:os[i]? =some z:=by simpa using p3
   rw[hu3]at this;cases this;rfl
  subst e1 e2 e3;refine⟨_,rfl,wpAny_letOwnedTupleGo_zip (s:={s with heap:=h',toks:=tk}) g5 λh'' g5' sb=>?_⟩
  replace sb:Heap.SameBut (N+5:Nat) h' h'':=sb
  have lz:N+5<s.heap.objs.size:=dQ h5;have kk':∀b o,b∉([N,N+1,N+2,N+3,N+4,N+5]:AA Nat)->s.heap.get? b=some o->h''.get? b=some o:=λb o hb e=>by
   obtain⟨c1,c2,c3,c4,c5⟩:=Pg hb;exact(sb.2 b c5).trans (kk b o c1 c2 c3 c4 c5 e)
  have I1:=zl5 (t':=tk) (vs:=[x1,x2,x3]) (its:=[u1,u2,u3]) I kk' hf (λb hb=>by
   have:b=N\/b=N+1\/b=N+2\/b=N+3\/b=N+4\/b=N+5:=by simpa using hb
   exact Hy (show(b:Nat)<=N+5 by rcases this with h|h|h|h|h|h<;>rw[h]<;>simp) lz) ((sb.2 _ (bG (by ac_rfl))).trans gT) (by simp;rw[gF];decide) (.cons r1 (.cons r2 (.cons r3 .nil)))
  refine⟨.ref s.heap.objs.size,_,I1,rfl,⟨_,x1,x2,x3,I.hok.fresh (bZ _),rfl,rfl,λxs' ys' zs' b1 b2 b3=>?_⟩,⟨hn,g5',(sb.2 _ (bG (by ac_rfl))).trans (kk _ _ (bG (by ac_rfl)) (bG (by ac_rfl)) (bG (by ac_rfl)) (bG (by ac_rfl)) (bG (by ac_rfl)) h3),⟨_,_,_,(sb.2 _ (bG (by ac_rfl))).trans g4⟩,SrcIt.at g0.1 λo e=>(sb.2 _ (bG (by ac_rfl))).trans e,SrcIt.at g1.1 λo e=>(sb.2 _ (bG (by ac_rfl))).trans e,SrcIt.at g2.1 λo e=>(sb.2 _ (bG (by ac_rfl))).trans e⟩,λb hb=>?_⟩
  ·rw[SrcSq.inj I b1 q1,SrcSq.inj I b2 q2,SrcSq.inj I b3 q3];exact⟨hx1,hx2,hx3⟩
  ·have:b=N\/b=N+1\/b=N+2\/b=N+3\/b=N+4\/b=N+5:=by simpa using hb
   rw[bF (gG (Hy (show(b:Nat)<=N+5 by rcases this with h|h|h|h|h|h<;>rw[h]<;>simp) lz))]
   exact(hf b hb).1
 done:=by
  intro X hP hw hK hc i AM s σ H E I hf st hg;subst hP hw hK;obtain⟨hi,h5,h3,⟨a,c,d,h4⟩,h0,h1,h2⟩:=st;obtain⟨hn,xs,ys,zs,q1,q2,q3,en⟩:=hg;obtain⟨us,ru,hu,zu⟩:=q1.heap I;obtain⟨ws,rw',hw',zw⟩:=q2.heap I;obtain⟨os,ro,ho',zo⟩:=q3.heap I;have lu:=ru.length;have lw:=rw'.length;have lo:=ro.length;have D1:=mB (prog:=X.prog) (w:=X.w) (A:=X.A.in1) (t:=t1) (I.ok.hd hc) N a1 (bG (by ac_rfl)) us.toArray;have D2:=mB (prog:=X.prog) (w:=X.w) (A:=X.A.in1) (t:=t2) (I.ok.hd hc) (N+1) a2 (bG (by ac_rfl)) ws.toArray;have D3:=mB (prog:=X.prog) (w:=X.w) (A:=X.A.in1) (t:=t3) (I.ok.hd hc) (N+2) a3 (bG (by ac_rfl)) os.toArray;have hT:s.TypeIs (.ref (N+5:Nat)) "zip":=⟨_,h5,rfl⟩;unfold pyNext;refine aJ (Mg (yI (name:=Str.ofString "__next__") hT Cb (qL Cb hT Zi
   (qM D1 D2 D3 l1 l2 l3 h5 h3 h4 ⟨h0,hu⟩ ⟨h1,hw'⟩ ⟨h2,ho'⟩ (by simp;lia) λh' e tk kk he=>?_) (Yc _))))
  obtain⟨o,ho,hce⟩:=he;refine aJ (wpAny_isInstance (T:="StopIteration") (b:=true) ⟨o,ho,hce⟩ isSubtype_stop (qaB ⟨rfl,Wz I (λb o hb e=>?_) hf⟩));obtain⟨c1,c2,c3,c4,c5⟩:=Pg hb;exact kk b o c1 c2 c3 c4 c5 e
 self:=λ_ _ _ _ _ st h=>wpAny_pyIter_zip st.2.1 h
noncomputable def Ite (K:AF)(t1:Bool)(a1:AD)(n:Nat):It where
 go:=λi H=>i<n/\∃xs,SrcSq t1 K H a1 xs/\n=xs.length
 yld:=λi H x H'=>∃p x1,H p=none/\H'=upd H p (.tup [.int i,x1])/\x= .ref p/\∀xs,SrcSq t1 K H a1 xs->xs[i]? =some x1
 stop:=λi H=>n<=i/\∃xs,SrcSq t1 K H a1 xs/\n=xs.length
theorem zpM {P:AJ}{w:World}(t1:Bool)(a1:Nat)(n N:Nat)(l1:a1<N):
  Turn P w K (.Tuple elts ek ep) (Ite K t1 a1 n) ([N+1,N]:AA Nat) (N+1:Nat) (λi h=>i<=n/\(∃old,IsEnum h (N+1:Nat) N i old)/\SrcIt t1 h N a1 i) where
 mem:=by simp
 obj:=λi h st b hb=>by
  obtain⟨-,⟨old,h1⟩,h0⟩:=st;simp only[qam,Nk,or_false]at hb;rcases hb with rfl|rfl
  ·exact⟨_,h1,λv z=>by cases z⟩
  ·exact h0.obj
 keep:=λi h h' st k=>by
  obtain⟨hi,⟨old,h1⟩,h0⟩:=st;exact⟨hi,⟨old,k _ (by simp) _ h1⟩,h0.at λo e=>k _ (by simp) o e⟩
 item:=by
  intro X hP hw hK hc i AM s σ H E I hf st hg;subst hP hw hK;obtain⟨hi,⟨old,h1⟩,h0⟩:=st;obtain⟨hn,xs,q1,en⟩:=hg;obtain⟨us,ru,hu,zu⟩:=q1.heap I;have lu:=ru.length;have D1:=mB (prog:=X.prog) (w:=X.w) (A:=X.A.in1) (t:=t1) (I.ok.hd hc) N a1 (bG (by ac_rfl)) us.toArray;refine wpAny_pyNext_enum_itemD D1 h1 ⟨h0,hu⟩ (by simp;lia) (bG (by ac_rfl)) (λz=>aX (z:=N+1) z (by lia) (by lia) rfl) λx h' tk p1 ho g0 gT gz kk=>?_
  obtain⟨x1,hx1⟩:∃x1,xs[i]? =some x1:=⟨xs[i]'(by lia),cI _⟩;obtain⟨u1,hu1,r1⟩:=ru.get hx1;have e1:u1=x:=by
   have:us[i]? =some x:=by simpa using p1
   rw[hu1]at this;cases this;rfl
  subst e1;refine⟨_,rfl,wpAny_letOwnedTupleGo_enum (s:={s with heap:=h',toks:=tk+1}) ho λh'' he' sb=>?_⟩
  replace sb:Heap.SameBut (N+1:Nat) h' h'':=sb
  have lz:N+1<s.heap.objs.size:=dQ h1;have kk':∀b o,b∉([N+1,N]:AA Nat)->s.heap.get? b=some o->h''.get? b=some o:=λb o hb e=>
   (sb.2 b λz=>hb (by simp[z])).trans (kk b o (λz=>hb (by simp[z])) (λz=>hb (by simp[z])) e)
  have I1:=zl5 (t':=tk+1) (vs:=[.int i,x1]) (its:=[.int i tk,u1]) I kk' hf (λb hb=>by
   have:b=N+1\/b=N:=by simpa using hb
   exact Hy (show(b:Nat)<=N+1 by rcases this with h|h<;>rw[h]<;>simp) lz) ((sb.2 _ (bG (by ac_rfl))).trans gT) (by simp;rw[gF];decide) (.cons ⟨_,rfl⟩ (.cons r1 .nil))
  refine⟨.ref s.heap.objs.size,_,I1,rfl,⟨_,x1,I.hok.fresh (bZ _),rfl,rfl,λxs' b1=>?_⟩,⟨hn,⟨_,by simpa using he'⟩,SrcIt.at g0.1 λo e=>(sb.2 _ (bG (by ac_rfl))).trans e⟩,λb hb=>?_⟩
  ·rw[SrcSq.inj I b1 q1];exact hx1
  ·have:b=N+1\/b=N:=by simpa using hb
   rw[bF (gG (Hy (show(b:Nat)<=N+1 by rcases this with h|h<;>rw[h]<;>simp) lz))]
   exact(hf b hb).1
 done:=by
  intro X hP hw hK hc i AM s σ H E I hf st hg;subst hP hw hK;obtain⟨hi,⟨old,h1⟩,h0⟩:=st;obtain⟨hn,xs,q1,en⟩:=hg;obtain⟨us,ru,hu,zu⟩:=q1.heap I;have lu:=ru.length;have D1:=mB (prog:=X.prog) (w:=X.w) (A:=X.A.in1) (t:=t1) (I.ok.hd hc) N a1 (bG (by ac_rfl)) us.toArray;have W:=WalksT.enumerateD D1 (N+1:Nat) (bG (by ac_rfl)) (λz=>aX (z:=N+1) z (by lia) (by lia) rfl) (by simp);have ei:i=us.toArray.size:=by simp;lia
  subst ei;exact W.done s _ _ ⟨⟨old,h1⟩,h0,hu⟩ λh' tk kk=>⟨rfl,Wz I kk hf⟩
 self:=λ_ _ _ _ _ st h=>by
  obtain⟨hi,⟨old,h1⟩,h0⟩:=st;exact wpAny_pyIter_enum h1 h
theorem zmE:bootBuiltins "zip"=some (.type "zip"):=by decide+kernel
theorem zjM:bootBuiltins "enumerate"=some (.type "enumerate"):=by decide+kernel
section
variable {X:Cx}{elts:AA AI}{ek:Nat}{ep:Pos}
theorem vD {a b c:AI}(hg:Gl X "zip")(hm:X.mg "zip"=none)(ha:PA X [a,b,c] ta)(hs:autoParam (starEach [a,b,c] X.env=(false,eval a X.env)::starEach [b,c] X.env) zu2._auto_1)(hs2:autoParam ((backTo pos (starEach [b,c] X.env)).any (·.1)=false) zu2._auto_1):
  PI X (.Tuple elts ek ep) (.Call (.Name "zip" p) [a,b,c] [] pos) (λσ H R=>ta σ H λvs H1=>∃t1 a1 xs t2 a2 ys t3 a3 zs,vs=[.ref a1,.ref a2,.ref a3]/\SrcSq t1 X.K H1 a1 xs/\SrcSq t2 X.K H1 a2 ys/\SrcSq t3 X.K H1 a3 zs/\R (Ur X.K t1 a1 t2 a2 t3 a3 (min xs.length (min ys.length zs.length))) H1):=by
 intro AM s σ H R I h;refine Call_ (Iq I hg hm zmE (Uo (bE (ha pos AM s σ H _ I h) λus s1 ⟨vs,H1,I1,r1,q1⟩=>?_) hs hs2));obtain⟨t1,a1,xs,t2,a2,ys,t3,a3,zs,e,q1,q2,q3,q⟩:=q1;subst e;cases r1 with
 |cons r rr=>
  cases rr with
  |cons r' rr=>
   cases rr with
   |cons r'' rr=>
    cases rr;cases r;cases r';cases r'';obtain⟨us,ru,hu,-⟩:=q1.heap I1;obtain⟨ws,rw',hw',-⟩:=q2.heap I1;obtain⟨os,ro,ho',-⟩:=q3.heap I1;refine zoP hu hw' ho' λh' g5 g3 g4 g0 g1 g2 kk=>wpAny_pyIter_zip g5 ⟨_,_,_,_,H1,rfl,I1.kept (t':=s1.toks) kk,zow t1 a1 t2 a2 t3 a3 (min xs.length (min ys.length zs.length)) s1.heap.objs.size hu.lt hw'.lt ho'.lt,⟨jR _,g5,g3,⟨_,_,_,g4⟩,g0,g1,g2⟩,λb hb=>?_,q⟩
    have:b=s1.heap.objs.size\/b=s1.heap.objs.size+1\/b=s1.heap.objs.size+2\/b=s1.heap.objs.size+3\/b=s1.heap.objs.size+4\/b=s1.heap.objs.size+5:=by simpa using hb
    have le:s1.heap.objs.size<=b:=by rcases this with h|h|h|h|h|h<;>rw[h]<;>simp
    exact I1.fpOk le (I1.hok.fresh le)
theorem vZ (hg:Gl X "enumerate")(hm:X.mg "enumerate"=none)(ha:PA X [a] ta)(hs:autoParam (starEach [a] X.env=(false,eval a X.env)::starEach [] X.env) zu2._auto_1)(hs2:autoParam ((backTo pos (starEach [] X.env)).any (·.1)=false) zu2._auto_1):
  PI X (.Tuple elts ek ep) (.Call (.Name "enumerate" p) [a] [] pos) (λσ H R=>ta σ H λvs H1=>∃t1 a1 xs,vs=[.ref a1]/\SrcSq t1 X.K H1 a1 xs/\R (Ite X.K t1 a1 xs.length) H1):=by
 intro AM s σ H R I h;refine Call_ (Iq I hg hm zjM (Uo (bE (ha pos AM s σ H _ I h) λus s1 ⟨vs,H1,I1,r1,q1⟩=>?_) hs hs2));obtain⟨t1,a1,xs,e,q1,q⟩:=q1;subst e;cases r1 with
 |cons r rr=>
  cases rr;cases r;obtain⟨us,ru,hu,-⟩:=q1.heap I1;refine zpr hu λh' g1 g0 kk=>wpAny_pyIter_enum g1 ⟨_,_,_,_,H1,rfl,I1.kept (t':=s1.toks) kk,zpM t1 a1 xs.length s1.heap.objs.size hu.lt,⟨jR _,⟨_,g1⟩,g0⟩,λb hb=>?_,q⟩
  have:b=s1.heap.objs.size+1\/b=s1.heap.objs.size:=by simpa using hb
  have le:s1.heap.objs.size<=b:=by rcases this with h|h<;>rw[h]<;>simp
  exact I1.fpOk le (I1.hok.fresh le)
end
theorem Mo {G:Hp}{x:V}{d:D}(r:RepD K G x d)(e:cL [d]=some es):∃t a xs,x= .ref a/\(∀H,Fz G H->SrcSq t K H a xs)/\RepL K G xs es:=by
 cases d<;>simp only[cL]at e<;>try cases e
 ·obtain⟨a,xs,rfl,ha,r⟩:=r;exact⟨false,a,xs,rfl,λH f=>SqL.of (f _ _ ha),r⟩
 ·obtain⟨a,xs,rfl,ha,r⟩:=r;exact⟨true,a,xs,rfl,λH f=>SqT.of (f _ _ ha),r⟩
 ·obtain⟨a,rfl,ha⟩:=r;exact⟨false,a,_,rfl,λH f=>f.sql ha,RepL.ints _⟩
noncomputable def Em (xs ys:AA D):AA D:=List.zipWith (λx y=>D.tup [x,y]) xs ys
noncomputable def Fh (xs ys zs:AA D):AA D:=List.zipWith (λx (p:D×D)=>D.tup [x,p.1,p.2]) xs (List.zip ys zs)
noncomputable def Ek (xs:AA D):AA D:=List.zipWith (λx (i:Nat)=>D.tup [.int i,x]) xs (List.range xs.length)
noncomputable def iZ2 (ma:MA):MA:=λρ=>(ma ρ).bind λp=>match p.1 with
 |[a,b]=>(cL [a]).bind λxs=>(cL [b]).bind λys=>some (Em xs ys,p.2)
 |_=>none
noncomputable def Lu (ma:MA):MA:=λρ=>(ma ρ).bind λp=>match p.1 with
 |[a,b,c]=>(cL [a]).bind λxs=>(cL [b]).bind λys=>(cL [c]).bind λzs=>some (Fh xs ys zs,p.2)
 |_=>none
noncomputable def tV (ma:MA):MA:=λρ=>(ma ρ).bind λp=>(cL p.1).map λxs=>(Ek xs,p.2)
theorem Xd {a b c:AI}(hm:X.mg "zip"=none)(ha:SA X [a,b,c] ma)(hg:autoParam (Gl X "zip") zu2._auto_1)(hs:autoParam (starEach [a,b,c] X.env=(false,eval a X.env)::starEach [b,c] X.env) zu2._auto_1)(hs2:autoParam ((backTo pos (starEach [b,c] X.env)).any (·.1)=false) zu2._auto_1):
  SIt X (.Tuple elts ek ep) (.Call (.Name "zip" p) [a,b,c] [] pos) (Lu ma):=by
 refine ha.el λt pa sa=>?_
 refine⟨_,vD hg hm pa hs hs2,λB G H σ ρ ds ρ' Q I hm k=>?_⟩;refine bN hm λes ρ1 e1 h2=>?_
 dsimp only at h2;refine sa B G H σ ρ es ρ1 _ I e1 λG1 H1 vs I1 f1 r1=>?_
 split at h2
 ·refine aM h2 λxs ex h2=>?_
  refine aM h2 λys ey h2=>?_
  refine aM h2 λzs ez h2=>?_
  obtain⟨rfl,rfl⟩:=bM h2;obtain⟨x,us,rfl,rx,r2⟩:=r1;obtain⟨y,ws,rfl,ry,r3⟩:=r2;obtain⟨z,os,rfl,rz,r4⟩:=r3;cases(show os=[]from r4);obtain⟨t1,a1,us,rfl,s1,c1⟩:=Mo rx ex;obtain⟨t2,a2,ws,rfl,s2,c2⟩:=Mo ry ey;obtain⟨t3,a3,os,rfl,s3,c3⟩:=Mo rz ez;have n1:=c1.length;have n2:=c2.length;have n3:=c3.length;refine⟨t1,a1,us,t2,a2,ws,t3,a3,os,rfl,s1 _ I1.fz,s2 _ I1.fz,s3 _ I1.fz,k _ G1 H1 I1 f1 ⟨λH i f hi=>?_,λH i x H' f y d e=>?_,λH i f hi=>?_⟩⟩
  ·exact⟨by simp[Fh]at hi;lia,us,ws,os,s1 _ f,s2 _ f,s3 _ f,rfl⟩
  ·obtain⟨p,x1,x2,x3,hp,eh,ex',q⟩:=y;obtain⟨q1,q2,q3⟩:=q us ws os (s1 _ f) (s2 _ f) (s3 _ f);simp only[Fh,List.zip,Ly]at e;have hi:i<us.length/\i<ws.length/\i<os.length:=⟨(qap.mp q1).1,(qap.mp q2).1,(qap.mp q3).1⟩;have g1:xs[i]? =some (xs[i]'(by lia)):=cI _;have g2:ys[i]? =some (ys[i]'(by lia)):=cI _;have g3:zs[i]? =some (zs[i]'(by lia)):=cI _;rw[g1,g2,g3]at e;cases e;obtain⟨v1,b1,r1⟩:=c1.get g1;obtain⟨v2,b2,r2⟩:=c2.get g2;obtain⟨v3,b3,r3⟩:=c3.get g3;rw[q1]at b1;cases b1;rw[q2]at b2;cases b2;rw[q3]at b3;cases b3;exact .inr ⟨p,_,_,hp,eh,ex',rfl,⟨_,_,rfl,r1,_,_,rfl,r2,_,_,rfl,r3,rfl⟩⟩
  ·exact⟨by simp[Fh]at hi;lia,us,ws,os,s1 _ f,s2 _ f,s3 _ f,rfl⟩
 ·exact aK h2
theorem Di (hm:X.mg "enumerate"=none)(ha:SA X [a] ma)(hg:autoParam (Gl X "enumerate") zu2._auto_1)(hs:autoParam (starEach [a] X.env=(false,eval a X.env)::starEach [] X.env) zu2._auto_1)(hs2:autoParam ((backTo pos (starEach [] X.env)).any (·.1)=false) zu2._auto_1):
  SIt X (.Tuple elts ek ep) (.Call (.Name "enumerate" p) [a] [] pos) (tV ma):=by
 refine ha.el λt pa sa=>?_
 refine⟨_,vZ hg hm pa hs hs2,λB G H σ ρ ds ρ' Q I hm k=>?_⟩;refine bN hm λes ρ1 e1 h2=>?_
 refine dE h2 λxs ex h2=>?_
 cases h2;refine sa B G H σ ρ es ρ1 _ I e1 λG1 H1 vs I1 f1 r1=>?_
 match es,ex,r1 with
 |[],ex,_=>exact aK ex
 |_::_::_,ex,_=>exact AH ex (by simp[cL])
 |[d],ex,r1=>
  obtain⟨x,rfl,rx⟩:=r1.one;obtain⟨t1,a1,us,rfl,s1,c1⟩:=Mo rx ex;have n1:=c1.length;refine⟨t1,a1,us,rfl,s1 _ I1.fz,k _ G1 H1 I1 f1 ⟨λH i f hi=>?_,λH i x H' f y d e=>?_,λH i f hi=>?_⟩⟩
  ·exact⟨by simp[Ek]at hi;lia,us,s1 _ f,rfl⟩
  ·obtain⟨p,x1,hp,eh,ex',q⟩:=y;have q1:=q us (s1 _ f);have hi:i<us.length:=(qap.mp q1).1;have g1:xs[i]? =some (xs[i]'(by lia)):=cI _;simp only[Ek,Ly]at e;rw[g1,show(List.range xs.length)[i]? =some i from by rw[List.getElem?_range (by lia)]]at e;cases e;obtain⟨v1,b1,r1⟩:=c1.get g1;rw[q1]at b1;cases b1;exact .inr ⟨p,_,_,hp,eh,ex',rfl,⟨_,_,rfl,rfl,_,_,rfl,r1,rfl⟩⟩
  ·exact⟨by simp[Ek]at hi;lia,us,s1 _ f,rfl⟩
end M
namespace M
open L2 PySem PySem.Spec
open PyProof.Rows hiding St
variable {K:AF}{G H:Hp}{x:Str}{X:Cx}{a:AI}{σ:St}{ρ:R}{b:Nat}{cs:AA D}{l:AD}{ys:AA V}{cap:AA Nat}{tg':AD->AE->Hp->AA AD->TG}{tt:AD->AE->Hp->AA AD->TT}{te:AD->AE->Hp->AA AD->TE}
noncomputable def zE:D->Bool
 | .non=>true
 |_=>false
theorem qX {x:V}{d:D}(r:RepD K G x d):decide (x= .non)=zE d:=by
 cases d with
 |non=>cases(show x=V.non from r);rfl
 |bl b=>cases(show x=V.bl b from r);rfl
 |int i=>cases(show x=V.int i from r);rfl
 |str s=>cases(show x=V.str s from r);rfl
 |lst ds=>obtain⟨a,xs,rfl,-⟩:=r;rfl
 |tup ds=>obtain⟨a,xs,rfl,-⟩:=r;rfl
 |scr ns=>obtain⟨a,rfl,-⟩:=r;rfl
 |exc c=>obtain⟨a,C,rfl,-⟩:=r;rfl
 |dic _ _=>obtain⟨a,ys,rfl,-⟩:=r;rfl
 |dit _ _=>obtain⟨a,ys,o,xs,rfl,-⟩:=r;rfl
 |obj _ _ _ _ _=>obtain⟨_,_,_,_,_,_,_,_,_,rfl,-⟩:=r;rfl
noncomputable def kN:D->D->AB D
 |a,.non=>some (.bl (zE a))
 |_,_=>none
noncomputable def Dh:D->D->AB D
 |a,.non=>some (.bl (!zE a))
 |_,_=>none
theorem Dv:V2 X (λx y H Q=>y= .non/\Q (.bl (decide (x= .non))) H) kN:=by
 intro B G H σ ρ x y a b d Q I ra rb hf k;cases b<;>simp only[kN]at hf<;>cases hf
 exact⟨rb,k G H _ I (Fz.refl G) (by rw[qX ra];rfl)⟩
theorem yL:V2 X (λx y H Q=>y= .non/\Q (.bl (!decide (x= .non))) H) Dh:=by
 intro B G H σ ρ x y a b d Q I ra rb hf k;cases b<;>simp only[Dh]at hf<;>cases hf
 exact⟨rb,k G H _ I (Fz.refl G) (by rw[qX ra];rfl)⟩
theorem Hj:∀x y d,kN x y=some d->∃t,d= .bl t:=by
 intro x y d hf;cases y<;>simp only[kN]at hf<;>cases hf
 exact⟨_,rfl⟩
theorem xT:∀x y d,Dh x y=some d->∃t,d= .bl t:=by
 intro x y d hf;cases y<;>simp only[Dh]at hf<;>cases hf
 exact⟨_,rfl⟩
section
variable {X:Cx}{a b:AI}{ma mb:ME}{pos:Pos}
theorem Si (ha:SE X a ma)(hb:SE X b mb)(hm:autoParam (behindInMarks .Is b=false) zu2._auto_1):STt X (.Compare a [.Is] [b] pos) (aQ (m2 kN ma mb)):=zC Jo Dv Hj ha hb hm
theorem zmC (ha:SE X a ma)(hb:SE X b mb)(hm:autoParam (behindInMarks .IsNot b=false) zu2._auto_1):STt X (.Compare a [.IsNot] [b] pos) (aQ (m2 Dh ma mb)):=zC Bl yL xT ha hb hm
end
theorem zpX {ma:MA}{p q pos pos':Pos}(ml:X.mg "list"=none)(mr:X.mg "range"=none)(ha:SA X [a] ma)(hc:autoParam (X.calm=true) zu2._auto_1)(hg:autoParam (Gl X "list") zu2._auto_1)(hgr:autoParam (Gl X "range") zu2._auto_1)(he:autoParam (starEach [a] X.env=(false,eval a X.env)::starEach [] X.env) zu2._auto_1)(hpl:autoParam ((backTo pos' (starEach [] X.env)).any (·.1)=false) zu2._auto_1)(he2:autoParam (starEach [.Call (.Name "range" q) [a] [] pos'] X.env=(false,eval (.Call (.Name "range" q) [a] [] pos') X.env)::starEach [] X.env) zu2._auto_1):
  SO X (.Call (.Name "list" p) [.Call (.Name "range" q) [a] [] pos'] [] pos) (oR (fS ma)):=by
 refine ha.el λt pa sa=>?_
 refine⟨_,Wv (znQ hc) hg ml (by decide+kernel) (gK (Wv zpC hgr mr (by decide+kernel) pa (by decide) (by decide) he hpl) iS he2) (by decide) (by decide) he2 rfl,λB G H σ ρ ds ρ' Q I hm k=>?_⟩;refine bN hm λitems ρ1 e1 hm=>?_
 refine bN e1 λes ρ2 e2 h2=>?_
 dsimp only at hm h2;refine bC hm λAO hm=>?_
 ·skip
  obtain⟨rfl,rfl⟩:=Prod.mk.inj (Option.some.inj hm);refine sa B G H σ ρ es ρ2 _ I e2 λG1 H1 vs I1 f1 r1=>?_
  split at h2
  ·rename_i j;refine bC h2 λhj h2=>?_
   ·skip
    obtain⟨rfl,rfl⟩:=Prod.mk.inj (Option.some.inj h2);obtain⟨x,rfl,rx⟩:=r1.one;cases(show x=V.int j from rx);refine⟨j,rfl,λp hp=>⟨p,0,j,rfl,dU,⟨by decide,by decide,(Ui hj).1,(Ui hj).2⟩,by simpa[lF]using AO,λl hl=>?_⟩⟩;have I2:=I1.allocO hp (.rng 0 j);have ej:(j-0).toNat=j.toNat:=by rw[Int.sub_zero]
    rw[ej]at*;obtain⟨I3,g3,h3,b3,n3⟩:=I2.newO hl ((List.range j.toNat).map λ(k:Nat)=>V.int (0+k));exact k G1 _ l _ I3 f1 g3 h3 (znt 0 _) b3 n3
  ·exact aK h2
noncomputable def Ko (b:Nat)(ρ:R):Bool:=match ρ[b]? with
 |some (.par _)=>fL (ρ.set b .emp)
 |_=>false
noncomputable def lJ (b:Nat)(ρ:R):AA D:=match ρ[b]? with
 |some (.par cs)=>cs
 |_=>[]
noncomputable def kR (b:Nat)(g:D->R->AB R)(mt:MT)(me:ME):D->R->AB (AB D×R):=λd ρ=>(g d ρ).bind λρ1=>(mt ρ1).bind λp=>if p.1 then(me p.2).bind λq=>if Ko b q.2 then some (some q.1,q.2)else none else if Ko b p.2 then some (none,p.2)else none
noncomputable def gU (cap:AA Nat)(t b w:Nat)(mi:MA)(g:D->R->AB R)(mt:MT)(me:ME):MO:=λρ=>(mi ρ).bind λp=>if p.1.length<=16777216 then
    ((fzL (cap.filter (· !=w)) p.2)[w]?).bind λs=>s.items.bind λcs=>(gH (kR b g mt me) p.1 ((eN cap t (fzL (cap.filter (· !=w)) p.2)).set b (.par cs))).map λq=>(q.1,(fzL (cap.filter (· !=w)) p.2).set w (s.put (lJ b q.2)))
  else none
theorem VS.setEmp (h:VS K G σ ρ)(b:Nat):VS K G σ (ρ.set b .emp) where
 len:=by rw[fR];exact h.len
 no:=by
  have h0:=h.no;unfold fL at*;rw[Bu]at*;intro s hs;rcases List.mem_or_eq_of_mem_set hs with z|z
  ·exact h0 s z
  ·rw[z]
 val:=λi d e=>by
  rw[iG]at e
  split at e
  ·split at e
   ·cases e
   ·exact aK e
  ·exact h.val i d e
theorem VS.siP (h:VS K G σ (ρ.set b .emp))(fz:Fz G H)(hb:ρ[b]? =some (.par cs))(hs:σ[b]? =some (some (.ref l)))(gl:G l=none)(hl:H l=some (.lst ys))(r:RepL K G ys cs):SI K ⟨G,H,[(b,l)]⟩ G H σ ρ where
 fz:=fz
 g0:=Fz.refl G
 new:=λb o e=> .inl (by show G b≠none;rw[e];simp)
 keep:=λb o e _=>e
 there:=λb e=>e
 ob:=λi c m=>by
  have:i=b/\c=l:=by simpa using m
  rw[this.2];show H l≠none;rw[hl];simp
 len:=by rw[h.len,fR]
 slot:=λi s e=>by
  by_cases z:i=b
  ·subst z;rw[hb]at e;cases e;exact⟨l,ys,hs,gl,hl,r,by simp⟩
  ·have e':(ρ.set b .emp)[i]? =some s:=by rw[iF (Ne.symm z)];exact e
   cases s with
   |emp=>trivial
   |two _ _=>trivial
   |tre t=>exact AH rfl ((Ic h.no e').1 t)
   |ptr t=>exact AH rfl ((Ic h.no e').2 t)
   |val d=>exact h.val i d e'
   |own ds=>exact AH ⟨_,ds,e',rfl⟩ (Fq h.no (i:=i))
   |par ds=>exact AH ⟨_,ds,e',rfl⟩ (Fq h.no (i:=i))
 dis:=λi j s t a hij e1 e2 w1 w2=>by
  have key:∀(i:Nat) (s:Sl) ov,ρ[i]? =some s->fD K G H ov a s->i=b:=λi s ov e w=>by
   by_cases z:i=b
   ·exact z
   ·exact AH w (Yt h.no (show(ρ.set b .emp)[i]? =some s by rw[iF (Ne.symm z)];exact e))
  exact hij ((key i s _ e1 w1).trans (key j t _ e2 w2).symm)
theorem VS.ofP {B:Bs}(I:SI K B G H σ ρ)(hO:B.O=[(b,l)])(h:Ko b ρ=true):∃cs ys,ρ[b]? =some (.par cs)/\σ[b]? =some (some (.ref l))/\G l=none/\H l=some (.lst ys)/\RepL K G ys cs/\VS K G σ (ρ.set b .emp):=by
 unfold Ko at h
 split at h
 ·rename_i cs e;obtain⟨l',ys,h1,h2,h3,h4,h5⟩:=I.slot b _ e;have hl:l'=l:=by rw[hO]at h5;simpa using h5
  subst hl;refine⟨cs,ys,e,h1,h2,h3,h4,⟨by rw[fR];exact I.len,h,λi d e'=>?_⟩⟩;rw[iG]at e'
  split at e'
  ·split at e'
   ·cases e'
   ·exact aK e'
  ·exact I.slot i _ e'
 ·cases h
noncomputable def PaAt (K:AF)(b:Nat)(l:AD)(G H:Hp)(σ:St)(ρ:R):Prop:=∃cs ys,ρ[b]? =some (.par cs)/\σ[b]? =some (some (.ref l))/\G l=none/\H l=some (.lst ys)/\RepL K G ys cs
theorem PaAt.upd {l DD:AD}(h:PaAt K b l G H σ ρ)(n:l≠DD)(xs:AA V):PaAt K b l G (L2.upd H DD (.lst xs)) σ ρ:=h.imp λ_ h=>h.imp λ_ h=>⟨h.1,h.2.1,h.2.2.1,(bF n).trans h.2.2.2.1,h.2.2.2.2⟩
theorem zkP {b w t:Nat}(h1:cap[b]? =some w)(h2:σ[w]? =some (some (.ref l))):b<cap.length/\(cX cap t σ)[b]? =some (some (.ref l)):=by
 have hb:b<cap.length:=(qap.mp h1).1;have hbe:cap[b]=w:=(qap.mp h1).2;refine⟨hb,?_⟩;unfold cX;rw[iU (by rw[cY];exact hb),eG,cI hb,hbe,Cq,h2]
 rfl
theorem zhh (cap:AA Nat)(t:Nat)(ρ:R):(eN cap t ρ).length=cap.length+t:=by unfold eN;simp
section
variable {X:Cx}{elt iter tg:AI}{ifs:AA AI}{scope:Scope}{pos:Pos}{N:AA Str}{cap:AA Nat}{t bk wk:Nat}{mi:MA}{g:D->R->AB R}{mt:MT}{me:ME}
theorem zlE (hbw:cap[bk]? =some wk){wi:TI}(si:lU X tg iter mi wi)(blk:LcB X scope N elt tg ifs g mt me tg' tt te):
    ∀B G H σ ρ ds ρ' (Q:VK),SI X.K B G H σ ρ->gU cap t bk wk mi g mt me ρ=some (ds,ρ')->
      (∀G' H' l xs,SI X.K B G' H' σ ρ'->Fz G G'->G' l=none->H' l=some (.lst xs)->RepL X.K G' xs ds->B.H l=none->Nw X.K G' H' σ ρ' l->Q (.ref l) H')->Fb (cX cap t) wi tg' tt te σ H Q:=λB G H σ ρ ds ρ' Q I hm k=>
  bN hm λitems ρ1 e1 hm=>si B G H σ ρ items ρ1 _ I e1 λJ G1 H1 I1 f1 IT DD hD=>bC hm λAO hm=>aM hm λsw ew hm=>aM hm λcs0 qw hm=>gZ hm λall ρf e2 e3=>by
    obtain⟨rfl,rfl⟩:=Prod.mk.inj e3;obtain⟨G2,I2,f2⟩:=SI.fzL (cap.filter (· !=wk)) I1
    obtain⟨l,ys0,hσ,gl0,hl0,rl0⟩:=I2.wr ew qw;have hlD:l≠DD:=jU hl0 hD;have hb:=zkP (t:=t) hbw hσ;refine ziX blk (O:=[(bk,l)]) (JJ:=λG H σ ρ=>PaAt X.K bk l G H σ ρ/\VS X.K G σ (ρ.set bk .emp)) IT f2 I2.fz hD AO (λi m=>?_) (λG H σ ρ h f=>?_) (λ_ _ _ _ _ _ I h=>?_) (λ_ _ _ _ xs h=>⟨h.1.upd hlD xs,h.2⟩) ⟨⟨cs0,ys0,?_,hb.2,gl0,hl0,rl0⟩,?_⟩ e2 λGc Hc σc xs J ra jj=>?_
    . rw[qcs]at m;exact hlD (Prod.mk.inj m).2.symm
    . obtain⟨⟨cs,ys,a1,a2,a3,a4,a5⟩,vs⟩:=h
      exact vs.siP f a1 a2 a3 a4 a5
    . obtain⟨cs',ys',w1,w2,w3,w4,w5,w6⟩:=VS.ofP I rfl h
      exact⟨⟨cs',ys',w1,w2,w3,w4,w5⟩,w6⟩
    . rw[iG,if_pos rfl,if_pos (by rw[zhh];lia)]
    . rw[Pf];exact(Xz I2 cap t).setEmp bk
    . obtain⟨⟨cs,ys,a1,a2,a3,a4,a5⟩,vs⟩:=jj
      have hp:lJ bk ρf=cs:=by unfold lJ;rw[a1]
      rw[hp]at k;have kp:∀b o,b≠l->H1 b=some o->Hc b=some o:=λb o n e=>J.kp b o (λi m=>n (Prod.mk.inj (qcs.mp m)).2) e
      exact k Gc Hc DD xs (I2.growW ew qw hσ J.fc J.fcH J.nw kp a3 a4 a5) (f1.trans (f2.trans J.fc)) J.gD J.hDc ra (I2.there DD hD) (I2.own_neW ew qw hσ hD J.nw kp)
theorem Uj (cap:AA Nat)(t bk wk:Nat)(N:AA Str)(hc:X.calm=true)(hi:SIt X tg iter mi)(hg:∀C s H fp,SG (cH X N scope C s H fp) tg g)(ht:∀C s H fp,uG (cH X N scope C s H fp) ifs mt)(he:∀C s H fp,SE (cH X N scope C s H fp) elt me)(hbw:autoParam (cap[bk]? =some wk) zu2._auto_1)(hk:autoParam (scope.kind= .function) zu2._auto_1)(hb:autoParam (iI X.env scope=true) zu10._auto_1)(hcap:autoParam (iC scope.names N X.N cap t=true) zu10._auto_1)(hs:autoParam (∀x,foldedSetIterable iter X.env x=pure x) zu9._auto_1):SO X (.ListComp elt [⟨tg,iter,ifs,0⟩] scope pos) (gU cap t bk wk mi g mt me):=by
  refine hi.el λwi pi si=>?_
  exact⟨_,pH hc (Jp hk hb) (Kg hcap) pi (λC s H fp=>(hg C s H fp).choose_spec.1) (λC s H fp=>(ht C s H fp).choose_spec.1) (λC s H fp=>(he C s H fp).choose_spec.1) hs,
    zlE hbw si (.mk' hg ht he)⟩
theorem znP (i:Nat){lpos pos':Pos}(cap:AA Nat)(t bk wk:Nat)(N:AA Str)(hc:X.calm=true)(hi:SIt X tg iter mi)(hg:∀C s H fp,SG (cH X N scope C s H fp) tg g)(ht:∀C s H fp,uG (cH X N scope C s H fp) ifs mt)(he:∀C s H fp,SE (cH X N scope C s H fp) elt me)(hN:X.N.Nodup)(hbw:autoParam (cap[bk]? =some wk) zu2._auto_1)(hxi:autoParam (X.N[i]? =some x) zu2._auto_1)(hx:autoParam (iO X.env.scope x) zu6._auto_1)(hf:autoParam (X.fn x=true\/X.env.scope.names.lookup x=some .local) zu6._auto_1)(hsw:autoParam (swapsWith (.ListComp elt [⟨tg,iter,ifs,0⟩] scope lpos) (some (.Name x pos')) pos.line X.env=pure true) zu2._auto_1)(hk:autoParam (scope.kind= .function) zu2._auto_1)(hb:autoParam (iI X.env scope=true) zu10._auto_1)(hcap:autoParam (iC scope.names N X.N cap t=true) zu10._auto_1)(hs:autoParam (∀x,foldedSetIterable iter X.env x=pure x) zu9._auto_1):SS X (.Assign [.Name x pos'] (.ListComp elt [⟨tg,iter,ifs,0⟩] scope lpos) pos) (aO i (cZ (gU cap t bk wk mi g mt me))):=by
  refine hi.el λwi pi si=>?_
  refine⟨_,Vv hN hxi hx hf hsw hc (Jp hk hb) (Kg hcap) pi (λC s H fp=>(hg C s H fp).choose_spec.1) (λC s H fp=>(ht C s H fp).choose_spec.1) (λC s H fp=>(he C s H fp).choose_spec.1) hs,λB G H σ ρ fl ρ' E I hm k=>?_⟩;refine gZ hm λd ρ1 e1 e3=>?_
  refine gZ e1 λds ρ2 e4 e5=>?_
  obtain⟨rfl,rfl⟩:=Prod.mk.inj e5;obtain⟨rfl,rfl⟩:=Prod.mk.inj e3;refine zlE hbw si (.mk' hg ht he) B G H σ ρ ds ρ2 _ I e4 λG1 H1 l xs I1 f1 g1 h1 r1 b1 n1=>?_
  obtain⟨I2,f2,r2⟩:=Me I1 g1 h1 r1 b1 n1;exact k _ H1 _ (I2.set r2) (f1.trans f2)
end
end M
namespace M
open L2 PySem
noncomputable def oE (i:Nat)(m:ME):MS:=λρ=>if(ρ[i]?.bind Sl.items).isSome then(m ρ).bind λp=>p.2[i]?.bind λs=>s.items.bind λds=>match p.1 with
 | .lst es=>if ds.length+es.length<=16777216 then some (.next,p.2.set i (s.put (ds++es)))else none
 |_=>none else none
section
variable {X:Cx}{e:AI}{me:ME}{pos:Pos}
theorem oO (i:Nat){x:Str}{pos' apos cpos:Pos}(he:SE X e me)(hN:autoParam (X.N[i]? =some x) zu2._auto_1)(hv:autoParam (dG X.env.scope x) zu6._auto_1)(hd:autoParam ((x==("__debug__":Str))=false) zu1._auto_1)(hcd:autoParam ((x==("__classdict__":Str))=false) zu1._auto_1)(hbase:autoParam (attributeBase (.Name x pos') "extend" X.env (eval (.Name x pos') X.env)=eval (.Name x pos') X.env) zu2._auto_1)(hfew :autoParam (((backTo cpos (starEach [e] X.env)).all (λx => !x.1) && (backToKw cpos (keywordEach [] X.env)).all (λx => x.1.isSome)
   &&decide ([e].length+([]:AA Keyword).length+(if([]:AA Keyword).isEmpty then 0 else 1)<30))=true) zu2._auto_1)(hline:autoParam ((apos.endLine==cpos.line)=true) zu2._auto_1)(hs:autoParam (starEach [e] X.env=(false,eval e X.env)::starEach [] X.env) zu2._auto_1):SS X (.Expr (.Call (.Attribute (.Name x pos') "extend" apos) [e] [] cpos) pos) (oE i me):=by
 refine he.el λt p s=>?_
 refine⟨_,Ca (Ck Dd PySem.F.slot_list_extend PySem.F.type_list_extend zob (eE hN hv hd hcd) (gK p iS hs) hbase hfew hline hs rfl) (by rfl),λB G H σ ρ fl ρ' E I hm k=>?_⟩;unfold oE at hm;refine bC hm λhso hm=>?_
 ·skip
  obtain⟨ds0,hso⟩:=qaP.mp hso;refine aM hso λs0 e0 q0=>?_
  obtain⟨l,xs0,h1,h2,h3,h4⟩:=I.wr e0 q0;refine bN hm λd ρ1 e1 hm=>?_
  refine aM hm λs1 e2 hm=>?_
  refine aM hm λds e3 hm=>?_
  cases d with
  |lst es=>
   dsimp only at hm;refine bC hm λhl hm=>?_
   ·skip
    obtain⟨rfl,rfl⟩:=bM hm;refine⟨.ref l,h1,.inl ⟨rfl,_,SqL.of h3⟩,s B G H σ ρ (.lst es) ρ1 _ I e1 λG1 H1 v I1 f1 r1=>?_⟩;obtain⟨l',xs,k1,k2,k3,k4⟩:=I1.wr e2 e3;rw[h1]at k1;cases k1;obtain⟨b,zs,rfl,hb,rb⟩:=r1;refine⟨l,b,xs,zs,rfl,rfl,k3,I1.fz _ _ hb,by rw[k4.length,rb.length,gF];exact hl,?_⟩;exact k G1 _ σ (I1.write e2 e3 h1 (k4.append rb)) f1
  |_=>exact aK hm
end
end M
namespace M
open L2 PySem PySem.Spec
open PyProof.Rows hiding St
noncomputable def iR2L (ma:MA):MA:=λρ=>(ma ρ).bind λp=>match p.1 with
 |[.int i,.int j]=>some (lF i (j-i).toNat,p.2)
 |_=>none
theorem nn {α:Type}{o:AB α}{x:α}(e:o=some x):o≠none:=by rw[e];exactλz=>by cases z
noncomputable abbrev MX:=R->AB Str
noncomputable def Cv (mc:MT)(mb:MS):Nat->MS
 |0,_=>none
 |n+1,ρ=>(mc ρ).bind λp=>if p.1 then(mb p.2).bind λq=>match q.1 with
  | .next=>Cv mc mb n q.2
  | .cont=>Cv mc mb n q.2
  | .brk=>some (.next,q.2)
  | .ret r=>some (.ret r,q.2)
  else some (.next,p.2)
theorem nH {X:Cx}{c:AI}{body:AA Stmt}{mc:MT}{mb:MS}{pos:Pos}(fuel:Nat)(hp:PassesOwn (model X.prog X.w) X.A X.env X.xe)(hc:STt X c mc)(hb:SSs X body mb):SS X (.While c body [] pos) (Cv mc mb fuel):=by
 refine hc.el λtc pc sc=>?_
 refine hb.el λtb pb sb=>?_
 refine⟨_,qY hp pc pb,λB G H σ ρ fl ρ' E I hm k=>?_⟩;refine⟨λm σ' H'=>∃G' ρ1,SI X.K B G' H' σ' ρ1/\Fz G G'/\Cv mc mb m ρ1=some (fl,ρ'),⟨fuel,G,ρ,I,Fz.refl G,hm⟩,λm σ1 H1 w=>?_⟩;obtain⟨G1,ρ1,I1,f1,e1⟩:=w;cases m with
 |zero=>exact aK e1
 |succ m=>
  refine bN e1 λb ρ2 e2 e1=>?_
  refine sc B G1 H1 σ1 ρ1 b ρ2 _ I1 e2 λG2 H2 I2 f2=>?_
  dsimp only at e1;cases b with
  |false=>
   rw[if_neg (by simp)]at e1 ⊢;obtain⟨rfl,rfl⟩:=bM e1;exact k G2 H2 σ1 I2 (f1.trans f2)
  |true=>
   rw[if_pos rfl]at e1 ⊢;refine bN e1 λf ρ3 e3 e1=>?_
   refine⟨λσ' H'=>∃G' ρ1,SI X.K B G' H' σ' ρ1/\Fz G G'/\Cv mc mb m ρ1=some (fl,ρ'),λσ' H' h=>⟨m,Zg m,h⟩,?_⟩;refine sb B G2 H2 σ1 ρ2 f ρ3 _ I2 e3 ?_;have ff:=f1.trans f2;cases f with
   |next=>exactλG' H' σ' I3 f3=>⟨G',ρ3,I3,ff.trans f3,e1⟩
   |cont=>exactλG' H' σ' I3 f3=>⟨G',ρ3,I3,ff.trans f3,e1⟩
   |brk=>obtain⟨rfl,rfl⟩:=bM e1;exactλG' H' σ' I3 f3=>k G' H' σ' I3 (ff.trans f3)
   |ret r=>obtain⟨rfl,rfl⟩:=bM e1;exactλG' H' σ' v I3 f3 rr=>k G' H' σ' v I3 (ff.trans f3) rr
noncomputable def gS (j:Nat)(mi:ME):D->R->AB R:=λd ρ=>if fC ρ j then(mi ρ).bind λq=>match q.1 with
 | .int k=>q.2[j]?.bind λs=>s.items.bind λds=>(cB ds.length k).bind λn=>some (q.2.set j (s.put (ds.set n d)))
 |_=>none else none
section
variable {X:Cx}
theorem sH (j:Nat){x:Str}{i:AI}{mi:ME}{pos' tpos:Pos}(hi:SE X i mi)(hN:autoParam (X.N[j]? =some x) zu2._auto_1)(hv:autoParam (dG X.env.scope x) zu6._auto_1)(hd:autoParam ((x==("__debug__":Str))=false) zu1._auto_1)(hcd:autoParam ((x==("__classdict__":Str))=false) zu1._auto_1)(ha :autoParam (∀ v, assign (.Subscript (.Name x pos') i tpos) X.env v = (do
      let ov<-holding [v] (eval (.Name x pos') X.env)
      let iv<-holding [v,ov] (eval i X.env)
      standAt tpos
      holding [v,ov,iv] (setItem ov iv v)
      release [v,ov,iv] [])) zu9._auto_1):SG X (.Subscript (.Name x pos') i tpos) (gS j mi):=by
  refine hi.el λu q z=>?_
  refine⟨_,zoN (eE hN hv hd hcd) q Vc ha,λB G H σ ρ v d ρ' Q I r1 hm k=>?_⟩;unfold gS at hm;refine bC hm λhh hm=>?_
  . skip
    obtain⟨w,ew⟩:=I.has hh;refine bN hm λkd ρ2 e2 hm=>?_
    cases kd<;>try exact aK hm
    rename_i kk;refine aM hm λs2 e3 hm=>?_
    refine aM hm λds e4 hm=>?_
    refine aM hm λn e5 hm=>?_
    cases hm;refine⟨w,ew,z B G H σ ρ (.int kk) ρ2 _ I e2 λG2 H2 y I2 f2 r2=>?_⟩;obtain⟨l,xs,k1,k2,k3,k4⟩:=I2.wr e3 e4;rw[ew]at k1;cases k1;refine⟨l,xs,kk,n,rfl,r2,k3,by rw[k4.length];exact e5,?_⟩;exact k G2 _ σ (I2.write e3 e4 ew (k4.set n (r1.mono f2))) f2
end
end M
namespace M
open L2 PySem
noncomputable def Qx:Sl->Sl->Bool
 | .own ds,.own es=>match hU ds,hU es with
  |some a,some b=>a==b
  |_,_=>false
 | .par ds,.par es=>match hU ds,hU es with
  |some a,some b=>a==b
  |_,_=>false
 | .own _,_=>false
 | .par _,_=>false
 | .tre _,_=>false
 | .ptr _,_=>false
 |_,_=>true
end M
namespace M
open L2 PySem PySem.Spec
open PyProof.Rows hiding St
variable {s:Sl}{t:T}{ov:AB (AB V)}{a b:AD}{i:Nat}{v:V}{A:AA AD}{o:HO}{σ':St}{ρ':R}{ds:AA D}
noncomputable def Sl.putT (s:Sl)(t:T):Sl:=match s with
 | .tre _=> .tre t
 | .ptr _=> .ptr t
 |s=>s
noncomputable def Sl.tree:Sl->AB T
 | .tre t=>some t
 |_=>none
section
variable {K:AF}{B:Bs}{G G' H H':Hp}{σ:St}{ρ:R}
theorem zmR (q:s.tree=some t):fD K G H ov a s↔∃v A,ov=some (some v)/\RepT K G H v t A/\a∈A:=by
 cases s with
 |tre _=>cases q;exact Iff.rfl
 |_=>exact aK q
theorem zpv (q:s.tree=some t)(t':T):(s.putT t').tree=some t':=by
 cases s with
 |tre _=>rfl
 |_=>exact aK q
theorem SI.tree (I:SI K B G H σ ρ)(e:ρ[i]? =some s)(q:s.tree=some t):∃v A,σ[i]? =some (some v)/\RepT K G H v t A/\A.Nodup/\(∀a∈A,G a=none)/\∀a∈A,B.H a=none\/(i,a)∈B.O:=by
 have h:=I.slot i s e;cases s with
 |tre _=>cases q;obtain⟨v,A,h1,h2,h3,h4⟩:=h;exact⟨v,A,h1,h2,h3,λa m=>(h4 a m).1,λa m=> .inl (h4 a m).2⟩
 |_=>exact aK q
theorem SI.chT (I:SI K B G H σ ρ){i:Nat}{t t':T}{A A':AA AD}(e:ρ[i]? =some s)(q:s.tree=some t)(hv:σ[i]? =some (some v))(r:RepT K G H v t A)(fz:Fz G H')(kp:∀b o,b∉A->H b=some o->H' b=some o)(th:∀b,H' b=none->H b=none)(r':RepT K G H' v t' A')(nd:A'.Nodup)(sub:∀a∈A',a∈A\/H a=none):SI K B G H' σ (ρ.set i (s.putT t')):=by
 obtain⟨v1,A1,h1,h2,h3,h4,h5⟩:=I.tree e q;rw[hv]at h1;cases h1;have:A1=A:=h2.det r λ_ _=>rfl
 subst this;have g':∀a∈A',G a=none:=λa m=>by
  rcases sub a m with z|z
  ·exact h4 a z
  ·exact I.fz.free z
 have b':∀a∈A',B.H a=none\/(i,a)∈B.O:=λa m=>by
  rcases sub a m with z|z
  ·exact h5 a z
  ·exact .inl (I.there a z)
 have h:=I.chg (i:=i) (ov:=some v) (s':=s.putT t') (G':=G) (H':=H') fz (Fz.refl G) I.new (λb o k1 k2=>kp b o (λm=>?_) (I.keep b o k1 k2)) (λb k=>I.there b (th b k)) (λj u a z ej w g ha=>?_) ?_
 ·rwa[vV hv]at h
 ·rcases h5 b m with z|z
  ·rw[k1]at z;cases z
  ·exact k2 i z
 ·have na:a∉A1:=λm=>I.dis j i u s a z ej e w ((zmR q).mpr ⟨v,A1,hv,h2,m⟩)
  obtain⟨x,hx⟩:=qbx.mp ha;refine⟨g,(kp a x na hx).trans hx.symm,λw'=>?_⟩;obtain⟨v2,A2,k1,k2,k3⟩:=(zmR (zpv q t')).mp w';cases k1;rw[k2.det r' λ_ _=>rfl]at k3;rcases sub a k3 with z|z
  ·exact na z
  ·exact ha z
 ·have sl:=I.slot i s e;cases s with
  |tre _=>
   obtain⟨v2,A2,k1,k2,k3,k4⟩:=sl;rw[hv]at k1;cases k1;cases q;have:A2=A1:=k2.det h2 λ_ _=>rfl
   subst this;refine⟨v,A',rfl,r',nd,λa m=>⟨g' a m,?_⟩⟩;rcases sub a m with z|z
   ·exact(k4 a z).2
   ·exact I.there a z
  |_=>cases q
theorem SI.setT (I:SI K B G H σ ρ)(r:RepT K G H v t A)(nd:A.Nodup)(hA:∀a∈A,G a=none/\B.H a=none/\Nw K G H σ ρ a):SI K B G H (σ.set i (some v)) (ρ.set i (.tre t)):=
 I.chg I.fz (Fz.refl G) I.new I.keep I.there (λj s a _ e w g _=>⟨g,rfl,λ⟨v2,A2,k1,k2,k3⟩=>by
  cases k1;rw[k2.det r λ_ _=>rfl]at k3;exact(hA a k3).2.2 j s e w⟩) ⟨v,A,rfl,r,nd,λa m=>⟨(hA a m).1,(hA a m).2.1⟩⟩
open Classical in
noncomputable def Bs.re (B:Bs)(K:AF)(G H:Hp)(σ:St)(ρ:R):Bs:=⟨G,λb=>if(∃(i:Nat) (s:Sl),ρ[i]? =some s/\fD K G H σ[i]? b s)/\B.H b=none then none else H b,B.O⟩
theorem Kc (I:SI K B G H σ ρ)(h:(B.re K G H σ ρ).H b=none):B.H b=none:=by
 unfold Bs.re at h;dsimp only at h
 split at h
 ·rename_i w;exact w.2
 ·exact I.there b h
theorem zpz (e:ρ[i]? =some s)(w:fD K G H σ[i]? b s)(n:B.H b=none):(B.re K G H σ ρ).H b=none:=by
 unfold Bs.re;dsimp only;rw[if_pos ⟨⟨i,s,e,w⟩,n⟩]
theorem zmr (h:H b=some o)(n:Nw K G H σ ρ b):(B.re K G H σ ρ).H b=some o:=by
 unfold Bs.re;dsimp only;rw[if_neg λw=>by obtain⟨⟨i,s,e,w⟩,_⟩:=w;exact n i s e w];exact h
theorem SI.re (I:SI K B G H σ ρ):SI K (B.re K G H σ ρ) G H σ ρ where
 fz:=I.fz
 g0:=Fz.refl G
 new:=λb o e=> .inl (by show G b≠none;rw[e];simp)
 keep:=λb o e _=>by
  unfold Bs.re at e;dsimp only at e
  split at e
  ·exact aK e
  ·exact e
 there:=λb e=>by
  unfold Bs.re;dsimp only
  split
  ·rfl
  ·exact e
 ob:=λi b m=>by
  have hb:=I.ob i b m;unfold Bs.re;dsimp only;rw[if_neg λw=>hb w.2];exactλz=>hb (I.there b z)
 len:=I.len
 slot:=λi s e=>by
  have h:=I.slot i s e;cases s with
  |emp=>trivial
  |two _ _=>trivial
  |val d=>exact h
  |own ds=>obtain⟨l,xs,k1,k2,k3,k4,k5⟩:=h;exact⟨l,xs,k1,k2,k3,k4,zpz e k1 k5⟩
  |par ds=>exact h
  |tre t=>obtain⟨v,A,k1,k2,k3,k4⟩:=h;exact⟨v,A,k1,k2,k3,λa m=>⟨(k4 a m).1,zpz e ⟨v,A,k1,k2,m⟩ (k4 a m).2⟩⟩
  |ptr t=>
   obtain⟨v,A,k1,k2,k3,k4⟩:=h;exact⟨v,A,k1,k2,k3,λa m=>⟨(k4 a m).1,(k4 a m).2.imp id λz=>⟨zpz e ⟨v,A,k1,k2,m⟩ z.1,z.2⟩⟩⟩
 dis:=I.dis
theorem SI.unre (I:SI K B G H σ ρ)(J:SI K (B.re K G H σ ρ) G' H' σ' ρ'):SI K B G' H' σ' ρ' where
 fz:=J.fz
 g0:=I.g0.trans J.g0
 new:=λb o e=>by
  rcases J.new b o e with z|z
  ·cases q:G b with
   |none=>exact AH q z
   |some u=>exact I.new b u q
  ·exact .inr (Kc I z)
 keep:=λb o e n=>J.keep b o (by
  unfold Bs.re;dsimp only;rw[if_neg λw=>by rw[w.2]at e;cases e];exact I.keep b o e n) n
 there:=λb e=>Kc I (J.there b e)
 ob:=I.ob
 len:=J.len
 slot:=λi s e=>by
  have h:=J.slot i s e;cases s with
  |emp=>trivial
  |two _ _=>trivial
  |val d=>exact h
  |own ds=>obtain⟨l,xs,k1,k2,k3,k4,k5⟩:=h;exact⟨l,xs,k1,k2,k3,k4,Kc I k5⟩
  |par ds=>exact h
  |tre t=>obtain⟨v,A,k1,k2,k3,k4⟩:=h;exact⟨v,A,k1,k2,k3,λa m=>⟨(k4 a m).1,Kc I (k4 a m).2⟩⟩
  |ptr t=>
   obtain⟨v,A,k1,k2,k3,k4⟩:=h;exact⟨v,A,k1,k2,k3,λa m=>⟨(k4 a m).1,(k4 a m).2.imp id λz=>⟨Kc I z.1,z.2⟩⟩⟩
 dis:=J.dis
theorem SI.re_stays (I:SI K B G H σ ρ)(J:SI K (B.re K G H σ ρ) G' H' σ' ρ')(h:H b=some o)(n:Nw K G H σ ρ b)(hg:G b=none)(hB:B.H b=none):H' b=some o/\G' b=none/\Nw K G' H' σ' ρ' b:=by
 have hb:(B.re K G H σ ρ).H b=some o:=zmr h n;have hO:∀i,(i,b)∉B.O:=λi m=>I.ob i b m hB
 refine⟨J.keep b o hb hO,?_,λi s e w=>?_⟩
 ·cases q:G' b with
  |none=>rfl
  |some u=>
   rcases J.new b u q with z|z
   ·exact AH hg z
   ·rw[hb]at z;cases z
 ·rcases((J.slot i s e).own w).2.2 with z|z
  ·rw[hb]at z;cases z
  ·exact hO i z
end
section
variable {J κ:Type}[DecidableEq J][DecidableEq κ]
noncomputable def iQ:AA J->AA D->J->AB D
 |k::ks,d::ds,j=>if k=j then some d else iQ ks ds j
 |_,_,_=>none
noncomputable def jV (ks:AA J)(ds:AA D)(j:J)(d:D):AA J×AA D:=if ks.contains j then(ks,List.zipWith (λk x=>if k=j then d else x) ks ds)else(ks++[j],ds++[d])
variable {K:AF}{G:Hp}{em:J->κ}
theorem zmb (inj:∀a b,em a=em b->a=b):∀{ks:AA J} {ds:AA D} {ys:AA (κ×V)} {j:J} {d:D},ys.map (·.1)=ks.map em->RepL K G (ys.map (·.2)) ds->iQ ks ds j=some d->∃v,fZ ys (em j)=some v/\RepD K G v d
 |[],_,_,_,_,_,_,h=>by exact aK h
 |_::_,[],_,_,_,_,_,h=>by exact aK h
 |k::ks,x::ds,[],j,d,e,_,_=>by cases e
 |k::ks,x::ds,y::ys,j,d,e,⟨z,zs,e1,r1,r2⟩,h=>by
  cases e1;have e2:=List.cons.inj e;unfold iQ at h
  by_cases q:k=j
  ·rw[if_pos q]at h;cases h;subst q;exact⟨y.2,zkV e2.1,r1⟩
  ·rw[if_neg q]at h;obtain⟨v,h1,h2⟩:=zmb inj e2.2 r2 h;refine⟨v,?_,h2⟩;rw[Vx λz=>q (inj _ _ (e2.1.symm.trans z)),h1]
theorem zn3 (inj:∀a b,em a=em b->a=b):∀{ks:AA J} {ds:AA D} {ys:AA (κ×V)} {j:J},ys.map (·.1)=ks.map em->RepL K G (ys.map (·.2)) ds->iQ ks ds j=none->fZ ys (em j)=none
 |[],_,[],_,_,_,_=>rfl
 |[],_,_::_,_,e,_,_=>by cases e
 |_::_,_,[],_,e,_,_=>by cases e
 |k::ks,[],y::ys,_,_,r,_=>by cases r
 |k::ks,x::ds,y::ys,j,e,⟨z,zs,e1,r1,r2⟩,h=>by
  cases e1;have e2:=List.cons.inj e;unfold iQ at h
  by_cases q:k=j
  ·rw[if_pos q]at h;cases h
  ·rw[if_neg q]at h;rw[Vx λz=>q (inj _ _ (e2.1.symm.trans z)),zn3 inj e2.2 r2 h]
theorem Lk (inj:∀a b,em a=em b->a=b){ks:AA J}{ys:AA (κ×V)}{j:J}{d:D}(e:ys.map (·.1)=ks.map em)(r:RepL K G (ys.map (·.2)) ds)(rv:RepD K G v d):
  (fU ys (em j) v).map (·.1)=(jV ks ds j d).1.map em/\RepL K G ((fU ys (em j) v).map (·.2)) (jV ks ds j d).2:=by
 have any:(ys.any λkv=>decide (kv.1=em j))=ks.contains j:=by
  clear r
  induction ys generalizing ks with
  |nil=>cases ks with
   |nil=>rfl
   |cons _ _=>cases e
  |cons y ys ih=>cases ks with
   |nil=>cases e
   |cons k ks=>
    have e2:=List.cons.inj e;rw[Nu,ih e2.2,qcu];congr 1
    by_cases q:j=k
    ·subst q;simp[e2.1]
    ·rw[mG (λz=>q (inj _ _ (e2.1.symm.trans z)).symm)];simp[q]
 unfold fU jV;rw[any]
 by_cases q:ks.contains j=true
 ·rw[if_pos q,if_pos q]
  constructor
  ·rw[fA,<-e];apply mD;intro a _;simp only[Function.comp]
   split<;>rfl
  ·clear any q;rw[fA]
   induction ys generalizing ks ds with
   |nil=>cases ks with
    |nil=>exact RepL.nil
    |cons _ _=>cases e
   |cons y ys ih=>cases ks with
    |nil=>cases e
    |cons k ks=>
     have e2:=List.cons.inj e;cases ds with
     |nil=>cases r
     |cons x ds=>
      obtain⟨z,zs,e1,r1,r2⟩:=r;cases e1;refine RepL.cons ?_ (ih e2.2 r2);simp only[Function.comp]
      by_cases q:k=j
      ·rw[if_pos q,if_pos (by rw[<-q];exact e2.1)];exact rv
      ·rw[if_neg q,if_neg λz=>q (inj _ _ (e2.1.symm.trans z))];exact r1
 ·rw[if_neg q,if_neg q];rw[qb9,qb9,qb9,e];exact⟨rfl,r.append (.cons rv .nil)⟩
end
theorem Hz (a b:Int)(h:kI a=kI b):a=b:=by cases h;rfl
theorem Wa (a b:AA Int)(h:a.map kI=b.map kI):a=b:=by
 induction a generalizing b with
 |nil=>cases b with
  |nil=>rfl
  |cons _ _=>cases h
 |cons x a ih=>cases b with
  |nil=>cases h
  |cons y b=>
   have:=List.cons.inj h;rw[Hz _ _ this.1,ih b this.2]
noncomputable def Sl.dic:Sl->AB (AA Int×AA D)
 | .tre (.dic ks ds)=>some (ks,ds)
 | .val (.dic ks ds)=>some (ks,ds)
 |_=>none
noncomputable def tDI (j:Nat)(neg:Bool)(mk:ME):MT:=λρ=>(mk ρ).bind λp=>match p.1 with
 | .int k=>(p.2[j]?.bind Sl.dic).map λq=>(((iQ q.1 q.2 k).isSome !=neg),p.2)
 |_=>none
noncomputable def fzD (j:Nat)(ρ:R):R:=match ρ[j]? with
 |some (.tre (.dic ks ds))=>ρ.set j (.val (.dic ks ds))
 |_=>ρ
noncomputable def Bn (F:AA D->AA D->AB (Sl×AA D))(mo:MO)(ma:MA):ME:=λρ=>(mo ρ).bind λp=>(ma p.2).bind λq=>(F p.1 q.1).bind λr=>match r.1 with
 | .val d=>some (d,q.2)
 | .own ds=>some (.lst ds,q.2)
 |_=>none
end M
namespace HT
open L2 PyProof.Rows PySem PySem.Spec
section
variable {prog:AJ}{w:World}{A:Around}{E:AC->AE->Prop}{I:AD}{fp wr:AA AD}{n:Nat}{St:Nat->AK->Prop}
theorem zlh {its:AA AC}(W:Walks prog w A I fp wr n (λi v=>its[i]? =some v) St):∀(m i:Nat) (s:AE) (Q:AA AC->AE->Prop),i+m<=n->St i s.heap->
  (∀h' tk,St (i+m) h'->(∀b o,b∉wr->s.heap.get? b=some o->h'.get? b=some o)->Q ((its.drop i).take m) {s with heap:=h',toks:=tk})->AG (model prog w) A (draw (.ref I) m) Q E s
 |0,i,s,Q,_,st,hq=>qaB (by simpa using hq s.heap s.toks st λ_ _ _ e=>e)
 |m+1,i,s,Q,hi,st,hq=>by
  show AG _ _ (pyNext (.ref I)>>=_) Q E s;refine aJ (W.item i s _ _ (by lia) st λv h1 tk1 hv st1 k1=>?_);refine aJ (jS (zlh W m (i+1) _ _ (by lia) st1 λh2 tk2 st2 k2=>qaB ?_));have:=hq h2 tk2 (by rw[show i+(m+1)=i+1+m by lia];exact st2) λb o nb e=>k2 b o nb (k1 b o nb e)
  obtain⟨hl,ev⟩:=qap.mp hv;rw[Xj hl,List.take_succ_cons,ev]at this;exact this
end
end HT
namespace L2
open PyProof.Rows PySem PySem.Spec
variable {X:Cx}{pos:Pos}
noncomputable def Qy (K:AF)(n:Nat)(t:nE):TG:=λv σ H Q=>∃a xs,v= .ref a/\SqL K H a xs/\xs.length=n/\t xs σ H Q
theorem Aw {es:AA AI}{k:Nat}{t:nE}{n:Nat}(hc:X.calm=true)(h:Bq X es t)(hn:autoParam ((assignEach es X.env).length=n) zu2._auto_1)(hst:autoParam ((assignEach es X.env).findIdx? (·.1)=none) zu2._auto_1):PG X (.Tuple es k pos) (Qy X.K n t):=by
 intro AM s σ H v u Q I r hw;obtain⟨a,xs,e1,hq,hl,hw⟩:=hw;subst e1;cases r;obtain⟨its0,rv0,pl,hz⟩:=I.list hq;rw[assign_Tuple];refine aJ (Za ?_);unfold unpack;rw[hst,hn];refine aJ (jS ?_);unfold unpackItems;refine aJ ?_;unfold notIterableAtAll;refine aJ (wpAny_specialOf pl.isList.typeIs PySem.F.slot_list_iter.lookup ?_);refine qaB ?_;simp only[Fo,kU];refine aJ (jS (M.Yh (A:=X.A) (I.ok.hd hc) I (.inl hq) λits s₂ St rv W st hfp fin=>?_));have ln:its.length=n:=by rw[<-rv.length,hl]
 refine aJ (jS (HT.zlh W n 0 s₂ _ (by lia) st λh1 tk1 st1 k1=>?_));have hall:List.take n (List.drop 0 its)=its:=by rw[List.drop_zero];exact uE (by lia)
 rw[hall,if_neg (by lia)];refine aJ (jS (W.done _ _ _ (by rw[ln,<-uD n];exact st1) λh2 tk2 k2=>?_));simp only[Option.isSome_none,Fo,kU];refine qaB ?_;exact h AM _ σ H xs _ Q (fin h2 tk2 λb o nb e=>k2 b o nb (k1 b o nb e)) rv hw
end L2
namespace M
open L2 PySem PySem.Spec
open PyProof.Rows hiding St
noncomputable def Ch.sl:Ch->Sl
 | .d x=> .val x
 | .l ds=> .own ds
 | .t xss=> .tre (.lst (xss.map .l))
theorem sM {K:AF}{G H:Hp}:∀{xs:AA V} {dss:AA (AA D)} {A:AA AD},RepTb K G H xs dss A->RepCs K G H xs (dss.map .l) A
 |[],[],_,h=>h
 |x::xs,ds::dss,_,⟨r,ys,A2,e1,e2,e3,e4,e5⟩=>⟨[r],A2,⟨r,ys,e1,e2,e3,rfl⟩,sM e4,e5⟩
 |[],_::_,_,h=>h.elim
 |_::_,[],_,h=>h.elim
theorem Dl {K:AF}{G H:Hp}:∀{xs:AA V} {dss:AA (AA D)} {A:AA AD},RepCs K G H xs (dss.map .l) A->RepTb K G H xs dss A
 |[],[],_,h=>h
 |x::xs,ds::dss,_,⟨A1,A2,⟨r,ys,e1,e2,e3,e6⟩,e4,e5⟩=>⟨r,ys,A2,e1,e2,e3,Dl e4,by rw[e5,e6];rfl⟩
 |[],_::_,_,h=>h.elim
 |_::_,[],_,h=>h.elim
noncomputable def Tj:AA Nat->AA Ch->R->R
 |i::is,c::cs,ρ=>Tj is cs (ρ.set i c.sl)
 |_,_,ρ=>ρ
noncomputable def zO (j:Nat)(is:AA Nat):MS:=λρ=>match ρ[j]? with
 |some (.tre (.lst cs))=>if cs.length=is.length then some (.next,Tj is cs (ρ.set j .emp))else none
 |_=>none
section
variable {K:AF}{B:Bs}{G H:Hp}
noncomputable def Yr:AA Nat->nE
 |[]=>Qw
 |i::is=>Dq (pW i) (Yr is)
theorem qO:∀{is:AA Nat} {cs:AA Ch} {xs:AA V} {A:AA AD} {σ:St} {ρ:R} {Q:St->Hp->Prop},SI K B G H σ ρ->RepCs K G H xs cs A->A.Nodup->(∀a∈A,G a=none/\B.H a=none/\Nw K G H σ ρ a)->cs.length=is.length->(∀σ',SI K B G H σ' (Tj is cs ρ)->Q σ' H)->Yr is xs σ H Q
 |[],[],[],_,σ,ρ,Q,I,_,_,_,_,k=>⟨rfl,k σ I⟩
 |[],_::_,_,_,_,_,_,_,_,_,_,h,_=>by cases h
 |_::_,[],_,_,_,_,_,_,_,_,_,h,_=>by cases h
 |[],[],_::_,_,_,_,_,_,r,_,_,_,_=>r.elim
 |i::is,c::cs,[],_,_,_,_,_,r,_,_,_,_=>r.elim
 |i::is,c::cs,x::xs,A,σ,ρ,Q,I,⟨A1,A2,r1,r2,e⟩,nd,hA,hl,k=>by
  subst e;refine⟨x,xs,rfl,?_⟩;have nd2:=(qcx.mp nd);have fin:∀s,SI K B G H (σ.set i (some x)) (ρ.set i s)->s=c.sl->(∀a∈A2,¬fD K G H (some (some x)) a s)->Yr is xs (σ.set i (some x)) H Q:=λs I' es no=>by
   subst es;refine qO I' r2 nd2.2.1 (λa m=>?_) (by simpa using hl) k;have h:=hA a (eX _ m);refine⟨h.1,h.2.1,λj t et w=>?_⟩
   by_cases z:j=i
   ·subst z;rw[iG,if_pos rfl]at et w
    split at et
    ·cases et
     split at w
     ·exact no a m w
     ·rename_i q1 q2;exact q2 (by rw[I.len];exact q1)
    ·exact aK et
   ·rw[iF (Ne.symm z)]at et w;exact h.2.2 j t et w
  cases c with
  |d y=>exact fin _ (I.set r1.1) rfl λa _ w=>w
  |l ds=>
   obtain⟨l,ys,rfl,h1,h2,rfl⟩:=r1;have h:=hA l (kZ _ (by simp));refine fin _ (I.setO h.1 h1 h2 h.2.1 h.2.2) rfl λa m w=>?_
   cases(show some (some (V.ref l))=some (some (.ref a))from w);exact nd2.2.2 l (by simp) l m rfl
  |t xss=>
   obtain⟨p,ys,A',rfl,h1,h2,rfl⟩:=r1;have rt:RepT K G H (.ref p) (.lst (xss.map .l)) (p::A'):=⟨p,ys,A',rfl,h1,sM h2,rfl⟩;refine fin _ (I.setT rt nd2.1 λa m=>hA a (kZ _ m)) rfl λa m w=>?_
   obtain⟨v2,A3,w1,w2,w3⟩:=w;cases w1;rw[w2.det rt λ_ _=>rfl]at w3;exact nd2.2.2 a w3 a m rfl
end
section
variable {X:Cx}{pos:Pos}
noncomputable def zo5 (X:Cx):AA Nat->AA AI->Prop
 |[],[]=>True
 |i::is,.Name x _::es=>X.N[i]? =some x/\iO X.env.scope x/\(X.fn x=true\/X.env.scope.names.lookup x=some .local)/\zo5 X is es
 |_,_=>False
theorem zls (hN:X.N.Nodup):∀{is:AA Nat} {es:AA AI},zo5 X is es->Bq X es (Yr is)
 |[],[],_=>zoD
 |i::is,.Name x p::es,⟨h1,h2,h3,h4⟩=>zmB (zmi hN h1 h2 h3) (zls hN h4)
theorem Dw (j:Nat)(is:AA Nat){x:Str}{es:AA AI}{k:Nat}{p' tp:Pos}(hc:X.calm=true)(hN:X.N.Nodup)(hn:zo5 X is es)(hi:autoParam (X.N[j]? =some x) zu2._auto_1)(hv:autoParam (dG X.env.scope x) zu6._auto_1)(hd:autoParam ((x==("__debug__":Str))=false) zu1._auto_1)(hcd:autoParam ((x==("__classdict__":Str))=false) zu1._auto_1)(hl:autoParam ((assignEach es X.env).length=is.length) zu2._auto_1)(hst:autoParam ((assignEach es X.env).findIdx? (·.1)=none) zu2._auto_1)(hs:autoParam (swapsWithSole [.Tuple es k tp] (.Name x p') pos.line X.env=pure false) zu2._auto_1)(hw:autoParam (swappedStores [.Tuple es k tp] (.Name x p') X.env=pure none) zu2._auto_1)(h1:autoParam ((assignEach [.Tuple es k tp] X.env).map (·.2)=[assign (.Tuple es k tp) X.env]) zu2._auto_1):SS X (.Assign [.Tuple es k tp] (.Name x p') pos) (zO j is):=by
 refine⟨_,Vp (eE hi hv hd hcd) (Aw hc (zls hN hn) hl hst) hs hw h1,λB G H σ ρ fl ρ' E I hm k=>?_⟩;unfold zO at hm
 split at hm
 ·rename_i cs e;refine bC hm λAO hm=>?_
  ·skip
   obtain⟨rfl,rfl⟩:=bM hm;obtain⟨v,A,k1,k2,k3,k4⟩:=I.slot j _ e;have k2':=k2;obtain⟨p,xs,A',rfl,h2,h3,rfl⟩:=k2;have ln:∀{xs:AA V} {cs:AA Ch} {A:AA AD},RepCs X.K G H xs cs A->xs.length=cs.length:=by
    intro xs
    induction xs with
    |nil=>intro cs A r;cases cs with
     |nil=>rfl
     |cons _ _=>exact r.elim
    |cons x xs ih=>intro cs A r;cases cs with
     |nil=>exact r.elim
     |cons c cs=>obtain⟨_,_,_,r2,_⟩:=r;rw[eW,eW,ih r2]
   refine⟨.ref p,k1,p,xs,rfl,SqL.of h2,by rw[ln h3,AO],?_⟩;refine qO (I.emp j) h3 (qaO.mp k3).2 (λa m=>⟨(k4 a (by simp[m])).1,(k4 a (by simp[m])).2,λi s es w=>?_⟩) AO λσ' I'=>k G H σ' I' (Fz.refl G)
   by_cases z:i=j
   ·subst z;rw[iG,if_pos rfl]at es
    split at es
    ·cases es;exact w
    ·exact aK es
   ·rw[iF (Ne.symm z)]at es;exact I.dis i j s _ a z es e w ⟨.ref p,_,k1,k2',by simp[m]⟩
 ·exact aK hm
end
end M
namespace M
open L2 PySem PySem.Spec
open PyProof.Rows hiding St
variable {H:Hp}{A:AA AD}{b l f:AD}{K:AF}{N:AA Str}{xs vs ys:AA V}{cs ds:AA D}{x:Str}{fd:FuncData}{n:Nat}{es:AA AI}{C:Prop}
open Classical in
noncomputable def hJ (H:Hp)(A:AA AD):Hp:=λb=>if b∈A then none else H b
theorem zkB (h:b∈A):hJ H A b=none:=by unfold hJ;rw[if_pos h]
theorem Jz (h:b∉A):hJ H A b=H b:=by unfold hJ;rw[if_neg h]
theorem zii (h:hJ H A b=none):H b=none\/b∈A:=by
 by_cases m:b∈A
 ·exact .inr m
 ·rw[Jz m]at h;exact .inl h
theorem znO {o:HO}(h:hJ H A b=some o):H b=some o/\b∉A:=by
 by_cases m:b∈A
 ·rw[zkB m]at h;exact aK h
 ·rw[Jz m]at h;exact⟨h,m⟩
noncomputable def lP (K:AF)(n:Nat)(F:AA D->T->AA D->AB (Sl×AA D)):Sp:=λvs H Q _=>∃G l xs cs v2 t A ws ds r out,vs= .ref l::v2::ws/\F cs t ds=some (r,out)/\ds.length+2=n/\Fz G H/\G l=none/\H l=some (.lst xs)/\RepL K G xs cs/\RepT K G H v2 t A/\A.Nodup/\l∉A/\(∀a∈A,G a=none)/\RepL K G ws ds/\
 ∀G' H' v ys,Fz G G'->Fz G' H'->(∀b o,G' b=some o->G b≠none\/hJ H A b=none)->(∀b o,b≠l->hJ H A b=some o->H' b=some o)->G' l=none->H' l=some (.lst ys)->RepL K G' ys out->jY K G' H' (hJ H A) v r->Q v H'
noncomputable def Ym (N:Nat)(m:MS):AA D->T->AA D->AB (Sl×AA D):=λcs t ds=>(m (.par cs:: .tre t::(ds.map .val++List.replicate (N-(ds.length+2)) .emp))).bind λp=>match p.1,(p.2[0]?:AB Sl)with
 |Fl.ret r,some (Sl.par out)=>some (r,out)
 |Fl.next,some (Sl.par out)=>some (.val .non,out)
 |_,_=>none
theorem SI.startMT {G H:Hp}{v2:V}{t:T}(fz:Fz G H)(hg:G l=none)(hl:H l=some (.lst xs))(rc:RepL K G xs cs)(rt:RepT K G H v2 t A)(nd:A.Nodup)(nl:l∉A)(gA:∀a∈A,G a=none)(r:RepL K G vs ds)(h:ds.length+2<=N.length):
  SI K ⟨G,hJ H A,[(0,l)]⟩ G H (L2.start N (.ref l::v2::vs)) (.par cs:: .tre t::(ds.map .val++List.replicate (N.length-(ds.length+2)) .emp)) where
 fz:=fz
 g0:=Fz.refl G
 new:=λb o e=> .inl (by show G b≠none;rw[e];simp)
 keep:=λb o e _=>(znO e).1
 there:=λb e=>by
  show hJ H A b=none
  by_cases m:b∈A
  ·exact zkB m
  ·rw[Jz m];exact e
 ob:=λi b m=>by
  have:b=l:=((by simpa using m):i=0/\b=l).2;subst this;show hJ H A b≠none;rw[Jz nl,hl];simp
 len:=by
  have:=r.length;rw[ziT (by rw[eW,eW,r.length];lia),eW,eW,eB,cY,Tp];lia
 slot:=λi s e=>by
  match i with
  |0=>simp at e;subst e;exact⟨l,xs,rfl,hg,hl,rc,by simp⟩
  |1=>simp at e;subst e;exact⟨v2,A,rfl,rt,nd,λa m=>⟨gA a m,zkB m⟩⟩
  |i+2=>
   rw[zN,zN]at e
   by_cases hi:i<ds.length
   ·rw[iU (by simpa using hi),eG,cI hi]at e;cases e;obtain⟨x,h1,h2⟩:=r.get (cI hi);refine⟨x,?_,h2⟩;unfold L2.start;rw[jJ,jJ,Zx,Zx,zN,zN,iU (by rw[cY,r.length];exact hi),eG,h1]
    rfl
   ·rw[Ba (by simpa using hi),wY]at e
    split at e
    ·cases e;trivial
    ·exact aK e
 dis:=λi j s u a hij hi hj w1 w2=>by
  have z:∀(i:Nat) (s:Sl),(Sl.par cs::Sl.tre t::(ds.map .val++List.replicate (N.length-(ds.length+2)) .emp))[i]? =some s->fD K G H (L2.start N (.ref l::v2::vs))[i]? a s->(i=0/\a=l)\/(i=1/\a∈A):=λi s e q=>by
   match i with
   |0=>
    simp at e;subst e;refine .inl ⟨rfl,?_⟩;have q':=show(L2.start N (V.ref l::v2::vs))[0]? =some (some (.ref a))from q
    cases(show some (some (V.ref l))=some (some (.ref a))from q')
    rfl
   |1=>
    simp at e;subst e;obtain⟨v,A',q1,q2,q3⟩:=q;cases(show some (some v2)=some (some v)from q1);rw[<-rt.det q2 λ_ _=>rfl]at q3;exact .inr ⟨rfl,q3⟩
   |i+2=>
    exfalso;rw[zN,zN]at e
    by_cases hi:i<ds.length
    ·rw[iU (by simpa using hi),eG,cI hi]at e;cases e;exact q
    ·rw[Ba (by simpa using hi),wY]at e
     split at e
     ·cases e;exact q
     ·exact aK e
  rcases z i s hi w1 with⟨a1,a2⟩|⟨a1,a2⟩<;>rcases z j u hj w2 with⟨b1,b2⟩|⟨b1,b2⟩
  ·exact hij (a1.trans b1.symm)
  ·subst a2;exact nl b2
  ·subst b2;exact nl a2
  ·exact hij (a1.trans b1.symm)
section
variable {P:AJ}{w:World}{K:AF}{mg:Str->AB AC}{base:AK}
theorem Ax {x qual:Str}{st:Stmt}{N ps:AA Str}{k n:Nat}{m:MS}(F:Fun K x qual st f fd)(S:FnScope N ps (zaT st))(hn:ps.length=n)(hN:n<=N.length)(body:∀(cdv:AC) (A:Around) (outer:AA Env) (s:AE) (H:Hp) (E:XK),Room k (A.deeper (envOfC qual (zaT st) s.heap.objs.size f cdv))->SSs (gR jI P w K mg base N qual (zaT st) f cdv A outer s H E).nox (zcN st) m):
  FnOk P w K mg base jI (k+1) f fd ps (lP K n (Ym N.length m)):=by
 refine F.ok S (λvs H Q E h=>?_) (λcdv A outer s H vs Q E hr h=>?_)
 ·obtain⟨G,l,xs,cs,v2,t,A,ws,ds,r,out,rfl,_,h2,_,_,_,_,_,_,_,_,h4,_⟩:=h;rw[eW,eW,h4.length,<-hn]at*;lia
 ·obtain⟨G,l,xs,cs,v2,tt,At,ws,ds,r,out,rfl,e1,h2,fz,hg,hl,rc,rt,nd,nl,gA,h4,kk⟩:=h;obtain⟨t,pt,so⟩:=body cdv A outer s H E hr;refine⟨t,pt,?_⟩;refine bN e1 λfl ρ' e2 e3=>?_
  refine so ⟨G,hJ H At,[(0,l)]⟩ G H _ _ fl ρ' _ (SI.startMT fz hg hl rc rt nd nl gA h4 (by lia)) e2 ?_;have fin:∀G' H' σ' v,ρ'[0]? =some (.par out)->SI K ⟨G,hJ H At,[(0,l)]⟩ G' H' σ' ρ'->Fz G G'->jY K G' H' (hJ H At) v r->Q v H':=λG' H' σ' v e0 I f rr=>by
   obtain⟨l',ys,k1,k2,k3,k4,k5⟩:=I.slot 0 _ e0;have:l'=l:=by simpa using k5
   subst this;exact kk G' H' v ys f I.fz I.new (λb o hb e=>I.keep b o e (λi hm=>by simp at hm;exact hb hm.2)) k2 k3 k4 rr
  cases e0:ρ'[0]? with
  |none=>rw[e0]at e3;cases fl<;>exact aK e3
  |some s0=>
   rw[e0]at e3;cases s0 with
   |par o2=>
    cases fl with
    |next=>obtain⟨rfl,rfl⟩:=bM e3;exactλG' H' σ' I f=>fin G' H' σ' .non e0 I f rfl
    |brk=>exact aK e3
    |cont=>exact aK e3
    |ret r'=>
     cases e3;refineλG' H' σ' v I f rr=>fin G' H' σ' v e0 I f ?_
     cases r with
     |val d=>exact rr
     |own ds=>exact rr
     |_=>exact rr
   |_=>cases fl<;>exact aK e3
end
noncomputable abbrev kE:=R->AB (AA Ch×R)
noncomputable def Qc (X:Cx)(es:AA AI)(m:kE)(t:TA):Prop:=
 ∀B G H σ ρ cs ρ' (Q:AA V->Hp->Prop),SI X.K B G H σ ρ->m ρ=some (cs,ρ')->
  (∀G' H' vs A,SI X.K B G' H' σ ρ'->Fz G G'->RepCs X.K G' H' vs cs A->A.Nodup->(∀a∈A,G' a=none/\B.H a=none/\Nw X.K G' H' σ ρ' a)->Q vs H')->t σ H Q
noncomputable def SP' (X:Cx)(es:AA AI)(m:kE):Prop:=∃t,PA X es t/\Qc X es m t
theorem SP'.el {X:Cx}{m:kE}(h:SP' X es m)(k:∀t,PA X es t->Qc X es m t->C):C:=h.elim λt q=>k t q.1 q.2
noncomputable def Iw:kE:=λρ=>some ([],ρ)
noncomputable def Ah (i:Nat)(r:kE):kE:=λρ=>match ρ[i]? with
 |some (.own ds)=>(r (ρ.set i .emp)).map λq=>(.l ds::q.1,q.2)
 |_=>none
section
variable {X:Cx}{e:AI}{es:AA AI}{m:ME}{r:kE}
theorem Jc:SP' X [] Iw:=⟨_,iS,λB G H σ ρ cs ρ' Q I hm k=>by cases hm;exact k G H [] [] I (Fz.refl G) rfl (by simp) (λa m=>by cases m)⟩
theorem Kw (i:Nat){p':Pos}(hr:SP' X es r)(hN:autoParam (X.N[i]? =some x) zu2._auto_1)(hv:autoParam (dG X.env.scope x) zu6._auto_1)(hd:autoParam ((x==("__debug__":Str))=false) zu1._auto_1)(hcd:autoParam ((x==("__classdict__":Str))=false) zu1._auto_1)(hs:autoParam (starEach (.Name x p'::es) X.env=(false,eval (.Name x p') X.env)::starEach es X.env) zu2._auto_1):SP' X (.Name x p'::es) (Ah i r):=by
 refine hr.el λu q z=>?_
 refine⟨_,gK (eE hN hv hd hcd) q hs,λB G H σ ρ cs ρ' Q I hm k=>?_⟩;unfold Ah at hm
 split at hm
 ·rename_i ds e;refine gZ hm λcs1 ρ1 e1 e2=>?_
  cases e2;obtain⟨l,xs,h1,h2,h3,h4,h5⟩:=I.slot i _ e;have I1:=I.emp i;have n1:Nw X.K G H σ (ρ.set i .emp) l:=λj s ej w=>by
   by_cases y:j=i
   ·subst y;rw[iG,if_pos rfl]at ej
    split at ej
    ·cases ej;exact w
    ·exact aK ej
   ·rw[iF (Ne.symm y)]at ej;exact I.dis j i s _ l y ej e w h1
  refine⟨.ref l,h1,z (B.re X.K G H σ (ρ.set i .emp)) G H σ _ cs1 ρ1 _ I1.re e1 λG1 H1 vs A J f1 r1 nd hA=>?_⟩;obtain⟨m1,m2,m3⟩:=I1.re_stays J h3 n1 h2 h5;have hb:(B.re X.K G H σ (ρ.set i .emp)).H l=some (.lst xs):=zmr h3 n1;have nl:l∉A:=λm=>by rw[(hA l m).2.1]at hb;exact aK hb
  refine k G1 H1 (.ref l::vs) (l::A) (I1.unre J) f1 ⟨[l],A,⟨l,xs,rfl,m1,h4.mono f1,rfl⟩,r1,rfl⟩ (qaO.mpr ⟨nl,nd⟩) λa m=>?_
  rcases qam.mp m with rfl|m
  ·exact⟨m2,h5,m3⟩
  ·exact⟨(hA a m).1,Kc I1 (hA a m).2.1,(hA a m).2.2⟩
 ·exact aK hm
end
theorem SI.chgW2 {B:Bs}{G G' H H':Hp}{σ:St}{ρ:R}(I:SI K B G H σ ρ){i:Nat}{s:Sl}{ds es:AA D}(e:ρ[i]? =some s)(q:s.items=some ds)(hl:σ[i]? =some (some (.ref l)))(fz:Fz G' H')(fg:Fz G G')(nw:∀b o,G' b=some o->G b≠none\/hJ H A b=none)(kp:∀b o,b≠l->hJ H A b=some o->H' b=some o)(gl:G' l=none)(hl':H' l=some (.lst ys))(r:RepL K G' ys es)(hA:∀a∈A,B.H a=none/\Nw K G H σ ρ a):
  SI K B G' H' σ (ρ.set i (s.put es))/\∀p,hJ H A p=none->B.H p=none/\Nw K G' H' σ (ρ.set i (s.put es)) p:=by
 obtain⟨l',xs,e1,e2,e3,e4⟩:=I.wr e q;rw[hl]at e1;cases e1;have sl:=I.slot i s e;have ow:∀(j:Nat) (t:Sl) (a:AD),j≠i->ρ[j]? =some t->fD K G H σ[j]? a t->G a=none->H a≠none->G' a=none/\H' a=H a:=λj t a z ej w g ha=>by
  have na:a≠l:=λw'=>by subst w';exact I.dis j i t s a z ej e w ((hG q).mpr hl)
  have nA:a∉A:=λm=>(hA a m).2 j t ej w
  obtain⟨u,hu⟩:=qbx.mp ha;refine⟨?_,(kp a u na (by rw[Jz nA];exact hu)).trans hu.symm⟩;cases q2:G' a with
  |none=>rfl
  |some u=>
   rcases nw a u q2 with z|z
   ·exact AH g z
   ·rw[Jz nA]at z;exact AH z ha
 have bn:∀b,hJ H A b=none->B.H b=none:=λb h=>by
  rcases zii h with z|z
  ·exact I.there b z
  ·exact(hA b z).1
 refine⟨?_,λp hp=>⟨bn p hp,λj t ej w=>?_⟩⟩
 ·have nb:∀b o,B.H b=some o->(∀i,(i,b)∉B.O)->b≠l:=λb o h1 h2 z=>by
   subst z;rcases(sl.own ((hG q).mpr hl)).2.2 with z|z
   ·rw[h1]at z;cases z
   ·exact h2 i z
  have h:=I.chg (i:=i) (ov:=some (.ref l)) (s':=s.put es) (G':=G') (H':=H') fz fg (λb o k=>?_) (λb o k1 k2=>kp b o (nb b o k1 k2) (by rw[Jz λm=>by rw[(hA b m).1]at k1;cases k1];exact I.keep b o k1 k2)) (λb k=>?_) (λj t a z ej w g ha=>⟨(ow j t a z ej w g ha).1,(ow j t a z ej w g ha).2,λz'=>?_⟩) ?_
  ·rwa[vV hl]at h
  ·rcases nw b o k with h|h
   ·cases q2:G b with
    |none=>exact AH q2 h
    |some u=>exact I.new b u q2
   ·exact .inr (bn b h)
  ·by_cases z:b=l
   ·subst z;rw[hl']at k;cases k
   ·refine bn b ?_;cases q2:hJ H A b with
    |none=>rfl
    |some u=>rw[kp b u z q2]at k;cases k
  ·cases(hG (Mq q es)).mp z';exact I.dis j i t s l z ej e w ((hG q).mpr hl)
  ·cases s with
   |own es'=>obtain⟨l',xs',k1,k2,k3,k4,k5⟩:=sl;rw[hl]at k1;cases k1;exact⟨_,ys,rfl,gl,hl',r,k5⟩
   |par es'=>obtain⟨l',xs',k1,k2,k3,k4,k5⟩:=sl;rw[hl]at k1;cases k1;exact⟨_,ys,rfl,gl,hl',r,k5⟩
   |_=>cases q
 ·by_cases z:j=i
  ·subst z;rw[iG,if_pos rfl]at ej
   split at ej
   ·cases ej;have h1:=(hG (Mq q es)).mp w;rw[hl]at h1;have:l=p:=V.ref.inj (Option.some.inj (Option.some.inj h1));subst this;rcases zii hp with z|z
    ·rw[e3]at z;cases z
    ·exact(hA l z).2 j s e ((hG q).mpr hl)
   ·cases ej
  ·rw[iF (Ne.symm z)]at ej;have sj:=I.slot j t ej;have w0:=sj.back (λa w g h=>ow j t a z ej w g h) w;rcases zii hp with y|y
   ·exact(sj.own w0).2.1 y
   ·exact(hA p y).2 j t ej w0
noncomputable def Vs (F:AA D->T->AA D->AB (Sl×AA D))(j:Nat)(mp:kE)(ma:MA):ME:=λρ=>if(ρ[j]?.bind Sl.items).isSome then(mp ρ).bind λc=>if c.1.length<=16777216 then(ma c.2).bind λp=>p.2[j]?.bind λs=>s.items.bind λcs=>(F cs (.lst c.1) p.1).bind λr=>match r.1 with
 | .val d=>some (d,p.2.set j (s.put r.2))
 | .own ds=>some (.lst ds,p.2.set j (s.put r.2))
 |_=>none else none else none
section
variable {X:Cx}{x y:Str}{p py pl pos:Pos}{es es':AA AI}{mp:kE}{ma:MA}{k k' n:Nat}{F:AA D->T->AA D->AB (Sl×AA D)}
theorem zop (j:Nat)(fd:FD X.prog X.w X.K X.mg X.base k x (lP X.K n F))(hr:Room k' X.A)(hp:SP' X es mp)(ha:SA X es' ma)(AO:∀ρ as ρ',ma ρ=some (as,ρ')->as.length+2=n)(hN:autoParam (X.N[j]? =some y) zu2._auto_1)(hv:autoParam (dG X.env.scope y) zu6._auto_1)(hd:autoParam ((y==("__debug__":Str))=false) zu1._auto_1)(hcd:autoParam ((y==("__classdict__":Str))=false) zu1._auto_1)(hk:autoParam (k<=k') zu1._auto_1)(hg:autoParam (Gl X x) zu2._auto_1)(hdb:autoParam ((x==("__debug__":Str))=false) zu1._auto_1)(he:autoParam (starEach (.Name y py:: .List es pl::es') X.env=(false,eval (.Name y py) X.env)::starEach (.List es pl::es') X.env) zu2._auto_1)(he2:autoParam (starEach (.List es pl::es') X.env=(false,eval (.List es pl) X.env)::starEach es' X.env) zu2._auto_1)(hpl:autoParam ((backTo pos (starEach (.List es pl::es') X.env)).any (·.1)=false) zu2._auto_1):SE X (.Call (.Name x p) (.Name y py:: .List es pl::es') [] pos) (Vs F j mp ma):=by
 obtain⟨f,fdd,ps,G0,h1,h2,h3⟩:=fd.ex;refine ha.el λt pa sa=>?_
 refine hp.el λtp pp sp=>?_
 refine⟨_,Ve G0 (hr.mono hk) hg h1 h2 h3 .nil Oe (gK (eE hN hv hd hcd) (gK (zo6 pp) pa he2) he) hdb he hpl,λB G H σ ρ d ρ' Q I hm kk=>?_⟩;unfold Vs at hm;refine bC hm λhso hm=>?_
 ·skip
  obtain⟨ds0,hso⟩:=qaP.mp hso;refine aM hso λs0 k0 q0=>?_
  obtain⟨l,xs0,w1,w2,w3,w4⟩:=I.wr k0 q0;refine bN hm λcs1 ρ1 e1 hm=>?_
  refine bC hm λhsz hm=>?_
  ·skip
   refine bN hm λas ρ2 e2 hm=>?_
   refine aM hm λs e3 hm=>?_
   refine aM hm λcs e4 hm=>?_
   refine bN hm λr out e5 hm=>?_
   refine⟨.ref l,w1,sp B G H σ ρ cs1 ρ1 _ I e1 λG1 H1 vs A I1 f1 r1 nd hA=>?_⟩;have ln:∀{xs:AA V} {cs:AA Ch} {A:AA AD},RepCs X.K G1 H1 xs cs A->xs.length=cs.length:=by
    intro xs
    induction xs with
    |nil=>intro cs A r;cases cs with
     |nil=>rfl
     |cons _ _=>exact r.elim
    |cons x xs ih=>intro cs A r;cases cs with
     |nil=>exact r.elim
     |cons c cs=>obtain⟨_,_,_,r2,_⟩:=r;rw[eW,eW,ih r2]
   refine⟨by rw[ln r1,gF];exact hsz,λq hq=>?_⟩;have I2:=I1.allocO hq (.lst vs);have mv:∀(i:Nat) (s:Sl) (a:AD),ρ1[i]? =some s->fD X.K G1 H1 σ[i]? a s->G1 a=none->H1 a≠none->G1 a=none/\upd H1 q (.lst vs) a=H1 a:=λi s a _ _ g h=>⟨g,bF λz=>h (by rw[z];exact hq)⟩
   have hA2:∀a∈q::A,G1 a=none/\B.H a=none/\Nw X.K G1 (upd H1 q (.lst vs)) σ ρ1 a/\∃o,upd H1 q (.lst vs) a=some o:=λa m=>by
    rcases qam.mp m with rfl|m
    ·exact⟨I1.fz.free hq,I1.there a hq,I1.nw_move (I1.nw hq) mv,_,dU⟩
    ·obtain⟨ys,z⟩:=r1.here m;exact⟨(hA a m).1,(hA a m).2.1,I1.nw_move (hA a m).2.2 mv,_,by rw[bF λy=>by rw[y,hq]at z;cases z];exact z⟩
   have nq:q∉A:=λm=>by obtain⟨ys,z⟩:=r1.here m;rw[hq]at z;exact aK z
   have rt:RepT X.K G1 (upd H1 q (.lst vs)) (.ref q) (.lst cs1) (q::A):=⟨q,vs,A,rfl,dU,r1.move (Fz.refl G1) λa m=>bF λz=>nq (by rw[<-z];exact m),rfl⟩;refine sa (B.re X.K G1 (upd H1 q (.lst vs)) σ ρ1) G1 _ σ ρ1 as ρ2 _ I2.re e2 λG2 H2 ws J f2 r2=>?_
   have I3:=I2.unre J;have st:∀a∈q::A,H2 a=upd H1 q (.lst vs) a/\G2 a=none/\Nw X.K G2 H2 σ ρ2 a:=λa m=>by
    obtain⟨a1,a2,a3,o,a4⟩:=hA2 a m;obtain⟨b1,b2,b3⟩:=I2.re_stays J a4 a3 a1 a2;exact⟨b1.trans a4.symm,b2,b3⟩
   obtain⟨l',xs,m1,m2,m3,m4⟩:=I3.wr e3 e4;rw[w1]at m1;cases m1;show lP X.K n F ((.ref l:: .ref q::ws)++[]) H2 Q E0;rw[lW];have nl:l∉q::A:=λm=>(st l m).2.2 j s e3 ((hG e4).mpr w1)
   refine⟨G2,l,xs,cs,.ref q,.lst cs1,q::A,ws,as,r,out,rfl,e5,AO ρ1 as ρ2 e2,I3.fz,m2,m3,m4,rt.move f2 λa m=>(st a m).1,qaO.mpr ⟨nq,nd⟩,nl,λa m=>(st a m).2.1,r2,λG3 H3 v ys f3 fz3 nw kp gl hl r3 rr=>?_⟩;obtain⟨I4,fr⟩:=I3.chgW2 e3 e4 w1 fz3 f3 nw kp gl hl r3 λa m=>⟨(hA2 a m).2.1,(st a m).2.2⟩
   cases r with
   |val d'=>obtain⟨rfl,rfl⟩:=bM hm;exact kk G3 H3 v I4 (f1.trans (f2.trans f3)) rr
   |own ds=>
    obtain⟨rfl,rfl⟩:=bM hm;obtain⟨l',xs',rfl,g4,h4,r4,b4⟩:=rr;obtain⟨I5,f4,r5⟩:=Me I4 g4 h4 r4 (fr l' b4).1 (fr l' b4).2;exact kk _ H3 _ I5 (f1.trans (f2.trans (f3.trans f4))) r5
   |emp=>exact aK hm
   |two _ _=>exact aK hm
   |tre _=>exact aK hm
   |ptr _=>exact aK hm
   |par _=>exact aK hm
end
theorem Tu {ma:MA}(h:tP ma n):∀ρ as ρ',ma ρ=some (as,ρ')->as.length+2=n+2:=λρ as ρ' e=>by rw[h ρ as ρ' e]
end M
namespace M
open L2 PySem PySem.Spec
open PyProof.Rows hiding St
noncomputable def Ch.D:Ch->M.D
 | .d x=>x
 | .l ds=> .lst ds
 | .t xss=> .lst (xss.map .lst)
section
variable {K:AF}{B:Bs}{G G' H H':Hp}{σ:St}{ρ:R}
theorem lV:∀{xs:AA V} {cs:AA Ch} {A:AA AD},RepCs K G H xs cs A->xs.length=cs.length
 |[],[],_,_=>rfl
 |_::_,_::_,_,⟨_,_,_,r,_⟩=>by rw[eW,eW,lV r]
 |[],_::_,_,h=>h.elim
 |_::_,[],_,h=>h.elim
theorem zjT:∀{xs:AA V} {cs:AA Ch} {A:AA AD} {x:V} {c:Ch} {A':AA AD},RepCs K G H xs cs A->RepC K G H x c A'->RepCs K G H (xs++[x]) (cs++[c]) (A++A')
 |[],[],_,x,c,A',h,r=>by rw[show _=[]from h];exact⟨A',[],r,rfl,by simp⟩
 |y::xs,d::cs,_,x,c,A',⟨A1,A2,r1,r2,e⟩,r=>⟨A1,A2++A',r1,zjT r2 r,by rw[e,qK]⟩
 |[],_::_,_,_,_,_,h,_=>h.elim
 |_::_,[],_,_,_,_,h,_=>h.elim
theorem uB:∀{xs:AA V} {cs:AA Ch} {A:AA AD} {n:Nat} {c:Ch},RepCs K G H xs cs A->cs[n]? =some c->∃x A1,xs[n]? =some x/\RepC K G H x c A1/\∀a∈A1,a∈A
 |[],[],_,_,_,_,h=>by simp at h
 |x::xs,d::cs,_,0,c,⟨A1,A2,r1,r2,e⟩,h=>by simp at h;subst h;exact⟨x,A1,rfl,r1,λa m=>by rw[e];exact kZ _ m⟩
 |x::xs,d::cs,_,n+1,c,⟨A1,A2,r1,r2,e⟩,h=>by
  obtain⟨y,B1,h1,h2,h3⟩:=uB (n:=n) r2 (by simpa using h);exact⟨y,B1,by simpa using h1,h2,λa m=>by rw[e];exact eX _ (h3 a m)⟩
 |[],_::_,_,_,_,h,_=>h.elim
 |_::_,[],_,_,_,h,_=>h.elim
theorem Mx:∀{xs:AA V} {cs:AA Ch} {A:AA AD} {n:Nat} {ds es:AA D} {l:AD} {ys:AA V},RepCs K G H xs cs A->A.Nodup->cs[n]? =some (.l ds)->xs[n]? =some (.ref l)->RepL K G ys es->RepCs K G (upd H l (.lst ys)) xs (cs.set n (.l es)) A
 |[],[],_,_,_,_,_,_,_,_,h,_,_=>by simp at h
 |x::xs,d::cs,A,0,ds,es,l,ys,⟨A1,A2,r1,r2,e⟩,nd,h,hx,r=>by
  simp at h hx;subst h hx;obtain⟨l',zs,e1,e2,e3,rfl⟩:=r1;cases e1;rw[e]at nd;refine⟨[l],A2,⟨l,ys,rfl,dU,r,rfl⟩,r2.move (Fz.refl G) λa m=>bF λz=>?_,e⟩;subst z;exact(qcx.mp nd).2.2 a (by simp) a m rfl
 |x::xs,d::cs,A,n+1,ds,es,l,ys,⟨A1,A2,r1,r2,e⟩,nd,h,hx,r=>by
  rw[e]at nd;have nd':=qcx.mp nd;have h':cs[n]? =some (.l ds):=by simpa using h
  have hx':xs[n]? =some (.ref l):=by simpa using hx
  obtain⟨y,B1,h1,⟨l',zs,e1,e2,e3,e4⟩,h3⟩:=uB r2 h';rw[hx']at h1;cases h1;cases e1;have lA:l∈A2:=h3 l (by rw[e4];simp);exact⟨A1,A2,r1.move (Fz.refl G) λa m=>bF λz=>by subst z;exact nd'.2.2 a m a lA rfl,Mx r2 nd'.2.1 h' hx' r,e⟩
 |[],_::_,_,_,_,_,_,_,h,_,_,_,_=>h.elim
 |_::_,[],_,_,_,_,_,_,h,_,_,_,_=>h.elim
theorem zm7 {Gz:Hp}(fg:Fz G Gz):∀{xs:AA V} {dss:AA (AA D)} {A:AA AD},RepTb K G H xs dss A->(∀a∈A,Gz a=H a)->RepL K Gz xs (dss.map .lst)
 |[],[],_,_,_=>rfl
 |x::xs,ds::dss,_,⟨r,ys,A2,e1,e2,e3,e4,e5⟩,h=>⟨x,xs,rfl,⟨r,ys,e1,by rw[h r (by rw[e5];simp)];exact e2,e3.mono fg⟩,zm7 fg e4 λa m=>h a (by rw[e5];simp[m])⟩
 |[],_::_,_,h,_=>h.elim
 |_::_,[],_,h,_=>h.elim
theorem Nz {Gz:Hp}(fg:Fz G Gz):∀{xs:AA V} {cs:AA Ch} {A:AA AD},RepCs K G H xs cs A->(∀a∈A,Gz a=H a)->RepL K Gz xs (cs.map Ch.D)
 |[],[],_,_,_=>rfl
 |x::xs,.d y::cs,_,⟨A1,A2,r1,r2,e⟩,h=>⟨x,xs,rfl,r1.1.mono fg,Nz fg r2 λa m=>h a (by rw[e];exact eX _ m)⟩
 |x::xs,.l ds::cs,_,⟨A1,A2,⟨l,ys,e1,e2,e3,e4⟩,r2,e⟩,h=>⟨x,xs,rfl,⟨l,ys,e1,by rw[h l (by rw[e,e4];simp)];exact e2,e3.mono fg⟩,Nz fg r2 λa m=>h a (by rw[e];exact eX _ m)⟩
 |x::xs,.t xss::cs,_,⟨A1,A2,⟨p,ys,A3,e1,e2,e3,e4⟩,r2,e⟩,h=>⟨x,xs,rfl,⟨p,ys,e1,by rw[h p (by rw[e,e4];simp)];exact e2,zm7 fg e3 λa m=>h a (by rw[e,e4];simp[m])⟩,Nz fg r2 λa m=>h a (by rw[e];exact eX _ m)⟩
 |[],_::_,_,h,_=>h.elim
 |_::_,[],_,h,_=>h.elim
theorem SI.chT2 (I:SI K B G H σ ρ){i:Nat}{t t':T}{v:V}{A A':AA AD}(e:ρ[i]? =some (.tre t))(hv:σ[i]? =some (some v))(r:RepT K G H v t A)(fz:Fz G H')(kp:∀b o,b∉A->H b=some o->H' b=some o)(th:∀b,H' b=none->H b=none)(r':RepT K G H' v t' A')(nd:A'.Nodup)(sub:∀a∈A',a∈A\/(G a=none/\B.H a=none/\Nw K G H σ ρ a)):SI K B G H' σ (ρ.set i (.tre t')):=by
 obtain⟨v1,A1,h1,h2,h3,h4⟩:=I.slot i _ e;rw[hv]at h1;cases h1;have:A1=A:=h2.det r λ_ _=>rfl
 subst this;have h:=I.chg (i:=i) (ov:=some v) (s':= .tre t') (G':=G) (H':=H') fz (Fz.refl G) I.new (λb o k1 k2=>kp b o (λm=>by rw[(h4 b m).2]at k1;cases k1) (I.keep b o k1 k2)) (λb k=>I.there b (th b k)) (λj u a z ej w g ha=>?_) ⟨v,A',rfl,r',nd,λa m=>?_⟩
 ·rwa[vV hv]at h
 ·have na:a∉A1:=λm=>I.dis j i u _ a z ej e w ⟨v,A1,hv,h2,m⟩
  obtain⟨x,hx⟩:=qbx.mp ha;refine⟨g,(kp a x na hx).trans hx.symm,λw'=>?_⟩;obtain⟨v2,A2,k1,k2,k3⟩:=w';cases k1;rw[k2.det r' λ_ _=>rfl]at k3;rcases sub a k3 with z|z
  ·exact na z
  ·exact z.2.2 j u ej w
 ·rcases sub a m with z|z
  ·exact h4 a z
  ·exact⟨z.1,z.2.1⟩
theorem zoh (I:SI K B G H σ ρ){i:Nat}{s:Sl}{a:AD}(e:ρ[i]? =some s)(w:fD K G H σ[i]? a s):Nw K G H σ (ρ.set i .emp) a:=λj t ej w'=>by
 by_cases z:j=i
 ·subst z;rw[iG,if_pos rfl]at ej
  split at ej
  ·cases ej;exact w'
  ·exact aK ej
 ·rw[iF (Ne.symm z)]at ej;exact I.dis j i t s a z ej e w' w
open Classical in
noncomputable def Iu (G H:Hp)(A:AA AD):Hp:=λb=>if b∈A then H b else G b
theorem Qk {G H:Hp}{A:AA AD}{b:AD}(h:b∈A):Iu G H A b=H b:=by unfold Iu;rw[if_pos h]
theorem Wc {G H:Hp}{A:AA AD}{b:AD}(h:b∉A):Iu G H A b=G b:=by unfold Iu;rw[if_neg h]
theorem zoE {G H:Hp}{A:AA AD}(hA:∀a∈A,G a=none):Fz G (Iu G H A):=λb o e=>by
 rw[Wc λm=>by rw[hA b m]at e;cases e];exact e
theorem SI.frzA (I:SI K B G H σ ρ){A:AA AD}(hA:∀a∈A,G a=none/\B.H a=none/\Nw K G H σ ρ a):SI K B (Iu G H A) H σ ρ:=
 I.move (λa u q=>by
  by_cases m:a∈A
  ·rw[Qk m]at q;exact q
  ·rw[Wc m]at q;exact I.fz a u q) (zoE λa m=>(hA a m).1) (λb u q=>by
  by_cases m:b∈A
  ·exact .inr (hA b m).2.1
  ·rw[Wc m]at q;exact I.new b u q) I.keep I.there (λi s a e w g _=>⟨by rw[Wc λm=>(hA a m).2.2 i s e w];exact g,rfl⟩)
end
noncomputable def Zf (i:Nat):MS:=λρ=>some (.next,ρ.set i (.tre (.lst [])))
noncomputable def sTA (i j:Nat):MS:=λρ=>match ρ[i]?,ρ[j]? with
 |some (.tre (.lst cs)),some (.own ds)=>if cs.length<16777216 then some (.next,(ρ.set j .emp).set i (.tre (.lst (cs++[.l ds]))))else none
 |_,_=>none
noncomputable def Xq (i:Nat):MS:=λρ=>match ρ[i]? with
 |some (.tre t)=>some (.ret (.tre t),ρ.set i .emp)
 |_=>none
noncomputable def zoy (F:AA D->AB Sl)(ma:MA):ME:=λρ=>(ma ρ).bind λp=>(F p.1).bind λr=>match r with
 | .tre (.lst cs)=>some (.lst (cs.map Ch.D),p.2)
 |_=>none
noncomputable def Xf (j:Nat):ME:=λρ=>match ρ[j]? with
 |some (.tre (.lst cs))=>some (.int cs.length,ρ)
 |_=>none
noncomputable abbrev MQ:=R->AB D
noncomputable def SQb (X:Cx)(e:AI)(m:MQ)(t:TE):Prop:=∀B G H σ ρ d (Q:VK),SI X.K B G H σ ρ->m ρ=some d->(∀v,RepD X.K G v d->Q v H)->t σ H Q
noncomputable def SQ (X:Cx)(e:AI)(m:MQ):Prop:=∃t,PE X e t/\SQb X e m t
theorem SQ.el {X:Cx}{e:AI}{m:MQ}{C:Prop}(h:SQ X e m)(k:∀t,PE X e t->SQb X e m t->C):C:=h.elim λt q=>k t q.1 q.2
noncomputable def qC (d:D):MQ:=λ_=>some d
noncomputable def qV (i:Nat):MQ:=λρ=>match ρ[i]? with
 |some (.val d)=>some d
 |_=>none
noncomputable def lE (j:Nat)(mi mk:MQ):ME:=λρ=>(mi ρ).bind λa=>(mk ρ).bind λb=>match a,b,ρ[j]? with
 | .int n,.int m,some (.tre (.lst cs))=>(atI cs n).bind λc=>match c with
  | .l ds=>(atI ds m).map λd=>(d,ρ)
  |_=>none
 |_,_,_=>none
noncomputable def lX (j:Nat)(mi mk:MQ)(me:ME):MS:=λρ=>(me ρ).bind λp=>(mi p.2).bind λa=>(mk p.2).bind λb=>match a,b,p.2[j]? with
 | .int n,.int m,some (.tre (.lst cs))=>(cB cs.length n).bind λu=>match cs[u]? with
  |some (.l ds)=>(cB ds.length m).bind λw=>some (.next,p.2.set j (.tre (.lst (cs.set u (.l (ds.set w p.1))))))
  |_=>none
 |_,_,_=>none
noncomputable def fzT (j:Nat)(ρ:R):R:=match ρ[j]? with
 |some (.tre (.lst cs))=>ρ.set j (.val (.lst (cs.map Ch.D)))
 |_=>ρ
noncomputable def iL (j:Nat)(m:MS):MS:=λρ=>m (fzT j ρ)
section
variable {X:Cx}{x y:Str}{pos p' q' tpos:Pos}
theorem zor (i:Nat)(hN:X.N.Nodup)(hi:autoParam (X.N[i]? =some x) zu2._auto_1)(hx:autoParam (iO X.env.scope x) zu6._auto_1)(hs:autoParam (swapsWith (.List [] tpos) (some (.Name x p')) pos.line X.env=pure false) zu2._auto_1)(hf:autoParam (X.fn x=true\/X.env.scope.names.lookup x=some .local) zu6._auto_1):SS X (.Assign [.Name x p'] (.List [] tpos) pos) (Zf i):=by
  refine⟨_,Xb hN hi hx (zo6 iS) hs hf,λB G H σ ρ fl ρ' E I hm k=>?_⟩;obtain⟨rfl,rfl⟩:=bM hm;refine⟨by rw[gF];exact jR _,λp hp=>?_⟩;have nw:Nw X.K G (upd H p (.lst [])) σ ρ p:=I.nw_move (I.nw hp) λi s a _ _ g h=>⟨g,bF λz=>h (by rw[z];exact hp)⟩
  exact k G _ _ ((I.allocO hp _).setT (A:=[p]) ⟨p,[],[],rfl,dU,rfl,rfl⟩ (by simp) (λa m=>by
    have:a=p:=by simpa using m
    subst this;exact⟨I.fz.free hp,I.there a hp,nw⟩)) (Fz.refl G)
theorem Al (i:Nat)(hN:autoParam (X.N[i]? =some x) zu2._auto_1)(hv:autoParam (dG X.env.scope x) zu6._auto_1)(hd:autoParam ((x==("__debug__":Str))=false) zu1._auto_1)(hcd:autoParam ((x==("__classdict__":Str))=false) zu1._auto_1):SS X (.Return (some (.Name x p')) pos) (Xq i):=by
 refine⟨_,Ww (eE hN hv hd hcd),λB G H σ ρ fl ρ' E I hm k=>?_⟩;unfold Xq at hm
 split at hm
 ·rename_i t e;obtain⟨rfl,rfl⟩:=bM hm;obtain⟨v,A,h1,h2,h3,h4⟩:=I.slot i _ e;exact⟨v,h1,k G H σ v (I.emp i) (Fz.refl G) ⟨A,h2,h3,h4⟩⟩
 ·exact aK hm
variable {e:AI}{es:AA AI}{ma:MA}{k k' n:Nat}{F:AA D->AB Sl}
theorem tM {z:Str}{p:Pos}(fd:FD X.prog X.w X.K X.mg X.base k z (aY X.K n F))(hr:Room k' X.A)(ha:SA X (e::es) ma)(AO:∀ρ as ρ',ma ρ=some (as,ρ')->as.length=n)(hk:autoParam (k<=k') zu1._auto_1)(hg:autoParam (Gl X z) zu2._auto_1)(hdb:autoParam ((z==("__debug__":Str))=false) zu1._auto_1)(he:autoParam (starEach (e::es) X.env=(false,eval e X.env)::starEach es X.env) zu2._auto_1)(hpl:autoParam ((backTo pos (starEach es X.env)).any (·.1)=false) zu2._auto_1):SE X (.Call (.Name z p) (e::es) [] pos) (zoy F ma):=by
 obtain⟨f,fdd,ps,G0,h1,h2,h3⟩:=fd.ex;obtain⟨t,pa,sa⟩:=ha;refine⟨_,Ve G0 (hr.mono hk) hg h1 h2 h3 .nil Oe pa hdb he hpl,λB G H σ ρ d ρ' Q I hm kk=>?_⟩;obtain⟨⟨as,ρ1⟩,e1,hm⟩:=Wu hm;obtain⟨r,e2,hm⟩:=Wu hm;refine sa B G H σ ρ as ρ1 _ I e1 λG1 H1 vs I1 f1 r1=>?_
 show aY X.K n F (vs++[]) H1 Q E0;rw[lW];refine⟨G1,as,r,e2,AO ρ as ρ1 e1,I1.fz,r1,λG2 H2 v f2 fz2 nw kp rr=>?_⟩;have I2:=I1.grow f2 fz2 nw kp
 split at hm
 ·rename_i cs;cases hm;obtain⟨A,q1,q2,q3⟩:=rr;have hA:∀a∈A,G2 a=none/\B.H a=none/\Nw X.K G2 H2 σ ρ1 a:=λa m=>⟨(q3 a m).1,I1.there a (q3 a m).2,I1.own_ne (q3 a m).2 nw kp⟩
  obtain⟨p,xs,A',rfl,g1,g2,rfl⟩:=q1;have fg:=zoE (H:=H2) λa m=>(hA a m).1
  exact kk (Iu G2 H2 (p::A')) H2 _ (I2.frzA hA) (f1.trans (f2.trans fg)) ⟨p,xs,rfl,by rw[Qk (by simp)];exact g1,Nz fg g2 λa m=>Qk (by simp[m])⟩
 ·exact aK hm
theorem SI.fzT {K:AF}{B:Bs}{G H:Hp}{σ:St}{ρ:R}(I:SI K B G H σ ρ)(j:Nat):∃G',SI K B G' H σ (fzT j ρ)/\Fz G G':=by
 unfold M.fzT
 split
 ·rename_i cs e;obtain⟨v,A,h1,h2,h3,h4⟩:=I.slot j _ e;have h2':=h2;obtain⟨p,xs,A',rfl,g1,g2,rfl⟩:=h2;have I1:=I.emp j;have hA:∀a∈p::A',G a=none/\B.H a=none/\Nw K G H σ (ρ.set j .emp) a:=λa m=>⟨(h4 a m).1,(h4 a m).2,zoh I e ⟨_,_,h1,h2',m⟩⟩
  have fg:=zoE (H:=H) λa m=>(hA a m).1
  have I2:=(I1.frzA hA).set (i:=j) (v:= .ref p) (d:= .lst (cs.map Ch.D)) ⟨p,xs,rfl,by rw[Qk (by simp)];exact g1,Nz fg g2 λa m=>Qk (by simp[m])⟩;rw[vV h1,Pf]at I2;exact⟨_,I2,fg⟩
 ·exact⟨G,I,Fz.refl G⟩
theorem Fe {st:Stmt}{m:MS}(j:Nat)(h:SS X st m):SS X st (iL j m):=by
 refine h.el λt p s=>?_
 refine⟨t,p,λB G H σ ρ fl ρ' E I hm k=>?_⟩;obtain⟨G',I',f⟩:=I.fzT j;exact s B G' H σ _ fl ρ' E I' hm (k.mono f)
theorem zH (j:Nat)(ml:X.mg "len"=none)(hN:autoParam (X.N[j]? =some x) zu2._auto_1)(hv:autoParam (dG X.env.scope x) zu6._auto_1)(hd:autoParam ((x==("__debug__":Str))=false) zu1._auto_1)(hcd:autoParam ((x==("__classdict__":Str))=false) zu1._auto_1)(hg:autoParam (Gl X "len") zu2._auto_1)(he:autoParam (starEach [.Name x p'] X.env=(false,eval (.Name x p') X.env)::starEach [] X.env) zu2._auto_1):SE X (.Call (.Name "len" q') [.Name x p'] [] pos) (Xf j):=by
 refine⟨_,Iy Nf hg ml Nq (gK (eE hN hv hd hcd) iS he) (by decide) (by decide) he rfl,λB G H σ ρ d ρ' Q I hm k=>?_⟩;unfold Xf at hm
 split at hm
 ·rename_i cs e;obtain⟨rfl,rfl⟩:=bM hm;obtain⟨v,A,h1,⟨p,xs,A',rfl,g1,g2,rfl⟩,h3,h4⟩:=I.slot j _ e;refine⟨.ref p,h1,p,xs,rfl,.inl (SqL.of g1),?_⟩;rw[lV g2];exact k G H _ I (Fz.refl G) rfl
 ·exact aK hm
theorem Ec {i:Int}{j}:SQ X (.Constant (.int i) j pos) (qC (.int i)):=⟨_,Vy,λB G H σ ρ d Q I hm k=>by cases hm;exact k _ rfl⟩
theorem cE (i:Nat)(hN:autoParam (X.N[i]? =some x) zu2._auto_1)(hv:autoParam (dG X.env.scope x) zu6._auto_1)(hd:autoParam ((x==("__debug__":Str))=false) zu1._auto_1)(hcd:autoParam ((x==("__classdict__":Str))=false) zu1._auto_1):SQ X (.Name x pos) (qV i):=by
 refine⟨_,eE hN hv hd hcd,λB G H σ ρ d Q I hm k=>?_⟩;unfold qV at hm
 split at hm
 ·rename_i d' e;cases hm;obtain⟨v,h1,h2⟩:=I.slot i _ e;exact⟨v,h1,k v h2⟩
 ·exact aK hm
theorem Ju {α:Type}{xs:AA α}{n:Int}{c:α}(h:atI xs n=some c):∃u,cB xs.length n=some u/\xs[u]? =some c:=by
 unfold atI at h;refine aM h λu h1 h2=>?_
 exact⟨u,h1,h2⟩
theorem uS {α:Type}{xs:AA α}{n:Int}{c:α}{u:Nat}(h:cB xs.length n=some u)(h2:xs[u]? =some c):atI xs n=some c:=by
 unfold atI;rw[h];exact h2
variable {a b:AI}{mi mk:MQ}
theorem mF (j:Nat)(ha:SQ X a mi)(hb:SQ X b mk)(hN:autoParam (X.N[j]? =some x) zu2._auto_1)(hv:autoParam (dG X.env.scope x) zu6._auto_1)(hd:autoParam ((x==("__debug__":Str))=false) zu1._auto_1)(hcd:autoParam ((x==("__classdict__":Str))=false) zu1._auto_1)(hs:autoParam (lL a) zu7._auto_1)(hs2:autoParam (lL b) zu7._auto_1):SE X (.Subscript (.Subscript (.Name x p') a q') b pos) (lE j mi mk):=by
  refine ha.el λta pa sa=>?_
  refine hb.el λtb pb sb=>?_
  refine⟨_,oH ix_list (oH ix_list (eE hN hv hd hcd) pa hs) pb hs2,λB G H σ ρ d ρ' Q I hm k=>?_⟩;refine aM hm λva e1 hm=>?_
  refine aM hm λvb e2 hm=>?_
  obtain⟨n,rfl⟩:∃n,va= .int n:=by cases va<;>first|exact⟨_,rfl⟩|exact aK hm
  obtain⟨m,rfl⟩:∃m,vb= .int m:=by cases vb<;>first|exact⟨_,rfl⟩|exact aK hm
  obtain⟨cs,e⟩:∃cs,ρ[j]? =some (.tre (.lst cs)):=by
    cases e:ρ[j]? with
    |none=>rw[e]at hm;exact aK hm
    |some s=>
      rw[e]at hm;cases s with
      |tre t=>cases t with
        |lst cs=>exact⟨cs,rfl⟩
        |_=>exact aK hm
      |_=>exact aK hm
  rw[e]at hm;refine aM hm λc e3 hm=>?_
  obtain⟨ds,rfl⟩:∃ds,c= .l ds:=by cases c<;>first|exact⟨_,rfl⟩|exact aK hm
  refine dE hm λd' e4 e5=>?_
  cases e5;obtain⟨v,A,h1,⟨p,xs,A',rfl,g1,g2,rfl⟩,h3,h4⟩:=I.slot j _ e;obtain⟨u,i1,i2⟩:=Ju e3;obtain⟨y,A1,j1,⟨l,ys,rfl,j2,j3,-⟩,-⟩:=uB g2 i2;obtain⟨w,k1,k2⟩:=j3.at e4;refine⟨.ref p,h1,sa B G H σ ρ _ _ I e1 λv1 r1=>?_⟩;refine⟨p,xs,n,.ref l,rfl,r1,SqL.of g1,uS (by rw[lV g2];exact i1) j1,sb B G H σ ρ _ _ I e2 λv2 r2=>?_⟩;exact⟨l,ys,m,w,rfl,r2,SqL.of j2,k1,k G H w I (Fz.refl G) k2⟩
theorem tY (j:Nat){me:ME}(he:SE X e me)(ha:SQ X a mi)(hb:SQ X b mk)(hN:autoParam (X.N[j]? =some x) zu2._auto_1)(hv:autoParam (dG X.env.scope x) zu6._auto_1)(hd:autoParam ((x==("__debug__":Str))=false) zu1._auto_1)(hcd:autoParam ((x==("__classdict__":Str))=false) zu1._auto_1)(hsa:autoParam (lL a) zu7._auto_1)(hq :autoParam (∀ v, assign (.Subscript (.Subscript (.Name x p') a q') b tpos) X.env v = (do
   let ov<-holding [v] (eval (.Subscript (.Name x p') a q') X.env)
   let iv<-holding [v,ov] (eval b X.env)
   standAt tpos
   holding [v,ov,iv] (setItem ov iv v)
   release [v,ov,iv] [])) zu9._auto_1)(hs:autoParam (swapsWithSole [.Subscript (.Subscript (.Name x p') a q') b tpos] e pos.line X.env=pure false) zu2._auto_1)(hw:autoParam (swappedStores [.Subscript (.Subscript (.Name x p') a q') b tpos] e X.env=pure none) zu2._auto_1)(h1:autoParam ((assignEach [.Subscript (.Subscript (.Name x p') a q') b tpos] X.env).map (·.2)=[assign (.Subscript (.Subscript (.Name x p') a q') b tpos) X.env]) zu2._auto_1):SS X (.Assign [.Subscript (.Subscript (.Name x p') a q') b tpos] e pos) (lX j mi mk me):=by
 refine he.el λt p s=>?_
 refine ha.el λta pa sa=>?_
 refine hb.el λtb pb sb=>?_
 refine⟨_,Vp p (zoN (oH ix_list (eE hN hv hd hcd) pa hsa) pb Vc hq) hs hw h1,λB G H σ ρ fl ρ' E I hm k=>?_⟩;refine bN hm λd ρ1 e1 hm=>?_
 refine aM hm λva e2 hm=>?_
 refine aM hm λvb e3 hm=>?_
 refine s B G H σ ρ d ρ1 _ I e1 λG1 H1 v I1 f1 r1=>?_
 dsimp only at hm e2 e3;obtain⟨n,rfl⟩:∃n,va= .int n:=by cases va<;>first|exact⟨_,rfl⟩|exact aK hm
 obtain⟨m,rfl⟩:∃m,vb= .int m:=by cases vb<;>first|exact⟨_,rfl⟩|exact aK hm
 obtain⟨cs,e4⟩:∃cs,ρ1[j]? =some (.tre (.lst cs)):=by
  cases e:ρ1[j]? with
  |none=>rw[e]at hm;exact aK hm
  |some s=>
   rw[e]at hm;cases s with
   |tre t=>cases t with
    |lst cs=>exact⟨cs,rfl⟩
    |_=>exact aK hm
   |_=>exact aK hm
 rw[e4]at hm;refine aM hm λu e5 hm=>?_
 obtain⟨ds,e6⟩:∃ds,cs[u]? =some (.l ds):=by
  cases e:cs[u]? with
  |none=>rw[e]at hm;exact aK hm
  |some c=>
   rw[e]at hm;cases c with
   |l ds=>exact⟨ds,rfl⟩
   |_=>exact aK hm
 rw[e6]at hm;refine aM hm λw e7 hm=>?_
 obtain⟨rfl,rfl⟩:=bM hm;obtain⟨v0,A,q1,q2,q3,q4⟩:=I1.slot j _ e4;have q2':=q2;obtain⟨p,xs,A',rfl,g1,g2,rfl⟩:=q2;obtain⟨y,A1,j1,⟨l,ys,rfl,j2,j3,j4⟩,j5⟩:=uB g2 e6;have lA:l∈A':=j5 l (by rw[j4];simp);have nd:=qaO.mp q3;refine⟨.ref p,q1,sa B G1 H1 σ ρ1 _ _ I1 e2 λv1 w1=>?_⟩;refine⟨p,xs,n,.ref l,rfl,w1,SqL.of g1,uS (by rw[lV g2];exact e5) j1,sb B G1 H1 σ ρ1 _ _ I1 e3 λv2 w2=>?_⟩;refine⟨l,ys,m,w,rfl,w2,j2,by rw[j3.length];exact e7,?_⟩;have rep:RepT X.K G1 (upd H1 l (.lst (ys.set w v))) (.ref p) (.lst (cs.set u (.l (ds.set w d)))) (p::A'):=
  ⟨p,xs,A',rfl,by rw[bF λz=>nd.1 (by rw[z];exact lA)];exact g1,Mx g2 nd.2 e6 j1 (j3.set w r1),rfl⟩
 refine k G1 _ σ (I1.chT2 e4 q1 q2' (I1.fz.right (q4 l (by simp[lA])).1 _) (λb o nb h=>by rw[bF (λz=>nb (by rw[z];simp[lA]))];exact h) (λb h=>?_) rep q3 λa m=> .inl m) f1
 by_cases z:b=l
 ·subst z;rw[dU]at h;cases h
 ·rw[bF z]at h;exact h
noncomputable def sPar (i j:Nat)(ma:MA):MS:=λρ=>(ma ρ).bind λp=>match p.1 with
 |[c,d]=>some (.next,(p.2.set i (.val c)).set j (.val d))
 |_=>none
end
end M
namespace M
local macro_rules | `(tactic| ac_rfl) => `(tactic| first | exact M.nA (by decide) | exact M.nB (by decide) | exact M.nC (by decide) | exact M.nL (by assumption) | exact Nat.ne_of_lt (by assumption) | lia)
open L2 PySem PySem.Spec
open PyProof.Rows hiding St
open Sem (wp)
variable {a b u:AC}{Q E:AC->AE->Prop}{i:Nat}{prog:AJ}{w:World}{A:Around}{s:AE}{tg:AI}{K:AF}{X:Cx}{p pos:Pos}
noncomputable abbrev lS (h:AK)(z TI TO:AD)(f0:AC)(b:Bool):Prop:=h.get? z=some {cls:= .type "zip",data:= .fields #[f0,.bool b,.bool false,.ref TI,.ref TO]}
noncomputable def ZipAt (h:AK)(z TI TO:AD):Prop:=∃f0 b,lS h z TI TO f0 b/\(f0= .none\/∃T:Nat,f0=rawInt T)
section
variable {prog:AJ}{w:World}{A:Around}{E:AC->AE->Prop}{s:AE}
theorem zpA {a:AD}{Q:AB Obj->AE->Prop}(h:Q (s.heap.get? a) s):AG (model prog w) A (loadIfAlive a) Q E s:=λΓ p hΓ=>by
 show Sem.wp _ _ (Sem.loadIfAlive a Sem.pure) _ _ p s;rw[Sem.wp_loadIfAlive];exact(qaB (M:=model prog w) (A:=A) (E:=E) h) Γ p hΓ
theorem zpB {z TI TO:AD}{f0:AC}{b:Bool}(hz:lS s.heap z TI TO f0 b)(hf:f0= .none\/∃T:Nat,f0=rawInt T){Q:Bool->AE->Prop}(h1:Q true s)(h2:∀h',lS h' z TI TO f0 true->Heap.SameBut z s.heap h'->Q false {s with heap:=h'}):AG (model prog w) A (Builtin.SmallTypes.ownedTupleIsFree (.ref z)) Q E s:=by
 unfold Builtin.SmallTypes.ownedTupleIsFree;refine aJ (gJ hz rfl (x:=f0) rfl ?_);rcases hf with rfl|⟨T,rfl⟩
 ·exact qaB h1
 ·refine(?_:AG _ _ (loadIfAlive _>>=_) _ _ _);refine aJ (zpA ?_);cases e:s.heap.get? (T:Int).toNat with
  |none=>exact qaB h1
  |some o=>
   refine(?_:AG _ _ (field (.ref z) 1>>=_) _ _ _);refine aJ (gJ hz rfl (x:= .bool b) rfl ?_);cases b
   ·refine(?_:AG _ _ (setField (.ref z) 1 (.bool true)>>=_) _ _ _);exact aJ (kC hz (by simp) λg1 z1 s1=>qaB (h2 g1 z1 s1))
   ·exact qaB (h2 s.heap hz ⟨rfl,λ_ _=>rfl⟩)
variable {N a1 a2:Nat}{n1 n2:Nat}{P1 P2:Nat->AC->Prop}{S1 S2:Nat->AK->Prop}
theorem zn1 (D1:Draws prog w A N [N,a1] n1 P1 S1)(D2:Draws prog w A (N+1) [N+1,a2] n2 P2 S2)(l1:a1<N)(l2:a2<N)(hz':ZipAt s.heap (N+4) (N+2) (N+3))(hTI:IsPair s.heap (N+2) (.ref N) (.ref (N+1)))(hTO:IsPair s.heap (N+3) a b)(h1:S1 i s.heap)(h2:S2 i s.heap)(i1:i<n1)(i2:i<n2)(k : ∀ x y h' tk, P1 i x -> P2 i y -> ZipAt h' (N + 4) (N + 2) (N + 3) -> (∃ a b, IsPair h' (N + 3) a b) -> S1 (i + 1) h' -> S2 (i + 1) h' -> IsPair h' s.heap.objs.size x y ->
   (∀c o,c≠N->c≠N+1->c≠N+3->c≠N+4->s.heap.get? c=some o->h'.get? c=some o)->Q (.ref s.heap.objs.size) {s with heap:=h',toks:=tk}):
  AG (model prog w) A (Builtin.«zip.__next__» ⟨[.ref (N+4)],[]⟩) (λfin s'=>∃v,fin= .done (.ret v)/\Q v s') E s:=by
 obtain⟨f0,bb,hz,hf⟩:=hz';refine(?_:AG _ _ (field (.ref (N+4)) 2>>=_) _ _ _);refine aJ (gJ hz rfl (x:= .bool false) rfl (?_:AG _ _ (field (.ref (N+4)) 3>>=_) _ _ _));refine aJ (gJ hz rfl (x:= .ref (N+2)) rfl (aJ (kM hTI rfl (?_:AG _ _ (Builtin.SmallTypes.ownedTupleIsFree (.ref (N+4))>>=_) _ _ _))));refine aJ (zpB hz hf ?_ λg0 z0 s0=>?_)
 ·simp only[if_true];refine aJ (Jb (aJ (gJ hz rfl (x:= .ref (N+3)) rfl (aJ (kC hz (by simp) λg1 z1 s1=>aJ ?_)))))
  replace z1:lS g1 (N+4) (N+2) (N+3) .ellipsis bb:=z1
  simp only[Wn,Yo,Ff,Jy];refine aJ (aJ (tX (?_:AG _ _ (Builtin.SmallTypes.nextOf (.ref N)>>=_) _ _ _)));have e1:S1 i g1:=D1.frame _ _ _ h1 λb hb o e=>(s1.2 b (aX hb (by ac_rfl) (by ac_rfl))).trans e
  refine aJ (D1.item i _ _ _ i1 e1 λx g2 t2 p1 f2 s2=>qaB ?_);have q2:IsPair g2 (N+3) a b:=(s2.2 _ (bG (by ac_rfl))).trans ((s1.2 _ (bG (by ac_rfl))).trans hTO);refine aJ (kM q2 rfl (aJ (qcy q2 λg3 q3 s3=>aJ (Cg (qaB ?_)))))
  replace q3:IsPair g3 (N+3) x b:=q3
  refine aJ (aJ (tX (?_:AG _ _ (Builtin.SmallTypes.nextOf (.ref (N+1))>>=_) _ _ _)));have e3:S2 i g3:=D2.frame _ _ _ h2 λb hb o e=>(s3.2 b (aX hb (by ac_rfl) (by ac_rfl))).trans ((s2.2 b (aX hb (by ac_rfl) (by ac_rfl))).trans ((s1.2 b (aX hb (by ac_rfl) (by ac_rfl))).trans e))
  refine aJ (D2.item i _ _ _ i2 e3 λy g4 t4 p2 f4 s4=>qaB ?_);have q4:IsPair g4 (N+3) x b:=(s4.2 _ (bG (by ac_rfl))).trans q3;refine aJ (kM q4 rfl (aJ (qcy q4 λg5 q5 s5=>aJ (Cg (qaB (qaB ?_))))))
  replace q5:IsPair g5 (N+3) x y:=q5
  have sz:g5.objs.size=s.heap.objs.size:=by rw[s5.1,s4.1,s3.1,s2.1,s1.1]
  have z5:lS g5 (N+4) (N+2) (N+3) .ellipsis bb:=(s5.2 _ (bG (by ac_rfl))).trans ((s4.2 _ (bG (by ac_rfl))).trans ((s3.2 _ (bG (by ac_rfl))).trans ((s2.2 _ (bG (by ac_rfl))).trans z1)));have zl:(N+4:Nat)<g5.objs.size:=dQ z5;have k5:∀c o,c≠N->c≠N+1->c≠N+3->c≠N+4->s.heap.get? c=some o->g5.get? c=some o:=λc o c1 c2 c3 c4 e=>(s5.2 c c3).trans ((s4.2 c c2).trans ((s3.2 c c3).trans ((s2.2 c c1).trans ((s1.2 c c4).trans e))))
  have f5:S1 (i+1) g5:=D1.frame _ _ _ f2 λb hb o e=>(s5.2 b (aX hb (by ac_rfl) (by ac_rfl))).trans ((s4.2 b (aX hb (by ac_rfl) (by ac_rfl))).trans ((s3.2 b (aX hb (by ac_rfl) (by ac_rfl))).trans e))
  have f5':S2 (i+1) g5:=D2.frame _ _ _ f4 λb hb o e=>(s5.2 b (aX hb (by ac_rfl) (by ac_rfl))).trans e
  refine aJ (kM q5 rfl (aJ (wpAny_newTuple (?_:AG _ _ (Builtin.SmallTypes.ownedTupleHandOut (.ref (N+4)) (.ref g5.objs.size)>>=_) _ _ _))));refine aJ ?_;unfold Builtin.SmallTypes.ownedTupleHandOut;refine aJ (kC (show lS (g5.push {cls:= .type "tuple",data:= .seq #[x,y]}) (N+4) (N+2) (N+3) .ellipsis bb from bK _ z5) (by simp) λg7 z7 s7=>?_)
  replace z7:lS g7 (N+4) (N+2) (N+3) (rawInt g5.objs.size) bb:=z7
  refine kC z7 (by simp) λg8 z8 s8=>qaB ⟨_,rfl,?_⟩
  replace z8:lS g8 (N+4) (N+2) (N+3) (rawInt g5.objs.size) false:=z8
  have up:∀c o,c≠N+4->g5.get? c=some o->g8.get? c=some o:=λc o c1 e=>(s8.2 c c1).trans ((s7.2 c c1).trans (bK _ e))
  have T8:IsPair g8 g5.objs.size x y:=(s8.2 _ (bG (by ac_rfl))).trans ((s7.2 _ (bG (by ac_rfl))).trans (eL _ rfl));rw[sz]at z8 T8;refine(?_:Q (.ref g5.objs.size) _);rw[sz];exact k x y g8 _ p1 p2 ⟨_,_,z8,.inr ⟨_,rfl⟩⟩ ⟨_,_,up _ _ (bG (by ac_rfl)) q5⟩ (D1.frame _ _ _ f5 λb hb o e=>up b o (aX hb (by ac_rfl) (by ac_rfl)) e) (D2.frame _ _ _ f5' λb hb o e=>up b o (aX hb (by ac_rfl) (by ac_rfl)) e) T8 λc o c1 c2 c3 c4 e=>up c o c4 (k5 c o c1 c2 c3 c4 e)
 ·simp only[Fo,kU];simp only[List.forIn_toArray,Ff,Jy];have e0:S1 i g0:=D1.frame _ _ _ h1 λb hb o e=>(s0.2 b (aX hb (by ac_rfl) (by ac_rfl))).trans e
  refine aJ (aJ (aJ (jS (?_:AG _ _ (Builtin.SmallTypes.nextOf (.ref N)>>=_) _ _ _))));refine aJ (D1.item i _ _ _ i1 e0 λx g2 t2 p1 f2 s2=>qaB (qaB ?_));refine aJ (aJ (jS (?_:AG _ _ (Builtin.SmallTypes.nextOf (.ref (N+1))>>=_) _ _ _)));have e3:S2 i g2:=D2.frame _ _ _ h2 λb hb o e=>(s2.2 b (aX hb (by ac_rfl) (by ac_rfl))).trans ((s0.2 b (aX hb (by ac_rfl) (by ac_rfl))).trans e)
  refine aJ (D2.item i _ _ _ i2 e3 λy g4 t4 p2 f4 s4=>qaB (qaB (qaB ?_)));have sz:g4.objs.size=s.heap.objs.size:=by rw[s4.1,s2.1,s0.1]
  have z4:lS g4 (N+4) (N+2) (N+3) f0 true:=(s4.2 _ (bG (by ac_rfl))).trans ((s2.2 _ (bG (by ac_rfl))).trans z0);have f4':S1 (i+1) g4:=D1.frame _ _ _ f2 λb hb o e=>(s4.2 b (aX hb (by ac_rfl) (by ac_rfl))).trans e
  refine(?_:AG _ _ (newTuple [x,y]>>=_) _ _ _);refine aJ (wpAny_newTuple (qaB ⟨_,rfl,?_⟩));have k5:∀c o,c≠N->c≠N+1->c≠N+3->c≠N+4->s.heap.get? c=some o->g4.get? c=some o:=λc o c1 c2 c3 c4 e=>(s4.2 c c2).trans ((s2.2 c c1).trans ((s0.2 c c4).trans e))
  have q4:IsPair g4 (N+3) a b:=(s4.2 _ (bG (by ac_rfl))).trans ((s2.2 _ (bG (by ac_rfl))).trans ((s0.2 _ (bG (by ac_rfl))).trans hTO));have T8:IsPair (g4.push {cls:= .type "tuple",data:= .seq #[x,y]}) g4.objs.size x y:=eL _ rfl;rw[sz]at T8;refine(?_:Q (.ref g4.objs.size) _);rw[sz];exact k x y _ _ p1 p2 ⟨_,_,bK _ z4,hf⟩ ⟨_,_,bK _ q4⟩ (D1.frame _ _ _ f4' λb hb o e=>bK _ e) (D2.frame _ _ _ f4 λb hb o e=>bK _ e) T8 λc o c1 c2 c3 c4 e=>bK _ (k5 c o c1 c2 c3 c4 e)
theorem zoq {Q:Fin->AE->Prop}(D1:Draws prog w A N [N,a1] n1 P1 S1)(D2:Draws prog w A (N+1) [N+1,a2] n2 P2 S2)(l1:a1<N)(l2:a2<N)(hz':ZipAt s.heap (N+4) (N+2) (N+3))(hTI:IsPair s.heap (N+2) (.ref N) (.ref (N+1)))(hTO:IsPair s.heap (N+3) a b)(h1:S1 i s.heap)(h2:S2 i s.heap)(hi:i=n1\/(i<n1/\i=n2))(k:∀h' e tk,(∀c o,c≠N->c≠N+1->c≠N+3->c≠N+4->s.heap.get? c=some o->h'.get? c=some o)->(∃o,h'.get? e=some o/\o.cls= .type "StopIteration")->E (.ref e) {s with heap:=h',toks:=tk}):
  AG (model prog w) A (Builtin.«zip.__next__» ⟨[.ref (N+4)],[]⟩) Q E s:=by
 obtain⟨f0,bb,hz,hf⟩:=hz';refine(?_:AG _ _ (field (.ref (N+4)) 2>>=_) _ _ _);refine aJ (gJ hz rfl (x:= .bool false) rfl (?_:AG _ _ (field (.ref (N+4)) 3>>=_) _ _ _));refine aJ (gJ hz rfl (x:= .ref (N+2)) rfl (aJ (kM hTI rfl (?_:AG _ _ (Builtin.SmallTypes.ownedTupleIsFree (.ref (N+4))>>=_) _ _ _))));refine aJ (zpB hz hf ?_ λg0 z0 s0=>?_)
 ·simp only[if_true];refine aJ (Jb (aJ (gJ hz rfl (x:= .ref (N+3)) rfl (aJ (kC hz (by simp) λg1 z1 s1=>aJ ?_)))))
  replace z1:lS g1 (N+4) (N+2) (N+3) .ellipsis bb:=z1
  simp only[Wn,Yo,Ff,Jy];refine aJ (aJ (tX (?_:AG _ _ (Builtin.SmallTypes.nextOf (.ref N)>>=_) _ _ _)));have e1:S1 i g1:=D1.frame _ _ _ h1 λb hb o e=>(s1.2 b (aX hb (by ac_rfl) (by ac_rfl))).trans e
  rcases hi with rfl|⟨i1,rfl⟩
  ·refine aJ (D1.done _ _ _ e1 λg2 e x2 he=>?_);obtain⟨oe,hoe,hce⟩:=he;have z2:lS g2 (N+4) (N+2) (N+3) .ellipsis bb:=x2 _ _ (bG (by ac_rfl)) z1;have hez:e≠N+4:=λx=>by subst x;rw[z2]at hoe;cases hoe;simp at hce
   exact kC z2 (by simp) λg3 _ s3=>k g3 e _ (λc o c1 c2 c3 c4 x=>(s3.2 c c4).trans (x2 c o c1 ((s1.2 c c4).trans x))) ⟨oe,(s3.2 _ hez).trans hoe,hce⟩
  ·refine aJ (D1.item i _ _ _ i1 e1 λx g2 t2 p1 f2 s2=>qaB ?_);have q2:IsPair g2 (N+3) a b:=(s2.2 _ (bG (by ac_rfl))).trans ((s1.2 _ (bG (by ac_rfl))).trans hTO);refine aJ (kM q2 rfl (aJ (qcy q2 λg3 q3 s3=>aJ (Cg (qaB ?_)))))
   replace q3:IsPair g3 (N+3) x b:=q3
   refine aJ (aJ (tX (?_:AG _ _ (Builtin.SmallTypes.nextOf (.ref (N+1))>>=_) _ _ _)));have e3:S2 i g3:=D2.frame _ _ _ h2 λb hb o e=>(s3.2 b (aX hb (by ac_rfl) (by ac_rfl))).trans ((s2.2 b (aX hb (by ac_rfl) (by ac_rfl))).trans ((s1.2 b (aX hb (by ac_rfl) (by ac_rfl))).trans e))
   refine aJ (D2.done _ _ _ e3 λg4 e x4 he=>?_);obtain⟨oe,hoe,hce⟩:=he;have z3:lS g3 (N+4) (N+2) (N+3) .ellipsis bb:=(s3.2 _ (bG (by ac_rfl))).trans ((s2.2 _ (bG (by ac_rfl))).trans z1);have z4:lS g4 (N+4) (N+2) (N+3) .ellipsis bb:=x4 _ _ (bG (by ac_rfl)) z3;have hez:e≠N+4:=λx=>by subst x;rw[z4]at hoe;cases hoe;simp at hce
   exact kC z4 (by simp) λg5 _ s5=>k g5 e _ (λc o c1 c2 c3 c4 x=>(s5.2 c c4).trans (x4 c o c2 ((s3.2 c c3).trans ((s2.2 c c1).trans ((s1.2 c c4).trans x))))) ⟨oe,(s5.2 _ hez).trans hoe,hce⟩
 ·simp only[Fo,kU,List.forIn_toArray,Ff,Jy];have e0:S1 i g0:=D1.frame _ _ _ h1 λb hb o e=>(s0.2 b (aX hb (by ac_rfl) (by ac_rfl))).trans e
  refine aJ (aJ (aJ (jS (?_:AG _ _ (Builtin.SmallTypes.nextOf (.ref N)>>=_) _ _ _))));rcases hi with rfl|⟨i1,rfl⟩
  ·refine aJ (D1.done _ _ _ e0 λg2 e x2 he=>?_);exact k g2 e _ (λc o c1 c2 c3 c4 x=>x2 c o c1 ((s0.2 c c4).trans x)) he
  ·refine aJ (D1.item i _ _ _ i1 e0 λx g2 t2 p1 f2 s2=>qaB (qaB ?_));refine aJ (aJ (jS (?_:AG _ _ (Builtin.SmallTypes.nextOf (.ref (N+1))>>=_) _ _ _)));have e3:S2 i g2:=D2.frame _ _ _ h2 λb hb o e=>(s2.2 b (aX hb (by ac_rfl) (by ac_rfl))).trans ((s0.2 b (aX hb (by ac_rfl) (by ac_rfl))).trans e)
   refine aJ (D2.done _ _ _ e3 λg4 e x4 he=>?_);exact k g4 e _ (λc o c1 c2 c3 c4 x=>x4 c o c2 ((s2.2 c c1).trans ((s0.2 c c4).trans x))) he
end
theorem ZipAt.at {h h':AK}{z TI TO:AD}(x:ZipAt h z TI TO)(e:∀o,h.get? z=some o->h'.get? z=some o):ZipAt h' z TI TO:=by
 obtain⟨f0,b,q,r⟩:=x;exact⟨f0,b,e _ q,r⟩
theorem zl6 {z TI TO:AD}(hz:ZipAt s.heap z TI TO)(h:Q (.ref z) s):AG (model prog w) A (pyIter (.ref z)) Q E s:=by
 obtain⟨f0,b,q,r⟩:=hz;have hT:s.TypeIs (.ref z) "zip":=⟨_,q,rfl⟩;exact wpAny_pyIter_slot hT F.slot_zip_iter (qL F.slot_zip_iter hT F.entry_zip_iter (qaB ⟨.ref z,rfl,"zip",.builtin "zip.__next__",hT,F.slot_zip_next.lookup,h⟩) (F.args_zip_iter_1 (.ref z)))
theorem Fj {z TI TO:AD}{Q:Unit->AE->Prop}(hz:ZipAt s.heap z TI TO)(h1:Q () s)(h2:∀h',ZipAt h' z TI TO->Heap.SameBut z s.heap h'->Q () {s with heap:=h'}):AG (model prog w) A (letOwnedTupleGo tg (.ref z) u) Q E s:=by
 obtain⟨f0,b,q,r⟩:=hz;have core:∀a:AD,AG (model prog w) A (do
   let o<-load z
   match o.cls,o.data with
    |Value.type n,Data.fields vs=>
     if(["enumerate","zip","dict_itemiterator","dict_reverseitemiterator","odict_iterator","itertools.zip_longest","itertools.pairwise"].contains n&&vs[0]? ==some (rawInt ↑a))=true then do
      rule "for.unpacks-the-owned-tuple"
      updateField z 0 Value.none
     else pure ()
    |x,x_1=>pure ()) Q E s:=λa=>by
  refine aJ (wpAny_load q ?_);dsimp only
  split
  ·refine aJ (Jb ?_);refine(?_:AG _ _ (setField (.ref z) 0 .none) _ _ _);exact kC q (by simp) λg1 z1 s1=>h2 g1 ⟨_,_,z1,.inl rfl⟩ s1
  ·exact qaB h1
 unfold letOwnedTupleGo;cases tg<;>first|exact qaB h1|(cases u<;>first|exact qaB h1|exact core _)
theorem znw {P:AJ}{w:World}(t1:Bool)(a1:Nat)(t2:Bool)(a2:Nat)(n N:Nat)(l1:a1<N)(l2:a2<N):
  Turn P w K tg (Eb K t1 a1 t2 a2 n) ([N,N+1,N+2,N+3,N+4]:AA Nat) (N+4:Nat)
   (λi h=>i<=n/\ZipAt h (N+4:Nat) (N+2:Nat) (N+3:Nat)/\IsPair h (N+2:Nat) (.ref N) (.ref (N+1:Nat))/\(∃a b,IsPair h (N+3:Nat) a b)/\SrcIt t1 h N a1 i/\SrcIt t2 h (N+1:Nat) a2 i) where
 mem:=by simp
 obj:=λi h st b hb=>by
  obtain⟨-,h4,h2,⟨a,c,h3⟩,h0,h1⟩:=st;simp only[qam,Nk,or_false]at hb;rcases hb with rfl|rfl|rfl|rfl|rfl
  ·exact h0.obj
  ·exact h1.obj
  ·exact⟨_,h2,λv z=>by cases z⟩
  ·exact⟨_,h3,λv z=>by cases z⟩
  ·obtain⟨f0,bb,z4,-⟩:=h4;exact⟨_,z4,λv z=>by cases z⟩
 keep:=λi h h' st k=>by
  obtain⟨hi,h4,h2,⟨a,c,h3⟩,h0,h1⟩:=st;exact⟨hi,h4.at λo e=>k _ (by simp) o e,k _ (by simp) _ h2,⟨a,c,k _ (by simp) _ h3⟩,h0.at λo e=>k _ (by simp) o e,h1.at λo e=>k _ (by simp) o e⟩
 item:=by
  intro X hP hw hK hc i AM s σ H E I hf st hg;subst hP hw hK;obtain⟨hi,h4,h2,⟨a,c,h3⟩,h0,h1⟩:=st;obtain⟨hn,xs,ys,q1,q2,en⟩:=hg;obtain⟨us,ru,hu,zu⟩:=q1.heap I;obtain⟨ws,rw',hw',zw⟩:=q2.heap I;have lu:=ru.length;have lw:=rw'.length;have D1:=mB (prog:=X.prog) (w:=X.w) (A:=X.A.in1) (t:=t1) (I.ok.hd hc) N a1 (bG (by ac_rfl)) us.toArray;have D2:=mB (prog:=X.prog) (w:=X.w) (A:=X.A.in1) (t:=t2) (I.ok.hd hc) (N+1) a2 (bG (by ac_rfl)) ws.toArray;have z4:=h4;obtain⟨f0,bb,z4,-⟩:=z4;have hT:s.TypeIs (.ref (N+4:Nat)) "zip":=⟨_,z4,rfl⟩;unfold pyNext;refine aJ (Mg (yI (name:=Str.ofString "__next__") hT Cb (qL Cb hT Zi
   (zn1 D1 D2 l1 l2 h4 h2 h3 ⟨h0,hu⟩ ⟨h1,hw'⟩ (by simp;lia) (by simp;lia) λx y h' tk p1 p2 g4 g3 g0 g1 gT kk=>qaB ?_) (Yc _))))
  obtain⟨x1,hx1⟩:∃x1,xs[i]? =some x1:=⟨xs[i]'(by lia),cI _⟩;obtain⟨x2,hx2⟩:∃x2,ys[i]? =some x2:=⟨ys[i]'(by lia),cI _⟩;obtain⟨u1,hu1,r1⟩:=ru.get hx1;obtain⟨u2,hu2,r2⟩:=rw'.get hx2;have e1:u1=x:=by
   have:us[i]? =some x:=by simpa using p1
   rw[hu1]at this;cases this;rfl
  have e2:u2=y:=by
   have:ws[i]? =some y:=by simpa using p2
   rw[hu2]at this;cases this;rfl
  subst e1 e2;refine⟨_,rfl,?_⟩;have fin:∀h'',ZipAt h'' (N+4:Nat) (N+2:Nat) (N+3:Nat)->Heap.SameBut (N+4:Nat) h' h''->∃x H',L2.Inv X AM σ H' {s with heap:=h'',toks:=tk}/\RelV x (.ref s.heap.objs.size)/\(Eb X.K t1 a1 t2 a2 n).yld i H x H'/\(i+1<=n/\ZipAt h'' (N+4:Nat) (N+2:Nat) (N+3:Nat)/\IsPair h'' (N+2:Nat) (.ref N) (.ref (N+1:Nat))/\(∃a b,IsPair h'' (N+3:Nat) a b)/\SrcIt t1 h'' N a1 (i+1)/\SrcIt t2 h'' (N+1:Nat) a2 (i+1))/\∀b∈([N,N+1,N+2,N+3,N+4]:AA Nat),H' b=none:=λh'' z'' sb=>by
   have lz:N+4<s.heap.objs.size:=dQ z4;have kk':∀b o,b∉([N,N+1,N+2,N+3,N+4]:AA Nat)->s.heap.get? b=some o->h''.get? b=some o:=λb o hb e=>by
    obtain⟨c1,c2,c3,c4⟩:=Pm hb;exact(sb.2 b c4).trans (kk b o c1 c2 c3 c4 e)
   have I1:=zl5 (t':=tk) (vs:=[x1,x2]) (its:=[u1,u2]) I kk' hf (λb hb=>by
    have:b=N\/b=N+1\/b=N+2\/b=N+3\/b=N+4:=by simpa using hb
    exact Hy (show(b:Nat)<=N+4 by rcases this with h|h|h|h|h<;>rw[h]<;>simp) lz) ((sb.2 _ (bG (by ac_rfl))).trans gT) (by simp;rw[gF];decide) (.cons r1 (.cons r2 .nil))
   refine⟨.ref s.heap.objs.size,_,I1,rfl,⟨_,x1,x2,I.hok.fresh (bZ _),rfl,rfl,λxs' ys' b1 b2=>?_⟩,⟨hn,z'',(sb.2 _ (bG (by ac_rfl))).trans (kk _ _ (bG (by ac_rfl)) (bG (by ac_rfl)) (bG (by ac_rfl)) (bG (by ac_rfl)) h2),(let⟨a',b',e'⟩:=g3;⟨a',b',(sb.2 _ (bG (by ac_rfl))).trans e'⟩),SrcIt.at g0.1 λo e=>(sb.2 _ (bG (by ac_rfl))).trans e,SrcIt.at g1.1 λo e=>(sb.2 _ (bG (by ac_rfl))).trans e⟩,λb hb=>?_⟩
   ·rw[SrcSq.inj I b1 q1,SrcSq.inj I b2 q2];exact⟨hx1,hx2⟩
   ·have:b=N\/b=N+1\/b=N+2\/b=N+3\/b=N+4:=by simpa using hb
    rw[bF (gG (Hy (show(b:Nat)<=N+4 by rcases this with h|h|h|h|h<;>rw[h]<;>simp) lz))]
    exact(hf b hb).1
  exact Fj (s:={s with heap:=h',toks:=tk}) g4 (fin h' g4 ⟨rfl,λ_ _=>rfl⟩) λh'' z'' sb=>fin h'' z'' sb
 done:=by
  intro X hP hw hK hc i AM s σ H E I hf st hg;subst hP hw hK;obtain⟨hi,h4,h2,⟨a,c,h3⟩,h0,h1⟩:=st;obtain⟨hn,xs,ys,q1,q2,en⟩:=hg;obtain⟨us,ru,hu,zu⟩:=q1.heap I;obtain⟨ws,rw',hw',zw⟩:=q2.heap I;have lu:=ru.length;have lw:=rw'.length;have D1:=mB (prog:=X.prog) (w:=X.w) (A:=X.A.in1) (t:=t1) (I.ok.hd hc) N a1 (bG (by ac_rfl)) us.toArray;have D2:=mB (prog:=X.prog) (w:=X.w) (A:=X.A.in1) (t:=t2) (I.ok.hd hc) (N+1) a2 (bG (by ac_rfl)) ws.toArray;have z4:=h4;obtain⟨f0,bb,z4,-⟩:=z4;have hT:s.TypeIs (.ref (N+4:Nat)) "zip":=⟨_,z4,rfl⟩;unfold pyNext;refine aJ (Mg (yI (name:=Str.ofString "__next__") hT Cb (qL Cb hT Zi
   (zoq D1 D2 l1 l2 h4 h2 h3 ⟨h0,hu⟩ ⟨h1,hw'⟩ (by simp;lia) λh' e tk kk he=>?_) (Yc _))))
  obtain⟨o,ho,hce⟩:=he;refine aJ (wpAny_isInstance (T:="StopIteration") (b:=true) ⟨o,ho,hce⟩ isSubtype_stop (qaB ⟨rfl,Wz I (λb o hb e=>?_) hf⟩));obtain⟨c1,c2,c3,c4⟩:=Pm hb;exact kk b o c1 c2 c3 c4 e
 self:=λ_ _ _ _ _ st h=>zl6 st.2.1 h
theorem nV {a b:AI}{ta:TA}(hg:Gl X "zip")(hm:X.mg "zip"=none)(ha:PA X [a,b] ta)(hs:autoParam (starEach [a,b] X.env=(false,eval a X.env)::starEach [b] X.env) zu2._auto_1)(hs2:autoParam ((backTo pos (starEach [b] X.env)).any (·.1)=false) zu2._auto_1):
  PI X tg (.Call (.Name "zip" p) [a,b] [] pos) (λσ H R=>ta σ H λvs H1=>∃t1 a1 xs t2 a2 ys,vs=[.ref a1,.ref a2]/\SrcSq t1 X.K H1 a1 xs/\SrcSq t2 X.K H1 a2 ys/\R (Eb X.K t1 a1 t2 a2 (min xs.length ys.length)) H1):=by
 intro AM s σ H R I h;refine Call_ (Iq I hg hm zmE (Uo (bE (ha pos AM s σ H _ I h) λus s1 ⟨vs,H1,I1,r1,q1⟩=>?_) hs hs2));obtain⟨t1,a1,xs,t2,a2,ys,e,q1,q2,q⟩:=q1;subst e;cases r1 with
 |cons r rr=>
  cases rr with
  |cons r' rr=>
   cases rr;cases r;cases r';obtain⟨us,ru,hu,-⟩:=q1.heap I1;obtain⟨ws,rw',hw',-⟩:=q2.heap I1;refine zpP hu hw' λh' g4 g2 g3 g0 g1 kk=>wpAny_pyIter_zip g4 ⟨_,_,_,_,H1,rfl,I1.kept (t':=s1.toks) kk,znw t1 a1 t2 a2 (min xs.length ys.length) s1.heap.objs.size hu.lt hw'.lt,⟨jR _,⟨_,_,g4,.inl rfl⟩,g2,⟨_,_,g3⟩,g0,g1⟩,λb hb=>?_,q⟩
   have:b=s1.heap.objs.size\/b=s1.heap.objs.size+1\/b=s1.heap.objs.size+2\/b=s1.heap.objs.size+3\/b=s1.heap.objs.size+4:=by simpa using hb
   have le:s1.heap.objs.size<=b:=by rcases this with h|h|h|h|h<;>rw[h]<;>simp
   exact I1.fpOk le (I1.hok.fresh le)
theorem pR {a b:AI}{ma:MA}(hm:X.mg "zip"=none)(ha:SA X [a,b] ma)(hg:autoParam (Gl X "zip") zu2._auto_1)(hs:autoParam (starEach [a,b] X.env=(false,eval a X.env)::starEach [b] X.env) zu2._auto_1)(hs2:autoParam ((backTo pos (starEach [b] X.env)).any (·.1)=false) zu2._auto_1):
  SIt X tg (.Call (.Name "zip" p) [a,b] [] pos) (iZ2 ma):=by
 refine ha.el λt pa sa=>?_
 refine⟨_,nV hg hm pa hs hs2,λB G H σ ρ ds ρ' Q I hm k=>?_⟩;refine bN hm λes ρ1 e1 h2=>?_
 dsimp only at h2;refine sa B G H σ ρ es ρ1 _ I e1 λG1 H1 vs I1 f1 r1=>?_
 split at h2
 ·refine aM h2 λxs ex h2=>?_
  refine aM h2 λys ey h2=>?_
  obtain⟨rfl,rfl⟩:=bM h2;obtain⟨x,y,rfl,rx,ry⟩:=r1.two;obtain⟨t1,a1,us,rfl,s1,c1⟩:=Mo rx ex;obtain⟨t2,a2,ws,rfl,s2,c2⟩:=Mo ry ey;have n1:=c1.length;have n2:=c2.length;refine⟨t1,a1,us,t2,a2,ws,rfl,s1 _ I1.fz,s2 _ I1.fz,k _ G1 H1 I1 f1 ⟨λH i f hi=>?_,λH i x H' f y d e=>?_,λH i f hi=>?_⟩⟩
  ·exact⟨by simp[Em]at hi;lia,us,ws,s1 _ f,s2 _ f,rfl⟩
  ·obtain⟨p,x1,x2,hp,eh,ex',q⟩:=y;obtain⟨q1,q2⟩:=q us ws (s1 _ f) (s2 _ f);simp only[Em,Ly]at e
   split at e
   ·rename_i d1 d2 g1 g2;cases e;obtain⟨v1,b1,r1⟩:=c1.get g1;obtain⟨v2,b2,r2⟩:=c2.get g2;rw[q1]at b1;cases b1;rw[q2]at b2;cases b2;exact .inr ⟨p,_,_,hp,eh,ex',rfl,⟨_,_,rfl,r1,_,_,rfl,r2,rfl⟩⟩
   ·exact aK e
  ·exact⟨by simp[Em]at hi;lia,us,ws,s1 _ f,s2 _ f,rfl⟩
 ·exact aK h2
end M
namespace M
open L2 PySem PySem.Spec
open PyProof.Rows hiding St
theorem cQ {l:AA Str}(h:autoParam (decide l.Nodup=true) zu10._auto_1):l.Nodup:=of_decide_eq_true h
theorem cM {p:AA AC->Prop}(h:p []):∀us:AA AC,us.length=0->p us:=λus e=>by
 cases us with
 |nil=>exact h
 |cons=>cases e
theorem aS {p:AA AC->Prop}{n:Nat}(h:∀(a:AC) (us:AA AC),us.length=n->p (a::us)):∀us:AA AC,us.length=n+1->p us:=λus e=>by
 cases us with
 |nil=>cases e
 |cons a us=>exact h a us (Nat.succ.inj e)
section
variable {P:AJ}{w:World}{K:AF}{mg:Str->AB AC}{base hp:AK}{x:Str}{st:Stmt}{f:AD}
noncomputable def FnAt (K:AF)(x:Str)(st:Stmt):Prop:=∃f fd,W.nsIn K AL x=some (some (.ref f))/\Fun K x x st f fd
theorem FnAt.mk {oc:AC}{od an:AB AD}{osl:Array (AB AC)}{kV doc pm cdv ct:AC}(a:W.nsIn K AL x=some (some (.ref f)))(l:K.lookup f=some ⟨oc,od,.func (W.fnOf x x (zf8 st) (zcN st) (zaT st) .none kV doc pm an cdv ct),osl⟩)(c:W.codeIn K cdv x=true)(k:W.keepIn K (.ref f)=true):FnAt K x st:=⟨f,_,a,Fy l c k⟩
noncomputable abbrev zM (x:Str)(st:Stmt)(ps:AA Str):Prop:=∀(kV doc pm:AC) (an:AB AD) (cdv ct:AC) (us:AA AC),us.length=ps.length->bindArgs (W.fnOf x x (zf8 st) (zcN st) (zaT st) .none kV doc pm an cdv ct) ⟨us,[]⟩=pure (ps.zip us)
theorem FnAt.law (h:FnAt K x st)(X:K.In hp)(G:hp.Ns AL mg)(hf:mg x=some (.ref f)):∃kV doc pm an cdv ct,Fun K x x st f (W.fnOf x x (zf8 st) (zcN st) (zaT st) .none kV doc pm an cdv ct):=by
 obtain⟨f',fd,a,T⟩:=h;have e:=hf.symm.trans (W.mg_of X G a);cases e;obtain⟨oc,od,kV,doc,pm,an,cdv,ct,osl,rfl,lk,hcd⟩:=id T.ex;exact⟨kV,doc,pm,an,cdv,ct,T⟩
variable {N:AA Str}{k n:Nat}{m:MS}
noncomputable abbrev Bd (P:AJ)(w:World)(K:AF)(mg:Str->AB AC)(base:AK)(x:Str)(st:Stmt)(N:AA Str)(k:Nat)(m:MS):Prop:=∀(f:AD) (cdv:AC) (A:Around) (outer:AA Env) (s:AE) (H:Hp) (E:XK),Room k (A.deeper (PyProof.Rows.envOfC x (zaT st) s.heap.objs.size f cdv))->N.Nodup->SSs (gR jI P w K mg base N x (zaT st) f cdv A outer s H E).nox (zcN st) m
structure DefOk (x:Str)(st:Stmt)(N:List Str)(n:Nat):Prop where
 sc:FnScope N (N.take n) (zaT st)
 len:(N.take n).length=n
 le:n<=N.length
 bs:zM x st (N.take n)
theorem lawP {fd:FuncData}(F:Fun K x x st f fd)(b:Bd P w K mg base x st N k m)(d:DefOk x st N n:=by exact⟨⟨rfl,rfl,rfl,by decide+kernel,rfl,by decide+kernel,by decide+kernel⟩,rfl,by decide,λ_ _ _ _ _ _=>by first|exact aS λ_=>cM rfl|exact aS λ_=>aS λ_=>cM rfl|exact aS λ_=>aS λ_=>aS λ_=>cM rfl|exact aS λ_=>aS λ_=>aS λ_=>aS λ_=>cM rfl|exact cM rfl|exact aS λ_=>aS λ_=>aS λ_=>aS λ_=>aS λ_=>cM rfl⟩):FnOk P w K mg base jI (k+1) f fd (N.take n) (aY K n (fP N.length m)):=oN F d.sc d.len d.le λcdv A outer s H E hr=>b _ cdv A outer s H E hr d.sc.nd
theorem dC (X:K.In hp)(G:hp.Ns AL mg)(h:FnAt K x st)(b:Bd P w K mg base x st N k m)(d:DefOk x st N n:=by exact⟨⟨rfl,rfl,rfl,by decide+kernel,rfl,by decide+kernel,by decide+kernel⟩,rfl,by decide,λ_ _ _ _ _ _=>by first|exact aS λ_=>cM rfl|exact aS λ_=>aS λ_=>cM rfl|exact aS λ_=>aS λ_=>aS λ_=>cM rfl|exact aS λ_=>aS λ_=>aS λ_=>aS λ_=>cM rfl|exact cM rfl|exact aS λ_=>aS λ_=>aS λ_=>aS λ_=>aS λ_=>cM rfl⟩):FD P w K mg base (k+1) x (aY K n (fP N.length m)):=
 let⟨f,fd,a,T⟩:=h
 ⟨⟨f,fd,_,oN T d.sc d.len d.le λcdv A outer s H E hr=>b _ cdv A outer s H E hr d.sc.nd,W.mg_of X G a,T.kp,T.binds d.bs⟩⟩
theorem Ag (X:K.In hp)(G:hp.Ns AL mg)(h:FnAt K x st)(b:Bd P w K mg base x st N k m)(d:DefOk x st N n:=by exact⟨⟨rfl,rfl,rfl,by decide+kernel,rfl,by decide+kernel,by decide+kernel⟩,rfl,by decide,λ_ _ _ _ _ _=>by first|exact aS λ_=>cM rfl|exact aS λ_=>aS λ_=>cM rfl|exact aS λ_=>aS λ_=>aS λ_=>cM rfl|exact aS λ_=>aS λ_=>aS λ_=>aS λ_=>cM rfl|exact cM rfl|exact aS λ_=>aS λ_=>aS λ_=>aS λ_=>aS λ_=>cM rfl⟩):FD P w K mg base (k+1) x (eM K n (fM N.length m)):=
 let⟨f,fd,a,T⟩:=h
 ⟨⟨f,fd,_,Ig T d.sc d.len d.le λcdv A outer s H E hr=>b _ cdv A outer s H E hr d.sc.nd,W.mg_of X G a,T.kp,T.binds d.bs⟩⟩
theorem Zk (X:K.In hp)(G:hp.Ns AL mg)(h:FnAt K x st)(b:Bd P w K mg base x st N k m)(d:DefOk x st N n:=by exact⟨⟨rfl,rfl,rfl,by decide+kernel,rfl,by decide+kernel,by decide+kernel⟩,rfl,by decide,λ_ _ _ _ _ _=>by first|exact aS λ_=>cM rfl|exact aS λ_=>aS λ_=>cM rfl|exact aS λ_=>aS λ_=>aS λ_=>cM rfl|exact aS λ_=>aS λ_=>aS λ_=>aS λ_=>cM rfl|exact cM rfl|exact aS λ_=>aS λ_=>aS λ_=>aS λ_=>aS λ_=>cM rfl⟩):FD P w K mg base (k+1) x (lP K n (Ym N.length m)):=
 let⟨f,fd,a,T⟩:=h
 ⟨⟨f,fd,_,Ax T d.sc d.len d.le λcdv A outer s H E hr=>b _ cdv A outer s H E hr d.sc.nd,W.mg_of X G a,T.kp,T.binds d.bs⟩⟩
end
end M
namespace M
open PySem
section
variable {prog:AJ}{w:World}{A:Around}{E:AC->AE->Prop}{s:AE}{it d:AD}{i ep:Nat}{es:Array DictEntry}{od:Obj}
theorem qR {Q:AB AC->AE->Prop}(ki:s.heap.IsKeyIter it d i es.size ep)(g1:s.heap.get? d=some od)(g2:od.data= .dict es ep)(hi:i<es.size)(k:∀h',h'.IsKeyIter it d (i+1) es.size ep->Heap.SameBut it s.heap h'->Q (some es[i].key) {s with heap:=h'}):AG (model prog w) A (pyNext (.ref it)) Q E s:=by
 obtain⟨oi,q1,q2,q3⟩:=id ki;have no:Builtin.Dict_items.ownsTuple "dict_keyiterator"=false:=by decide
 unfold pyNext;refine aJ (Mg (yI (name:=Str.ofString "__next__") ki.typeIs Wi (qL Wi ki.typeIs F.entry_dict_keyiterator_next ?_ (F.args_dict_keyiterator_next_1 _))));refine aJ (qaB (aJ (aJ ?_)))
 first|refine aJ (Xi ki.typeIs (qaB ?_))|refine aJ (Xa ki.typeIs (qaB ?_))
 refine aJ (wpAny_fieldsOf q1 q3 ?_);simp only[no,Fo,kU];show AG _ _ (if(Value.ref d==Value.none)=true then _ else _) _ _ s;rw[if_neg (show ¬((Value.ref d==Value.none)=true)from hZ)];refine aJ (qaB (aJ (wpAny_dictEntries g1 g2 ?_)));rw[if_neg (by simp)];refine aJ (qaB (aJ (wpAny_dictEpoch g1 g2 ?_)));rw[if_neg (by simp)];refine qaB ?_;simp only[show ¬((i:Int)<0)from by lia,kU,Lx,Array.getElem?_eq_getElem hi];refine aJ ?_
 first|refine aJ (Xi ki.typeIs (qaB ?_))|refine aJ (Xa ki.typeIs (qaB ?_))
 refine aJ (wpAny_isOneOf_keyiter ki.typeIs ?_);show AG _ _ (setField (.ref it) 1 (rawInt ((i:Int)+1))>>=_) _ _ s;refine aJ (Wo q1 q3 (by simp) ?_);have ki':(s.heap.update it (Obj.mapFields (·.setIfInBounds 1 (rawInt ((i:Int)+1))))).IsKeyIter it d (i+1) es.size ep:=
  ⟨_,Xo _ q1 (Obj.isFreed_of_fields (Tf q3 _)),(Obj.cls_mapFields ..).trans q2,by rw[Tf q3];simp[rawInt]⟩
 refine aJ (jS (aJ (wpAny_isOneOf_keyiter (s:={s with heap:=s.heap.update it (Obj.mapFields (·.setIfInBounds 1 (rawInt ((i:Int)+1))))}) ki'.typeIs ?_)))
 show AG _ _ (pure es[i].key) _ _ _;exact qaB (qaB ⟨_,rfl,qaB (k _ ki' (Sv ..))⟩)
theorem yS {Q:AB AC->AE->Prop}(hh:A.handled=none)(ki:s.heap.IsKeyIter it d i es.size ep)(g1:s.heap.get? d=some od)(g2:od.data= .dict es ep)(hi:es.size<=i)(k:∀h',Heap.ExtBut it s.heap h'->Q none {s with heap:=h'}):AG (model prog w) A (pyNext (.ref it)) Q E s:=by
 obtain⟨oi,q1,q2,q3⟩:=id ki;have no:Builtin.Dict_items.ownsTuple "dict_keyiterator"=false:=by decide
 unfold pyNext;refine aJ (Mg (yI (name:=Str.ofString "__next__") ki.typeIs Wi (qL Wi ki.typeIs F.entry_dict_keyiterator_next ?_ (F.args_dict_keyiterator_next_1 _))));refine aJ (qaB (aJ (aJ ?_)))
 first|refine aJ (Xi ki.typeIs (qaB ?_))|refine aJ (Xa ki.typeIs (qaB ?_))
 refine aJ (wpAny_fieldsOf q1 q3 ?_);simp only[no,Fo,kU];show AG _ _ (if(Value.ref d==Value.none)=true then _ else _) _ _ s;rw[if_neg (show ¬((Value.ref d==Value.none)=true)from hZ)];refine aJ (qaB (aJ (wpAny_dictEntries g1 g2 ?_)));rw[if_neg (by simp)];refine aJ (qaB (aJ (wpAny_dictEpoch g1 g2 ?_)));rw[if_neg (by simp)];refine qaB ?_;simp only[show ¬((i:Int)<0)from by lia,kU,Lx,Array.getElem?_eq_none hi];refine aJ ?_
 first|refine aJ (Xi ki.typeIs (qaB ?_))|refine aJ (Xa ki.typeIs (qaB ?_))
 show AG _ _ (setField (.ref it) 0 .none>>=_) _ _ s;refine aJ (Wo q1 q3 (by simp) ?_);show AG _ _ (newExc (.type "StopIteration") []>>=_) _ _ _;refine aJ ?_;simp only[newExc,newTuple];refine aJ (tW ?_ (by size_fits));refine aJ (m:=firstArgMember _ _) (wpAny_of_eq (a:=Value.none) (by first|rfl|(simp only[firstArgMember];rfl)) ?_);refine tW ?_ (by size_fits);simp only[raiseNew];refine aJ (wpAny_handled ?_);rw[show A.in1.handled=none from hh];refine aJ (qaB (wpAny_throw ?_));refine aJ (wpAny_isInstance (b:=true) (T:="StopIteration") ⟨_,eL _ rfl,rfl⟩ isSubtype_stop ?_);exact qaB (k _ (((Sv ..).extBut.push _).push _))
theorem qA {Q:AC->AE->Prop}(nm:(d==sysModules)=false)(g1:s.heap.get? d=some od)(g0:od.ExactDict)(g2:od.data= .dict es ep)(k:Q (.ref s.heap.objs.size) {s with heap:=s.heap.push {cls:= .type "dict_keyiterator",data:= .fields #[.ref d,.int 0 0,.int es.size 0,.int ep 0]}}):AG (model prog w) A (pyIter (.ref d)) Q E s:=by
 have hT:s.TypeIs (.ref d) "dict":=⟨od,g1,g0.1⟩;refine wpAny_pyIter_slot hT F.slot_dict_iter (qL F.slot_dict_iter hT F.entry_dict_iter ?_ (F.args_dict_iter_1 _));unfold Builtin.«dict.__iter__»;refine aJ ?_;unfold Builtin.Dict.dictSlotNone;refine aJ (wpAny_notOrdered_dict hT ?_);show AG _ _ (pure (Value.ref d)) _ _ s;refine qaB ?_;show AG _ _ (Builtin.Dict.showsAll d>>=_) _ _ s;unfold Builtin.Dict.showsAll;rw[if_neg (by rw[nm];exact hZ)];refine aJ (qaB (aJ (wpAny_dictEntries g1 g2 (aJ (wpAny_dictEpoch g1 g2 ?_)))));refine aJ (tW (qaB ⟨_,rfl,"dict_keyiterator",_,⟨_,eL _ rfl,rfl⟩,F.slot_dict_keyiterator_next.lookup,?_⟩));simpa[rawInt]using k
end
end M
namespace M
open L2 PySem PySem.Spec
open PyProof.Rows hiding St
variable {k n:AA Int}{u:AC}{v:V}{K:AF}{tg:AI}{B:Bs}{G H:Hp}{σ:St}{ρ:R}{j:Nat}{q:AA (AA Int)×AA D}{d:D}{ks:AA (AA Int)}{ds es:AA D}
variable {P:AJ}{w:World}{H G:Hp}{h:AK}{a b:AD}{o:Obj}{xs:AA (AA L2.bX×AD×AC)}{ks:AA (AA Int)}{ys:AA (AA L2.bX×V)}
theorem Qu (k:AA Int):reduceHash (Builtin.Tuple.tupleHashOf ((k.map kI).map hI))=(tupleKind (jW P w)).hash (k.map kI):=by
 have e:(k.map kI).map hI=(k.map kI).map (Sw w):=by rw[fA,fA];exact mD λ_ _=>rfl
 rw[e]
 rfl
theorem Er {q:AA L2.bX×AD×AC}(e:q.1=k.map kI):(⟨reduceHash (Builtin.Tuple.tupleHashOf (q.1.map hI)),.ref q.2.1,q.2.2⟩:DictEntry)=entryOfKey (tupleKind (jW P w)) q:=by
 unfold entryOfKey;rw[e,Qu (P:=P) (w:=w)]
theorem Bw (kt:KT G ys xs)(e:ys.map (·.1)=ks.map (·.map kI)):(xs.map λx=>(⟨reduceHash (Builtin.Tuple.tupleHashOf (x.1.map hI)),.ref x.2.1,x.2.2⟩:DictEntry))=xs.map (entryOfKey (tupleKind (jW P w))):=by
  induction kt generalizing ks with
  |nil=>rw[List.map_nil,List.map_nil]
  | @cons p q ps qs h t ih=>
    cases ks with
    |nil=>cases e
    |cons k ks=>
      have e2:=List.cons.inj e;rw[jJ,jJ,ih e2.2];exact congrArg (· ::_) (Er (h.1.symm.trans e2.1))
theorem kQ (ok:HOk P w H h)(e:H a=some (kn a o)):h.get? a=some o:=(show ObjOk P w H h a (kn a o)from ok a _ e).1
theorem Cc (e:h.get? a=some o):ObjOk P w H h a (kn a o):=⟨e,⟨o,e⟩,λ_ _ e1 k=>k o e1⟩
theorem DtI.of (d:DtI H a o xs ks ys)(ok:HOk P w H h)(e:H a=some (kn a o)):h.DictOfH (tupleKind (jW P w)) a xs:=by
 obtain⟨h1,⟨es,ep,h2,h3⟩,h4⟩:=d.dn;refine⟨o,es,ep,kQ ok e,h1,h2,h3.trans (Bw d.kt d.key),?_,h4⟩;have all:∀{l:AA (AA L2.bX×V)} {m:AA (AA L2.bX×AD×AC)},KT H l m->∀x∈m,(tupleKind (jW P w)).is h x.1 x.2.1:=by
  intro l m q
  induction q with
  |nil=>intro x hx;exact nomatch hx
  | @cons p q ps qs hq t ih=>
   intro x hx;rcases qam.mp hx with e|hx
   ·subst e;exact Xe ok (by rw[<-hq.1];exact hq.2.1)
   ·exact ih x hx
 exact all d.kt
theorem DtN.of (d:DtI H a o xs ks ys)(rv:RelV v u)(hb:H b=some (.tup ((k.map kI).map kV)))(dd:h.DictOfH (tupleKind (jW P w)) a (storedH xs (k.map kI) b u)):∃o',h.get? a=some o'/\DtN o' (storedH xs (k.map kI) b u):=by
 obtain⟨o',es,ep,h1,h2,h3,h4,h5,h6⟩:=dd;have kt:=KT.put d.kt (k.map kI) hb rv;have key:∃ks':AA (AA Int),(fU ys (k.map kI) v).map (·.1)=ks'.map (·.map kI):=by
  unfold fU
  split
  ·refine⟨ks,?_⟩;rw[<-d.key,fA];refine mD λp _=>?_
   show(if p.1=k.map kI then(p.1,v)else p).1=p.1
   split<;>rfl
  ·exact⟨ks++[k],by rw[qb9,qb9,d.key];rfl⟩
 obtain⟨ks',key⟩:=key;exact⟨o',h1,h2,⟨es,ep,h3,h4.trans (Bw kt key).symm⟩,h6⟩
noncomputable def Itk (d:AD)(o:Obj)(xs:AA (AA L2.bX×AD×AC)):It:=
 ⟨λi H=>H d=some (kn d o)/\i<xs.length,λi H x H'=>H'=H/\∃q,xs[i]? =some q/\x= .ref q.2.1,λi H=>H d=some (kn d o)/\xs.length<=i⟩
theorem znp (d it:AD)(dn:DtN o xs):Turn P w K tg (Itk d o xs) [it] it (λi h=>∃es ep,o.data= .dict es ep/\h.IsKeyIter it d i xs.length ep) where
 mem:=by simp
 obj:=λi h ⟨es,ep,_,st⟩ b hb=>by
  have e:b=it:=by simpa using hb
  subst e;obtain⟨o,e,c,d⟩:=st;exact⟨o,e,λv z=>by rw[d]at z;cases z⟩
 keep:=λi h h' ⟨es,ep,q,st⟩ k=>⟨es,ep,q,st.at λo e=>k it (by simp) o e⟩
 item:=by
  intro X hP hw hK hc i AM s σ H E I hf ⟨es,ep,q,st⟩ hg;subst hP hw hK;have g:=kQ I.hok hg.1;obtain⟨h1,⟨es',ep',h2,he⟩,-⟩:=dn;rw[h2]at q;cases q;have hz:es.size=xs.length:=by have:=congrArg List.length he;simpa using this
  obtain⟨f0,f1,f2,f3,f4,f5⟩:=hf it (by simp);have hi:i<es.size:=by rw[hz];exact hg.2
  rw[<-hz]at st;refine qR st g h2 hi λh' st' sb=>?_
  have I1:Inv X AM σ H {s with heap:=h'}:=I.turned (t':=s.toks) (λb o hb e=>(sb.2 b hb).trans e) f0 f1 f3 f4 f5;obtain⟨o',e,c,d'⟩:=id st';have hx:xs[i]? =some (xs[i]'hg.2):=cI hg.2;have key:es[i].key= .ref (xs[i]'hg.2).2.1:=by
   have h1:es.toList[i]? =some es[i]:=by simp[hi]
   rw[he,eG,hx]at h1;rw[<-Option.some.inj h1]
  rw[key];exact⟨_,rfl,kT (s:={s with heap:=h'}) e c d' (by decide) ⟨.ref (xs[i]'hg.2).2.1,H,I1,rfl,⟨rfl,_,hx,rfl⟩,⟨es,ep,h2,by rw[<-hz];exact st'⟩,λb hb=>(hf b hb).1⟩⟩
 done:=by
  intro X hP hw hK hc i AM s σ H E I hf ⟨es,ep,q,st⟩ hg;subst hP hw hK;have g:=kQ I.hok hg.1;obtain⟨h1,⟨es',ep',h2,he⟩,-⟩:=dn;rw[h2]at q;cases q;have hz:es.size=xs.length:=by have:=congrArg List.length he;simpa using this
  obtain⟨f0,f1,f2,f3,f4,f5⟩:=hf it (by simp);rw[<-hz]at st;exact yS (I.ok.hd hc) st g h2 (by rw[hz];exact hg.2) λh' eb=>⟨rfl,I.turned (t':=s.toks) (λb o hb e=>eb b o hb e) f0 f1 f3 f4 f5⟩
 self:=λ_ _ _ _ _ ⟨_,_,_,st⟩ h=>wpAny_pyIter_keyiter st h
noncomputable def Le (tl:TE):TI:=λσ H R=>tl σ H λx H1=>∃d o xs,x= .ref d/\H1 d=some (kn d o)/\DtN o xs/\(d==sysModules)=false/\R (Itk d o xs) H1
theorem sL {X:Cx}{tg l:AI}{tl:TE}(hl:PE X l tl):PI X tg l (Le tl):=by
 intro AM s σ H R I h;refine bE (hl AM s σ H _ I h) λv s1 ⟨x,H1,I1,r1,q1⟩=>?_
 obtain⟨d,o,xs,e,hd,dn,ns,q⟩:=q1;subst e;cases r1;have g:=kQ I1.hok hd;obtain⟨h1,⟨es,ep,h2,he⟩,-⟩:=id dn;have hz:es.size=xs.length:=by have:=congrArg List.length he;simpa using this
 refine qA ns g h1 h2 ?_;refine⟨s1.heap.objs.size,[s1.heap.objs.size],_,_,H1,rfl,I1.kept (t':=s1.toks) λb o e=>bK _ e,znp d _ dn,⟨es,ep,h2,_,eL _ rfl,rfl,by rw[hz];rfl⟩,λb hb=>?_,q⟩;have e:b=s1.heap.objs.size:=by simpa using hb
 subst e;exact I1.fpOk (bZ _) (I1.hok.fresh (bZ _))
noncomputable def DtG (H:Hp)(x y:V)(r:AB V):Prop:=∃(a b:AD) (o:Obj) (xs:AA (AA L2.bX×AD×AC)) (ks:AA (AA Int)) (ys:AA (AA L2.bX×V)) (k:AA Int),x= .ref a/\y= .ref b/\H a=some (kn a o)/\DtI H a o xs ks ys/\H b=some (.tup ((k.map kI).map kV))/\r=fZ ys (k.map kI)
section
variable {X:Cx}{e i value:AI}{td ty tv:TE}{pos pos':Pos}
noncomputable def tDGT (td ty:TE):TE:=λσ H Q=>td σ H λx H1=>ty σ H1 λy H2=>∃v,DtG H2 x y (some v)/\Q v H2
theorem qP (hu:X.A.units+1<cLine)(ho:PE X e td)(hi:PE X i ty)(hs:Gu i):PE X (.Subscript e i pos) (tDGT td ty):=by
 intro AM s σ H Q I h;refine xJ PySem.F.slot_dict_getitem.lookup hs (bE (ho AM s σ H _ I h) λu s1 ⟨x,H1,I1,rx,q1⟩=>bE (hi AM s1 σ H1 _ I1 q1) λiv s2 ⟨y,H2,I2,ry,v,g,q2⟩=>?_);obtain⟨a,b,o,xs,ks,ys,k,rfl,rfl,g1,g2,g3,g4⟩:=g;obtain rfl:u=Value.ref a:=rx;obtain rfl:iv=Value.ref b:=ry;have dd:=g2.of I2.hok g1;obtain⟨w',hw,rw'⟩:=RelO.some_of (v:=v) (o:=(atKey xs (k.map kI)).map (·.2)) (by rw[g4];exact KT.val g2.kt _)
 obtain⟨p,hp,hp2⟩:=Option.map_eq_some_iff.mp hw;refine⟨dd.typeIs,wpAny_getItem_heap (qcC hu) (Xe I2.hok g3) dd hp ?_⟩;rw[hp2];exact⟨v,H2,I2.tok _,rw',q2⟩
noncomputable def DtP (ys:AA (AA L2.bX×V))(xs:AA (AA L2.bX×AD×AC))(b:AD)(k:AA Int)(v:V)(xs':AA (AA L2.bX×AD×AC)):Prop:=∀G:Hp,KT G ys xs->G b=some (.tup ((k.map kI).map kV))->KT G (fU ys (k.map kI) v) xs'
noncomputable def sDPt (td ty tv:TE):TS:=λD σ H=>tv σ H λv H1=>td σ H1 λx H2=>ty σ H2 λy H3=>∃(a b:AD) (o:Obj) (xs:AA (AA L2.bX×AD×AC)) (ks:AA (AA Int)) (ys:AA (AA L2.bX×V)) (k:AA Int),x= .ref a/\y= .ref b/\H3 a=some (kn a o)/\DtI H3 a o xs ks ys/\H3 b=some (.tup ((k.map kI).map kV))/\∀o' xs',DtN o' xs'->DtP ys xs b k v xs'->D.nx σ (upd H3 a (kn a o'))
theorem mU (hu:X.A.units+1<cLine)(ho:PE X e td)(hi:PE X i ty)(hv:PE X value tv)(hs:swapsWith value (some (.Subscript e i pos')) pos.line X.env=pure false):
  PS X (.Assign [.Subscript e i pos'] value pos) (sDPt td ty tv):=by
 intro AM s σ H D I h;refine wpAny_Assign_Subscript (bE (hv AM s σ H _ I h) λr s1 ⟨v,H1,I1,rv,q1⟩=>bE (ho AM s1 σ H1 _ I1 q1) λu s2 ⟨x,H2,I2,rx,q2⟩=>bE (hi AM s2 σ H2 _ I2 q2) λiv s3 ⟨y,H3,I3,ry,a,b,o,xs,ks,ys,k,e1,e2,g1,g2,g3,q3⟩=>?_) hs;subst e1 e2;obtain rfl:u=Value.ref a:=rx;obtain rfl:iv=Value.ref b:=ry;have hz:xs.length<=sizeLine:=by rw[<-Xg g2.kt];exact g2.len
 refine wpAny_setItem_heap (hsz:=hz) (qcC hu) (Xe I3.hok g3) (g2.of I3.hok g1) λh' dd' hs=>?_
 obtain⟨o',go,dn⟩:=DtN.of g2 rv g3 dd';exact⟨σ,_,wZ I3 (by rw[g1];exact True.intro) hs ⟨o',go⟩ (Cc go),q3 o' _ dn λG kt gb=>KT.put kt _ gb rv⟩
noncomputable def Ik:TE:=λ_ H Q=>∀p o,H p=none->(p==sysModules)=false->DtN o []->Q (.ref p) (upd H p (kn p o))
theorem nU:PE X (.Dict [] [] pos) Ik:=λAM s σ H Q I h=>
 wpAny_Dict_empty ⟨.ref s.heap.objs.size,_,I.laid (a:=s.heap.objs.size) (o:=kn s.heap.objs.size {cls:= .type "dict",data:= .dict #[]}) (t':=s.toks) (λ_ _ q=>bK _ q) (bZ _) (Cc (eL _ rfl)),rfl,h _ _ (I.hok.fresh (bZ _)) (qab.mpr (Ne.symm (gG I.big))) ⟨⟨rfl,rfl,rfl⟩,⟨#[],0,rfl,rfl⟩,Oy⟩⟩
end
noncomputable def Sl.dit:Sl->AB (AA (AA Int)×AA D)
 | .tre (.dit ks ds)=>some (ks,ds)
 | .val (.dit ks ds)=>some (ks,ds)
 |_=>none
noncomputable def iW:D->AB (AA Int)
 | .tup es=>hU es
 |_=>none
theorem SI.dit (I:SI K B G H σ ρ){s:Sl}(e:ρ[j]? =some s)(h:s.dit=some q):∃p ys o xs,σ[j]? =some (some (.ref p))/\H p=some (kn p o)/\DtI G p o xs q.1 ys/\RepL K G (ys.map (·.2)) q.2:=by
 have tr:∀{t:T},s.tree=some t->t= .dit q.1 q.2->∃p ys o xs,σ[j]? =some (some (.ref p))/\H p=some (kn p o)/\DtI G p o xs q.1 ys/\RepL K G (ys.map (·.2)) q.2:=λ{t} h1 h2=>by
  subst h2;obtain⟨v,A,k1,⟨p,ys,o,xs,rfl,e2,e3,e4,-⟩,_⟩:=I.tree e h1;exact⟨p,ys,o,xs,k1,e2,e3,e4⟩
 cases s with
 |tre t=>cases t with
  |dit ks ds=>obtain⟨rfl,rfl⟩:=bM h;exact tr rfl rfl
  |_=>exact aK h
 |val d=>cases d with
  |dit ks ds=>
   obtain⟨rfl,rfl⟩:=bM h;obtain⟨v,k1,a,ys,o,xs,rfl,e2,e3,e4⟩:=I.slot j _ e;exact⟨a,ys,o,xs,k1,I.fz _ _ e2,e3,e4⟩
  |_=>exact aK h
 |_=>exact aK h
theorem zmw (r:RepD K G v d)(e:iW d=some k):∃b,v= .ref b/\G b=some (.tup ((k.map kI).map kV)):=by
 cases d with
 |tup es=>
  obtain⟨b,xs,rfl,h,rl⟩:=r;cases Wq e;rw[RepL.ints_eq rl]at h;refine⟨b,rfl,h.trans ?_⟩;rw[fA]
  rfl
 |_=>exact aK e
noncomputable def mW (j:Nat)(mk:ME):ME:=λρ=>if(ρ[j]?.bind Sl.dit).isSome then(mk ρ).bind λp=>(iW p.1).bind λk=>(p.2[j]?.bind Sl.dit).bind λq=>(iQ q.1 q.2 k).map λd=>(d,p.2)else none
noncomputable def Fu (j:Nat)(mk me:ME):MS:=λρ=>(me ρ).bind λp=>if(p.2[j]?.bind Sl.dit).isSome then(mk p.2).bind λq=>(iW q.1).bind λk=>q.2[j]?.bind λs=>match s.tree with
  |some (.dit ks ds)=>if ks.length<16777216 then some (.next,q.2.set j (s.putT (.dit (jV ks ds k p.1).1 (jV ks ds k p.1).2)))else none
  |_=>none else none
noncomputable def Lr (i:Nat):MS:=λρ=>some (.next,ρ.set i (.tre (.dit [] [])))
noncomputable def Av (j:Nat):MA:=λρ=>match ρ[j]? with
 |some (.val (.dit ks ds))=>some (ks.map λk=> .tup (k.map .int),ρ)
 |_=>none
noncomputable def Vt (j:Nat):ME:=λρ=>match ρ[j]? with
 |some (.tre (.dit ks ds))=>some (.dit ks ds,ρ.set j (.val (.dit ks ds)))
 |some (.val d)=>some (d,ρ)
 |_=>none
section
variable {X:Cx}{x:Str}{a e:AI}{tg:AI}{mk me:ME}{pos p' tpos:Pos}
theorem zmP (j:Nat)(hu:X.A.units+64<cLine)(ha:SE X a mk)(hs:autoParam (Gu a) zu7._auto_1)(hN:autoParam (X.N[j]? =some x) zu2._auto_1)(hv:autoParam (dG X.env.scope x) zu6._auto_1)(hd:autoParam ((x==("__debug__":Str))=false) zu1._auto_1)(hcd:autoParam ((x==("__classdict__":Str))=false) zu1._auto_1):SE X (.Subscript (.Name x p') a pos) (mW j mk):=by
 refine ha.el λt pa sa=>?_
 refine⟨_,qP (by lia) (eE hN hv hd hcd) pa hs,λB G H σ ρ d ρ' Q I hm k=>?_⟩;unfold mW at hm;refine bC hm λhso hm=>?_
 ·skip
  obtain⟨q0,hso⟩:=qaP.mp hso;refine aM hso λs0 e0 d0=>?_
  obtain⟨p,_,_,_,k1,_⟩:=I.dit e0 d0;refine bN hm λy ρ1 e1 hm=>?_
  refine⟨.ref p,k1,sa B G H σ ρ y ρ1 _ I e1 λG1 H1 v I1 f1 r1=>?_⟩;refine aM hm λn en hm=>?_
  refine aM hm λq e2 hm=>?_
  refine dE hm λd' e3 e4=>?_
  cases e4;refine aM e2 λs e5 e6=>?_
  obtain⟨p',ys,o,xs,m1,m2,m3,m4⟩:=I1.dit e5 e6;rw[k1]at m1;cases m1;obtain⟨b,rfl,hb⟩:=zmw r1 en;obtain⟨w,h1,h2⟩:=zmb Wa m3.key m4 e3;exact⟨w,⟨p,b,o,xs,q.1,ys,n,rfl,rfl,m2,m3.mono I1.fz,I1.fz _ _ hb,h1.symm⟩,k G1 H1 w I1 f1 h2⟩
theorem DtI.put {p b:AD}{o o':Obj}{xs xs':AA (AA L2.bX×AD×AC)}{ys:AA (AA L2.bX×V)}(i:DtI G p o xs ks ys)(r:RepL K G (ys.map (·.2)) ds)(rv:RepD K G v d)(hl:ks.length<16777216)(hb:G b=some (.tup ((n.map kI).map kV)))(dn:DtN o' xs')(dp:DtP ys xs b n v xs'):DtI G p o' xs' (jV ks ds n d).1 (fU ys (n.map kI) v)/\RepL K G ((fU ys (n.map kI) v).map (·.2)) (jV ks ds n d).2:=by
 obtain⟨m1,m2⟩:=Lk Wa (j:=n) i.key r rv;have len:ys.length=ks.length:=by have:=congrArg List.length i.key;simpa using this
 refine⟨⟨i.sys,dn,?_,m1,dp G i.kt hb⟩,m2⟩;have:=zmk ys (n.map kI) v;rw[gF];lia
theorem pV (j:Nat)(hu:X.A.units+64<cLine)(he:SE X e me)(ha:SE X a mk)(hN:autoParam (X.N[j]? =some x) zu2._auto_1)(hv:autoParam (dG X.env.scope x) zu6._auto_1)(hd:autoParam ((x==("__debug__":Str))=false) zu1._auto_1)(hcd:autoParam ((x==("__classdict__":Str))=false) zu1._auto_1)(hs:autoParam (swapsWith e (some (.Subscript (.Name x p') a tpos)) pos.line X.env=pure false) zu2._auto_1):SS X (.Assign [.Subscript (.Name x p') a tpos] e pos) (Fu j mk me):=by
  refine ha.el λt pa sa=>?_
  refine he.el λu pe se=>?_
  refine⟨_,mU (by lia) (eE hN hv hd hcd) pa pe hs,λB G H σ ρ fl ρ' E I hm k=>?_⟩;refine bN hm λd ρ1 e1 hm=>?_
  refine se B G H σ ρ d ρ1 _ I e1 λG1 H1 v I1 f1 r1=>?_
  refine bC hm λhso hm=>?_
  . skip
    obtain⟨q0,hso⟩:=qaP.mp hso;refine aM hso λs0 e0 d0=>?_
    obtain⟨p,_,_,_,k1,_⟩:=I1.dit e0 d0;refine bN hm λy ρ2 e2 hm=>?_
    refine⟨.ref p,k1,sa B G1 H1 σ ρ1 y ρ2 _ I1 e2 λG2 H2 w I2 f2 r2=>?_⟩;refine aM hm λn en hm=>?_
    refine aM hm λs e3 hm=>?_
    split at hm
    . rename_i ks ds q
      refine bC hm λhl hm=>?_
      . skip
        obtain⟨rfl,rfl⟩:=bM hm;obtain⟨b,rfl,hb⟩:=zmw r2 en;obtain⟨v2,A,h1,h2,h3,h4,h5⟩:=I2.tree e3 q;rw[k1]at h1;cases h1;obtain⟨p2,ys,o,xs,z,g2,g3,g4,rfl⟩:=h2;cases z;refine⟨p,b,o,xs,ks,ys,n,rfl,rfl,g2,g3.mono I2.fz,I2.fz _ _ hb,λo' xs' dn dp=>?_⟩;obtain⟨m1,m2⟩:=g3.put g4 (r1.mono f2) hl hb dn dp;have rep:RepT X.K G2 (upd H2 p (kn p o')) (.ref p) (.dit (jV ks ds n d).1 (jV ks ds n d).2) [p]:=⟨p,_,o',xs',rfl,dU,m1,m2,rfl⟩;exact k G2 _ σ (I2.chT e3 q k1 ⟨p,ys,o,xs,rfl,g2,g3,g4,rfl⟩ (I2.fz.right (h4 p (by simp)) _) (λb o n h=>by rw[bF (λz=>n (by simp[z]))];exact h) (λb h=>by
          by_cases z:b=p
          . subst z;rw[dU]at h;cases h
          . rw[bF z]at h;exact h) rep (by simp) (λa m=> .inl m)) (f1.trans f2)
    . exact aK hm
theorem sU (i:Nat)(hN:X.N.Nodup)(hi:autoParam (X.N[i]? =some x) zu2._auto_1)(hx:autoParam (iO X.env.scope x) zu6._auto_1)(hs:autoParam (swapsWith (.Dict [] [] tpos) (some (.Name x p')) pos.line X.env=pure false) zu2._auto_1)(hf:autoParam (X.fn x=true\/X.env.scope.names.lookup x=some .local) zu6._auto_1):SS X (.Assign [.Name x p'] (.Dict [] [] tpos) pos) (Lr i):=by
  refine⟨_,Xb hN hi hx nU hs hf,λB G H σ ρ fl ρ' E I hm k=>?_⟩;obtain⟨rfl,rfl⟩:=bM hm;intro p o hp ns dn;have nw:Nw X.K G (upd H p (kn p o)) σ ρ p:=I.nw_move (I.nw hp) λi s a _ _ g h=>⟨g,bF λz=>h (by rw[z];exact hp)⟩
  exact k G _ _ ((I.allocO hp _).setT (A:=[p]) ⟨p,[],o,[],rfl,dU,⟨ns,dn,jR _,rfl,.nil⟩,RepL.nil,rfl⟩ (by simp) (λa m=>by
    have:a=p:=by simpa using m
    subst this;exact⟨I.fz.free hp,I.there a hp,nw⟩)) (Fz.refl G)
theorem SI.know (I:SI K B G H σ ρ)(e:ρ[j]? =some (.tre (.dit ks es))):∃p G',σ[j]? =some (some (.ref p))/\SI K B G' H σ (ρ.set j (.val (.dit ks es)))/\Fz G G'/\RepD K G' (.ref p) (.dit ks es):=by
 obtain⟨v,A,h1,⟨p,ys,o,xs,rfl,h2,h3,h4,rfl⟩,h5,h6⟩:=I.slot j _ e;obtain⟨g,hb⟩:=h6 p (by simp);have fz:=Fz.new g (kn p o);have rep:RepD K (upd G p (kn p o)) (.ref p) (.dit ks es):=⟨p,ys,o,xs,rfl,dU,h3.mono fz,h4.mono fz⟩;have I2:=I.chg (i:=j) (ov:=some (.ref p)) (s':= .val (.dit ks es)) (G':=upd G p (kn p o)) (H':=H) (λa u q=>by
   by_cases z:a=p
   ·subst z;rw[dU]at q;cases q;exact h2
   ·rw[bF z]at q;exact I.fz a u q) fz (λb u q=>by
   by_cases z:b=p
   ·subst z;exact .inr hb
   ·rw[bF z]at q;exact I.new b u q) I.keep I.there (λi t a z ei w g' _=>by
   have na:a≠p:=λq=>by subst q;exact I.dis i j t _ a z ei e w ⟨_,_,h1,⟨a,ys,o,xs,rfl,h2,h3,h4,rfl⟩,by simp⟩
   exact⟨by rw[bF na];exact g',rfl,id⟩) ⟨.ref p,rfl,rep⟩
 rw[vV h1]at I2;exact⟨p,_,h1,I2,fz,rep⟩
theorem wJ (j:Nat)(hN:autoParam (X.N[j]? =some x) zu2._auto_1)(hv:autoParam (dG X.env.scope x) zu6._auto_1)(hd:autoParam ((x==("__debug__":Str))=false) zu1._auto_1)(hcd:autoParam ((x==("__classdict__":Str))=false) zu1._auto_1):SE X (.Name x p') (Vt j):=by
 refine⟨_,eE hN hv hd hcd,λB G H σ ρ d ρ' Q I hm k=>?_⟩;unfold Vt at hm
 split at hm
 ·rename_i ks es e;obtain⟨rfl,rfl⟩:=bM hm;obtain⟨p,G',h1,h2,h3,h4⟩:=I.know e;exact⟨.ref p,h1,k _ _ _ h2 h3 h4⟩
 ·rename_i d' e;obtain⟨rfl,rfl⟩:=bM hm;obtain⟨v,h1,h2⟩:=I.slot j _ e;exact⟨v,h1,k G H v I (Fz.refl G) h2⟩
 ·exact aK hm
theorem rX (j:Nat)(hN:autoParam (X.N[j]? =some x) zu2._auto_1)(hv:autoParam (dG X.env.scope x) zu6._auto_1)(hd:autoParam ((x==("__debug__":Str))=false) zu1._auto_1)(hcd:autoParam ((x==("__classdict__":Str))=false) zu1._auto_1):SIt X tg (.Name x p') (Av j):=by
 refine⟨_,sL (eE hN hv hd hcd),λB G H σ ρ ds ρ' Q I hm k=>?_⟩;unfold Av at hm
 split at hm
 ·rename_i ks es e;obtain⟨rfl,rfl⟩:=bM hm;obtain⟨v,h1,p,ys,o,xs,rfl,h2,h3,h4⟩:=I.slot j _ e;have len:ys.length=ks.length:=by have:=congrArg List.length h3.key;simpa using this
  have len2:ys.length=xs.length:=Xg h3.kt;refine⟨.ref p,h1,p,o,xs,rfl,I.fz _ _ h2,h3.dn,h3.sys,k _ _ _ I (Fz.refl G) ⟨λH' i f hi=>⟨f _ _ h2,by simp at hi;lia⟩,λH' i x H'' f y d ed=>?_,λH' i f hi=>⟨f _ _ h2,by simp at hi;lia⟩⟩⟩;obtain⟨rfl,q,eq,rfl⟩:=y;refine .inl ⟨rfl,?_⟩;rw[eG]at ed;obtain⟨n,en,rfl⟩:=Os ed;have kt:∀{ys:AA (AA L2.bX×V)} {xs:AA (AA L2.bX×AD×AC)},KT G ys xs->∀{i:Nat} {q:AA L2.bX×AD×AC},xs[i]? =some q->∃y,ys[i]? =some y/\G q.2.1=some (.tup (y.1.map kV)):=by
   intro ys xs r
   induction r with
   |nil=>intro i q h;simp at h
   |cons h _ ih=>
    intro i q h2;cases i with
    |zero=>simp only[List.getElem?_cons_zero,Yw]at h2;subst h2;exact⟨_,rfl,h.2.1⟩
    |succ i=>exact ih (by simpa using h2)
  obtain⟨y,ey,hg⟩:=kt h3.kt eq;have h5:(ys.map (·.1))[i]? =(ks.map (·.map kI))[i]?:=by rw[h3.key]
  rw[eG,eG,ey,en]at h5;have h5:y.1=n.map kI:=by simpa using h5
  rw[h5,fA]at hg;exact⟨_,_,rfl,hg,RepL.ints n⟩
 ·exact aK hm
end
end M
namespace M
open L2 PySem PySem.Spec
open PyProof.Rows hiding St
variable {K:AF}{G H G' H':Hp}{g:D->R->AB R}{d:D}{ρ:R}{o:AB (AA D)}{C:Prop}{f:D->R->AB (AB (AA D)×R)}{ds:AA D}{out acc:AA (AA D)}{σ:St}{DD:AD}{xs:AA V}{A:AA AD}{wi:TI}{tg':AD->AE->Hp->AA AD->TG}{tt:AD->AE->Hp->AA AD->TT}{te:AD->AE->Hp->AA AD->TE}{x:Str}{apos cpos pc:Pos}{c:Int}{B:Bs}
noncomputable def fzDT (j:Nat)(ρ:R):R:=match ρ[j]? with
 |some (.tre (.dit ks ds))=>ρ.set j (.val (.dit ks ds))
 |_=>ρ
noncomputable def eCallU (F:AA D->AB Sl)(ma:MA):ME:=λρ=>(ma ρ).bind λp=>(F p.1).bind λr=>match r with
 | .tre (.tup cs)=>some (.tup (cs.map Ch.D),p.2)
 |_=>none
noncomputable def fzU (j:Nat)(ρ:R):R:=match ρ[j]? with
 |some (.tre (.tup cs))=>ρ.set j (.val (.tup (cs.map Ch.D)))
 |_=>ρ
noncomputable def nK (f:D->R->AB (AB (AA D)×R)):AA D->R->AB (AA (AA D)×R)
 |[],ρ=>some ([],ρ)
 |d::ds,ρ=>(f d ρ).bind λp=>(nK f ds p.2).map λq=>(p.1.toList++q.1,q.2)
noncomputable def Kq (g:D->R->AB R)(mt:MT)(mo:MO):D->R->AB (AB (AA D)×R):=λd ρ=>(g d ρ).bind λρ1=>(mt ρ1).bind λp=>if p.1 then(mo p.2).bind λq=>if fL q.2 then some (some q.1,q.2)else none else if fL p.2 then some (none,p.2)else none
noncomputable def Be (i:Nat)(cap:AA Nat)(t:Nat)(mi:MA)(g:D->R->AB R)(mt:MT)(mo:MO):MS:=λρ=>(mi ρ).bind λp=>if p.1.length<=16777216 then(nK (Kq g mt mo) p.1 (eN cap t (fzL cap p.2))).map λq=>(.next,(fzL cap p.2).set i (.tre (.lst (q.1.map .l))))else none
noncomputable def sP (i:Nat)(mo:MO):MS:=λρ=>match ρ[i]? with
 |some (.tre (.lst _))=>(mo ρ).bind λp=>match p.2[i]? with
  |some (.tre (.lst cs))=>if cs.length<16777216 then some (.next,p.2.set i (.tre (.lst (cs++[.l p.1]))))else none
  |_=>none
 |_=>none
noncomputable def Bo:AA Ch->AB (AA (AA D))
 |[]=>some []
 | .l ds::cs=>(Bo cs).map (ds:: ·)
 |_=>none
noncomputable def oX (i:Nat)(r:kE):kE:=λρ=>match ρ[i]? with
 |some (.tre (.lst cs))=>(Bo cs).bind λxss=>(r (ρ.set i .emp)).map λq=>(.t xss::q.1,q.2)
 |_=>none
noncomputable def zG (ma mb:MQ):MQ:=λρ=>(ma ρ).bind λa=>(mb ρ).bind λb=>match a,b with
 | .int i,.int j=>if 0<j then some (.int (i%j))else none
 |_,_=>none
noncomputable def Wk (j:Nat):MQ:=λρ=>match ρ[j]? with
 |some (.tre (.lst cs))=>some (.int cs.length)
 |_=>none
noncomputable def Xw (j n:Nat):MQ:=λρ=>match ρ[j]? with
 |some (.tre (.lst cs))=>match cs[n]? with
  |some (.l ds)=>some (.int ds.length)
  |_=>none
 |_=>none
noncomputable def sTG (j:Nat)(mi mk me:MQ):MS:=λρ=>(mi ρ).bind λa=>(mk ρ).bind λb=>(me ρ).bind λc=>match a,b,c,ρ[j]? with
 | .int n,.int m,.int z,some (.tre (.lst cs))=>(cB cs.length n).bind λu=>match cs[u]? with
  |some (.l ds)=>(cB ds.length m).bind λw=>match ds[w]? with
   |some (.int y)=>some (.next,ρ.set j (.tre (.lst (cs.set u (.l (ds.set w (.int (y+z))))))))
   |_=>none
  |_=>none
 |_,_,_,_=>none
noncomputable def yW (i:Nat)(ma:MA):MS:=λρ=>if(ρ[i]?.bind Sl.items).isSome then(ma ρ).bind λp=>p.2[i]?.bind λs=>s.items.bind λds=>match p.1 with
 |[.int k,d]=>if 0<=k/\k<=ds.length/\ds.length<16777216 then some (.next,p.2.set i (s.put (ds.take k.toNat++d::ds.drop k.toNat)))else none
 |_=>none else none
theorem zjY:∀{xs:AA V} {dss:AA (AA D)} {A:AA AD} {l:AD} {ys:AA V} {ds:AA D},RepTb K G H xs dss A->H l=some (.lst ys)->RepL K G ys ds->RepTb K G H (xs++[.ref l]) (dss++[ds]) (A++[l])
 |[],[],_,l,ys,ds,h,h1,h2=>by rw[show _=[]from h];exact⟨l,ys,[],rfl,h1,h2,rfl,rfl⟩
 |x::xs,e::dss,_,l,ys,ds,⟨r,zs,A2,e1,e2,e3,e4,e5⟩,h1,h2=>⟨r,zs,A2++[l],e1,e2,e3,zjY e4 h1 h2,by rw[e5];rfl⟩
 |[],_::_,_,_,_,_,h,_,_=>h.elim
 |_::_,[],_,_,_,_,h,_,_=>h.elim
theorem nQ {mt:MT}{mo:MO}{ρ ρ':R}(h:Kq g mt mo d ρ=some (o,ρ'))(k:∀ρ1 b ρ2,g d ρ=some ρ1->mt ρ1=some (b,ρ2)->((b=true/\∃dv,mo ρ2=some (dv,ρ')/\o=some dv)\/(b=false/\o=none/\ρ2=ρ'))->fL ρ'=true->C):C:=by
 unfold Kq at h;refine aM h λρ1 e1 h=>bN h λb ρ2 e2 h=>?_
 cases b with
 |true=>exact bN h λdv ρ3 e3 h=>bC h λz h=>vW h λq1 q2=>by subst q2;exact k ρ1 _ ρ2 e1 e2 (.inl ⟨rfl,dv,e3,q1.symm⟩) z
 |false=>exact bC h λz h=>vW h λq1 q2=>by subst q2;exact k ρ1 _ ρ2 e1 e2 (.inr ⟨rfl,q1.symm,rfl⟩) z
theorem znV {d:D}{ρ ρ':R}(h:nK f (d::ds) ρ=some (out,ρ'))(k:∀o ρ1 rest,f d ρ=some (o,ρ1)->nK f ds ρ1=some (rest,ρ')->out=o.toList++rest->C):C:=by
 simp only[nK]at h;exact bN h λo ρ1 e1 h=>gZ h λrest ρ2 e2 h=>by
  obtain⟨rfl,rfl⟩:=Prod.mk.inj h;exact k o ρ1 rest e1 e2 rfl
theorem zjR {Gc Hc G' H':Hp}(I:SI K ⟨Gc,Hc,[]⟩ G' H' σ ρ){b:AD}{o:HO}(g:Gc b=none)(h:Hc b=some o):G' b=none/\H' b=some o:=
 ⟨Vw λu q=>(I.new b u q).elim (λz=>z g) λz=>aK ((show Hc b=none from z).symm.trans h),I.keep b o h nofun⟩
structure TbA (K:W.Frag)(G H H1:Hp)(DD:Addr)(xs:List V)(acc:List (List D))(A:List Addr):Prop where
 ra:RepTb K G H xs acc A
 nd:A.Nodup
 fr:∀a∈A,G a=none/\H1 a=none/\a≠DD
theorem TbA.next {Gc Hc H1 G' H':Hp}(T:TbA K Gc Hc H1 DD xs acc A)(I:SI K ⟨Gc,Hc,[]⟩ G' H' σ ρ):TbA K G' H' H1 DD xs acc A where
 ra:=T.ra.move I.g0 λa m=>(T.ra.here m).elim λ_ z=>(zjR I (T.fr a m).1 z).2.trans z.symm
 nd:=T.nd
 fr:=λa m=>(T.ra.here m).elim λ_ z=>⟨(zjR I (T.fr a m).1 z).1,(T.fr a m).2⟩
theorem TbA.put {G H H1:Hp}(T:TbA K G H H1 DD xs acc A)(o:HO):TbA K G (upd H DD o) H1 DD xs acc A where
 ra:=T.ra.move (Fz.refl G) λa m=>bF (T.fr a m).2.2
 nd:=T.nd
 fr:=T.fr
theorem TbA.snoc {G H H1:Hp}{DD l:AD}{xs ys:AA V}(T:TbA K G H H1 DD xs acc A)(hl:H l=some (.lst ys))(r:RepL K G ys ds)(f:G l=none/\H1 l=none/\l≠DD)(lA:l∉A):TbA K G H H1 DD (xs++[.ref l]) (acc++[ds]) (A++[l]) where
 ra:=zjY T.ra hl r
 nd:=(qcx.mpr ⟨T.nd,qaO.mpr ⟨nofun,Oy⟩,λa ma b mb z=>lA ((qcs.mp mb) ▸ z ▸ ma)⟩)
 fr:=λa m=>(qan.mp m).elim (T.fr a) λm=>(qcs.mp m) ▸ f
section
variable {X:Cx}{elt iter tg:AI}{ifs:AA AI}{scope:Scope}{pos:Pos}{N:AA Str}{cap:AA Nat}{t:Nat}{mi:MA}{g:D->R->AB R}{mt:MT}{mo:MO}
theorem zpi (i0:Nat)(si:lU X tg iter mi wi)(sg:∀C s H₀ fp,Yq (cH X N scope C s H₀ fp) tg g (tg' C s H₀ fp))(st:∀C s H₀ fp,Ew (cH X N scope C s H₀ fp) ifs mt (tt C s H₀ fp))(se:∀C s H₀ fp,SOb (cH X N scope C s H₀ fp) elt mo (te C s H₀ fp)):
  ∀B G H σ ρ fl ρ' (E:Ends),SI X.K B G H σ ρ->Be i0 cap t mi g mt mo ρ=some (fl,ρ')->Post X.K B G E fl ρ'->Fb (cX cap t) wi tg' tt te σ H λv H'=>E.nx (σ.set i0 (some v)) H':=λB G H σ ρ fl ρ' E I hm k=>
 bN hm λitems ρ1 e1 hm=>si B G H σ ρ items ρ1 _ I e1 λJ G1 H1 I1 f1 IT DD hD=>bC hm λAO hm=>gZ hm λall ρf e2 e3=>by
  obtain⟨rfl,rfl⟩:=Prod.mk.inj e3;obtain⟨G2,I2,f2⟩:=SI.fzL cap I1;have AO:items.length<=16777216:=AO;refine⟨λi m σc Hc=>m=items.length-i/\i<=items.length/\∃Gc ρc acc xs A rest,LcG X.K [] G2 H1 DD Hc Gc xs/\TbA X.K Gc Hc H1 DD xs acc A/\xs.length<=i/\VS X.K Gc σc ρc/\nK (Kq g mt mo) (items.drop i) ρc=some (rest,ρf)/\all=acc++rest,
   ⟨items.length,rfl,jR _,G2,_,[],[],[],all,⟨Fz.refl _,I2.fz.right (I2.fz.free hD) _,λb o e=> .inl (by rw[e];exact nofun),λb o _ e=>(bF (jU e hD)).trans e,I2.fz.free hD,dU⟩,⟨rfl,Oy,nofun⟩,bZ _,Xz I2 cap t,e2,rfl⟩,?_⟩
  rintro i m σc Hc ⟨rfl,hi,Gc,ρc,acc,xs,A,rest,J0,T0,hx,vs,ec,eall⟩
  by_cases hlt:i<items.length
  ·refine .inr ⟨IT.go Hc i (f2.trans (J0.fc.trans J0.fcH)) hlt,λC s₀ H₀ fp x H' y=>?_⟩;rw[Xj hlt]at ec;refine znV ec λo ρ3 rest2 h3 h4 er=>nQ h3 λρ5 b ρ6 h5 h6 hb hok=>?_
   have f3':Fz G1 Gc:=f2.trans J0.fc;have yy2:(H'=Hc/\RepD X.K Gc x items[i])\/∃p xs es,Hc p=none/\H'=upd Hc p (.tup xs)/\x= .ref p/\items[i]= .tup es/\RepL X.K Gc xs es:=(IT.yld Hc i x H' (f3'.trans J0.fcH) y items[i] (cI hlt)).imp (λq=>⟨q.1,q.2.mono f3'⟩) λ⟨p,xs,es,a,b,c,d,e⟩=>⟨p,xs,es,a,b,c,d,e.mono f3'⟩
   obtain⟨G3,I3,f3,r3⟩:=(vs.si J0.fcH).yld yy2;refine sg C s₀ H₀ fp _ G3 H' σc ρc x items[i] ρ5 _ I3 r3 h5 λG4 H4 σ4 I4 f4=>st C s₀ H₀ fp _ G4 H4 σ4 ρ5 b ρ6 _ I4 h6 λG5 H5 I5 f5=>?_
   have hlt2:items.length-(i+1)<items.length-i:=by lia
   rcases hb with⟨rfl,dv,h7,rfl⟩|⟨rfl,rfl,rfl⟩
   ·refine se C s₀ H₀ fp _ G5 H5 σ4 ρ6 dv _ _ I5 h7 λG6 H6 l ys I6 f6 g6 h6l r6 b6 n6=>?_
    have b6:Hc l=none:=b6;have lD:l≠DD:=λz=>aK (b6.symm.trans (z ▸ J0.hDc))
    have J1:=J0.next nofun I6;exact⟨xs,J1.hDc,by rw[gF];lia,_,hlt2,rfl,hlt,G6,_,acc++[dv],xs++[.ref l],A++[l],rest2,J1.put hD _,((T0.next I6).put _).snoc ((bF lD).trans h6l) r6 ⟨g6,Vw λu q=>aK (b6.symm.trans (J0.kp l u nofun q)),lD⟩ λm=>(T0.ra.here m).elim λ_ z=>aK (b6.symm.trans z),by rw[eB,Ut];lia,VS.of I6 hok,h4,by rw[eall,er,qK];rfl⟩
   ·exact⟨_,hlt2,rfl,hlt,G5,_,acc,xs,A,rest2,J0.next nofun I5,T0.next I5,by lia,VS.of I5 hok,h4,by rw[eall,er];rfl⟩
  ·have e:i=items.length:=by lia
   subst e;rw[List.drop_length]at ec;obtain⟨q1,q2⟩:=bM ec;subst q1 q2;rw[lW]at eall;subst eall;have kp:Fz H1 Hc:=λb o e=>J0.kp b o nofun e
   refine .inl ⟨IT.stop Hc _ (f2.trans (J0.fc.trans J0.fcH)) (bZ _),k Gc Hc _ ((I2.grow J0.fc J0.fcH J0.nw kp).setT (i:=i0) (v:= .ref DD) (A:=DD::A) ⟨DD,xs,A,rfl,J0.hDc,sM T0.ra,rfl⟩ (qaO.mpr ⟨λm=>(T0.fr DD m).2.2 rfl,T0.nd⟩) λa m=>?_) (f1.trans (f2.trans J0.fc))⟩;rcases qam.mp m with rfl|m
   ·exact⟨J0.gD,I2.there a hD,I2.own_ne hD J0.nw kp⟩
   ·exact⟨(T0.fr a m).1,I2.there a (T0.fr a m).2.1,I2.own_ne (T0.fr a m).2.1 J0.nw kp⟩
theorem Mv (i:Nat){lpos pos':Pos}(cap:AA Nat)(t:Nat)(N:AA Str)(hc:X.calm=true)(hi:SIt X tg iter mi)(hg:∀C s H fp,SG (cH X N scope C s H fp) tg g)(ht:∀C s H fp,uG (cH X N scope C s H fp) ifs mt)(he:∀C s H fp,SO (cH X N scope C s H fp) elt mo)(hN:X.N.Nodup)(hxi:autoParam (X.N[i]? =some x) zu2._auto_1)(hx:autoParam (iO X.env.scope x) zu6._auto_1)(hf:autoParam (X.fn x=true\/X.env.scope.names.lookup x=some .local) zu6._auto_1)(hsw:autoParam (swapsWith (.ListComp elt [⟨tg,iter,ifs,0⟩] scope lpos) (some (.Name x pos')) pos.line X.env=pure true) zu2._auto_1)(hk:autoParam (scope.kind= .function) zu2._auto_1)(hb:autoParam (iI X.env scope=true) zu10._auto_1)(hcap:autoParam (iC scope.names N X.N cap t=true) zu10._auto_1)(hs:autoParam (∀x,foldedSetIterable iter X.env x=pure x) zu9._auto_1):SS X (.Assign [.Name x pos'] (.ListComp elt [⟨tg,iter,ifs,0⟩] scope lpos) pos) (Be i cap t mi g mt mo):=by
  refine hi.el λwi pi si=>?_
  exact⟨_,Vv hN hxi hx hf hsw hc (Jp hk hb) (Kg hcap) pi (λC s H fp=>(hg C s H fp).choose_spec.1) (λC s H fp=>(ht C s H fp).choose_spec.1) (λC s H fp=>(he C s H fp).choose_spec.1) hs,
    zpi i si (λC s H fp=>(hg C s H fp).choose_spec.2) (λC s H fp=>(ht C s H fp).choose_spec.2) (λC s H fp=>(he C s H fp).choose_spec.2)⟩
end
section
variable {X:Cx}{x y:Str}{pos p' q' tpos:Pos}{e a b:AI}{es:AA AI}{mo:MO}
theorem zmW (i:Nat)(ho:SO X e mo)(hN:autoParam (X.N[i]? =some x) zu2._auto_1)(hv:autoParam (dG X.env.scope x) zu6._auto_1)(hd:autoParam ((x==("__debug__":Str))=false) zu1._auto_1)(hcd:autoParam ((x==("__classdict__":Str))=false) zu1._auto_1)(hbase:autoParam (attributeBase (.Name x p') "append" X.env (eval (.Name x p') X.env)=eval (.Name x p') X.env) zu2._auto_1)(hfew :autoParam (((backTo cpos (starEach [e] X.env)).all (λx => !x.1) && (backToKw cpos (keywordEach [] X.env)).all (λx => x.1.isSome)
   &&decide ([e].length+([]:AA Keyword).length+(if([]:AA Keyword).isEmpty then 0 else 1)<30))=true) zu2._auto_1)(hline:autoParam ((apos.endLine==cpos.line)=true) zu2._auto_1)(hs:autoParam (starEach [e] X.env=(false,eval e X.env)::starEach [] X.env) zu2._auto_1):SS X (.Expr (.Call (.Attribute (.Name x p') "append" apos) [e] [] cpos) pos) (sP i mo):=by
 refine ho.el λte pe so=>?_
 refine⟨_,Ca (Ck Dd qbM qbN Yf (eE hN hv hd hcd) (gK pe iS hs) hbase hfew hline hs rfl) (by rfl),λB G H σ ρ fl ρ' E I hm k=>?_⟩;unfold sP at hm
 split at hm
 ·rename_i cs0 e0;obtain⟨v0,A0,q1,⟨p,xs0,A0',rfl,q2,q3,rfl⟩,-,-⟩:=I.slot i _ e0;refine bN hm λds ρ1 e1 hm=>?_
  dsimp only at hm
  split at hm
  ·rename_i cs e2;refine bC hm λhl hm=>?_
   ·skip
    obtain⟨rfl,rfl⟩:=bM hm;refine⟨.ref p,q1,.inl ⟨rfl,_,SqL.of q2⟩,so B G H σ ρ ds ρ1 _ I e1 λG1 H1 l ys I1 f1 g1 h1 r1 b1 n1=>?_⟩;obtain⟨v,A,k1,k2,k3,k4⟩:=I1.slot i _ e2;rw[q1]at k1;cases k1;have k2':=k2;obtain⟨p2,xs,A',z,w1,w2,rfl⟩:=k2;cases z;have lp:l≠p:=λz=>n1 i _ e2 ⟨_,_,q1,k2',by rw[z];simp⟩
    have lA:l∉A':=λm=>n1 i _ e2 ⟨_,_,q1,k2',by simp[m]⟩
    have pA:=(qaO.mp k3).1;refine⟨p,xs,.ref l,rfl,rfl,w1,by rw[lV w2,gF];exact hl,?_⟩;have rep:RepT X.K G1 (upd H1 p (.lst (xs++[.ref l]))) (.ref p) (.lst (cs++[.l ds])) (p::(A'++[l])):=
     ⟨p,_,A'++[l],rfl,dU,zjT (w2.move (Fz.refl G1) λa m=>bF λz=>pA (by rw[<-z];exact m)) ⟨l,ys,rfl,by rw[bF lp];exact h1,r1,rfl⟩,rfl⟩
    refine k G1 _ σ (I1.chT2 e2 q1 k2' (I1.fz.right (k4 p (by simp)).1 _) (λb o n h=>by rw[bF (λz=>n (by simp[z]))];exact h) (λb h=>?_) rep ?_ λa m=>?_) f1
    ·by_cases z:b=p
     ·subst z;rw[dU]at h;cases h
     ·rw[bF z]at h;exact h
    ·refine qaO.mpr ⟨λm=>?_,qcx.mpr ⟨(qaO.mp k3).2,by simp,λa ma b mb z=>?_⟩⟩
     ·rcases qan.mp m with m|m
      ·exact pA m
      ·exact lp (by simpa using m:p=l).symm
     ·have:b=l:=by simpa using mb
      subst this;subst z;exact lA ma
    ·rcases qam.mp m with rfl|m
     ·exact .inl (by simp)
     rcases qan.mp m with m|m
     ·exact .inl (by simp[m])
     ·have:a=l:=by simpa using m
      subst this;exact .inr ⟨g1,b1,n1⟩
  ·exact aK hm
 ·exact aK hm
theorem zpV:∀{cs:AA Ch} {xss:AA (AA D)},Bo cs=some xss->cs=xss.map .l
 |[],_,h=>by cases h;rfl
 | .l ds::cs,_,h=>by obtain⟨yss,e1,e2⟩:=Os h;cases e2;rw[zpV e1];rfl
 | .d _::_,_,h=>by exact aK h
 | .t _::_,_,h=>by exact aK h
theorem pG (i:Nat){r:kE}(hr:SP' X es r)(hN:autoParam (X.N[i]? =some x) zu2._auto_1)(hv:autoParam (dG X.env.scope x) zu6._auto_1)(hd:autoParam ((x==("__debug__":Str))=false) zu1._auto_1)(hcd:autoParam ((x==("__classdict__":Str))=false) zu1._auto_1)(hs:autoParam (starEach (.Name x p'::es) X.env=(false,eval (.Name x p') X.env)::starEach es X.env) zu2._auto_1):SP' X (.Name x p'::es) (oX i r):=by
 refine hr.el λu q z=>?_
 refine⟨_,gK (eE hN hv hd hcd) q hs,λB G H σ ρ cs ρ' Q I hm k=>?_⟩;unfold oX at hm
 split at hm
 ·rename_i cs0 e;refine aM hm λxss e0 hm=>?_
  refine gZ hm λcs1 ρ1 e1 e2=>?_
  cases e2;cases zpV e0;obtain⟨v,A0,h1,h2,h3,h4⟩:=I.slot i _ e;have h2':=h2;obtain⟨p,xs,A',rfl,g1,g2,rfl⟩:=h2;have I1:=I.emp i;have n1:∀a∈p::A',Nw X.K G H σ (ρ.set i .emp) a:=λa m=>zoh I e ⟨_,_,h1,h2',m⟩
  refine⟨.ref p,h1,z (B.re X.K G H σ (ρ.set i .emp)) G H σ _ cs1 ρ1 _ I1.re e1 λG1 H1 vs A J f1 r1 nd hA=>?_⟩;have st:∀a∈p::A',H1 a=H a/\G1 a=none/\Nw X.K G1 H1 σ ρ1 a:=λa m=>by
   obtain⟨o,ho⟩:=qbx.mp (h2'.here m);obtain⟨b1,b2,b3⟩:=I1.re_stays J ho (n1 a m) (h4 a m).1 (h4 a m).2;exact⟨b1.trans ho.symm,b2,b3⟩
  have nl:∀a∈p::A',a∉A:=λa m m'=>by
   obtain⟨o,ho⟩:=qbx.mp (h2'.here m);have hb:(B.re X.K G H σ (ρ.set i .emp)).H a=some o:=zmr ho (n1 a m);rw[(hA a m').2.1]at hb;exact aK hb
  refine k G1 H1 (.ref p::vs) ((p::A')++A) (I1.unre J) f1 ⟨p::A',A,⟨p,xs,A',rfl,by rw[(st p (by simp)).1];exact g1,(Dl g2).move f1 λa m=>(st a (by simp[m])).1,rfl⟩,r1,rfl⟩ (qcx.mpr ⟨h3,nd,λa ma b mb z=>nl a ma (by rw[z];exact mb)⟩) λa m=>?_
  rcases qan.mp m with m|m
  ·exact⟨(st a m).2.1,(h4 a m).2,(st a m).2.2⟩
  ·exact⟨(hA a m).1,Kc I1 (hA a m).2.1,(hA a m).2.2⟩
 ·exact aK hm
theorem sG {ma mb:MQ}(ha:SQ X a ma)(hb:SQ X b mb):SQ X (.BinOp a .Mod b pos) (zG ma mb):=by
 refine ha.el λta pa sa=>?_
 refine hb.el λtb pb sb=>?_
 refine⟨_,sJ mJ pa pb,λB G H σ ρ d Q I hm k=>?_⟩;refine aM hm λva e1 hm=>?_
 refine aM hm λvb e2 hm=>?_
 obtain⟨i,rfl⟩:∃n,va= .int n:=by cases va<;>first|exact⟨_,rfl⟩|exact aK hm
 obtain⟨j,rfl⟩:∃n,vb= .int n:=by cases vb<;>first|exact⟨_,rfl⟩|exact aK hm
 dsimp only at hm;refine bC hm λhj hm=>?_
 ·skip
  cases hm;refine sa B G H σ ρ _ _ I e1 λv1 r1=>sb B G H σ ρ _ _ I e2 λv2 r2=>?_
  exact⟨i,j,r1,r2,hj,k _ rfl⟩
theorem zB (j:Nat)(ml:X.mg "len"=none)(hN:autoParam (X.N[j]? =some x) zu2._auto_1)(hv:autoParam (dG X.env.scope x) zu6._auto_1)(hd:autoParam ((x==("__debug__":Str))=false) zu1._auto_1)(hcd:autoParam ((x==("__classdict__":Str))=false) zu1._auto_1)(hg:autoParam (Gl X "len") zu2._auto_1)(he:autoParam (starEach [.Name x p'] X.env=(false,eval (.Name x p') X.env)::starEach [] X.env) zu2._auto_1):SQ X (.Call (.Name "len" q') [.Name x p'] [] pos) (Wk j):=by
 refine⟨_,Iy Nf hg ml Nq (gK (eE hN hv hd hcd) iS he) (by decide) (by decide) he rfl,λB G H σ ρ d Q I hm k=>?_⟩;unfold Wk at hm
 split at hm
 ·rename_i cs e;cases hm;obtain⟨v,A,h1,⟨p,xs,A',rfl,g1,g2,rfl⟩,h3,h4⟩:=I.slot j _ e;refine⟨.ref p,h1,p,xs,rfl,.inl (SqL.of g1),?_⟩;rw[lV g2];exact k _ rfl
 ·exact aK hm
theorem uU (j n:Nat){j1}{ipos spos:Pos}(ml:X.mg "len"=none)(hN:autoParam (X.N[j]? =some x) zu2._auto_1)(hv:autoParam (dG X.env.scope x) zu6._auto_1)(hd:autoParam ((x==("__debug__":Str))=false) zu1._auto_1)(hcd:autoParam ((x==("__classdict__":Str))=false) zu1._auto_1)(hg:autoParam (Gl X "len") zu2._auto_1)(he:autoParam (starEach [.Subscript (.Name x p') (.Constant (.int n) j1 ipos) spos] X.env=(false,eval (.Subscript (.Name x p') (.Constant (.int n) j1 ipos) spos) X.env)::starEach [] X.env) zu2._auto_1)(hsi:autoParam (lL (.Constant (.int n) j1 ipos)) zu7._auto_1):SQ X (.Call (.Name "len" q') [.Subscript (.Name x p') (.Constant (.int n) j1 ipos) spos] [] pos) (Xw j n):=by
  refine⟨_,Iy Nf hg ml Nq (gK (oH ix_list (eE hN hv hd hcd) Vy hsi) iS he) (by decide) (by decide) he rfl,λB G H σ ρ d Q I hm k=>?_⟩;unfold Xw at hm
  split at hm
  . rename_i cs e
    split at hm
    . rename_i ds e2
      cases hm;obtain⟨v,A,h1,⟨p,xs,A',rfl,g1,g2,rfl⟩,h3,h4⟩:=I.slot j _ e;obtain⟨w,A1,q1,⟨l,ys,rfl,q2,q3,-⟩,-⟩:=uB g2 e2;have at1:atI xs (n:Int)=some (.ref l):=by
        obtain⟨hlt,hx⟩:=qap.mp q1;unfold atI cB;simp[hlt,hx]
      refine⟨.ref p,h1,p,xs,n,.ref l,rfl,rfl,SqL.of g1,at1,l,ys,rfl,.inl (SqL.of q2),?_⟩;rw[q3.length];exact k _ rfl
    . exact aK hm
  . exact aK hm
theorem zll:Ot X (Ga X.K):=by
 intro AM s σ H x y v u Q I rx ry h;obtain⟨p,xs,i,z,rfl,rfl,hq,he,q⟩:=h;cases rx;obtain⟨t,rfl⟩:=ry;obtain⟨its,r,pl,hz⟩:=I.list hq;obtain⟨j,h1,h2,h3,h4,h5⟩:=Vz he;obtain⟨w,ew,rw'⟩:=r.get h2;have hl:=r.length;have hn:=Cd;have fin:EP X AM σ Q w s:=⟨z,H,I,rw',q⟩
 by_cases h0:0<=i
 ·have hj:i.toNat=j:=by
   rw[seqIndex_of h0 h5]at h1;exact Option.some.inj h1
  exact wpAny_getItem_list pl.isList h0 (by lia) (by rw[hj];simpa using ew) fin
 ·have hj:(i+(its.toArray.size:Int)).toNat=j:=by
   rw[seqIndex_neg (by lia) h4]at h1;rw[cJ,<-hl];exact Option.some.inj h1
  exact wpAny_getItem_list_neg pl.isList (by lia) (by rw[cJ]<;>lia) (by lia) (by rw[hj];simpa using ew) fin
theorem Bi (j:Nat){mi mk me:MQ}(ha:SQ X a mi)(hb:SQ X b mk)(he:SQ X e me)(hN:autoParam (X.N[j]? =some x) zu2._auto_1)(hv:autoParam (dG X.env.scope x) zu6._auto_1)(hd:autoParam ((x==("__debug__":Str))=false) zu1._auto_1)(hcd:autoParam ((x==("__classdict__":Str))=false) zu1._auto_1)(hsa:autoParam (lL a) zu7._auto_1)(hau:autoParam (∀ov iv new,augStore b ov iv new=(do holding [new,ov,iv] (setItem ov iv new);release [new,ov,iv] [];pure .next)) zu4._auto_1):SS X (.AugAssign (.Subscript (.Subscript (.Name x p') a q') b tpos) .Add e pos) (sTG j mi mk me):=by
 refine ha.el λta pa sa=>?_
 refine hb.el λtb pb sb=>?_
 refine he.el λte pe se=>?_
 refine⟨_,zpx (oH ix_list (eE hN hv hd hcd) pa hsa) pb zll pe zpW Vc hau,λB G H σ ρ fl ρ' E I hm k=>?_⟩;refine aM hm λva e1 hm=>?_
 refine aM hm λvb e2 hm=>?_
 refine aM hm λvc e3 hm=>?_
 obtain⟨n,rfl⟩:∃n,va= .int n:=by cases va<;>first|exact⟨_,rfl⟩|exact aK hm
 obtain⟨m,rfl⟩:∃n,vb= .int n:=by cases vb<;>first|exact⟨_,rfl⟩|exact aK hm
 obtain⟨z,rfl⟩:∃n,vc= .int n:=by cases vc<;>first|exact⟨_,rfl⟩|exact aK hm
 split at hm
 ·rename_i x1 x2 x3 x4 n' m' z' cs y1 y2 y3 e4;cases y1;cases y2;cases y3;refine aM hm λu e5 hm=>?_
  split at hm
  ·rename_i ds e6;refine aM hm λw e7 hm=>?_
   split at hm
   ·rename_i yy e8;obtain⟨rfl,rfl⟩:=bM hm;obtain⟨v0,A,q1,q2,q3,q4⟩:=I.slot j _ e4;have q2':=q2;obtain⟨p,xs,A',rfl,g1,g2,rfl⟩:=q2;obtain⟨y,A1,j1,⟨l,ys,rfl,j2,j3,j4⟩,j5⟩:=uB g2 e6;have lA:l∈A':=j5 l (by rw[j4];simp);have nd:=qaO.mp q3;obtain⟨x0,x1,x2⟩:=j3.get e8;refine⟨.ref p,q1,sa B G H σ ρ _ _ I e1 λv1 w1=>?_⟩;refine⟨p,xs,n,.ref l,rfl,w1,SqL.of g1,uS (by rw[lV g2];exact e5) j1,sb B G H σ ρ _ _ I e2 λv2 w2=>?_⟩;refine⟨l,ys,m,x0,rfl,w2,SqL.of j2,uS (by rw[j3.length];exact e7) x1,se B G H σ ρ _ _ I e3 λv3 w3=>?_⟩;refine⟨yy,z,x2,w3,l,ys,m,w,rfl,w2,j2,by rw[j3.length];exact e7,?_⟩;have rep:RepT X.K G (upd H l (.lst (ys.set w (.int (yy+z))))) (.ref p) (.lst (cs.set u (.l (ds.set w (.int (yy+z)))))) (p::A'):=
     ⟨p,xs,A',rfl,by rw[bF λz=>nd.1 (by rw[z];exact lA)];exact g1,Mx g2 nd.2 e6 j1 (j3.set w rfl),rfl⟩
    refine k G _ σ (I.chT2 e4 q1 q2' (I.fz.right (q4 l (by simp[lA])).1 _) (λb o nb h=>by rw[bF (λz=>nb (by rw[z];simp[lA]))];exact h) (λb h=>?_) rep q3 λa m=> .inl m) (Fz.refl G)
    by_cases z:b=l
    ·subst z;rw[dU]at h;cases h
    ·rw[bF z]at h;exact h
   ·exact aK hm
  ·exact aK hm
 ·exact aK hm
noncomputable def vP:V->AA V->Hp->VK->Prop:=λx vs H Q=>∃l xs y k,x= .ref l/\vs=[.int k,y]/\H l=some (.lst xs)/\0<=k/\k<=xs.length/\xs.length<sizeLine/\Q .non (upd H l (.lst (xs.take k.toNat++y::xs.drop k.toNat)))
theorem zpj:Xh X "list.insert" vP:=by
 intro AM s σ H x vs v us Q I rx rv h;obtain⟨l,xs,y,k,rfl,rfl,hH,hk,hk2,hz,q⟩:=h;cases rx;obtain⟨u1,u2,rfl,ru1,ru2⟩:=rv.two;obtain⟨t,rfl⟩:=ru1;obtain⟨z,its,n,r,hl,e⟩:=I.lstM hH;have hn:=Cd;have hc0:¬(!Builtin.List.listFitsIndex k)=true:=by
  have h1:(-(2^63:Int))<=k:=by lia
  have h2:k<2^63:=by lia
  have h3:Builtin.List.listFitsIndex k=true:=by
   unfold Builtin.List.listFitsIndex;rw[fJ];exact⟨iP h1,iP h2⟩
  rw[h3]
  decide
 refine Mh F.slot_list_insert ⟨_,e,rfl⟩ F.entry_list_insert (F.args_list_insert_3 _ _ _) (AutoSeq1.list_insert_list_int_val_1 l its.toArray n k t u2 hc0 (by rw[cJ];lia)) ⟨e,?_⟩;refine⟨.non,_,I.lset (its':=its.take k.toNat++u2::its.drop k.toNat) hH e ?_ ((r.take k.toNat).append (.cons ru2 (r.drop k.toNat))) ?_,rfl,q⟩
 ·have h3:¬k<0:=by lia
  have h4:min k.toNat its.length=k.toNat:=by lia
  simp[h3,h4];exact uE (by rw[pT];exact bZ _)
 ·rw[eB,eW,kO,pT];lia
theorem Ft (i:Nat){ma:MA}{e1 e2:AI}(he:SA X [e1,e2] ma)(hN:autoParam (X.N[i]? =some x) zu2._auto_1)(hv:autoParam (dG X.env.scope x) zu6._auto_1)(hd:autoParam ((x==("__debug__":Str))=false) zu1._auto_1)(hcd:autoParam ((x==("__classdict__":Str))=false) zu1._auto_1)(hbase:autoParam (attributeBase (.Name x p') "insert" X.env (eval (.Name x p') X.env)=eval (.Name x p') X.env) zu2._auto_1)(hfew :autoParam (((backTo cpos (starEach [e1, e2] X.env)).all (λx => !x.1) && (backToKw cpos (keywordEach [] X.env)).all (λx => x.1.isSome)
   &&decide ([e1,e2].length+([]:AA Keyword).length+(if([]:AA Keyword).isEmpty then 0 else 1)<30))=true) zu2._auto_1)(hline:autoParam ((apos.endLine==cpos.line)=true) zu2._auto_1)(hs:autoParam (starEach [e1,e2] X.env=(false,eval e1 X.env)::starEach [e2] X.env) zu2._auto_1)(hpl:autoParam ((backTo cpos (starEach [e2] X.env)).any (·.1)=false) zu2._auto_1):SS X (.Expr (.Call (.Attribute (.Name x p') "insert" apos) [e1,e2] [] cpos) pos) (yW i ma):=by
 refine he.el λt p s=>?_
 refine⟨_,Ca (Ck Dd PySem.F.slot_list_insert PySem.F.type_list_insert zpj (eE hN hv hd hcd) p hbase hfew hline hs hpl) (by rfl),λB G H σ ρ fl ρ' E I hm k=>?_⟩;unfold yW at hm;refine bC hm λhso hm=>?_
 ·skip
  obtain⟨ds0,hso⟩:=qaP.mp hso;refine aM hso λs0 e0 q0=>?_
  obtain⟨l,xs0,h1,h2,h3,h4⟩:=I.wr e0 q0;refine bN hm λas ρ1 e1 hm=>?_
  refine aM hm λs1 e2 hm=>?_
  refine aM hm λds e3 hm=>?_
  dsimp only at hm
  split at hm
  ·rename_i kk d y1 y2;refine bC hm λhl hm=>?_
   ·skip
    obtain⟨rfl,rfl⟩:=bM hm;refine⟨.ref l,h1,.inl ⟨rfl,_,SqL.of h3⟩,s B G H σ ρ _ ρ1 _ I e1 λG1 H1 vs I1 f1 r1=>?_⟩;obtain⟨v1,v2,rfl,w1,w2⟩:=r1.two;cases(show v1=V.int kk from w1);obtain⟨l',xs,k1,k2,k3,k4⟩:=I1.wr e2 e3;rw[h1]at k1;cases k1;refine⟨l,xs,v2,kk,rfl,rfl,k3,hl.1,by rw[k4.length];exact hl.2.1,by rw[k4.length,gF];exact hl.2.2,?_⟩;exact k G1 _ σ (I1.write e2 e3 h1 ((k4.take _).append (.cons w2 (k4.drop _)))) f1
  ·exact aK hm
end
noncomputable def lB (j:Nat)(c:Int)(mk:ME):ME:=λρ=>if(ρ[j]?.bind Sl.dit).isSome then(mk ρ).bind λp=>(iW p.1).bind λk=>(p.2[j]?.bind Sl.dit).map λq=>((iQ q.1 q.2 k).getD (.int c),p.2)else none
noncomputable def eQ (m:MQ):ME:=λρ=>(m ρ).map λd=>(d,ρ)
section
variable {X:Cx}{o e f a b:AI}{td ty:TE}{apos cpos pos:Pos}
noncomputable def Ry (td ty:TE)(c:Int):TE:=λσ H Q=>td σ H λx H1=>(∃(a:AD) (o:Obj) (xs:AA (AA L2.bX×AD×AC)) (ks:AA (AA Int)) (ys:AA (AA L2.bX×V)),x= .ref a/\H1 a=some (kn a o)/\DtI H1 a o xs ks ys)/\ty σ H1 λy H2=>∃r,DtG H2 x y r/\Q (r.getD (.int c)) H2
theorem zoY {jc}(hu:X.A.units+1<cLine)(ho:PE X o td)(he:PE X e ty)(m:M2 X o "get" apos e (.Constant (.int c) jc pc) cpos):PE X (.Call (.Attribute o "get" apos) [e,.Constant (.int c) jc pc] [] cpos) (Ry td ty c):=by
 intro AM s σ H Q I h;refine wpAny_Call_method m.base m.few m.line PySem.F.plainAttrs_dict PySem.F.slot_dict_get PySem.F.type_dict_get (bE (ho AM s σ H _ I h) λu s1 ⟨x,H1,I1,rx,⟨a,ob,xs,ks,ys,ex,d1,d2⟩,q1⟩=>?_);subst ex;obtain rfl:u=Value.ref a:=rx;have dd1:=d2.of I1.hok d1;refine⟨dd1.typeIs,λb q=>?_,?_⟩
 ·cases q;obtain⟨ob,_,_,h1,h2,_⟩:=dd1;exact⟨ob,h1,h2.2.1⟩
 rw[m.trees];refine Calls.callWith_builtin rfl (Calls.evalArgs_plain (qaL (bE (he AM s1 σ H1 _ I1 q1) λiv s2 ⟨y,H2,I2,ry,r,g,q2⟩=>
  qaL (bE ((Vy (i:=c) (j:=jc) (pos:=pc)) AM s2 σ H2 (λv H'=>v= .int c/\H'=H2) I2 ⟨rfl,rfl⟩) λfv s3 ⟨z,H3,I3,rz,ez,eH⟩=>Calls.spliced_nil ?_))))
 subst ez;subst eH;obtain⟨a',b,o',xs',ks',ys',k,ex,rfl,g1,g2,g3,g4⟩:=g;cases ex;obtain rfl:iv=Value.ref b:=ry;have dd:=g2.of I3.hok g1;refine call_meetsIn PySem.F.slot_dict_get dd.typeIs PySem.F.entry_dict_get (PySem.F.args_dict_get_3 _ _ _) (meetsH_dict_get_default (tupleKind (jW X.prog X.w)) a b g2.sys fv) ⟨qcC hu,k.map kI,xs',Xe I3.hok g3,dd,?_⟩;refine⟨_,H3,I3.tok _,?_,q2⟩;rw[g4];exact(KT.val g2.kt _).getD rz
variable {x:Str}{mk:ME}{p':Pos}
theorem zpp (j:Nat){jc}(hu:X.A.units+64<cLine)(ha:SE X a mk)(m:M2 X (.Name x p') "get" apos a (.Constant (.int c) jc pc) pos)(hN:autoParam (X.N[j]? =some x) zu2._auto_1)(hv:autoParam (dG X.env.scope x) zu6._auto_1)(hd:autoParam ((x==("__debug__":Str))=false) zu1._auto_1)(hcd:autoParam ((x==("__classdict__":Str))=false) zu1._auto_1):SE X (.Call (.Attribute (.Name x p') "get" apos) [a,.Constant (.int c) jc pc] [] pos) (lB j c mk):=by
 refine ha.el λt pa sa=>?_
 refine⟨_,zoY (show X.A.units+1<cLine by lia) (eE hN hv hd hcd) pa m,λB G H σ ρ d ρ' Q I hm k=>?_⟩;unfold lB at hm;refine bC hm λhso hm=>?_
 ·skip
  obtain⟨q0,hso⟩:=qaP.mp hso;refine aM hso λs0 e0 d0=>?_
  obtain⟨p,ys0,o0,xs0,k1,k2,k3,_⟩:=I.dit e0 d0;refine bN hm λy ρ1 e1 hm=>?_
  refine⟨.ref p,k1,⟨p,o0,xs0,_,ys0,rfl,k2,k3.mono I.fz⟩,sa B G H σ ρ y ρ1 _ I e1 λG1 H1 v I1 f1 r1=>?_⟩;refine aM hm λn en hm=>?_
  refine dE hm λq e2 hm=>?_
  cases hm;refine aM e2 λs e5 e6=>?_
  obtain⟨p',ys,o,xs,m1,m2,m3,m4⟩:=I1.dit e5 e6;rw[k1]at m1;cases m1;obtain⟨b,rfl,hb⟩:=zmw r1 en;refine⟨fZ ys (n.map kI),⟨p,b,o,xs,q.1,ys,n,rfl,rfl,m2,m3.mono I1.fz,I1.fz _ _ hb,rfl⟩,?_⟩;cases h:iQ q.1 q.2 n with
  |none=>rw[h]at k;rw[zn3 Wa m3.key m4 h];exact k G1 H1 _ I1 f1 rfl
  |some d=>rw[h]at k;obtain⟨w,h1,h2⟩:=zmb Wa m3.key m4 h;rw[h1];exact k G1 H1 w I1 f1 h2
theorem SQ.se {m:MQ}(h:SQ X e m):SE X e (eQ m):=by
 refine h.el λt p s=>?_
 refine⟨t,p,λB G H σ ρ d ρ' Q I hm k=>?_⟩;refine dE hm λd' e1 e2=>?_
 cases e2;exact s B G H σ ρ d _ I e1 λv r=>k G H v I (Fz.refl G) r
end
noncomputable def sRv (i:Nat):MS:=λρ=>match ρ[i]? with
 |some (.own ds)=>some (.next,ρ.set i (.own ds.reverse))
 |_=>none
noncomputable def xM (j:Nat)(mi mq:MQ)(me:ME):MS:=λρ=>if fL (ρ.set j .emp)then(mi ρ).bind λa=>(mq ρ).bind λb=>(me (ρ.set j .emp)).bind λp=>match a,b,p.1,ρ[j]? with
 | .int n,.int m,.int z,some (.tre (.lst cs))=>(cB cs.length n).bind λu=>match cs[u]? with
  |some (.l ds)=>(cB ds.length m).bind λw=>match ds[w]? with
   |some (.int y)=>some (.next,ρ.set j (.tre (.lst (cs.set u (.l (ds.set w (.int (y+z))))))))
   |_=>none
  |_=>none
 |_,_,_,_=>none else none
section
variable {X:Cx}{x:Str}{pos p' q' tpos:Pos}{a b e:AI}
theorem Qm (I:SI K B G H σ ρ)(h:fL ρ=true):SI K ⟨G,H,[]⟩ G H σ ρ where
 fz:=I.fz
 g0:=Fz.refl G
 new:=λb o q=> .inl (by rw[show(⟨G,H,[]⟩:Bs).G b=G b from rfl,q];simp)
 keep:=λb o q _=>q
 there:=λb q=>q
 len:=I.len
 ob:=λi b m=>by simp at m
 slot:=λi s q=>by
  have r:=I.slot i s q;have t:=Ic h q;have w:=Fq h (i:=i);cases s with
  |tre t'=>exact AH rfl (t.1 t')
  |ptr t'=>exact AH rfl (t.2 t')
  |own ds=>exact AH ⟨_,ds,q,rfl⟩ w
  |par ds=>exact AH ⟨_,ds,q,rfl⟩ w
  |_=>exact r
 dis:=λi j s t a _ q _ w=>AH w (Yt h q)
theorem rY (j:Nat){mi mk:MQ}{me:ME}(ha:SQ X a mi)(hb:SQ X b mk)(he:SE X e me)(hN:autoParam (X.N[j]? =some x) zu2._auto_1)(hv:autoParam (dG X.env.scope x) zu6._auto_1)(hd:autoParam ((x==("__debug__":Str))=false) zu1._auto_1)(hcd:autoParam ((x==("__classdict__":Str))=false) zu1._auto_1)(hsa:autoParam (lL a) zu7._auto_1)(hau:autoParam (∀ov iv new,augStore b ov iv new=(do holding [new,ov,iv] (setItem ov iv new);release [new,ov,iv] [];pure .next)) zu4._auto_1):SS X (.AugAssign (.Subscript (.Subscript (.Name x p') a q') b tpos) .Add e pos) (xM j mi mk me):=by
 refine ha.el λta pa sa=>?_
 refine hb.el λtb pb sb=>?_
 refine he.el λte pe se=>?_
 refine⟨_,zpx (oH ix_list (eE hN hv hd hcd) pa hsa) pb zll pe zpW Vc hau,λB G H σ ρ fl ρ' E I hm k=>?_⟩;unfold xM at hm;refine bC hm λno hm=>?_
 ·skip
  refine aM hm λva e1 hm=>?_
  refine aM hm λvb e2 hm=>?_
  refine bN hm λvc ρ3 e3 hm=>?_
  dsimp only at hm;obtain⟨n,rfl⟩:∃n,va= .int n:=by cases va<;>first|exact⟨_,rfl⟩|exact aK hm
  obtain⟨m,rfl⟩:∃n,vb= .int n:=by cases vb<;>first|exact⟨_,rfl⟩|exact aK hm
  obtain⟨z,rfl⟩:∃n,vc= .int n:=by cases vc<;>first|exact⟨_,rfl⟩|exact aK hm
  split at hm
  ·rename_i x1 x2 x3 x4 n' m' z' cs y1 y2 y3 e4;cases y1;cases y2;cases y3;refine aM hm λu e5 hm=>?_
   split at hm
   ·rename_i ds e6;refine aM hm λw e7 hm=>?_
    split at hm
    ·rename_i yy e8;obtain⟨rfl,rfl⟩:=bM hm;obtain⟨v0,A,q1,q2,q3,q4⟩:=I.slot j _ e4;have q2':=q2;obtain⟨p,xs,A',rfl,g1,g2,rfl⟩:=q2;obtain⟨y,A1,j1,⟨l,ys,rfl,j2,j3,j4⟩,j5⟩:=uB g2 e6;have lA:l∈A':=j5 l (by rw[j4];simp);have nd:=qaO.mp q3;obtain⟨x0,x1,x2⟩:=j3.get e8;refine⟨.ref p,q1,sa B G H σ ρ _ _ I e1 λv1 w1=>?_⟩;refine⟨p,xs,n,.ref l,rfl,w1,SqL.of g1,uS (by rw[lV g2];exact e5) j1,sb B G H σ ρ _ _ I e2 λv2 w2=>?_⟩;refine⟨l,ys,m,x0,rfl,w2,SqL.of j2,uS (by rw[j3.length];exact e7) x1,?_⟩;refine se _ G H σ _ _ ρ3 _ (Qm (I.emp j) no) e3 λG1 H1 v3 J1 f1 w3=>?_
     have kp:Fz H H1:=λb o q=>J1.keep b o q λi m=>by simp at m
     have nw:∀b o,G1 b=some o->G b≠none\/H b=none:=λb o q=>J1.new b o q
     have I1:=I.grow f1 J1.fz nw kp;have kpA:∀a∈p::A',H1 a=H a:=λa m=>by
      obtain⟨o,ho⟩:=qbx.mp (q2'.here m);rw[ho];exact kp _ _ ho
     have h2n:=q2'.move f1 kpA;have g2n:RepCs X.K G1 H1 xs cs A':=g2.move f1 λa m=>kpA a (by simp[m])
     refine⟨yy,z,x2,w3,l,ys,m,w,rfl,w2,kp _ _ j2,by rw[j3.length];exact e7,?_⟩;have rep:RepT X.K G1 (upd H1 l (.lst (ys.set w (.int (yy+z))))) (.ref p) (.lst (cs.set u (.l (ds.set w (.int (yy+z)))))) (p::A'):=
      ⟨p,xs,A',rfl,by rw[bF λz=>nd.1 (by rw[z];exact lA)];exact kp _ _ g1,Mx g2n nd.2 e6 j1 ((j3.mono f1).set w rfl),rfl⟩
     have gl:G1 l=none:=by
      obtain⟨v5,A5,r1,r2,r3,r4⟩:=I1.slot j _ e4;rw[q1]at r1;cases r1;have:A5=p::A':=r2.det h2n λ_ _=>rfl
      exact(r4 l (by rw[this];simp[lA])).1
     refine k G1 _ σ (I1.chT2 e4 q1 h2n (I1.fz.right gl _) (λb o nb h=>by rw[bF (λz=>nb (by rw[z];simp[lA]))];exact h) (λb h=>?_) rep q3 λa m=> .inl m) f1
     by_cases z:b=l
     ·subst z;rw[dU]at h;cases h
     ·rw[bF z]at h;exact h
    ·exact aK hm
   ·exact aK hm
  ·exact aK hm
end
noncomputable def Lm (b c:Nat)(ρ:R):Bool:=match ρ[b]?,ρ[c]? with
 |some (.par _),some (.par _)=>fL ((ρ.set b .emp).set c .emp)
 |_,_=>false
noncomputable def lG (b c:Nat)(g:D->R->AB R)(mt:MT)(me:ME):D->R->AB (AB D×R):=λd ρ=>(g d ρ).bind λρ1=>(mt ρ1).bind λp=>if p.1 then(me p.2).bind λq=>if Lm b c q.2 then some (some q.1,q.2)else none else if Lm b c p.2 then some (none,p.2)else none
noncomputable def zP (cap:AA Nat)(t b w c v:Nat)(mi:MA)(g:D->R->AB R)(mt:MT)(me:ME):MO:=λρ=>(mi ρ).bind λp=>if p.1.length<=16777216 then
  ((fzL (cap.filter λi=>i !=w&&i !=v) p.2)[w]?).bind λs=>s.items.bind λcs=>((fzL (cap.filter λi=>i !=w&&i !=v) p.2)[v]?).bind λs2=>s2.items.bind λcs2=>
   (gH (lG b c g mt me) p.1 (((eN cap t (fzL (cap.filter λi=>i !=w&&i !=v) p.2)).set b (.par cs)).set c (.par cs2))).map λq=>(q.1,((fzL (cap.filter λi=>i !=w&&i !=v) p.2).set w (s.put (lJ b q.2))).set v (s2.put (lJ c q.2)))
 else none
theorem VS.siQ {b c:Nat}{cs cs2:AA D}{l l2:AD}{ys ys2:AA V}(h:VS K G σ ((ρ.set b .emp).set c .emp))(fz:Fz G H)(hbc:b≠c)(ll:l≠l2)(hb:ρ[b]? =some (.par cs))(hs:σ[b]? =some (some (.ref l)))(gl:G l=none)(hl:H l=some (.lst ys))(r:RepL K G ys cs)(hb2:ρ[c]? =some (.par cs2))(hs2:σ[c]? =some (some (.ref l2)))(gl2:G l2=none)(hl2:H l2=some (.lst ys2))(r2:RepL K G ys2 cs2):SI K ⟨G,H,[(b,l),(c,l2)]⟩ G H σ ρ where
 fz:=fz
 g0:=Fz.refl G
 new:=λb o e=> .inl (by show G b≠none;rw[e];simp)
 keep:=λb o e _=>e
 there:=λb e=>e
 ob:=λi d m=>by
  have:(i=b/\d=l)\/(i=c/\d=l2):=by simpa using m
  rcases this with z|z
  ·rw[z.2];show H l≠none;rw[hl];simp
  ·rw[z.2];show H l2≠none;rw[hl2];simp
 len:=by rw[h.len,fR,fR]
 slot:=λi s e=>by
  by_cases z:i=b
  ·subst z;rw[hb]at e;cases e;exact⟨l,ys,hs,gl,hl,r,by simp⟩
  ·by_cases z2:i=c
   ·subst z2;rw[hb2]at e;cases e;exact⟨l2,ys2,hs2,gl2,hl2,r2,by simp⟩
   ·have e':((ρ.set b .emp).set c .emp)[i]? =some s:=by rw[iF (Ne.symm z2),iF (Ne.symm z)];exact e
    cases s with
    |emp=>trivial
    |two _ _=>trivial
    |tre t=>exact AH rfl ((Ic h.no e').1 t)
    |ptr t=>exact AH rfl ((Ic h.no e').2 t)
    |val d=>exact h.val i d e'
    |own ds=>exact AH ⟨_,ds,e',rfl⟩ (Fq h.no (i:=i))
    |par ds=>exact AH ⟨_,ds,e',rfl⟩ (Fq h.no (i:=i))
 dis:=λi j s t a hij e1 e2 w1 w2=>by
  have key:∀(i:Nat) (s:Sl),ρ[i]? =some s->fD K G H σ[i]? a s->(i=b/\a=l)\/(i=c/\a=l2):=λi s e w=>by
   by_cases z:i=b
   ·subst z;rw[hb]at e;cases e;have w:σ[i]? =some (some (.ref a)):=w;rw[hs]at w;exact .inl ⟨rfl,(V.ref.inj (Option.some.inj (Option.some.inj w))).symm⟩
   ·by_cases z2:i=c
    ·subst z2;rw[hb2]at e;cases e;have w:σ[i]? =some (some (.ref a)):=w;rw[hs2]at w;exact .inr ⟨rfl,(V.ref.inj (Option.some.inj (Option.some.inj w))).symm⟩
    ·exact AH w (Yt h.no (show((ρ.set b .emp).set c .emp)[i]? =some s by rw[iF (Ne.symm z2),iF (Ne.symm z)];exact e))
  rcases key i s e1 w1 with⟨z1,z2⟩|⟨z1,z2⟩<;>rcases key j t e2 w2 with⟨y1,y2⟩|⟨y1,y2⟩
  ·exact hij (z1.trans y1.symm)
  ·exact ll (z2.symm.trans y2)
  ·exact ll (y2.symm.trans z2)
  ·exact hij (z1.trans y1.symm)
theorem VS.ofQ {b c:Nat}{l l2:AD}(I:SI K B G H σ ρ)(hbc:b≠c)(hO:B.O=[(b,l),(c,l2)])(h:Lm b c ρ=true):
  ∃cs ys cs2 ys2,(ρ[b]? =some (.par cs)/\σ[b]? =some (some (.ref l))/\G l=none/\H l=some (.lst ys)/\RepL K G ys cs)/\(ρ[c]? =some (.par cs2)/\σ[c]? =some (some (.ref l2))/\G l2=none/\H l2=some (.lst ys2)/\RepL K G ys2 cs2)/\VS K G σ ((ρ.set b .emp).set c .emp):=by
 unfold Lm at h
 split at h
 ·rename_i cs cs2 e e2;obtain⟨l',ys,h1,h2,h3,h4,h5⟩:=I.slot b _ e;obtain⟨l2',ys2,k1,k2,k3,k4,k5⟩:=I.slot c _ e2;have hl:l'=l:=by
   rw[hO]at h5;have:(b=b/\l'=l)\/(b=c/\l'=l2):=by simpa using h5
   rcases this with z|z
   ·exact z.2
   ·exact AH z.1 hbc
  have hl2:l2'=l2:=by
   rw[hO]at k5;have:(c=b/\l2'=l)\/(c=c/\l2'=l2):=by simpa using k5
   rcases this with z|z
   ·exact AH z.1.symm hbc
   ·exact z.2
  subst hl hl2;refine⟨cs,ys,cs2,ys2,⟨e,h1,h2,h3,h4⟩,⟨e2,k1,k2,k3,k4⟩,⟨by rw[fR,fR];exact I.len,h,λi d e'=>?_⟩⟩;rw[iG]at e'
  split at e'
  ·split at e'
   ·cases e'
   ·exact aK e'
  ·rw[iG]at e'
   split at e'
   ·split at e'
    ·cases e'
    ·exact aK e'
   ·exact I.slot i _ e'
 ·cases h
theorem Jt {j j2:Nat}{s s2:Sl}{cs out cs2 out2:AA D}{l l2 p:AD}(I:SI K B G H σ ρ)(jj:j≠j2)(e:ρ[j]? =some s)(q:s.items=some cs)(hl:σ[j]? =some (some (.ref l)))(e2:ρ[j2]? =some s2)(q2:s2.items=some cs2)(hl2:σ[j2]? =some (some (.ref l2)))(hp:H p=none)(nw:∀b o,G' b=some o->G b≠none\/H b=none)(kp:∀b o,b≠l->b≠l2->H b=some o->H' b=some o):Nw K G' H' σ ((ρ.set j (s.put out)).set j2 (s2.put out2)) p:=λi t et w=>by
 obtain⟨l',xs,e1,f2,e3,e4⟩:=I.wr e q;rw[hl]at e1;cases e1;obtain⟨l',xs2,e1,f2',e3',e4'⟩:=I.wr e2 q2;rw[hl2]at e1;cases e1;have hpl:p≠l:=λz=>by rw[z,e3]at hp;cases hp
 have hpl2:p≠l2:=λz=>by rw[z,e3']at hp;cases hp
 by_cases z2:i=j2
 ·subst z2;rw[iG,if_pos rfl]at et
  split at et
  ·cases et;have:=(hG (Mq q2 out2)).mp w;rw[hl2]at this;exact hpl2 (V.ref.inj (Option.some.inj (Option.some.inj this))).symm
  ·cases et
 ·rw[iF (Ne.symm z2)]at et
  by_cases z:i=j
  ·subst z;rw[iG,if_pos rfl]at et
   split at et
   ·cases et;have:=(hG (Mq q out)).mp w;rw[hl]at this;exact hpl (V.ref.inj (Option.some.inj (Option.some.inj this))).symm
   ·cases et
  ·rw[iF (Ne.symm z)]at et;have sl:=I.slot i t et;refine(sl.own (sl.back (λa w g h=>?_) w)).2.1 hp;have na:a≠l:=λw'=>by subst w';exact I.dis i j t s a z et e w ((hG q).mpr hl)
   have na2:a≠l2:=λw'=>by subst w';exact I.dis i j2 t s2 a z2 et e2 w ((hG q2).mpr hl2)
   obtain⟨u,hu⟩:=qbx.mp h;refine⟨?_,(kp a u na na2 hu).trans hu.symm⟩;cases q3:G' a with
   |none=>rfl
   |some u=>
    rcases nw a u q3 with z|z
    ·exact AH g z
    ·exact AH z h
theorem rJ {G H G' H':Hp}{j j2:Nat}{s s2:Sl}{cs out cs2 out2:AA D}{l l2:AD}{ys ys2:AA V}(I:SI K B G H σ ρ)(jj:j≠j2)(e:ρ[j]? =some s)(q:s.items=some cs)(hl:σ[j]? =some (some (.ref l)))(e2:ρ[j2]? =some s2)(q2:s2.items=some cs2)(hl2:σ[j2]? =some (some (.ref l2)))(f:Fz G G')(fz:Fz G' H')(nw:∀b o,G' b=some o->G b≠none\/H b=none)(kp:∀b o,b≠l->b≠l2->H b=some o->H' b=some o)(gl:G' l=none)(hl':H' l=some (.lst ys))(r:RepL K G' ys out)(gl2:G' l2=none)(hl2':H' l2=some (.lst ys2))(r2:RepL K G' ys2 out2):
  SI K B G' H' σ ((ρ.set j (s.put out)).set j2 (s2.put out2)):=by
 obtain⟨l',xs2,e1,f2',e3',e4'⟩:=I.wr e2 q2;rw[hl2]at e1;cases e1;have ll:l≠l2:=λz=>I.dis j j2 s s2 l jj e e2 ((hG q).mpr hl) ((hG q2).mpr (by rw[z];exact hl2))
 have I1:=I.growW (G':=G') (H':=upd H' l2 (.lst xs2)) (out:=out) e q hl f (λb o h=>by
  have:b≠l2:=λz=>by rw[z,gl2]at h;cases h
  rw[bF this];exact fz b o h) nw (λb o n h=>by
  by_cases z:b=l2
  ·subst z;rw[dU];rw[e3']at h;exact h
  ·rw[bF z];exact kp b o n z h) gl (by rw[bF ll];exact hl') r
 have e2':(ρ.set j (s.put out))[j2]? =some s2:=by rw[iF jj];exact e2
 exact I1.growW e2' q2 hl2 (Fz.refl _) fz (λb o h=> .inl (by rw[h];simp)) (λb o n h=>by rw[bF n]at h;exact h) gl2 hl2' r2
section
variable {X:Cx}{elt iter tg:AI}{ifs:AA AI}{scope:Scope}{pos:Pos}{N:AA Str}{cap:AA Nat}{t bk wk ck vk:Nat}{mi:MA}{g:D->R->AB R}{mt:MT}{me:ME}
theorem zoI (hbw:cap[bk]? =some wk)(hcv:cap[ck]? =some vk)(hbc:bk≠ck)(hwv:wk≠vk)(si:lU X tg iter mi wi)(blk:LcB X scope N elt tg ifs g mt me tg' tt te):
  ∀B G H σ ρ ds ρ' (Q:VK),SI X.K B G H σ ρ->zP cap t bk wk ck vk mi g mt me ρ=some (ds,ρ')->
   (∀G' H' l xs,SI X.K B G' H' σ ρ'->Fz G G'->G' l=none->H' l=some (.lst xs)->RepL X.K G' xs ds->B.H l=none->Nw X.K G' H' σ ρ' l->Q (.ref l) H')->Fb (cX cap t) wi tg' tt te σ H Q:=λB G H σ ρ ds ρ' Q I hm k=>
 bN hm λitems ρ1 e1 hm=>si B G H σ ρ items ρ1 _ I e1 λJ G1 H1 I1 f1 IT DD hD=>bC hm λAO hm=>aM hm λsw ew hm=>aM hm λcs0 qw hm=>aM hm λsv ev hm=>aM hm λcs1 qv hm=>gZ hm λall ρf e2 e3=>by
  obtain⟨rfl,rfl⟩:=Prod.mk.inj e3;obtain⟨G2,I2,f2⟩:=SI.fzL (cap.filter λi=>i !=wk&&i !=vk) I1;obtain⟨l,ys0,hσ,gl0,hl0,rl0⟩:=I2.wr ew qw;obtain⟨l2,ys1,hσ2,gl1,hl1,rl1⟩:=I2.wr ev qv;have ll:l≠l2:=λz=>I2.dis wk vk sw sv l hwv ew ev ((hG qw).mpr hσ) ((hG qv).mpr (by rw[z];exact hσ2))
  have hlD:l≠DD:=jU hl0 hD;have hlD2:l2≠DD:=jU hl1 hD;have hb:=zkP (t:=t) hbw hσ;have hb2:=zkP (t:=t) hcv hσ2;have two:∀{i:Nat} {a:AD},(i,a)∈[(bk,l),(ck,l2)]->a=l\/a=l2:=λm=>(qam.mp m).imp (λq=>(Prod.mk.inj q).2) λm=>(Prod.mk.inj (qcs.mp m)).2
  refine ziX blk (O:=[(bk,l),(ck,l2)]) (JJ:=λG H σ ρ=>PaAt X.K bk l G H σ ρ/\PaAt X.K ck l2 G H σ ρ/\VS X.K G σ ((ρ.set bk .emp).set ck .emp)) IT f2 I2.fz hD AO (λi m=>(two m).elim (λq=>hlD q.symm) λq=>hlD2 q.symm) (λG H σ ρ h f=>?_) (λ_ _ _ _ _ _ I h=>?_) (λ_ _ _ _ xs h=>⟨h.1.upd hlD xs,h.2.1.upd hlD2 xs,h.2.2⟩) ⟨⟨cs0,ys0,?_,hb.2,gl0,hl0,rl0⟩,⟨cs1,ys1,?_,hb2.2,gl1,hl1,rl1⟩,?_⟩ e2 λGc Hc σc xs J ra jj=>?_
  ·obtain⟨⟨cs,ys,a1,a2,a3,a4,a5⟩,⟨cs2,ys2,b1,b2,b3,b4,b5⟩,vs⟩:=h;exact vs.siQ f hbc ll a1 a2 a3 a4 a5 b1 b2 b3 b4 b5
  ·obtain⟨cs',ys',cs2',ys2',w1,w2,w6⟩:=VS.ofQ I hbc rfl h;exact⟨⟨cs',ys',w1⟩,⟨cs2',ys2',w2⟩,w6⟩
  ·rw[iF (Ne.symm hbc),iG,if_pos rfl,if_pos (by rw[zhh];lia)]
  ·rw[iG,if_pos rfl,if_pos (by rw[fR,zhh];lia)]
  ·rw[List.set_comm _ _ (Ne.symm hbc),Pf,Pf];exact((Xz I2 cap t).setEmp bk).setEmp ck
  ·obtain⟨⟨cs,ys,a1,a2,a3,a4,a5⟩,⟨cs2,ys2,b1,b2,b3,b4,b5⟩,vs⟩:=jj;have hp:lJ bk ρf=cs:=by unfold lJ;rw[a1]
   have hp2:lJ ck ρf=cs2:=by unfold lJ;rw[b1]
   rw[hp,hp2]at k;have kp:∀b o,b≠l->b≠l2->H1 b=some o->Hc b=some o:=λb o n n2 e=>J.kp b o (λi m=>(two m).elim n n2) e
   exact k Gc Hc DD xs (rJ I2 hwv ew qw hσ ev qv hσ2 J.fc J.fcH J.nw kp a3 a4 a5 b3 b4 b5) (f1.trans (f2.trans J.fc)) J.gD J.hDc ra (I2.there DD hD) (Jt I2 hwv ew qw hσ ev qv hσ2 hD J.nw kp)
theorem Eh (cap:AA Nat)(t bk wk ck vk:Nat)(N:AA Str)(hc:X.calm=true)(hi:SIt X tg iter mi)(hg:∀C s H fp,SG (cH X N scope C s H fp) tg g)(ht:∀C s H fp,uG (cH X N scope C s H fp) ifs mt)(he:∀C s H fp,SE (cH X N scope C s H fp) elt me)(hbw:autoParam (cap[bk]? =some wk) zu2._auto_1)(hcv:autoParam (cap[ck]? =some vk) zu2._auto_1)(hbc:autoParam (bk≠ck) zu1._auto_1)(hwv:autoParam (wk≠vk) zu1._auto_1)(hk:autoParam (scope.kind= .function) zu2._auto_1)(hb:autoParam (iI X.env scope=true) zu10._auto_1)(hcap:autoParam (iC scope.names N X.N cap t=true) zu10._auto_1)(hs:autoParam (∀x,foldedSetIterable iter X.env x=pure x) zu9._auto_1):SO X (.ListComp elt [⟨tg,iter,ifs,0⟩] scope pos) (zP cap t bk wk ck vk mi g mt me):=by
  refine hi.el λwi pi si=>?_
  exact⟨_,pH hc (Jp hk hb) (Kg hcap) pi (λC s H fp=>(hg C s H fp).choose_spec.1) (λC s H fp=>(ht C s H fp).choose_spec.1) (λC s H fp=>(he C s H fp).choose_spec.1) hs,
    zoI hbw hcv hbc hwv si (.mk' hg ht he)⟩
end
noncomputable def nO (j:Nat)(me:ME):ME:=λρ=>if(ρ[j]?.bind Sl.items).isSome then(me ρ).bind λp=>match p.1 with
 | .int i=>p.2[j]?.bind λs=>s.items.bind λds=>if 0<=i/\i<ds.length/\ds.length<=16777216 then(ds[i.toNat]?).map λd=>(d,p.2.set j (s.put (ds.eraseIdx i.toNat)))else none
 |_=>none else none
theorem RepL.erase:∀{xs:AA V} {ds:AA D} (k:Nat),RepL K G xs ds->RepL K G (xs.eraseIdx k) (ds.eraseIdx k)
 |_,[],_,h=>by cases h;simp;rfl
 |_,d::ds,0,⟨x,ys,e,a,b⟩=>by subst e;exact b
 |_,d::ds,k+1,⟨x,ys,e,a,b⟩=>by subst e;exact⟨x,_,rfl,a,RepL.erase k b⟩
section
variable {X:Cx}{x:Str}{e:AI}{me:ME}
theorem pJ (j:Nat){p' apos cpos:Pos}(he:SE X e me)(hN:autoParam (X.N[j]? =some x) zu2._auto_1)(hv:autoParam (dG X.env.scope x) zu6._auto_1)(hd:autoParam ((x==("__debug__":Str))=false) zu1._auto_1)(hcd:autoParam ((x==("__classdict__":Str))=false) zu1._auto_1)(hbase:autoParam (attributeBase (.Name x p') "pop" X.env (eval (.Name x p') X.env)=eval (.Name x p') X.env) zu2._auto_1)(hfew :autoParam (((backTo cpos (starEach [e] X.env)).all (λx => !x.1) && (backToKw cpos (keywordEach [] X.env)).all (λx => x.1.isSome)
   &&decide ([e].length+([]:AA Keyword).length+(if([]:AA Keyword).isEmpty then 0 else 1)<30))=true) zu2._auto_1)(hline:autoParam ((apos.endLine==cpos.line)=true) zu2._auto_1)(hs:autoParam (starEach [e] X.env=(false,eval e X.env)::starEach [] X.env) zu2._auto_1):SE X (.Call (.Attribute (.Name x p') "pop" apos) [e] [] cpos) (nO j me):=by
 refine he.el λt p s=>?_
 refine⟨_,Ck Dd qcE qcF zkY (eE hN hv hd hcd) (gK p iS hs) hbase hfew hline hs rfl,λB G H σ ρ d ρ' Q I hm k=>?_⟩;unfold nO at hm;refine bC hm λhso hm=>?_
 ·skip
  obtain⟨ds0,hso⟩:=qaP.mp hso;refine aM hso λs0 e0 q0=>?_
  obtain⟨l,xs0,h1,h2,h3,h4⟩:=I.wr e0 q0;refine bN hm λdv ρ1 e1 hm=>?_
  dsimp only at hm
  split at hm
  ·rename_i i;refine aM hm λs1 e2 hm=>?_
   refine aM hm λds e3 hm=>?_
   refine bC hm λhl hm=>?_
   ·skip
    refine dE hm λdd e4 e5=>?_
    obtain⟨rfl,rfl⟩:=Prod.mk.inj e5;refine⟨.ref l,h1,.inl ⟨rfl,_,SqL.of h3⟩,s B G H σ ρ (.int i) ρ1 _ I e1 λG1 H1 v I1 f1 r1=>?_⟩;obtain⟨l',xs,k1,k2,k3,k4⟩:=I1.wr e2 e3;rw[h1]at k1;cases k1;cases(show v= .int i from r1);obtain⟨y,hy,ry⟩:=k4.get e4;have len:=k4.length;refine⟨l,xs,i,i.toNat,y,rfl,rfl,k3,by lia,by lia,by unfold seqIndex?;simp;lia,hy,?_⟩;exact k G1 _ y (I1.write e2 e3 h1 (k4.erase i.toNat)) f1 ry
  ·exact aK hm
end
end M
namespace M
open PySem PySem.W
open PyProof.Rows (bubble mirror bubble_size bubble_perm mirror_size mirror_perm getElem?_bubble getElem?_mirror_all)
noncomputable def kv (p:Array Nat)(k:Nat):Nat:=p.getD k 0
end M
namespace HT
open PySem
noncomputable def SIt (h:AK)(I S:AD)(first:AC)(i n ep:Nat):Prop:=∃o,h.get? I=some o/\o.cls= .type "set_iterator"/\o.data= .fields #[first,.int i 0,.ref S,.int n 0,.int ep 0]
end HT
namespace M
open L2 PySem PySem.Spec
open PyProof.Rows hiding St
theorem Zh:∀{its:AA AC} {ns:AA Int},IntsAre its ns->Vals (ns.map V.int) its
 |_,_,.nil=> .nil
 |_,_,.cons n t h=> .cons ⟨t,rfl⟩ (Zh h)
end M
namespace M
open L2 PySem
noncomputable def zoS (f g h:D->D->AB D)(a b c d:ME):ME:=λρ=>(a ρ).bind λp=>(b p.2).bind λq=>(f p.1 q.1).bind λt=>match t with
 | .bl true=>(c q.2).bind λr=>(g q.1 r.1).bind λt'=>match t' with
  | .bl true=>(d r.2).bind λs=>(h r.1 s.1).map λx=>(x,s.2)
  | .bl false=>some (.bl false,r.2)
  |_=>none
 | .bl false=>some (.bl false,q.2)
 |_=>none
end M
namespace M
open L2 PySem PySem.Spec
open PyProof.Rows hiding St
open Classical in
noncomputable abbrev MG:=R->AB (R×R)
end M
namespace M
open L2 PySem PySem.Spec
open PyProof.Rows hiding St
noncomputable abbrev MXG:=R->AB (Str×R)
end M
namespace M
open L2 PySem PySem.Spec
open PyProof.Rows hiding St
open Builtin Builtin.Str
noncomputable def sIx (x:Str)(i:Int):AB Str:=(atI x.cps.toList i).map λc=>⟨#[c]⟩
noncomputable def tS (i:Int):Str:=Str.ofString (toString i)
end M
namespace M
open L2 PySem PySem.Spec
open PyProof.Rows hiding St
noncomputable def dAt (c:Str)(ns:AA Str)(k:Nat):D->AB D
 | .obj c' ns' ls _ _=>if c'=c/\ns'=ns then ls[k]? else none
 |_=>none
noncomputable abbrev MK:=R->AB ((AA Int×AA D)×R)
noncomputable def kAt (c:Str)(ns:AA Str)(me:ME):MK:=λρ=>(me ρ).bind λp=>match p.1 with
 | .obj c' ns' _ ks ds=>if c'=c/\ns'=ns then some ((ks,ds),p.2)else none
 |_=>none
noncomputable def Sl.ob:Sl->AB (Str×AA Str×AA (AA D)×AB (AA Int×AA D))
 | .tre (.obj c ns ls dk)=>some (c,ns,ls,dk)
 | .ptr (.obj c ns ls dk)=>some (c,ns,ls,dk)
 |_=>none
noncomputable def Wg (c:Str)(ns:AA Str)(ls:AA (AA D))(q:AA Int×AA D):D:= .obj c ns (ls.map D.lst) q.1 q.2
noncomputable def Vj:Str:="Slant"
noncomputable def Ws:AA Str:=["block","weights","ways","backs","slants"]
section
variable {K:AF}{B:Bs}{G H:Hp}{σ:St}{ρ:R}
theorem ziQ:∀{xs:AA V} {cs:AA Ch} {A:AA AD} {ys:AA V} {ds:AA Ch} {A':AA AD},RepCs K G H xs cs A->RepCs K G H ys ds A'->RepCs K G H (xs++ys) (cs++ds) (A++A')
 |[],[],_,_,_,_,h,r=>by rw[show _=[]from h];exact r
 |x::xs,c::cs,_,_,_,A',⟨A1,A2,r1,r2,e⟩,r=>⟨A1,A2++A',r1,ziQ r2 r,by rw[e,qK]⟩
 |[],_::_,_,_,_,_,h,_=>h.elim
 |_::_,[],_,_,_,_,h,_=>h.elim
theorem zk7:∀{xs:AA V} {cs:AA Ch} {A:AA AD} {u:Nat} {c:Ch},RepCs K G H xs cs A->cs[u]? =some c->∃x A1 A2 A3,xs[u]? =some x/\RepCs K G H (xs.take u) (cs.take u) A1/\RepC K G H x c A2/\RepCs K G H (xs.drop (u+1)) (cs.drop (u+1)) A3/\A=A1++(A2++A3)
 |[],[],_,_,_,_,h=>by simp at h
 |x::xs,d::cs,_,0,c,⟨A1,A2,r1,r2,e⟩,h=>by
  simp at h;subst h;exact⟨x,[],A1,A2,rfl,rfl,r1,r2,e⟩
 |x::xs,d::cs,_,u+1,c,⟨A1,A2,r1,r2,e⟩,h=>by
  obtain⟨y,B1,B2,B3,h1,h2,h3,h4,h5⟩:=zk7 (u:=u) r2 (by simpa using h);exact⟨y,A1++B1,B2,B3,by simpa using h1,⟨A1,B1,r1,h2,rfl⟩,h3,h4,by rw[e,h5,qK]⟩
 |[],_::_,_,_,_,h,_=>h.elim
 |_::_,[],_,_,_,h,_=>h.elim
theorem SI.updN (I:SI K B G H σ ρ){p:AD}(gp:G p=none)(bp:B.H p=none)(np:Nw K G H σ ρ p)(o:HO):SI K B G (upd H p o) σ ρ/\∀a,Nw K G H σ ρ a->Nw K G (upd H p o) σ ρ a:=
  ⟨I.move (I.fz.right gp _) (Fz.refl G) I.new (λb u e n=>by rw[bF λz=>by rw[z,bp]at e;cases e];exact I.keep b u e n) (λb e=>by
    by_cases z:b=p
    . rw[z];exact bp
    . rw[bF z]at e;exact I.there b e) λi s a e w g _=>⟨g,bF λz=>np i s e (z ▸ w)⟩,
   λa n=>I.nw_move n λi s a e w g _=>⟨g,bF λz=>np i s e (z ▸ w)⟩⟩
theorem Jj {A1 A2 A3 Am:AA AD}(nd:(A1++(A2++A3)).Nodup)(ndm:Am.Nodup)(h:∀a∈Am,a∈A2\/a∉A1++(A2++A3)):(A1++(Am++A3)).Nodup:=by
 obtain⟨n1,n23,d⟩:=qcx.mp nd;obtain⟨n2,n3,d2⟩:=qcx.mp n23;refine qcx.mpr ⟨n1,qcx.mpr ⟨ndm,n3,λa ma b mb e=>(h a ma).elim (λq=>d2 a q b mb e) λq=>q (eX _ (eX _ (e ▸ mb)))⟩,λa ma b mb e=>?_⟩;exact(qan.mp mb).elim (λmb=>(h b mb).elim (λq=>d a ma b (kZ _ q) e) λq=>q (kZ _ (e ▸ ma))) λmb=>d a ma b (eX _ mb) e
theorem SI.tabMid (I:SI K B G H σ ρ){j:Nat}{p:AD}{xs1 xs3 ys:AA V}{cs1 cs3 dd:AA Ch}{A1 A2 A3 Am:AA AD}(hj:σ[j]? =some (some (.ref p)))(nd:(p::(A1++(A2++A3))).Nodup)(fa:∀a∈p::(A1++(A2++A3)),G a=none/\B.H a=none/\Nw K G H σ ρ a)(r1:RepCs K G H xs1 cs1 A1)(r3:RepCs K G H xs3 cs3 A3)(rm:RepCs K G H ys dd Am)(ndm:Am.Nodup)(fm:∀a∈Am,a∈A2\/(a∉p::(A1++(A2++A3))/\G a=none/\B.H a=none/\Nw K G H σ ρ a)):SI K B G (upd H p (.lst (xs1++ys++xs3))) σ (ρ.set j (.tre (.lst (cs1++dd++cs3)))):=by
 obtain⟨pn,nd'⟩:=qaO.mp nd;have old:∀a∈A1++(A2++A3),a≠p/\G a=none/\B.H a=none/\Nw K G H σ ρ a:=λa m=>⟨λz=>pn (z ▸ m),fa a (iN _ m)⟩
 have all:∀a∈A1++(Am++A3),a≠p/\G a=none/\B.H a=none/\Nw K G H σ ρ a:=λa m=>(qan.mp m).elim (λm=>old a (kZ _ m)) λm=>(qan.mp m).elim (λm=>(fm a m).elim (λq=>old a (eX _ (kZ _ q))) λq=>⟨λz=>q.1 (z ▸ jP),q.2⟩) λm=>old a (eX _ (eX _ m))
 have f0:=fa p jP;obtain⟨I3,n3⟩:=I.updN f0.1 f0.2.1 f0.2.2 (.lst (xs1++ys++xs3));have mv:∀a∈A1++(Am++A3),upd H p (.lst (xs1++ys++xs3)) a=H a:=λa m=>bF (all a m).1
 have I4:=I3.setT (i:=j) (v:= .ref p) (t:= .lst (cs1++dd++cs3)) (A:=p::(A1++(Am++A3))) ⟨p,_,_,rfl,dU,by
   rw[qK xs1 ys xs3]at mv ⊢;rw[qK];exact ziQ (r1.move (Fz.refl G) λa m=>mv a (kZ _ m)) (ziQ (rm.move (Fz.refl G) λa m=>mv a (eX _ (kZ _ m))) (r3.move (Fz.refl G) λa m=>mv a (eX _ (eX _ m)))),rfl⟩
  (qaO.mpr ⟨λm=>(all p m).1 rfl,Jj nd' ndm λa m=>(fm a m).imp id λq z=>q.1 (iN _ z)⟩) λa m=>(qam.mp m).elim (λz=>by rw[z];exact⟨f0.1,f0.2.1,n3 _ f0.2.2⟩) λm=>⟨(all a m).2.1,(all a m).2.2.1,n3 _ (all a m).2.2.2⟩
 rwa[vV hj]at I4
end
noncomputable def Hk (j:Nat)(mi mk:MQ):MS:=λρ=>(mi ρ).bind λa=>(mk ρ).bind λb=>match a,b,ρ[j]? with
 | .int n,.int m,some (.tre (.lst cs))=>(cB cs.length n).bind λu=>match cs[u]? with
  |some (.l ds)=>if ds.length<16777216 then some (.next,ρ.set j (.tre (.lst (cs.set u (.l (ds++[.int m]))))))else none
  |_=>none
 |_,_,_=>none
noncomputable def Fs (j:Nat)(mi mk:MQ):MS:=λρ=>(mi ρ).bind λa=>(mk ρ).bind λb=>match a,b,ρ[j]? with
 | .int n,.int m,some (.tre (.lst cs))=>(cB cs.length n).bind λu=>match cs[u]? with
  |some (.l ds)=>if 0<=m/\m<ds.length/\ds.length<=16777216 then some (.next,ρ.set j (.tre (.lst (cs.set u (.l (ds.eraseIdx m.toNat))))))else none
  |_=>none
 |_,_,_=>none
noncomputable def Hr (j:Nat)(mi:MQ):MS:=λρ=>(mi ρ).bind λa=>match a,ρ[j]? with
 | .int n,some (.tre (.lst cs))=>if 0<=n/\n<cs.length/\cs.length<=16777216 then some (.next,ρ.set j (.tre (.lst (cs.take n.toNat++[]++cs.drop (n.toNat+1)))))else none
 |_,_=>none
section
variable {X:Cx}{x:Str}{a b:AI}{mi mk:MQ}{p' q' apos cpos pos:Pos}
theorem oB {ρ:R}{j:Nat}{n m:D}{Q:AA Ch->Int->Int->AB (Fl×R)}{r:Fl×R}(h:(match n,m,ρ[j]? with
 | .int n,.int m,some (.tre (.lst cs))=>Q cs n m
 |_,_,_=>none)=some r):∃n' m' cs,n= .int n'/\m= .int m'/\ρ[j]? =some (.tre (.lst cs))/\Q cs n' m'=some r:=by
 split at h
 ·exact⟨_,_,_,rfl,rfl,by assumption,h⟩
 ·exact aK h
theorem Ir (j:Nat)(ha:SQ X a mi)(hb:SQ X b mk)(hN:autoParam (X.N[j]? =some x) zu2._auto_1)(hv:autoParam (dG X.env.scope x) zu6._auto_1)(hd:autoParam ((x==("__debug__":Str))=false) zu1._auto_1)(hcd:autoParam ((x==("__classdict__":Str))=false) zu1._auto_1)(hsa:autoParam (lL a) zu7._auto_1)(hbase:autoParam (attributeBase (.Subscript (.Name x p') a q') "append" X.env (eval (.Subscript (.Name x p') a q') X.env)=eval (.Subscript (.Name x p') a q') X.env) zu2._auto_1)(hfew :autoParam (((backTo cpos (starEach [b] X.env)).all (λx => !x.1) && (backToKw cpos (keywordEach [] X.env)).all (λx => x.1.isSome)
   &&decide ([b].length+([]:AA Keyword).length+(if([]:AA Keyword).isEmpty then 0 else 1)<30))=true) zu2._auto_1)(hline:autoParam ((apos.endLine==cpos.line)=true) zu2._auto_1)(hs:autoParam (starEach [b] X.env=(false,eval b X.env)::starEach [] X.env) zu2._auto_1):SS X (.Expr (.Call (.Attribute (.Subscript (.Name x p') a q') "append" apos) [b] [] cpos) pos) (Hk j mi mk):=by
 refine ha.el λta pa sa=>?_
 refine hb.el λtb pb sb=>?_
 refine⟨_,Ca (Ck Dd qbM qbN Yf (oH ix_list (eE hN hv hd hcd) pa hsa) (gK pb iS hs) hbase hfew hline hs rfl) (by rfl),λB G H σ ρ fl ρ' E I hm k=>?_⟩;refine aM hm λva e2 hm=>?_
 refine aM hm λvb e3 hm=>?_
 obtain⟨n,m,cs,rfl,rfl,e4,hm⟩:=oB hm;refine aM hm λu e5 hm=>?_
 split at hm
 ·rename_i ds e6;refine bC hm λhl hm=>?_
  obtain⟨rfl,rfl⟩:=bM hm;obtain⟨v0,A,q1,q2,q3,q4⟩:=I.slot j _ e4;have q2':=q2;obtain⟨p,xs,A',rfl,g1,g2,rfl⟩:=q2;obtain⟨y,A1,j1,⟨l,ys,rfl,j2,j3,j4⟩,j5⟩:=uB g2 e6;have lA:l∈A':=j5 l (by rw[j4];simp);have nd:=qaO.mp q3;refine⟨.ref p,q1,sa B G H σ ρ _ _ I e2 λv1 w1=>?_⟩;refine⟨p,xs,n,.ref l,rfl,w1,SqL.of g1,uS (by rw[lV g2];exact e5) j1,.inl ⟨rfl,_,SqL.of j2⟩,sb B G H σ ρ _ _ I e3 λv2 w2=>?_⟩;refine⟨l,ys,v2,rfl,rfl,j2,by rw[j3.length,gF];exact hl,?_⟩;have rep:RepT X.K G (upd H l (.lst (ys++[v2]))) (.ref p) (.lst (cs.set u (.l (ds++[.int m])))) (p::A'):=
   ⟨p,xs,A',rfl,by rw[bF λz=>nd.1 (by rw[z];exact lA)];exact g1,Mx g2 nd.2 e6 j1 (j3.snoc w2),rfl⟩
  refine k G _ σ (I.chT2 e4 q1 q2' (I.fz.right (q4 l (by simp[lA])).1 _) (λb o nb h=>by rw[bF (λz=>nb (by rw[z];simp[lA]))];exact h) (λb h=>?_) rep q3 λa m=> .inl m) (Fz.refl G)
  by_cases z:b=l
  ·subst z;rw[dU]at h;cases h
  ·rw[bF z]at h;exact h
 ·exact aK hm
theorem Kt (j:Nat)(ha:SQ X a mi)(hb:SQ X b mk)(hN:autoParam (X.N[j]? =some x) zu2._auto_1)(hv:autoParam (dG X.env.scope x) zu6._auto_1)(hd:autoParam ((x==("__debug__":Str))=false) zu1._auto_1)(hcd:autoParam ((x==("__classdict__":Str))=false) zu1._auto_1)(hsa:autoParam (lL a) zu7._auto_1)(hbase:autoParam (attributeBase (.Subscript (.Name x p') a q') "pop" X.env (eval (.Subscript (.Name x p') a q') X.env)=eval (.Subscript (.Name x p') a q') X.env) zu2._auto_1)(hfew :autoParam (((backTo cpos (starEach [b] X.env)).all (λx => !x.1) && (backToKw cpos (keywordEach [] X.env)).all (λx => x.1.isSome)
   &&decide ([b].length+([]:AA Keyword).length+(if([]:AA Keyword).isEmpty then 0 else 1)<30))=true) zu2._auto_1)(hline:autoParam ((apos.endLine==cpos.line)=true) zu2._auto_1)(hs:autoParam (starEach [b] X.env=(false,eval b X.env)::starEach [] X.env) zu2._auto_1):SS X (.Expr (.Call (.Attribute (.Subscript (.Name x p') a q') "pop" apos) [b] [] cpos) pos) (Fs j mi mk):=by
 refine ha.el λta pa sa=>?_
 refine hb.el λtb pb sb=>?_
 refine⟨_,Ca (Ck Dd qcE qcF zkY (oH ix_list (eE hN hv hd hcd) pa hsa) (gK pb iS hs) hbase hfew hline hs rfl) (by rfl),λB G H σ ρ fl ρ' E I hm k=>?_⟩;refine aM hm λva e2 hm=>?_
 refine aM hm λvb e3 hm=>?_
 obtain⟨n,m,cs,rfl,rfl,e4,hm⟩:=oB hm;refine aM hm λu e5 hm=>?_
 split at hm
 ·rename_i ds e6;refine bC hm λhl hm=>?_
  obtain⟨rfl,rfl⟩:=bM hm;obtain⟨v0,A,q1,q2,q3,q4⟩:=I.slot j _ e4;have q2':=q2;obtain⟨p,xs,A',rfl,g1,g2,rfl⟩:=q2;obtain⟨y,A1,j1,⟨l,ys,rfl,j2,j3,j4⟩,j5⟩:=uB g2 e6;have lA:l∈A':=j5 l (by rw[j4];simp);have nd:=qaO.mp q3;have len:=j3.length;obtain⟨yv,hy⟩:∃yv,ys[m.toNat]? =some yv:=⟨ys[m.toNat]'(by lia),cI (by lia)⟩;refine⟨.ref p,q1,sa B G H σ ρ _ _ I e2 λv1 w1=>?_⟩;refine⟨p,xs,n,.ref l,rfl,w1,SqL.of g1,uS (by rw[lV g2];exact e5) j1,.inl ⟨rfl,_,SqL.of j2⟩,sb B G H σ ρ _ _ I e3 λv2 w2=>?_⟩;cases(show v2= .int m from w2);refine⟨l,ys,m,m.toNat,yv,rfl,rfl,j2,by lia,by lia,by unfold seqIndex?;simp;lia,hy,?_⟩;have rep:RepT X.K G (upd H l (.lst (ys.eraseIdx m.toNat))) (.ref p) (.lst (cs.set u (.l (ds.eraseIdx m.toNat)))) (p::A'):=
   ⟨p,xs,A',rfl,by rw[bF λz=>nd.1 (by rw[z];exact lA)];exact g1,Mx g2 nd.2 e6 j1 (j3.erase m.toNat),rfl⟩
  refine k G _ σ (I.chT2 e4 q1 q2' (I.fz.right (q4 l (by simp[lA])).1 _) (λb o nb h=>by rw[bF (λz=>nb (by rw[z];simp[lA]))];exact h) (λb h=>?_) rep q3 λa m=> .inl m) (Fz.refl G)
  by_cases z:b=l
  ·subst z;rw[dU]at h;cases h
  ·rw[bF z]at h;exact h
 ·exact aK hm
theorem Kh (j:Nat)(ha:SQ X a mi)(hN:autoParam (X.N[j]? =some x) zu2._auto_1)(hv:autoParam (dG X.env.scope x) zu6._auto_1)(hd:autoParam ((x==("__debug__":Str))=false) zu1._auto_1)(hcd:autoParam ((x==("__classdict__":Str))=false) zu1._auto_1)(hbase:autoParam (attributeBase (.Name x p') "pop" X.env (eval (.Name x p') X.env)=eval (.Name x p') X.env) zu2._auto_1)(hfew :autoParam (((backTo cpos (starEach [a] X.env)).all (λx => !x.1) && (backToKw cpos (keywordEach [] X.env)).all (λx => x.1.isSome)
   &&decide ([a].length+([]:AA Keyword).length+(if([]:AA Keyword).isEmpty then 0 else 1)<30))=true) zu2._auto_1)(hline:autoParam ((apos.endLine==cpos.line)=true) zu2._auto_1)(hs:autoParam (starEach [a] X.env=(false,eval a X.env)::starEach [] X.env) zu2._auto_1):SS X (.Expr (.Call (.Attribute (.Name x p') "pop" apos) [a] [] cpos) pos) (Hr j mi):=by
 refine ha.el λta pa sa=>?_
 refine⟨_,Ca (Ck Dd qcE qcF zkY (eE hN hv hd hcd) (gK pa iS hs) hbase hfew hline hs rfl) (by rfl),λB G H σ ρ fl ρ' E I hm k=>?_⟩;refine aM hm λva e2 hm=>?_
 split at hm
 ·rename_i n cs e4;refine bC hm λhl hm=>?_
  obtain⟨rfl,rfl⟩:=bM hm;obtain⟨v0,A,q1,q2,q3,q4⟩:=I.slot j _ e4;have q2':=q2;obtain⟨p,xs,A',rfl,g1,g2,rfl⟩:=q2;have hu:n.toNat<cs.length:=by lia
  have len:=lV g2;obtain⟨w,A1,A2,A3,j1,j2,j3,j4,rfl⟩:=zk7 g2 (cI hu);refine⟨.ref p,q1,.inl ⟨rfl,_,SqL.of g1⟩,sa B G H σ ρ _ _ I e2 λv2 w2=>?_⟩;cases(show v2= .int n from w2);refine⟨p,xs,n,n.toNat,w,rfl,rfl,g1,by lia,by lia,by unfold seqIndex?;simp;lia,j1,?_⟩;have I4:=(I.emp j).tabMid (ys:=[]) (dd:=[]) (Am:=[]) q1 q3 (λb m=>⟨(q4 b m).1,(q4 b m).2,zoh I e4 ⟨_,_,q1,q2',m⟩⟩) j2 j4 rfl Oy λb m=>by cases m
  rw[Pf]at I4;rw[Rj,show xs.take n.toNat++xs.drop (n.toNat+1)=xs.take n.toNat++[]++xs.drop (n.toNat+1) by rw[lW]];exact k G _ σ I4 (Fz.refl G)
 ·exact aK hm
end
noncomputable def qLX (j:Nat)(mi:MQ):MQ:=λρ=>(mi ρ).bind λa=>match a,ρ[j]? with
 | .int n,some (.tre (.lst cs))=>(cB cs.length n).bind λu=>match cs[u]? with
  |some (.l ds)=>some (.int ds.length)
  |_=>none
 |_,_=>none
section
variable {X:Cx}{x:Str}{a:AI}{mi:MQ}{p' q' spos pos:Pos}
theorem zW (j:Nat)(ml:X.mg "len"=none)(ha:SQ X a mi)(hN:autoParam (X.N[j]? =some x) zu2._auto_1)(hv:autoParam (dG X.env.scope x) zu6._auto_1)(hd:autoParam ((x==("__debug__":Str))=false) zu1._auto_1)(hcd:autoParam ((x==("__classdict__":Str))=false) zu1._auto_1)(hg:autoParam (Gl X "len") zu2._auto_1)(he:autoParam (starEach [.Subscript (.Name x p') a spos] X.env=(false,eval (.Subscript (.Name x p') a spos) X.env)::starEach [] X.env) zu2._auto_1)(hsi:autoParam (lL a) zu7._auto_1):SQ X (.Call (.Name "len" q') [.Subscript (.Name x p') a spos] [] pos) (qLX j mi):=by
  refine ha.el λta pa sa=>?_
  refine⟨_,Iy Nf hg ml Nq (gK (oH ix_list (eE hN hv hd hcd) pa hsi) iS he) (by decide) (by decide) he rfl,λB G H σ ρ d Q I hm k=>?_⟩;refine aM hm λva e2 hm=>?_
  split at hm
  . rename_i n cs e
    refine aM hm λu e5 hm=>?_
    split at hm
    . rename_i ds e6
      cases hm;obtain⟨v,A,h1,⟨p,xs,A',rfl,g1,g2,rfl⟩,h3,h4⟩:=I.slot j _ e;obtain⟨w,A1,q1,⟨l,ys,rfl,q2,q3,-⟩,-⟩:=uB g2 e6;refine⟨.ref p,h1,sa B G H σ ρ _ _ I e2 λv1 w1=>?_⟩;refine⟨p,xs,n,.ref l,rfl,w1,SqL.of g1,uS (by rw[lV g2];exact e5) q1,l,ys,rfl,.inl (SqL.of q2),?_⟩;rw[q3.length];exact k _ rfl
    . exact aK hm
  . exact aK hm
end
end M
namespace M
open L2 PySem
variable {c d x:D}{b:MS}{z:Bool}{Q:Fl×R->Prop}{a i n j N k:Nat}{f:D->R->AB (AB D×R)}{g:D->R->AB R}{mt:MT}{me m:ME}{ρ:R}{r:Sl}{h:AA D->R->AB R}{ds xs ys:AA D}{mi ma:MA}{t:AB Sl}{F:AA D->AB Sl}{cap:AA Nat}{I:R->Prop}{ns:AA Int}
noncomputable abbrev Rt {α:Type}(_:α->Prop):Type:=AB α
noncomputable def aH {α:Type}(Q:α->Prop)(o:Rt Q):Prop:=∃a,o=some a/\Q a
noncomputable def Ok {α:Type}(o:AB α)(Q:α->Prop):Prop:=aH Q o
noncomputable abbrev RtS {α:Sort u}(_:α):Type:=AB Sl
section
variable {α β:Type}{o:AB α}{Q Q':α->Prop}
theorem ok_some {a:α}:aH Q (some a)=Q a:=propext ⟨λ⟨_,e,q⟩=>by cases e;exact q,λq=>⟨a,rfl,q⟩⟩
theorem ok_none:aH Q (none:AB α)=False:=propext ⟨λ⟨_,e,_⟩=>(by cases e),False.elim⟩
theorem Ok.ex (h:Ok o Q):∃a,o=some a/\Q a:=h
theorem ok_bind {f:α->AB β}{Q:β->Prop}:aH Q (o.bind f)=aH (λa=>aH Q (f a)) o:=by
 cases o with
 |none=>exact propext ⟨λ⟨_,e,_⟩=>(by cases e),λ⟨_,e,_⟩=>(by cases e)⟩
 |some a=>exact propext ⟨λh=>⟨a,rfl,h⟩,λ⟨_,e,h⟩=>by cases e;exact h⟩
theorem ok_map {f:α->β}{Q:β->Prop}:aH Q (o.map f)=aH (λa=>Q (f a)) o:=by
 cases o with
 |none=>exact propext ⟨λ⟨_,e,_⟩=>(by cases e),λ⟨_,e,_⟩=>(by cases e)⟩
 |some a=>exact propext ⟨λh=>⟨a,rfl,ok_some.mp h⟩,λ⟨_,e,h⟩=>by cases e;exact ok_some.mpr h⟩
theorem qF {c:Prop}[Decidable c]:aH Q (if c then o else none)=(c/\aH Q o):=by
 by_cases h:c
 ·rw[if_pos h];exact propext ⟨λk=>⟨h,k⟩,λk=>k.2⟩
 ·rw[if_neg h];exact propext ⟨λk=>(ok_none.mp k).elim,λk=>AH k.1 h⟩
theorem iY:Ok o Q=aH Q o:=rfl
noncomputable def gd {α:Type}(b:Bool)(o:AB α):AB α:=if b then o else none
theorem Nt {b:Bool}(h:b=true):aH Q (gd b o)=aH Q o:=by subst h;rfl
theorem Ok.mono (h:Ok o Q)(k:∀a,Q a->Q' a):Ok o Q':=by
 obtain⟨a,e,q⟩:=h;exact⟨a,e,k a q⟩
theorem dD {Q':α->Prop}(h:∀a,Q a=Q' a):aH Q o=aH Q' o:=by rw[funext h]
theorem Ok.of {a:α}(e:o=some a)(q:Q a):Ok o Q:=⟨a,e,q⟩
end
section
variable {c:MT}{a b:MS}{ρ:R}
theorem Ds {α:Type}{o u:AB α}{Q:α->Prop}:aH Q (if z then o else u)=((z=true->aH Q o)/\(z=false->aH Q u)):=by cases z<;>simp
theorem Jv:aH Q (dH c a b ρ)=(aH (λp=>(p.1=true->aH Q (a p.2))/\(p.1=false->aH Q (b p.2))) (c ρ)):=by
 unfold dH;rw[ok_bind];exact dD λp=>Ds
theorem Jd {a b:ME}{Q:D×R->Prop}:aH Q (Sa c a b ρ)=(aH (λp=>(p.1=true->aH Q (a p.2))/\(p.1=false->aH Q (b p.2))) (c ρ)):=by
 unfold Sa;rw[ok_bind];exact dD λp=>Ds
theorem wX {a b:MT}{Q:Bool×R->Prop}:aH Q (Mi a b ρ)=(aH (λp=>(p.1=true->aH Q (b p.2))/\(p.1=false->Q (false,p.2))) (a ρ)):=by
 unfold Mi;rw[ok_bind];exact dD λp=>by rw[Ds,ok_some]
theorem Fg {a b:MT}{Q:Bool×R->Prop}:aH Q (fT a b ρ)=(aH (λp=>(p.1=true->Q (true,p.2))/\(p.1=false->aH Q (b p.2))) (a ρ)):=by
 unfold fT;rw[ok_bind];exact dD λp=>by rw[Ds,ok_some]
theorem xH {a b:ME}{Q:D×R->Prop}:aH Q (jA a b ρ)=(aH (λp=>∃z,p.1= .bl z/\(z=true->aH Q (b p.2))/\(z=false->Q (.bl false,p.2))) (a ρ)):=by
 unfold jA;rw[ok_bind];have:∀p:D×R,Ok (match p.1 with
  | .bl true=>b p.2
  | .bl false=>some (.bl false,p.2)
  |_=>none) Q↔∃z,p.1= .bl z/\(z=true->Ok (b p.2) Q)/\(z=false->Q (.bl false,p.2)):=by
  rintro⟨d,ρ⟩;cases d with
  |bl z=>cases z<;>simp[iY,ok_some]
  |_=>simp[iY,ok_none]
 exact dD λp=>propext (this p)
theorem Ip {a b:ME}{Q:D×R->Prop}:aH Q (eOr a b ρ)=(aH (λp=>∃z,p.1= .bl z/\(z=true->Q (.bl true,p.2))/\(z=false->aH Q (b p.2))) (a ρ)):=by
 unfold eOr;rw[ok_bind];have:∀p:D×R,Ok (match p.1 with
  | .bl true=>some (.bl true,p.2)
  | .bl false=>b p.2
  |_=>none) Q↔∃z,p.1= .bl z/\(z=true->Q (.bl true,p.2))/\(z=false->Ok (b p.2) Q):=by
  rintro⟨d,ρ⟩;cases d with
  |bl z=>cases z<;>simp[iY,ok_some]
  |_=>simp[iY,ok_none]
 exact dD λp=>propext (this p)
theorem pO {f g:D->D->AB D}{a b c:ME}{Q:D×R->Prop}:aH Q (sR f g a b c ρ)=(aH (λp=>aH (λq=>aH (λt=>∃z,t= .bl z/\(z=true->aH (λr=>aH (λd=>Q (d,r.2)) (g q.1 r.1)) (c q.2))/\(z=false->Q (.bl false,q.2))) (f p.1 q.1)) (b p.2)) (a ρ)):=by
 unfold sR;rw[ok_bind];have:∀(p q:D×R) (t:D),Ok (match t with
  | .bl true=>(c q.2).bind λr=>(g q.1 r.1).map λd=>(d,r.2)
  | .bl false=>some (.bl false,q.2)
  |_=>none) Q↔∃z,t= .bl z/\(z=true->Ok (c q.2) λr=>Ok (g q.1 r.1) λd=>Q (d,r.2))/\(z=false->Q (.bl false,q.2)):=by
  intro p q t;cases t with
  |bl z=>
   cases z
   ·simp[iY,ok_some]
   ·simp only[iY,ok_bind,D.bl.injEq,qcH,forall_const,reduceCtorEq,qcI,and_true];exact iff_of_eq (dD λr=>ok_map)
  |_=>simp[iY,ok_none]
 exact dD λp=>by rw[ok_bind];exact dD λq=>by rw[ok_bind];exact dD λt=>propext (this p q t)
theorem rH {Q:AB D×R->Prop}:aH Q (Uz g mt me d ρ)=(aH (λρ1=>aH (λp=>(p.1=true->aH (λq=>fL q.2=true/\Q (some q.1,q.2)) (me p.2))/\(p.1=false->fL p.2=true/\Q (none,p.2))) (mt ρ1)) (g d ρ)):=by
 unfold Uz;rw[ok_bind];exact dD λρ1=>by rw[ok_bind];exact dD λp=>by rw[Ds,ok_bind,qF,ok_some];congr 1;exact propext (imp_congr Iff.rfl (iff_of_eq (dD λq=>by rw[qF,ok_some])))
theorem oJ {bk:Nat}{Q:AB D×R->Prop}:aH Q (kR bk g mt me d ρ)=(aH (λρ1=>aH (λp=>(p.1=true->aH (λq=>Ko bk q.2=true/\Q (some q.1,q.2)) (me p.2))/\(p.1=false->Ko bk p.2=true/\Q (none,p.2))) (mt ρ1)) (g d ρ)):=by
 unfold kR;rw[ok_bind];exact dD λρ1=>by rw[ok_bind];exact dD λp=>by rw[Ds,ok_bind,qF,ok_some];congr 1;exact propext (imp_congr Iff.rfl (iff_of_eq (dD λq=>by rw[qF,ok_some])))
theorem znu (n:Nat):Int.natAbs (no_index (OfNat.ofNat n))=n:=rfl
end
section
theorem pZ:aH Q (dS ρ)=(Q (.next,ρ)):=ok_some
noncomputable def nJ (b:MS)(Q:Fl×R->Prop)(p:Fl×R):Prop:=aH Q (match p.1 with
 | .next=>b p.2
 |f=>some (f,p.2))
theorem zpY:nJ b Q (.next,ρ)=(aH Q (b ρ)):=rfl
theorem sQ:nJ b Q (.ret r,ρ)=(Q (.ret r,ρ)):=ok_some
theorem oM:nJ b Q (.brk,ρ)=(Q (.brk,ρ)):=ok_some
theorem zpa:nJ b Q (.cont,ρ)=(Q (.cont,ρ)):=ok_some
theorem yZ {a b:MS}:aH Q (aF a b ρ)=(aH (nJ b Q) (a ρ)):=ok_bind
theorem sY:aH Q (sC m ρ)=(aH (λp=>Q (.next,p.2)) (m ρ)):=ok_map
theorem Ay:aH Q (bA m ρ)=(aH (λp=>Q (.ret (.val p.1),p.2)) (m ρ)):=ok_map
theorem pS {m:MO}:aH Q (De m ρ)=(aH (λp=>Q (.ret (.own p.1),p.2)) (m ρ)):=ok_map
theorem sV:aH Q (jL i ρ)=aH Q (match ρ[i]? with
 |some (.val d)=>some (.ret (.val d),ρ)
 |some (.own ds)=>some (.ret (.own ds),ρ.set i .emp)
 |_=>none):=rfl
theorem Tb {Q:R->Prop}:aH Q (gN i d ρ)=(Q (ρ.set i (.val d))):=ok_some
theorem tD {ds:AA D}{ρ:R}{Q:R->Prop}:aH Q (eA ds ρ)=aH Q (match ds with
 |[]=>some ρ
 |_=>none):=rfl
theorem zo0 {Q:R->Prop}:aH Q (bI g h ds ρ)=aH Q (match ds with
 |d::ds=>(g d ρ).bind λρ1=>h ds ρ1
 |[]=>none):=rfl
theorem Pc {g:AA D->R->AB R}{Q:R->Prop}:aH Q (gT n g d ρ)=aH Q (match d with
 | .tup ds=>if ds.length=n then g ds ρ else none
 |_=>none):=rfl
theorem xP:aH Q (iH m g ρ)=(aH (λp=>aH (λρ'=>Q (.next,ρ')) (g p.1 p.2)) (m ρ)):=ok_bind.trans (dD λ_=>ok_map)
theorem vI:aH Q (aO i m ρ)=(aH (λp=>Q (.next,p.2.set i (.val p.1))) (m ρ)):=ok_map
theorem pF {m:MO}:aH Q (fW i m ρ)=(aH (λp=>Q (.next,p.2.set i (.own p.1))) (m ρ)):=ok_map
theorem xO:aH Q (cN i m ρ)=aH Q (gd ((ρ[i]?.bind Sl.items).isSome) ((m ρ).bind λp=>p.2[i]?.bind λs=>s.items.bind λds=>if ds.length<16777216 then some (.next,p.2.set i (s.put (ds++[p.1])))else none)):=rfl
theorem xI {mi me:ME}:aH Q (iE j mi me ρ)=aH Q ((me ρ).bind λp=>gd (fC p.2 j) ((mi p.2).bind λq=>match q.1 with
 | .int k=>q.2[j]?.bind λs=>s.items.bind λds=>(cB ds.length k).bind λn=>some (.next,q.2.set j (s.put (ds.set n p.1)))
 |_=>none)):=rfl
theorem tJ {Q:D×R->Prop}:aH Q (eC d ρ)=(Q (d,ρ)):=ok_some
noncomputable def Vq (Q:D×R->Prop)(s:RtS Q)(ρ:R)(i:Nat):Prop:=match s with
 |some (.val d)=>Q (d,ρ)
 |some (.own ds)=>Q (.lst ds,ρ.set i (.val (.lst ds)))
 |_=>False
theorem Tz {Q:D×R->Prop}:Vq Q (some (.val d)) ρ i=Q (d,ρ):=rfl
theorem An {Q:D×R->Prop}:Vq Q (some (.own ds)) ρ i=Q (.lst ds,ρ.set i (.val (.lst ds))):=rfl
theorem Ob {Q:D×R->Prop}:aH Q (aA i ρ)=Vq Q ρ[i]? ρ i:=by
 unfold aA Vq;cases ρ[i]? with
 |none=>exact ok_none
 |some s=>cases s<;>first|exact ok_some|exact ok_none
noncomputable def Vb (Q:D->D->Prop)(P:Prop)(s:RtS Q)(t:AB Sl):Prop:=match s,t with
 |some (.val x),some (.val y)=>Q x y
 |_,_=>P
theorem Kx {Q:D->D->Prop}{P:Prop}{x y:D}:Vb Q P (some (.val x)) (some (.val y))=Q x y:=rfl
theorem Hg {Q:D->D->Prop}{P:Prop}:Vb Q P (some (.own xs)) t=P:=rfl
theorem yY {Q:D->D->Prop}{P:Prop}:Vb Q P (some (.val x)) (some (.own ys))=P:=rfl
noncomputable def Va (Q:D->Prop)(P:Prop)(s:RtS Q):Prop:=match s with
 |some (.val x)=>Q x
 |_=>P
theorem Ky {Q:D->Prop}{P:Prop}:Va Q P (some (.val x))=Q x:=rfl
theorem Hn {Q:D->Prop}{P:Prop}:Va Q P (some (.own xs))=P:=rfl
theorem vU {Q:AA D×R->Prop}:aH Q (aB ρ)=(Q ([],ρ)):=ok_some
theorem mR {r:MA}{Q:AA D×R->Prop}:aH Q (aC m r ρ)=(aH (λp=>aH (λq=>Q (p.1::q.1,q.2)) (r p.2)) (m ρ)):=ok_bind.trans (dD λ_=>ok_map)
theorem kY {f:D->D->AB D}{ma mb:ME}{Q:D×R->Prop}:aH Q (m2 f ma mb ρ)=(aH (λp=>aH (λq=>aH (λd=>Q (d,q.2)) (f p.1 q.1)) (mb p.2)) (ma ρ)):=ok_bind.trans (dD λ_=>ok_bind.trans (dD λ_=>ok_map))
theorem zF {f:D->D->AB D}{a b:Nat}{Q:D×R->Prop}:aH Q (m2 f (aA a) (aA b) ρ)=Vb (λx y=>aH (λd=>Q (d,ρ)) (f x y)) (aH (λp=>aH (λq=>aH (λd=>Q (d,q.2)) (f p.1 q.1)) (aA b p.2)) (aA a ρ)) ρ[a]? ρ[b]?:=by
 rw[kY,Vb.eq_def]
 split
 ·rename_i x y h1 h2;rw[Ob,h1,Tz,Ob,h2,Tz]
 ·rfl
theorem Au {f:D->D->AB D}{Q:D×R->Prop}:aH Q (m2 f (aA a) (eC c) ρ)=Va (λx=>aH (λd=>Q (d,ρ)) (f x c)) (aH (λp=>aH (λd=>Q (d,p.2)) (f p.1 c)) (aA a ρ)) ρ[a]?:=by
 rw[kY,Va.eq_def,show(λp:D×R=>aH (λq=>aH (λd=>Q (d,q.2)) (f p.1 q.1)) (eC c p.2))=λp=>aH (λd=>Q (d,p.2)) (f p.1 c)from funext λp=>tJ]
 split
 ·rename_i x h1;rw[Ob,h1,Tz]
 ·rfl
theorem uQ {f:D->D->AB D}{Q:D×R->Prop}:aH Q (m2 f (eC c) (aA a) ρ)=Va (λx=>aH (λd=>Q (d,ρ)) (f c x)) (aH (λp=>aH (λd=>Q (d,p.2)) (f c p.1)) (aA a ρ)) ρ[a]?:=by
 rw[kY,Va.eq_def,tJ]
 split
 ·rename_i x h1;rw[Ob,h1,Tz]
 ·rfl
theorem On {f:D->AB D}{ma:ME}{Q:D×R->Prop}:aH Q (m1 f ma ρ)=(aH (λp=>aH (λd=>Q (d,p.2)) (f p.1)) (ma ρ)):=ok_bind.trans (dD λ_=>ok_map)
theorem Oa {f:AA D->AB D}{Q:D×R->Prop}:aH Q (mC f ma ρ)=(aH (λp=>aH (λd=>Q (d,p.2)) (f p.1)) (ma ρ)):=ok_bind.trans (dD λ_=>ok_map)
theorem xN {mi:ME}{Q:D×R->Prop}:aH Q (aI j mi ρ)=aH Q (gd (fC ρ j) ((mi ρ).bind λp=>(p.2[j]?.bind Sl.read).bind λd=>(cG d p.1).map λe=>(e,p.2))):=Eq.trans rfl rfl
noncomputable def Cj (s:AB Sl)(c:D):AB D:=match s with
 |some (.val d)=>cG d c
 |some (.own ds)=>cG (.lst ds) c
 |some (.par ds)=>cG (.lst ds) c
 |_=>none
theorem Ak:Cj (some (.val d)) c=cG d c:=rfl
theorem xQ:Cj (some (.own ds)) c=cG (.lst ds) c:=rfl
theorem vC:Cj (some (.par ds)) c=cG (.lst ds) c:=rfl
theorem znb:(if fC ρ j then(ρ[j]?.bind Sl.read).bind λd=>(cG d c).map λe=>(e,ρ)else none)=(Cj ρ[j]? c).map λe=>(e,ρ):=by
 unfold fC;cases ρ[j]? with
 |none=>rfl
 |some s=>cases s<;>rfl
theorem uK {Q:D×R->Prop}:aH Q (aI j (eC c) ρ)=aH (λe=>Q (e,ρ)) (Cj ρ[j]? c):=by
 rw[show aI j (eC c) ρ=(Cj ρ[j]? c).map λe=>(e,ρ)from znb,ok_map]
theorem Az {Q:D×R->Prop}:aH Q (aI j (aA i) ρ)=Va (λc=>aH (λe=>Q (e,ρ)) (Cj ρ[j]? c)) (aH Q (gd (fC ρ j) ((aA i ρ).bind λp=>(p.2[j]?.bind Sl.read).bind λd=>(cG d p.1).map λe=>(e,p.2)))) ρ[i]?:=by
 rw[Va.eq_def]
 split
 ·rename_i x h1;rw[show aI j (aA i) ρ=(Cj ρ[j]? x).map λe=>(e,ρ) by
   rw[<-znb];unfold aI;rw[show aA i ρ=some (x,ρ) by unfold aA;rw[h1]];rfl,ok_map]
 ·rfl
theorem qE {Q:D×R->Prop}:aH Q (eU j ρ)=aH Q ((ρ[j]?.bind Sl.read).bind λd=>(bS [d]).map λe=>(e,ρ)):=rfl
theorem Qa {f:AA D->AB (AA D)}{Q:AA D×R->Prop}:aH Q (oC f ma ρ)=(aH (λp=>aH (λd=>Q (d,p.2)) (f p.1)) (ma ρ)):=ok_bind.trans (dD λ_=>ok_map)
theorem yR {Q:D×R->Prop}:aH Q (aT ma ρ)=(aH (λp=>p.1.length<=16777216/\Q (.tup p.1,p.2)) (ma ρ)):=ok_bind.trans (dD λ_=>by rw[qF,ok_some])
theorem wK {Q:AA D×R->Prop}:aH Q (bT ma ρ)=(aH (λp=>p.1.length<=16777216/\Q (p.1,p.2)) (ma ρ)):=ok_bind.trans (dD λ_=>by rw[qF,ok_some])
theorem yJ {ma:ME}{Q:Bool×R->Prop}:aH Q (aQ ma ρ)=(aH (λp=>aH (λb=>Q (b,p.2)) (Ab p.1)) (ma ρ)):=ok_bind.trans (dD λ_=>ok_map)
theorem rF {a:MT}{Q:Bool×R->Prop}:aH Q (Bj a ρ)=(aH (λp=>Q (!p.1,p.2)) (a ρ)):=ok_map
theorem rV {Q:D×R->Prop}:aH Q (bU F ma ρ)=aH Q ((ma ρ).bind λp=>(F p.1).bind λr=>match r with
 | .val d=>some (d,p.2)
 | .own ds=>some (.lst ds,p.2)
 |_=>none):=rfl
theorem pP {Q:AA D×R->Prop}:aH Q (qJ F ma ρ)=aH Q ((ma ρ).bind λp=>(F p.1).bind λr=>match r with
 | .own ds=>some (ds,p.2)
 |_=>none):=rfl
theorem zoj {F:AA D->AA D->AB (Sl×AA D)}{Q:D×R->Prop}:aH Q (cU F j ma ρ)=aH Q (gd ((ρ[j]?.bind Sl.items).isSome) ((ma ρ).bind λp=>p.2[j]?.bind λs=>s.items.bind λcs=>(F cs p.1).bind λr=>match r.1 with
 | .val d=>some (d,p.2.set j (s.put r.2))
 | .own ds=>some (.lst ds,p.2.set j (s.put r.2))
 |_=>none)):=rfl
theorem ok_iR2L {Q:AA D×R->Prop}:aH Q (iR2L ma ρ)=aH Q ((ma ρ).bind λp=>match p.1 with
 |[.int i,.int j]=>some (lF i (j-i).toNat,p.2)
 |_=>none):=rfl
theorem Hv {m:MO}{Q:D×R->Prop}:aH Q (cZ m ρ)=(aH (λp=>Q (.lst p.1,p.2)) (m ρ)):=ok_map
theorem vX {ma:ME}{ml mh:MP}{Q:D×R->Prop}:aH Q (dP ma ml mh ρ)=aH Q ((ma ρ).bind λp=>(ml p.2).bind λq=>(mh q.2).bind λr=>(lN p.1 q.1 r.1).map λd=>(d,r.2)):=rfl
theorem Ex {Q:AB Int×R->Prop}:aH Q (kB ρ)=(Q (none,ρ)):=ok_some
theorem qS {Q:AB Int×R->Prop}:aH Q (gL m ρ)=aH Q ((m ρ).bind λp=>match p.1 with
 | .int i=>some (some i,p.2)
 |_=>none):=rfl
theorem uX {Q:AA D×R->Prop}:aH Q (bV m ρ)=(aH (λp=>aH (λds=>Q (ds,p.2)) (cL [p.1])) (m ρ)):=ok_bind.trans (dD λ_=>ok_map)
theorem Ji {Q:AA D×R->Prop}:aH Q (fS ma ρ)=aH Q ((ma ρ).bind λp=>match p.1 with
 |[.int j]=>if uA j then some (lF 0 j.toNat,p.2)else none
 |_=>none):=rfl
theorem xD {mb:MS}:aH Q (bR mi g mb ρ)=(aH (λp=>aH Q (fI (λd ρ=>(g d ρ).bind λρ'=>mb ρ') p.1 p.2)) (mi ρ)):=ok_bind
theorem Kr {t:Nat}{Q:AA D×R->Prop}:aH Q (fQ cap t mi g mt me ρ)=aH Q ((mi ρ).bind λp=>if p.1.length<=16777216 then(gH (Uz g mt me) p.1 (eN cap t (fzL cap p.2))).map λq=>(q.1,fzL cap p.2)else none):=rfl
theorem Ny {m:MA}{Q:AA D×R->Prop}:aH Q (oR m ρ)=aH Q ((m ρ).bind λp=>if p.1.length<=16777216 then some p else none):=rfl
theorem nP {Q:Bool×R->Prop}:aH Q (dZ ρ)=(Q (true,ρ)):=ok_some
theorem Bh {T:String}{ma:ME}{Q:D×R->Prop}:aH Q (eIsI T ma ρ)=aH Q ((ma ρ).bind λp=>if Py T&&eIsI.noS1 p.1 then some (.bl (Sz T p.1),p.2)else none):=rfl
theorem rD {g:Int->Int->Int}:aH Q (Ms i g me ρ)=aH Q (match ρ[i]? with
 |some (.val (.int a))=>(me ρ).bind λp=>match p.1 with
  | .int b=>some (.next,p.2.set i (.val (.int (g a b))))
  |_=>none
 |_=>none):=rfl
theorem zD {ma mb:ME}{Q:AA D×R->Prop}:aH Q (rZ ma mb ρ)=aH Q ((ma ρ).bind λp=>(mb p.2).bind λq=>match p.1,q.1 with
 | .lst xs,.int k=>if uA k&&decide (xs.length*k.toNat<=16777216)then some ((List.replicate k.toNat xs).flatten,q.2)else none
 |_,_=>none):=rfl
theorem Gn {Q:AA D×R->Prop}:aH Q (iZ2 ma ρ)=aH Q ((ma ρ).bind λp=>match p.1 with
 |[a,b]=>(cL [a]).bind λxs=>(cL [b]).bind λys=>some (Em xs ys,p.2)
 |_=>none):=rfl
theorem Jh {Q:AA D×R->Prop}:aH Q (Lu ma ρ)=aH Q ((ma ρ).bind λp=>match p.1 with
 |[a,b,c]=>(cL [a]).bind λxs=>(cL [b]).bind λys=>(cL [c]).bind λzs=>some (Fh xs ys zs,p.2)
 |_=>none):=rfl
theorem Kk {Q:AA D×R->Prop}:aH Q (tV ma ρ)=aH Q ((ma ρ).bind λp=>(cL p.1).map λxs=>(Ek xs,p.2)):=rfl
theorem vK {t b w:Nat}{Q:AA D×R->Prop}:aH Q (gU cap t b w mi g mt me ρ)=aH Q ((mi ρ).bind λp=>if p.1.length<=16777216 then
    ((fzL (cap.filter (· !=w)) p.2)[w]?).bind λs=>s.items.bind λcs=>(gH (kR b g mt me) p.1 ((eN cap t (fzL (cap.filter (· !=w)) p.2)).set b (.par cs))).map λq=>(q.1,(fzL (cap.filter (· !=w)) p.2).set w (s.put (lJ b q.2)))
  else none):=rfl
noncomputable def Cr:Nat->AA D->R
 |N,[]=>List.replicate N .emp
 |N,d::ds=> .val d::Cr (N-1) ds
theorem zjO {d:D}:Cr N (d::ds)= .val d::Cr (N-1) ds:=rfl
theorem zpF:Cr N []=List.replicate N .emp:=rfl
theorem Vr:∀(N:Nat) (ds:AA D),ds.map .val++List.replicate (N-ds.length) .emp=Cr N ds
 |_,[]=>rfl
 |N,d::ds=>by rw[zjO,<-Vr (N-1) ds,jJ,eW,Nat.sub_sub,Mb 1];rfl
theorem zoZ {α β:Type}{f:α->β}{a:α}{l:AA α}:(a::l).map f=f a::l.map f:=rfl
theorem pB {α β:Type}{f:α->β}:[].map f=[]:=rfl
theorem Oq {m:MS}{Q:Sl->Prop}:aH Q (fP N m ds)=aH Q ((m (Cr N ds)).bind λp=>match p.1 with
 | .ret r=>some r
 | .next=>some (.val .non)
 |_=>none):=by rw[<-Vr];rfl
theorem Ol {m:MS}{cs:AA D}{Q:Sl×AA D->Prop}:aH Q (fM N m cs ds)=aH Q ((m (.par cs::Cr (N-1) ds)).bind λp=>match p.1,(p.2[0]?:AB Sl)with
 |Fl.ret r,some (Sl.par out)=>some (r,out)
 |Fl.next,some (Sl.par out)=>some (.val .non,out)
 |_,_=>none):=by rw[<-Vr,Nat.sub_sub,Mb 1];rfl
end
noncomputable def Turn (I:R->Prop)(Q:Fl×R->Prop)(p:Fl×R):Prop:=match p.1 with
 | .next=>I p.2
 | .cont=>I p.2
 | .brk=>Q (.next,p.2)
 | .ret r=>Q (.ret r,p.2)
theorem zpR:Turn I Q (.next,ρ)=(I ρ):=rfl
theorem zoi:Turn I Q (.cont,ρ)=(I ρ):=rfl
theorem nY:Turn I Q (.brk,ρ)=(Q (.next,ρ)):=rfl
theorem mK:Turn I Q (.ret r,ρ)=(Q (.ret r,ρ)):=rfl
theorem zoG {α:Type}{f:D->R->AB (Fl×R)}(enc:α->D)(I:Nat->R->Prop):∀(l:AA α) (b:Nat) (ρ:R),I b ρ->
  (∀i a ρ,l[i]? =some a->I (b+i) ρ->Ok (f (enc a) ρ) (Turn (I (b+i+1)) Q))->(∀ρ,I (b+l.length) ρ->Q (.next,ρ))->Ok (fI f (l.map enc) ρ) Q
 |[],b,ρ,h0,_,hq=>ok_some.mpr (hq ρ h0)
 |a::l,b,ρ,h0,hs,hq=>by
  obtain⟨p,e,t⟩:=hs 0 a ρ rfl h0;obtain⟨fl,ρ1⟩:=p;have go:∀ρ1,I (b+1) ρ1->Ok (fI f (l.map enc) ρ1) Q:=λρ1 h1=>zoG enc I l (b+1) ρ1 h1 (λi a' ρ' hi hp=>by
   have:=hs (i+1) a' ρ' (by simpa using hi) (by rw[show b+(i+1)=b+1+i by lia];exact hp);rw[show b+(i+1)+1=b+1+i+1 by lia]at this;exact this) (λρ h=>hq ρ (by rw[eW,show b+(l.length+1)=b+1+l.length by lia];exact h))
  have e':fI f ((a::l).map enc) ρ=(f (enc a) ρ).bind λp=>match p.1 with
   | .next=>fI f (l.map enc) p.2
   | .cont=>fI f (l.map enc) p.2
   | .brk=>some (.next,p.2)
   | .ret r=>some (.ret r,p.2):=rfl
  rw[e',e];cases fl with
  |next=>exact go ρ1 t
  |cont=>exact go ρ1 t
  |brk=>exact ok_some.mpr t
  |ret r=>exact ok_some.mpr t
theorem Yb {α:Type}{f:D->R->AB (Fl×R)}{enc:α->D}{l:AA α}(I:Nat->R->Prop)(h0:I 0 ρ)(hs:∀i a ρ,l[i]? =some a->I i ρ->Ok (f (enc a) ρ) (Turn (I (i+1)) Q))(hq:∀ρ,I l.length ρ->Q (.next,ρ)):Ok (fI f (l.map enc) ρ) Q:=
 zoG enc I l 0 ρ h0 (λi a ρ hi h=>by rw[uD]at h ⊢;exact hs i a ρ hi h) (λρ h=>hq ρ (by rw[uD]at h;exact h))
theorem zlR {α:Type}(enc:α->D){Q:AA D×R->Prop}(I:Nat->AA D->R->Prop):∀(l:AA α) (b:Nat) (acc:AA D) (ρ:R),I b acc ρ->
  (∀i a acc ρ,l[i]? =some a->I (b+i) acc ρ->Ok (f (enc a) ρ) λp=>I (b+i+1) (acc++p.1.toList) p.2)->(∀ds ρ,I (b+l.length) (acc++ds) ρ->Q (ds,ρ))->Ok (gH f (l.map enc) ρ) Q
 |[],b,acc,ρ,h0,_,hq=>ok_some.mpr (hq [] ρ (by rw[lW];exact h0))
 |a::l,b,acc,ρ,h0,hs,hq=>by
  obtain⟨p,e,t⟩:=hs 0 a acc ρ rfl h0;have go:=zlR enc (Q:=λq=>Q (p.1.toList++q.1,q.2)) I l (b+1) (acc++p.1.toList) p.2 t (λi a' acc' ρ' hi hp=>by
   have:=hs (i+1) a' acc' ρ' (by simpa using hi) (by rw[show b+(i+1)=b+1+i by lia];exact hp);rw[show b+(i+1)+1=b+1+i+1 by lia]at this;exact this) (λds ρ h=>hq _ ρ (by rw[eW,show b+(l.length+1)=b+1+l.length by lia,<-qK];exact h))
  have e':gH f ((a::l).map enc) ρ=(f (enc a) ρ).bind λp=>(gH f (l.map enc) p.2).map λq=>(p.1.toList++q.1,q.2):=rfl
  rw[e',e];exact ok_map.mpr go
theorem zm2 {α:Type}{enc:α->D}{l:AA α}{Q:AA D×R->Prop}(I:Nat->AA D->R->Prop)(h0:I 0 [] ρ)(hs:∀i a acc ρ,l[i]? =some a->I i acc ρ->Ok (f (enc a) ρ) λp=>I (i+1) (acc++p.1.toList) p.2)(hq:∀ds ρ,I l.length ds ρ->Q (ds,ρ)):Ok (gH f (l.map enc) ρ) Q:=
 zlR enc I l 0 [] ρ h0 (λi a acc ρ hi h=>by rw[uD]at h ⊢;exact hs i a acc ρ hi h) (λds ρ h=>hq ds ρ (by rw[uD]at h;exact h))
theorem zfF {α β:Type}{f g:α->AB β}:∀(l:AA α),(∀a∈l,f a=g a)->l.filterMap f=l.filterMap g
 |[],_=>rfl
 |a::l,h=>by rw[Rg,Rg,h a jP,zfF l λb hb=>h b (iN _ hb)]
theorem znc {α:Type}{enc:α->D}{l:AA α}{Q:AA D×R->Prop}(P:R->Prop)(g:α->AB D)(h0:P ρ)(hs:∀a ρ,a∈l->P ρ->Ok (f (enc a) ρ) λp=>p.1=g a/\P p.2)(hq:∀ρ,P ρ->Q (l.filterMap g,ρ)):Ok (gH f (l.map enc) ρ) Q:=
 zm2 (λi ds ρ=>ds=(l.take i).filterMap g/\P ρ) ⟨rfl,h0⟩ (λi a acc ρ hi ⟨e,p⟩=>by
  refine(hs a ρ (xB hi) p).mono λr h=>⟨?_,h.2⟩
  obtain⟨h1,h2⟩:=qap.mp hi;rw[h.1,e,List.take_add_one,hi,List.filterMap_append];cases q:g a<;>simp[q]) (λds ρ ⟨e,p⟩=>by rw[List.take_length]at e;rw[e];exact hq ρ p)
theorem zX {α:Type}{enc:α->D}{l:AA α}{Q:AA D×R->Prop}(P:R->Prop)(g:α->D)(h0:P ρ)(hs:∀a ρ,a∈l->P ρ->Ok (f (enc a) ρ) λp=>p.1=some (g a)/\P p.2)(hq:∀ρ,P ρ->Q (l.map g,ρ)):Ok (gH f (l.map enc) ρ) Q:=
 znc P (λa=>some (g a)) h0 hs (λρ p=>by rw[<-Nb some g,List.filterMap_eq_map];exact hq ρ p)
theorem vQ (i j:Int):cV (.int i) (.int j)=some (.bl (i==j)):=by
 unfold cV;rw[show bP (.int i)=true from rfl,show bP (.int j)=true from rfl,show depth (.int i)=0 from rfl]
 rfl
theorem zpe (i j:Int):fB (.int i) (.int j)=some (.bl (i !=j)):=by
 unfold fB;rw[show bP (.int i)=true from rfl,show bP (.int j)=true from rfl,show depth (.int i)=0 from rfl]
 rfl
theorem kW {α:Type}(xs:AA α)(i:Nat):atI xs (i:Int)=xs[i]?:=by
 unfold atI cB;rw[if_pos (by lia)]
 by_cases h:i<xs.length
 ·rw[if_pos (by lia)];simp
 ·rw[if_neg (by lia)];simp[eO (by lia:xs.length<=i)]
theorem zV {α:Type}(xs:AA α)(n:Nat):atI xs (no_index (@OfNat.ofNat Int n _))=xs[n]?:=kW xs n
theorem Ej {α:Type}(xs:AA α)(i:Nat):atI xs ((i:Int)+1)=xs[i+1]?:=kW xs (i+1)
theorem Cz (n i:Nat):cB n (i:Int)=if i<n then some i else none:=by
 unfold cB;rw[if_pos (by lia)]
 by_cases h:i<n
 ·rw[if_pos (by lia),if_pos h];simp
 ·rw[if_neg (by lia),if_neg h]
theorem wO (n i:Nat):cB n (no_index (@OfNat.ofNat Int i _))=if i<n then some i else none:=Cz n i
theorem znd {α:Type}(xs:AA α)(x:α):atI (xs++[x]) (-1)=some x:=by
 unfold atI cB;rw[if_neg (by lia),if_pos (by simp;lia)];have:(-1+((xs++[x]).length:Int)).toNat=xs.length:=by simp;lia
 simp only[jN,this];simp
theorem nW (n:Nat):cB (n+1) (-1)=some n:=by
 unfold cB;rw[if_neg (by lia),if_pos (by lia)];congr 1;lia
theorem kJ {i j:Int}(h:i.natAbs<18446744073709551616):Bg i j=true:=by
 unfold Bg;have:decide (i.natAbs<2^64)=true:=iP h;rw[this];rfl
theorem zT {i j:Int}(h:j.natAbs<18446744073709551616):Bg i j=true:=by
 unfold Bg;have:decide (j.natAbs<2^64)=true:=iP h;rw[this];simp
theorem gB {j:Int}(h1: -1000000000000<=j)(h2:j<=1000000000000):uA j=true:=by
 unfold uA;rw[iP h1,iP h2];rfl
noncomputable def wL (n:Nat)(f:Nat->D):AA D:=(List.range n).map f
noncomputable abbrev wI (n:Nat)(f:Nat->Int):AA D:=wL n λi=> .int (f i)
theorem dI (n:Nat)(f:Nat->D):(wL n f).length=n:=by simp[wL]
theorem aZ (f:Nat->D)(h:i<n):(wL n f)[i]? =some (f i):=by simp[wL,h]
theorem gE (n:Nat)(f:Nat->D):wL (n+1) f=wL n f++[f n]:=by simp[wL,Ys]
theorem kX {f g:Nat->D}(h:∀i,i<n->f i=g i):wL n f=wL n g:=mD λi hi=>h i (qah.mp hi)
theorem zpT (n:Nat)(f:Nat->D)(x:D):wL n f++[x]=wL (n+1) λj=>if j<n then f j else x:=by
 rw[gE];congr 1
 ·exact kX λi hi=>by rw[if_pos hi]
 ·rw[if_neg (by lia)]
theorem qW (f:Nat->D)(x:D)(h:i<n):(wL n f).set i x=wL n λj=>if j=i then x else f j:=by
 apply lH;intro j
 by_cases hj:j<n
 ·rw[aZ _ hj,iG]
  by_cases e:i=j
  ·subst e;simp[dI,h]
  ·simp[e,aZ _ hj,Ne.symm e]
 ·rw[eO (by simp[dI];lia),eO (by simp[dI];lia)]
theorem zpG (f:Nat->D):atI (wL (n+1) f) (-1)=some (f n):=by rw[gE];exact znd _ _
theorem Jn (f:Nat->D):atI (wL (n+2) f) (-2)=some (f n):=by
 unfold atI cB;rw[if_neg (by lia),if_pos (by rw[dI];lia)];have:(-2+((wL (n+2) f).length:Int)).toNat=n:=by rw[dI];lia
 simp only[jN,this];exact aZ f (by lia)
theorem xE (n:Nat)(f:Nat->D):Ek (wL n f)=wL n λi=> .tup [.int (i:Nat),f i]:=by
 apply lH;intro j;unfold Ek
 by_cases hj:j<n
 ·rw[Ly,aZ _ hj,aZ _ hj];simp[dI,hj]
 ·rw[eO (by simp[dI];lia),eO (by simp[dI];lia)]
theorem Af (n:Nat)(f g:Nat->D):Em (wL n f) (wL n g)=wL n λi=> .tup [f i,g i]:=by
 apply lH;intro j;unfold Em
 by_cases hj:j<n
 ·rw[Ly,aZ _ hj,aZ _ hj,aZ _ hj]
 ·rw[eO (by simp[dI];lia),eO (by simp[dI];lia)]
theorem Nj {α:Type}(xs:AA α)(i:Nat):bD xs none (some (i:Int))=xs.take i:=by
 unfold bD;rw[HT.Wt,HT.zmG,Nat.sub_zero,List.drop_zero]
 by_cases h:i<=xs.length
 ·rw[Xr h]
 ·rw[Nat.min_eq_right (by lia),uE (bZ _),uE (by lia)]
theorem Qq {α:Type}(xs:AA α)(i:Nat):bD xs (some (i:Int)) none=xs.drop i:=by
 unfold bD;rw[HT.Wt,HT.zmG]
 by_cases h:i<=xs.length
 ·rw[Xr h,uE (by simp)]
 ·rw[Nat.min_eq_right (by lia),List.drop_of_length_le (bZ _),List.drop_of_length_le (by lia)];simp
theorem Ru:∀(l:AA Int),hU (l.map .int)=some l
 |[]=>rfl
 |i::l=>by simp[hU,Ru l]
theorem zja (bt:Nat->Nat->Bool):∀n,argBest bt n<=n
 |0=>bZ 0
 |n+1=>by
  have:=zja bt n;unfold argBest
  split<;>lia
theorem zpN (lt:Int->Int->Bool)(h:ns≠[]):Lh lt ns∈ns:=by
 unfold Lh;have hl:0<ns.length:=List.length_pos_iff.mpr h;have:=zja (λi j=>lt (ns.getD i 0) (ns.getD j 0)) (ns.length-1)
 generalize argBest (λi j=>lt (ns.getD i 0) (ns.getD j 0)) (ns.length-1)=k at*
 rw[List.getD_eq_getElem?_getD,cI (by lia)];exact List.getElem_mem _
theorem znG (lt:Int->Int->Bool)(h:ns≠[]):kP lt [.lst (ns.map .int)]=some (.int (Lh lt ns)):=by
 have hne:ns.isEmpty=false:=by cases ns with|nil=>exact AH rfl h|cons=>rfl
 simp only[kP,cL,jN,Ru,hne]
 rfl
mutual
theorem zng:∀(d:D),bP d=true->eJ d d=true
 | .non,_=>rfl
 | .bl b,_=>by simp[eJ]
 | .int i,_=>by simp[eJ]
 | .str s,_=>by simp[eJ]
 | .lst ds,h=>by simp only[eJ];exact Zp ds (by simpa[bP]using h)
 | .tup ds,h=>by simp only[eJ];exact Zp ds (by simpa[bP]using h)
 | .scr _,h=>by simp[bP]at h
 | .exc _,h=>by simp[bP]at h
theorem Zp:∀(ds:List D),dW ds=true->cS ds ds=true
 |[],_=>rfl
 |d::ds,h=>by
  simp only[dW,fJ]at h;simp only[cS,fJ];exact⟨zng d h.1,Zp ds h.2⟩
end
theorem qN (h:bP d=true)(k:depth d<=50):fB d d=some (.bl false):=by simp[fB,h,k,zng d h]
theorem zmn:∀{ds:AA D},(∀d∈ds,bP d=true)->dW ds=true
 |[],_=>rfl
 |d::ds,h=>by simp only[dW,fJ];exact⟨h d jP,zmn λe he=>h e (iN _ he)⟩
theorem zi9:∀{ds:AA D},(∀d∈ds,depth d<=k)->vA ds<=k
 |[],_=>jR _
 |d::ds,h=>by simp only[vA];exact Nat.max_le.mpr ⟨h d jP,zi9 λe he=>h e (iN _ he)⟩
noncomputable def Pl (k:Nat)(d:D):Prop:=bP d=true/\depth d<=k
theorem Da (k:Nat)(i:Int):Pl k (.int i):=⟨rfl,jR _⟩
theorem oW (h:∀d∈ds,Pl k d):Pl (k+1) (.lst ds):=⟨by simp only[bP];exact zmn λd hd=>(h d hd).1,by simp only[depth];exact Nat.succ_le_succ (zi9 λd hd=>(h d hd).2)⟩
theorem My (h:∀d∈ds,Pl k d):Pl (k+1) (.tup ds):=⟨by simp only[bP];exact zmn λd hd=>(h d hd).1,by simp only[depth];exact Nat.succ_le_succ (zi9 λd hd=>(h d hd).2)⟩
theorem sD {f:Nat->D}(h:∀i,Pl k (f i)):∀d∈wL n f,Pl k d:=λd hd=>by
 obtain⟨i,_,rfl⟩:=qb1.mp hd;exact h i
theorem Pl.ne (h:Pl k d)(l:k<=50):fB d d=some (.bl false):=qN h.1 (jE h.2 l)
theorem oS (n:Nat):lF 0 n=wL n λi=> .int (i:Nat):=by unfold lF wL;simp only[Int.zero_add]
section
variable {n:Nat}{e:Nat->D}{ρ:R}
theorem fN {f:D->R->AB (Fl×R)}(I:Nat->R->Prop)(h0:I 0 ρ)(hs:∀i ρ,i<n->I i ρ->Ok (f (e i) ρ) (Turn (I (i+1)) Q))(hq:∀ρ,I n ρ->Q (.next,ρ)):Ok (fI f (wL n e) ρ) Q:=
 Yb (enc:=e) (l:=List.range n) I h0 (λi a ρ hi h=>by
  obtain⟨h1,h2⟩:=qap.mp hi;have:a=i:=by simpa using h2.symm
  subst this;exact hs a ρ (by simpa using h1) h) (λρ h=>hq ρ (by simpa using h))
variable {f:D->R->AB (AB D×R)}{Q:AA D×R->Prop}
theorem Lz (I:Nat->AA D->R->Prop)(h0:I 0 [] ρ)(hs:∀i acc ρ,i<n->I i acc ρ->Ok (f (e i) ρ) λp=>I (i+1) (acc++p.1.toList) p.2)(hq:∀ds ρ,I n ds ρ->Q (ds,ρ)):Ok (gH f (wL n e) ρ) Q:=
 zm2 (enc:=e) (l:=List.range n) I h0 (λi a acc ρ hi h=>by
  obtain⟨h1,h2⟩:=qap.mp hi;have:a=i:=by simpa using h2.symm
  subst this;exact hs a acc ρ (by simpa using h1) h) (λds ρ h=>hq ds ρ (by simpa using h))
theorem zlX (P:R->Prop)(g:Nat->AB D)(h0:P ρ)(hs:∀i ρ,i<n->P ρ->Ok (f (e i) ρ) λp=>p.1=g i/\P p.2)(hq:∀ρ,P ρ->Q ((List.range n).filterMap g,ρ)):Ok (gH f (wL n e) ρ) Q:=
 znc (enc:=e) (l:=List.range n) P g h0 (λa ρ ha hp=>hs a ρ (qah.mp ha) hp) hq
theorem gP (P:R->Prop)(g:Nat->D)(h0:P ρ)(hs:∀i ρ,i<n->P ρ->Ok (f (e i) ρ) λp=>p.1=some (g i)/\P p.2)(hq:∀ρ,P ρ->Q (wL n g,ρ)):Ok (gH f (wL n e) ρ) Q:=
 zX (enc:=e) (l:=List.range n) P g h0 (λa ρ ha hp=>hs a ρ (qah.mp ha) hp) hq
end
theorem zoX (a b c:Int):([b,c]:AA Int).contains a=(a==b||a==c):=by simp[qcu];rfl
end M
namespace M
theorem filterMap_some {α:Type}(l:AA α):l.filterMap (λa=>some a)=l:=List.filterMap_some
theorem Ze (n:Nat)(f:Nat->Int)(x:Int):wI n f++[.int x]=wI (n+1) λj=>if j<n then f j else x:=by
 rw[wI,zpT];exact kX λj _=>by dsimp only;split<;>rfl
theorem zmx {j:Int}(h0:0<j)(h1:j<1073741824):Mn j=true:=by
 have h:j.natAbs.log2<9000:=by
  have:j.natAbs.log2<30:=(Nat.log2_lt (by lia)).mpr (by lia);lia
 unfold Mn;rw[iP h0,iP h];rfl
theorem zpl {j:Int}(h0:0<j)(h1:j<2^250):Mn j=true:=by
 have h:j.natAbs.log2<9000:=by
  have:j.natAbs.log2<250:=(Nat.log2_lt (by lia)).mpr (by lia);lia
 unfold Mn;rw[iP h0,iP h];rfl
theorem Hm {n i:Nat}(f:Nat->Int)(x:Int)(h:i<n):(wI n f).set i (.int x)=wI n λj=>if j=i then x else f j:=by
 rw[wI,qW _ _ h];exact kX λj _=>by dsimp only;split<;>rfl
theorem vJ:zE .non=true:=rfl
theorem uV (i:Int):zE (.int i)=false:=rfl
theorem Dz (b:Bool):zE (.bl b)=false:=rfl
theorem zU (s:PySem.Str):zE (.str s)=false:=rfl
theorem uT (ds:AA D):zE (.lst ds)=false:=rfl
theorem zJ (ds:AA D):zE (.tup ds)=false:=rfl
end M
namespace M
open L2 PySem
variable {s i j N:Nat}{m:MS}{ρ:R}{Q:Fl×R->Prop}{g:D->R->AB R}{mi mq:MQ}{d:D}{F:AA D->T->AA D->AB (Sl×AA D)}{mo:MO}{ma:MA}{is cap:AA Nat}{ds:AA D}{mt:MT}{me:ME}{c:Int}{ls:AA (AA D)}{q:AA Int×AA D}
theorem tE (ds:AA D):cL [.lst ds]=some ds:=rfl
theorem tB (ds:AA D):cL [.tup ds]=some ds:=rfl
theorem mN (ns:AA Int):cL [.scr ns]=some (ns.map .int):=rfl
theorem Ez (ds:AA D):bS [.lst ds]=some (.int ds.length):=rfl
theorem sX (ds:AA D):bS [.tup ds]=some (.int ds.length):=rfl
theorem He (ns:AA Int):bS [.scr ns]=some (.int ns.length):=rfl
theorem sO (ds:AA D):fX [.lst ds]=some (.tup ds):=rfl
theorem rR (ds:AA D):fX [.tup ds]=some (.tup ds):=rfl
theorem oY (ns:AA Int):fX [.scr ns]=some (.tup (ns.map .int)):=rfl
theorem Hs (ds:AA D)(a b:AB Int):lN (.lst ds) a b=some (.lst (bD ds a b)):=rfl
theorem Ja (ds:AA D)(a b:AB Int):lN (.tup ds) a b=some (.tup (bD ds a b)):=rfl
theorem Ld (ns:AA Int)(a b:AB Int):lN (.scr ns) a b=some (.lst ((bD ns a b).map .int)):=rfl
theorem Rr (ds:AA D)(i:Int):cG (.lst ds) (.int i)=atI ds i:=rfl
theorem Rx (ds:AA D)(i:Int):cG (.tup ds) (.int i)=atI ds i:=rfl
theorem Ox (ns:AA Int)(i:Int):cG (.scr ns) (.int i)=(atI ns i).map .int:=rfl
theorem zA (a b:Str):cV (.str a) (.str b)=some (.bl (a==b)):=by
 unfold cV;rw[show bP (.str a)=true from rfl,show bP (.str b)=true from rfl,show depth (.str a)=0 from rfl]
 rfl
theorem Wf (n:Nat)(f g h:Nat->D):Fh (wL n f) (wL n g) (wL n h)=wL n λi=> .tup [f i,g i,h i]:=by
 apply lH;intro j;unfold Fh
 by_cases hj:j<n
 ·have e:(List.zip (wL n g) (wL n h))[j]? =some (g j,h j):=by
   rw[List.getElem?_zip_eq_some];exact⟨aZ g hj,aZ h hj⟩
  rw[Ly,e,aZ _ hj,aZ _ hj]
 ·rw[eO (by simp[dI];lia),eO (by simp[dI];lia)]
structure Sq (d:D)(n:Nat)(f:Nat->Int):Prop where
 it:cL [d]=some (wI n f)
 ln:bS [d]=some (.int n)
 tp:fX [d]=some (.tup (wI n f))
 ix:∀i,cG d (.int i)=atI (wI n f) i
 ct:∀lo hi,∃d',lN d lo hi=some d'/\cL [d']=some (bD (wI n f) lo hi)
theorem Sq.tup (n:Nat)(f:Nat->Int):Sq (.tup (wI n f)) n f:=⟨rfl,by rw[sX,dI],rfl,λ_=>rfl,λlo hi=>⟨_,rfl,rfl⟩⟩
noncomputable def Xv (s:Nat)(a b:Nat->Int):Bool:=(List.range s).map a==(List.range s).map b
theorem znh:∀(xs ys:AA Int),cS (xs.map D.int) (ys.map D.int)=(xs==ys)
 |[],[]=>rfl
 |[],_::_=>rfl
 |_::_,[]=>rfl
 |x::xs,y::ys=>by simp[cS,eJ,znh xs ys]
theorem pQ (n:Nat)(f:Nat->Int):wI n f=((List.range n).map f).map .int:=by simp[wL,fA,Nb]
theorem eqW_iff {a b:Nat->Int}:Xv s a b=true↔∀i,i<s->a i=b i:=by
 unfold Xv;rw[qbJ]
 constructor
 ·intro h i hi;have:=congrArg (λl=>l[i]?) h;simpa[hi]using this
 ·intro h;exact mD λi hi=>h i (qah.mp hi)
theorem Lw (n:Nat)(b:Nat->Bool):xY (wL n λi=> .bl (b i))=some ((List.range n).map b):=by
 have:∀l:AA Nat,xY (l.map λi=>D.bl (b i))=some (l.map b):=by
  intro l
  induction l with
  |nil=>rfl
  |cons a l ih=>simp[xY,ih]
 exact this _
theorem Gf (n:Nat)(b:Nat->Bool):(((List.range n).map b).all id=true)↔∀i,i<n->b i=true:=by simp
theorem yE {m:ME}:aH Q (oE i m ρ)=aH Q (gd ((ρ[i]?.bind Sl.items).isSome) ((m ρ).bind λp=>p.2[i]?.bind λs=>s.items.bind λds=>match p.1 with
 | .lst es=>if ds.length+es.length<=16777216 then some (.next,p.2.set i (s.put (ds++es)))else none
 |_=>none)):=rfl
theorem wC (a b:Int):wR (.int a) (.int b)=(b==a):=by
 show(a==b)=(b==a)
 by_cases h:a=b
 ·subst h;rfl
 ·rw[qab.mpr h,qab.mpr λe=>h e.symm]
theorem zj4:∀(l:AA Int),Na (l.map D.int)=some (l.map V.int)
 |[]=>rfl
 |i::l=>by simp[Na,Sb,zj4 l]
theorem znj (a:Int):∀(l:AA Int),Hl (.int a) (l.map V.int)=l.contains a
 |[]=>rfl
 |i::l=>by
  have:=znj a l;unfold Hl at this ⊢;rw[jJ,Nu,this,wC,qcu]
theorem Hd (a b c:Int):Yx (.int a) (.tup [.int b,.int c])=some (.bl (!(a==b||a==c))):=by
 have e:Yx (.int a) (.tup [.int b,.int c])=(Na ([b,c].map D.int)).map λxs=> .bl (!Hl (.int a) xs):=rfl
 rw[e,zj4,Cq,znj,zoX]
noncomputable def bH:Nat->(Nat->Int)->Int
 |0,_=>0
 |n+1,f=>bH n f+f n
theorem Cy {f g:Nat->Int}:∀{n:Nat},(∀i,i<n->f i=g i)->bH n f=bH n g
 |0,_=>rfl
 |n+1,h=>by rw[bH,bH,Cy λi hi=>h i (by lia),h n (by lia)]
theorem ziV:∀n,bH n (λ_=>0)=0
 |0=>rfl
 |n+1=>by simp only[bH,ziV n];lia
theorem zi2 (f:Nat->Int):∀n,((List.range n).map f).sum=bH n f
 |0=>rfl
 |n+1=>by simp[Ys,zi2 f n,bH]
theorem zm3 (n:Nat)(f:Nat->Int):hU (wI n f)=some ((List.range n).map f):=by
 have:wI n f=((List.range n).map f).map .int:=by simp[wL,fA,Nb]
 rw[this,Ru]
theorem Dt {n a b:Nat}(f:Nat->D)(h:a+b<=n):bD (wL n f) (some (a:Int)) (some ((a:Int)+(b:Int)))=wL b λi=>f (a+i):=by
 have e:bD (wL n f) (some (a:Int)) (some ((a:Int)+(b:Int)))=((wL n f).drop a).take b:=by
  unfold bD;rw[HT.Wt,show((a:Int)+(b:Int))=((a+b:Nat):Int) by lia,HT.Wt,dI];rw[Xr h,Xr (by lia:a<=n),Nat.add_sub_cancel_left]
 rw[e];apply lH;intro j
 by_cases hj:j<b
 ·rw[qaW hj,List.getElem?_drop,aZ _ (by lia),aZ _ hj]
 ·rw[eO (by simp[dI];lia),eO (by rw[dI];lia)]
theorem znf {mc:MT}{mb:MS}(I:Nat->R->Prop)(turn:∀m ρ,I m ρ->Ok (mc ρ) λp=>(p.1=true->∃m',m=m'+1/\Ok (mb p.2) λq=>q.1= .next/\I m' q.2)/\(p.1=false->Q (.next,p.2))):∀(fuel m:Nat) (ρ:R),m<fuel->I m ρ->Ok (Cv mc mb fuel ρ) Q
 |0,m,ρ,h,_=>by lia
 |n+1,m,ρ,h,hI=>by
  obtain⟨⟨b,ρ1⟩,e,h1,h2⟩:=(turn m ρ hI);unfold Cv;rw[e];cases b with
  |false=>exact ok_some.mpr (h2 rfl)
  |true=>
   obtain⟨m',rfl,h3⟩:=h1 rfl;obtain⟨⟨f,ρ2⟩,e2,ef,hI2⟩:=h3;show Ok ((mb ρ1).bind _) Q;rw[e2];cases(show f= .next from ef);exact znf I turn n m' ρ2 (by lia) hI2
theorem Nx {mi:ME}{Q:R->Prop}:aH Q (gS j mi d ρ)=aH Q (gd (fC ρ j) ((mi ρ).bind λq=>match q.1 with
 | .int k=>q.2[j]?.bind λs=>s.items.bind λds=>(cB ds.length k).bind λn=>some (q.2.set j (s.put (ds.set n d)))
 |_=>none)):=rfl
theorem like_par (ns:AA Int):Qx (.par (ns.map .int)) (.par (ns.map .int))=true:=by
 show(match hU (ns.map D.int),hU (ns.map D.int)with
  |some a,some b=>a==b
  |_,_=>false)=true
 rw[Ru];exact Yn ns
section
variable {j:Nat}{mk me:ME}{ρ:R}
theorem ok_tDI {neg:Bool}{Q:Bool×R->Prop}:aH Q (tDI j neg mk ρ)=(aH (λp=>aH Q (match p.1 with
 | .int k=>(p.2[j]?.bind Sl.dic).map λq=>(((iQ q.1 q.2 k).isSome !=neg),p.2)
 |_=>none)) (mk ρ)):=ok_bind
theorem ok_eCallMO {F:AA D->AA D->AB (Sl×AA D)}{Q:D×R->Prop}:aH Q (Bn F mo ma ρ)=aH Q ((mo ρ).bind λp=>(ma p.2).bind λq=>(F p.1 q.1).bind λr=>match r.1 with
 | .val d=>some (d,q.2)
 | .own ds=>some (.lst ds,q.2)
 |_=>none):=rfl
theorem znI {mp:kE}{Q:D×R->Prop}:aH Q (Vs F j mp ma ρ)=aH Q (gd ((ρ[j]?.bind Sl.items).isSome) ((mp ρ).bind λc=>if c.1.length<=16777216 then(ma c.2).bind λp=>p.2[j]?.bind λs=>s.items.bind λcs=>(F cs (.lst c.1) p.1).bind λr=>match r.1 with
 | .val d=>some (d,p.2.set j (s.put r.2))
 | .own ds=>some (.lst ds,p.2.set j (s.put r.2))
 |_=>none else none)):=rfl
theorem zK:aH Q (zO j is ρ)=aH Q (match ρ[j]? with
 |some (.tre (.lst cs))=>if cs.length=is.length then some (.next,Tj is cs (ρ.set j .emp))else none
 |_=>none):=rfl
theorem yD {Q:AA Ch×R->Prop}:aH Q (Iw ρ)=(Q ([],ρ)):=ok_some
theorem vS {r:kE}{Q:AA Ch×R->Prop}:aH Q (Ah j r ρ)=aH Q (match ρ[j]? with
 |some (.own ds)=>(r (ρ.set j .emp)).map λq=>(.l ds::q.1,q.2)
 |_=>none):=rfl
theorem Lf {cs:AA D}{t:T}{Q:Sl×AA D->Prop}:aH Q (Ym N m cs t ds)=aH Q ((m (.par cs:: .tre t::Cr (N-2) ds)).bind λp=>match p.1,(p.2[0]?:AB Sl)with
 |Fl.ret r,some (Sl.par out)=>some (r,out)
 |Fl.next,some (Sl.par out)=>some (.val .non,out)
 |_,_=>none):=by rw[<-Vr,Nat.sub_sub,Mb 2];rfl
theorem Js:aH Q (Zf j ρ)=(Q (.next,ρ.set j (.tre (.lst [])))):=ok_some
theorem Ey:aH Q (Xq j ρ)=aH Q (match ρ[j]? with
 |some (.tre t)=>some (.ret (.tre t),ρ.set j .emp)
 |_=>none):=rfl
theorem zn5 {F:AA D->AB Sl}{Q:D×R->Prop}:aH Q (zoy F ma ρ)=aH Q ((ma ρ).bind λp=>(F p.1).bind λr=>match r with
 | .tre (.lst cs)=>some (.lst (cs.map Ch.D),p.2)
 |_=>none):=rfl
theorem Fw {Q:D×R->Prop}:aH Q (Xf j ρ)=aH Q (match ρ[j]? with
 |some (.tre (.lst cs))=>some (.int cs.length,ρ)
 |_=>none):=rfl
theorem Hf {Q:D×R->Prop}:aH Q (lE j mi mq ρ)=aH Q ((mi ρ).bind λa=>(mq ρ).bind λb=>match a,b,ρ[j]? with
 | .int n,.int m,some (.tre (.lst cs))=>(atI cs n).bind λc=>match c with
  | .l ds=>(atI ds m).map λd=>(d,ρ)
  |_=>none
 |_,_,_=>none):=rfl
theorem Ln:aH Q (lX j mi mq me ρ)=aH Q ((me ρ).bind λp=>(mi p.2).bind λa=>(mq p.2).bind λb=>match a,b,p.2[j]? with
 | .int n,.int m,some (.tre (.lst cs))=>(cB cs.length n).bind λu=>match cs[u]? with
  |some (.l ds)=>(cB ds.length m).bind λw=>some (.next,p.2.set j (.tre (.lst (cs.set u (.l (ds.set w p.1))))))
  |_=>none
 |_,_,_=>none):=rfl
theorem vR {mi mk:MQ}:aH Q (Hk j mi mk ρ)=aH Q ((mi ρ).bind λa=>(mk ρ).bind λb=>match a,b,ρ[j]? with
 | .int n,.int m,some (.tre (.lst cs))=>(cB cs.length n).bind λu=>match cs[u]? with
  |some (.l ds)=>if ds.length<16777216 then some (.next,ρ.set j (.tre (.lst (cs.set u (.l (ds++[.int m]))))))else none
  |_=>none
 |_,_,_=>none):=rfl
theorem yO {mi mk:MQ}:aH Q (Fs j mi mk ρ)=aH Q ((mi ρ).bind λa=>(mk ρ).bind λb=>match a,b,ρ[j]? with
 | .int n,.int m,some (.tre (.lst cs))=>(cB cs.length n).bind λu=>match cs[u]? with
  |some (.l ds)=>if 0<=m/\m<ds.length/\ds.length<=16777216 then some (.next,ρ.set j (.tre (.lst (cs.set u (.l (ds.eraseIdx m.toNat))))))else none
  |_=>none
 |_,_,_=>none):=rfl
theorem yK:aH Q (Hr j mi ρ)=aH Q ((mi ρ).bind λa=>match a,ρ[j]? with
 | .int n,some (.tre (.lst cs))=>if 0<=n/\n<cs.length/\cs.length<=16777216 then some (.next,ρ.set j (.tre (.lst (cs.take n.toNat++[]++cs.drop (n.toNat+1)))))else none
 |_,_=>none):=rfl
theorem wM:aH Q (iL j m ρ)=aH Q (m (fzT j ρ)):=rfl
theorem ok_sPar:aH Q (sPar i j ma ρ)=aH Q ((ma ρ).bind λp=>match p.1 with
 |[c,d]=>some (.next,(p.2.set i (.val c)).set j (.val d))
 |_=>none):=rfl
theorem yH {Q:D×R->Prop}:aH Q (mW j mk ρ)=aH Q (gd ((ρ[j]?.bind Sl.dit).isSome) ((mk ρ).bind λp=>(iW p.1).bind λk=>(p.2[j]?.bind Sl.dit).bind λq=>(iQ q.1 q.2 k).map λd=>(d,p.2))):=rfl
theorem xX:aH Q (Fu j mk me ρ)=aH Q ((me ρ).bind λp=>gd ((p.2[j]?.bind Sl.dit).isSome) ((mk p.2).bind λq=>(iW q.1).bind λk=>q.2[j]?.bind λs=>match s.tree with
  |some (.dit ks ds)=>if ks.length<16777216 then some (.next,q.2.set j (s.putT (.dit (jV ks ds k p.1).1 (jV ks ds k p.1).2)))else none
  |_=>none)):=rfl
theorem zL:aH Q (Lr j ρ)=(Q (.next,ρ.set j (.tre (.dit [] [])))):=ok_some
theorem wV {Q:AA D×R->Prop}:aH Q (Av j ρ)=aH Q (match ρ[j]? with
 |some (.val (.dit ks ds))=>some (ks.map λk=> .tup (k.map .int),ρ)
 |_=>none):=rfl
theorem Hq {Q:D×R->Prop}:aH Q (Vt j ρ)=aH Q (match ρ[j]? with
 |some (.tre (.dit ks ds))=>some (.dit ks ds,ρ.set j (.val (.dit ks ds)))
 |some (.val d)=>some (d,ρ)
 |_=>none):=rfl
theorem Gq {Q:AB (AA D)×R->Prop}:aH Q (Kq g mt mo d ρ)=(aH (λρ1=>aH (λp=>(p.1=true->aH (λq=>fL q.2=true/\Q (some q.1,q.2)) (mo p.2))/\(p.1=false->fL p.2=true/\Q (none,p.2))) (mt ρ1)) (g d ρ)):=by
 unfold Kq;rw[ok_bind];exact dD λρ1=>by rw[ok_bind];exact dD λp=>by rw[Ds,ok_bind,qF,ok_some];congr 1;exact propext (imp_congr Iff.rfl (iff_of_eq (dD λq=>by rw[qF,ok_some])))
theorem zm5 {f:D->R->AB (AB (AA D)×R)}{e:Nat->D}(P:R->Prop)(g:Nat->AA D){Q:AA (AA D)×R->Prop}:∀{n k:Nat} {ρ:R},P ρ->(∀i ρ,i<n->P ρ->Ok (f (e (k+i)) ρ) λp=>p.1=some (g (k+i))/\P p.2)->(∀ρ,P ρ->Q ((List.range n).map (λi=>g (k+i)),ρ))->Ok (nK f ((List.range n).map λi=>e (k+i)) ρ) Q
 |0,k,ρ,h0,_,hq=>Ok.of rfl (hq ρ h0)
 |n+1,k,ρ,h0,hs,hq=>by
  have s1:∀{α:Type} (e:Nat->α),(List.range (n+1)).map (λi=>e (k+i))=e k::(List.range n).map λi=>e (k+1+i):=λe=>by
   rw[Sj,jJ,fA];congr 1;exact mD λi _=>by show e (k+(i+1))=_;congr 1;lia
  rw[s1 e];obtain⟨p,e1,h1,h2⟩:=(hs 0 ρ (by lia) h0);obtain⟨q,e2,h3⟩:=(zm5 (f:=f) (e:=e) P g (Q:=λz=>Q (g k::z.1,z.2)) (n:=n) (k:=k+1) h2 (λi ρ hi hp=>by have:=hs (i+1) ρ (by lia) hp;rwa[show k+(i+1)=k+1+i by lia]at this) λρ hp=>by have:=hq ρ hp;rwa[s1 g]at this);refine Ok.of (a:=(g k::q.1,q.2)) ?_ h3;obtain⟨p1,p2⟩:=p;have h1:p1=some (g k):=h1;subst h1;have e1:f (e k) ρ=some (some (g k),p2):=e1;have e2:nK f ((List.range n).map λi=>e (k+1+i)) p2=some q:=e2;simp only[nK,e1,jN,e2,Cq]
  rfl
theorem Nd {n:Nat}{e:Nat->D}{f:D->R->AB (AB (AA D)×R)}{Q:AA (AA D)×R->Prop}(P:R->Prop)(g:Nat->AA D)(h0:P ρ)(hs:∀i ρ,i<n->P ρ->Ok (f (e i) ρ) λp=>p.1=some (g i)/\P p.2)(hq:∀ρ,P ρ->Q ((List.range n).map g,ρ)):Ok (nK f (wL n e) ρ) Q:=by
 have:=zm5 (f:=f) (e:=e) P g (Q:=Q) (n:=n) (k:=0) h0 (λi ρ hi hp=>by rw[uD];exact hs i ρ hi hp) (λρ hp=>by simpa using hq ρ hp);simpa[wL]using this
theorem Ih {i t:Nat}{mi:MA}:aH Q (Be i cap t mi g mt mo ρ)=aH Q ((mi ρ).bind λp=>if p.1.length<=16777216 then(nK (Kq g mt mo) p.1 (eN cap t (fzL cap p.2))).map λq=>(.next,(fzL cap p.2).set i (.tre (.lst (q.1.map .l))))else none):=rfl
theorem uP:aH Q (sP j mo ρ)=aH Q (match ρ[j]? with
 |some (.tre (.lst _))=>(mo ρ).bind λp=>match p.2[j]? with
  |some (.tre (.lst cs))=>if cs.length<16777216 then some (.next,p.2.set j (.tre (.lst (cs++[.l p.1]))))else none
  |_=>none
 |_=>none):=rfl
theorem yN {r:kE}{Q:AA Ch×R->Prop}:aH Q (oX j r ρ)=aH Q (match ρ[j]? with
 |some (.tre (.lst cs))=>(Bo cs).bind λxss=>(r (ρ.set j .emp)).map λq=>(.t xss::q.1,q.2)
 |_=>none):=rfl
theorem Jl {mi mq me:MQ}:aH Q (sTG j mi mq me ρ)=aH Q ((mi ρ).bind λa=>(mq ρ).bind λb=>(me ρ).bind λc=>match a,b,c,ρ[j]? with
 | .int n,.int m,.int z,some (.tre (.lst cs))=>(cB cs.length n).bind λu=>match cs[u]? with
  |some (.l ds)=>(cB ds.length m).bind λw=>match ds[w]? with
   |some (.int y)=>some (.next,ρ.set j (.tre (.lst (cs.set u (.l (ds.set w (.int (y+z))))))))
   |_=>none
  |_=>none
 |_,_,_,_=>none):=rfl
theorem Ac:aH Q (yW j ma ρ)=aH Q (gd ((ρ[j]?.bind Sl.items).isSome) ((ma ρ).bind λp=>p.2[j]?.bind λs=>s.items.bind λds=>match p.1 with
 |[.int k,d]=>if 0<=k/\k<=ds.length/\ds.length<16777216 then some (.next,p.2.set j (s.put (ds.take k.toNat++d::ds.drop k.toNat)))else none
 |_=>none)):=rfl
theorem nS {mk:ME}{Q:D×R->Prop}:aH Q (lB j c mk ρ)=aH Q (gd ((ρ[j]?.bind Sl.dit).isSome) ((mk ρ).bind λp=>(iW p.1).bind λk=>(p.2[j]?.bind Sl.dit).map λq=>((iQ q.1 q.2 k).getD (.int c),p.2))):=rfl
theorem xZ:aH Q (xM j mi mq me ρ)=aH Q (if fL (ρ.set j .emp)then(mi ρ).bind λa=>(mq ρ).bind λb=>(me (ρ.set j .emp)).bind λp=>match a,b,p.1,ρ[j]? with
 | .int n,.int m,.int z,some (.tre (.lst cs))=>(cB cs.length n).bind λu=>match cs[u]? with
  |some (.l ds)=>(cB ds.length m).bind λw=>match ds[w]? with
   |some (.int y)=>some (.next,ρ.set j (.tre (.lst (cs.set u (.l (ds.set w (.int (y+z))))))))
   |_=>none
  |_=>none
 |_,_,_,_=>none else none):=rfl
theorem qQ {b c:Nat}{Q:AB D×R->Prop}:aH Q (lG b c g mt me d ρ)=(aH (λρ1=>aH (λp=>(p.1=true->aH (λq=>Lm b c q.2=true/\Q (some q.1,q.2)) (me p.2))/\(p.1=false->Lm b c p.2=true/\Q (none,p.2))) (mt ρ1)) (g d ρ)):=by
 unfold lG;rw[ok_bind];exact dD λρ1=>by rw[ok_bind];exact dD λp=>by rw[Ds,ok_bind,qF,ok_some];congr 1;exact propext (imp_congr Iff.rfl (iff_of_eq (dD λq=>by rw[qF,ok_some])))
theorem yC {t b w c v:Nat}{mi:MA}{Q:AA D×R->Prop}:aH Q (zP cap t b w c v mi g mt me ρ)=aH Q ((mi ρ).bind λp=>if p.1.length<=16777216 then
  ((fzL (cap.filter λi=>i !=w&&i !=v) p.2)[w]?).bind λs=>s.items.bind λcs=>((fzL (cap.filter λi=>i !=w&&i !=v) p.2)[v]?).bind λs2=>s2.items.bind λcs2=>
   (gH (lG b c g mt me) p.1 (((eN cap t (fzL (cap.filter λi=>i !=w&&i !=v) p.2)).set b (.par cs)).set c (.par cs2))).map λq=>(q.1,((fzL (cap.filter λi=>i !=w&&i !=v) p.2).set w (s.put (lJ b q.2))).set v (s2.put (lJ c q.2)))
 else none):=rfl
theorem zZ {Q:D×R->Prop}:aH Q (nO j me ρ)=aH Q (gd ((ρ[j]?.bind Sl.items).isSome) ((me ρ).bind λp=>match p.1 with
 | .int i=>p.2[j]?.bind λs=>s.items.bind λds=>if 0<=i/\i<ds.length/\ds.length<=16777216 then(ds[i.toNat]?).map λd=>(d,p.2.set j (s.put (ds.eraseIdx i.toNat)))else none
 |_=>none)):=rfl
theorem Ph {m:MQ}{Q:D×R->Prop}:aH Q (eQ m ρ)=aH Q ((m ρ).map λd=>(d,ρ)):=rfl
theorem zph {f g h:D->D->AB D}{a b c d:ME}{Q:D×R->Prop}:aH Q (zoS f g h a b c d ρ)=(aH (λp=>aH (λq=>aH (λt=>∃z,t= .bl z/\(z=true->aH (λr=>aH (λt'=>∃z',t'= .bl z'/\(z'=true->aH (λs=>aH (λx=>Q (x,s.2)) (h r.1 s.1)) (d r.2))/\(z'=false->Q (.bl false,r.2))) (g q.1 r.1)) (c q.2))/\(z=false->Q (.bl false,q.2))) (f p.1 q.1)) (b p.2)) (a ρ)):=by
 unfold zoS;rw[ok_bind];refine dD λp=>?_
 rw[ok_bind];refine dD λq=>?_
 rw[ok_bind];refine dD λt=>?_
 cases t with
 |bl z=>
  cases z
  ·simp[ok_some]
  ·simp only[D.bl.injEq,qcH,forall_const,Bool.true_eq_false,qcI,and_true];rw[ok_bind];refine dD λr=>?_
   rw[ok_bind];refine dD λt'=>?_
   cases t' with
   |bl z=>
    cases z
    ·simp[ok_some]
    ·simp only[D.bl.injEq,qcH,forall_const,Bool.true_eq_false,qcI,and_true];rw[ok_bind];exact dD λs=>ok_map
   |_=>simp[ok_none]
 |_=>simp[ok_none]
end
section
variable {ρ:R}{j k i:Nat}{c:Str}{ns ns2:AA Str}{me mo mi:ME}{mO:MO}{ma:MA}{md:MK}
noncomputable def kOb (c:Str)(ns:AA Str)(p:D×R):AB ((AA Int×AA D)×R):=match p.1 with
 | .obj c' ns' _ ks ds=>if c'=c/\ns'=ns then some ((ks,ds),p.2)else none
 |_=>none
theorem La:kOb Vj Ws (Wg Vj Ws ls q,ρ)=some (q,ρ):=by
 unfold kOb Wg;dsimp only;rw[if_pos ⟨rfl,rfl⟩]
theorem Ki:dAt Vj Ws k (Wg Vj Ws ls q)=(ls[k]?).map D.lst:=by
 unfold dAt Wg;dsimp only;rw[if_pos ⟨rfl,rfl⟩,eG]
theorem Lc {Q:(AA Int×AA D)×R->Prop}:aH Q (kAt c ns me ρ)=aH Q ((me ρ).bind (kOb c ns)):=rfl
end
end M
local macro_rules | `(tactic| simp! [$ls,*]) => do
  let f (d : Bool) (n : String) : Lean.MacroM (Lean.TSyntax `Lean.Parser.Tactic.simpLemma) := let i := Lean.mkIdent n.toName; if d then `(Lean.Parser.Tactic.simpLemma| ↓$i:term) else `(Lean.Parser.Tactic.simpLemma| $i:term)
  let a ← ("M.iY M.Jv M.Jd M.wX M.Fg M.xH M.Ip M.pO M.zph M.rH M.oJ M.qQ M.ok_bind M.ok_map M.Nt M.qF M.ok_some M.pZ M.yZ M.sY M.Ay M.pS M.sV M.Tb M.tD M.zo0 M.Pc M.xP M.vI M.pF M.xO M.xI M.tJ M.Ob M.vU M.mR M.On M.Oa M.qE M.Qa M.yR M.wK M.yJ M.rF M.rV M.pP M.zoj M.Hv M.vX M.Ex M.qS M.uX M.Ji M.xD M.Kr M.Ny M.nP M.Bh M.Oq M.Ol M.rD M.zD M.Gn M.Jh M.Kk M.vK M.yE M.znI M.zK M.yD M.vS M.Lf M.Js M.Ey M.zn5 M.Fw M.Hf M.Ln M.wM M.yH M.xX M.zL M.wV M.Hq M.Gq M.Ih M.uP M.yN M.Jl M.vR M.yO M.yK M.Ac M.nS M.Ph M.xZ M.yC M.zZ M.Lc M.uK M.Az M.zF M.Au M.uQ".splitOn " ").toArray.mapM (f true)
  let b ← ("M.kY M.xN M.lI M.bO M.tG M.dJ M.gM M.tK M.xV M.Ma M.dGe M.dR M.bY M.aV M.Ab M.Sl.read M.Sl.items M.Sl.put M.fC M.fL M.fz1 M.fzL M.kG M.eN M.eIsI.noS1 M.Py M.Sz M.lK M.mL M.iT M.iR M.oZ M.kN M.Dh M.Ko M.lJ M.fzD M.Tj M.Ch.sl M.Sl.dic M.Sl.dit M.Sl.tree M.Sl.putT M.Sl.dit M.qC M.qV M.fzT M.Ch.D M.fzDT M.fzU M.Bo M.zG M.Wk M.Xw M.qLX M.Lm M.Sl.ob M.zpY M.sQ M.oM M.zpa M.zpR M.zoi M.nY M.mK List.getElem?_cons_zero List.getElem?_cons_succ List.set_cons_zero List.set_cons_succ Option.bind_some Option.isSome_some Option.map_some if_true M.zoZ M.pB M.zjO M.zpF M.Ak M.xQ M.vC M.Tz M.An M.Kx M.Hg M.yY M.Ky M.Hn List.replicate_succ List.replicate_zero List.length_cons List.length_nil List.cons_append List.nil_append List.all_cons List.all_nil Bool.and_true Bool.true_and Bool.and_self Bool.true_eq_false Bool.false_eq_true if_false M.vQ M.zpe List.length_map List.length_append M.kW M.zV M.Cz M.wO M.Ej M.ok_none M.tE M.tB M.mN M.Ez M.sX M.He M.sO M.rR M.oY M.Hs M.Ja M.Ld M.Rr M.Rx M.Ox M.zA M.Wf M.vJ M.uV M.Dz M.zU M.uT M.zJ M.La M.Ki beq_self_eq_true Bool.not_true Bool.not_false M.Ru Int.toNat_natCast M.oS M.dI decide_eq_true_eq Bool.and_eq_true true_and and_true Nat.reduceAdd Nat.reduceLeDiff Int.reduceLT Int.reduceLE Int.reduceNeg Nat.reduceSub Int.reducePow Int.reduceMul Int.reduceAdd Int.reduceSub Int.reduceMod Int.reduceDiv Nat.reduceLT Nat.reduceBNe Nat.reduceEqDiff List.filter_cons List.filter_nil bne_self_eq_false Int.reduceToNat Nat.reducePow M.znu Int.reduceEq Int.reduceBEq Int.reduceBNe Nat.reduceMod decide_true decide_false beq_iff_eq beq_eq_false_iff_ne bne_iff_ne bne_eq_false_iff_eq decide_eq_false_iff_not Int.not_le Int.not_lt ne_eq forall_const true_implies false_implies reduceCtorEq imp_self implies_true M.D.bl.injEq exists_eq_left' Bool.not_true Bool.not_false".splitOn " ").toArray.mapM (f false)
  `(tactic| simp only [$a,*, $b,*, $ls,*])
namespace Prf
open L2 M PySem
noncomputable def cK (i:Nat):Stmt:=PySem.Challenge.pw_tellsum_k39_floors_judged.main.body.getD i (.Pass ⟨0,0,0,0⟩)
structure BN (K:W.Frag)(mg:Str->Option Value):Prop where
 all':mg "all"=none
 bool':mg "bool"=none
 enumerate':mg "enumerate"=none
 int':mg "int"=none
 isinstance':mg "isinstance"=none
 len':mg "len"=none
 list':mg "list"=none
 max':mg "max"=none
 min':mg "min"=none
 range':mg "range"=none
 sum':mg "sum"=none
 tuple':mg "tuple"=none
 zip':mg "zip"=none
section
variable {P:AJ}{w:World}{K:AF}{mg:Str->AB AC}{base hp:AK}{f:AD}{fd:FuncData}(X:K.In hp)(G:hp.Ns AL mg)(bn:BN K mg)
include X G bn
abbrev zg9:Stmt:=cK 1
def zfD:ME:=
 (m2 aV (mC iT (aC (dP (aA 0) (gL (aA 2)) (gL (m2 aV (aA 2) (eC (.int 2))))) aB)) (mC iT (aC (dP (aA 1) (gL (aA 2)) (gL (m2 aV (aA 2) (eC (.int 2))))) aB)))
def zfP:MO:=
 fQ [0,1] 1 (fS (aC (m2 bO (eU 0) (eC (.int 1))) aB)) (gN 2) dZ zfD
def zfb:MS:=
 (bA (mC fX (aC (cZ zfP) aB)))
def Up:AA D->AB Sl:=fP 2 zfb
theorem zjE (h:FnAt K "square_sums" zg9):FD P w K mg base 1 "square_sums" (aY K 2 Up):=
 dC (N:=["upper","lower"]) (k:=0) (m:=zfb) X G h λ_ _ _ _ _ _ _ hr nd=>(aU (cO (kS bn.tuple' (aD (SO.se (iJ [0,1] 1 ["upper","lower","c"] rfl (gI bn.range' (aD (eI (fG 0 bn.len') aL) aG)) (λC s H fp=>(aW 2 cQ)) (λC s H fp=>eK) (λC s H fp=>(cF (Sd rfl bn.sum' (aD (jK (aE 0) (iK (aE 2)) (iK (cF (aE 2) aL))) aG)) (Sd rfl bn.sum' (aD (jK (aE 1) (iK (aE 2)) (iK (cF (aE 2) aL))) aG)))))) aG))))
abbrev zhR:Stmt:=cK 2
def zfS:ME:=
 (bU Up (aC (aI 0 (aA 1)) (aC (aI 0 (m2 aV (aA 1) (eC (.int 1)))) aB)))
def zf6:MO:=
 fQ [0] 1 (fS (aC (m2 bO (eU 0) (eC (.int 1))) aB)) (gN 1) dZ zfS
def Zq:MS:=
 (bA (mC fX (aC (cZ zf6) aB)))
def Ql:AA D->AB Sl:=fP 1 Zq
theorem zkv (zes:FD P w K mg base 1 "square_sums" (aY K 2 Up))(h:FnAt K "floor_sums" zhR):FD P w K mg base 2 "floor_sums" (aY K 1 Ql):=
 dC (N:=["numbers"]) (k:=1) (m:=Zq) X G h λ_ _ _ _ _ _ _ hr nd=>(aU (cO (kS bn.tuple' (aD (SO.se (iJ [0] 1 ["numbers","r"] rfl (gI bn.range' (aD (eI (fG 0 bn.len') aL) aG)) (λC s H fp=>(aW 1 cQ)) (λC s H fp=>eK) (λC s H fp=>(bW zes hr (aD (aR 0 (aE 1)) (aD (aR 0 (cF (aE 1) aL)) aG)) (AO:=(aP (aP bB))))))) aG))))
abbrev zhu:Stmt:=cK 4
def zf3:ME:=
 (sR xV xV (aA 0) (aA 1) (aA 2))
def zgq:MO:=
 fQ [] 3 (Lu (aC (aA 1) (aC (aA 0) (aC (aA 2) aB)))) (gT 3 (bI (gN 0) (bI (gN 1) (bI (gN 2) eA)))) dZ zf3
def zfZ:MS:=
 (bA (mC (iR λbs=>bs.all id) (aC (cZ zgq) aB)))
def zf4:MS:=
 (aF (dH (aQ (m2 fB (eU 0) (eU 1)))
  (bA (eC (.bl false)))
  dS)
  zfZ)
def Qz:AA D->AB Sl:=fP 3 zf4
theorem zkq (h:FnAt K "row_within" zhu):FD P w K mg base 1 "row_within" (aY K 3 Qz):=
 dC (N:=["row","least","greatest"]) (k:=0) (m:=zf4) X G h λ_ _ _ _ _ _ _ hr nd=>(aN (dY (lZ hr.units (fG 0 bn.len') (fG 1 bn.len'))
  (aU (cO kH))
  eD)
  (aU (cO (Uq rfl bn.all' (aD (SO.se (iJ [] 3 ["low","number","high"] rfl (Xd bn.zip' (aD (aE 1) (aD (aE 0) (aD (aE 2) aG)))) (λC s H fp=>(eV rfl (bQ (aW 0 cQ) (bQ (aW 1 cQ) (bQ (aW 2 cQ) eZ))))) (λC s H fp=>eK) (λC s H fp=>(zk2 Cp Cp jM jM (aE 0) (aE 1) (aE 2))))) aG)))))
abbrev zgZ:Stmt:=cK 5
def zfA:ME:=
 (bU Qz (aC (aA 1) (aC (aA 0) (aC (aA 2) aB))))
def zfI:MO:=
 fQ [] 3 (Lu (aC (aA 1) (aC (aA 0) (aC (aA 2) aB)))) (gT 3 (bI (gN 0) (bI (gN 1) (bI (gN 2) eA)))) dZ zfA
def zfB:MS:=
 (bA (mC (iR λbs=>bs.all id) (aC (cZ zfI) aB)))
def zfa:MS:=
 (aF (dH (aQ (m2 fB (eU 0) (eU 1)))
  (bA (eC (.bl false)))
  dS)
  zfB)
def Sr:AA D->AB Sl:=fP 3 zfa
theorem zjy (ze9:FD P w K mg base 1 "row_within" (aY K 3 Qz))(h:FnAt K "rows_within" zgZ):FD P w K mg base 2 "rows_within" (aY K 3 Sr):=
 dC (N:=["rows","least","greatest"]) (k:=1) (m:=zfa) X G h λ_ _ _ _ _ _ _ hr nd=>(aN (dY (lZ hr.units (fG 0 bn.len') (fG 1 bn.len'))
  (aU (cO kH))
  eD)
  (aU (cO (Uq rfl bn.all' (aD (SO.se (iJ [] 3 ["low","row","high"] rfl (Xd bn.zip' (aD (aE 1) (aD (aE 0) (aD (aE 2) aG)))) (λC s H fp=>(eV rfl (bQ (aW 0 cQ) (bQ (aW 1 cQ) (bQ (aW 2 cQ) eZ))))) (λC s H fp=>eK) (λC s H fp=>(bW ze9 hr (aD (aE 1) (aD (aE 0) (aD (aE 2) aG))) (AO:=(aP (aP (aP bB)))))))) aG)))))
abbrev zir:Stmt:=cK 6
def zg3:ME:=
 (mC fX (aC (aA 0) aB))
def zha:MO:=
 fQ [] 1 (bV (aA 0)) (gN 0) dZ zg3
def zhn:MS:=
 (bA (mC fX (aC (cZ zha) aB)))
def Of:AA D->AB Sl:=fP 1 zhn
theorem zlC (h:FnAt K "in_tuples" zir):FD P w K mg base 1 "in_tuples" (aY K 1 Of):=
 dC (N:=["rows"]) (k:=0) (m:=zhn) X G h λ_ _ _ _ _ _ _ hr nd=>(aU (cO (kS bn.tuple' (aD (SO.se (iJ [] 1 ["row"] rfl (fE (aE 0)) (λC s H fp=>(aW 0 cQ)) (λC s H fp=>eK) (λC s H fp=>(kS bn.tuple' (aD (aE 0) aG))))) aG))))
abbrev zg5:Stmt:=cK 7
def zff:MS:=
 (bA (jA (bU Sr (aC (aA 1) (aC (aI 0 (eC (.int 1))) (aC (aI 0 (eC (.int 2))) aB)))) (m2 cV (bU Ql (aC (aA 1) aB)) (aI 0 (eC (.int 0))))))
def Xy:AA D->AB Sl:=fP 2 zff
theorem zjI (zfq:FD P w K mg base 2 "floor_sums" (aY K 1 Ql))(zen:FD P w K mg base 2 "rows_within" (aY K 3 Sr))(h:FnAt K "floor_holds" zg5):FD P w K mg base 3 "floor_holds" (aY K 2 Xy):=
 dC (N:=["floor","numbers"]) (k:=2) (m:=zff) X G h λ_ _ _ _ _ _ _ hr nd=>(aU (cO (Ov (bW zen hr (aD (aE 1) (aD (aR 0 aL) (aD (aR 0 aL) aG))) (AO:=(aP (aP (aP bB))))) (Tt (Mr hr.units (bW zfq hr (aD (aE 1) aG) (AO:=(aP bB))) (aR 0 aL))))))
abbrev zjP:Stmt:=cK 9
def zjw:MS:=
 (bA (jA (sR xV tK (eC (.int 0)) (aA 1) (eU 0)) (sR xV tK (eC (.int 0)) (aA 2) (mC bS (aC (aI 0 (eC (.int 0))) aB)))))
def Uu:AA D->AB Sl:=fP 3 zjw
theorem znS (h:FnAt K "is_cell" zjP):FD P w K mg base 1 "is_cell" (aY K 3 Uu):=
 dC (N:=["rows","r","c"]) (k:=0) (m:=zjw) X G h λ_ _ _ _ _ _ _ hr nd=>(aU (cO (Ov (zk2 Cp Rb jM jM aL (aE 1) (fG 0 bn.len')) (Tt (zk2 Cp Rb jM jM aL (aE 2) (jD bn.len' (aD (aR 0 aL) aG)))))))
abbrev zjr:Stmt:=cK 10
def zh2:ME:=
 (aT (aC (aA 0) (aC (aA 1) aB)))
def zhw:MO:=
 fQ [2] 1 (fS (aC (mC bS (aC (aI 0 (eC (.int 0))) aB)) aB)) (gN 1) dZ zh2
def zhZ:MS:=
 (oE 1 (cZ zhw))
def zhA:MS:=
 bR (fS (aC (eU 0) aB)) (gN 2) zhZ
def Zo:MS:=
 (aF (fW 1 (bT aB))
  (aF zhA
  (jL 1)))
def Rv:AA D->AB Sl:=fP 3 Zo
theorem zmg (h:FnAt K "cells_of" zjr):FD P w K mg base 1 "cells_of" (aY K 1 Rv):=
 dC (N:=["rows","cells","r"]) (k:=0) (m:=Zo) X G h λ_ _ _ _ _ _ _ hr nd=>(aN (iB 1 (fK aG) nd)
  (aN (eY eP rfl (gI bn.range' (aD (fG 0 bn.len') aG)) (aW 2 nd)
  (aU (oO 1 (SO.se (iJ [2] 1 ["r","c"] rfl (gI bn.range' (aD (jD bn.len' (aD (aR 0 aL) aG)) aG)) (λC s H fp=>(aW 1 cQ)) (λC s H fp=>eK) (λC s H fp=>(cA (aD (aE 0) (aD (aE 1) aG)))))))))
  (aU (lR 1))))
abbrev ziy:Stmt:=cK 11
def zhj:MS:=
 (bA (Sa (aQ (m2 cV (m2 dJ (m2 aV (aA 0) (aA 1)) (eC (.int 2))) (eC (.int 0)))) (eC (.int 1)) (m1 dR (eC (.int 1)))))
def qT:AA D->AB Sl:=fP 2 zhj
theorem zlJ (h:FnAt K "cell_sign" ziy):FD P w K mg base 1 "cell_sign" (aY K 2 qT):=
 dC (N:=["r","c"]) (k:=0) (m:=zhj) X G h λ_ _ _ _ _ _ _ hr nd=>(aU (cO (zm1 (gX hr.units (jH (cF (aE 0) (aE 1)) aL) aL) aL (kL aL))))
abbrev zhs:Stmt:=cK 12
def zf7:MS:=
 (aF (Ms 2 (λi j => i + j) (m2 bY (m2 bY (aA 3) (bU qT (aC (aA 4) (aC (aA 5) aB)))) (m2 cG (aI 0 (aA 4)) (aA 5))))
  (aO 3 (m1 dR (aA 3))))
def zgE:MS:=
 bR (bV (aA 1)) (gT 2 (bI (gN 4) (bI (gN 5) eA))) zf7
def zgj:MS:=
 (aF (aO 2 (eC (.int 0)))
  (aF (aO 3 (eC (.int 1)))
  (aF zgE
  (jL 2))))
def Tc:AA D->AB Sl:=fP 6 zgj
theorem zkH (zaV:FD P w K mg base 1 "cell_sign" (aY K 2 qT))(h:FnAt K "balance_of" zhs):FD P w K mg base 2 "balance_of" (aY K 2 Tc):=
 dC (N:=["numbers","cells","balance","sign","r","c"]) (k:=1) (m:=zgj) X G h λ_ _ _ _ _ _ _ hr nd=>(aN (bL 2 aL nd)
  (aN (bL 3 aL nd)
  (aN (eY eP rfl (fE (aE 1)) (eV rfl (bQ (aW 4 nd) (bQ (aW 5 nd) eZ)))
  (aN (zk6 2 (fO (fO (aE 3) (bW zaV hr (aD (aE 4) (aD (aE 5) aG)) (AO := (aP (aP bB))))) (eS (aR 0 (aE 4)) (aE 5))) nd)
  (aU (bL 3 (kL (aE 3)) nd))))
  (aU (lR 2)))))
abbrev zft:Stmt:=cK 13
def zdY:MS:=
 (cN 4 (m2 bO (m2 bO (m2 bO (aA 6) (aI 3 (aA 5))) (aI 3 (m2 aV (aA 5) (eC (.int 1))))) (aI 4 (aA 5))))
def zd5:MS:=
 bR (tV (aC (aA 2) aB)) (gT 2 (bI (gN 5) (bI (gN 6) eA))) zdY
def zea:MS:=
 (aF (aO 3 (aI 1 (m1 dR (eC (.int 1)))))
  (aF (fW 4 (bT (aC (eC (.int 0)) aB)))
  (aF zd5
  (cN 1 (aA 4)))))
def zd7:MS:=
 bR (bV (aI 0 (eC (.int 0)))) (gN 2) zea
def Zy:MS:=
 (aF (fW 1 (bT (aC (m2 bY (cZ (bT (aC (eC (.int 0)) aB))) (mC bS (aC (m2 cG (aI 0 (eC (.int 1))) (eC (.int 0))) aB))) aB)))
  (aF zd7
  (bA (bU Of (aC (aA 1) aB)))))
def vH:AA D->AB Sl:=fP 7 Zy
theorem ziD (zgu:FD P w K mg base 1 "in_tuples" (aY K 1 Of))(h:FnAt K "plain_numbers" zft):FD P w K mg base 2 "plain_numbers" (aY K 1 vH):=
 dC (N:=["floor","numbers","sums","above","row","c","total"]) (k:=1) (m:=Zy) X G h λ_ _ _ _ _ _ _ hr nd=>(aN (iB 1 (fK (aD (fO (SO.se (fK (aD aL aG))) (jD bn.len' (aD (eS (aR 0 aL) aL) aG))) aG)) nd)
  (aN (eY eP rfl (fE (aR 0 aL)) (aW 2 nd)
  (aN (bL 3 (aR 1 (kL aL)) nd)
  (aN (iB 4 (fK (aD aL aG)) nd)
  (aN (eY eP rfl (Di bn.enumerate' (aD (aE 2) aG)) (eV rfl (bQ (aW 5 nd) (bQ (aW 6 nd) eZ)))
  (aU (gW 4 (eI (eI (eI (aE 6) (aR 3 (aE 5))) (aR 3 (cF (aE 5) aL))) (aR 4 (aE 5))))))
  (aU (gW 1 (aE 4)))))))
  (aU (cO (bW zgu hr (aD (aE 1) aG) (AO:=(aP bB)))))))
abbrev zhc:Stmt:=cK 14
def zfu:ME:=
 (m2 aV (aA 4) (m2 bY (bU qT (aC (aA 0) (aC (aA 3) aB))) (m2 bO (aA 1) (aI 2 (aA 3)))))
def zfG:MO:=
 fQ [1,2,3] 2 (tV (aC (aA 0) aB)) (gT 2 (bI (gN 3) (bI (gN 4) eA))) dZ zfu
def zfp:MS:=
 (bA (mC fX (aC (cZ zfG) aB)))
def Tw:AA D->AB Sl:=fP 4 zfp
theorem zjG (zaV:FD P w K mg base 1 "cell_sign" (aY K 2 qT))(h:FnAt K "shifted_row" zhc):FD P w K mg base 2 "shifted_row" (aY K 4 Tw):=
 dC (N:=["row","r","shift","column_shifts"]) (k:=1) (m:=zfp) X G h λ_ _ _ _ _ _ _ hr nd=>(aU (cO (kS bn.tuple' (aD (SO.se (iJ [1,2,3] 2 ["r","shift","column_shifts","c","number"] rfl (Di bn.enumerate' (aD (aE 0) aG)) (λC s H fp=>(eV rfl (bQ (aW 3 cQ) (bQ (aW 4 cQ) eZ)))) (λC s H fp=>eK) (λC s H fp=>(cF (aE 4) (fO (bW zaV hr (aD (aE 0) (aD (aE 3) aG)) (AO:=(aP (aP bB)))) (eI (aE 1) (aR 2 (aE 3)))))))) aG))))
abbrev zeb:Stmt:=cK 15
def zde:ME:=
 (bU Tw (aC (aA 3) (aC (aA 2) (aC (aI 0 (aA 2)) (aC (aA 1) aB)))))
def zdg:MO:=
 fQ [1,2] 2 (tV (aC (aA 0) aB)) (gT 2 (bI (gN 2) (bI (gN 3) eA))) dZ zde
def zcK:MS:=
 (aF (aO 2 (dP (aA 1) (gL (eU 0)) kB))
  (bA (mC fX (aC (cZ zdg) aB))))
def Pq:AA D->AB Sl:=fP 3 zcK
theorem zhY (zem:FD P w K mg base 2 "shifted_row" (aY K 4 Tw))(h:FnAt K "shifted_numbers" zeb):FD P w K mg base 3 "shifted_numbers" (aY K 2 Pq):=
 dC (N:=["numbers","shifts","column_shifts"]) (k:=2) (m:=zcK) X G h λ_ _ _ _ _ _ _ hr nd=>(aN (bL 2 (jK (aE 1) (iK (fG 0 bn.len')) lQ) nd)
  (aU (cO (kS bn.tuple' (aD (SO.se (iJ [1,2] 2 ["shifts","column_shifts","r","row"] rfl (Di bn.enumerate' (aD (aE 0) aG)) (λC s H fp=>(eV rfl (bQ (aW 2 cQ) (bQ (aW 3 cQ) eZ)))) (λC s H fp=>eK) (λC s H fp=>(bW zem hr (aD (aE 3) (aD (aE 2) (aD (aR 0 (aE 2)) (aD (aE 1) aG)))) (AO:=(aP (aP (aP (aP bB))))))))) aG)))))
abbrev ziw:Stmt:=cK 16
def zhb:MS:=
 (De (bT (aC (aT (aC (aA 2) (aC (aA 4) (aC (aA 6) aB)))) (aC (aT (aC (aA 4) (aC (aA 2) (aC (aA 5) aB)))) aB))))
def Zt:MS:=
 (aF (aO 4 (m2 aV (eU 1) (aA 3)))
  (aF (aO 5 (m2 bO (m2 cG (m2 cG (aI 0 (eC (.int 2))) (aA 2)) (aA 3)) (m2 cG (aI 1 (aA 2)) (aA 3))))
  (aF (aO 6 (m2 bO (m2 cG (aI 1 (aA 2)) (aA 3)) (m2 cG (m2 cG (aI 0 (eC (.int 1))) (aA 2)) (aA 3))))
  (aF (dH (aQ (m2 cV (bU qT (aC (aA 2) (aC (aA 3) aB))) (eC (.int 1))))
  (De (bT (aC (aT (aC (aA 2) (aC (aA 4) (aC (aA 5) aB)))) (aC (aT (aC (aA 4) (aC (aA 2) (aC (aA 6) aB)))) aB))))
  dS)
  zhb))))
def Qd:AA D->AB Sl:=fP 7 Zt
theorem zlW (zaV:FD P w K mg base 1 "cell_sign" (aY K 2 qT))(h:FnAt K "cell_ties" ziw):FD P w K mg base 2 "cell_ties" (aY K 4 Qd):=
 dC (N:=["floor","numbers","r","c","column","above","beneath"]) (k:=1) (m:=Zt) X G h λ_ _ _ _ _ _ _ hr nd=>(aN (bL 4 (cF (fG 1 bn.len') (aE 3)) nd)
  (aN (bL 5 (eI (eS (eS (aR 0 aL) (aE 2)) (aE 3)) (eS (aR 1 (aE 2)) (aE 3))) nd)
  (aN (bL 6 (eI (eS (aR 1 (aE 2)) (aE 3)) (eS (eS (aR 0 aL) (aE 2)) (aE 3))) nd)
  (aN (dY (gX hr.units (bW zaV hr (aD (aE 2) (aD (aE 3) aG)) (AO := (aP (aP bB)))) aL)
  (aU (Mk (fK (aD (cA (aD (aE 2) (aD (aE 4) (aD (aE 5) aG)))) (aD (cA (aD (aE 4) (aD (aE 2) (aD (aE 6) aG)))) aG)))))
  eD)
  (aU (Mk (fK (aD (cA (aD (aE 2) (aD (aE 4) (aD (aE 6) aG)))) (aD (cA (aD (aE 4) (aD (aE 2) (aD (aE 5) aG)))) aG)))))))))
abbrev zhP:Stmt:=cK 17
def zgd:MS:=
 (oE 2 (bU Qd (aC (aA 0) (aC (aA 1) (aC (aA 3) (aC (aA 4) aB))))))
def zgm:MS:=
 bR (bV (bU Rv (aC (aA 1) aB))) (gT 2 (bI (gN 3) (bI (gN 4) eA))) zgd
def zf2:MS:=
 (aF (aO 1 (bU vH (aC (aA 0) aB)))
  (aF (fW 2 (bT aB))
  (aF zgm
  (jL 2))))
def Sn:AA D->AB Sl:=fP 5 zf2
theorem zkK (zgA:FD P w K mg base 2 "cell_ties" (aY K 4 Qd))(zhq:FD P w K mg base 1 "cells_of" (aY K 1 Rv))(zaL:FD P w K mg base 2 "plain_numbers" (aY K 1 vH))(h:FnAt K "floor_ties" zhP):FD P w K mg base 3 "floor_ties" (aY K 1 Sn):=
 dC (N:=["floor","numbers","ties","r","c"]) (k:=2) (m:=zf2) X G h λ_ _ _ _ _ _ _ hr nd=>(aN (bL 1 (bW zaL hr (aD (aE 0) aG) (AO:=(aP bB))) nd)
  (aN (iB 2 (fK aG) nd)
  (aN (eY eP rfl (fE (bW zhq hr (aD (aE 1) aG) (AO := (aP bB)))) (eV rfl (bQ (aW 3 nd) (bQ (aW 4 nd) eZ)))
  (aU (oO 2 (bW zgA hr (aD (aE 0) (aD (aE 1) (aD (aE 3) (aD (aE 4) aG)))) (AO:=(aP (aP (aP (aP bB)))))))))
  (aU (lR 2)))))
abbrev zdZ:Stmt:=cK 18
def zdi:MS:=
 (dH (Mi (aQ (m2 Dh (aI 3 (aA 8)) (eC .non))) (fT (aQ (m2 kN (aI 3 (aA 7)) (eC .non))) (aQ (m2 Ma (aI 3 (aA 7)) (m2 aV (aI 3 (aA 8)) (aA 9))))))
  (aF (iE 3 (aA 7) (m2 aV (aI 3 (aA 8)) (aA 9)))
  (aF (iE 4 (aA 7) (aA 8))
  (aO 5 (aA 7))))
  dS)
def zdu:MS:=
 bR (bV (aA 0)) (gT 3 (bI (gN 7) (bI (gN 8) (bI (gN 9) eA)))) zdi
def zdr:MS:=
 (aF (aO 5 (eC .non))
  zdu)
def zdk:MS:=
 bR (fS (aC (aA 1) aB)) (gN 6) zdr
def zcx:MS:=
 (aF (fW 3 (rZ (cZ (bT (aC (eC .non) aB))) (aA 1)))
  (aF (iE 3 (aA 2) (eC (.int 0)))
  (aF (fW 4 (rZ (cZ (bT (aC (eC .non) aB))) (aA 1)))
  (aF (aO 5 (eC .non))
  (aF zdk
  (bA (aT (aC (aA 3) (aC (aA 4) (aC (aA 5) aB))))))))))
def Pp:AA D->AB Sl:=fP 10 zcx
theorem zhM (h:FnAt K "greatest_shifts" zdZ):FD P w K mg base 1 "greatest_shifts" (aY K 3 Pp):=
 dC (N:=["ties","many","start","shifts","unders","falling","turn","lane","under","above"]) (k:=0) (m:=zcx) X G h λ_ _ _ _ _ _ _ hr nd=>(aN (iB 3 (zoU (SO.se (fK (aD Kn aG))) (aE 1)) nd)
  (aN (Jx 3 aL (aE 2))
  (aN (iB 4 (zoU (SO.se (fK (aD Kn aG))) (aE 1)) nd)
  (aN (bL 5 Kn nd)
  (aN (eY eP rfl (gI bn.range' (aD (aE 1) aG)) (aW 6 nd)
  (aN (bL 5 Kn nd)
  (aU (eY eP rfl (fE (aE 0)) (eV rfl (bQ (aW 7 nd) (bQ (aW 8 nd) (bQ (aW 9 nd) eZ))))
  (aU (dY (STw.st (zoV (zmC (aR 3 (aE 8)) Kn) (zl0 (STw.st (uJ (Si (aR 3 (aE 7)) Kn) (Jw (Pi (aR 3 (aE 7)) (cF (aR 3 (aE 8)) (aE 9)))))))))
  (aN (Jx 3 (cF (aR 3 (aE 8)) (aE 9)) (aE 7))
  (aN (Jx 4 (aE 8) (aE 7))
  (aU (bL 5 (aE 7) nd))))
  eD))))))
  (aU (cO (cA (aD (aE 3) (aD (aE 4) (aD (aE 5) aG)))))))))))
abbrev zgv:Stmt:=cK 19
def ze4:MS:=
 (aO 2 (aI 0 (aA 2)))
def zeY:MS:=
 bR (fS (aC (eU 0) aB)) (gN 3) ze4
def ze2:MT:=
 (aQ (m2 fB (aI 0 (aI 4 (m1 dR (eC (.int 1))))) (aA 2)))
def zeX:MS:=
 (cN 4 (aI 0 (aI 4 (m1 dR (eC (.int 1))))))
def ze0:MS:=
 Cv ze2 zeX 400
def zeo:MS:=
 (aF (aO 2 (aA 1))
  (aF zeY
  (aF (fW 4 (bT (aC (aA 2) aB)))
  (aF ze0
  (jL 4)))))
def Qs:AA D->AB Sl:=fP 5 zeo
theorem ziR (h:FnAt K "falling_loop" zgv):FD P w K mg base 1 "falling_loop" (aY K 2 Qs):=
 dC (N:=["unders","falling","lane","step","loop"]) (k:=0) (m:=zeo) X G h λ_ _ _ _ _ _ _ hr nd=>(aN (bL 2 (aE 1) nd)
  (aN (eY eP rfl (gI bn.range' (aD (fG 0 bn.len') aG)) (aW 3 nd)
  (aU (bL 2 (aR 0 (aE 2)) nd)))
  (aN (iB 4 (fK (aD (aE 2) aG)) nd)
  (aN (nH 400 eP (lZ hr.units (aR 0 (aR 4 (kL aL))) (aE 2))
  (aU (gW 4 (aR 0 (aR 4 (kL aL))))))
  (aU (lR 4))))))
abbrev zgJ:Stmt:=cK 20
def zec:MS:=
 (bA (bU Pp (aC (bU Sn (aC (aA 0) aB)) (aC (m2 aV (mC bS (aC (aI 0 (eC (.int 1))) aB)) (mC bS (aC (m2 cG (aI 0 (eC (.int 1))) (eC (.int 0))) aB))) (aC (aA 1) aB)))))
def Xx:AA D->AB Sl:=fP 2 zec
theorem ziS (zfd:FD P w K mg base 3 "floor_ties" (aY K 1 Sn))(zcn:FD P w K mg base 1 "greatest_shifts" (aY K 3 Pp))(h:FnAt K "floor_shifts" zgJ):FD P w K mg base 4 "floor_shifts" (aY K 2 Xx):=
 dC (N:=["floor","start"]) (k:=3) (m:=zec) X G h λ_ _ _ _ _ _ _ hr nd=>(aU (cO (bW zcn hr (aD (bW zfd hr (aD (aE 0) aG) (AO:=(aP bB))) (aD (cF (jD bn.len' (aD (aR 0 aL) aG)) (jD bn.len' (aD (eS (aR 0 aL) aL) aG))) (aD (aE 1) aG))) (AO:=(aP (aP (aP bB)))))))
abbrev zj5:Stmt:=cK 21
def ziv:ME:=
 (aT (aC (mC (lK eT) (aC (aA 1) (aC (aA 2) aB))) (aC (m2 bO (mC (lK dN) (aC (aA 1) (aC (aA 2) aB))) (aA 0)) aB)))
def zf0:MO:=
 fQ [1] 2 (iZ2 (aC (aA 2) (aC (aA 3) aB))) (gT 2 (bI (gN 1) (bI (gN 2) eA))) dZ ziv
def zjx:MS:=
 (aF (aO 2 (Sa (aQ (m2 tK (aI 0 (eC (.int 0))) (aA 1))) (aA 0) (m2 aV (dP (aA 0) (gL (eC (.int 1))) kB) (dP (aA 0) kB (gL (eC (.int 1)))))))
  (aF (aO 3 (m2 aV (dP (aA 2) (gL (eC (.int 1))) kB) (dP (aA 2) kB (gL (eC (.int 1))))))
  (De zf0)))
def Qi:AA D->AB Sl:=fP 4 zjx
theorem znL (h:FnAt K "tour_of" zj5):FD P w K mg base 1 "tour_of" (aY K 2 Qi):=
 dC (N:=["loop","rows","lanes","unders"]) (k:=0) (m:=zjx) X G h λ_ _ _ _ _ _ _ hr nd=>(aN (bL 2 (zm1 (Uw (aR 0 aL) (aE 1)) (aE 0) (cF (jK (aE 0) (iK aL) lQ) (jK (aE 0) lQ (iK aL)))) nd)
  (aN (bL 3 (cF (jK (aE 2) (iK aL) lQ) (jK (aE 2) lQ (iK aL))) nd)
  (aU (Mk (iJ [1] 2 ["rows","lane","under"] rfl (pR bn.zip' (aD (aE 2) (aD (aE 3) aG))) (λC s H fp=>(eV rfl (bQ (aW 1 cQ) (bQ (aW 2 cQ) eZ)))) (λC s H fp=>eK) (λC s H fp=>(cA (aD (We rfl bn.min' (aD (aE 1) (aD (aE 2) aG))) (aD (eI (Wy rfl bn.max' (aD (aE 1) (aD (aE 2) aG))) (aE 0)) aG)))))))))
abbrev zgh:Stmt:=cK 22
def zeD:MS:=
 (bA (aT (aC (eC (.str "floor")) (aC (bU Pq (aC (bU vH (aC (aA 0) aB)) (aC (aI 1 (eC (.int 0))) aB))) aB))))
def zeq:MS:=
 (aF (aO 1 (bU Xx (aC (aA 0) (aC (eC (.int 0)) aB))))
  (aF (dH (aQ (m2 Dh (aI 1 (eC (.int 2))) (eC .non)))
  (bA (aT (aC (eC (.str "tour")) (aC (bU Qi (aC (bU Qs (aC (aI 1 (eC (.int 1))) (aC (aI 1 (eC (.int 2))) aB))) (aC (mC bS (aC (aI 0 (eC (.int 1))) aB)) aB))) aB))))
  dS)
  zeD))
def Tn:AA D->AB Sl:=fP 2 zeq
theorem zjs (zdG:FD P w K mg base 1 "falling_loop" (aY K 2 Qs))(zdE:FD P w K mg base 4 "floor_shifts" (aY K 2 Xx))(zaL:FD P w K mg base 2 "plain_numbers" (aY K 1 vH))(zcj:FD P w K mg base 3 "shifted_numbers" (aY K 2 Pq))(zie:FD P w K mg base 1 "tour_of" (aY K 2 Qi))(h:FnAt K "fitted_floor" zgh):FD P w K mg base 5 "fitted_floor" (aY K 1 Tn):=
 dC (N:=["floor","found"]) (k:=4) (m:=zeq) X G h λ_ _ _ _ _ _ _ hr nd=>(aN (bL 1 (bW zdE hr (aD (aE 0) (aD aL aG)) (AO:=(aP (aP bB)))) nd)
  (aN (dY (zmC (aR 1 aL) Kn)
  (aU (cO (cA (aD jO (aD (bW zie hr (aD (bW zdG hr (aD (aR 1 aL) (aD (aR 1 aL) aG)) (AO:=(aP (aP bB)))) (aD (jD bn.len' (aD (aR 0 aL) aG)) aG)) (AO:=(aP (aP bB)))) aG)))))
  eD)
  (aU (cO (cA (aD jO (aD (bW zcj hr (aD (bW zaL hr (aD (aE 0) aG) (AO:=(aP bB))) (aD (aR 1 aL) aG)) (AO:=(aP (aP bB)))) aG)))))))
abbrev zjW:Stmt:=cK 24
def Zj:MS:=
 (aF (aO 3 (m2 bO (eC (.int 1)) (m2 dJ (aA 0) (eC (.int 2)))))
  (bA (jA (m2 cV (aI 1 (aA 3)) (aI 2 (aA 3))) (m2 fB (aI 1 (m2 bO (eC (.int 1)) (aA 3))) (aI 2 (m2 bO (eC (.int 1)) (aA 3)))))))
def Uh:AA D->AB Sl:=fP 4 Zj
theorem zns (h:FnAt K "is_step" zjW):FD P w K mg base 1 "is_step" (aY K 3 Uh):=
 dC (N:=["place","cell","after","stays"]) (k:=0) (m:=Zj) X G h λ_ _ _ _ _ _ _ hr nd=>(aN (bL 3 (eI aL (jH (aE 0) aL)) nd)
  (aU (cO (Ov (Mr hr.units (aR 1 (aE 3)) (aR 2 (aE 3))) (Tt (Ss hr.units (aR 1 (eI aL (aE 3))) (aR 2 (eI aL (aE 3)))))))))
abbrev zj1:Stmt:=cK 25
def ziB:ME:=
 (bU Uu (aC (aI 0 (eC (.int 1))) (aC (aA 1) (aC (aA 2) aB))))
def ziA:MO:=
 fQ [0] 2 (bV (aA 1)) (gT 2 (bI (gN 1) (bI (gN 2) eA))) dZ ziB
def zgB:ME:=
 (bU Uh (aC (aA 1) (aC (aA 2) (aC (aI 0 (aA 1)) aB))))
def zgG:MO:=
 fQ [2] 2 (tV (aC (aA 1) aB)) (gT 2 (bI (gN 1) (bI (gN 2) eA))) dZ zgB
def Pw:MS:=
 (aF (aO 2 (m2 aV (dP (aA 1) (gL (eC (.int 1))) kB) (dP (aA 1) kB (gL (eC (.int 1))))))
  (bA (mC (iR λbs=>bs.all id) (aC (cZ zgG) aB))))
def zis:MS:=
 (aF (dH (Bj (aQ (mC (iR λbs => bs.all id) (aC (cZ ziA) aB))))
  (bA (eC (.bl false)))
  dS)
  Pw)
def zju:MS:=
 (aF (dH (fT (aQ (m2 tK (eU 1) (eC (.int 4)))) (aQ (m2 fB (m2 dJ (eU 1) (eC (.int 2))) (eC (.int 0)))))
  (bA (eC (.bl false)))
  dS)
  zis)
def Lv:AA D->AB Sl:=fP 3 zju
theorem znC (zia:FD P w K mg base 1 "is_cell" (aY K 3 Uu))(zif:FD P w K mg base 1 "is_step" (aY K 3 Uh))(h:FnAt K "is_tour" zj1):FD P w K mg base 2 "is_tour" (aY K 2 Lv):=
 dC (N:=["floor","cells","afters"]) (k:=1) (m:=zju) X G h λ_ _ _ _ _ _ _ hr nd=>(aN (dY (STw.st (uJ (Uw (fG 1 bn.len') aL) (Jw (lZ hr.units (jH (fG 1 bn.len') aL) aL))))
  (aU (cO kH))
  eD)
  (aN (dY (Kv (Wd (Uq rfl bn.all' (aD (SO.se (iJ [0] 2 ["floor", "r", "c"] rfl (fE (aE 1)) (λC s H fp => (eV rfl (bQ (aW 1 cQ) (bQ (aW 2 cQ) eZ)))) (λC s H fp => eK) (λC s H fp => (bW zia hr (aD (aR 0 aL) (aD (aE 1) (aD (aE 2) aG))) (AO := (aP (aP (aP bB)))))))) aG))))
  (aU (cO kH))
  eD)
  (aN (bL 2 (cF (jK (aE 1) (iK aL) lQ) (jK (aE 1) lQ (iK aL))) nd)
  (aU (cO (Uq rfl bn.all' (aD (SO.se (iJ [2] 2 ["afters","place","cell"] rfl (Di bn.enumerate' (aD (aE 1) aG)) (λC s H fp=>(eV rfl (bQ (aW 1 cQ) (bQ (aW 2 cQ) eZ)))) (λC s H fp=>eK) (λC s H fp=>(bW zif hr (aD (aE 1) (aD (aE 2) (aD (aR 0 (aE 1)) aG))) (AO:=(aP (aP (aP bB)))))))) aG)))))))
abbrev zg1:Stmt:=cK 26
def zfE:MO:=
 (rZ (cZ (bT (aC (eC (.int 0)) aB))) (eU 0))
def zfw:MS:=
 (aF (xM 2 (qV 4) (qV 5) (m2 bY (aA 3) (bU qT (aC (aA 4) (aC (aA 5) aB)))))
  (aO 3 (m1 dR (aA 3))))
def zfH:MS:=
 bR (bV (aA 1)) (gT 2 (bI (gN 4) (bI (gN 5) eA))) zfw
def ze7:MS:=
 (aF (Be 2 [] 1 (bV (aI 0 (eC (.int 1)))) (gN 0) dZ zfE)
  (aF (aO 3 (eC (.int 1)))
  (aF zfH
  (Xq 2))))
def Ti:AA D->AB Sl:=fP 6 ze7
theorem zjK (zaV:FD P w K mg base 1 "cell_sign" (aY K 2 qT))(h:FnAt K "tour_counts" zg1):FD P w K mg base 2 "tour_counts" (aY K 2 Ti):=
 dC (N:=["floor","cells","counts","sign","r","c"]) (k:=1) (m:=ze7) X G h λ_ _ _ _ _ _ _ hr nd=>(aN (Mv 2 [] 1 ["row"] rfl (fE (aR 0 aL)) (λC s H fp=>(aW 0 cQ)) (λC s H fp=>eK) (λC s H fp=>(zoU (SO.se (fK (aD aL aG))) (fG 0 bn.len'))) nd)
  (aN (bL 3 aL nd)
  (aN (eY eP rfl (fE (aE 1)) (eV rfl (bQ (aW 4 nd) (bQ (aW 5 nd) eZ)))
  (aN (rY 2 (cE 4) (cE 5) (fO (aE 3) (bW zaV hr (aD (aE 4) (aD (aE 5) aG)) (AO := (aP (aP bB))))))
  (aU (bL 3 (kL (aE 3)) nd))))
  (aU (Al 2)))))
abbrev zd9:Stmt:=cK 27
def zdc:ME:=
 (mC (lK dN) (aC (m2 bY (aA 0) (aA 1)) (aC (m2 bY (aA 0) (aA 2)) aB)))
def zdh:MO:=
 fQ [] 3 (Lu (aC (aA 0) (aC (aA 1) (aC (aA 2) aB)))) (gT 3 (bI (gN 0) (bI (gN 1) (bI (gN 2) eA)))) dZ zdc
def zcJ:MS:=
 (bA (mC iT (aC (cZ zdh) aB)))
def Om:AA D->AB Sl:=fP 3 zcJ
theorem zhV (h:FnAt K "greatest_in_row" zd9):FD P w K mg base 1 "greatest_in_row" (aY K 3 Om):=
 dC (N:=["counts","least","greatest"]) (k:=0) (m:=zcJ) X G h λ_ _ _ _ _ _ _ hr nd=>(aU (cO (Sd rfl bn.sum' (aD (SO.se (iJ [] 3 ["count","low","high"] rfl (Xd bn.zip' (aD (aE 0) (aD (aE 1) (aD (aE 2) aG)))) (λC s H fp=>(eV rfl (bQ (aW 0 cQ) (bQ (aW 1 cQ) (bQ (aW 2 cQ) eZ))))) (λC s H fp=>eK) (λC s H fp=>(Wy rfl bn.max' (aD (fO (aE 0) (aE 1)) (aD (fO (aE 0) (aE 2)) aG)))))) aG))))
abbrev zdO:Stmt:=cK 28
def zcX:MS:=
 (Ms 2 (λi j=>i+j) (bU Om (aC (aA 3) (aC (aA 4) (aC (aA 5) aB)))))
def zc0:MS:=
 bR (Lu (aC (zoy Ti (aC (aA 0) (aC (aA 1) aB))) (aC (aI 0 (eC (.int 1))) (aC (aI 0 (eC (.int 2))) aB)))) (gT 3 (bI (gN 3) (bI (gN 4) (bI (gN 5) eA)))) zcX
def Zu:MS:=
 (aF (aO 2 (eC (.int 0)))
  (aF zc0
  (jL 2)))
def Us:AA D->AB Sl:=fP 6 Zu
theorem zhe (zck:FD P w K mg base 1 "greatest_in_row" (aY K 3 Om))(zek:FD P w K mg base 2 "tour_counts" (aY K 2 Ti))(h:FnAt K "greatest_balance" zdO):FD P w K mg base 3 "greatest_balance" (aY K 2 Us):=
 dC (N:=["floor","cells","balance","counts","least","greatest"]) (k:=2) (m:=Zu) X G h λ_ _ _ _ _ _ _ hr nd=>(aN (bL 2 aL nd)
  (aN (eY eP rfl (Xd bn.zip' (aD (tM zek hr (aD (aE 0) (aD (aE 1) aG)) (aP (aP bB))) (aD (aR 0 aL) (aD (aR 0 aL) aG)))) (eV rfl (bQ (aW 3 nd) (bQ (aW 4 nd) (bQ (aW 5 nd) eZ))))
  (aU (zk6 2 (bW zck hr (aD (aE 3) (aD (aE 4) (aD (aE 5) aG))) (AO:=(aP (aP (aP bB))))) nd)))
  (aU (lR 2))))
abbrev zhr:Stmt:=cK 29
def zgs:MS:=
 (bA (jA (bU Lv (aC (aA 0) (aC (aA 1) aB))) (m2 Ma (bU Tc (aC (bU vH (aC (aA 0) aB)) (aC (aA 1) aB))) (bU Us (aC (aA 0) (aC (aA 1) aB))))))
def Vm:AA D->AB Sl:=fP 2 zgs
theorem zkr (zfr:FD P w K mg base 2 "balance_of" (aY K 2 Tc))(zca:FD P w K mg base 3 "greatest_balance" (aY K 2 Us))(zh5:FD P w K mg base 2 "is_tour" (aY K 2 Lv))(zaL:FD P w K mg base 2 "plain_numbers" (aY K 1 vH))(h:FnAt K "tour_right" zhr):FD P w K mg base 4 "tour_right" (aY K 2 Vm):=
 dC (N:=["floor","cells"]) (k:=3) (m:=zgs) X G h λ_ _ _ _ _ _ _ hr nd=>(aU (cO (Ov (bW zh5 hr (aD (aE 0) (aD (aE 1) aG)) (AO:=(aP (aP bB)))) (Tt (Df (bW zfr hr (aD (bW zaL hr (aD (aE 0) aG) (AO:=(aP bB))) (aD (aE 1) aG)) (AO:=(aP (aP bB)))) (bW zca hr (aD (aE 0) (aD (aE 1) aG)) (AO:=(aP (aP bB)))))))))
abbrev zgX:Stmt:=cK 30
def zfM:MS:=
 (bA (jA (m2 cV (aI 1 (eC (.int 0))) (eC (.str "tour"))) (bU Vm (aC (aA 0) (aC (aI 1 (eC (.int 1))) aB)))))
def Yu:MS:=
 (aF (dH (aQ (m2 cV (aI 1 (eC (.int 0))) (eC (.str "floor"))))
  (bA (bU Xy (aC (aA 0) (aC (aI 1 (eC (.int 1))) aB))))
  dS)
  zfM)
def tF:AA D->AB Sl:=fP 2 Yu
theorem zjF (zeg:FD P w K mg base 3 "floor_holds" (aY K 2 Xy))(zfj:FD P w K mg base 4 "tour_right" (aY K 2 Vm))(h:FnAt K "floor_right" zgX):FD P w K mg base 5 "floor_right" (aY K 2 tF):=
 dC (N:=["floor","told"]) (k:=4) (m:=Yu) X G h λ_ _ _ _ _ _ _ hr nd=>(aN (dY (gX hr.units (aR 1 aL) jO)
  (aU (cO (bW zeg hr (aD (aE 0) (aD (aR 1 aL) aG)) (AO:=(aP (aP bB))))))
  eD)
  (aU (cO (Ov (Mr hr.units (aR 1 aL) jO) (Tt (bW zfj hr (aD (aE 0) (aD (aR 1 aL) aG)) (AO:=(aP (aP bB)))))))))
abbrev zit:Stmt:=cK 32
def zg2:MS:=
 (aF (aO 2 (m2 dJ (m2 aV (m2 aV (m2 bY (aA 2) (eC (.int 48271))) (m2 bY (eC (.int 7919)) (aA 3))) (eC (.int 12345))) (eC (.int 2147483647))))
  (aF (aO 4 (m2 dJ (m2 bY (aA 2) (aA 2)) (eC (.int 2147483629))))
  (aO 1 (m2 aV (m2 bY (aA 1) (eC (.int 4194304))) (m2 dJ (m2 tG (aA 4) (eC (.int 256))) (eC (.int 4194304)))))))
def zhd:MS:=
 bR (fS (aC (eC (.int 28)) aB)) (gN 3) zg2
def zgW:MS:=
 (aF (aO 1 (eC (.int 0)))
  (aF (aO 2 (m2 aV (m2 dJ (aA 0) (eC (.int 2147483647))) (eC (.int 6113))))
  (aF zhd
  (De (bT (aC (aA 1) aB))))))
def Zr:MS:=
 (aF (dH (aQ (m2 dGe (aA 0) (m2 gM (eC (.int 10)) (eC (.int 18)))))
  (De (bT (aC (m2 dJ (m2 bO (aA 0) (m2 gM (eC (.int 10)) (eC (.int 18)))) (m2 bY (m2 bY (m2 gM (eC (.int 10)) (eC (.int 64))) (m2 gM (eC (.int 10)) (eC (.int 64)))) (m2 gM (eC (.int 10)) (eC (.int 64))))) aB)))
  dS)
  zgW)
def Pz:AA D->AB Sl:=fP 5 Zr
theorem zlT (h:FnAt K "_law_deal" zit):FD P w K mg base 1 "_law_deal" (aY K 1 Pz):=
 dC (N:=["cell","great","one","k","two"]) (k:=0) (m:=Zr) X G h λ_ _ _ _ _ _ _ hr nd=>(aN (dY (Th (aE 0) (Cu aL aL))
  (aU (Mk (fK (aD (jH (eI (aE 0) (Cu aL aL)) (fO (fO (Cu aL aL) (Cu aL aL)) (Cu aL aL))) aG))))
  eD)
  (aN (bL 1 aL nd)
  (aN (bL 2 (cF (jH (aE 0) aL) aL) nd)
  (aN (eY eP rfl (gI bn.range' (aD aL aG)) (aW 3 nd)
  (aN (bL 2 (jH (cF (cF (fO (aE 2) aL) (fO aL (aE 3))) aL) aL) nd)
  (aN (bL 4 (jH (fO (aE 2) (aE 2)) aL) nd)
  (aU (bL 1 (cF (fO (aE 1) aL) (jH (zom (aE 4) aL) aL)) nd)))))
  (aU (Mk (fK (aD (aE 1) aG))))))))
abbrev ziz:Stmt:=cK 33
def zhp:MS:=
 (aF (aO 2 (m2 dJ (aI 0 (eC (.int 0))) (aA 1)))
  (aF (iE 0 (eC (.int 0)) (m2 tG (aI 0 (eC (.int 0))) (aA 1)))
  (jL 2)))
def cW:AA D->AA D->AB (Sl×AA D):=fM 3 zhp
theorem zlG (h:FnAt K "_law_take" ziz):FD P w K mg base 1 "_law_take" (eM K 2 cW):=
 Ag (N:=["pot","many","digit"]) (k:=0) (m:=zhp) X G h λ_ _ _ _ _ _ _ hr nd=>(aN (bL 2 (jH (aR 0 aL) (aE 1)) nd)
  (aN (Jx 0 (zom (aR 0 aL) (aE 1)) aL)
  (aU (lR 2))))
abbrev zd8:Stmt:=cK 34
def zdt:MS:=
 (aF (aO 5 (cZ (bT (aC (m2 cG (aI 0 (aA 2)) (aA 4)) (aC (m2 cG (aI 0 (aA 2)) (m2 aV (aA 4) (eC (.int 1)))) (aC (m2 cG (aI 0 (m2 aV (aA 2) (eC (.int 1)))) (aA 4)) (aC (m2 cG (aI 0 (m2 aV (aA 2) (eC (.int 1)))) (m2 aV (aA 4) (eC (.int 1)))) aB)))))))
  (cN 3 (mC iT (aC (aA 5) aB))))
def zdj:MS:=
 bR (fS (aC (m2 bO (mC bS (aC (aI 0 (eC (.int 0))) aB)) (eC (.int 1))) aB)) (gN 4) zdt
def zc5:MS:=
 (aF (fW 3 (bT aB))
  (aF zdj
  (cN 1 (mC fX (aC (aA 3) aB)))))
def zds:MS:=
 bR (fS (aC (m2 bO (eU 0) (eC (.int 1))) aB)) (gN 2) zc5
def zcM:MS:=
 (aF (fW 1 (bT aB))
  (aF zds
  (bA (mC fX (aC (aA 1) aB)))))
def Aa:AA D->AB Sl:=fP 6 zcM
theorem zhJ (h:FnAt K "_law_floor_sums" zd8):FD P w K mg base 1 "_law_floor_sums" (aY K 1 Aa):=
 dC (N:=["numbers","sums","r","line","c","four"]) (k:=0) (m:=zcM) X G h λ_ _ _ _ _ _ _ hr nd=>(aN (iB 1 (fK aG) nd)
  (aN (eY eP rfl (gI bn.range' (aD (eI (fG 0 bn.len') aL) aG)) (aW 2 nd)
  (aN (iB 3 (fK aG) nd)
  (aN (eY eP rfl (gI bn.range' (aD (eI (jD bn.len' (aD (aR 0 aL) aG)) aL) aG)) (aW 4 nd)
  (aN (bL 5 (SO.se (fK (aD (eS (aR 0 (aE 2)) (aE 4)) (aD (eS (aR 0 (aE 2)) (cF (aE 4) aL)) (aD (eS (aR 0 (cF (aE 2) aL)) (aE 4)) (aD (eS (aR 0 (cF (aE 2) aL)) (cF (aE 4) aL)) aG)))))) nd)
  (aU (gW 3 (Sd rfl bn.sum' (aD (aE 5) aG))))))
  (aU (gW 1 (kS bn.tuple' (aD (aE 3) aG)))))))
  (aU (cO (kS bn.tuple' (aD (aE 1) aG))))))
abbrev zhz:Stmt:=cK 35
def zdU:ME:=
 (mC fX (aC (aA 0) aB))
def zdD:MO:=
 fQ [] 1 (bV (aA 0)) (gN 0) dZ zdU
def Vk:MS:=
 (bA (mC fX (aC (cZ zdD) aB)))
def iM:AA D->AB Sl:=fP 1 Vk
theorem zkA (h:FnAt K "_law_fixed" zhz):FD P w K mg base 1 "_law_fixed" (aY K 1 iM):=
 dC (N:=["table"]) (k:=0) (m:=Vk) X G h λ_ _ _ _ _ _ _ hr nd=>(aU (cO (kS bn.tuple' (aD (SO.se (iJ [] 1 ["row"] rfl (fE (aE 0)) (λC s H fp=>(aW 0 cQ)) (λC s H fp=>eK) (λC s H fp=>(kS bn.tuple' (aD (aE 0) aG))))) aG))))
abbrev zd3:Stmt:=cK 37
def zc8:MO:=
 (oC cL (aC (aA 0) aB))
def zdy:ME:=
 (m2 aV (aA 1) (aA 0))
def zdm:MO:=
 fQ [0] 1 (bV (aA 1)) (gN 1) dZ zdy
def zdv:MO:=
 zdm
def zbN:MS:=
 (iL 6 (iL 4 (iL 5 (bA (aT (aC (bU iM (aC (aA 6) aB)) (aC (bU iM (aC (aA 4) aB)) (aC (bU iM (aC (aA 5) aB)) aB))))))))
def zbU:MS:=
 (aF (dH (aQ (m2 cV (aA 7) (eC (.int 6))))
  (iL 6 (Be 6 [10] 1 (bV (aA 6)) (gN 1) dZ zdv))
  dS)
  zbN)
def zbT:MS:=
 (aF (dH (aQ (m2 cV (aA 7) (eC (.int 5))))
  (aF (lX 4 (qV 8) (qV 9) (m2 aV (lE 4 (qV 8) (qV 9)) (aA 10)))
  (aF (lX 5 (qV 8) (qV 9) (m2 aV (lE 5 (qV 8) (qV 9)) (aA 10)))
  (lX 4 (qV 8) (qV 9) (mC (lK eT) (aC (lE 4 (qV 8) (qV 9)) (aC (lE 5 (qV 8) (qV 9)) aB))))))
  dS)
  zbU)
def zbO:MS:=
 (aF (dH (aQ (m2 cV (aA 7) (eC (.int 4))))
  (aF (lX 5 (qV 8) (qV 9) (m2 bO (lE 5 (qV 8) (qV 9)) (aA 10)))
  (lX 4 (qV 8) (qV 9) (mC (lK eT) (aC (lE 4 (qV 8) (qV 9)) (aC (lE 5 (qV 8) (qV 9)) aB)))))
  dS)
  zbT)
def zbP:MS:=
 (aF (dH (aQ (m2 cV (aA 7) (eC (.int 3))))
  (aF (lX 4 (qV 8) (qV 9) (m2 aV (lE 4 (qV 8) (qV 9)) (aA 10)))
  (lX 5 (qV 8) (qV 9) (mC (lK dN) (aC (lE 5 (qV 8) (qV 9)) (aC (lE 4 (qV 8) (qV 9)) aB)))))
  dS)
  zbO)
def zcA:MS:=
 (aF (zO 1 [3, 4, 5])
  (aF (Be 6 [] 1 (bV (bU Aa (aC (aA 3) aB))) (gN 0) dZ zc8)
  (aF (aO 7 (cU cW 0 (aC (eC (.int 8)) aB)))
  (aF (aO 8 (cU cW 0 (aC (eU 3) aB)))
  (aF (aO 9 (cU cW 0 (aC (mC bS (aC (aI 3 (eC (.int 0))) aB)) aB)))
  (aF (aO 10 (m2 bY (m2 bO (cU cW 0 (aC (eC (.int 9)) aB)) (eC (.int 4))) (m2 cG (aT (aC (eC (.int 1)) (aC (aA 2) aB))) (cU cW 0 (aC (eC (.int 2)) aB)))))
  (aF (dH (aQ (m2 dIn (aA 7) (aT (aC (eC (.int 1)) (aC (eC (.int 2)) aB)))))
  (sTG 6 (zG (qV 8) (Wk 6)) (zG (qV 9) (Xw 6 0)) (qV 10))
  dS)
  zbP)))))))
def Te:AA D->T->AA D->AB (Sl×AA D):=Ym 11 zcA
theorem zhO (zau:FD P w K mg base 1 "_law_fixed" (aY K 1 iM))(zaA:FD P w K mg base 1 "_law_floor_sums" (aY K 1 Aa))(zak:FD P w K mg base 1 "_law_take" (eM K 2 cW))(h:FnAt K "_law_bent_floor" zd3):FD P w K mg base 2 "_law_bent_floor" (lP K 3 Te):=
 Zk (N:=["pot","parts","by","numbers","least","greatest","sums","way","r","c","more"]) (k:=1) (m:=zcA) X G h λ_ _ _ _ _ _ _ hr nd=>(aN (Dw 1 [3,4,5] rfl nd ⟨rfl,by trivial,by trivial,rfl,by trivial,by trivial,rfl,by trivial,by trivial,trivial⟩)
  (aN (Mv 6 [] 1 ["row"] rfl (fE (bW zaA hr (aD (aE 3) aG) (AO := (aP bB)))) (λC s H fp => (aW 0 cQ)) (λC s H fp => eK) (λC s H fp => (uY bn.list' (aD (aE 0) aG))) nd)
  (aN (bL 7 (dA 0 zak hr (aD aL aG) (dB (aP bB))) nd)
  (aN (bL 8 (dA 0 zak hr (aD (fG 3 bn.len') aG) (dB (aP bB))) nd)
  (aN (bL 9 (dA 0 zak hr (aD (jD bn.len' (aD (aR 3 aL) aG)) aG) (dB (aP bB))) nd)
  (aN (bL 10 (fO (eI (dA 0 zak hr (aD aL aG) (dB (aP bB))) aL) (eS (cA (aD aL (aD (aE 2) aG))) (dA 0 zak hr (aD aL aG) (dB (aP bB))))) nd)
  (aN (dY (Ro (aE 7) (cA (aD aL (aD aL aG))))
  (aU (Bi 6 (sG (cE 8) (zB 6 bn.len')) (sG (cE 9) (uU 6 0 bn.len')) (cE 10)))
  eD)
  (aN (dY (gX hr.units (aE 7) aL)
  (aN (tY 4 (cF (mF 4 (cE 8) (cE 9)) (aE 10)) (cE 8) (cE 9))
  (aU (tY 5 (Wy rfl bn.max' (aD (mF 5 (cE 8) (cE 9)) (aD (mF 4 (cE 8) (cE 9)) aG))) (cE 8) (cE 9))))
  eD)
  (aN (dY (gX hr.units (aE 7) aL)
  (aN (tY 5 (eI (mF 5 (cE 8) (cE 9)) (aE 10)) (cE 8) (cE 9))
  (aU (tY 4 (We rfl bn.min' (aD (mF 4 (cE 8) (cE 9)) (aD (mF 5 (cE 8) (cE 9)) aG))) (cE 8) (cE 9))))
  eD)
  (aN (dY (gX hr.units (aE 7) aL)
  (aN (tY 4 (cF (mF 4 (cE 8) (cE 9)) (aE 10)) (cE 8) (cE 9))
  (aN (tY 5 (cF (mF 5 (cE 8) (cE 9)) (aE 10)) (cE 8) (cE 9))
  (aU (tY 4 (We rfl bn.min' (aD (mF 4 (cE 8) (cE 9)) (aD (mF 5 (cE 8) (cE 9)) aG))) (cE 8) (cE 9)))))
  eD)
  (aN (dY (gX hr.units (aE 7) aL)
  (aU (Fe 6 (Mv 6 [10] 1 ["more","row"] rfl (fE (aE 6)) (λC s H fp=>(aW 1 cQ)) (λC s H fp=>eK) (λC s H fp=>(iJ [0] 1 ["more","total"] rfl (fE (aE 1)) (λC s H fp=>(aW 1 cQ)) (λC s H fp=>eK) (λC s H fp=>(cF (aE 1) (aE 0))))) nd)))
  eD)
  (aU (Fe 6 (Fe 4 (Fe 5 (cO (cA (aD (bW zau hr (aD (aE 6) aG) (AO:=(aP bB))) (aD (bW zau hr (aD (aE 4) aG) (AO:=(aP bB))) (aD (bW zau hr (aD (aE 5) aG) (AO:=(aP bB))) aG))))))))))))))))))))
abbrev zhU:Stmt:=cK 36
def zgz:ME:=
 (m2 bY (m2 bO (cU cW 0 (aC (eC (.int 11)) aB)) (eC (.int 5))) (aA 1))
def zfY:MO:=
 gU [0,4] 1 0 0 (fS (aC (aA 3) aB)) (gN 2) dZ zgz
def zgy:ME:=
 (m2 bO (aA 3) (m2 bY (cU cW 0 (aC (aA 1) aB)) (aA 2)))
def zfV:MO:=
 gU [0,5,4] 1 0 0 (bV (aI 6 (aA 9))) (gN 3) dZ zgy
def zfW:ME:=
 (m2 aV (aA 3) (m2 bY (cU cW 0 (aC (aA 1) aB)) (aA 2)))
def zgo:MO:=
 gU [0,5,4] 1 0 0 (bV (aI 6 (aA 9))) (gN 3) dZ zfW
def zgg:MS:=
 (aF (cN 6 (cZ zfY))
  (aF (sP 7 zfV)
  (sP 8 zgo)))
def zfX:MS:=
 bR (fS (aC (aA 2) aB)) (gN 9) zgg
def zgb:MS:=
 (aF (aO 2 (m2 aV (eC (.int 2)) (cU cW 0 (aC (m2 bO (aA 1) (eC (.int 1))) aB))))
  (aF (aO 3 (m2 aV (eC (.int 2)) (cU cW 0 (aC (m2 bO (aA 1) (eC (.int 1))) aB))))
  (aF (aO 4 (m2 cG (aT (aC (eC (.int 1)) (aC (eC (.int 1)) (aC (eC (.int 1)) (aC (m2 gM (eC (.int 10)) (eC (.int 58))) aB))))) (cU cW 0 (aC (eC (.int 4)) aB))))
  (aF (aO 5 (m2 cG (aT (aC (eC (.int 1)) (aC (eC (.int 1)) (aC (eC (.int 2)) (aC (eC (.int 5)) aB))))) (cU cW 0 (aC (eC (.int 4)) aB))))
  (aF (fW 6 (bT aB))
  (aF (Zf 7)
  (aF (Zf 8)
  (aF zfX
  (bA (Vs Te 0 (Ah 6 (oX 7 (oX 8 Iw))) (aC (aA 4) aB)))))))))))
def Rw:AA D->AA D->AB (Sl×AA D):=fM 10 zgb
theorem zkM (zco:FD P w K mg base 2 "_law_bent_floor" (lP K 3 Te))(zak:FD P w K mg base 1 "_law_take" (eM K 2 cW))(h:FnAt K "_law_floor" zhU):FD P w K mg base 3 "_law_floor" (eM K 2 Rw):=
 Ag (N:=["pot","most","rows","columns","by","wide","numbers","least","greatest","r"]) (k:=2) (m:=zgb) X G h λ_ _ _ _ _ _ _ hr nd=>(aN (bL 2 (cF aL (dA 0 zak hr (aD (eI (aE 1) aL) aG) (dB (aP bB)))) nd)
  (aN (bL 3 (cF aL (dA 0 zak hr (aD (eI (aE 1) aL) aG) (dB (aP bB)))) nd)
  (aN (bL 4 (eS (cA (aD aL (aD aL (aD aL (aD (Cu aL aL) aG))))) (dA 0 zak hr (aD aL aG) (dB (aP bB)))) nd)
  (aN (bL 5 (eS (cA (aD aL (aD aL (aD aL (aD aL aG))))) (dA 0 zak hr (aD aL aG) (dB (aP bB)))) nd)
  (aN (iB 6 (fK aG) nd)
  (aN (zor 7 nd)
  (aN (zor 8 nd)
  (aN (eY eP rfl (gI bn.range' (aD (aE 2) aG)) (aW 9 nd)
  (aN (gW 6 (SO.se (Uj [0, 4] 1 0 0 ["pot", "by", "c"] rfl (gI bn.range' (aD (aE 3) aG)) (λC s H fp => (aW 2 cQ)) (λC s H fp => eK) (λC s H fp => (fO (eI (dA 0 zak hr (aD aL aG) (dB (aP bB))) aL) (aE 1))))))
  (aN (zmW 7 (Uj [0, 5, 4] 1 0 0 ["pot", "wide", "by", "number"] rfl (fE (aR 6 (aE 9))) (λC s H fp => (aW 3 cQ)) (λC s H fp => eK) (λC s H fp => (eI (aE 3) (fO (dA 0 zak hr (aD (aE 1) aG) (dB (aP bB))) (aE 2))))))
  (aU (zmW 8 (Uj [0,5,4] 1 0 0 ["pot","wide","by","number"] rfl (fE (aR 6 (aE 9))) (λC s H fp=>(aW 3 cQ)) (λC s H fp=>eK) (λC s H fp=>(cF (aE 3) (fO (dA 0 zak hr (aD (aE 1) aG) (dB (aP bB))) (aE 2))))))))))
  (aU (cO (zop 0 zco hr (Kw 6 (pG 7 (pG 8 Jc))) (aD (aE 4) aG) (Tu (aP bB)))))))))))))
abbrev zdX:Stmt:=cK 38
def zdf:ME:=
 (m2 cV (eU 1) (mC bS (aC (aI 0 (eC (.int 0))) aB)))
def zdp:MO:=
 fQ [3] 1 (bV (aA 1)) (gN 1) dZ zdf
def Xk:MS:=
 (dH (Bj (aQ (sR xV xV (m2 cG (aI 3 (aA 5)) (aA 6)) (m2 cG (aI 1 (aA 5)) (aA 6)) (m2 cG (aI 4 (aA 5)) (aA 6)))))
  (bA (eC (.bl false)))
  dS)
def zdq:MS:=
 bR (fS (aC (mC bS (aC (aI 3 (eC (.int 0))) aB)) aB)) (gN 6) Xk
def zdd:MS:=
 zdq
def zdw:MS:=
 bR (fS (aC (eU 3) aB)) (gN 5) zdd
def zdx:MS:=
 (aF zdw
  (bA (m2 cV (bU Aa (aC (aA 1) aB)) (aA 2))))
def zcD:MS:=
 (aF (iH (aA 0) (gT 3 (bI (gN 2) (bI (gN 3) (bI (gN 4) eA)))))
  (aF (dH (fT (aQ (m2 fB (eU 1) (eU 3))) (Bj (aQ (mC (iR λbs => bs.all id) (aC (cZ zdp) aB)))))
  (bA (eC (.bl false)))
  dS)
  zdx))
def Tg:AA D->AB Sl:=fP 7 zcD
theorem zhQ (zaA:FD P w K mg base 1 "_law_floor_sums" (aY K 1 Aa))(h:FnAt K "_law_floor_fits" zdX):FD P w K mg base 2 "_law_floor_fits" (aY K 2 Tg):=
 dC (N:=["floor","numbers","sums","least","greatest","r","c"]) (k:=1) (m:=zcD) X G h λ_ _ _ _ _ _ _ hr nd=>(aN (Gi (aE 0) (eV rfl (bQ (aW 2 nd) (bQ (aW 3 nd) (bQ (aW 4 nd) eZ)))))
  (aN (dY (STw.st (uJ (lZ hr.units (fG 1 bn.len') (fG 3 bn.len')) (Jw (Kv (Wd (Uq rfl bn.all' (aD (SO.se (iJ [3] 1 ["least", "row"] rfl (fE (aE 1)) (λC s H fp => (aW 1 cQ)) (λC s H fp => eK) (λC s H fp => (Mr hr.units (fG 1 bn.len') (jD bn.len' (aD (aR 0 aL) aG)))))) aG)))))))
  (aU (cO kH))
  eD)
  (aN (eY eP rfl (gI bn.range' (aD (fG 3 bn.len') aG)) (aW 5 nd)
  (aU (eY eP rfl (gI bn.range' (aD (jD bn.len' (aD (aR 3 aL) aG)) aG)) (aW 6 nd)
  (aU (dY (Kv (zkf Cp Cp jM jM Mc (eS (aR 3 (aE 5)) (aE 6)) (eS (aR 1 (aE 5)) (aE 6)) (eS (aR 4 (aE 5)) (aE 6))))
  (aU (cO kH))
  eD)))))
  (aU (cO (Mr hr.units (bW zaA hr (aD (aE 1) aG) (AO:=(aP bB))) (aE 2)))))))
abbrev zij:Stmt:=cK 39
def zhf:MS:=
 (bA (m2 cG (aT (aC (eC (.int 1)) (aC (m1 dR (eC (.int 1))) aB))) (m2 dJ (m2 aV (aA 0) (aA 1)) (eC (.int 2)))))
def sT:AA D->AB Sl:=fP 2 zhf
theorem zlL (h:FnAt K "_law_sign" zij):FD P w K mg base 1 "_law_sign" (aY K 2 sT):=
 dC (N:=["r","c"]) (k:=0) (m:=zhf) X G h λ_ _ _ _ _ _ _ hr nd=>(aU (cO (eS (cA (aD aL (aD (kL aL) aG))) (jH (cF (aE 0) (aE 1)) aL))))
abbrev zhv:Stmt:=cK 40
def zgx:MS:=
 (aF (aO 9 (dP (aI 4 (m1 dR (eC (.int 1)))) (gL (aA 7)) (gL (m2 aV (aA 7) (eC (.int 2))))))
  (cN 6 (m2 bO (m2 bO (aA 8) (mC iT (aC (aA 9) aB))) (aI 6 (aA 7)))))
def zgk:MS:=
 bR (tV (aC (aA 5) aB)) (gT 2 (bI (gN 7) (bI (gN 8) eA))) zgx
def zgI:MS:=
 (aF (fW 6 (bT (aC (eC (.int 0)) aB)))
  (aF zgk
  (cN 4 (aA 6))))
def zf9:MS:=
 bR (bV (aA 1)) (gN 5) zgI
def zgH:MS:=
 (aF (iH (aA 0) (gT 3 (bI (gN 1) (bI (gN 2) (bI (gN 3) eA)))))
  (aF (fW 4 (bT (aC (m2 bY (cZ (bT (aC (eC (.int 0)) aB))) (mC bS (aC (aI 2 (eC (.int 0))) aB))) aB)))
  (aF zf9
  (jL 4))))
def Lb:AA D->AB Sl:=fP 10 zgH
theorem zkk (h:FnAt K "_law_plain" zhv):FD P w K mg base 1 "_law_plain" (aY K 1 Lb):=
 dC (N:=["floor","sums","least","greatest","numbers","row","line","c","total","ahead"]) (k:=0) (m:=zgH) X G h λ_ _ _ _ _ _ _ hr nd=>(aN (Gi (aE 0) (eV rfl (bQ (aW 1 nd) (bQ (aW 2 nd) (bQ (aW 3 nd) eZ)))))
  (aN (iB 4 (fK (aD (fO (SO.se (fK (aD aL aG))) (jD bn.len' (aD (aR 2 aL) aG))) aG)) nd)
  (aN (eY eP rfl (fE (aE 1)) (aW 5 nd)
  (aN (iB 6 (fK (aD aL aG)) nd)
  (aN (eY eP rfl (Di bn.enumerate' (aD (aE 5) aG)) (eV rfl (bQ (aW 7 nd) (bQ (aW 8 nd) eZ)))
  (aN (bL 9 (jK (aR 4 (kL aL)) (iK (aE 7)) (iK (cF (aE 7) aL))) nd)
  (aU (gW 6 (eI (eI (aE 8) (Sd rfl bn.sum' (aD (aE 9) aG))) (aR 6 (aE 7)))))))
  (aU (gW 4 (aE 6))))))
  (aU (lR 4)))))
abbrev zgp:Stmt:=cK 41
def zez:MS:=
 (aF (iH (aA 4) (gT 2 (bI (gN 5) (bI (gN 6) eA))))
  (aO 2 (m2 aV (aA 2) (m2 bY (m2 bY (bU sT (aC (aA 5) (aC (aA 6) aB))) (bU sT (aC (aA 3) (aC (eC (.int 0)) aB)))) (m2 cG (aI 0 (aA 5)) (aA 6))))))
def zeJ:MS:=
 bR (tV (aC (aA 1) aB)) (gT 2 (bI (gN 3) (bI (gN 4) eA))) zez
def zet:MS:=
 (aF (aO 2 (eC (.int 0)))
  (aF zeJ
  (jL 2)))
def Og:AA D->AB Sl:=fP 7 zet
theorem zjl (za2:FD P w K mg base 1 "_law_sign" (aY K 2 sT))(h:FnAt K "_law_balance" zgp):FD P w K mg base 2 "_law_balance" (aY K 2 Og):=
 dC (N:=["numbers","cells","found","at","cell","r","c"]) (k:=1) (m:=zet) X G h λ_ _ _ _ _ _ _ hr nd=>(aN (bL 2 aL nd)
  (aN (eY eP rfl (Di bn.enumerate' (aD (aE 1) aG)) (eV rfl (bQ (aW 3 nd) (bQ (aW 4 nd) eZ)))
  (aN (Gi (aE 4) (eV rfl (bQ (aW 5 nd) (bQ (aW 6 nd) eZ))))
  (aU (bL 2 (cF (aE 2) (fO (fO (bW za2 hr (aD (aE 5) (aD (aE 6) aG)) (AO:=(aP (aP bB)))) (bW za2 hr (aD (aE 3) (aD aL aG)) (AO:=(aP (aP bB))))) (eS (aR 0 (aE 5)) (aE 6)))) nd))))
  (aU (lR 2))))
abbrev zfT:Stmt:=cK 42
def Mf:MS:=
 (dH (fT (Bj (aQ (sR xV tK (eC (.int 0)) (aA 3) (aA 0)))) (Bj (aQ (sR xV tK (eC (.int 0)) (aA 4) (aA 1)))))
  (bA (eC (.bl false)))
  dS)
def zeR:MS:=
 bR (bV (aA 2)) (gT 2 (bI (gN 3) (bI (gN 4) eA))) Mf
def zeN:MS:=
 (aF (aO 6 (mC fX (aC (aI 2 (aA 5)) aB)))
  (aF (aO 7 (mC fX (aC (m2 cG (m2 aV (cZ (oC cL (aC (aA 2) aB))) (cZ (oC cL (aC (dP (aA 2) kB (gL (eC (.int 1)))) aB)))) (m2 aV (aA 5) (eC (.int 1)))) aB)))
  (dH (fT (aQ (m2 cV (aA 6) (aA 7))) (fT (Mi (aQ (m2 cV (m2 dJ (aA 5) (eC (.int 2))) (eC (.int 0)))) (aQ (m2 fB (aI 6 (eC (.int 1))) (aI 7 (eC (.int 1)))))) (Mi (aQ (m2 cV (m2 dJ (aA 5) (eC (.int 2))) (eC (.int 1)))) (aQ (m2 fB (aI 6 (eC (.int 0))) (aI 7 (eC (.int 0))))))))
  (bA (eC (.bl false)))
  dS)))
def zeV:MS:=
 bR (fS (aC (eU 2) aB)) (gN 5) zeN
def ze5:MS:=
 (aF zeR
  (aF zeV
  (bA (eC (.bl true)))))
def zeu:MS:=
 (aF (dH (fT (aQ (m2 tK (eU 2) (eC (.int 4)))) (aQ (m2 cV (m2 dJ (eU 2) (eC (.int 2))) (eC (.int 1)))))
  (bA (eC (.bl false)))
  dS)
  ze5)
def Pk:AA D->AB Sl:=fP 8 zeu
theorem zjh (h:FnAt K "_law_is_tour" zfT):FD P w K mg base 1 "_law_is_tour" (aY K 3 Pk):=
 dC (N:=["rows","columns","cells","r","c","at","one","other"]) (k:=0) (m:=zeu) X G h λ_ _ _ _ _ _ _ hr nd=>(aN (dY (STw.st (uJ (Uw (fG 2 bn.len') aL) (Jw (gX hr.units (jH (fG 2 bn.len') aL) aL))))
  (aU (cO kH))
  eD)
  (aN (eY eP rfl (fE (aE 2)) (eV rfl (bQ (aW 3 nd) (bQ (aW 4 nd) eZ)))
  (aU (dY (STw.st (uJ (Kv (zkf Cp Rb jM jM Mc aL (aE 3) (aE 0))) (Jw (Kv (zkf Cp Rb jM jM Mc aL (aE 4) (aE 1))))))
  (aU (cO kH))
  eD)))
  (aN (eY eP rfl (gI bn.range' (aD (fG 2 bn.len') aG)) (aW 5 nd)
  (aN (bL 6 (kS bn.tuple' (aD (aR 2 (aE 5)) aG)) nd)
  (aN (bL 7 (kS bn.tuple' (aD (eS (cF (SO.se (uY bn.list' (aD (aE 2) aG))) (SO.se (uY bn.list' (aD (jK (aE 2) lQ (iK aL)) aG)))) (cF (aE 5) aL)) aG)) nd)
  (aU (dY (STw.st (uJ (gX hr.units (aE 6) (aE 7)) (uJ (STw.st (zoV (gX hr.units (jH (aE 5) aL) aL) (zl0 (lZ hr.units (aR 6 aL) (aR 7 aL))))) (Jw (STw.st (zoV (gX hr.units (jH (aE 5) aL) aL) (zl0 (lZ hr.units (aR 6 aL) (aR 7 aL)))))))))
  (aU (cO kH))
  eD)))))
  (aU (cO kH)))))
abbrev zh1:Stmt:=cK 47
def zge:MS:=
 (aF (aO 4 (mC fX (aC (aA 3) aB)))
  (Fu 1 (aA 4) (m2 aV (lB 1 0 (aA 4)) (m2 bY (bU sT (aC (aI 4 (eC (.int 0))) (aC (aI 4 (eC (.int 1))) aB))) (bU sT (aC (aA 2) (aC (eC (.int 0)) aB)))))))
def zgf:MS:=
 bR (tV (aC (aA 0) aB)) (gT 2 (bI (gN 2) (bI (gN 3) eA))) zge
def Zs:MS:=
 (aF (Lr 1)
  (aF zgf
  (bA (Vt 1))))
def Su:AA D->AB Sl:=fP 5 Zs
theorem zks (za2:FD P w K mg base 1 "_law_sign" (aY K 2 sT))(h:FnAt K "_law_often" zh1):FD P w K mg base 2 "_law_often" (aY K 1 Su):=
 dC (N:=["cells","often","at","cell","pair"]) (k:=1) (m:=Zs) X G h λ_ _ _ _ _ _ _ hr nd=>(aN (sU 1 nd)
  (aN (eY eP rfl (Di bn.enumerate' (aD (aE 0) aG)) (eV rfl (bQ (aW 2 nd) (bQ (aW 3 nd) eZ)))
  (aN (bL 4 (kS bn.tuple' (aD (aE 3) aG)) nd)
  (aU (pV 1 hr.units (cF (zpp 1 hr.units (aE 4) ⟨rfl,rfl,rfl,rfl⟩) (fO (bW za2 hr (aD (aR 4 aL) (aD (aR 4 aL) aG)) (AO:=(aP (aP bB)))) (bW za2 hr (aD (aE 2) (aD aL aG)) (AO:=(aP (aP bB)))))) (aE 4)))))
  (aU (cO (wJ 1)))))
abbrev zdl:Stmt:=cK 43
def zcv:MS:=
 (aO 6 (m2 aV (aA 6) (mC (lK dN) (aC (m2 bY (mW 5 (aT (aC (aA 7) (aC (aA 8) aB)))) (m2 cG (aI 3 (aA 7)) (aA 8))) (aC (m2 bY (mW 5 (aT (aC (aA 7) (aC (aA 8) aB)))) (m2 cG (aI 4 (aA 7)) (aA 8))) aB)))))
def zcu:MS:=
 bR (Av 5) (gT 2 (bI (gN 7) (bI (gN 8) eA))) zcv
def zcb:MS:=
 (aF (iH (aA 0) (gT 3 (bI (gN 2) (bI (gN 3) (bI (gN 4) eA)))))
  (aF (aO 5 (bU Su (aC (aA 1) aB)))
  (aF (aO 6 (eC (.int 0)))
  (aF zcu
  (jL 6)))))
def Pd:AA D->AB Sl:=fP 9 zcb
theorem zgS (zfn:FD P w K mg base 2 "_law_often" (aY K 1 Su))(h:FnAt K "_law_most_balance" zdl):FD P w K mg base 3 "_law_most_balance" (aY K 2 Pd):=
 dC (N:=["floor","cells","sums","least","greatest","often","found","r","c"]) (k:=2) (m:=zcb) X G h λ_ _ _ _ _ _ _ hr nd=>(aN (Gi (aE 0) (eV rfl (bQ (aW 2 nd) (bQ (aW 3 nd) (bQ (aW 4 nd) eZ)))))
  (aN (bL 5 (bW zfn hr (aD (aE 1) aG) (AO := (aP bB))) nd)
  (aN (bL 6 aL nd)
  (aN (eY eP rfl (rX 5) (eV rfl (bQ (aW 7 nd) (bQ (aW 8 nd) eZ)))
  (aU (bL 6 (cF (aE 6) (Wy rfl bn.max' (aD (fO (zmP 5 hr.units (cA (aD (aE 7) (aD (aE 8) aG)))) (eS (aR 3 (aE 7)) (aE 8))) (aD (fO (zmP 5 hr.units (cA (aD (aE 7) (aD (aE 8) aG)))) (eS (aR 4 (aE 7)) (aE 8))) aG)))) nd)))
  (aU (lR 6))))))
abbrev zd1:Stmt:=cK 44
def zdo:MS:=
 (bA (m2 Ma (bU Og (aC (bU Lb (aC (aA 0) aB)) (aC (aI 1 (eC (.int 1))) aB))) (bU Pd (aC (aA 0) (aC (aI 1 (eC (.int 1))) aB)))))
def zc9:MS:=
 (aF (dH (Bj (aQ (bU Pk (aC (mC bS (aC (aI 0 (eC (.int 1))) aB)) (aC (mC bS (aC (m2 cG (aI 0 (eC (.int 1))) (eC (.int 0))) aB)) (aC (aI 1 (eC (.int 1))) aB))))))
  (bA (eC (.bl false)))
  dS)
  zdo)
def Xt:MS:=
 (aF (dH (aQ (m2 cV (aI 1 (eC (.int 0))) (eC (.str "floor"))))
  (bA (bU Tg (aC (aA 0) (aC (aI 1 (eC (.int 1))) aB))))
  dS)
  zc9)
def zQ:AA D->AB Sl:=fP 2 Xt
theorem zhE (zdM:FD P w K mg base 2 "_law_balance" (aY K 2 Og))(zcq:FD P w K mg base 2 "_law_floor_fits" (aY K 2 Tg))(zdR:FD P w K mg base 1 "_law_is_tour" (aY K 3 Pk))(zbV:FD P w K mg base 3 "_law_most_balance" (aY K 2 Pd))(zbL:FD P w K mg base 1 "_law_plain" (aY K 1 Lb))(h:FnAt K "_law_floor_told" zd1):FD P w K mg base 4 "_law_floor_told" (aY K 2 zQ):=
 dC (N:=["floor","told"]) (k:=3) (m:=Xt) X G h λ_ _ _ _ _ _ _ hr nd=>(aN (dY (gX hr.units (aR 1 aL) jO)
  (aU (cO (bW zcq hr (aD (aE 0) (aD (aR 1 aL) aG)) (AO:=(aP (aP bB))))))
  eD)
  (aN (dY (Kv (Wd (bW zdR hr (aD (jD bn.len' (aD (aR 0 aL) aG)) (aD (jD bn.len' (aD (eS (aR 0 aL) aL) aG)) (aD (aR 1 aL) aG))) (AO := (aP (aP (aP bB)))))))
  (aU (cO kH))
  eD)
  (aU (cO (Df (bW zdM hr (aD (bW zbL hr (aD (aE 0) aG) (AO:=(aP bB))) (aD (aR 1 aL) aG)) (AO:=(aP (aP bB)))) (bW zbV hr (aD (aE 0) (aD (aR 1 aL) aG)) (AO:=(aP (aP bB)))))))))
abbrev zg0:Stmt:=cK 45
def zfJ:MS:=
 (cN 3 (m2 dJ (m2 aV (m2 aV (aI 3 (m1 dR (eC (.int 1)))) (eC (.int 1))) (cU cW 0 (aC (m2 bO (aA 2) (eC (.int 1))) aB))) (aA 2)))
def zc2:MS:=
 bR (fS (aC (m2 bO (aA 1) (eC (.int 1))) aB)) (gN 4) zfJ
def zfx:ME:=
 (aA 1)
def zfQ:MT:=
 (aQ (m2 Yx (aA 1) (aT (aC (aI 0 (eC (.int 0))) (aC (aI 0 (m1 dR (eC (.int 2)))) aB)))))
def Zz:MO:=
 gU [3] 1 0 3 (fS (aC (aA 2) aB)) (gN 1) zfQ zfx
def zc4:MS:=
 (jL 3)
def zfg:MS:=
 (aF (fW 3 (bT (aC (cU cW 0 (aC (aA 2) aB)) aB)))
  (aF zc2
  (aF (dH (aQ (m2 cV (aI 3 (m1 dR (eC (.int 1)))) (aI 3 (eC (.int 0)))))
  (iE 3 (m1 dR (eC (.int 1))) (mC oZ (aC (cZ Zz) aB)))
  dS)
  zc4)))
def Np:AA D->AA D->AB (Sl×AA D):=fM 5 zfg
theorem zjN (zak:FD P w K mg base 1 "_law_take" (eM K 2 cW))(h:FnAt K "_law_unlike" zg0):FD P w K mg base 2 "_law_unlike" (eM K 3 Np):=
 Ag (N:=["pot","size","below","numbers","turn"]) (k:=1) (m:=zfg) X G h λ_ _ _ _ _ _ _ hr nd=>(aN (iB 3 (fK (aD (dA 0 zak hr (aD (aE 2) aG) (dB (aP bB))) aG)) nd)
  (aN (eY eP rfl (gI bn.range' (aD (eI (aE 1) aL) aG)) (aW 4 nd)
  (aU (gW 3 (jH (cF (cF (aR 3 (kL aL)) aL) (dA 0 zak hr (aD (eI (aE 2) aL) aG) (dB (aP bB)))) (aE 2)))))
  (aN (dY (gX hr.units (aR 3 (kL aL)) (aR 3 aL))
  (aU (Jx 3 (wA rfl bn.min' (aD (SO.se (Uj [3] 1 0 3 ["numbers","one"] rfl (gI bn.range' (aD (aE 2) aG)) (λC s H fp=>(aW 1 cQ)) (λC s H fp=>(zpE (oQ (aE 1) (cA (aD (aR 0 aL) (aD (aR 0 (kL aL)) aG)))))) (λC s H fp=>(aE 1)))) aG)) (kL aL)))
  eD)
  (aU (lR 3)))))
abbrev zim:Stmt:=cK 46
def zg4:MS:=
 (aF (cN 6 (aT (aC (aI 4 (aA 7)) (aC (aI 5 (aA 7)) aB))))
  (cN 6 (aT (aC (aI 4 (m2 dJ (m2 aV (aA 7) (eC (.int 1))) (aA 3))) (aC (aI 5 (aA 7)) aB)))))
def zg6:MS:=
 bR (fS (aC (aA 3) aB)) (gN 7) zg4
def zhl:MS:=
 (aF (aO 3 (m2 bY (eC (.int 2)) (m2 aV (eC (.int 1)) (cU cW 0 (aC (eC (.int 3)) aB)))))
  (aF (aO 4 (cU Np 0 (aC (aA 3) (aC (aA 1) aB))))
  (aF (aO 5 (cU Np 0 (aC (aA 3) (aC (aA 2) aB))))
  (aF (fW 6 (bT aB))
  (aF zg6
  (jL 6))))))
def Mm:AA D->AA D->AB (Sl×AA D):=fM 8 zhl
theorem zly (zak:FD P w K mg base 1 "_law_take" (eM K 2 cW))(zcO:FD P w K mg base 2 "_law_unlike" (eM K 3 Np))(h:FnAt K "_law_tour" zim):FD P w K mg base 3 "_law_tour" (eM K 3 Mm):=
 Ag (N:=["pot","rows","columns","size","ones","others","cells","at"]) (k:=2) (m:=zhl) X G h λ_ _ _ _ _ _ _ hr nd=>(aN (bL 3 (fO aL (cF aL (dA 0 zak hr (aD aL aG) (dB (aP bB))))) nd)
  (aN (bL 4 (dA 0 zcO hr (aD (aE 3) (aD (aE 1) aG)) (dB (aP (aP bB)))) nd)
  (aN (bL 5 (dA 0 zcO hr (aD (aE 3) (aD (aE 2) aG)) (dB (aP (aP bB)))) nd)
  (aN (iB 6 (fK aG) nd)
  (aN (eY eP rfl (gI bn.range' (aD (aE 3) aG)) (aW 7 nd)
  (aN (gW 6 (cA (aD (aR 4 (aE 7)) (aD (aR 5 (aE 7)) aG))))
  (aU (gW 6 (cA (aD (aR 4 (jH (cF (aE 7) aL) (aE 3))) (aD (aR 5 (aE 7)) aG)))))))
  (aU (lR 6)))))))
abbrev zh4:Stmt:=cK 48
def zgr:ME:=
 (nO 0 (cU cW 1 (aC (eU 0) aB)))
def zgD:MO:=
 zP [3,0] 1 1 0 0 3 (fS (aC (aA 2) aB)) (gN 2) dZ zgr
def zgi:MS:=
 (aF (fW 3 (oR (fS (aC (aA 1) aB))))
  (De zgD))
def Nm:AA D->AA D->AB (Sl×AA D):=fM 4 zgi
theorem zkX (zak:FD P w K mg base 1 "_law_take" (eM K 2 cW))(h:FnAt K "_law_order" zh4):FD P w K mg base 2 "_law_order" (eM K 3 Nm):=
 Ag (N:=["pot","many","size","left"]) (k:=1) (m:=zgi) X G h λ_ _ _ _ _ _ _ hr nd=>(aN (iB 3 (zpX bn.list' bn.range' (aD (aE 1) aG)) nd)
  (aU (Mk (Eh [3,0] 1 1 0 0 3 ["left","pot","turn"] rfl (gI bn.range' (aD (aE 2) aG)) (λC s H fp=>(aW 2 cQ)) (λC s H fp=>eK) (λC s H fp=>(pJ 0 (dA 1 zak hr (aD (fG 0 bn.len') aG) (dB (aP bB)))))))))
abbrev zg7:Stmt:=cK 49
def zfv:ME:=
 (aI 0 (m2 bO (eC (.int 1)) (aA 1)))
def zfL:MO:=
 fQ [5] 1 (fS (aC (eU 5) aB)) (gN 1) dZ zfv
def zc1:MS:=
 (aF (aO 6 (m2 bY (eC (.int 2)) (cU cW 0 (aC (m2 tG (eU 5) (eC (.int 2))) aB))))
  (aF (fW 7 (bT (aC (aA 4) (aC (aT (aC (eC (.str "floor")) (aC (bU iM (aC (bU Lb (aC (aA 1) aB)) aB)) aB))) (aC (aT (aC (eC (.str "tour")) (aC (aA 5) aB))) (aC (aT (aC (eC (.str "tour")) (aC (m2 aV (aA 5) (aA 5)) aB))) aB))))))
  (aF (cN 7 (aT (aC (eC (.str "tour")) (aC (m2 aV (dP (aA 5) (gL (aA 6)) kB) (dP (aA 5) kB (gL (aA 6)))) aB))))
  (aF (cN 7 (aT (aC (eC (.str "tour")) (aC (m2 aV (dP (aA 5) (gL (eC (.int 1))) kB) (dP (aA 5) kB (gL (eC (.int 1))))) aB))))
  (aF (cN 7 (aT (aC (eC (.str "tour")) (aC (cZ zfL) aB))))
  (aF (cN 7 (aT (aC (eC (.str "tour")) (aC (cU Mm 0 (aC (aA 2) (aC (aA 3) aB))) aB))))
  (jL 7)))))))
def zfc:MS:=
 (aF (aO 2 (mC bS (aC (aI 1 (eC (.int 1))) aB)))
  (aF (aO 3 (mC bS (aC (m2 cG (aI 1 (eC (.int 1))) (eC (.int 0))) aB)))
  (aF (aO 4 (bU Tn (aC (aA 1) aB)))
  (aF (aO 5 (cU Mm 0 (aC (aA 2) (aC (aA 3) aB))))
  (aF (dH (aQ (m2 cV (aI 4 (eC (.int 0))) (eC (.str "tour"))))
  (aO 5 (cZ (oC cL (aC (aI 4 (eC (.int 1))) aB))))
  dS)
  zc1)))))
def Rl:AA D->AA D->AB (Sl×AA D):=fM 8 zfc
theorem zjD (zau:FD P w K mg base 1 "_law_fixed" (aY K 1 iM))(zbL:FD P w K mg base 1 "_law_plain" (aY K 1 Lb))(zak:FD P w K mg base 1 "_law_take" (eM K 2 cW))(zd4:FD P w K mg base 3 "_law_tour" (eM K 3 Mm))(zdJ:FD P w K mg base 5 "fitted_floor" (aY K 1 Tn))(h:FnAt K "_law_papers" zg7):FD P w K mg base 6 "_law_papers" (eM K 2 Rl):=
 Ag (N:=["pot","floor","rows","columns","told","cells","at","papers"]) (k:=5) (m:=zfc) X G h λ_ _ _ _ _ _ _ hr nd=>(aN (bL 2 (jD bn.len' (aD (aR 1 aL) aG)) nd)
  (aN (bL 3 (jD bn.len' (aD (eS (aR 1 aL) aL) aG)) nd)
  (aN (bL 4 (bW zdJ hr (aD (aE 1) aG) (AO := (aP bB))) nd)
  (aN (bL 5 (dA 0 zd4 hr (aD (aE 2) (aD (aE 3) aG)) (dB (aP (aP bB)))) nd)
  (aN (dY (gX hr.units (aR 4 aL) jO)
  (aU (bL 5 (SO.se (uY bn.list' (aD (aR 4 aL) aG))) nd))
  eD)
  (aN (bL 6 (fO aL (dA 0 zak hr (aD (zom (fG 5 bn.len') aL) aG) (dB (aP bB)))) nd)
  (aN (iB 7 (fK (aD (aE 4) (aD (cA (aD jO (aD (bW zau hr (aD (bW zbL hr (aD (aE 1) aG) (AO := (aP bB))) aG) (AO := (aP bB))) aG))) (aD (cA (aD jO (aD (aE 5) aG))) (aD (cA (aD jO (aD (cF (aE 5) (aE 5)) aG))) aG))))) nd)
  (aN (gW 7 (cA (aD jO (aD (cF (jK (aE 5) (iK (aE 6)) lQ) (jK (aE 5) lQ (iK (aE 6)))) aG))))
  (aN (gW 7 (cA (aD jO (aD (cF (jK (aE 5) (iK aL) lQ) (jK (aE 5) lQ (iK aL))) aG))))
  (aN (gW 7 (cA (aD jO (aD (SO.se (iJ [5] 1 ["cells", "at"] rfl (gI bn.range' (aD (fG 5 bn.len') aG)) (λC s H fp => (aW 1 cQ)) (λC s H fp => eK) (λC s H fp => (aR 0 (eI aL (aE 1)))))) aG))))
  (aN (gW 7 (cA (aD jO (aD (dA 0 zd4 hr (aD (aE 2) (aD (aE 3) aG)) (dB (aP (aP bB)))) aG))))
  (aU (lR 7)))))))))))))
abbrev zdW:Stmt:=cK 50
def zbQ:MS:=
 (jL 4)
def zbS:MS:=
 (aF (dH (aQ (m2 cV (aA 8) (eC (.int 8))))
  (iH (aT (aC (aI 4 (m2 bO (aA 5) (eC (.int 1)))) (aC (aI 4 (aA 5)) aB))) (gT 2 (bI (gS 4 (aA 5)) (bI (gS 4 (m2 bO (aA 5) (eC (.int 1)))) eA))))
  dS)
  zbQ)
def zbX:MS:=
 (aF (dH (aQ (m2 cV (aA 8) (eC (.int 7))))
  (sC (nO 4 (aA 5)))
  dS)
  zbS)
def zbW:MS:=
 (aF (dH (aQ (m2 cV (aA 8) (eC (.int 6))))
  (yW 4 (aC (aA 5) (aC (aT (aC (aA 6) (aC (aA 7) aB))) aB)))
  dS)
  zbX)
def zcB:MS:=
 (aF (fW 4 (oC cL (aC (aA 1) aB)))
  (aF (aO 5 (cU cW 0 (aC (eU 4) aB)))
  (aF (iH (aI 4 (aA 5)) (gT 2 (bI (gN 6) (bI (gN 7) eA))))
  (aF (aO 8 (cU cW 0 (aC (eC (.int 9)) aB)))
  (aF (dH (aQ (m2 tK (aA 8) (eC (.int 6))))
  (iE 4 (aA 5) (m2 cG (aT (aC (aT (aC (m2 aV (aA 6) (eC (.int 1))) (aC (aA 7) aB))) (aC (aT (aC (aA 6) (aC (m2 aV (aA 7) (eC (.int 1))) aB))) (aC (aT (aC (m2 bO (aA 6) (aA 2)) (aC (aA 7) aB))) (aC (aT (aC (aA 6) (aC (m2 bO (aA 7) (aA 3)) aB))) (aC (aT (aC (m2 gM (eC (.int 10)) (eC (.int 59))) (aC (aA 7) aB))) (aC (aT (aC (aA 6) (aC (m1 dR (eC (.int 1))) aB))) aB))))))) (aA 8)))
  dS)
  zbW)))))
def Pt:AA D->AA D->AB (Sl×AA D):=fM 9 zcB
theorem zhX (zak:FD P w K mg base 1 "_law_take" (eM K 2 cW))(h:FnAt K "_law_bent_cells" zdW):FD P w K mg base 2 "_law_bent_cells" (eM K 4 Pt):=
 Ag (N:=["pot","cells","rows","columns","some","at","r","c","way"]) (k:=1) (m:=zcB) X G h λ_ _ _ _ _ _ _ hr nd=>(aN (iB 4 (uY bn.list' (aD (aE 1) aG)) nd)
  (aN (bL 5 (dA 0 zak hr (aD (fG 4 bn.len') aG) (dB (aP bB))) nd)
  (aN (Gi (aR 4 (aE 5)) (eV rfl (bQ (aW 6 nd) (bQ (aW 7 nd) eZ))))
  (aN (bL 8 (dA 0 zak hr (aD aL aG) (dB (aP bB))) nd)
  (aN (dY (Uw (aE 8) aL)
  (aU (Jx 4 (eS (cA (aD (cA (aD (cF (aE 6) aL) (aD (aE 7) aG))) (aD (cA (aD (aE 6) (aD (cF (aE 7) aL) aG))) (aD (cA (aD (eI (aE 6) (aE 2)) (aD (aE 7) aG))) (aD (cA (aD (aE 6) (aD (eI (aE 7) (aE 3)) aG))) (aD (cA (aD (Cu aL aL) (aD (aE 7) aG))) (aD (cA (aD (aE 6) (aD (kL aL) aG))) aG))))))) (aE 8)) (aE 5)))
  eD)
  (aN (dY (gX hr.units (aE 8) aL)
  (aU (Ft 4 (aD (aE 5) (aD (cA (aD (aE 6) (aD (aE 7) aG))) aG))))
  eD)
  (aN (dY (gX hr.units (aE 8) aL)
  (aU (Bm (pJ 4 (aE 5))))
  eD)
  (aN (dY (gX hr.units (aE 8) aL)
  (aU (Gi (cA (aD (aR 4 (eI (aE 5) aL)) (aD (aR 4 (aE 5)) aG))) (eV rfl (bQ (sH 4 (aE 5)) (bQ (sH 4 (eI (aE 5) aL)) eZ)))))
  eD)
  (aU (lR 4))))))))))
abbrev zc7:Stmt:=cK 51
def zcw:MO:=
 (oC cL (aC (aA 0) aB))
def zbw:MS:=
 (iL 2 (bA (bU iM (aC (aA 2) aB))))
def zby:MS:=
 (aF (dH (aQ (m2 cV (aA 5) (eC (.int 5))))
  (Hr 2 (qV 3))
  dS)
  zbw)
def zbz:MS:=
 (aF (dH (aQ (m2 cV (aA 5) (eC (.int 4))))
  (Fs 2 (qV 3) (qV 4))
  dS)
  zby)
def Zw:MS:=
 (aF (dH (aQ (m2 cV (aA 5) (eC (.int 3))))
  (Hk 2 (qV 3) (qC (.int 0)))
  dS)
  zbz)
def zb8:MS:=
 (aF (Be 2 [] 1 (bV (aA 1)) (gN 0) dZ zcw)
  (aF (aO 3 (cU cW 0 (aC (Xf 2) aB)))
  (aF (aO 4 (cU cW 0 (aC (eQ (qLX 2 (qV 3))) aB)))
  (aF (aO 5 (cU cW 0 (aC (eC (.int 6)) aB)))
  (aF (dH (aQ (m2 tK (aA 5) (eC (.int 3))))
  (lX 2 (qV 3) (qV 4) (m2 aV (lE 2 (qV 3) (qV 4)) (m2 cG (aT (aC (eC (.int 1)) (aC (m1 dR (eC (.int 1))) (aC (m2 gM (eC (.int 10)) (eC (.int 59))) aB)))) (aA 5))))
  dS)
  Zw)))))
def Tv:AA D->AA D->AB (Sl×AA D):=fM 6 zb8
theorem zgT (zau:FD P w K mg base 1 "_law_fixed" (aY K 1 iM))(zak:FD P w K mg base 1 "_law_take" (eM K 2 cW))(h:FnAt K "_law_bent_numbers" zc7):FD P w K mg base 2 "_law_bent_numbers" (eM K 2 Tv):=
 Ag (N:=["pot","numbers","some","r","c","way"]) (k:=1) (m:=zb8) X G h λ_ _ _ _ _ _ _ hr nd=>(aN (Mv 2 [] 1 ["row"] rfl (fE (aE 1)) (λC s H fp=>(aW 0 cQ)) (λC s H fp=>eK) (λC s H fp=>(uY bn.list' (aD (aE 0) aG))) nd)
  (aN (bL 3 (dA 0 zak hr (aD (zH 2 bn.len') aG) (dB (aP bB))) nd)
  (aN (bL 4 (dA 0 zak hr (aD (SQ.se (zW 2 bn.len' (cE 3))) aG) (dB (aP bB))) nd)
  (aN (bL 5 (dA 0 zak hr (aD aL aG) (dB (aP bB))) nd)
  (aN (dY (Uw (aE 5) aL)
  (aU (tY 2 (cF (mF 2 (cE 3) (cE 4)) (eS (cA (aD aL (aD (kL aL) (aD (Cu aL aL) aG)))) (aE 5))) (cE 3) (cE 4)))
  eD)
  (aN (dY (gX hr.units (aE 5) aL)
  (aU (Ir 2 (cE 3) Ec))
  eD)
  (aN (dY (gX hr.units (aE 5) aL)
  (aU (Kt 2 (cE 3) (cE 4)))
  eD)
  (aN (dY (gX hr.units (aE 5) aL)
  (aU (Kh 2 (cE 3)))
  eD)
  (aU (Fe 2 (cO (bW zau hr (aD (aE 2) aG) (AO:=(aP bB))))))))))))))
abbrev zg8:Stmt:=cK 52
def zfz:ME:=
 (cZ (oC cL (aC (aA 0) aB)))
def zfN:MO:=
 fQ [] 1 (bV (aA 0)) (gN 0) dZ zfz
def zfC:ME:=
 (m2 aV (aA 2) (bU sT (aC (aA 0) (aC (aA 1) aB))))
def zfy:MO:=
 fQ [1] 2 (tV (aC (aI 2 (aA 1)) aB)) (gT 2 (bI (gN 1) (bI (gN 2) eA))) dZ zfC
def zfi:MS:=
 (aF (fW 2 zfN)
  (aF (iE 2 (aA 1) (cZ zfy))
  (bA (bU iM (aC (aA 2) aB)))))
def Uv:AA D->AB Sl:=fP 3 zfi
theorem zjH (zau:FD P w K mg base 1 "_law_fixed" (aY K 1 iM))(za2:FD P w K mg base 1 "_law_sign" (aY K 2 sT))(h:FnAt K "_law_parted" zg8):FD P w K mg base 2 "_law_parted" (aY K 2 Uv):=
 dC (N:=["numbers","r","found"]) (k:=1) (m:=zfi) X G h λ_ _ _ _ _ _ _ hr nd=>(aN (rA 2 [] 1 ["row"] rfl (fE (aE 0)) (λC s H fp=>(aW 0 cQ)) (λC s H fp=>eK) (λC s H fp=>(SO.se (uY bn.list' (aD (aE 0) aG)))) nd)
  (aN (Jx 2 (SO.se (iJ [1] 2 ["r", "c", "number"] rfl (Di bn.enumerate' (aD (aR 2 (aE 1)) aG)) (λC s H fp => (eV rfl (bQ (aW 1 cQ) (bQ (aW 2 cQ) eZ)))) (λC s H fp => eK) (λC s H fp => (cF (aE 2) (bW za2 hr (aD (aE 0) (aD (aE 1) aG)) (AO := (aP (aP bB)))))))) (aE 1))
  (aU (cO (bW zau hr (aD (aE 2) aG) (AO:=(aP bB)))))))
abbrev zgL:Stmt:=cK 53
def ze1:ME:=
 (m2 bO (cU cW 0 (aC (eC (.int 19)) aB)) (eC (.int 9)))
def zeQ:MO:=
 gU [1] 1 0 1 (fS (aC (aA 0) aB)) (gN 1) dZ ze1
def zeO:ME:=
 (cZ zeQ)
def Zn:MO:=
 gU [2,0] 1 1 0 (fS (aC (aA 1) aB)) (gN 2) dZ zeO
def zeA:MS:=
 (aF (cN 7 (aT (aC (aI 5 (aA 8)) (aC (aI 6 (aA 8)) aB))))
  (cN 7 (aT (aC (aI 5 (m2 dJ (m2 aV (aA 8) (eC (.int 1))) (aA 4))) (aC (aI 6 (aA 8)) aB)))))
def zcC:MS:=
 bR (fS (aC (aA 4) aB)) (gN 8) zeA
def zeL:ME:=
 (m2 bO (aA 0) (eC (.int 90)))
def zev:MO:=
 fQ [] 1 (bV (aA 0)) (gN 0) dZ zeL
def zeU:MO:=
 zev
def zeW:ME:=
 (m2 aV (aA 0) (eC (.int 90)))
def zeS:MO:=
 fQ [] 1 (bV (aA 0)) (gN 0) dZ zeW
def zeG:MO:=
 zeS
def zeH:ME:=
 (aA 2)
def zeZ:MT:=
 (aQ (m2 fB (aA 2) (aT (aC (aI 0 (eC (.int 2))) (aC (aI 1 (eC (.int 1))) aB)))))
def zcE:MO:=
 fQ [5,6] 1 (bV (aA 7)) (gN 2) zeZ zeH
def zeE:MS:=
 (aF (lX 9 (qV 14) (qV 15) (m2 aV (m2 cG (aI 3 (aA 14)) (aA 15)) (m2 bY (aA 12) (mC mL (aC (m2 cV (aT (aC (aA 14) (aC (aA 15) aB))) (aA 13)) aB)))))
  (lX 10 (qV 14) (qV 15) (lE 9 (qV 14) (qV 15))))
def zcF:MS:=
 bR (bV (aA 11)) (gT 2 (bI (gN 14) (bI (gN 15) eA))) zeE
def zei:MS:=
 (aF (aO 1 (m2 aV (eC (.int 3)) (cU cW 0 (aC (eC (.int 4)) aB))))
  (aF (aO 2 (m2 aV (eC (.int 3)) (cU cW 0 (aC (eC (.int 4)) aB))))
  (aF (aO 3 (cZ Zn))
  (aF (aO 4 (mC (lK eT) (aC (aA 1) (aC (aA 2) aB))))
  (aF (aO 5 (cU Nm 0 (aC (aA 1) (aC (aA 4) aB))))
  (aF (aO 6 (cU Nm 0 (aC (aA 2) (aC (aA 4) aB))))
  (aF (fW 7 (bT aB))
  (aF zcC
  (aF (aO 7 (m2 aV (aA 7) (cZ (bT (aC (aT (aC (aI 5 (eC (.int 0))) (aC (aI 6 (eC (.int 0))) aB))) (aC (aT (aC (aI 5 (eC (.int 2))) (aC (aI 6 (eC (.int 0))) aB))) (aC (aT (aC (aI 5 (eC (.int 2))) (aC (aI 6 (eC (.int 1))) aB))) (aC (aT (aC (aI 5 (eC (.int 0))) (aC (aI 6 (eC (.int 1))) aB))) aB))))))))
  (aF (Be 9 [] 1 (bV (aA 3)) (gN 0) dZ zeU)
  (aF (Be 10 [] 1 (bV (aA 3)) (gN 0) dZ zeG)
  (aF (aO 11 (cZ zcE))
  (aF (aO 12 (m2 cG (aT (aC (eC (.int 1)) (aC (m1 dR (eC (.int 1))) aB))) (cU cW 0 (aC (eC (.int 2)) aB))))
  (aF (aO 13 (aI 11 (cU cW 0 (aC (eU 11) aB))))
  (aF zcF
  (iL 9 (iL 10 (bA (aT (aC (aT (aC (bU Aa (aC (aA 3) aB)) (aC (bU iM (aC (aA 9) aB)) (aC (bU iM (aC (aA 10) aB)) aB)))) (aC (aA 7) aB)))))))))))))))))))))
def Pn:AA D->AA D->AB (Sl×AA D):=fM 16 zei
theorem zje (zau:FD P w K mg base 1 "_law_fixed" (aY K 1 iM))(zaA:FD P w K mg base 1 "_law_floor_sums" (aY K 1 Aa))(zdB:FD P w K mg base 2 "_law_order" (eM K 3 Nm))(zak:FD P w K mg base 1 "_law_take" (eM K 2 cW))(h:FnAt K "_law_crossed" zgL):FD P w K mg base 3 "_law_crossed" (eM K 1 Pn):=
 Ag (N:=["pot","rows","columns","numbers","size","ones","others","cells","at","least","greatest","tight","more","beside","r","c"]) (k:=2) (m:=zei) X G h λ_ _ _ _ _ _ _ hr nd=>(aN (bL 1 (cF aL (dA 0 zak hr (aD aL aG) (dB (aP bB)))) nd)
  (aN (bL 2 (cF aL (dA 0 zak hr (aD aL aG) (dB (aP bB)))) nd)
  (aN (znP 3 [2, 0] 1 1 0 ["columns", "pot", "r"] rfl (gI bn.range' (aD (aE 1) aG)) (λC s H fp => (aW 2 cQ)) (λC s H fp => eK) (λC s H fp => (SO.se (Uj [1] 1 0 1 ["pot", "c"] rfl (gI bn.range' (aD (aE 0) aG)) (λC s H fp => (aW 1 cQ)) (λC s H fp => eK) (λC s H fp => (eI (dA 0 zak hr (aD aL aG) (dB (aP bB))) aL))))) nd)
  (aN (bL 4 (We rfl bn.min' (aD (aE 1) (aD (aE 2) aG))) nd)
  (aN (bL 5 (dA 0 zdB hr (aD (aE 1) (aD (aE 4) aG)) (dB (aP (aP bB)))) nd)
  (aN (bL 6 (dA 0 zdB hr (aD (aE 2) (aD (aE 4) aG)) (dB (aP (aP bB)))) nd)
  (aN (iB 7 (fK aG) nd)
  (aN (eY eP rfl (gI bn.range' (aD (aE 4) aG)) (aW 8 nd)
  (aN (gW 7 (cA (aD (aR 5 (aE 8)) (aD (aR 6 (aE 8)) aG))))
  (aU (gW 7 (cA (aD (aR 5 (jH (cF (aE 8) aL) (aE 4))) (aD (aR 6 (aE 8)) aG)))))))
  (aN (bL 7 (cF (aE 7) (SO.se (fK (aD (cA (aD (aR 5 aL) (aD (aR 6 aL) aG))) (aD (cA (aD (aR 5 aL) (aD (aR 6 aL) aG))) (aD (cA (aD (aR 5 aL) (aD (aR 6 aL) aG))) (aD (cA (aD (aR 5 aL) (aD (aR 6 aL) aG))) aG))))))) nd)
  (aN (Mv 9 [] 1 ["row"] rfl (fE (aE 3)) (λC s H fp => (aW 0 cQ)) (λC s H fp => eK) (λC s H fp => (iJ [] 1 ["number"] rfl (fE (aE 0)) (λC s H fp => (aW 0 cQ)) (λC s H fp => eK) (λC s H fp => (eI (aE 0) aL)))) nd)
  (aN (Mv 10 [] 1 ["row"] rfl (fE (aE 3)) (λC s H fp => (aW 0 cQ)) (λC s H fp => eK) (λC s H fp => (iJ [] 1 ["number"] rfl (fE (aE 0)) (λC s H fp => (aW 0 cQ)) (λC s H fp => eK) (λC s H fp => (cF (aE 0) aL)))) nd)
  (aN (zn9 11 [5, 6] 1 ["ones", "others", "cell"] rfl (fE (aE 7)) (λC s H fp => (aW 2 cQ)) (λC s H fp => (zpE (lZ hr.units (aE 2) (cA (aD (aR 0 aL) (aD (aR 1 aL) aG)))))) (λC s H fp => (aE 2)) nd)
  (aN (bL 12 (eS (cA (aD aL (aD (kL aL) aG))) (dA 0 zak hr (aD aL aG) (dB (aP bB)))) nd)
  (aN (bL 13 (aR 11 (dA 0 zak hr (aD (fG 11 bn.len') aG) (dB (aP bB)))) nd)
  (aN (eY eP rfl (fE (aE 11)) (eV rfl (bQ (aW 14 nd) (bQ (aW 15 nd) eZ)))
  (aN (tY 9 (cF (eS (aR 3 (aE 14)) (aE 15)) (fO (aE 12) (sN bn.int' (aD (Mr hr.units (cA (aD (aE 14) (aD (aE 15) aG))) (aE 13)) aG)))) (cE 14) (cE 15))
  (aU (tY 10 (mF 9 (cE 14) (cE 15)) (cE 14) (cE 15)))))
  (aU (Fe 9 (Fe 10 (cO (cA (aD (cA (aD (bW zaA hr (aD (aE 3) aG) (AO:=(aP bB))) (aD (bW zau hr (aD (aE 9) aG) (AO:=(aP bB))) (aD (bW zau hr (aD (aE 10) aG) (AO:=(aP bB))) aG)))) (aD (aE 7) aG))))))))))))))))))))))
abbrev So:Stmt:=cK 54
def Wh:MS:=
 (aF (cN 6 (aT (aC (aA 7) (aC (aA 8) aB))))
  (dH (aQ (m2 cV (aA 7) (eC (.str "floor"))))
  (aF (cN 6 (aT (aC (aA 7) (aC (cU Tv 2 (aC (aA 8) aB)) aB))))
  (cN 6 (aT (aC (aA 7) (aC (bU Uv (aC (aA 8) (aC (cU cW 2 (aC (aA 5) aB)) aB))) aB)))))
  (cN 6 (aT (aC (aA 7) (aC (cU Pt 2 (aC (aA 8) (aC (aA 5) (aC (mC bS (aC (m2 cG (aI 3 (eC (.int 1))) (eC (.int 0))) aB)) aB)))) aB))))))
def zmX:MS:=
 bR (bV (cU Rl 2 (aC (aA 3) aB))) (gT 2 (bI (gN 7) (bI (gN 8) eA))) Wh
def zmT:MS:=
 (dH (aQ (m2 fB (bU tF (aC (aA 3) (aC (aT (aC (aA 7) (aC (mC fX (aC (aA 8) aB)) aB))) aB))) (aA 10)))
  (bA (eC (.bl false)))
  dS)
def zk3:MS:=
 (aF (aO 9 (cZ (oC cL (aC (aA 8) aB))))
  (aF (aO 10 (bU tF (aC (aA 3) (aC (aT (aC (aA 7) (aC (aA 8) aB))) aB))))
  (aF (dH (fT (Bj (aQ (eIsI "bool" (aA 10)))) (fT (aQ (m2 fB (aA 10) (bU zQ (aC (aA 3) (aC (aT (aC (aA 7) (aC (aA 8) aB))) aB))))) (aQ (m2 fB (cZ (oC cL (aC (aA 8) aB))) (aA 9)))))
  (bA (eC (.bl false)))
  dS)
  zmT)))
def zmQ:MS:=
 bR (bV (aA 6)) (gT 2 (bI (gN 7) (bI (gN 8) eA))) zk3
def zmO:MS:=
 (aF (aO 3 (cU Rw 2 (aC (eC (.int 6)) aB)))
  (aF (aO 5 (mC bS (aC (aI 3 (eC (.int 1))) aB)))
  (aF (fW 6 (bT aB))
  (aF zmX
  zmQ))))
def zmK:MS:=
 (aF (fW 2 (qJ Pz (aC (aA 1) aB)))
  (aF (iH (cU Pn 2 aB) (gT 2 (bI (gN 3) (bI (gN 4) eA))))
  (aF (dH (aQ (m2 fB (bU tF (aC (aA 3) (aC (aT (aC (eC (.str "tour")) (aC (aA 4) aB))) aB))) (bU zQ (aC (aA 3) (aC (aT (aC (eC (.str "tour")) (aC (aA 4) aB))) aB)))))
  (bA (eC (.bl false)))
  dS)
  zmO)))
def zmH:MS:=
 bR (bV (m2 aV (dP (aA 0) kB (gL (eC (.int 5)))) (cZ (bT (aC (eC (.int 0)) aB))))) (gN 1) zmK
def sZ:MS:=
 (aF zmH
  (bA (eC (.bl true))))
def Du:AA D->AB Sl:=fP 11 sZ
theorem Li (zcm:FD P w K mg base 2 "_law_bent_cells" (eM K 4 Pt))(zbR:FD P w K mg base 2 "_law_bent_numbers" (eM K 2 Tv))(zdS:FD P w K mg base 3 "_law_crossed" (eM K 1 Pn))(zgn:FD P w K mg base 1 "_law_deal" (aY K 1 Pz))(zfe:FD P w K mg base 3 "_law_floor" (eM K 2 Rw))(zbE:FD P w K mg base 4 "_law_floor_told" (aY K 2 zQ))(zep:FD P w K mg base 6 "_law_papers" (eM K 2 Rl))(zee:FD P w K mg base 2 "_law_parted" (aY K 2 Uv))(zak:FD P w K mg base 1 "_law_take" (eM K 2 cW))(zb4:FD P w K mg base 5 "floor_right" (aY K 2 tF))(F:Fun K "law" "law" So f fd):FnOk P w K mg base jI 7 f fd ["script"] (aY K 1 Du):=
 lawP (N:=["script","cell","pot","floor","cells","rows","some","word","thing","kept","found"]) (k:=6) (n:=1) (m:=sZ) F λ_ _ _ _ _ _ _ hr nd=>(aN (eY eP rfl (fE (cF (jK (aE 0) lQ (iK aL)) (SO.se (fK (aD aL aG))))) (aW 1 nd)
  (aN (iB 2 (Bb zgn hr (aD (aE 1) aG) (AO := (aP bB))) nd)
  (aN (Gi (dA 2 zdS hr aG (dB bB)) (eV rfl (bQ (aW 3 nd) (bQ (aW 4 nd) eZ))))
  (aN (dY (lZ hr.units (bW zb4 hr (aD (aE 3) (aD (cA (aD jO (aD (aE 4) aG))) aG)) (AO := (aP (aP bB)))) (bW zbE hr (aD (aE 3) (aD (cA (aD jO (aD (aE 4) aG))) aG)) (AO := (aP (aP bB)))))
  (aU (cO kH))
  eD)
  (aN (bL 3 (dA 2 zfe hr (aD aL aG) (dB (aP bB))) nd)
  (aN (bL 5 (jD bn.len' (aD (aR 3 aL) aG)) nd)
  (aN (iB 6 (fK aG) nd)
  (aN (eY eP rfl (fE (dA 2 zep hr (aD (aE 3) aG) (dB (aP bB)))) (eV rfl (bQ (aW 7 nd) (bQ (aW 8 nd) eZ)))
  (aN (gW 6 (cA (aD (aE 7) (aD (aE 8) aG))))
  (aU (dY (gX hr.units (aE 7) jO)
  (aN (gW 6 (cA (aD (aE 7) (aD (dA 2 zbR hr (aD (aE 8) aG) (dB (aP bB))) aG))))
  (aU (gW 6 (cA (aD (aE 7) (aD (bW zee hr (aD (aE 8) (aD (dA 2 zak hr (aD (aE 5) aG) (dB (aP bB))) aG)) (AO:=(aP (aP bB)))) aG))))))
  (aU (gW 6 (cA (aD (aE 7) (aD (dA 2 zcm hr (aD (aE 8) (aD (aE 5) (aD (jD bn.len' (aD (eS (aR 3 aL) aL) aG)) aG))) (dB (aP (aP (aP bB))))) aG)))))))))
  (aU (eY eP rfl (fE (aE 6)) (eV rfl (bQ (aW 7 nd) (bQ (aW 8 nd) eZ)))
  (aN (bL 9 (SO.se (uY bn.list' (aD (aE 8) aG))) nd)
  (aN (bL 10 (bW zb4 hr (aD (aE 3) (aD (cA (aD (aE 7) (aD (aE 8) aG))) aG)) (AO := (aP (aP bB)))) nd)
  (aN (dY (STw.st (uJ (Kv (Wd (Ie "bool" bn.isinstance' bn.bool' (by decide +kernel) (aE 10)))) (uJ (lZ hr.units (aE 10) (bW zbE hr (aD (aE 3) (aD (cA (aD (aE 7) (aD (aE 8) aG))) aG)) (AO := (aP (aP bB))))) (Jw (lZ hr.units (SO.se (uY bn.list' (aD (aE 8) aG))) (aE 9))))))
  (aU (cO kH))
  eD)
  (aU (dY (lZ hr.units (bW zb4 hr (aD (aE 3) (aD (cA (aD (aE 7) (aD (kS bn.tuple' (aD (aE 8) aG)) aG))) aG)) (AO := (aP (aP bB)))) (aE 10))
  (aU (cO kH))
  eD)))))))))))))))
  (aU (cO kH)))
end
set_option maxHeartbeats 0 in
theorem Kj {l:W.OpenLaw}{w:World}{K:AF}{h:AK}{mg:Str->AB AC}{fa:AD}(X:K.In h)(G:h.Ns AL mg)(hfa:mg "law"=some (.ref fa))(h1:FnAt K "square_sums" zg9)(h2:FnAt K "floor_sums" zhR)(h3:FnAt K "row_within" zhu)(h4:FnAt K "rows_within" zgZ)(h5:FnAt K "in_tuples" zir)(h6:FnAt K "floor_holds" zg5)(h7:FnAt K "is_cell" zjP)(h8:FnAt K "cells_of" zjr)(h9:FnAt K "cell_sign" ziy)(h10:FnAt K "balance_of" zhs)(h11:FnAt K "plain_numbers" zft)(h12:FnAt K "shifted_row" zhc)(h13:FnAt K "shifted_numbers" zeb)(h14:FnAt K "cell_ties" ziw)(h15:FnAt K "floor_ties" zhP)(h16:FnAt K "greatest_shifts" zdZ)(h17:FnAt K "falling_loop" zgv)(h18:FnAt K "floor_shifts" zgJ)(h19:FnAt K "tour_of" zj5)(h20:FnAt K "fitted_floor" zgh)(h21:FnAt K "is_step" zjW)(h22:FnAt K "is_tour" zj1)(h23:FnAt K "tour_counts" zg1)(h24:FnAt K "greatest_in_row" zd9)(h25:FnAt K "greatest_balance" zdO)(h26:FnAt K "tour_right" zhr)(h27:FnAt K "floor_right" zgX)(h28:FnAt K "_law_deal" zit)(h29:FnAt K "_law_take" ziz)(h30:FnAt K "_law_floor_sums" zd8)(h31:FnAt K "_law_fixed" zhz)(h32:FnAt K "_law_bent_floor" zd3)(h33:FnAt K "_law_floor" zhU)(h34:FnAt K "_law_floor_fits" zdX)(h35:FnAt K "_law_sign" zij)(h36:FnAt K "_law_plain" zhv)(h37:FnAt K "_law_balance" zgp)(h38:FnAt K "_law_is_tour" zfT)(h39:FnAt K "_law_often" zh1)(h40:FnAt K "_law_most_balance" zdl)(h41:FnAt K "_law_floor_told" zd1)(h42:FnAt K "_law_unlike" zg0)(h43:FnAt K "_law_tour" zim)(h44:FnAt K "_law_order" zh4)(h45:FnAt K "_law_papers" zg7)(h46:FnAt K "_law_bent_cells" zdW)(h47:FnAt K "_law_bent_numbers" zc7)(h48:FnAt K "_law_parted" zg8)(h49:FnAt K "_law_crossed" zgL)(h50:FnAt K "law" So)(z0:W.nsIn K AL "all"=some none)(z1:W.nsIn K AL "bool"=some none)(z2:W.nsIn K AL "enumerate"=some none)(z3:W.nsIn K AL "int"=some none)(z4:W.nsIn K AL "isinstance"=some none)(z5:W.nsIn K AL "len"=some none)(z6:W.nsIn K AL "list"=some none)(z7:W.nsIn K AL "max"=some none)(z8:W.nsIn K AL "min"=some none)(z9:W.nsIn K AL "range"=some none)(z10:W.nsIn K AL "sum"=some none)(z11:W.nsIn K AL "tuple"=some none)(z12:W.nsIn K AL "zip"=some none):
  ∃fd:FuncData,(∀(s:AE) (v:AC),BindsTo s fd ⟨[v],[]⟩ [("script",v)])/\∀base:AK,K.In base->base.Ns AL mg->FnOk l.prog w K mg base jI 7 fa fd ["script"] (aY K 1 Du):=by
 have bn:BN K mg:=⟨lO X G z0,lO X G z1,lO X G z2,lO X G z3,lO X G z4,lO X G z5,lO X G z6,lO X G z7,lO X G z8,lO X G z9,lO X G z10,lO X G z11,lO X G z12⟩;obtain⟨a,b,c,d,e,f,T⟩:=h50.law X G hfa;refine⟨W.fnOf "law" "law" (zf8 So) (zcN So) (zaT So) .none a b c d e f,λs v=> .of_eq rfl,λbase _ _=>?_⟩;have zes:=zjE (P:=l.prog) (w:=w) (base:=base) X G bn h1;have zfq:=zkv (P:=l.prog) (w:=w) (base:=base) X G bn zes h2;have ze9:=zkq (P:=l.prog) (w:=w) (base:=base) X G bn h3;have zen:=zjy (P:=l.prog) (w:=w) (base:=base) X G bn ze9 h4;have zgu:=zlC (P:=l.prog) (w:=w) (base:=base) X G bn h5;have zeg:=zjI (P:=l.prog) (w:=w) (base:=base) X G bn zfq zen h6;have zia:=znS (P:=l.prog) (w:=w) (base:=base) X G bn h7;have zhq:=zmg (P:=l.prog) (w:=w) (base:=base) X G bn h8;have zaV:=zlJ (P:=l.prog) (w:=w) (base:=base) X G bn h9;have zfr:=zkH (P:=l.prog) (w:=w) (base:=base) X G bn zaV h10;have zaL:=ziD (P:=l.prog) (w:=w) (base:=base) X G bn zgu h11;have zem:=zjG (P:=l.prog) (w:=w) (base:=base) X G bn zaV h12;have zcj:=zhY (P:=l.prog) (w:=w) (base:=base) X G bn zem h13;have zgA:=zlW (P:=l.prog) (w:=w) (base:=base) X G bn zaV h14;have zfd:=zkK (P:=l.prog) (w:=w) (base:=base) X G bn zgA zhq zaL h15;have zcn:=zhM (P:=l.prog) (w:=w) (base:=base) X G bn h16;have zdG:=ziR (P:=l.prog) (w:=w) (base:=base) X G bn h17;have zdE:=ziS (P:=l.prog) (w:=w) (base:=base) X G bn zfd zcn h18;have zie:=znL (P:=l.prog) (w:=w) (base:=base) X G bn h19;have zdJ:=zjs (P:=l.prog) (w:=w) (base:=base) X G bn zdG zdE zaL zcj zie h20;have zif:=zns (P:=l.prog) (w:=w) (base:=base) X G bn h21;have zh5:=znC (P:=l.prog) (w:=w) (base:=base) X G bn zia zif h22;have zek:=zjK (P:=l.prog) (w:=w) (base:=base) X G bn zaV h23;have zck:=zhV (P:=l.prog) (w:=w) (base:=base) X G bn h24;have zca:=zhe (P:=l.prog) (w:=w) (base:=base) X G bn zck zek h25;have zfj:=zkr (P:=l.prog) (w:=w) (base:=base) X G bn zfr zca zh5 zaL h26;have zb4:=zjF (P:=l.prog) (w:=w) (base:=base) X G bn zeg zfj h27;have zgn:=zlT (P:=l.prog) (w:=w) (base:=base) X G bn h28;have zak:=zlG (P:=l.prog) (w:=w) (base:=base) X G bn h29;have zaA:=zhJ (P:=l.prog) (w:=w) (base:=base) X G bn h30;have zau:=zkA (P:=l.prog) (w:=w) (base:=base) X G bn h31;have zco:=zhO (P:=l.prog) (w:=w) (base:=base) X G bn zau zaA zak h32;have zfe:=zkM (P:=l.prog) (w:=w) (base:=base) X G bn zco zak h33;have zcq:=zhQ (P:=l.prog) (w:=w) (base:=base) X G bn zaA h34;have za2:=zlL (P:=l.prog) (w:=w) (base:=base) X G bn h35;have zbL:=zkk (P:=l.prog) (w:=w) (base:=base) X G bn h36;have zdM:=zjl (P:=l.prog) (w:=w) (base:=base) X G bn za2 h37;have zdR:=zjh (P:=l.prog) (w:=w) (base:=base) X G bn h38;have zfn:=zks (P:=l.prog) (w:=w) (base:=base) X G bn za2 h39;have zbV:=zgS (P:=l.prog) (w:=w) (base:=base) X G bn zfn h40;have zbE:=zhE (P:=l.prog) (w:=w) (base:=base) X G bn zdM zcq zdR zbV zbL h41;have zcO:=zjN (P:=l.prog) (w:=w) (base:=base) X G bn zak h42;have zd4:=zly (P:=l.prog) (w:=w) (base:=base) X G bn zak zcO h43
 have zdB:=zkX (P:=l.prog) (w:=w) (base:=base) X G bn zak h44;have zep:=zjD (P:=l.prog) (w:=w) (base:=base) X G bn zau zbL zak zd4 zdJ h45;have zcm:=zhX (P:=l.prog) (w:=w) (base:=base) X G bn zak h46;have zbR:=zgT (P:=l.prog) (w:=w) (base:=base) X G bn zau zak h47;have zee:=zjH (P:=l.prog) (w:=w) (base:=base) X G bn zau za2 h48;have zdS:=zje (P:=l.prog) (w:=w) (base:=base) X G bn zau zaA zdB zak h49;exact Li X G bn zcm zbR zdS zgn zfe zbE zep zee zak zb4 T
theorem walk {l:W.OpenLaw}{q:AJ}{loose:AA Str}{XP:(Str->AB AC)->AK->Prop}{YP:World->AK->Prop}{d:DefRec}{K:Params->AF}(hn:l.most=some 63)(hdf:d.params.defaults=[])(hm:∀ns:AA Int,ns.length<=63->Du [.scr ns]=some (.val (.bl true)))(hY:∀(w:World) (h:AK),YP w h->(K w.params).In h)(F : ∀ (w : World) (mg : Str -> AB AC) (fa : AD) (h : AK), (K w.params).In h -> h.Ns AL mg -> mg d.name = some (.ref fa) ->
   ∃fd:FuncData,(∀(s:AE) (u:AC),BindsTo s fd ⟨[u],[]⟩ [("script",u)])/\∀base:AK,(K w.params).In base->base.Ns AL mg->FnOk l.prog w (K w.params) mg base jI 7 fa fd ["script"] (aY (K w.params) 1 Du)):
  W.WalkO q loose XP YP l.row.toRowW d [] (λf vs=>PySem.call f vs):=
 L2.zS (n:=63) (k:=7) (x:="script") (CX:=λ_=>jI) (sp:=λw=>aY (K w.params) 1 Du) hn (by decide) hdf ⟨rfl,by decide,by decide,rfl⟩ hY F
  (λw H a ns hl _ hS=>⟨H,[.scr ns],.val (.bl true),hm ns hl,rfl,Fz.refl H,.cons ⟨a,rfl,hS⟩ .nil,λ_ _ _ _ _ _ _ rr=>rr⟩) λ_ _ _ _ _ z=>z
end Prf
set_option exponentiation.threshold 5000
namespace Prf
open L2 M PySem
variable {i j t s n v a c m r b k:Nat}{q ts qs W:Nat->Nat}{d:Nat->AB Int}{u:Nat->AB Nat}{y:D}{f e S L G g:Nat->Nat->Int}{h:Nat->Int}{x:Int}{ds X:AA D}{p:Nat×Nat}{Q:AA D×R->Prop}{ps:AA (Int×Int)}{l:AA Int}{rs:AA (AA Int)}{w:Str}{cs:AA (Nat×Nat)}
def kD (m t j q:Nat):Nat:=if q<j then t*m+q+1 else t*m+q+1-m
def jX {α:Type}(f:Nat->α)(i:Nat)(x:α):Nat->α:=λj=>if j=i then x else f j
theorem jZ {α:Type}(f:Nat->α)(i:Nat)(x:α):jX f i x i=x:=if_pos rfl
theorem fY {α:Type}(f:Nat->α)(x:α)(h:j≠i):jX f i x j=f j:=if_neg h
section
variable {m n:Nat}{tl tu:Nat->Nat}{ta:Nat->Int}
def iZ (tl tu:Nat->Nat)(ta:Nat->Int)(d:Nat->AB Int)(q:Nat):Prop:=∀y,d (tu q)=some y->∃x,d (tl q)=some x/\x<=y+ta q
structure BI (m:Nat)(tl tu:Nat->Nat)(ta:Nat->Int)(s t j:Nat)(d:Nat->Option Int)(u:Nat->Option Nat)(ts:Nat->Nat):Prop where
 le:∀v,ts v<=t*m+j
 st:∃x,d s=some x
 inj:∀v w,0<ts v->ts v=ts w->v=w
 un:∀l,0<ts l->∃q,q<m/\tl q=l/\u l=some (tu q)/\∃x y,d l=some x/\d (tu q)=some y/\y+ta q<=x/\(ts l<ts (tu q)->y+ta q<x)/\(m<ts l->ts l+1<=ts (tu q)+m)
 ck:∀q,q<m->0<kD m t j q->kD m t j q<ts (tu q)\/iZ tl tu ta d q
theorem zkO {t j q:Nat}(h:q≠j):kD m t (j+1) q=kD m t j q:=by
 unfold kD
 by_cases z:q<j
 ·rw[if_pos z,if_pos (by lia)]
 ·rw[if_neg z,if_neg (by lia)]
theorem Fn {t j q:Nat}(hq:q<m):kD m t j q<=t*m+j:=by
 unfold kD
 split<;>lia
theorem BI.keep (b:BI m tl tu ta s t j d u ts)(k:iZ tl tu ta d j):BI m tl tu ta s t (j+1) d u ts where
 le:=λv=>by have:=b.le v;lia
 st:=b.st
 inj:=b.inj
 un:=b.un
 ck:=λq hq h=>by
  by_cases e:q=j
  ·subst e;exact .inr k
  ·rw[zkO e]at h ⊢;exact b.ck q hq h
theorem BI.change {s t j:Nat}(b:BI m tl tu ta s t j d u ts)(hj:j<m)(ne:tl j≠tu j){y:Int}(hy:d (tu j)=some y)(hx:∀x,d (tl j)=some x->y+ta j<x):
  BI m tl tu ta s t (j+1) (jX d (tl j) (some (y+ta j))) (jX u (tl j) (some (tu j))) (jX ts (tl j) (t*m+j+1)) where
 le:=λv=>by
  by_cases e:v=tl j
  ·rw[e,jZ];lia
  ·rw[fY _ _ e];have:=b.le v;lia
 st:=by
  obtain⟨x,h⟩:=b.st
  by_cases e:s=tl j
  ·exact⟨_,by rw[e,jZ]⟩
  ·exact⟨x,by rw[fY _ _ e];exact h⟩
 inj:=λv w h e=>by
  have lv:=b.le v;have lw:=b.le w
  by_cases ev:v=tl j
  ·by_cases ew:w=tl j
   ·rw[ev,ew]
   ·rw[ev,jZ,fY _ _ ew]at e;lia
  ·by_cases ew:w=tl j
   ·rw[ew,jZ,fY _ _ ev]at e;lia
   ·rw[fY _ _ ev]at h e;rw[fY _ _ ew]at e;exact b.inj v w h e
 un:=λl h=>by
  by_cases e:l=tl j
  ·subst e;refine⟨j,hj,rfl,jZ _ _ _,y+ta j,y,jZ _ _ _,by rw[fY _ _ ne.symm];exact hy,Int.le_refl _,λz=>?_,λz=>?_⟩
   ·rw[jZ,fY _ _ ne.symm]at z;have:=b.le (tu j);lia
   ·rw[jZ]at z ⊢;rw[fY _ _ ne.symm];have e1:kD m t j j=t*m+j+1-m:=by unfold kD;rw[if_neg (by lia)]
    rcases b.ck j hj (by rw[e1];lia)with c|c
    ·rw[e1]at c;lia
    ·obtain⟨x,h1,h2⟩:=c y hy;have:=hx x h1;lia
  ·rw[fY _ _ e]at h;obtain⟨q,hq,eq,eu,x,y',h1,h2,h3,h4,h5⟩:=b.un l h;refine⟨q,hq,eq,by rw[fY _ _ e];exact eu,?_⟩
   by_cases z:tu q=tl j
   ·have lt:=hx y' (by rw[<-z];exact h2);refine⟨x,y+ta j,by rw[fY _ _ e];exact h1,by rw[z,jZ],by lia,λ_=>by lia,λg=>?_⟩;rw[fY _ _ e]at g ⊢;have:=h5 g;have:=b.le (tu q);rw[z,jZ];lia
   ·refine⟨x,y',by rw[fY _ _ e];exact h1,by rw[fY _ _ z];exact h2,h3,λg=>?_,λg=>?_⟩
    ·rw[fY _ _ e,fY _ _ z]at g;exact h4 g
    ·rw[fY _ _ e]at g ⊢;rw[fY _ _ z];exact h5 g
 ck:=λq hq h=>by
  by_cases z:tu q=tl j
  ·by_cases e:q=j
   ·subst e;exact AH z.symm ne
   ·left
    rw[zkO e,z,jZ];have:=Fn (t:=t) (j:=j) hq;lia
  ·have sat:iZ tl tu ta d q->iZ tl tu ta (jX d (tl j) (some (y+ta j))) q:=λk y' hy'=>by
    rw[fY _ _ z]at hy';obtain⟨x,h1,h2⟩:=k y' hy'
    by_cases g:tl q=tl j
    ·refine⟨y+ta j,by rw[g,jZ],?_⟩;have:=hx x (by rw[<-g];exact h1);lia
    ·exact⟨x,by rw[fY _ _ g];exact h1,h2⟩
   by_cases e:q=j
   ·subst e
    right
    intro y' hy';rw[fY _ _ z,hy]at hy';cases hy';exact⟨_,jZ _ _ _,Int.le_refl _⟩
   ·rw[zkO e]at h ⊢;rw[fY _ _ z];exact(b.ck q hq h).imp id sat
theorem BI.turn (b:BI m tl tu ta s t m d u ts):BI m tl tu ta s (t+1) 0 d u ts where
 le:=λv=>by have:=b.le v;rw[Nat.add_mul];lia
 st:=b.st
 inj:=b.inj
 un:=b.un
 ck:=λq hq h=>by
  have e:kD m (t+1) 0 q=kD m t m q:=by
   unfold kD;rw[if_neg (by lia),if_pos hq,Nat.add_mul];lia
  rw[e]at h ⊢;exact b.ck q hq h
theorem BI.start:BI m tl tu ta s 0 0 (λv=>if v=s then some 0 else none) (λ_=>none) (λ_=>0) where
 le:=λv=>by lia
 st:=⟨0,if_pos rfl⟩
 inj:=λv w h=>by lia
 un:=λl h=>by lia
 ck:=λq hq h=>by
  unfold kD at h;rw[if_neg (by lia)]at h;lia
theorem BI.kept (b:BI m tl tu ta s (t+1) 0 d u ts)(h:∀v,ts v<=t*m){q:Nat}(hq:q<m):iZ tl tu ta d q:=by
 have e:kD m (t+1) 0 q=t*m+q+1:=by unfold kD;rw[if_neg (by lia),Nat.add_mul];lia
 rcases b.ck q hq (by lia)with c|c
 ·have:=h (tu q);lia
 ·exact c
end
def back (u:Nat->AB Nat)(l:Nat):Nat->Nat
 |0=>l
 |i+1=>(u (back u l i)).getD 0
theorem tN (u:Nat->AB Nat)(l i:Nat):∀j,back u (back u l i) j=back u l (i+j)
 |0=>rfl
 |j+1=>by
  show(u (back u (back u l i) j)).getD 0=(u (back u l (i+j))).getD 0;rw[tN u l i j]
theorem Ia:∀(c:Nat) (ks:AA Nat),ks.Nodup->(∀x,x∈ks->x<c)->ks.length<=c
 |0,[],_,_=>by simp
 |0,x::ks,_,h=>by have:=h x (by simp);lia
 |c+1,ks,nd,h=>by
  by_cases q:c∈ks
  ·have ih:=Ia c (ks.erase c) (nd.erase _) λx hx=>by
    have hm:=(nd.mem_erase_iff).mp hx;have:=h x hm.2;have:=hm.1;lia
   rw[List.length_erase_of_mem q]at ih;lia
  ·have:=Ia c ks nd λx hx=>by
    have:=h x hx;have:x≠c:=λz=>q (z ▸ hx)
    lia
   lia
theorem pN {f:Nat->Nat}(h:∀i,i<=n->f i<n):∃i j,i<j/\j<=n/\f i=f j:=by
 apply Classical.byContradiction;intro no;have nd:((List.range (n+1)).map f).Nodup:=by
  rw[List.nodup_iff_pairwise_ne,List.pairwise_map];refine(List.Pairwise.and_mem.mp List.pairwise_lt_range).imp λ{a b} hh e=>no ⟨a,b,hh.2.2,?_,e⟩
  have:=qah.mp hh.2.1;lia
 have:=Ia n _ nd λx hx=>by
  obtain⟨i,hi,rfl⟩:=qb1.mp hx;exact h i (by have:=qah.mp hi;lia)
 rw[cY,List.length_range]at this;lia
section
variable {m n:Nat}{tl tu:Nat->Nat}{ta:Nat->Int}{s:Nat}{d:Nat->AB Int}{u:Nat->AB Nat}{ts:Nat->Nat}{l:Nat}
theorem BI.next (b:BI m tl tu ta s n 0 d u ts)(h:0<ts v):∃q,q<m/\tl q=v/\tu q=(u v).getD 0:=by
 obtain⟨q,hq,e,eu,_⟩:=b.un v h;exact⟨q,hq,e,by rw[eu];rfl⟩
theorem BI.live (b:BI m tl tu ta s (n+1) 0 d u ts)(h:n*m<ts l):∀i,i<=n->n*m+1<=ts (back u l i)+i*(m-1)
 |0,_=>by show n*m+1<=ts l+0*(m-1);lia
 |i+1,hi=>by
  have ih:=BI.live b h i (by lia);have m1:1<=m:=by
   obtain⟨q,hq,_⟩:=b.un l (by lia);lia
  obtain⟨m',rfl⟩:∃m',m=m'+1:=⟨m-1,by lia⟩;obtain⟨n',rfl⟩:∃n',n=n'+1:=⟨n-1,by lia⟩;rw[Nat.add_sub_cancel]at ih ⊢;have le:i*m'<=n'*m':=qcO _ (by lia);have e1:(n'+1)*(m'+1)=n'*m'+m'+n'+1:=by rw[Nat.add_mul,Nat.mul_add];lia
  obtain⟨q,hq,e,eu,x,y,_,_,_,_,h5⟩:=b.un (back u l i) (by lia);have h6:=h5 (by lia);have e2:back u l (i+1)=tu q:=by show(u (back u l i)).getD 0=_;rw[eu];rfl
  have e3:(i+1)*m'=i*m'+m':=Ou i m';rw[e2];lia
theorem BI.all (b:BI m tl tu ta s (n+1) 0 d u ts)(h:n*m<ts l)(hl:∀q,q<m->tl q<n+1)(hu:∀q,q<m->tu q<n+1):
  (∀t,0<ts (back u l t))/\∃p,1<=p/\p<=n+1/\back u l (n+1+p)=back u l (n+1):=by
 have pos:∀i,i<=n->0<ts (back u l i):=λi hi=>by
  have:=b.live h i hi;have m1:1<=m:=by
   obtain⟨q,hq,_⟩:=b.un l (by lia);lia
  obtain⟨m',rfl⟩:∃m',m=m'+1:=⟨m-1,by lia⟩;rw[Nat.add_sub_cancel]at this;have le:i*m'<=n*m':=qcO _ hi;rw[Nat.mul_add]at this;lia
 have lt:∀i,i<=n+1->back u l i<n+1:=λi hi=>by
  cases i with
  |zero=>
   obtain⟨q,hq,e,_⟩:=b.next (pos 0 (by lia));have:=hl q hq;rw[e]at this;exact this
  |succ i=>
   obtain⟨q,hq,_,e⟩:=b.next (pos i (by lia));have:=hu q hq;rw[e]at this;exact this
 obtain⟨i,j,hij,hj,e⟩:=pN lt;have per:∀t,back u l (i+t)=back u l (j+t):=λt=>by rw[<-tN,<-tN,e]
 refine⟨λt=>?_,j-i,by lia,by lia,?_⟩
 ·induction t using Nat.strongRecOn with
  |_ t ih=>
   by_cases z:t<j
   ·exact pos t (by lia)
   ·have:=per (t-j);rw[show j+(t-j)=t by lia]at this;rw[<-this];exact ih _ (by lia)
 ·have:=per (n+1-i);rw[show i+(n+1-i)=n+1 by lia,show j+(n+1-i)=n+1+(j-i) by lia]at this;exact this.symm
theorem vF {P:Nat->Prop}:∀p,P p->∃c,P c/\c<=p/\∀i,i<c->¬P i:=by
 intro p
 induction p using Nat.strongRecOn with
 |_ p ih=>
  intro h
  by_cases z:∃i,i<p/\P i
  ·obtain⟨i,hi,hP⟩:=z;obtain⟨c,h1,h2,h3⟩:=ih i hi hP;exact⟨c,h1,by lia,h3⟩
  ·exact⟨p,h,bZ p,λi hi hP=>z ⟨i,hi,hP⟩⟩
structure Round (m:Nat)(tl tu:Nat->Nat)(ta:Nat->Int)(u:Nat->Option Nat)(a c:Nat)(qs:Nat->Nat):Prop where
 pos:1<=c
 home:back u a c=a
 first:∀i,1<=i->i<c->back u a i≠a
 tie:∀i,i<c->qs i<m/\tl (qs i)=back u a i/\tu (qs i)=back u a (i+1)
 neg:bH c (λi=>ta (qs i))<0
theorem Round.apart (r:Round m tl tu ta u a c qs)(hij:i<j)(hj:j<c):back u a i≠back u a j:=λe=>by
 have h1:=tN u a i (c-j);have h2:=tN u a j (c-j);rw[show j+(c-j)=c by lia,r.home]at h2;rw[e,h2]at h1;exact r.first (i+(c-j)) (by lia) (by lia) h1.symm
theorem BI.round (b:BI m tl tu ta s (n+1) 0 d u ts)(h:n*m<ts l)(hl:∀q,q<m->tl q<n+1)(hu:∀q,q<m->tu q<n+1)(ne:∀q,q<m->tl q≠tu q):
  ∃c qs,c<=n+1/\Round m tl tu ta u (back u l (n+1)) c qs:=by
 obtain⟨pos,p,p1,p2,ep⟩:=b.all h hl hu;obtain⟨c,⟨c1,ec⟩,cp,cm⟩:=vF (P:=λc=>1<=c/\back u l (n+1+c)=back u l (n+1)) p ⟨p1,ep⟩;have pos':∀i,0<ts (back u (back u l (n+1)) i):=λi=>by rw[tN];exact pos _
 have un:∀i,∃q,q<m/\tl q=back u (back u l (n+1)) i/\tu q=back u (back u l (n+1)) (i+1)/\∃x y,d (back u (back u l (n+1)) i)=some x/\d (back u (back u l (n+1)) (i+1))=some y/\y+ta q<=x/\(ts (back u (back u l (n+1)) i)<ts (back u (back u l (n+1)) (i+1))->y+ta q<x):=λi=>by
  obtain⟨q,hq,e,eu,x,y,h1,h2,h3,h4,_⟩:=b.un _ (pos' i);have e2:back u (back u l (n+1)) (i+1)=tu q:=by show(u (back u (back u l (n+1)) i)).getD 0=_;rw[eu];rfl
  rw[e2];exact⟨q,hq,e,rfl,x,y,h1,h2,h3,h4⟩
 let a:=back u l (n+1)
 let qs:Nat->Nat:=λi=>(un i).choose
 have sp:=λi=>(un i).choose_spec
 have home:back u a c=a:=by show back u (back u l (n+1)) c=_;rw[tN];exact ec
 refine⟨c,qs,by lia,c1,home,λi i1 ic e=>cm i ic ⟨i1,by rw[<-tN];exact e⟩,λi _=>⟨(sp i).1,(sp i).2.1,(sp i).2.2.1⟩,?_⟩
 let x:Nat->Int:=λi=>(d (back u a i)).getD 0
 have step:∀i,x (i+1)+ta (qs i)<=x i/\(ts (back u a i)<ts (back u a (i+1))->x (i+1)+ta (qs i)<x i):=λi=>by
  obtain⟨_,_,_,X,Y,h1,h2,h3,h4⟩:=sp i;have e1:x i=X:=by show(d (back u (back u l (n+1)) i)).getD 0=X;rw[h1];rfl
  have e2:x (i+1)=Y:=by show(d (back u (back u l (n+1)) (i+1))).getD 0=Y;rw[h2];rfl
  rw[e1,e2];exact⟨h3,h4⟩
 obtain⟨i0,hi0,lt⟩:∃i,i<c/\ts (back u a i)<ts (back u a (i+1)):=by
  apply Classical.byContradiction;intro no;have dec:∀i,i<=c->ts (back u a i)<=ts a:=by
   intro i
   induction i with
   |zero=>intro _;exact bZ _
   |succ i ih=>
    intro hi;have:=ih (by lia);have:¬ts (back u a i)<ts (back u a (i+1)):=λz=>no ⟨i,by lia,z⟩
    lia
  have inc:∀i,i<=c->ts a<=ts (back u a (c-i)):=by
   intro i
   induction i with
   |zero=>intro _;rw[Nat.sub_zero,home];exact bZ _
   |succ i ih=>
    intro hi;have h1:=ih (by lia);have h2:¬ts (back u a (c-(i+1)))<ts (back u a (c-(i+1)+1)):=λz=>no ⟨_,by lia,z⟩
    rw[show c-(i+1)+1=c-i by lia]at h2;lia
  have h1:=inc (c-1) (by lia);rw[show c-(c-1)=1 by lia]at h1;have h2:=dec 1 c1;have e:=b.inj (back u a 1) a (pos' 1) (by lia);obtain⟨q1,q2,q3,_⟩:=sp 0;exact ne (qs 0) q1 (by rw[show tl (qs 0)=a from q2,show tu (qs 0)=back u a 1 from q3,e])
 have tele:∀i,bH i (λj=>ta (qs j))<=x 0-x i/\(i0<i->bH i (λj=>ta (qs j))<x 0-x i):=by
  intro i
  induction i with
  |zero=>exact⟨by show(0:Int)<=_;lia,λz=>by lia⟩
  |succ i ih=>
   have st:=step i;have e:bH (i+1) (λj=>ta (qs j))=bH i (λj=>ta (qs j))+ta (qs i):=rfl;rw[e];refine⟨by lia,λz=>?_⟩
   by_cases g:i0<i
   ·have:=ih.2 g;lia
   ·have:i=i0:=by lia
    subst this;have:=st.2 lt;lia
 have:=(tele c).2 hi0;have e0:x c=x 0:=by show(d (back u a c)).getD 0=(d a).getD 0;rw[home]
 lia
end
def dO:AB Int->D
 |none=> .non
 |some x=> .int x
def uO:AB Nat->D
 |none=> .non
 |some v=> .int (v:Nat)
theorem Pj:dO none= .non:=rfl
theorem Rp (x:Int):dO (some x)= .int x:=rfl
def jG (m:Nat)(tl tu:Nat->Nat)(ta:Nat->Int):AA D:=wL m λq=> .tup [.int (tl q:Nat),.int (tu q:Nat),.int (ta q)]
theorem zo3 (f:Nat->D)(x:D)(h:i<n):(wL n f).set i x=wL n (jX f i x):=by
 apply lH;intro j;rw[iG]
 by_cases e:i=j
 ·subst e;rw[if_pos rfl,if_pos (by rw[dI];exact h),aZ _ h,jZ]
 ·rw[if_neg e]
  by_cases hj:j<n
  ·rw[aZ _ hj,aZ _ hj,fY _ _ (Ne.symm e)]
  ·rw[eO (by rw[dI];lia),eO (by rw[dI];lia)]
theorem Ho (d:Nat->AB Int)(i:Nat)(x:Int):jX (λv=>dO (d v)) i (.int x)=λv=>dO (jX d i (some x) v):=by
 funext v
 unfold jX
 split<;>rfl
theorem Eg (d:Nat->AB Nat)(i x:Nat):jX (λv=>uO (d v)) i (.int (x:Nat))=λv=>uO (jX d i (some x) v):=by
 funext v
 unfold jX
 split<;>rfl
theorem Dy (n:Nat)(x:D):(List.replicate n [x]).flatten=wL n λ_=>x:=by
 induction n with
 |zero=>rfl
 |succ n ih=>rw[List.replicate_succ',List.flatten_append,ih,gE];rfl
section
variable {m n:Nat}{tl tu:Nat->Nat}{ta:Nat->Int}{s:Nat}
def Ed (m n:Nat)(tl tu:Nat->Nat)(ta:Nat->Int)(s:Nat)(d:Nat->AB Int)(u:Nat->AB Nat)(f:AB Nat):Prop:=
 ∃ts,BI m tl tu ta s n 0 d u ts/\((f=none/\∀v,ts v<=(n-1)*m)\/∃l,f=some l/\(n-1)*m<ts l)
theorem zoW (n1:1<=n)(n9:n<=1000)(hs:s<n)(hl:∀q,q<m->tl q<n)(hu:∀q,q<m->tu q<n)(ne:∀q,q<m->tl q≠tu q):
  Ok (Pp [.lst (jG m tl tu ta),.int n,.int s]) λx=>∃d u f,Ed m n tl tu ta s d u f/\x= .val (.tup [.lst (wL n λv=>dO (d v)),.lst (wL n λv=>uO (u v)),uO f]):=by
 have e0:jX (λ_=>D.non) s (.int 0)=λv=>dO ((λv=>if v=s then some 0 else none) v):=by
  funext v
  unfold jX
  (try dsimp only)
  split<;>rfl
 simp![↓Pp,↓zcx,Dy,↓zdk];rw[zo3 _ _ hs,e0];have sm:uA (n:Int)=true:=gB (by lia) (by lia);refine⟨⟨sm,by lia⟩,hs,⟨sm,by lia⟩,sm,fN (λt ρ=>∃(d:Nat->AB Int) (u:Nat->AB Nat) (f:AB Nat) (ts:Nat->Nat) (s6 s7 s8 s9:Sl),BI m tl tu ta s t 0 d u ts/\((f=none/\∀v,ts v<=(t-1)*m)\/∃l,f=some l/\(t-1)*m<ts l)/\ρ=[.val (.lst (jG m tl tu ta)),.val (.int n),.val (.int s),.own (wL n λv=>dO (d v)),.own (wL n λv=>uO (u v)),.val (uO f),s6,s7,s8,s9]) ⟨_,λ_=>none,none,λ_=>0,_,_,_,_,BI.start,.inl ⟨rfl,λv=>jR _⟩,rfl⟩ ?_ ?_⟩
 ·rintro t _ ht ⟨d,u,f,ts,s6,s7,s8,s9,b,-,rfl⟩;simp![↓zdr,↓zdu,jG];refine fN (λj ρ=>∃(d:Nat->AB Int) (u:Nat->AB Nat) (f:AB Nat) (ts:Nat->Nat) (s7 s8 s9:Sl),BI m tl tu ta s t j d u ts/\((f=none/\∀v,ts v<=t*m)\/∃l,f=some l/\t*m<ts l)/\ρ=[.val (.lst (jG m tl tu ta)),.val (.int n),.val (.int s),.own (wL n λv=>dO (d v)),.own (wL n λv=>uO (u v)),.val (uO f),.val (.int t),s7,s8,s9]) ⟨d,u,none,ts,_,_,_,b,.inl ⟨rfl,λv=>by have:=b.le v;lia⟩,rfl⟩ ?_ ?_
  ·rintro j _ hj ⟨d,u,f,ts,s7,s8,s9,b,hf,rfl⟩;have a1:=hl j hj;have a2:=hu j hj;simp![↓zdi,aZ _ a1,aZ _ a2];cases hy:d (tu j)with
   |none=>
    have k:iZ tl tu ta d j:=λy e=>by rw[hy]at e;cases e
    simp![Pj];exact⟨d,u,f,ts,_,_,_,b.keep k,hf,rfl⟩
   |some y=>
    have chg:(∀x,d (tl j)=some x->y+ta j<x)->∃(d':Nat->AB Int) (u':Nat->AB Nat) (f':AB Nat) (ts':Nat->Nat) (s7 s8 s9:Sl),BI m tl tu ta s t (j+1) d' u' ts'/\((f'=none/\∀v,ts' v<=t*m)\/∃l,f'=some l/\t*m<ts' l)/\[Sl.val (.lst (wL m λq=> .tup [.int (tl q:Nat),.int (tu q:Nat),.int (ta q)])),.val (.int n),.val (.int s),.own ((wL n λv=>dO (d v)).set (tl j) (.int (y+ta j))),.own ((wL n λv=>uO (u v)).set (tl j) (.int (tu j:Nat))),.val (.int (tl j:Nat)),.val (.int t),.val (.int (tl j:Nat)),.val (.int (tu j:Nat)),.val (.int (ta j))]=[.val (.lst (jG m tl tu ta)),.val (.int n),.val (.int s),.own (wL n λv=>dO (d' v)),.own (wL n λv=>uO (u' v)),.val (uO f'),.val (.int t),s7,s8,s9]:=λhx=>by
     rw[zo3 _ _ a1,zo3 _ _ a1,Ho,Eg];exact⟨_,_,some (tl j),_,.val (.int (tl j:Nat)),.val (.int (tu j:Nat)),.val (.int (ta j)),b.change hj (ne j hj) hy hx,.inr ⟨tl j,rfl,by rw[jZ];lia⟩,rfl⟩
    cases hx:d (tl j)with
    |none=>
     simp![Pj,Rp,aZ _ a2,hy,a1,if_true];exact chg λx e=>by rw[hx]at e;cases e
    |some x=>
     simp![Rp,aZ _ a2,aZ _ a1,hy,hx,a1,if_true];exact⟨λz=>chg λx' e=>by rw[hx]at e;cases e;exact z,λz=>⟨d,u,f,ts,_,_,_,b.keep λy' e=>by rw[hy]at e;cases e;exact⟨x,hx,z⟩,hf,rfl⟩⟩
  ·rintro _ ⟨d,u,f,ts,s7,s8,s9,b,hf,rfl⟩;simp![];exact⟨d,u,f,ts,_,_,_,_,b.turn,by simpa using hf,rfl⟩
 ·rintro _ ⟨d,u,f,ts,s6,s7,s8,s9,b,hf,rfl⟩;simp![];cases f with
  |none=>simp![uO];exact⟨d,u,none,⟨ts,b,hf⟩,rfl⟩
  |some l=>simp![uO];exact⟨d,u,some l,⟨ts,b,hf⟩,rfl⟩
end
theorem zog (i:Nat)(f:Nat->D):atI (wL (i+1) f) (-1)=some (f i):=by
 unfold atI cB;rw[if_neg (by lia),dI,if_pos (by lia)];show(wL (i+1) f)[(((i+1:Nat):Int)+ -1).toNat]? =_;rw[show(((i+1:Nat):Int)+ -1).toNat=i by lia,aZ _ (by lia)]
section
variable {m n:Nat}{tl tu:Nat->Nat}{ta:Nat->Int}{s:Nat}{d:Nat->AB Int}{u:Nat->AB Nat}{ts:Nat->Nat}{l:Nat}
theorem uM (b:BI m tl tu ta s (n+1) 0 d u ts)(h:n*m<ts l)(n9:n<=300)(hl:∀q,q<m->tl q<n+1)(hu:∀q,q<m->tu q<n+1)(ne:∀q,q<m->tl q≠tu q):
  Ok (Qs [.lst (wL (n+1) λv=>uO (u v)),.int l]) λx=>∃c qs,c<=n+1/\Round m tl tu ta u (back u l (n+1)) c qs/\x= .own (wI c λi=>((back u (back u l (n+1)) i:Nat):Int)):=by
 obtain⟨c,qs,cn,R⟩:=b.round h hl hu ne;obtain⟨pos,-⟩:=b.all h hl hu;have nx:∀t,back u l t<n+1/\uO (u (back u l t))= .int ((back u l (t+1):Nat):Int):=λt=>by
  obtain⟨q,hq,e,eu,_⟩:=b.un _ (pos t);refine⟨by rw[<-e];exact hl q hq,?_⟩;show uO (u (back u l t))= .int (((u (back u l t)).getD 0:Nat):Int);rw[eu]
  rfl
 have sm:uA ((n+1:Nat):Int)=true:=gB (by lia) (by lia);simp![↓Qs,↓zeo,↓zeY];refine⟨sm,fN (λt ρ=>∃s3,ρ=[.val (.lst (wL (n+1) λv=>uO (u v))),.val (.int l),.val (.int (back u l t:Nat)),s3,.emp]) ⟨_,rfl⟩ ?_ ?_⟩
 ·rintro t _ ht ⟨s3,rfl⟩;simp![↓ze4,aZ _ (nx t).1,(nx t).2];exact⟨_,rfl⟩
 ·rintro _ ⟨s3,rfl⟩;simp![↓ze0];have nx':∀i,back u (back u l (n+1)) i<n+1/\uO (u (back u (back u l (n+1)) i))= .int ((back u (back u l (n+1)) (i+1):Nat):Int):=λi=>by
   rw[tN,tN];exact nx _
  generalize back u l (n+1)=a at R nx'
  have last:∀i,atI (wI (i+1) λi=>((back u a i:Nat):Int)) (-1)=some (.int (back u a i:Nat)):=λi=>by
   rw[zog i]
  refine znf (λk ρ=>∃i,i<c/\k=c-1-i/\ρ=[.val (.lst (wL (n+1) λv=>uO (u v))),.val (.int l),.val (.int (a:Nat)),s3,.own (wI (i+1) λi=>((back u a i:Nat):Int))]) ?_ 400 (c-1) _ (by lia) ⟨0,R.pos,by lia,rfl⟩;rintro k _ ⟨i,hi,rfl,rfl⟩;simp![↓ze2,last,aZ _ (nx' i).1,(nx' i).2];refine⟨λz=>⟨c-1-(i+1),?_,?_⟩,λz=>⟨c,qs,cn,R,?_⟩⟩
  ·have:i+1≠c:=λe=>z (by rw[e,R.home])
   lia
  ·have:i+1≠c:=λe=>z (by rw[e,R.home])
   have ew:(wI (i+1) λi=>((back u a i:Nat):Int))++[D.int (back u a (i+1):Nat)]=wI (i+1+1) λi=>((back u a i:Nat):Int):=(gE _ _).symm
   simp![↓zeX,last,aZ _ (nx' i).1,(nx' i).2,ew];exact⟨by lia,i+1,by lia,rfl,rfl⟩
  ·have:i+1=c:=by
    by_cases e:i+1=c
    ·exact e
    ·exact AH (by lia) (R.first (i+1) (by lia) (by lia))
   rw[this]
end
abbrev tT (R C:Nat)(f:Nat->Nat->Int):D:= .tup (wL R λr=> .tup (wI C (f r)))
abbrev tL (R C:Nat)(f:Nat->Nat->Int):D:= .lst (wL R λr=> .lst (wI C (f r)))
def four (f:Nat->Nat->Int)(r c:Nat):Int:=f r c+f r (c+1)+f (r+1) c+f (r+1) (c+1)
theorem i4 (a b c d:Int):hU [.int a,.int b,.int c,.int d]=some [a,b,c,d]:=rfl
section
variable {R C:Nat}{f:Nat->Nat->Int}
theorem zml (d:D)(hd:d=tT (R+1) (C+1) f\/d=tL (R+1) (C+1) f)(hR:R<=100)(hC:C<=100):Ok (Aa [d]) λx=>x= .val (tT R C (four f)):=by
 have e1:(((R+1:Nat):Int)-1).toNat=R:=by lia
 have e2:(((C+1:Nat):Int)-1).toNat=C:=by lia
 rcases hd with rfl|rfl<;>
 ·simp![↓Aa,↓zcM,↓zds,e1];refine⟨gB (by lia) (by lia),fN (λi ρ=>∃s2 s3 s4 s5,ρ=[.val _,.own (wL i λr=> .tup (wI C (four f r))),s2,s3,s4,s5]) ⟨_,_,_,_,rfl⟩ ?_ ?_⟩
  ·rintro i _ hi ⟨s2,s3,s4,s5,rfl⟩;simp![↓zc5,↓zdj,aZ _ (show 0<R+1 by lia),e2];refine⟨gB (by lia) (by lia),fN (λj ρ=>∃s4 s5,ρ=[.val _,.own (wL i λr=> .tup (wI C (four f r))),.val (.int i),.own (wI j (four f i)),s4,s5]) ⟨_,_,rfl⟩ ?_ ?_⟩
   ·rintro j _ hj ⟨s4,s5,rfl⟩;have a1:(i:Int)+1=((i+1:Nat):Int):=by lia
    have a2:(j:Int)+1=((j+1:Nat):Int):=by lia
    simp![↓zdt,a1,a2,aZ _ (show i<R+1 by lia),aZ _ (show i+1<R+1 by lia),aZ _ (show j<C+1 by lia),aZ _ (show j+1<C+1 by lia)];simp![i4];exact⟨by lia,_,_,by rw[show wI (j+1) (four f i)=_ from gE _ _,show[f i j,f i (j+1),f (i+1) j,f (i+1) (j+1)].sum=four f i j by simp[four];lia]⟩
   ·rintro _ ⟨s4,s5,rfl⟩;simp![];exact⟨by lia,_,_,_,_,by rw[gE]⟩
  ·rintro _ ⟨s2,s3,s4,s5,rfl⟩;simp![]
def Pv (s a:Nat->Int):Nat->Int
 |0=>0
 |c+1=>s c-a c-a (c+1)-Pv s a c
def cT (S:Nat->Nat->Int):Nat->Nat->Int
 |0=>λ_=>0
 |r+1=>Pv (S r) (cT S r)
theorem zlq (hn:n<=1000)(hm:m<=1000):Ok (Of [tL n m f]) λx=>x= .val (tT n m f):=by
 simp![↓Of,↓zhn,↓zha];refine⟨by lia,gP (λρ=>∃s,ρ=[s]) (λr=> .tup (wI m (f r))) ⟨_,rfl⟩ ?_ ?_⟩
 ·rintro i _ hi ⟨s,rfl⟩;simp![↓zg3];exact⟨_,rfl⟩
 ·rintro _ ⟨s,rfl⟩;simp![]
theorem Mt (hn:n<=1000)(hm:m<=1000):Ok (iM [tL n m f]) λx=>x= .val (tT n m f):=by
 simp![↓iM,↓Vk,↓zdD];refine⟨by lia,gP (λρ=>∃s,ρ=[s]) (λr=> .tup (wI m (f r))) ⟨_,rfl⟩ ?_ ?_⟩
 ·rintro i _ hi ⟨s,rfl⟩;simp![↓zdU];exact⟨_,rfl⟩
 ·rintro _ ⟨s,rfl⟩;simp![]
abbrev cP (R C:Nat)(S L G:Nat->Nat->Int):D:= .tup [tT R C S,tT (R+1) (C+1) L,tT (R+1) (C+1) G]
theorem zmf (n:Nat)(x:D):(List.replicate n [x]).flatten=wL n λ_=>x:=by
 induction n with
 |zero=>rfl
 |succ n ih=>rw[List.replicate_succ',List.flatten_append,ih,gE];simp
variable {S L G:Nat->Nat->Int}
theorem zlK (g:Nat->D):atI (wL (n+1) g) (-1)=some (g n):=zpG g
theorem zky (hR:R<=100)(hC:C<=100):Ok (vH [cP R C S L G]) λx=>x= .val (tT (R+1) (C+1) (cT S)):=by
 simp![↓vH,↓Zy,aZ _ (show 0<R+1 by lia)];have e0:([D.int 0]::List.replicate C [D.int 0]).flatten=wI (C+1) (cT S 0):=by rw[<-mE];exact zmf _ _
 simp![↓zd7];refine⟨⟨⟨by lia,by lia⟩,by lia⟩,fN (λi ρ=>∃s2 s3 s4 s5 s6,ρ=[.val (cP R C S L G),.own (wL (i+1) λr=> .lst (wI (C+1) (cT S r))),s2,s3,s4,s5,s6]) ⟨.emp,.emp,.emp,.emp,.emp,by rw[e0];rfl⟩ ?_ ?_⟩
 ·rintro i _ hi ⟨s2,s3,s4,s5,s6,rfl⟩;simp![↓zea,zlK,↓zd5,xE];refine fN (λj ρ=>∃s5 s6,ρ=[.val (cP R C S L G),.own (wL (i+1) λr=> .lst (wI (C+1) (cT S r))),.val (.tup (wI C (S i))),.val (.lst (wI (C+1) (cT S i))),.own (wI (j+1) (cT S (i+1))),s5,s6]) ⟨_,_,rfl⟩ ?_ ?_
  ·rintro j _ hj ⟨s5,s6,rfl⟩;have a2:(j:Int)+1=((j+1:Nat):Int):=by lia
   simp![↓zdY,a2,aZ _ (show j<C+1 by lia),aZ _ (show j+1<C+1 by lia),aZ _ (show j<j+1 by lia)];exact⟨by lia,_,_,by rw[show wI (j+1+1) (cT S (i+1))=_ from gE _ _];rfl⟩
  ·rintro _ ⟨s5,s6,rfl⟩;simp![];exact⟨by lia,_,_,_,_,_,by rw[gE (i+1)]⟩
 ·rintro _ ⟨s2,s3,s4,s5,s6,rfl⟩;simp![];refine(zlq (by lia) (by lia)).mono ?_;rintro _ rfl;simp![]
end
def sg (r c:Nat):Int:=if(r+c)%2=0 then 1 else-1
theorem Xn (r c:Nat):Ok (qT [.int (r:Nat),.int (c:Nat)]) λx=>x= .val (.int (sg r c)):=by
 have e:((r:Int)+(c:Int))%2=(((r+c)%2:Nat):Int):=by lia
 simp![↓qT,↓zhj,e];unfold sg;refine⟨λh=>by rw[if_pos (by lia)],λh=>by rw[if_neg (by lia)]⟩
section
variable {R C:Nat}{S L G f:Nat->Nat->Int}{h:Nat->Int}
def Gh (R:Nat)(f:Nat->Nat->Int)(h:Nat->Int)(r c:Nat):Int:=f r c+sg r c*(h r-h (R+c))
theorem Jq (x:Int):Bg (sg r c) x=true:=kJ (by unfold sg;split<;>decide)
theorem pM {r:Nat}(a:Int)(b:Nat->Int)(g:Nat->Int)(hC:C<=1000):Ok (Tw [.tup (wI C g),.int (r:Nat),.int a,.lst (wI C b)]) λx=>x= .val (.tup (wI C λc=>g c+sg r c*(a-b c))):=by
 simp![↓Tw,↓zfp,↓zfG,xE];refine⟨by lia,gP (λρ=>∃s t,ρ=[.val (.int (r:Nat)),.val (.int a),.val (.lst (wI C b)),s,t]) (λc=> .int (g c+sg r c*(a-b c))) ⟨_,_,rfl⟩ ?_ ?_⟩
 ·rintro i _ hi ⟨s,t,rfl⟩;simp![↓zfu];refine(Xn r i).mono ?_;rintro _ rfl;simp![aZ _ hi];exact⟨Jq _,_,_,rfl⟩
 ·rintro _ ⟨s,t,rfl⟩;simp![]
theorem rK (hR:R<=100)(hC:C<=100):Ok (Pq [tT R C f,.lst (wI (R+C) h)]) λx=>x= .val (tT R C (Gh R f h)):=by
 have ec:bD (wI (R+C) h) (some (R:Int)) none=wI C λc=>h (R+c):=by
  rw[show bD (wI (R+C) h) (some (R:Int)) none=(wI (R+C) h).drop R from Qq _ R];apply lH;intro i;rw[List.getElem?_drop]
  by_cases hi:i<C
  ·rw[aZ _ hi,aZ _ (show R+i<R+C by lia)]
  ·rw[eO (by rw[dI];lia),eO (by rw[dI];lia)]
 simp![↓Pq,↓zcK,↓zdg,xE,ec];refine⟨by lia,gP (λρ=>∃s t,ρ=[.val (.lst (wI (R+C) h)),.val (.lst (wI C λc=>h (R+c))),s,t]) (λr=> .tup (wI C (Gh R f h r))) ⟨_,_,rfl⟩ ?_ ?_⟩
 ·rintro i _ hi ⟨s,t,rfl⟩;simp![↓zde,aZ _ (show i<R+C by lia)];refine(pM _ _ _ (by lia)).mono ?_;rintro _ rfl;simp![];exact⟨rfl,_,_,rfl⟩
 ·rintro _ ⟨s,t,rfl⟩;simp![]
end
theorem En (a b:Nat)(f:Nat->D):wL (a+b) f=wL a f++wL b λi=>f (a+i):=by
 induction b with
 |zero=>simp[wL]
 |succ b ih=>rw[<-Nat.add_assoc,gE,ih,gE,qK]
def jB (a b q:Nat):Nat:=if q%2=0 then q/2/b else a+q/2%b
def jF (a b q:Nat):Nat:=if q%2=0 then a+q/2%b else q/2/b
def up (P G:Nat->Nat->Int)(r c:Nat):Int:=G r c-P r c
def dn (P L:Nat->Nat->Int)(r c:Nat):Int:=P r c-L r c
def rB (b:Nat)(P L G:Nat->Nat->Int)(q:Nat):Int:=if q%2=0 then(if sg (q/2/b) (q/2%b)=1 then up P G (q/2/b) (q/2%b)else dn P L (q/2/b) (q/2%b))else(if sg (q/2/b) (q/2%b)=1 then dn P L (q/2/b) (q/2%b)else up P G (q/2/b) (q/2%b))
section
variable {R C:Nat}{S L G f:Nat->Nat->Int}
theorem dm (h:c<b):(i*b+c)/b=i/\(i*b+c)%b=c:=by
 have b0:0<b:=by lia
 constructor
 ·rw[Nl,Nat.mul_add_div b0,Nat.div_eq_of_lt h,Nat.add_zero]
 ·rw[Nl,Nat.mul_add_mod,Yp h]
theorem nF (hR:R<=50)(hC:C<=50):Ok (Rv [tT (R+1) (C+1) f]) λx=>x= .own (wL ((R+1)*(C+1)) λk=> .tup [.int ((k/(C+1):Nat):Int),.int ((k%(C+1):Nat):Int)]):=by
 simp![↓Rv,↓Zo,↓zhA];refine⟨gB (by lia) (by lia),fN (λi ρ=>∃s2,ρ=[.val (tT (R+1) (C+1) f),.own (wL (i*(C+1)) λk=> .tup [.int ((k/(C+1):Nat):Int),.int ((k%(C+1):Nat):Int)]),s2]) ⟨_,by rw[Nat.zero_mul];rfl⟩ ?_ ?_⟩
 ·rintro i _ hi ⟨s2,rfl⟩;simp![↓zhZ,↓zhw,aZ _ (show 0<R+1 by lia)];refine⟨gB (by lia) (by lia),by lia,gP (λρ=>∃z,ρ=[.val (.int (i:Nat)),z]) (λc=> .tup [.int (i:Nat),.int (c:Nat)]) ⟨_,rfl⟩ ?_ ?_⟩
  ·rintro c _ hc ⟨z,rfl⟩;simp![↓zh2];exact⟨_,rfl⟩
  rintro _ ⟨z,rfl⟩;simp![];have bd:i*(C+1)<=51*51:=Nat.mul_le_mul (by lia) (by lia);refine⟨by lia,.val (.int (i:Nat)),?_⟩;have e:(wL ((i+1)*(C+1)) λk=>D.tup [.int ((k/(C+1):Nat):Int),.int ((k%(C+1):Nat):Int)])=(wL (i*(C+1)) λk=>D.tup [.int ((k/(C+1):Nat):Int),.int ((k%(C+1):Nat):Int)])++wL (C+1) λc=> .tup [.int (i:Nat),.int (c:Nat)]:=by
   rw[show(i+1)*(C+1)=i*(C+1)+(C+1)from Ou i (C+1),En (i*(C+1)) (C+1)];congr 1;exact kX λc hc=>by(try dsimp only);rw[(dm hc).1,(dm hc).2]
  rw[e]
 ·rintro _ ⟨s2,rfl⟩;simp![]
theorem wQ {r c:Nat}(hr:r<R+1)(hc:c<C+1):Ok (Qd [cP R C S L G,tT (R+1) (C+1) f,.int (r:Nat),.int (c:Nat)]) λx=>x= .own [.tup [.int (r:Nat),.int ((R+1+c:Nat):Int),.int (if sg r c=1 then up f G r c else dn f L r c)],.tup [.int ((R+1+c:Nat):Int),.int (r:Nat),.int (if sg r c=1 then dn f L r c else up f G r c)]]:=by
 have e2:((R+1:Nat):Int)+(c:Int)=((R+1+c:Nat):Int):=by lia
 simp![↓Qd,↓Zt,e2,aZ _ hr,aZ _ hc];refine(Xn r c).mono ?_;rintro _ rfl;simp![];refine⟨λz=>?_,λz=>?_⟩
 ·rw[if_pos z,if_pos z];rfl
 ·simp![↓zhb];rw[if_neg z,if_neg z];rfl
theorem yQ (hR:R<=50)(hC:C<=50):Ok (Sn [cP R C S L G]) λx=>x= .own (jG (2*((R+1)*(C+1))) (jB (R+1) (C+1)) (jF (R+1) (C+1)) (rB (C+1) (cT S) L G)):=by
 simp![↓Sn,↓zf2];refine(zky (by lia) (by lia)).mono ?_;rintro _ rfl;simp![↓zgm];refine(nF hR hC).mono ?_;rintro _ rfl;obtain⟨N,hN⟩:∃N,N=(R+1)*(C+1):=⟨_,rfl⟩;have N9:N<=51*51:=by rw[hN];exact Nat.mul_le_mul (by lia) (by lia)
 rw[<-hN];simp![];refine fN (λi ρ=>∃s3 s4,ρ=[.val (cP R C S L G),.val (tT (R+1) (C+1) (cT S)),.own (jG (2*i) (jB (R+1) (C+1)) (jF (R+1) (C+1)) (rB (C+1) (cT S) L G)),s3,s4]) ⟨_,_,rfl⟩ ?_ ?_
 ·rintro k _ hk ⟨s3,s4,rfl⟩;have q1:k/(C+1)<R+1:=Nat.div_lt_of_lt_mul (by rw[Nl,<-hN];exact hk);have q2:k%(C+1)<C+1:=Dm _ (by lia);simp![↓zgd];refine(wQ q1 q2).mono ?_;rintro _ rfl;simp![jG,dI];refine⟨by lia,.val (.int ((k/(C+1):Nat):Int)),.val (.int ((k%(C+1):Nat):Int)),?_⟩;rw[show 2*(k+1)=2*k+1+1 by lia,gE (2*k+1),gE (2*k),qK];have a1:(2*k)%2=0:=by lia
  have a2:(2*k)/2=k:=by lia
  have a3:(2*k+1)%2≠0:=by lia
  have a4:(2*k+1)/2=k:=by lia
  have b1:jB (R+1) (C+1) (2*k)=k/(C+1):=by unfold jB;rw[if_pos a1,a2]
  have b2:jF (R+1) (C+1) (2*k)=R+1+k%(C+1):=by unfold jF;rw[if_pos a1,a2]
  have b3:jB (R+1) (C+1) (2*k+1)=R+1+k%(C+1):=by unfold jB;rw[if_neg a3,a4]
  have b4:jF (R+1) (C+1) (2*k+1)=k/(C+1):=by unfold jF;rw[if_neg a3,a4]
  have b5:rB (C+1) (cT S) L G (2*k)=if sg (k/(C+1)) (k%(C+1))=1 then up (cT S) G (k/(C+1)) (k%(C+1))else dn (cT S) L (k/(C+1)) (k%(C+1)):=by unfold rB;rw[if_pos a1,a2]
  have b6:rB (C+1) (cT S) L G (2*k+1)=if sg (k/(C+1)) (k%(C+1))=1 then dn (cT S) L (k/(C+1)) (k%(C+1))else up (cT S) G (k/(C+1)) (k%(C+1)):=by unfold rB;rw[if_neg a3,a4]
  rw[b1,b2,b3,b4,b5,b6]
  rfl
 ·rintro _ ⟨s3,s4,rfl⟩;simp![]
end
section
variable {R C:Nat}{S L G f:Nat->Nat->Int}
theorem Qe {a b q:Nat}(hb:0<b)(h:q<2*(a*b)):q/2/b<a/\q/2%b<b:=by
 have h1:q/2<a*b:=by lia
 exact⟨Nat.div_lt_of_lt_mul (by rw[Nl];exact h1),Dm _ hb⟩
theorem Ib {a b q:Nat}(hb:0<b)(h:q<2*(a*b)):jB a b q<a+b:=by
 have:=Qe hb h;unfold jB;split<;>lia
theorem Fp {a b q:Nat}(hb:0<b)(h:q<2*(a*b)):jF a b q<a+b:=by
 have:=Qe hb h;unfold jF;split<;>lia
theorem Qh {a b q:Nat}(hb:0<b)(h:q<2*(a*b)):jB a b q≠jF a b q:=by
 have:=Qe hb h;unfold jB jF;split<;>lia
theorem Kp (h0:h r<=h (R+1+c)+(if sg r c=1 then up f G r c else dn f L r c))(h1:h (R+1+c)<=h r+(if sg r c=1 then dn f L r c else up f G r c)):L r c<=Gh (R+1) f h r c/\Gh (R+1) f h r c<=G r c:=by
 unfold Gh;have:sg r c=1\/sg r c= -1:=by unfold sg;split<;>simp
 unfold up dn at h0 h1;rcases this with e|e
 ·rw[if_pos e]at h0 h1;rw[e];lia
 ·rw[if_neg (by lia)]at h0 h1;rw[e];lia
theorem Sf (hr:r<a)(hc:c<b):2*(r*b+c)+1<2*(a*b)/\jB a b (2*(r*b+c))=r/\jF a b (2*(r*b+c))=a+c/\jB a b (2*(r*b+c)+1)=a+c/\jF a b (2*(r*b+c)+1)=r:=by
 have a1:(2*(r*b+c))%2=0:=by lia
 have a2:(2*(r*b+c))/2=r*b+c:=by lia
 have a3:(2*(r*b+c)+1)%2≠0:=by lia
 have a4:(2*(r*b+c)+1)/2=r*b+c:=by lia
 have d:=dm (i:=r) hc;have lt:r*b+c<a*b:=by
  have:(r+1)*b<=a*b:=qcO b (by lia);rw[Ou]at this;lia
 unfold jB jF;rw[if_pos a1,if_pos a1,if_neg a3,if_neg a3,a2,a4,d.1,d.2];exact⟨by lia,rfl,rfl,rfl,rfl⟩
theorem Dx (hc:c<b):rB b f L G (2*(r*b+c))=(if sg r c=1 then up f G r c else dn f L r c)/\rB b f L G (2*(r*b+c)+1)=(if sg r c=1 then dn f L r c else up f G r c):=by
 have a1:(2*(r*b+c))%2=0:=by lia
 have a2:(2*(r*b+c))/2=r*b+c:=by lia
 have a3:(2*(r*b+c)+1)%2≠0:=by lia
 have a4:(2*(r*b+c)+1)/2=r*b+c:=by lia
 have d:=dm (i:=r) hc;unfold rB;rw[if_pos a1,if_neg a3,a2,a4,d.1,d.2];exact⟨rfl,rfl⟩
end
theorem rM (c1:1<=c)(f:Nat->Int)(h:f c=f 0):bD (wI c f) (some 1) none++bD (wI c f) none (some 1)=wI c λi=>f (i+1):=by
 obtain⟨e,rfl⟩:∃e,c=e+1:=⟨c-1,by lia⟩;rw[show bD (wI (e+1) f) (some 1) none=(wI (e+1) f).drop 1 from Qq _ 1,show bD (wI (e+1) f) none (some 1)=(wI (e+1) f).take 1 from Nj _ 1];rw[show wI (e+1) (λi=>f (i+1))=(wI e λi=>f (i+1))++[.int (f (e+1))]from gE _ _,h];have s:wI (e+1) f= .int (f 0)::wI e λi=>f (i+1):=by simp[wL,Sj,Nb]
 rw[s]
 rfl
section
variable {R C:Nat}{S L G f:Nat->Nat->Int}
def Ku (a:Nat)(W:Nat->Nat)(i:Nat):D:= .tup [.int (eT (W i) (W (i+1))),.int (dN (W i) (W (i+1))-(a:Int))]
theorem wW (c1:1<=c)(c9:c<=1000)(V:Nat->Nat)(h0:V c=V 0)(h1:V (c+1)=V 1):
  Ok (Qi [.lst (wI c λi=>(V i:Nat)),.int (a:Nat)]) λx=>∃W:Nat->Nat,(W=V/\V 0<a\/W=(λi=>V (i+1))/\a<=V 0)/\x= .own (wL c (Ku a W)):=by
 have e0:atI (wI c λi=>(V i:Nat)) 0=some (.int (V 0:Nat)):=by
  rw[show(0:Int)=((0:Nat):Int)from rfl,kW,aZ _ (show 0<c by lia)]
 have t1:=rM c1 (λi=>((V i:Nat):Int)) (by(try dsimp only);rw[h0]);have t2:=rM c1 (λi=>((V (i+1):Nat):Int)) (by(try dsimp only);rw[h1]);have fin:∀(W:Nat->Nat) (d0:D) (hW:(W=V/\V 0<a\/W=(λi=>V (i+1))/\a<=V 0)),Ok (zf0 [.val d0,.val (.int (a:Nat)),.val (.lst (wI c λi=>(W i:Nat))),.val (.lst (wI c λi=>(W (i+1):Nat)))]) λp=>p.1=wL c (Ku a W):=λW d0 hW=>by
  simp![↓zf0,Af];refine⟨by lia,gP (λρ=>∃y z,ρ=[.val (.int (a:Nat)),y,z]) (Ku a W) ⟨_,_,rfl⟩ ?_ ?_⟩
  ·rintro i _ hi ⟨y,z,rfl⟩;simp![↓ziv];exact⟨rfl,_,_,rfl⟩
  ·rintro _ ⟨y,z,rfl⟩
   rfl
 simp![↓Qi,↓zjx,aZ _ (show 0<c by lia)];have len:∀g:Nat->Int,g c=g 0->(bD (wI c g) (some 1) none).length+(bD (wI c g) none (some 1)).length<=16777216:=λg hg=>by rw[<-eB,rM c1 g hg,dI];lia
 refine⟨λz=>⟨len _ (by(try dsimp only);rw[h0]),?_⟩,λz=>⟨len _ (by(try dsimp only);rw[h0]),?_⟩⟩
 ·rw[t1];refine(fin V _ (.inl ⟨rfl,by lia⟩)).mono ?_;rintro⟨_,ρ⟩ rfl;simp![];exact⟨V,.inl ⟨rfl,by lia⟩,rfl⟩
 ·rw[t1];refine⟨len _ (by(try dsimp only);rw[h1]),?_⟩;rw[t2];refine(fin (λi=>V (i+1)) _ (.inr ⟨rfl,by lia⟩)).mono ?_;rintro⟨_,ρ⟩ rfl;simp![];exact⟨_,.inr ⟨rfl,by lia⟩,rfl⟩
end
theorem zlu (g:Nat->Int):∀c:Nat,bH c (λi=>g (i+1))+g 0=bH c g+g c
 |0=>rfl
 |c+1=>by
  have:=zlu g c;show bH c (λi=>g (i+1))+g (c+1)+g 0=bH c g+g c+g (c+1);lia
structure Tour (R C:Nat)(S L G:Nat->Nat->Int)(c:Nat)(W qs:Nat->Nat):Prop where
 pos:1<=c
 c9:c<=1000
 per:∀i,W (i+c)=W i
 row:W 0<R+1
 apart:∀i j,i<j->j<c->W i≠W j
 tie:∀i,qs i<2*((R+1)*(C+1))/\jB (R+1) (C+1) (qs i)=W i/\jF (R+1) (C+1) (qs i)=W (i+1)
 neg:bH c (λi=>rB (C+1) (cT S) L G (qs i))<0
def Po (R C:Nat)(L G:Nat->Nat->Int)(f:Nat->Nat->Int):Prop:=∀r c,r<R+1->c<C+1->L r c<=f r c/\f r c<=G r c
section
variable {R C:Nat}{S L G:Nat->Nat->Int}
theorem zoJ (hR:R<=20)(hC:C<=20):Ok (Tn [cP R C S L G]) λx=>(∃h,Po R C L G (Gh (R+1) (cT S) h)/\x= .val (.tup [.str "floor",tT (R+1) (C+1) (Gh (R+1) (cT S) h)]))\/∃c W qs,Tour R C S L G c W qs/\x= .val (.tup [.str "tour",.lst (wL c (Ku (R+1) W))]):=by
 have b0:0<C+1:=by lia
 obtain⟨n,hn⟩:∃n,n=R+C+1:=⟨_,rfl⟩;have en:((R+1:Nat):Int)+((C+1:Nat):Int)=((n+1:Nat):Int):=by lia
 simp![↓Tn,↓zeq,↓Xx,↓zec,aZ _ (show 0<R+1 by lia),en];refine(yQ (by lia) (by lia)).mono ?_;rintro _ rfl;obtain⟨m,hm⟩:∃m,m=2*((R+1)*(C+1)):=⟨_,rfl⟩;obtain⟨tl,htl⟩:∃tl,tl=jB (R+1) (C+1):=⟨_,rfl⟩;obtain⟨tu,htu⟩:∃tu,tu=jF (R+1) (C+1):=⟨_,rfl⟩;obtain⟨ta,hta⟩:∃ta,ta=rB (C+1) (cT S) L G:=⟨_,rfl⟩;have hl:∀q,q<m->tl q<n+1:=λq hq=>by rw[hm]at hq;have:=Ib b0 hq;rw[htl];lia
 have hu:∀q,q<m->tu q<n+1:=λq hq=>by rw[hm]at hq;have:=Fp b0 hq;rw[htu];lia
 have ne:∀q,q<m->tl q≠tu q:=λq hq=>by rw[hm]at hq;rw[htl,htu];exact Qh b0 hq
 rw[<-hm,<-htl,<-htu,<-hta];simp![aZ _ (show 0<R+1 by lia),en];refine(zoW (s:=0) (by lia) (by lia) (by lia) hl hu ne).mono ?_;rintro _ ⟨d,u,f,⟨us,b,hf⟩,rfl⟩;simp![];rcases hf with⟨rfl,h⟩|⟨l,rfl,h⟩
 ·have kept:∀q,q<m->iZ tl tu ta d q:=λq hq=>b.kept (t:=n) h hq
  have at0:∀r c,r<R+1->c<C+1->(∀y,d (R+1+c)=some y->∃x,d r=some x/\x<=y+(if sg r c=1 then up (cT S) G r c else dn (cT S) L r c))/\(∀y,d r=some y->∃x,d (R+1+c)=some x/\x<=y+(if sg r c=1 then dn (cT S) L r c else up (cT S) G r c)):=λr c hr hc=>by
   obtain⟨f1,f2,f3,f4,f5⟩:=Sf hr hc;have k0:=kept (2*(r*(C+1)+c)) (by rw[hm];lia);have k1:=kept (2*(r*(C+1)+c)+1) (by rw[hm];lia);obtain⟨g1,g2⟩:=Dx (f:=cT S) (L:=L) (G:=G) (r:=r) hc;unfold iZ at k0 k1;rw[htl,htu,hta]at k0 k1;rw[f2,f3,g1]at k0;rw[f4,f5,g2]at k1;exact⟨k0,k1⟩
  obtain⟨x0,hx0⟩:=b.st;have dc:∀c,c<C+1->∃x,d (R+1+c)=some x:=λc hc=>let⟨x,hx,_⟩:=(at0 0 c (by lia) hc).2 _ hx0;⟨x,hx⟩
  have dr:∀r,r<R+1->∃x,d r=some x:=λr hr=>by
   obtain⟨y,hy⟩:=dc 0 (by lia);obtain⟨x,hx,_⟩:=(at0 r 0 hr (by lia)).1 y hy;exact⟨x,hx⟩
  have dX:∀v,v<R+1+(C+1)->d v=some ((d v).getD 0):=λv hv=>by
   by_cases z:v<R+1
   ·obtain⟨x,hx⟩:=dr v z;rw[hx];rfl
   ·obtain⟨x,hx⟩:=dc (v-(R+1)) (by lia);rw[show R+1+(v-(R+1))=v by lia]at hx;rw[hx];rfl
  have el:(wL (n+1) λv=>dO (d v))=wI (R+1+(C+1)) λv=>(d v).getD 0:=by
   rw[show n+1=R+1+(C+1) by lia];exact kX λv hv=>by(try dsimp only);rw[dX v hv];rfl
  simp![uO,↓zeD];refine(zky (by lia) (by lia)).mono ?_;rintro _ rfl;simp![el];refine(rK (by lia) (by lia)).mono ?_;rintro _ rfl;simp![];refine .inl ⟨_,λr c hr hc=>?_,rfl⟩;obtain⟨a1,a2⟩:=at0 r c hr hc;have e1:=dX r (by lia);have e2:=dX (R+1+c) (by lia);obtain⟨x,hx,lx⟩:=a1 _ e2;obtain⟨y,hy,ly⟩:=a2 _ e1;rw[e1]at hx;cases hx;rw[e2]at hy;cases hy;exact Kp lx ly
 ·simp![uO];refine(uM b h (by lia) hl hu ne).mono ?_;rintro _ ⟨c,qs,c9,rd,rfl⟩;obtain⟨V,hV⟩:∃V:Nat->Nat,V=λi=>back u (back u l (n+1)) i:=⟨_,rfl⟩
  have per:∀i,V (i+c)=V i:=λi=>by
   rw[hV];show back u (back u l (n+1)) (i+c)=back u (back u l (n+1)) i;rw[Mb i c,<-tN,rd.home]
  have c1:=rd.pos;rw[show(wI c λi=>((back u (back u l (n+1)) i:Nat):Int))=wI c λi=>((V i:Nat):Int) by rw[hV]];simp![];refine(wW c1 (by lia) V (by have:=per 0;rwa[uD]at this) (by have:=per 1;rwa[Mb]at this)).mono ?_;rintro _ ⟨W,hW,rfl⟩;simp![];have mo:∀i,V (i%c)=V i:=λi=>by
   have h1:∀k j,V (j+k*c)=V j:=λk=>by
    induction k with
    |zero=>intro j;rw[Nat.zero_mul,Nat.add_zero]
    |succ k ih=>intro j;rw[Ou,<-Nat.add_assoc,per,ih]
   have:=h1 (i/c) (i%c);rw[Nl,Nat.mod_add_div]at this;exact this.symm
  have tie:∀i,qs (i%c)<m/\tl (qs (i%c))=V i/\tu (qs (i%c))=V (i+1):=λi=>by
   obtain⟨t1,t2,t3⟩:=rd.tie (i%c) (Dm _ c1);refine⟨t1,?_,?_⟩
   ·rw[t2,<-mo i,hV]
   ·rw[t3,<-mo (i+1),<-Nat.mod_add_mod,mo,hV]
  have ng:bH c (λi=>ta (qs (i%c)))<0:=by
   rw[Cy λi hi=>by rw[Yp hi]];exact rd.neg
  rcases hW with⟨rfl,r0⟩|⟨rfl,r0⟩
  ·refine .inr ⟨c,W,λi=>qs (i%c),⟨c1,by lia,per,r0,λi j hij hj=>by rw[hV];exact rd.apart hij hj,λi=>?_,by rw[<-hta];exact ng⟩,rfl⟩;have:=tie i;rw[hm,htl,htu]at this;exact this
  ·refine .inr ⟨c,λi=>V (i+1),λi=>qs ((i+1)%c),⟨c1,by lia,λi=>by(try dsimp only);rw[show i+c+1=i+1+c by lia,per],?_,λi j hij hj=>?_,λi=>?_,?_⟩,rfl⟩
   ·obtain⟨t1,t2,t3⟩:=tie 0;rw[hm]at t1;have q:=Qe b0 t1;rw[htl]at t2;rw[htu]at t3
    (try dsimp only)
    rw[uD]at t3;rw[uD,<-t3];unfold jB at t2;unfold jF
    split at t2
    ·rename_i z;rw[if_pos z];lia
    ·rename_i z;rw[if_neg z];exact q.1
   ·by_cases z:j+1<c
    ·rw[hV];exact rd.apart (by lia) z
    ·have e:j+1=0+c:=by lia
     (try dsimp only)
     rw[e,per];rw[hV];exact(rd.apart (by lia:0<i+1) (by lia)).symm
   ·have:=tie (i+1);rw[hm,htl,htu]at this;exact this
   ·rw[<-hta];have t:=zlu (λi=>ta (qs (i%c))) c;have e:(c:Nat)%c=0%c:=by rw[Nat.mod_self,Nat.zero_mod]
    (try dsimp only at t)
    rw[e]at t
    (try dsimp only)
    lia
end
def cr (W:Nat->Nat)(i:Nat):Nat:=if i%2=0 then W i else W (i+1)
def cc (a:Nat)(W:Nat->Nat)(i:Nat):Nat:=if i%2=0 then W (i+1)-a else W i-a
section
variable {R C:Nat}{S L G:Nat->Nat->Int}{c:Nat}{W qs:Nat->Nat}
theorem Tour.alt (t:Tour R C S L G c W qs)(i:Nat):(qs i%2=0/\W i=qs i/2/(C+1)/\W (i+1)=R+1+qs i/2%(C+1)/\W i<R+1/\qs i/2%(C+1)<C+1)\/(qs i%2≠0/\W i=R+1+qs i/2%(C+1)/\W (i+1)=qs i/2/(C+1)/\W (i+1)<R+1/\qs i/2%(C+1)<C+1):=by
 obtain⟨h1,h2,h3⟩:=t.tie i;have q:=Qe (show 0<C+1 by lia) h1;unfold jB at h2;unfold jF at h3
 by_cases z:qs i%2=0
 ·rw[if_pos z]at h2 h3;exact .inl ⟨z,h2.symm,h3.symm,by lia,q.2⟩
 ·rw[if_neg z]at h2 h3;exact .inr ⟨z,h2.symm,h3.symm,by lia,q.2⟩
theorem Tour.par (t:Tour R C S L G c W qs):∀i,(i%2=0↔W i<R+1)
 |0=>⟨λ_=>t.row,λ_=>rfl⟩
 |i+1=>by
  have ih:=t.par i;have a:=t.alt i
  constructor
  ·intro z;have:¬W i<R+1:=λy=>by have:=ih.mpr y;lia
   lia
  ·intro z;have:¬W i<R+1:=λy=>by lia
   have:¬i%2=0:=λy=>this (ih.mp y)
   lia
theorem Tour.even (t:Tour R C S L G c W qs):c%2=0:=(t.par c).mpr (by have:=t.per 0;rw[uD]at this;rw[this];exact t.row)
theorem Tour.cell (t:Tour R C S L G c W qs)(i:Nat):cr W i=qs i/2/(C+1)/\cc (R+1) W i=qs i/2%(C+1)/\cr W i<R+1/\cc (R+1) W i<C+1/\(qs i%2=i%2)/\Ku (R+1) W i= .tup [.int (cr W i:Nat),.int (cc (R+1) W i:Nat)]:=by
 have a:=t.alt i;have p:=t.par i;unfold cr cc Ku
 by_cases z:i%2=0
 ·have y:=p.mp z;rw[if_pos z,if_pos z];have m1:eT (W i:Int) (W (i+1))=W i:=by unfold eT;split<;>lia
  have m2:dN (W i:Int) (W (i+1))=W (i+1):=by unfold dN;split<;>lia
  refine⟨by lia,by lia,by lia,by lia,by lia,?_⟩;rw[m1,m2,show(W (i+1):Int)-((R+1:Nat):Int)=((W (i+1)-(R+1):Nat):Int) by lia]
 ·have y:¬W i<R+1:=λy=>z (p.mpr y)
  rw[if_neg z,if_neg z];have m1:eT (W i:Int) (W (i+1))=W (i+1):=by unfold eT;split<;>lia
  have m2:dN (W i:Int) (W (i+1))=W i:=by unfold dN;split<;>lia
  refine⟨by lia,by lia,by lia,by lia,by lia,?_⟩;rw[m1,m2,show(W i:Int)-((R+1:Nat):Int)=((W i-(R+1):Nat):Int) by lia]
theorem xU (r c:Nat):sg r c=1\/sg r c= -1:=by unfold sg;split<;>simp
end
theorem vM (r c:Nat):sg (r+1) c= -sg r c:=by unfold sg;split<;>split<;>lia
theorem Ea (r c:Nat):sg r (c+1)= -sg r c:=by unfold sg;split<;>split<;>lia
theorem nought {R C:Nat}(h:∀r c,r<R->c<C->four e r c=0):∀r c,r<R+1->c<C+1->e r c=sg r c*(sg r 0*e r 0-(e 0 0-sg 0 c*e 0 c)):=by
 have row0:∀c,e 0 c=sg 0 c*(sg 0 0*e 0 0-(e 0 0-sg 0 c*e 0 c)):=λc=>by
  rw[show sg 0 0=1 from rfl];rcases xU 0 c with z|z<;>rw[z]<;>lia
 intro r
 induction r with
 |zero=>exactλc _ _=>row0 c
 |succ r ih=>
  intro c
  induction c with
  |zero=>
   intro _ _;rw[show sg 0 0=1 from rfl];rcases xU (r+1) 0 with z|z<;>rw[z]<;>lia
  |succ c ihc=>
   intro hr hc;have f:=h r c (by lia) (by lia);have a1:=ih c (by lia) (by lia);have a2:=ih (c+1) (by lia) (by lia);have a3:=ihc hr (by lia);unfold four at f;rw[Ea 0 c]at a2 ⊢;rw[Ea r c]at a2;rw[vM r c,vM r 0]at a3;rw[vM r (c+1),Ea r c,vM r 0];rcases xU r c with z|z<;>rcases xU r 0 with z'|z'<;>rcases xU 0 c with z''|z''<;>rw[z,z',z'']at a1 a2<;>rw[z,z',z'']at a3<;>rw[z,z',z'']<;>lia
theorem Fi {o x:Int}(h:o=1\/o= -1):Bg o x=true:=kJ (by rcases h with e|e<;>rw[e]<;>decide)
def cR (ds:AA D):Prop:=∃p:Int,ds=[.int p]
theorem fF (h:cR ds){m:Int}(h0:0<m)(h1:m<2^250):Ok (cW ds [.int m]) λr=>∃(i:Nat) (ds':AA D),(i:Int)<m/\cR ds'/\r=(.val (.int i),ds'):=by
 obtain⟨p,rfl⟩:=h;simp![↓cW,↓zhp];have m0:=Int.emod_nonneg p (Int.ne_of_gt h0);refine⟨h0,zpl h0 h1,(p%m).toNat,[.int (p/m)],?_,⟨_,rfl⟩,?_⟩
 ·have:=Int.emod_lt_of_pos p h0;lia
 ·rw[show(((p%m).toNat:Nat):Int)=p%m by lia]
theorem zR (c:Int):Ok (Pz [.int c]) λr=>∃ds,cR ds/\r= .own ds:=by
 simp![↓Pz,↓Zr];refine⟨λ_=>⟨by decide+kernel,by decide+kernel,_,⟨_,rfl⟩,rfl⟩,λ_=>?_⟩;simp![↓zgW,↓zhd];refine⟨rfl,fN (λ_ ρ=>∃(a b:Int) (s3 s4:Sl),0<=b/\b<4294967296/\ρ=[.val (.int c),.val (.int a),.val (.int b),s3,s4]) ⟨0,_,.emp,.emp,by lia,by lia,rfl⟩ ?_ ?_⟩
 ·rintro i _ hi ⟨a,b,s3,s4,b0,b1,rfl⟩;simp![↓zg2];have e1:0<=(b*48271+7919*(i:Int)+12345)%2147483647:=Int.emod_nonneg _ (by decide);have e2:(b*48271+7919*(i:Int)+12345)%2147483647<2147483647:=Int.emod_lt_of_pos _ (by decide);exact⟨kJ (by lia),kJ (by decide),kJ (by lia),zT (by decide),by decide+kernel,_,_,_,_,e1,by lia,rfl⟩
 ·rintro _ ⟨a,b,s3,s4,_,_,rfl⟩;simp![];exact⟨_,⟨_,rfl⟩,rfl⟩
def tR (n m:Nat)(f:Nat->Nat->Int):AA (AA D):=(List.range n).map λr=>wI m (f r)
def tC (n m:Nat)(f:Nat->Nat->Int):AA Ch:=(List.range n).map λr=> .l (wI m (f r))
abbrev tS (n m:Nat)(f:Nat->Nat->Int):Sl:= .tre (.lst (tC n m f))
theorem tR_l (n m:Nat)(f:Nat->Nat->Int):(tR n m f).map Ch.l=tC n m f:=by unfold tR tC;rw[fA];rfl
theorem oV (n m:Nat)(f:Nat->Nat->Int):(tC n m f).length=n:=by unfold tC;simp
theorem uW (f:Nat->Nat->Int)(h:r<n):(tC n m f)[r]? =some (.l (wI m (f r))):=by unfold tC;simp[h]
theorem wD (n m:Nat)(f:Nat->Nat->Int):(tC n m f).map Ch.D=wL n λr=> .lst (wI m (f r)):=by unfold tC wL;rw[fA];rfl
def cC (f:Nat->Nat->Int)(r c:Nat)(x:Int):Nat->Nat->Int:=λa b=>if a=r/\b=c then x else f a b
theorem Ni (f:Nat->Nat->Int)(x:Int)(hr:r<n)(hc:c<m):(tC n m f).set r (.l ((wI m (f r)).set c (.int x)))=tC n m (cC f r c x):=by
 apply lH;intro i;rw[iG]
 by_cases hi:i<n
 ·rw[uW (cC f r c x) hi]
  by_cases e:r=i
  ·subst e;rw[if_pos rfl,if_pos (by rw[oV];exact hr),Hm _ _ hc];congr 2;exact kX λj _=>by unfold cC;simp
  ·rw[if_neg e,uW _ hi];congr 2;exact kX λj _=>by unfold cC;rw[if_neg λz=>e z.1.symm]
 ·rw[if_neg (by lia),eO (by rw[oV];lia),eO (by rw[oV];lia)]
theorem zn6 {a z k Y:Int}(h1: -k<=a)(h2:a<=k)(z0:0<=z)(zY:z<=Y)(k0:0<=k): -(k*Y)<=a*z/\a*z<=k*Y:=by
 have e1:=Int.mul_le_mul_of_nonneg_right h2 z0;have e2:=Int.mul_le_mul_of_nonneg_left zY k0;have e3:=Int.mul_le_mul_of_nonneg_right h1 z0;rw[Int.neg_mul]at e3;exact⟨Int.le_trans (Int.neg_le_neg e2) e3,Int.le_trans e1 e2⟩
def Bd (R C:Nat)(p q:Int)(S L G:Nat->Nat->Int):Prop:=(∀r c,r<R->c<C-> -p<=S r c/\S r c<=p)/\∀r c,r<R+1->c<C+1->L r c<=G r c/\ -q<=L r c/\G r c<=q
theorem Bd.put {R C r c:Nat}{p q q':Int}{S L G L' G':Nat->Nat->Int}(h:Bd R C p q S L G)(hq:q<=q')(off:∀a b,¬(a=r/\b=c)->L' a b=L a b/\G' a b=G a b)(hi:L' r c<=G' r c/\ -q'<=L' r c/\G' r c<=q'):Bd R C p q' S L' G':=by
 refine⟨h.1,λa b ha hb=>?_⟩
 by_cases z:a=r/\b=c
 ·obtain⟨rfl,rfl⟩:=z;exact hi
 ·obtain⟨e1,e2⟩:=off a b z;have:=h.2 a b ha hb;rw[e1,e2];lia
theorem Bd.mono {R C:Nat}{p q p' q':Int}(h:Bd R C p q S L G)(hp:p<=p')(hq:q<=q'):Bd R C p' q' S L G:=
 ⟨λr c hr hc=>by have:=h.1 r c hr hc;lia,λr c hr hc=>by have:=h.2 r c hr hc;lia⟩
theorem Mz (f:Nat->Nat->Int)(r c:Nat)(x:Int):cC f r c x r c=x:=by unfold cC;rw[if_pos ⟨rfl,rfl⟩]
theorem mI (f:Nat->Nat->Int)(x:Int)(h:¬(a=r/\b=c)):cC f r c x a b=f a b:=by unfold cC;rw[if_neg h]
section
variable {R C:Nat}{by' Y:Int}
theorem Dr (hR:R<=50)(hC:C<=50)(ds:AA D)(S L G:Nat->Nat->Int)(bd:Bd R C (28*Y) (21*Y) S L G)(s3 s7 s8 s9 s10:Sl):
  Ok (zbN [.par ds,.emp,.val (.int by'),s3,tS (R+1) (C+1) L,tS (R+1) (C+1) G,tS R C S,s7,s8,s9,s10]) λp=>∃S L G a,Bd R C (28*Y) (21*Y) S L G/\p=(.ret (.val (cP R C S L G)),.par ds::a):=by
 simp![↓zbN,wD];refine(Mt (by lia) (by lia)).mono ?_;rintro _ rfl;simp![];refine(Mt (by lia) (by lia)).mono ?_;rintro _ rfl;simp![];refine(Mt (by lia) (by lia)).mono ?_;rintro _ rfl;simp![];exact⟨_,_,_,_,bd,rfl⟩
theorem Cn (hR:R<=50)(hC:C<=50)(ds:AA D)(S L G:Nat->Nat->Int)(bd:Bd R C (24*Y) (21*Y) S L G)(way r c:Nat)(more:Int)(hY:0<=Y)(m1: -(4*Y)<=more)(m2:more<=4*Y)(s3:Sl):
  Ok (zbU [.par ds,.emp,.val (.int by'),s3,tS (R+1) (C+1) L,tS (R+1) (C+1) G,tS R C S,.val (.int way),.val (.int r),.val (.int c),.val (.int more)]) λp=>∃S L G a,Bd R C (28*Y) (21*Y) S L G/\p=(.ret (.val (cP R C S L G)),.par ds::a):=by
 simp![↓zbU,wD];refine⟨λ_=>⟨by lia,Nd (λρ=>∃z,ρ=[.val (.int more),z]) (λa=>wI C λb=>S a b+more) ⟨_,rfl⟩ ?_ ?_⟩,λ_=>Dr hR hC _ _ _ _ (bd.mono (by lia) (by lia)) _ _ _ _ _⟩
 ·rintro a _ ha ⟨z,rfl⟩;simp![↓Gq,↓zdv,↓zdm];refine⟨by lia,gP (λρ=>∃z,ρ=[.val (.int more),z]) (λb=> .int (S a b+more)) ⟨_,rfl⟩ ?_ ?_⟩
  ·rintro b _ hb ⟨z,rfl⟩;simp![↓zdy];exact⟨_,rfl⟩
  ·rintro _ ⟨z,rfl⟩;exact⟨rfl,rfl,_,rfl⟩
 ·rintro _ ⟨z,rfl⟩;simp![];have:=Dr hR hC (by':=by') (Y:=Y) ds (λa b=>S a b+more) L G ⟨λa b ha hb=>by have:=bd.1 a b ha hb;dsimp only;lia,bd.2⟩ s3 (.val (.int way)) (.val (.int r)) (.val (.int c)) (.val (.int more));rw[show((List.range R).map λa=>wI C λb=>S a b+more).map Ch.l=tC R C λa b=>S a b+more from by unfold tC;rw[fA];rfl];exact this
theorem Ce (hR:R<=50)(hC:C<=50)(ds:AA D)(S L G:Nat->Nat->Int)(bd:Bd R C (24*Y) (17*Y) S L G)(way r c:Nat)(hr:r<R+1)(hc:c<C+1)(more:Int)(hY:0<=Y)(m1: -(4*Y)<=more)(m2:more<=4*Y)(s3:Sl):
  Ok (zbT [.par ds,.emp,.val (.int by'),s3,tS (R+1) (C+1) L,tS (R+1) (C+1) G,tS R C S,.val (.int way),.val (.int r),.val (.int c),.val (.int more)]) λp=>∃S L G a,Bd R C (28*Y) (21*Y) S L G/\p=(.ret (.val (cP R C S L G)),.par ds::a):=by
 simp![↓zbT,uW _ hr,oV,aZ _ hc,hr,hc,Ni _ _ hr hc];have at':=bd.2 r c hr hc;refine⟨λ_=>Cn hR hC _ _ _ _ (bd.put (r:=r) (c:=c) (by lia) (λa b h=>⟨?_,?_⟩) ?_) _ _ _ _ hY m1 m2 _,λ_=>Cn hR hC _ _ _ _ (bd.mono (by lia) (by lia)) _ _ _ _ hY m1 m2 _⟩
 ·simp only[mI _ _ h]
 ·simp only[mI _ _ h]
 ·simp only[Mz];unfold eT
  split<;>lia
theorem Dc (hR:R<=50)(hC:C<=50)(ds:AA D)(S L G:Nat->Nat->Int)(bd:Bd R C (24*Y) (13*Y) S L G)(way r c:Nat)(hr:r<R+1)(hc:c<C+1)(more:Int)(hY:0<=Y)(m1: -(4*Y)<=more)(m2:more<=4*Y)(s3:Sl):
  Ok (zbO [.par ds,.emp,.val (.int by'),s3,tS (R+1) (C+1) L,tS (R+1) (C+1) G,tS R C S,.val (.int way),.val (.int r),.val (.int c),.val (.int more)]) λp=>∃S L G a,Bd R C (28*Y) (21*Y) S L G/\p=(.ret (.val (cP R C S L G)),.par ds::a):=by
 simp![↓zbO,uW _ hr,oV,aZ _ hc,hr,hc,Ni _ _ hr hc];have at':=bd.2 r c hr hc;refine⟨λ_=>Ce hR hC _ _ _ _ (bd.put (r:=r) (c:=c) (by lia) (λa b h=>⟨?_,?_⟩) ?_) _ _ _ hr hc _ hY m1 m2 _,λ_=>Ce hR hC _ _ _ _ (bd.mono (by lia) (by lia)) _ _ _ hr hc _ hY m1 m2 _⟩
 ·simp only[mI _ _ h]
 ·simp only[mI _ _ h]
 ·simp only[Mz];unfold eT
  split<;>lia
theorem Cf (hR:R<=50)(hC:C<=50)(ds:AA D)(S L G:Nat->Nat->Int)(bd:Bd R C (24*Y) (9*Y) S L G)(way r c:Nat)(hr:r<R+1)(hc:c<C+1)(more:Int)(hY:0<=Y)(m1: -(4*Y)<=more)(m2:more<=4*Y)(s3:Sl):
  Ok (zbP [.par ds,.emp,.val (.int by'),s3,tS (R+1) (C+1) L,tS (R+1) (C+1) G,tS R C S,.val (.int way),.val (.int r),.val (.int c),.val (.int more)]) λp=>∃S L G a,Bd R C (28*Y) (21*Y) S L G/\p=(.ret (.val (cP R C S L G)),.par ds::a):=by
 simp![↓zbP,uW _ hr,oV,aZ _ hc,hr,hc,Ni _ _ hr hc];have at':=bd.2 r c hr hc;refine⟨λ_=>Dc hR hC _ _ _ _ (bd.put (r:=r) (c:=c) (by lia) (λa b h=>⟨?_,?_⟩) ?_) _ _ _ hr hc _ hY m1 m2 _,λ_=>Dc hR hC _ _ _ _ (bd.mono (by lia) (by lia)) _ _ _ hr hc _ hY m1 m2 _⟩
 ·simp only[mI _ _ h]
 ·simp only[mI _ _ h]
 ·simp only[Mz];unfold dN
  split<;>lia
theorem in12 (i:Int):∃b,dIn (.int i) (.tup [.int 1,.int 2])=some (.bl b):=⟨_,rfl⟩
theorem xS (h:cR ds)(hR:R<=50)(hC:C<=50)(r1:1<=R)(c1:1<=C)(f L G:Nat->Nat->Int)(y0:1<=by')(y1:by'<=Y)(bd:Bd R C (20*Y) (9*Y) (four f) L G):
  Ok (Te ds (.lst [.l (wL (R+1) λr=> .lst (wI (C+1) (f r))),.t (tR (R+1) (C+1) L),.t (tR (R+1) (C+1) G)]) [.int by']) λx=>∃(S L G:Nat->Nat->Int) (ds':AA D),cR ds'/\Bd R C (28*Y) (21*Y) S L G/\x=(.val (cP R C S L G),ds'):=by
 simp![↓Te,↓zcA,tR_l];refine(zml _ (.inr rfl) (by lia) (by lia)).mono ?_;rintro _ rfl;simp![];refine⟨by lia,Nd (λρ=>∃z,ρ=[z]) (λa=>wI C (four f a)) ⟨_,rfl⟩ ?_ ?_⟩
 ·rintro a _ ha ⟨z,rfl⟩;simp![↓Gq,↓zc8];exact⟨_,rfl⟩
 rintro _ ⟨z,rfl⟩;rw[show((List.range R).map λa=>wI C (four f a)).map Ch.l=tC R C (four f)from by unfold tC;rw[fA];rfl];simp![];refine(fF h (m:=8) (by lia) (by lia)).mono ?_;rintro _ ⟨way,d1,hw,h1,rfl⟩;simp![];refine(fF h1 (m:=((R+1:Nat):Int)) (by lia) (by lia)).mono ?_;rintro _ ⟨r,d2,hr,h2,rfl⟩;simp![aZ _ (show 0<R+1 by lia)];refine(fF h2 (m:=((C+1:Nat):Int)) (by lia) (by lia)).mono ?_;rintro _ ⟨c,d3,hc,h3,rfl⟩;simp![];refine(fF h3 (m:=9) (by lia) (by lia)).mono ?_;rintro _ ⟨y,d4,hy,h4,rfl⟩;simp![];refine(fF h4 (m:=2) (by lia) (by lia)).mono ?_;rintro _ ⟨x,d5,hx,h5,rfl⟩;have hx':∃z:Int,1<=z/\z<=Y/\[D.int 1,D.int by'][x]? =some (.int z):=by
  have:x=0\/x=1:=by lia
  rcases this with rfl|rfl
  ·exact⟨1,by lia,by lia,rfl⟩
  ·exact⟨by',y0,y1,rfl⟩
 obtain⟨z,z1,z2,ez⟩:=hx';have mm: -(4*Y)<=((y:Int)-4)*z/\((y:Int)-4)*z<=4*Y:=zn6 (by lia) (by lia) (by lia) z2 (by decide);have hY:0<=Y:=by lia
 obtain⟨b,eb⟩:=in12 way;have hr':r<R+1:=by lia
 have hc':c<C+1:=by lia
 have q1:r%R<R:=Dm _ r1;have q2:c%C<C:=Dm _ c1;have m1:(r:Int)%(R:Int)=((r%R:Nat):Int):=by lia
 have m2:(c:Int)%(C:Int)=((c%C:Nat):Int):=by lia
 have p1:(0:Int)<(R:Int):=by lia
 have p2:(0:Int)<(C:Int):=by lia
 simp![ez,eb,oV,uW _ (show 0<R by lia),p1,p2,m1,m2,q1,q2,uW _ q1,aZ _ q2,Ni _ _ q1 q2];refine⟨kJ (by lia),λ_=>?_,λ_=>?_⟩
 ·refine(Cf (Y:=Y) hR hC _ _ _ _ ⟨λa b ha hb=>?_,bd.2⟩ _ _ _ hr' hc' _ hY mm.1 mm.2 _).mono ?_
  ·have:=bd.1 a b ha hb;unfold cC
   split
   ·rename_i h;obtain⟨rfl,rfl⟩:=h;lia
   ·lia
  rintro _ ⟨S,L,G,a,bd',rfl⟩;simp![];exact⟨_,_,_,_,h5,bd',rfl⟩
 ·refine(Cf (Y:=Y) hR hC _ _ _ _ (bd.mono (by lia) (by lia)) _ _ _ hr' hc' _ hY mm.1 mm.2 _).mono ?_;rintro _ ⟨S,L,G,a,bd',rfl⟩;simp![];exact⟨_,_,_,_,h5,bd',rfl⟩
theorem zkZ {P:Nat->Int->Prop}{q:Nat->Int}(h:∀c,c<j->P c (q c))(hx:P j x):∀c,c<j+1->P c ((λc=>if c<j then q c else x) c):=λc hc=>by
 dsimp only
 by_cases z:c<j
 ·rw[if_pos z];exact h c z
 ·have:c=j:=by lia
  subst this;rw[if_neg z];exact hx
theorem Ht {t:Nat}(y0:1<=by')(y1:by'<=Y)(ht:(t:Int)<11): -(5*Y)<=((t:Int)-5)*by'/\((t:Int)-5)*by'<=5*Y:=zn6 (by lia) (by lia) (by lia) y1 (by decide)
theorem Dp {t wd:Nat}{f:Int}(y0:1<=by')(y1:by'<=Y)(w5:wd<=5)(ht:(t:Int)<(wd:Int)):(f-(t:Int)*by'<=f/\f-4*Y<=f-(t:Int)*by')/\(f<=f+(t:Int)*by'/\f+(t:Int)*by'<=f+4*Y):=by
 have h1:=(zn6 (a:=(t:Int)) (k:=4) (z:=by') (Y:=Y) (by lia) (by lia) (by lia) y1 (by decide)).2;have h2:0<=(t:Int)*by':=Int.mul_nonneg (by lia) (by lia)
 lia
theorem vE (n m:Nat)(f:Nat->Nat->Int):Bo (tC n m f)=some (tR n m f):=by
 have:∀l:AA Nat,Bo (l.map λr=>Ch.l (wI m (f r)))=some (l.map λr=>wI m (f r)):=λl=>by
  induction l with
  |nil=>rfl
  |cons a l ih=>simp[Bo,ih]
 exact this _
theorem Bc (n m:Nat)(f:Nat->Nat->Int):tC (n+1) m f=tC n m f++[.l (wI m (f n))]:=by unfold tC;rw[Ys,qb9];rfl
def YY:Int:=10000000000000000000000000000000000000000000000000000000000
theorem rS (h:cR ds):Ok (Rw ds [.int 6]) λx=>∃(R C:Nat) (S L G:Nat->Nat->Int) (ds':AA D),cR ds'/\1<=R/\R<=5/\1<=C/\C<=5/\Bd R C (28*YY) (21*YY) S L G/\x=(.val (cP R C S L G),ds'):=by
 simp![↓Rw,↓zgb];refine(fF h (m:=5) (by lia) (by lia)).mono ?_;rintro _ ⟨a,d1,ha,h1,rfl⟩;simp![];refine(fF h1 (m:=5) (by lia) (by lia)).mono ?_;rintro _ ⟨b,d2,hb,h2,rfl⟩;simp![];refine(fF h2 (m:=4) (by lia) (by lia)).mono ?_;rintro _ ⟨x,d3,hx,h3,rfl⟩;have hx':∃z:Int,1<=z/\z<=YY/\[D.int 1,D.int 1,D.int 1,D.int 10000000000000000000000000000000000000000000000000000000000][x]? =some (.int z):=by
  have:x=0\/x=1\/x=2\/x=3:=by lia
  rcases this with rfl|rfl|rfl|rfl
  ·exact⟨1,by decide,by decide+kernel,rfl⟩
  ·exact⟨1,by decide,by decide+kernel,rfl⟩
  ·exact⟨1,by decide,by decide+kernel,rfl⟩
  ·exact⟨_,by decide+kernel,by decide+kernel,rfl⟩
 obtain⟨by',y0,y1,ez⟩:=hx';simp![ez];refine(fF h3 (m:=4) (by lia) (by lia)).mono ?_;rintro _ ⟨y,d4,hy,h4,rfl⟩;have hy':∃z:Nat,1<=z/\z<=5/\[D.int 1,D.int 1,D.int 2,D.int 5][y]? =some (.int (z:Nat)):=by
  have:y=0\/y=1\/y=2\/y=3:=by lia
  rcases this with rfl|rfl|rfl|rfl
  ·exact⟨1,by lia,by lia,rfl⟩
  ·exact⟨1,by lia,by lia,rfl⟩
  ·exact⟨2,by lia,by lia,rfl⟩
  ·exact⟨5,by lia,by lia,rfl⟩
 obtain⟨wd,w1,w5,ew⟩:=hy';obtain⟨R,hR⟩:∃R,R=a+1:=⟨_,rfl⟩;obtain⟨C,hC⟩:∃C,C=b+1:=⟨_,rfl⟩;have eR:(2:Int)+(a:Int)=((R+1:Nat):Int):=by lia
 have eC:(2:Int)+(b:Int)=((C+1:Nat):Int):=by lia
 simp![ew,eR,eC,↓zfX];refine⟨gB (by lia) (by lia),fN (λi ρ=>∃(f L G:Nat->Nat->Int) (ds':AA D) (s9:Sl),cR ds'/\(∀r c,r<i->c<C+1-> -(5*YY)<=f r c/\f r c<=5*YY/\L r c<=f r c/\f r c-4*YY<=L r c/\f r c<=G r c/\G r c<=f r c+4*YY)/\ρ=[.par ds',.val (.int 6),.val (.int ((R+1:Nat):Int)),.val (.int ((C+1:Nat):Int)),.val (.int by'),.val (.int (wd:Nat)),.own (wL i λr=> .lst (wI (C+1) (f r))),tS i (C+1) L,tS i (C+1) G,s9]) ⟨λ_ _=>0,λ_ _=>0,λ_ _=>0,_,_,h4,λr c hr=>AH hr (Br _),rfl⟩ ?_ ?_⟩
 ·rintro i _ hi ⟨f,L,G,e1,s9,g1,bd,rfl⟩;simp![↓zgg,↓zfY];refine⟨gB (by lia) (by lia),by lia,Lz (λj acc ρ=>∃(q:Nat->Int) (ds':AA D) (s:Sl),cR ds'/\(∀c,c<j-> -(5*YY)<=q c/\q c<=5*YY)/\acc=wI j q/\ρ=[.par ds',.val (.int by'),s]) ⟨λ_=>0,e1,.emp,g1,λc hc=>AH hc (Br _),rfl,rfl⟩ ?_ ?_⟩
  ·rintro j _ _ hj ⟨q,e2,s,g2,bq,rfl,rfl⟩;simp![↓zgz];refine(fF g2 (m:=11) (by lia) (by lia)).mono ?_;rintro _ ⟨t,e3,ht,g3,rfl⟩;simp![];refine⟨kJ (by lia),_,_,_,g3,?_,Ze j q _,rfl⟩;exact zkZ (P:=λ_ x=> -(5*YY)<=x/\x<=5*YY) bq (Ht y0 y1 ht)
  rintro _ _ ⟨q,e2,s,g2,bq,rfl,rfl⟩;simp![];rw[show(wL i λr=>D.lst (wI (C+1) (f r)))++[D.lst (wI (C+1) q)]=wL (i+1) λr=> .lst (wI (C+1) ((λr=>if r=i then q else f r) r))from by
   rw[gE];congr 1
   ·exact kX λr hr=>by(try dsimp only);rw[if_neg (by lia)]
   ·simp]
  have bf1:∀c,(λr=>if r=i then q else f r) i c=q c:=λc=>by(try dsimp only);rw[if_pos rfl]
  have bf2:∀r c,r<i->(λr=>if r=i then q else f r) r c=f r c:=λr c hr=>by(try dsimp only);rw[if_neg (by lia)]
  generalize (λr=>if r=i then q else f r)=f1 at bf1 bf2 ⊢
  simp![↓zfV,aZ _ (show i<i+1 by lia)];refine⟨by lia,by lia,Lz (λj acc ρ=>∃(q:Nat->Int) (ds':AA D) (s:Sl),cR ds'/\(∀c,c<j->(λc x=>x<=f1 i c/\f1 i c-4*YY<=x) c (q c))/\acc=wI j q/\ρ=[.par ds',.val (.int (wd:Nat)),.val (.int by'),s]) ⟨λ_=>0,e2,.emp,g2,λc hc=>AH hc (Br _),rfl,rfl⟩ ?_ ?_⟩
  ·rintro j _ _ hj ⟨q,e2,s,g2,bq,rfl,rfl⟩;simp![↓zgy];refine(fF g2 (m:=(wd:Int)) (by lia) (by lia)).mono ?_;rintro _ ⟨t,e3,ht,g3,rfl⟩;simp![];refine⟨kJ (by lia),_,_,_,g3,?_,Ze j q _,rfl⟩;exact zkZ (P:=λc x=>x<=f1 i c/\f1 i c-4*YY<=x) bq (Dp y0 y1 w5 ht).1
  rintro _ _ ⟨q2,e3,s,g3,bq2,rfl,rfl⟩;simp![oV];have up:∀(L:Nat->Nat->Int) (q:Nat->Int),tC i (C+1) L++[Ch.l (wI (C+1) q)]=tC (i+1) (C+1) λr=>if r=i then q else L r:=λL q=>by
   rw[Bc];congr 1
   ·unfold tC;exact mD λr hr=>by have:=qah.mp hr;(try dsimp only);rw[if_neg (by lia)]
   ·simp
  rw[up L q2];have bL1:∀c,(λr=>if r=i then q2 else L r) i c=q2 c:=λc=>by(try dsimp only);rw[if_pos rfl]
  have bL2:∀r c,r<i->(λr=>if r=i then q2 else L r) r c=L r c:=λr c hr=>by(try dsimp only);rw[if_neg (by lia)]
  generalize (λr=>if r=i then q2 else L r)=L1 at bL1 bL2 ⊢
  refine⟨by lia,?_⟩;simp![↓zgo,aZ _ (show i<i+1 by lia)];refine⟨by lia,Lz (λj acc ρ=>∃(q:Nat->Int) (ds':AA D) (s:Sl),cR ds'/\(∀c,c<j->(λc x=>f1 i c<=x/\x<=f1 i c+4*YY) c (q c))/\acc=wI j q/\ρ=[.par ds',.val (.int (wd:Nat)),.val (.int by'),s]) ⟨λ_=>0,e3,.emp,g3,λc hc=>AH hc (Br _),rfl,rfl⟩ ?_ ?_⟩
  ·rintro j _ _ hj ⟨q,e2,s,g2,bq,rfl,rfl⟩;simp![↓zfW];refine(fF g2 (m:=(wd:Int)) (by lia) (by lia)).mono ?_;rintro _ ⟨t,e3,ht,g3,rfl⟩;simp![];refine⟨kJ (by lia),_,_,_,g3,?_,Ze j q _,rfl⟩;exact zkZ (P:=λc x=>f1 i c<=x/\x<=f1 i c+4*YY) bq (Dp y0 y1 w5 ht).2
  rintro _ _ ⟨q3,e4,s,g4,bq3,rfl,rfl⟩;simp![oV,up G q3];refine⟨by lia,_,_,_,_,_,g4,λr c hr hc=>?_,rfl⟩
  by_cases z:r=i
  ·subst z;have z1:=bq c hc;have z2:=bq2 c hc;have z3:=bq3 c hc
   (try dsimp only at z2 z3 ⊢)
   rw[bL1,if_pos rfl,bf1];rw[bf1]at z2 z3;lia
  ·have z1:=bd r c (by lia) hc
   (try dsimp only)
   rw[bL2 r c (by lia),if_neg z,bf2 r c (by lia)];exact z1
 ·rintro _ ⟨f,L,G,e1,s9,g1,bd,rfl⟩;simp![vE];refine(xS (Y:=YY) g1 (by lia) (by lia) (by lia) (by lia) f L G y0 y1 ⟨λr c hr hc=>?_,λr c hr hc=>?_⟩).mono ?_
  ·have z1:=bd r c (by lia) (by lia);have z2:=bd r (c+1) (by lia) (by lia);have z3:=bd (r+1) c (by lia) (by lia);have z4:=bd (r+1) (c+1) (by lia) (by lia);unfold four;lia
  ·have z1:=bd r c hr hc;lia
  rintro _ ⟨S,L,G,e2,g2,bd',rfl⟩;simp![];exact⟨R,C,_,_,_,_,g2,by lia,by lia,by lia,by lia,bd',rfl⟩
end
def Jg (P:Prop)(x:Sl):Prop:=∃z:Bool,x= .val (.bl z)/\(z=true↔P)
theorem Jg.no {P:Prop}(h:¬P):Jg P (.val (.bl false)):=⟨false,rfl,λz=>(by cases z),λp=>AH p h⟩
theorem Jg.yes {P:Prop}(h:P):Jg P (.val (.bl true)):=⟨true,rfl,λ_=>h,λ_=>rfl⟩
theorem Jg.dec {P Q:Prop}[Decidable Q](h:P↔Q):Jg P (.val (.bl (decide Q))):=⟨_,rfl,decide_eq_true_iff.trans h.symm⟩
theorem Qp (c1:1<=c)(f:Nat->D)(h:f c=f 0):bD (wL c f) (some 1) none++bD (wL c f) none (some 1)=wL c λi=>f (i+1):=by
 obtain⟨e,rfl⟩:∃e,c=e+1:=⟨c-1,by lia⟩;rw[show bD (wL (e+1) f) (some 1) none=(wL (e+1) f).drop 1 from Qq _ 1,show bD (wL (e+1) f) none (some 1)=(wL (e+1) f).take 1 from Nj _ 1];rw[show wL (e+1) (λi=>f (i+1))=(wL e λi=>f (i+1))++[f (e+1)]from gE _ _,h];have s:wL (e+1) f=f 0::wL e λi=>f (i+1):=by simp[wL,Sj,Nb]
 rw[s]
 rfl
def iX (R C:Nat)(a b:Int):Prop:=(0<=a/\a<(R:Int)+1)/\0<=b/\b<(C:Int)+1
def kK (i:Nat)(a b a' b':Int):Prop:=if i%2=0 then b=b'/\a≠a' else a=a'/\b≠b'
def TourP (R C c:Nat)(x y:Nat->Int):Prop:=4<=c/\c%2=0/\(∀i,i<c->iX R C (x i) (y i))/\∀i,i<c->kK i (x i) (y i) (x (i+1)) (y (i+1))
abbrev dM (x y:Nat->Int)(i:Nat):D:= .tup [.int (x i),.int (y i)]
section
variable {R C:Nat}{S L G f:Nat->Nat->Int}{c:Nat}{x y:Nat->Int}
theorem yT (a b:Int):Ok (Uu [tT (R+1) (C+1) f,.int a,.int b]) (Jg (iX R C a b)):=by
 simp![↓Uu,↓zjw,aZ _ (show 0<R+1 by lia)];refine⟨λa0=>⟨λa1=>⟨λb0=>Jg.dec ?_,λb0=>Jg.no λp=>?_⟩,λa1=>Jg.no λp=>?_⟩,λa0=>Jg.no λp=>?_⟩
 ·unfold iX;lia
 ·unfold iX at p;lia
 ·unfold iX at p;lia
 ·unfold iX at p;lia
theorem vN (i:Nat)(a b a' b':Int):Ok (Uh [.int (i:Nat),.tup [.int a,.int b],.tup [.int a',.int b']]) (Jg (kK i a b a' b')):=by
 unfold kK;simp![↓Uh,↓Zj]
 by_cases z:i%2=0
 ·have e1:(1:Int)-(i:Int)%2=1:=by lia
  have e2:(1:Int)-1=0:=rfl;rw[if_pos z,e1];simp![e2];exact⟨λh=>⟨_,rfl,by rw[Mu];exact⟨λq=>⟨h,q⟩,λq=>q.2⟩⟩,λh=>Jg.no λq=>h q.1⟩
 ·have e1:(1:Int)-(i:Int)%2=0:=by lia
  have e2:(1:Int)-0=1:=rfl;rw[if_neg z,e1];simp![e2];exact⟨λh=>⟨_,rfl,by rw[Mu];exact⟨λq=>⟨h,q⟩,λq=>q.2⟩⟩,λh=>Jg.no λq=>h q.1⟩
theorem zpu {P:Nat->Prop}(c:Nat):∃b:Nat->Bool,∀i,b i=true↔P i:=by
 have:∀i,∃b:Bool,b=true↔P i:=λi=>by
  by_cases q:P i
  ·exact⟨true,λ_=>q,λ_=>rfl⟩
  ·exact⟨false,λz=>(by cases z),λz=>AH z q⟩
 exact⟨λi=>(this i).choose,λi=>(this i).choose_spec⟩
theorem zmy (t:Bool)(c1:1<=c)(c9:c<=100)(cyc:x c=x 0/\y c=y 0)(s0 s2:Sl):Ok (Pw [s0,.val (if t then .tup (wL c (dM x y))else .lst (wL c (dM x y))),s2]) λr=>∃(z:Bool) (ρ:M.R),r=(.ret (.val (.bl z)),ρ)/\(z=true↔∀i,i<c->kK i (x i) (y i) (x (i+1)) (y (i+1))):=by
 obtain⟨b2,h2⟩:=zpu (P:=λi=>kK i (x i) (y i) (x (i+1)) (y (i+1))) c;have tu:=Qp c1 (dM x y) (by unfold dM;rw[cyc.1,cyc.2]);have len:(bD (wL c (dM x y)) (some 1) none).length+(bD (wL c (dM x y)) none (some 1)).length<=16777216:=by rw[<-eB,tu,dI];lia
 have end':∀d3,(∀i,i<c->cG d3 (.int (i:Nat))=some (dM x y (i+1)))->Ok (gH (Uz (gT 2 (bI (gN 1) (bI (gN 2) eA))) dZ zgB) (wL c λi=> .tup [.int (i:Nat),dM x y i]) [.val d3,.emp,.emp]) λp=>p.1=wL c λi=> .bl (b2 i):=λd3 q4=>gP (λρ=>∃s1 s2,ρ=[.val d3,s1,s2]) (λi=> .bl (b2 i)) ⟨_,_,rfl⟩ (by
   rintro i _ hi' ⟨s1,s2,rfl⟩;simp![↓zgB,q4 i hi'];refine(vN i _ _ _ _).mono ?_;rintro _ ⟨z,rfl,hz⟩;have:z=b2 i:=by
    have:=hz.trans (h2 i).symm;cases z<;>cases q:b2 i<;>simp[q]at this ⊢
   subst this;simp![];exact⟨_,_,rfl⟩) (by
   rintro _ ⟨s1,s2,rfl⟩
   rfl)
 have fin:((List.range c).map b2).all id=true↔∀i,i<c->kK i (x i) (y i) (x (i+1)) (y (i+1)):=(Gf c b2).trans ⟨λh i hi'=>(h2 i).mp (h i hi'),λp i hi'=>(h2 i).mpr (p i hi')⟩;cases t with
 |true=>
  simp![↓Pw,↓zgG,tu,xE];refine⟨len,by lia,(end' _ λi hi'=>by simp![aZ _ hi']).mono ?_⟩;rintro⟨_,ρ⟩ rfl;simp![Lw];exact⟨_,_,rfl,fin⟩
 |false=>
  simp![↓Pw,↓zgG,tu,xE];refine⟨len,by lia,(end' _ λi hi'=>by simp![aZ _ hi']).mono ?_⟩;rintro⟨_,ρ⟩ rfl;simp![Lw];exact⟨_,_,rfl,fin⟩
theorem zpq (t:Bool)(c9:c<=100)(cyc:x c=x 0/\y c=y 0):Ok (Lv [cP R C S L G,if t then .tup (wL c (dM x y))else .lst (wL c (dM x y))]) (Jg (TourP R C c x y)):=by
 obtain⟨b1,h1⟩:=zpu (P:=λi=>iX R C (x i) (y i)) c;have go:∀(d:D),cL [d]=some (wL c (dM x y))->bS [d]=some (.int c)->(1<=c->Ok (Pw [.val (cP R C S L G),.val d,.emp]) λr=>∃(z:Bool) (ρ:M.R),r=(.ret (.val (.bl z)),ρ)/\(z=true↔∀i,i<c->kK i (x i) (y i) (x (i+1)) (y (i+1))))->Ok (Lv [cP R C S L G,d]) (Jg (TourP R C c x y)):=λd hi hl h3=>by
  simp![↓Lv,↓zju,hl];refine⟨λz=>Jg.no λp=>by unfold TourP at p;lia,λz=>⟨λz2=>Jg.no λp=>by unfold TourP at p;lia,λz2=>?_⟩⟩;simp![↓zis,↓ziA,hi];refine⟨by lia,gP (λρ=>∃s1 s2,ρ=[.val (cP R C S L G),s1,s2]) (λi=> .bl (b1 i)) ⟨_,_,rfl⟩ ?_ ?_⟩
  ·rintro i _ hi' ⟨s1,s2,rfl⟩;simp![↓ziB];refine(yT _ _).mono ?_;rintro _ ⟨z,rfl,hz⟩;have:z=b1 i:=by
    have:=hz.trans (h1 i).symm;cases z<;>cases q:b1 i<;>simp[q]at this ⊢
   subst this;simp![];exact⟨_,_,rfl⟩
  rintro _ ⟨s1,s2,rfl⟩;simp![Lw];refine⟨λh=>Jg.no λp=>?_,λh=>?_⟩
  ·have:=(Gf c b1).mpr λi hi'=>(h1 i).mpr (p.2.2.1 i hi')
   rw[this]at h;cases h
  have hin:∀i,i<c->iX R C (x i) (y i):=λi hi'=>(h1 i).mp ((Gf c b1).mp (by revert h;cases((List.range c).map b1).all id<;>simp) i hi')
  refine(h3 (by lia)).mono ?_;rintro _ ⟨z,ρ,rfl,hz⟩;simp![];exact⟨z,rfl,hz.trans ⟨λp=>⟨by lia,by lia,hin,p⟩,λp=>p.2.2.2⟩⟩
 cases t with
 |true=>exact go _ rfl (by simp![]) λc1=>zmy true c1 c9 cyc _ _
 |false=>exact go _ rfl (by simp![]) λc1=>zmy false c1 c9 cyc _ _
end
section
variable {R C:Nat}{S L G f:Nat->Nat->Int}{c:Nat}{u v:Nat->Nat}
def alt (i:Nat):Int:=if i%2=0 then 1 else-1
theorem Cw (i:Nat):alt (i+1)= -alt i:=by unfold alt;split<;>split<;>lia
theorem rW (i:Nat):sg i 0=alt i:=by unfold sg alt;rw[Nat.add_zero]
theorem sA (i:Nat):alt i=1\/alt i= -1:=by unfold alt;split<;>simp
def oU (u v:Nat->Nat)(i:Nat):Int:=sg (u i) (v i)*sg i 0
theorem mY (u v:Nat->Nat)(i:Nat):oU u v i=1\/oU u v i= -1:=by
 unfold oU;rcases xU (u i) (v i)with a|a<;>rcases xU i 0 with b|b<;>rw[a,b]<;>simp
abbrev uC (u v:Nat->Nat)(i:Nat):D:= .tup [.int (u i:Nat),.int (v i:Nat)]
def Vl (R C c:Nat)(u v:Nat->Nat):Prop:=∀i,i<c->u i<R+1/\v i<C+1
theorem wB (h:Vl R C c u v){d:D}(hd:cL [d]=some (wL c (uC u v))):Ok (Tc [tT (R+1) (C+1) f,d]) λx=>x= .val (.int (bH c λi=>oU u v i*f (u i) (v i))):=by
 simp![↓Tc,↓zgj,↓zgE,hd];refine fN (λi ρ=>∃s4 s5,ρ=[.val (tT (R+1) (C+1) f),.val d,.val (.int (bH i λi=>oU u v i*f (u i) (v i))),.val (.int (alt i)),s4,s5]) ⟨_,_,rfl⟩ ?_ ?_
 ·rintro i _ hi ⟨s4,s5,rfl⟩;obtain⟨h1,h2⟩:=h i hi;simp![↓zf7];refine(Xn _ _).mono ?_;rintro _ rfl;simp![aZ _ h1,aZ _ h2];have eo:alt i*sg (u i) (v i)=oU u v i:=by unfold oU;rw[rW,Int.mul_comm]
  rw[eo,<-Cw];exact⟨Fi (sA i),Fi (mY u v i),_,_,rfl⟩
 ·rintro _ ⟨s4,s5,rfl⟩;simp![]
def dF (u v:Nat->Nat):Nat->Nat->Nat->Int
 |0=>λ_ _=>0
 |j+1=>cC (dF u v j) (u j) (v j) (dF u v j (u j) (v j)+oU u v j)
theorem zpD (u v:Nat->Nat):∀j r k:Nat,-(j:Int)<=dF u v j r k/\dF u v j r k<=(j:Int)
 |0,_,_=>by show-((0:Nat):Int)<=0/\(0:Int)<=((0:Nat):Int);lia
 |j+1,r,k=>by
  have h:=zpD u v j;have o:=mY u v j;unfold dF cC
  split
  ·have:=h (u j) (v j);lia
  ·have:=h r k;lia
theorem zkb (g:Nat->Int)(x:Int):∀{n:Nat},k<n->bH n (λi=>if i=k then x else g i)=bH n g-g k+x
 |n+1,h=>by
  rw[bH,bH]
  by_cases z:n=k
  ·subst z;rw[if_pos rfl,Cy (g:=g) λi hi=>by rw[if_neg (by lia)]];lia
  ·rw[if_neg z,zkb g x (by lia)];lia
def fi (L G:Nat->Nat->Int)(r k:Nat)(x:Int):Int:=dN (x*L r k) (x*G r k)
def gC (R C:Nat)(L G:Nat->Nat->Int)(q:Nat->Nat->Int):Int:=bH (R+1) λr=>bH (C+1) λk=>fi L G r k (q r k)
theorem pK (q:Nat->Nat->Int)(x:Int)(hr:r<R+1)(hk:k<C+1):gC R C L G (cC q r k x)=gC R C L G q-fi L G r k (q r k)+fi L G r k x:=by
 unfold gC;have h:∀a,(bH (C+1) λb=>fi L G a b (cC q r k x a b))=if a=r then bH (C+1) (λb=>fi L G r b (q r b))-fi L G r k (q r k)+fi L G r k x else bH (C+1) λb=>fi L G a b (q a b):=λa=>by
  by_cases z:a=r
  ·subst z;rw[if_pos rfl,<-zkb (λb=>fi L G a b (q a b)) (fi L G a k x) hk];refine Cy λb _=>?_
   unfold cC
   by_cases y:b=k
   ·subst y;rw[if_pos ⟨rfl,rfl⟩,if_pos rfl]
   ·rw[if_neg λz=>y z.2,if_neg y]
  ·rw[if_neg z];refine Cy λb _=>?_
   rw[mI _ _ λy=>z y.1]
 rw[Cy λa _=>h a,zkb (λa=>bH (C+1) λb=>fi L G a b (q a b)) _ hr];lia
theorem Pe (r k:Nat):fi L G r k 0=0:=by unfold fi;rw[Int.zero_mul,Int.zero_mul];rfl
theorem zo9 (h:Vl R C c u v){d:D}(hd:cL [d]=some (wL c (uC u v)))(hR:R<=50)(hC:C<=50):Ok (Ti [cP R C S L G,d]) λx=>x=tS (R+1) (C+1) (dF u v c):=by
 simp![↓Ti,↓ze7];refine⟨by lia,Nd (λρ=>∃z,ρ=[z]) (λa=>wI (C+1) λb=>0) ⟨_,rfl⟩ ?_ ?_⟩
 ·rintro a _ ha ⟨z,rfl⟩;simp![↓Gq,↓zfE];exact⟨⟨gB (by lia) (by lia),by lia⟩,by rw[<-mE,zmf],_,rfl⟩
 rintro _ ⟨z,rfl⟩;rw[show((List.range (R+1)).map λa=>wI (C+1) λb=>0).map Ch.l=tC (R+1) (C+1) (dF u v 0)from by unfold tC;rw[fA];rfl];simp![↓zfH,hd];refine fN (λi ρ=>∃s4 s5,fL [s4,s5]=true/\ρ=[.val (cP R C S L G),.val d,tS (R+1) (C+1) (dF u v i),.val (.int (alt i)),s4,s5]) ⟨_,_,rfl,rfl⟩ ?_ ?_
 ·rintro i _ hi ⟨s4,s5,no,rfl⟩;obtain⟨h1,h2⟩:=h i hi;simp![↓zfw];refine(Xn _ _).mono ?_;rintro _ rfl;simp![oV,uW _ h1,aZ _ h2,h1,h2,Ni _ _ h1 h2];have eo:alt i*sg (u i) (v i)=oU u v i:=by unfold oU;rw[rW,Int.mul_comm]
  rw[eo,<-Cw];exact⟨Fi (sA i),_,_,⟨rfl,rfl⟩,rfl⟩
 ·rintro _ ⟨s4,s5,no,rfl⟩;simp![]
theorem Et (n9:C<=50)(q l g:Nat->Int)(hq:∀k,-1000<=q k/\q k<=1000):Ok (Om [.lst (wI (C+1) q),.tup (wI (C+1) l),.tup (wI (C+1) g)]) λx=>x= .val (.int (bH (C+1) λk=>dN (q k*l k) (q k*g k))):=by
 simp![↓Om,↓zcJ,↓zdh,Wf];refine⟨by lia,gP (λρ=>∃s1 s2 s3,ρ=[s1,s2,s3]) (λk=> .int (dN (q k*l k) (q k*g k))) ⟨_,_,_,rfl⟩ ?_ ?_⟩
 ·rintro k _ hk ⟨s1,s2,s3,rfl⟩;simp![↓zdc];have:=hq k;exact⟨kJ (by lia),kJ (by lia),_,_,_,rfl⟩
 rintro _ ⟨s1,s2,s3,rfl⟩;simp![];rw[show hU (wL (C+1) λk=>D.int (dN (q k*l k) (q k*g k)))=some ((List.range (C+1)).map λk=>dN (q k*l k) (q k*g k))from zm3 _ _];simp![];rw[zi2]
theorem mV (h:Vl R C c u v)(c9:c<=100){d:D}(hd:cL [d]=some (wL c (uC u v)))(hR:R<=50)(hC:C<=50):Ok (Us [cP R C S L G,d]) λx=>x= .val (.int (gC R C L G (dF u v c))):=by
 simp![↓Us,↓Zu,↓zc0];refine(zo9 h hd hR hC).mono ?_;rintro _ rfl;simp![wD,Wf];refine fN (λr ρ=>∃s3 s4 s5,ρ=[.val (cP R C S L G),.val d,.val (.int (bH r λr=>bH (C+1) λk=>fi L G r k (dF u v c r k))),s3,s4,s5]) ⟨_,_,_,rfl⟩ ?_ ?_
 ·rintro r _ hr ⟨s3,s4,s5,rfl⟩;simp![↓zcX];refine(Et (by lia) _ _ _ λk=>by have:=zpD u v c r k;lia).mono ?_;rintro _ rfl;simp![];exact⟨_,_,_,rfl⟩
 ·rintro _ ⟨s3,s4,s5,rfl⟩;simp![]
  rfl
end
section
variable {R C:Nat}{S L G:Nat->Nat->Int}{c:Nat}{x y:Nat->Int}
abbrev nn (x:Nat->Int)(i:Nat):Nat:=(x i).toNat
theorem TourP.vl (p:TourP R C c x y):Vl R C c (nn x) (nn y)/\wL c (dM x y)=wL c (uC (nn x) (nn y)):=by
 refine⟨λi hi=>?_,kX λi hi=>?_⟩
 ·have:=p.2.2.1 i hi;unfold iX at this;unfold nn;lia
 ·have:=p.2.2.1 i hi;unfold iX at this;show D.tup [.int (x i),.int (y i)]= .tup [.int ((x i).toNat:Nat),.int ((y i).toNat:Nat)];rw[Int.toNat_of_nonneg (by lia),Int.toNat_of_nonneg (by lia)]
def Rk (R C:Nat)(S L G:Nat->Nat->Int)(c:Nat)(x y:Nat->Int):Prop:=TourP R C c x y/\(bH c λi=>oU (nn x) (nn y) i*cT S (nn x i) (nn y i))>gC R C L G (dF (nn x) (nn y) c)
theorem zjV (t:Bool)(c9:c<=100)(cyc:x c=x 0/\y c=y 0)(hR:R<=50)(hC:C<=50):Ok (tF [cP R C S L G,.tup [.str "tour",if t then .tup (wL c (dM x y))else .lst (wL c (dM x y))]]) (Jg (Rk R C S L G c x y)):=by
 have st:(("tour":Str)=="floor")=false:=by decide+kernel
 have st2:(("tour":Str)=="tour")=true:=by decide+kernel
 have hd:cL [if t then .tup (wL c (dM x y))else .lst (wL c (dM x y))]=some (wL c (dM x y)):=by cases t<;>rfl
 generalize hdd:(if t=true then D.tup (wL c (dM x y))else .lst (wL c (dM x y)))=d at hd
 simp![↓tF,↓Yu,st,↓zfM,st2,↓Vm,↓zgs];rw[<-hdd];refine(zpq t c9 cyc).mono ?_;rintro _ ⟨z,rfl,hz⟩;rw[hdd];cases z with
 |false=>
  simp![];exact Jg.no λp=>by have:=hz.mpr p.1;cases this
 |true=>
  have p:=hz.mp rfl;obtain⟨vl,e⟩:=p.vl;rw[e]at hd;simp![];refine(zky (by lia) (by lia)).mono ?_;rintro _ rfl;simp![];refine(wB vl hd).mono ?_;rintro _ rfl;simp![];refine(mV vl c9 hd hR hC).mono ?_;rintro _ rfl;simp![];exact Jg.dec ⟨λq=>q.2,λq=>⟨p,q⟩⟩
end
theorem zk0 {d1 d2 d3:D}{r L G:Nat->Int}(h1:Sq d1 m r)(h2:Sq d2 n L)(h3:Sq d3 n G)(hn:n<=1000):
  Ok (Qz [d1,d2,d3]) λx=>∃b,x= .val (.bl b)/\(b=true↔m=n/\∀p,p<n->L p<=r p/\r p<=G p):=by
 simp![↓Qz,↓zf4,h1.ln,h2.ln];refine⟨λh=>⟨false,rfl,by simp;lia⟩,λh=>?_⟩;have e:m=n:=by lia
 subst e;simp![↓zfZ,↓zgq,h1.it,h2.it,h3.it];refine⟨by lia,gP (λρ=>∃a b c,ρ=[a,b,c]) (λp=> .bl (decide (L p<=r p)&&decide (r p<=G p))) ⟨_,_,_,rfl⟩ ?_ ?_⟩
 ·rintro p _ hp ⟨a,b,c,rfl⟩;simp![↓zf3];refine⟨λh=>⟨by simp[h],_,_,_,rfl⟩,λh=>⟨?_,_,_,_,rfl⟩⟩;rw[mG (by lia)];rfl
 ·rintro _ ⟨a,b,c,rfl⟩;simp![Lw];refine⟨_,rfl,?_⟩;rw[Gf];simp
section
variable {R C:Nat}{S L G f:Nat->Nat->Int}
theorem sq2 (g:Nat->Int){n k:Nat}(h:k+2<=n):bD (wI n g) (some (k:Int)) (some ((k:Int)+2))=[.int (g k),.int (g (k+1))]:=by
 rw[show((k:Int)+2)=((k:Int)+((2:Nat):Int))from rfl,Dt _ h]
 rfl
theorem i2 (a b:Int):hU [.int a,.int b]=some [a,b]:=rfl
theorem zps (n9:n<=50)(u l:Nat->Int):Ok (Up [.tup (wI (n+1) u),.tup (wI (n+1) l)]) λx=>x= .val (.tup (wI n λk=>u k+u (k+1)+l k+l (k+1))):=by
 have e1:(((n+1:Nat):Int)-1).toNat=n:=by lia
 simp![↓Up,↓zfb,↓zfP,e1];refine⟨gB (by lia) (by lia),by lia,gP (λρ=>∃s,ρ=[.val (.tup (wI (n+1) u)),.val (.tup (wI (n+1) l)),s]) (λk=> .int (u k+u (k+1)+l k+l (k+1))) ⟨_,rfl⟩ ?_ ?_⟩
 ·rintro k _ hk ⟨s,rfl⟩;simp![↓zfD,sq2 _ (show k+2<=n+1 by lia),i2];refine⟨?_,_,rfl⟩;congr 2;simp;lia
 ·rintro _ ⟨s,rfl⟩;simp![]
theorem oA (hR:R<=50)(hC:C<=50):Ok (Ql [tT (R+1) (C+1) f]) λx=>x= .val (tT R C (four f)):=by
 have e1:(((R+1:Nat):Int)-1).toNat=R:=by lia
 simp![↓Ql,↓Zq,↓zf6,e1];refine⟨gB (by lia) (by lia),by lia,gP (λρ=>∃s,ρ=[.val (tT (R+1) (C+1) f),s]) (λr=> .tup (wI C (four f r))) ⟨_,rfl⟩ ?_ ?_⟩
 ·rintro r _ hr ⟨s,rfl⟩;have a1:(r:Int)+1=((r+1:Nat):Int):=by lia
  simp![↓zfS,a1,aZ _ (show r<R+1 by lia),aZ _ (show r+1<R+1 by lia)];refine(zps hC _ _).mono ?_;rintro _ rfl;simp![];exact⟨rfl,_,rfl⟩
 ·rintro _ ⟨s,rfl⟩;simp![]
end
theorem zmV {α:Type}(f g:α->D):∀l:AA α,cS (l.map f) (l.map g)=l.all λi=>eJ (f i) (g i)
 |[]=>rfl
 |a::l=>by simp[cS,zmV f g l]
theorem Ct (R C:Nat)(f:Nat->Nat->Int):Pl 2 (tT R C f):=My (sD λr=>My (sD λc=>Da 0 _))
theorem oT (R C:Nat)(f g:Nat->Nat->Int):cV (tT R C f) (tT R C g)=some (.bl ((List.range R).all λr=>Xv C (f r) (g r))):=by
 have p1:=Ct R C f;have p2:=Ct R C g;unfold cV;rw[p1.1,p2.1,iP (jE p1.2 (by decide:2<=50))];simp only[Bool.and_self,if_true,eJ];unfold wL;rw[zmV];congr 2;apply List.all_congr rfl;intro r;simp only[eJ];rw[pQ,pQ,znh];rfl
section
variable {R C:Nat}{S L G f:Nat->Nat->Int}{A:Nat}{m:Nat->Nat}
abbrev jT (A:Nat)(m:Nat->Nat)(f:Nat->Nat->Int):D:= .tup (wL A λr=> .tup (wI (m r) (f r)))
def Xl (R C:Nat)(S L G:Nat->Nat->Int)(A:Nat)(m:Nat->Nat)(f:Nat->Nat->Int):Prop:=A=R+1/\(∀r,r<R+1->m r=C+1/\∀k,k<C+1->L r k<=f r k/\f r k<=G r k)/\∀r,r<R->∀k,k<C->four f r k=S r k
theorem Bt (h:∀r,r<R+1->m r=C+1):jT (R+1) m f=tT (R+1) (C+1) f:=by
 show D.tup (wL (R+1) _)=D.tup (wL (R+1) _);congr 1;exact kX λr hr=>by(try dsimp only);rw[h r hr]
theorem all_tT:((List.range R).all λr=>Xv C (f r) (g r))=true↔∀r,r<R->∀k,k<C->f r k=g r k:=by
 rw[Bu];exact⟨λh r hr=>eqW_iff.mp (h r (qah.mpr hr)),λh r hr=>eqW_iff.mpr (h r (qah.mp hr))⟩
theorem tU (hR:R<=40)(hC:C<=40):Ok (Sr [jT A m f,tT (R+1) (C+1) L,tT (R+1) (C+1) G]) (Jg (A=R+1/\∀r,r<R+1->m r=C+1/\∀k,k<C+1->L r k<=f r k/\f r k<=G r k)):=by
 obtain⟨b1,h1⟩:=zpu (P:=λr=>m r=C+1/\∀k,k<C+1->L r k<=f r k/\f r k<=G r k) 0;simp![↓Sr,↓zfa];refine⟨λh=>Jg.no λp=>AH p.1 (by lia),λh=>?_⟩;have e:A=R+1:=by lia
 subst e;simp![↓zfB,↓zfI,Wf];refine⟨by lia,gP (λρ=>∃s1 s2 s3,ρ=[s1,s2,s3]) (λr=> .bl (b1 r)) ⟨_,_,_,rfl⟩ ?_ ?_⟩
 ·rintro r _ hr ⟨s1,s2,s3,rfl⟩;simp![↓zfA];refine(zk0 (Sq.tup _ _) (Sq.tup _ _) (Sq.tup _ _) (by lia)).mono ?_;rintro _ ⟨z,rfl,hz⟩;have:z=b1 r:=by
   have:=hz.trans (h1 r).symm;cases z<;>cases q:b1 r<;>simp[q]at this ⊢
  subst this;simp![];exact⟨_,_,_,rfl⟩
 rintro _ ⟨s1,s2,s3,rfl⟩;simp![Lw];exact⟨_,rfl,(Gf (R+1) b1).trans ⟨λh r hr=>(h1 r).mp (h r hr),λp r hr=>(h1 r).mpr (p r hr)⟩⟩
theorem zl4 (hR:R<=40)(hC:C<=40):Ok (tF [cP R C S L G,.tup [.str "floor",jT A m f]]) (Jg (Xl R C S L G A m f)):=by
 have st:(("floor":Str)=="floor")=true:=by decide+kernel
 simp![↓tF,↓Yu,st,↓Xy,↓zff];refine(tU hR hC).mono ?_;rintro _ ⟨z,rfl,hz⟩;cases z with
 |false=>
  simp![];exact Jg.no λp=>by have:=hz.mpr ⟨p.1,p.2.1⟩;cases this
 |true=>
  obtain⟨rfl,p⟩:=hz.mp rfl;rw[Bt λr hr=>(p r hr).1];simp![];refine(oA (by lia) (by lia)).mono ?_;rintro _ rfl;simp![oT];exact⟨_,rfl,all_tT.trans ⟨λq=>⟨rfl,p,q⟩,λq=>q.2.2⟩⟩
end
theorem Uy (r c:Nat):Ok (sT [.int (r:Nat),.int (c:Nat)]) λx=>x= .val (.int (sg r c)):=by
 have e:((r:Int)+(c:Int))%2=(((r+c)%2:Nat):Int):=by lia
 simp![↓sT,↓zhf,e];have:(r+c)%2=0\/(r+c)%2=1:=by lia
 unfold sg;rcases this with z|z<;>rw[z]<;>simp[Ok,aH]
section
variable {J:Type}[DecidableEq J]
theorem Zv (g:J->D)(x:J):∀ks:AA J,iQ ks (ks.map g) x=if x∈ks then some (g x)else none
 |[]=>rfl
 |q::ks=>by
  rw[jJ,iQ,Zv g x ks]
  by_cases e:q=x
  ·subst e;simp
  ·have e2:x≠q:=λz=>e z.symm
   simp[e,e2]
def uI (x:J)(ks:AA J):AA J:=if x∈ks then ks else ks++[x]
theorem Ii (g:J->D)(x:J)(d:D)(ks:AA J):jV ks (ks.map g) x d=(uI x ks,(uI x ks).map λy=>if y=x then d else g y):=by
 unfold jV uI
 by_cases h:x∈ks
 ·rw[if_pos (List.contains_iff_mem.mpr h),if_pos h];congr 1;clear h
  induction ks with
  |nil=>rfl
  |cons q ks ih=>
   rw[jJ,jJ,List.zipWith_cons_cons,ih]
 ·rw[if_neg (λc=>h (List.contains_iff_mem.mp c)),if_neg h];congr 1;rw[qb9];congr 1
  ·apply mD;intro y hy;have:y≠x:=λz=>h (z ▸ hy)
   simp[this]
  ·simp
end
theorem Lq (a b:Int):iW (.tup [.int a,.int b])=some [a,b]:=rfl
theorem zov (u v:Nat->Nat):∀{j:Nat},(∀i,i<j->¬(r=u i/\k=v i))->dF u v j r k=0
 |0,_=>rfl
 |j+1,h=>by
  unfold dF;rw[mI _ _ (h j (by lia))];exact zov u v λi hi=>h i (by lia)
section
variable {R C:Nat}{S L G f:Nat->Nat->Int}{c:Nat}{u v:Nat->Nat}
theorem Lg (h:Vl R C c u v):Ok (Og [tL (R+1) (C+1) f,.lst (wL c (uC u v))]) λx=>x= .val (.int (bH c λi=>oU u v i*f (u i) (v i))):=by
 simp![↓Og,↓zet,↓zeJ,xE];refine fN (λi ρ=>∃s3 s4 s5 s6,ρ=[.val (tL (R+1) (C+1) f),.val (.lst (wL c (uC u v))),.val (.int (bH i λi=>oU u v i*f (u i) (v i))),s3,s4,s5,s6]) ⟨_,_,_,_,rfl⟩ ?_ ?_
 ·rintro i _ hi ⟨s3,s4,s5,s6,rfl⟩;obtain⟨l1,l2⟩:=h i hi;simp![↓zez];refine(Uy _ _).mono ?_;rintro _ rfl;simp![];refine(Uy i 0).mono ?_;rintro _ rfl;simp![aZ _ l1,aZ _ l2];exact⟨Fi (xU _ _),Fi (mY u v i),_,_,_,_,rfl⟩
 ·rintro _ ⟨s3,s4,s5,s6,rfl⟩;simp![]
def kk (p:Nat×Nat):AA Int:=[(p.1:Int),(p.2:Int)]
theorem mX {p q:Nat×Nat}(h:kk p=kk q):p=q:=by
 unfold kk at h;have h1:(p.1:Int)=q.1:=by injection h
 have h2:(p.2:Int)=q.2:=by injection h with _ h;injection h
 exact Prod.ext (by lia) (by lia)
def gV (q:Nat->Nat->Int)(k:AA Int):D:=match k with
 |[a,b]=> .int (q a.toNat b.toNat)
 |_=> .non
theorem Ri (q:Nat->Nat->Int)(p:Nat×Nat):gV q (kk p)= .int (q p.1 p.2):=by
 show D.int (q ((p.1:Int)).toNat ((p.2:Int)).toNat)=_;rw[Lx,Lx]
theorem kk_mem {ps:AA (Nat×Nat)}:kk p∈ps.map kk↔p∈ps:=⟨λh=>by
 obtain⟨q,hq,e⟩:=qb1.mp h;rw[<-mX e];exact hq,λh=>qb1.mpr ⟨p,h,rfl⟩⟩
def iA (L G:Nat->Nat->Int)(q:Nat->Nat->Int):AA (Nat×Nat)->Int
 |[]=>0
 |p::ps=>fi L G p.1 p.2 (q p.1 p.2)+iA L G q ps
theorem zmp (q:Nat->Nat->Int)(b:AA (Nat×Nat)):∀a:AA (Nat×Nat),iA L G q (a++b)=iA L G q a+iA L G q b
 |[]=>by show iA L G q b=0+_;lia
 |p::a=>by show _+iA L G q (a++b)=_+iA L G q a+_;rw[zmp q b a];lia
theorem zmo (q:Nat->Nat->Int)(x:Int):∀ps:AA (Nat×Nat),(r,k)∉ps->iA L G (cC q r k x) ps=iA L G q ps
 |[],_=>rfl
 |p::ps,h=>by
  show fi L G p.1 p.2 (cC q r k x p.1 p.2)+iA L G (cC q r k x) ps=_;rw[zmo q x ps λz=>h (iN _ z),mI _ _ λz=>h (by rw[show(r,k)=p from Prod.ext z.1.symm z.2.symm];exact jP)]
  rfl
theorem sF (q:Nat->Nat->Int)(x:Int):∀ps:AA (Nat×Nat),ps.Nodup->(r,k)∈ps->iA L G (cC q r k x) ps=iA L G q ps-fi L G r k (q r k)+fi L G r k x
 |[],_,h=>by cases h
 |p::ps,nd,h=>by
  obtain⟨n1,n2⟩:=qaO.mp nd;show fi L G p.1 p.2 (cC q r k x p.1 p.2)+iA L G (cC q r k x) ps=fi L G p.1 p.2 (q p.1 p.2)+iA L G q ps-_+_
  by_cases z:(r,k)=p
  ·subst z;rw[zmo q x ps n1];dsimp only;rw[Mz];lia
  ·rw[sF q x ps n2 ((qam.mp h).resolve_left z),mI _ _ λy=>z (Prod.ext y.1.symm y.2.symm)];lia
theorem El (p:Nat×Nat)(ps:AA (Nat×Nat)):uI (kk p) (ps.map kk)=(uI p ps).map kk:=by
 unfold uI
 by_cases h:p∈ps
 ·rw[if_pos h,if_pos (kk_mem.mpr h)]
 ·rw[if_neg h,if_neg λz=>h (kk_mem.mp z),qb9];rfl
structure Oft (L G:Nat->Nat->Int)(R C j:Nat)(u v:Nat->Nat)(ps:List (Nat×Nat)):Prop where
 nd:ps.Nodup
 lt:∀p∈ps,p.1<R+1/\p.2<C+1
 mem:∀i,i<j->(u i,v i)∈ps
 len:ps.length<=j
 sum:iA L G (dF u v j) ps=gC R C L G (dF u v j)
theorem Oft.old{ps:List (Nat×Nat)}(o:Oft L G R C c u v ps):(iQ (ps.map kk) ((ps.map kk).map (gV (dF u v c))) (kk (u c,v c))).getD (.int 0)= .int (dF u v c (u c) (v c)):=by
 rw[Zv]
 by_cases h:(u c,v c)∈ps
 ·rw[if_pos (kk_mem.mpr h),Option.getD_some,Ri]
 ·rw[if_neg λz=>h (kk_mem.mp z),Option.getD_none,zov u v λi hi e=>h (by rw[e.1,e.2];exact o.mem i hi)]
theorem Oft.put{ps:List (Nat×Nat)}(o:Oft L G R C c u v ps):jV (ps.map kk) ((ps.map kk).map (gV (dF u v c))) (kk (u c,v c)) (.int (dF u v c (u c) (v c)+oU u v c))=((uI (u c,v c) ps).map kk,((uI (u c,v c) ps).map kk).map (gV (dF u v (c+1)))):=by
 rw[Ii,El];congr 1;refine mD λy hy=>?_
 obtain⟨p,hp,rfl⟩:=qb1.mp hy
 by_cases z:p=(u c,v c)
 ·subst z;rw[if_pos rfl,Ri];show _=D.int (cC _ _ _ _ _ _);rw[Mz]
 ·rw[if_neg λq=>z (mX q),Ri,Ri];show _=D.int (cC _ _ _ _ _ _);rw[mI _ _ λy=>z (Prod.ext y.1 y.2)]
theorem Oft.next{ps:List (Nat×Nat)}(o:Oft L G R C c u v ps)(h:u c<R+1/\v c<C+1):Oft L G R C (c+1) u v (uI (u c,v c) ps):=by
 have ts:=pK (L:=L) (G:=G) (dF u v c) (dF u v c (u c) (v c)+oU u v c) h.1 h.2;unfold uI
 by_cases m:(u c,v c)∈ps
 ·rw[if_pos m];refine⟨o.nd,o.lt,λi hi=>?_,by have:=o.len;omega,?_⟩
  ·by_cases z:i<c
   ·exact o.mem i z
   ·rw[show i=c by omega];exact m
  ·show iA L G (cC _ _ _ _) ps=gC R C L G (cC _ _ _ _);rw[sF _ _ _ o.nd m,ts,o.sum]
 ·rw[if_neg m];refine⟨qcx.mpr ⟨o.nd,by simp,λa ha b hb e=>m (by rw[qcs.mp hb]at e;exact e ▸ ha)⟩,λp hp=>?_,λi hi=>?_,by rw[eB,Ut];have:=o.len;omega,?_⟩
  ·rcases qan.mp hp with a|a
   ·exact o.lt p a
   ·rw[qcs.mp a];exact h
  ·by_cases z:i<c
   ·exact kZ _ (o.mem i z)
   ·rw[show i=c by omega];exact eX _ jP
  ·show iA L G (cC _ _ _ _) (ps++[(u c,v c)])=gC R C L G (cC _ _ _ _);have z:dF u v c (u c) (v c)=0:=zov u v λi hi e=>m (by rw[e.1,e.2];exact o.mem i hi)
   rw[zmp,zmo _ _ _ m,ts,o.sum,z,Pe];show _+(fi L G (u c) (v c) (cC _ _ _ _ (u c) (v c))+0)=_;rw[Mz];omega
theorem pI (h:Vl R C c u v)(c9:c<=100)(L G:Nat->Nat->Int):Ok (Su [.lst (wL c (uC u v))]) λx=>∃ps,Oft L G R C c u v ps/\x= .val (.dit (ps.map kk) ((ps.map kk).map (gV (dF u v c)))):=by
 simp![↓Su,↓Zs,↓zgf,xE];refine fN (λi ρ=>∃(ps:AA (Nat×Nat)) (s2 s3 s4:Sl),Oft L G R C i u v ps/\ρ=[.val (.lst (wL c (uC u v))),.tre (.dit (ps.map kk) ((ps.map kk).map (gV (dF u v i)))),s2,s3,s4]) ⟨[],_,_,_,⟨Oy,λp hp=>AH hp Nk,λi hi=>AH hi (by lia),jR _,?_⟩,rfl⟩ ?_ ?_
 ·show(0:Int)=gC R C L G (λ_ _=>0);unfold gC;rw[Cy (g:=λ_=>0) λr _=>by rw[Cy (g:=λ_=>0) λk _=>Pe r k];exact ziV _];exact(ziV _).symm
 ·rintro i _ hi ⟨ps,s2,s3,s4,o,rfl⟩;have l:=h i hi;have lk:(iQ (ps.map kk) ((ps.map kk).map (gV (dF u v i))) [(u i:Int),(v i:Int)]).getD (.int 0)=_:=o.old;have pm:jV (ps.map kk) ((ps.map kk).map (gV (dF u v i))) [(u i:Int),(v i:Int)] (.int (dF u v i (u i) (v i)+sg (u i) (v i)*sg i 0))=_:=o.put;simp![↓zge,Lq];refine(Uy _ _).mono ?_;rintro _ rfl;simp![];refine(Uy i 0).mono ?_;rintro _ rfl;simp![lk,Lq,pm];exact⟨Fi (xU _ _),by have:=o.len;lia,_,_,_,_,o.next l,rfl⟩
 ·rintro _ ⟨ps,s2,s3,s4,o,rfl⟩;simp![];exact⟨ps,o,rfl⟩
theorem yB (h:Vl R C c u v)(c9:c<=100):Ok (Pd [cP R C S L G,.lst (wL c (uC u v))]) λx=>x= .val (.int (gC R C L G (dF u v c))):=by
 simp![↓Pd,↓zcb];refine(pI h c9 L G).mono ?_;rintro _ ⟨ps,o,rfl⟩;simp![↓zcu];rw[show((ps.map kk).map λk=>D.tup (k.map .int))=ps.map λp:Nat×Nat=>D.tup [.int (p.1:Nat),.int (p.2:Nat)]from by rw[fA];rfl];refine Yb (enc:=λp:Nat×Nat=>D.tup [.int (p.1:Nat),.int (p.2:Nat)]) (l:=ps) (λi ρ=>∃s7 s8,ρ=[.val (cP R C S L G),.val (.lst (wL c (uC u v))),.val (tT R C S),.val (tT (R+1) (C+1) L),.val (tT (R+1) (C+1) G),.val (.dit (ps.map kk) ((ps.map kk).map (gV (dF u v c)))),.val (.int (iA L G (dF u v c) (ps.take i))),s7,s8]) ⟨_,_,rfl⟩ ?_ ?_
 ·rintro i p _ hp ⟨s7,s8,rfl⟩;have mp:p∈ps:=xB hp;obtain⟨l1,l2⟩:=o.lt p mp;have lk:iQ (ps.map kk) ((ps.map kk).map (gV (dF u v c))) [(p.1:Int),(p.2:Int)]=some (.int (dF u v c p.1 p.2)):=by
   have:=Zv (gV (dF u v c)) (kk p) (ps.map kk);rw[if_pos (kk_mem.mpr mp),Ri]at this;exact this
  have le:=zpD u v c p.1 p.2;have tk:iA L G (dF u v c) (ps.take (i+1))=iA L G (dF u v c) (ps.take i)+dN (dF u v c p.1 p.2*L p.1 p.2) (dF u v c p.1 p.2*G p.1 p.2):=by
   obtain⟨h1,h2⟩:=qap.mp hp;rw[qb2 h1,zmp,h2];show _+(fi L G p.1 p.2 (dF u v c p.1 p.2)+0)=_;unfold fi;lia
  simp![↓zcv,Lq,lk,aZ _ l1,aZ _ l2];exact⟨kJ (by lia),kJ (by lia),_,_,by rw[tk]⟩
 ·rintro _ ⟨s7,s8,rfl⟩;simp![List.take_length,o.sum]
theorem zlw (hR:R<=50)(hC:C<=50):Ok (Lb [cP R C S L G]) λx=>x= .own (wL (R+1) λr=> .lst (wI (C+1) (cT S r))):=by
 simp![↓Lb,↓zgH,aZ _ (show 0<R+1 by lia)];have e0:([D.int 0]::List.replicate C [D.int 0]).flatten=wI (C+1) (cT S 0):=by rw[<-mE];exact zmf _ _
 simp![↓zf9];refine⟨⟨⟨by lia,by lia⟩,by lia⟩,fN (λi ρ=>∃s5 s6 s7 s8 s9,ρ=[.val (cP R C S L G),.val (tT R C S),.val (tT (R+1) (C+1) L),.val (tT (R+1) (C+1) G),.own (wL (i+1) λr=> .lst (wI (C+1) (cT S r))),s5,s6,s7,s8,s9]) ⟨.emp,.emp,.emp,.emp,.emp,by rw[e0];rfl⟩ ?_ ?_⟩
 ·rintro i _ hi ⟨s5,s6,s7,s8,s9,rfl⟩;simp![↓zgI,↓zgk,xE];refine fN (λj ρ=>∃s7 s8 s9,ρ=[.val (cP R C S L G),.val (tT R C S),.val (tT (R+1) (C+1) L),.val (tT (R+1) (C+1) G),.own (wL (i+1) λr=> .lst (wI (C+1) (cT S r))),.val (.tup (wI C (S i))),.own (wI (j+1) (cT S (i+1))),s7,s8,s9]) ⟨_,_,_,rfl⟩ ?_ ?_
  ·rintro j _ hj ⟨s7,s8,s9,rfl⟩;have hc:=Dt (n:=C+1) (a:=j) (b:=2) (λk=> .int (cT S i k)) (by lia);have e2:(j:Int)+((2:Nat):Int)=(j:Int)+2:=rfl;rw[e2]at hc;simp![↓zgx,zlK,hc,zm3,zi2,aZ _ (show j<j+1 by lia)];have es:(S i j-bH 2 λk=>cT S i (j+k))-cT S (i+1) j=cT S (i+1) (j+1):=by
    show(S i j-(0+cT S i (j+0)+cT S i (j+1)))-cT S (i+1) j=S i j-cT S i j-cT S i (j+1)-cT S (i+1) j;rw[Nat.add_zero];lia
   rw[es];exact⟨by lia,_,_,_,by rw[show wI (j+1+1) (cT S (i+1))=_ from gE _ _]⟩
  ·rintro _ ⟨s7,s8,s9,rfl⟩;simp![];exact⟨by lia,_,_,_,_,_,by rw[gE (i+1)]⟩
 ·rintro _ ⟨s5,s6,s7,s8,s9,rfl⟩;simp![]
end
theorem nM (a b a' b':Int):cV (.tup [.int a,.int b]) (.tup [.int a',.int b'])=some (.bl (a==a'&&b==b')):=by
 have p:∀a b:Int,Pl 1 (.tup [.int a,.int b]):=λa b=>My λd hd=>by
  rcases qam.mp hd with rfl|hd
  ·exact Da 0 _
  ·rw[qcs.mp hd];exact Da 0 _
 unfold cV;rw[(p a b).1,(p a' b').1,iP (jE (p a b).2 (by decide:1<=50))];simp[eJ,cS]
theorem Ha (a b:Int):fX [.tup [.int a,.int b]]=some (.tup [.int a,.int b]):=rfl
section
variable {R C:Nat}{S L G f:Nat->Nat->Int}{A:Nat}{m:Nat->Nat}{c:Nat}{x y:Nat->Int}
theorem rN (hR:R<=40)(hC:C<=40)(hA:A<=100):Ok (Tg [cP R C S L G,jT A m f]) (Jg (Xl R C S L G A m f)):=by
 simp![↓Tg,↓zcD,zpe];refine⟨λh=>Jg.no λp=>h (by rw[p.1]),λh=>?_⟩;have e:A=R+1:=by lia
 subst e;simp![↓zdp];refine⟨by lia,gP (λρ=>∃z,ρ=[.val (tT (R+1) (C+1) L),z]) (λr=> .bl (decide (m r=C+1))) ⟨_,rfl⟩ ?_ ?_⟩
 ·rintro r _ hr ⟨z,rfl⟩;simp![↓zdf,aZ _ (show 0<R+1 by lia)];refine⟨?_,_,rfl⟩
  by_cases q:m r=C+1
  ·rw[iP q,q];simp
  ·rw[mG q];congr 2;rw[qab];lia
 rintro _ ⟨z,rfl⟩;simp![Lw];refine⟨λq=>Jg.no λp=>?_,λq=>?_⟩
 ·have:=(Gf (R+1) λr=>decide (m r=C+1)).mpr λr hr=>iP (p.2.1 r hr).1
  rw[this]at q;cases q
 have hm:∀r,r<R+1->m r=C+1:=λr hr=>of_decide_eq_true ((Gf (R+1) λr=>decide (m r=C+1)).mp (by revert q;cases((List.range (R+1)).map λr=>decide (m r=C+1)).all id<;>simp) r hr)
 rw[Bt (f:=f) hm];have no:∀{r k:Nat},r<R+1->k<C+1->¬(L r k<=f r k/\f r k<=G r k)->¬Xl R C S L G (R+1) m f:=λhr hk z p=>z ((p.2.1 _ hr).2 _ hk)
 simp![↓zdx,↓zdw];refine⟨gB (by lia) (by lia),fN (λr ρ=>(∀a,a<r->∀k,k<C+1->L a k<=f a k/\f a k<=G a k)/\∃s5 s6,ρ=[.val (cP R C S L G),.val (tT (R+1) (C+1) f),.val (tT R C S),.val (tT (R+1) (C+1) L),.val (tT (R+1) (C+1) G),s5,s6]) ⟨λa h=>AH h (by lia),_,_,rfl⟩ ?_ ?_⟩
 ·rintro r _ hr ⟨ha,s5,s6,rfl⟩;simp![↓zdd,↓zdq,aZ _ (show 0<R+1 by lia)];refine⟨gB (by lia) (by lia),fN (λk ρ=>(∀j,j<k->L r j<=f r j/\f r j<=G r j)/\∃s6,ρ=[.val (cP R C S L G),.val (tT (R+1) (C+1) f),.val (tT R C S),.val (tT (R+1) (C+1) L),.val (tT (R+1) (C+1) G),.val (.int (r:Nat)),s6]) ⟨λa h=>AH h (by lia),_,rfl⟩ ?_ ?_⟩
  ·rintro k _ hk ⟨hb,s6,rfl⟩
   by_cases l1:L r k<=f r k
   ·by_cases l2:f r k<=G r k
    ·simp![↓Xk,aZ _ hr,aZ _ hk,l1,l2];refine⟨λj hj=>?_,_,rfl⟩
     by_cases z:j<k
     ·exact hb j z
     ·rw[show j=k by lia];exact⟨l1,l2⟩
    ·simp![↓Xk,aZ _ hr,aZ _ hk,l1,l2];exact Jg.no (no hr hk λz=>l2 z.2)
   ·simp![↓Xk,aZ _ hr,aZ _ hk,l1];exact Jg.no (no hr hk λz=>l1 z.1)
  ·rintro _ ⟨hb,s6,rfl⟩;simp![];refine⟨λa h=>?_,_,_,rfl⟩
   by_cases z:a<r
   ·exact ha a z
   ·rw[show a=r by lia];exact hb
 ·rintro _ ⟨ha,s5,s6,rfl⟩;simp![];refine(zml _ (.inl rfl) (by lia) (by lia)).mono ?_;rintro _ rfl;simp![oT];exact⟨_,rfl,all_tT.trans ⟨λq=>⟨rfl,λr hr=>⟨hm r hr,ha r hr⟩,q⟩,λq=>q.2.2⟩⟩
theorem znD (hR:R<=40)(hC:C<=40)(c9:c<=100)(cyc:x c=x 0/\y c=y 0):Ok (Pk [.int ((R+1:Nat):Int),.int ((C+1:Nat):Int),.lst (wL c (dM x y))]) (Jg (TourP R C c x y)):=by
 simp![↓Pk,↓zeu];refine⟨λh=>Jg.no λp=>by unfold TourP at p;lia,λh=>⟨λh2=>Jg.no λp=>by unfold TourP at p;lia,λh2=>?_⟩⟩;have c4:4<=c:=by lia
 have ev:c%2=0:=by lia
 simp![↓ze5,↓zeR];refine fN (λi ρ=>(∀a,a<i->iX R C (x a) (y a))/\∃s3 s4 s5 s6 s7,ρ=[.val (.int ((R+1:Nat):Int)),.val (.int ((C+1:Nat):Int)),.val (.lst (wL c (dM x y))),s3,s4,s5,s6,s7]) ⟨λa h=>AH h (by lia),_,_,_,_,_,rfl⟩ ?_ ?_
 ·rintro i _ hi ⟨ha,s3,s4,s5,s6,s7,rfl⟩;have no:¬iX R C (x i) (y i)->¬TourP R C c x y:=λz p=>z (p.2.2.1 i hi)
  by_cases a0:0<=x i
  ·by_cases a1:x i<((R+1:Nat):Int)
   ·by_cases b0:0<=y i
    ·by_cases b1:y i<((C+1:Nat):Int)
     ·simp![↓Mf,a0,a1,b0,b1];refine⟨λa h=>?_,_,_,_,_,_,rfl⟩
      by_cases z:a<i
      ·exact ha a z
      ·rw[show a=i by lia];unfold iX;lia
     ·simp![↓Mf,a0,a1,b0,b1];exact Jg.no (no λz=>by unfold iX at z;lia)
    ·simp![↓Mf,a0,a1,b0];exact Jg.no (no λz=>by unfold iX at z;lia)
   ·simp![↓Mf,a0,a1];exact Jg.no (no λz=>by unfold iX at z;lia)
  ·simp![↓Mf,a0];exact Jg.no (no λz=>by unfold iX at z;lia)
 rintro _ ⟨ha,s3,s4,s5,s6,s7,rfl⟩;simp![↓zeV];have e1:wL c (dM x y)++bD (wL c (dM x y)) none (some 1)=wL (c+1) (dM x y):=by
  have:bD (wL c (dM x y)) none (some 1)=[dM x y 0]:=by
   rw[show bD (wL c (dM x y)) none (some 1)=(wL c (dM x y)).take 1 from Nj _ 1];obtain⟨e,rfl⟩:∃e,c=e+1:=⟨c-1,by lia⟩;simp[wL,Sj,Nb]
  rw[this,show wL (c+1) (dM x y)=_ from gE _ _];unfold dM;rw[cyc.1,cyc.2]
 refine⟨gB (by lia) (by lia),fN (λi ρ=>(∀a,a<i->kK a (x a) (y a) (x (a+1)) (y (a+1)))/\∃s3 s4 s5 s6 s7,ρ=[.val (.int ((R+1:Nat):Int)),.val (.int ((C+1:Nat):Int)),.val (.lst (wL c (dM x y))),s3,s4,s5,s6,s7]) ⟨λa h=>AH h (by lia),_,_,_,_,_,rfl⟩ ?_ ?_⟩
 ·rintro i _ hi ⟨hb,s3,s4,s5,s6,s7,rfl⟩;have no:¬kK i (x i) (y i) (x (i+1)) (y (i+1))->¬TourP R C c x y:=λz p=>z (p.2.2.2 i hi)
  have len:(wL c (dM x y)).length+(bD (wL c (dM x y)) none (some 1)).length<=16777216:=by rw[<-eB,e1,dI];lia
  have a1:(i:Int)+1=((i+1:Nat):Int):=by lia
  simp![↓zeN,aZ _ hi,Ha,e1,a1,aZ _ (show i+1<c+1 by lia),nM];rw[dI]at len;have ev':i%2=0->(kK i (x i) (y i) (x (i+1)) (y (i+1))↔y i=y (i+1)/\x i≠x (i+1)):=λz=>by unfold kK;rw[if_pos z]
  have od:¬i%2=0->(kK i (x i) (y i) (x (i+1)) (y (i+1))↔x i=x (i+1)/\y i≠y (i+1)):=λz=>by unfold kK;rw[if_neg z]
  have add:kK i (x i) (y i) (x (i+1)) (y (i+1))->∀a,a<i+1->kK a (x a) (y a) (x (a+1)) (y (a+1)):=λp a h=>by
   by_cases z:a<i
   ·exact hb a z
   ·rw[show a=i by lia];exact p
  refine⟨len,λq=>Jg.no (no λp=>?_),λq=>?_⟩
  ·by_cases z:i%2=0
   ·exact((ev' z).mp p).2 q.1
   ·exact((od z).mp p).2 q.2
  have q:x i=x (i+1)->¬y i=y (i+1):=by simpa using q
  refine⟨λz=>⟨λny=>Jg.no (no λp=>ny ((ev' (by lia)).mp p).1),λey=>⟨λz1=>AH z1 (by lia),λ_=>⟨add ((ev' (by lia)).mpr ⟨ey,λex=>q ex ey⟩),_,_,_,_,_,rfl⟩⟩⟩,λz=>⟨λz1=>⟨λnx=>Jg.no (no λp=>nx ((od (by lia)).mp p).1),λex=>⟨add ((od (by lia)).mpr ⟨ex,q ex⟩),_,_,_,_,_,rfl⟩⟩,λz1=>AH z1 (by lia)⟩⟩
 ·rintro _ ⟨hb,s3,s4,s5,s6,s7,rfl⟩;simp![];exact Jg.yes ⟨c4,ev,ha,hb⟩
theorem zlI (hR:R<=40)(hC:C<=40)(c9:c<=100)(cyc:x c=x 0/\y c=y 0):Ok (zQ [cP R C S L G,.tup [.str "tour",.lst (wL c (dM x y))]]) (Jg (Rk R C S L G c x y)):=by
 have st:(("tour":Str)=="floor")=false:=by decide+kernel
 simp![↓zQ,↓Xt,st,↓zc9,aZ _ (show 0<R+1 by lia)];refine(znD hR hC c9 cyc).mono ?_;rintro _ ⟨z,rfl,hz⟩;cases z with
 |false=>
  simp![];exact Jg.no λp=>by have:=hz.mpr p.1;cases this
 |true=>
  have p:=hz.mp rfl;obtain⟨vl,e⟩:=p.vl;rw[e];simp![↓zdo];refine(zlw (by lia) (by lia)).mono ?_;rintro _ rfl;simp![];refine(Lg vl).mono ?_;rintro _ rfl;simp![];refine(yB vl c9).mono ?_;rintro _ rfl;simp![];exact Jg.dec ⟨λq=>q.2,λq=>⟨p,q⟩⟩
theorem zny (hR:R<=40)(hC:C<=40)(hA:A<=100):Ok (zQ [cP R C S L G,.tup [.str "floor",jT A m f]]) (Jg (Xl R C S L G A m f)):=by
 have st:(("floor":Str)=="floor")=true:=by decide+kernel
 simp![↓zQ,↓Xt,st];refine(rN hR hC hA).mono ?_;rintro _ ⟨z,rfl,hz⟩;simp![];exact⟨z,rfl,hz⟩
end
theorem yU {x t b:Nat}(hx:x<b)(ht:t+1<b):(x+1+t)%b≠x:=by
 by_cases h:x+1+t<b
 ·rw[Yp h];lia
 ·rw[Nat.mod_eq_sub_mod (by lia),Yp (by lia)];lia
structure Unl (b n:Nat)(f:Nat->Nat):Prop where
 lt:∀i,i<n->f i<b
 ne:∀i,i+1<n->f i≠f (i+1)
abbrev nI (n:Nat)(f:Nat->Nat):AA D:=wI n λi=>(f i:Nat)
theorem zos (h:cR ds)(size below:Nat)(hs:size<=12)(hs0:2<=size)(hb:2<=below)(hb6:below<=6)(x:Nat)(hx:x<below)(s4:Sl){Q:Fl×R->Prop}(hQ:∀(ds':AA D) (f:Nat->Nat) (s:Sl),cR ds'->Unl below size f->Q (.next,[.par ds',.val (.int size),.val (.int below),.own (nI size f),s])):
  Ok (zc2 [.par ds,.val (.int size),.val (.int below),.own [.int x],s4]) Q:=by
 simp![↓zc2];refine⟨gB (by lia) (by lia),?_⟩;rw[show((size:Int)-1).toNat=size-1 by lia];refine fN (λi ρ=>∃(ds':AA D) (f:Nat->Nat) (s:Sl),cR ds'/\Unl below (i+1) f/\ρ=[.par ds',.val (.int size),.val (.int below),.own (nI (i+1) f),s]) ⟨ds,λ_=>x,s4,h,⟨λ_ _=>hx,λ_ _=>by lia⟩,rfl⟩ ?_ ?_
 ·rintro i _ hi ⟨d1,f,s,h1,u,rfl⟩;simp![↓zfJ,zpG];refine(fF h1 (m:=(below:Int)-1) (by lia) (by lia)).mono ?_;rintro _ ⟨t,d2,ht,h2,rfl⟩;simp![dI];refine⟨by lia,by lia,d2,λj=>if j<i+1 then f j else(f i+1+t)%below,.val (.int i),h2,⟨λj hj=>?_,λj hj=>?_⟩,?_⟩
  ·by_cases hji:j<i+1
   ·simp only[hji,if_true];exact u.lt j hji
   ·simp only[hji,kU];exact Dm _ (by lia)
  ·by_cases hji:j+1<i+1
   ·simp only[hji,if_true,show j<i+1 by lia];exact u.ne j hji
   ·have e:j=i:=by lia
    subst e;simp only[if_true,show j<j+1 by lia,show ¬(j+1<j+1) by lia,kU];exact(yU (u.lt j (by lia)) (by lia)).symm
  ·have e:((f i:Int)+1+(t:Int))%(below:Int)=(((f i+1+t)%below:Nat):Int):=by push_cast;rfl
   rw[e,zpT];congr 5;exact kX λj _=>by dsimp only;split<;>rfl
 ·rintro _ ⟨d1,f,s,h1,u,rfl⟩;rw[show size-1+1=size by lia]at*;exact hQ d1 f s h1 u
theorem Ow {f:Nat->Nat}(u:Unl 2 n f):∀i,i<n->f i%2=(f 0+i)%2
 |0,_=>by lia
 |i+1,h=>by
  have h1:=Ow u i (by lia);have h2:=u.ne i h;have h3:=u.lt i (by lia);have h4:=u.lt (i+1) h;lia
def lM (b x y:Nat):AA Int:=(List.range b).filterMap λj=>if j=x\/j=y then none else some (j:Int)
theorem vO {b x y:Nat}{v:Int}(h:v∈lM b x y):∃j:Nat,v=j/\j<b/\j≠x/\j≠y:=by
 obtain⟨j,hj,e⟩:=qaG.mp h
 by_cases c:j=x\/j=y
 ·simp[c]at e
 ·simp[c]at e;exact⟨j,e.symm,qah.mp hj,λz=>c (.inl z),λz=>c (.inr z)⟩
theorem Je {b x y:Nat}(h:3<=b):lM b x y≠[]:=by
 have:∃j,j<3/\j≠x/\j≠y:=by
  by_cases h0:0≠x/\0≠y
  ·exact⟨0,by lia,h0⟩
  ·by_cases h1:1≠x/\1≠y
   ·exact⟨1,by lia,h1⟩
   ·exact⟨2,by lia,by lia,by lia⟩
 obtain⟨j,h1,h2,h3⟩:=this;intro e;have:(j:Int)∈lM b x y:=qaG.mpr ⟨j,qah.mpr (by lia),by simp[h2,h3]⟩;rw[e]at this;exact AH this Nk
theorem zof (z below:Nat)(f:Nat->Nat)(hs:z+2<=12)(hb6:below<=6)(s4:Sl)(hQ:Q ((lM below (f 0) (f z)).map .int,[.par ds,.val (.int ((z+2:Nat):Int)),.val (.int below),.own (nI (z+2) f),s4])):
  Ok (Zz [.par ds,.val (.int ((z+2:Nat):Int)),.val (.int below),.own (nI (z+2) f),s4]) Q:=by
 simp![↓Zz,List.filter,bne_self_eq_false,filterMap_some];refine⟨gB (by lia) (by lia),by lia,zlX (λρ=>∃s,ρ=[.par (nI (z+2) f),s]) (λj=>if j=f 0\/j=f z then none else some (.int (j:Nat))) ⟨.emp,rfl⟩ ?_ ?_⟩
 ·rintro i _ hi ⟨s,rfl⟩;simp![↓zfQ,↓zfx,Jn,aZ _ (show 0<z+2 by lia),Hd];refine⟨λh=>⟨?_,_,rfl⟩,λh=>⟨?_,_,rfl⟩⟩
  ·rw[if_neg];simp at h;lia
  ·rw[if_pos];simp at h;lia
 ·rintro _ ⟨s,rfl⟩;simp![];have:(List.range below).filterMap (λj=>if j=f 0\/j=f z then none else some (D.int (j:Nat)))=(lM below (f 0) (f z)).map .int:=by
   unfold lM;rw[List.map_filterMap];exact zfF _ λj _=>by split<;>rfl
  rw[this];exact hQ
theorem zlk (h:cR ds)(z below:Nat)(hz:z%2=0)(hz4:z<=4)(hb:2<=below)(hb6:below<=6):
  Ok (Np ds [.int ((z+2:Nat):Int),.int below]) λr=>∃(f:Nat->Nat) (ds':AA D),cR ds'/\Unl below (z+2) f/\f (z+1)≠f 0/\r=(.own (nI (z+2) f),ds'):=by
 simp![↓Np,↓zfg];refine(fF h (m:=(below:Int)) (by lia) (by lia)).mono ?_;rintro _ ⟨t,d2,ht,h2,rfl⟩;simp![];refine zos h2 (z+2) below (by lia) (by lia) hb hb6 t (by lia) .emp ?_;intro d3 f s h3 u;simp![zpG,aZ _ (show 0<z+2 by lia)];refine⟨λe=>?_,λe=>?_⟩
 ·have hb3:3<=below:=by
   by_cases q:below=2
   ·subst q;have:=Ow u (z+1) (by lia);lia
   ·lia
  refine zof z below f (by lia) hb6 _ ?_;have hne:=Je (b:=below) (x:=f 0) (y:=f z) hb3;have hm:=zpN (λi j=>decide (i<j)) hne;have hbst:=znG (λi j=>decide (i<j)) hne;obtain⟨j,e1,e2,e3,e4⟩:=vO hm;simp![hbst,nW,e1,↓zc4];rw[qW _ _ (by lia:z+1<z+2)];refine⟨λi=>if i=z+1 then j else f i,d3,h3,⟨λi hi=>?_,λi hi=>?_⟩,?_,?_⟩
  ·split
   ·exact e2
   ·exact u.lt i hi
  ·rw[if_neg (by lia)]
   split
   ·have:i=z:=by lia
    subst this;exactλq=>e4 q.symm
   ·exact u.ne i hi
  ·simp only[if_true];rw[if_neg (by lia)];exact e3
  ·congr 2;exact kX λi _=>by dsimp only;split<;>rfl
 ·simp![↓zc4];exact⟨f,d3,h3,u,λq=>e (by rw[q]),rfl⟩
def tr (s:Nat)(f:Nat->Nat)(a:Nat):Nat:=if a%2=0 then f (a/2)else f ((a/2+1)%s)
def cD (cr cc:Nat->Nat)(a:Nat):D:= .tup [.int (cr a:Nat),.int (cc a:Nat)]
abbrev cells (q:Nat)(cr cc:Nat->Nat):AA D:=wL q (cD cr cc)
theorem zmD (h:cR ds)(rows cols:Nat)(hr:2<=rows)(hr6:rows<=6)(hc:2<=cols)(hc6:cols<=6):
  Ok (Mm ds [.int rows,.int cols]) λr=>∃(z:Nat) (f g:Nat->Nat) (ds':AA D),cR ds'/\z%2=0/\z<=4/\Unl rows (z+2) f/\Unl cols (z+2) g/\f (z+1)≠f 0/\g (z+1)≠g 0/\r=(.own (cells (2*(z+2)) (tr (z+2) f) λa=>g (a/2)),ds'):=by
 simp![↓Mm,↓zhl];refine(fF h (m:=3) (by lia) (by lia)).mono ?_;rintro _ ⟨t,d2,ht,h2,rfl⟩;simp![];refine⟨kJ (by decide),?_⟩;have e:(2:Int)*(1+(t:Int))=((2*t+2:Nat):Int):=by lia
 rw[e]
 generalize hz:2*t=z
 have hz2:z%2=0:=by lia
 have hz4:z<=4:=by lia
 refine(zlk h2 z rows hz2 hz4 hr hr6).mono ?_;rintro _ ⟨f,d3,h3,u,u0,rfl⟩;simp![];refine(zlk h3 z cols hz2 hz4 hc hc6).mono ?_;rintro _ ⟨g,d4,h4,v,v0,rfl⟩;simp![↓zg6];refine⟨gB (by lia) (by lia),fN (λi ρ=>∃s,ρ=[.par d4,.val (.int rows),.val (.int cols),.val (.int ((z+2:Nat):Int)),.val (.lst (nI (z+2) f)),.val (.lst (nI (z+2) g)),.own (cells (2*i) (tr (z+2) f) λa=>g (a/2)),s]) ⟨_,rfl⟩ ?_ ?_⟩
 ·rintro i _ hi ⟨s,rfl⟩;have hm:((i:Int)+1)%((z+2:Nat):Int)=(((i+1)%(z+2):Nat):Int):=by push_cast;rfl
  simp![↓zg4,hm,aZ _ hi,aZ _ (Dm (i+1) (show 0<z+2 by lia))];refine⟨by lia,by lia,by lia,.val (.int i),?_⟩;have ec:∀c:Nat->D,wL (2*(i+1)) c=wL (2*i) c++[c (2*i)]++[c (2*i+1)]:=λc=>by rw[show 2*(i+1)=2*i+1+1 by lia,gE,gE]
  have c0:cD (tr (z+2) f) (λa=>g (a/2)) (2*i)= .tup [.int (f i:Nat),.int (g i:Nat)]:=by
   unfold cD tr;rw[if_pos (by lia)];simp only[show 2*i/2=i by lia]
  have c1:cD (tr (z+2) f) (λa=>g (a/2)) (2*i+1)= .tup [.int (f ((i+1)%(z+2)):Nat),.int (g i:Nat)]:=by
   unfold cD tr;rw[if_neg (by lia)];simp only[show(2*i+1)/2=i by lia]
  simp only[cells,ec,c0,c1]
 ·rintro _ ⟨s,rfl⟩;simp![];exact⟨z,f,g,_,h4,hz2,hz4,u,v,u0,v0,rfl⟩
def Inj (m n:Nat)(q:Nat->Nat):Prop:=(∀i,i<n->q i<m)/\∀i j,i<j->j<n->q i≠q j
abbrev wN (n:Nat)(q:Nat->Nat):AA D:=wL n λi=> .int ((q i:Nat):Int)
def drp (q:Nat->Nat)(k:Nat):Nat->Nat:=λi=>if i<k then q i else q (i+1)
theorem qZ (q:Nat->Nat)(k:Nat)(hi:i<n):∃j,j<n+1/\j≠k/\drp q k i=q j:=by
 unfold drp
 by_cases z:i<k
 ·exact⟨i,by lia,by lia,if_pos z⟩
 ·exact⟨i+1,by lia,by lia,if_neg z⟩
theorem Inj.drp (h:Inj m (n+1) q)(k:Nat):Inj m n (drp q k):=by
 refine⟨λi hi=>?_,λi j hij hj=>?_⟩
 ·obtain⟨j,h1,-,e⟩:=qZ q k hi;rw[e];exact h.1 j h1
 ·unfold Prf.drp
  split<;>split<;>exact h.2 _ _ (by lia) (by lia)
theorem Inj.ne (h:Inj m n q)(hi:i<n)(hj:j<n)(e:i≠j):q i≠q j:=by
 rcases Nat.lt_or_gt_of_ne e with z|z
 ·exact h.2 i j z hj
 ·exact(h.2 j i z hi).symm
theorem yV (q:Nat->Nat):(wN (n+1) q).eraseIdx k=if k<n+1 then wN n (drp q k)else wN (n+1) q:=by
 by_cases hk:k<n+1
 ·rw[if_pos hk];apply lH;intro i;rw[List.getElem?_eraseIdx]
  by_cases hi:i<n
  ·rw[aZ _ hi];unfold drp
   by_cases z:i<k
   ·rw[if_pos z,aZ _ (show i<n+1 by lia),if_pos z]
   ·rw[if_neg z,aZ _ (show i+1<n+1 by lia),if_neg z]
  ·rw[eO (show(wL n _).length<=i by rw[dI];lia)];rw[if_neg (by lia),eO (by rw[dI];lia)]
 ·rw[if_neg hk,List.eraseIdx_of_length_le (by rw[dI];lia)]
theorem zm4 (h:cR ds){m n:Nat}(nm:n<=m)(m9:m<=100):Ok (Nm ds [.int (m:Nat),.int (n:Nat)]) λx=>∃(q:Nat->Nat) (ds':AA D),cR ds'/\Inj m n q/\x=(.own (wN n q),ds'):=by
 simp![↓Nm,↓zgi,↓zgD];refine⟨gB (by lia) (by lia),by lia,gB (by lia) (by lia),by lia,Lz (λj acc ρ=>∃(q p:Nat->Nat) (ds':AA D) (s:Sl),fL [s]=true/\cR ds'/\Inj m j q/\Inj m (m-j) p/\(∀i k,i<j->k<m-j->q i≠p k)/\acc=wN j q/\ρ=[.par (wN (m-j) p),.par ds',s])
  ⟨λ_=>0,λi=>i,ds,.emp,rfl,h,⟨λi hi=>AH hi (Br _),λi j _ hj=>AH hj (Br _)⟩,⟨λi hi=>show i<m by lia,λi j hij hj=>show i≠j by lia⟩,λi k hi _=>AH hi (Br _),rfl,rfl⟩ ?_ ?_⟩
 ·rintro j acc _ hj ⟨q,p,d1,s,no,h1,iq,ip,dj,rfl,rfl⟩;obtain⟨e,he⟩:∃e,m-j=e+1:=⟨m-j-1,by lia⟩;rw[he]at ip dj ⊢;simp![↓zgr];refine(fF h1 (m:=((e+1:Nat):Int)) (by lia) (by lia)).mono ?_;rintro _ ⟨k,d2,hk,h2,rfl⟩;have hk':k<e+1:=by lia
  simp![aZ _ hk',yV,hk'];refine⟨⟨by lia,by lia,by lia⟩,λi=>if i<j then q i else p k,drp p k,d2,_,rfl,h2,⟨λi hi=>?_,λa b ab hb=>?_⟩,by rw[show m-(j+1)=e by lia];exact ip.drp k,λi a hi ha=>?_,?_,by rw[show m-(j+1)=e by lia]⟩
  ·dsimp only;split
   ·exact iq.1 i (by assumption)
   ·exact ip.1 k hk'
  ·dsimp only
   by_cases z:b<j
   ·rw[if_pos z,if_pos (by lia)];exact iq.2 a b ab z
   ·rw[if_neg z,if_pos (by lia)];exact dj a k (by lia) hk'
  ·obtain⟨a',a1,a2,a3⟩:=qZ p k (show a<e by lia);rw[a3];dsimp only
   by_cases z:i<j
   ·rw[if_pos z];exact dj i a' z a1
   ·rw[if_neg z];exact ip.ne hk' a1 a2.symm
  ·unfold wN;rw[gE];show(wL j _)++[.int (p k:Nat)]=_;congr 1
   ·exact kX λi hi=>by(try dsimp only);rw[if_pos hi]
   ·(try dsimp only);rw[if_neg (by lia)]
 ·rintro acc _ ⟨q,p,d1,s,no,h1,iq,ip,dj,rfl,rfl⟩;simp![];exact⟨_,_,h1,iq,rfl⟩
theorem same {F F':AB Sl}{P:Prop}(h:Ok F (Jg P))(h':Ok F' (Jg P)):∃z:Bool,Ok F (λx=>x= .val (.bl z))/\Ok F' λx=>x= .val (.bl z):=by
 obtain⟨_,e,z,rfl,hz⟩:=h;obtain⟨_,e',z',rfl,hz'⟩:=h';have:z'=z:=by
  have:=hz'.trans hz.symm;cases z<;>cases z'<;>simp at this ⊢
 subst this;exact⟨z',Ok.of e rfl,Ok.of e' rfl⟩
theorem nG (l:AA D):l=wL l.length λi=>l.getD i .non:=by
 apply lH;intro j
 by_cases h:j<l.length
 ·rw[aZ _ h,cI h];simp[List.getD,h]
 ·rw[eO (by lia),eO (by rw[dI];lia)]
theorem xA (l:AA Int):l.map D.int=wI l.length λi=>l.getD i 0:=by
 apply lH;intro j
 by_cases h:j<l.length
 ·rw[aZ _ h,eG,cI h];simp[List.getD,h]
 ·rw[eO (by rw[cY];lia),eO (by rw[dI];lia)]
theorem zmh (n:Nat)(r:Nat->Int):wI n r=((List.range n).map r).map D.int:=by
 unfold wI wL;rw[fA];rfl
theorem Lp (h:i<l.length):∃z:Int,(l.map D.int)[i]? =some (.int z):=⟨l[i],by rw[eG,cI h];rfl⟩
abbrev rC (rs:AA (AA Int)):AA Ch:=rs.map λl=> .l (l.map .int)
abbrev rL (rs:AA (AA Int)):AA D:=rs.map λl=> .lst (l.map .int)
abbrev rT (rs:AA (AA Int)):AA D:=rs.map λl=> .tup (l.map .int)
theorem rC_D (rs:AA (AA Int)):(rC rs).map Ch.D=rL rs:=by
 unfold rC rL;rw[fA];rfl
theorem zoO (rs:AA (AA Int))(r:Nat)(l:AA Int):(rC rs).set r (.l (l.map .int))=rC (rs.set r l):=by
 unfold rC;rw[List.map_set]
theorem Gs (rs:AA (AA Int)):∃m f,D.tup (rT rs)=jT rs.length m f:=⟨λr=>(rs.getD r []).length,λr i=>(rs.getD r []).getD i 0,by
 unfold jT;congr 1;apply lH;intro j
 by_cases h:j<rs.length
 ·rw[aZ _ h,eG,cI h,<-xA];simp[List.getD,h]
 ·rw[eO (by rw[cY];lia),eO (by rw[dI];lia)]⟩
def rows (A m:Nat)(f:Nat->Nat->Int):AA (AA Int):=(List.range A).map λr=>(List.range m).map (f r)
theorem Gj (A m:Nat)(f:Nat->Nat->Int):rC (rows A m f)=tC A m f:=by
 unfold rC rows tC;rw[fA];exact mD λr _=>by show Ch.l _=_;rw[zmh]
theorem Gx (A m:Nat)(f:Nat->Nat->Int):rL (rows A m f)=wL A λr=> .lst (wI m (f r)):=by
 unfold rL rows wL;rw[fA];exact mD λr _=>by show D.lst _=_;rw[zmh]
theorem zko (A m:Nat)(f:Nat->Nat->Int):(rows A m f).length=A:=by unfold rows;simp
theorem nT (A m:Nat)(f:Nat->Nat->Int):∀l∈rows A m f,l.length=m:=by
 intro l hl;obtain⟨r,-,rfl⟩:=qb1.mp hl;simp
theorem zlF (h:rs.length<=1000):Ok (iM [.lst (rL rs)]) λx=>x= .val (.tup (rT rs)):=by
 obtain⟨m,f,e⟩:=Gs rs;have e1:rL rs=wL rs.length λr=> .lst (wI (m r) (f r)):=by
  have e':rT rs=wL rs.length λr=> .tup (wI (m r) (f r)):=by injection e
  have:rL rs=(rT rs).map λd=>match d with| .tup l=> .lst l|d=>d:=by
   unfold rL rT;rw[fA];rfl
  rw[this,e'];unfold wL;rw[fA];rfl
 rw[e1,e];simp![↓iM,↓Vk,↓zdD];refine⟨by lia,gP (λρ=>∃z,ρ=[z]) (λr=> .tup (wI (m r) (f r))) ⟨_,rfl⟩ ?_ ?_⟩
 ·rintro r _ _ ⟨z,rfl⟩;simp![↓zdU];exact⟨_,rfl⟩
 ·rintro _ ⟨z,rfl⟩;simp![]
def Qb (x:Sl×AA D):Prop:=∃(A:Nat) (m:Nat->Nat) (f:Nat->Nat->Int) (ds':AA D),A<=7/\cR ds'/\x=(.val (jT A m f),ds')
def mQ (x:Fl×R):Prop:=Ok (match x.1,(x.2[0]?:AB Sl)with
   |Fl.ret r,some (Sl.par out)=>some (r,out)
   |Fl.next,some (Sl.par out)=>some (.val .non,out)
   |_,_=>none) Qb
section
variable {r c way:Nat}{rs:AA (AA Int)}{ds:AA D}{s1:Sl}
theorem bn2 (h:cR ds)(l7:rs.length<=7):Ok (zbw [.par ds,s1,.tre (.lst (rC rs)),.val (.int r),.val (.int c),.val (.int way)]) mQ:=by
 simp![↓zbw,fzT,rC_D];refine(zlF (by lia)).mono ?_;rintro _ rfl;simp![mQ];obtain⟨m,f,e⟩:=Gs rs;exact⟨_,m,f,ds,l7,h,by rw[e]⟩
theorem bn3 (h:cR ds)(l7:rs.length<=7)(hr:r<rs.length):Ok (zby [.par ds,s1,.tre (.lst (rC rs)),.val (.int r),.val (.int c),.val (.int way)]) mQ:=by
 simp![↓zby];refine⟨λ_=>?_,λ_=>bn2 h l7⟩;have e:(rC rs).length=rs.length:=by simp
 refine⟨by lia,?_⟩;rw[show(rC rs).take r++[]++(rC rs).drop (r+1)=rC (rs.take r++rs.drop (r+1)) by unfold rC;rw[qb9,Fc,Ke,lW]];exact bn2 (rs:=rs.take r++rs.drop (r+1)) h (by rw[eB,kO,pT];lia)
theorem bn4 (h:cR ds)(l7:rs.length<=7)(hr:r<rs.length)(hl:rs[r]? =some l)(hc:c<l.length)(l9:l.length<=9):Ok (zbz [.par ds,s1,.tre (.lst (rC rs)),.val (.int r),.val (.int c),.val (.int way)]) mQ:=by
 simp![↓zbz];refine⟨λ_=>?_,λ_=>bn3 h l7 hr⟩;have e:(rC rs)[r]? =some (.l (l.map .int)):=by unfold rC;rw[eG,hl];rfl
 have e1:cB (rC rs).length (r:Int)=some r:=by unfold cB;simp[hr]
 simp![e,e1];refine⟨by lia,by lia,?_⟩;rw[show(l.map D.int).eraseIdx c=(l.eraseIdx c).map D.int by rw[Rj,Rj,qb9,Fc,Ke],zoO];exact bn3 (rs:=rs.set r (l.eraseIdx c)) h (by rw[fR];exact l7) (by rw[fR];exact hr)
theorem bn5 (h:cR ds)(l7:rs.length<=7)(hr:r<rs.length){l:AA Int}(hl:rs[r]? =some l)(hc:c<l.length)(l9:l.length<=8):Ok (Zw [.par ds,s1,.tre (.lst (rC rs)),.val (.int r),.val (.int c),.val (.int way)]) mQ:=by
 simp![↓Zw];refine⟨λ_=>?_,λ_=>bn4 h l7 hr hl hc (by lia)⟩;have e:(rC rs)[r]? =some (.l (l.map .int)):=by unfold rC;rw[eG,hl];rfl
 have e1:cB (rC rs).length (r:Int)=some r:=by unfold cB;simp[hr]
 simp![e,e1];refine⟨by lia,by lia,?_⟩;rw[show l.map D.int++[D.int 0]=(l++[0]).map D.int by rw[qb9];rfl,zoO];exact bn4 (c:=c) (rs:=rs.set r (l++[0])) h (by rw[fR];exact l7) (by rw[fR];exact hr) (l:=l++[0]) (by rw[Wb hr]) (by rw[eB];lia) (by rw[eB,Ut];lia)
end
theorem uZ (h:cR ds){R C:Nat}(hR:R<=5)(hC:C<=5)(f:Nat->Nat->Int):Ok (Tv ds [tT (R+1) (C+1) f]) Qb:=by
 simp![↓Tv,↓zb8];refine⟨by lia,Nd (λρ=>∃z,ρ=[z]) (λa=>wI (C+1) (f a)) ⟨_,rfl⟩ ?_ ?_⟩
 ·rintro a _ ha ⟨z,rfl⟩;simp![↓Gq,↓zcw];exact⟨_,rfl⟩
 rintro _ ⟨z,rfl⟩;rw[show((List.range (R+1)).map λa=>wI (C+1) (f a)).map Ch.l=tC (R+1) (C+1) f from by unfold tC;rw[fA];rfl,<-Gj];have len:=zko (R+1) (C+1) f;have row:=nT (R+1) (C+1) f
 generalize rows (R+1) (C+1) f=rs at len row
 have lc:(rC rs).length=R+1:=by simp[len]
 simp![lc];refine(fF h (m:=((R+1:Nat):Int)) (by lia) (by lia)).mono ?_;rintro _ ⟨r,d2,hr,h2,rfl⟩;have hr':r<rs.length:=by lia
 obtain⟨l,hl⟩:∃l,rs[r]? =some l:=⟨_,cI hr'⟩;have ll:l.length=C+1:=row l (xB hl);have e:(rC rs)[r]? =some (.l (l.map .int)):=by unfold rC;rw[eG,hl];rfl
 have e1:cB (R+1) (r:Int)=some r:=by unfold cB;simp;lia
 have ea:atI (rC rs) (r:Int)=some (.l (l.map .int)):=by unfold atI;rw[lc,e1];exact e
 simp![lc,e1,e,cY,ll];refine(fF h2 (m:=((C+1:Nat):Int)) (by lia) (by lia)).mono ?_;rintro _ ⟨c,d3,hc,h3,rfl⟩;have hc':c<l.length:=by lia
 simp![];refine(fF h3 (m:=6) (by lia) (by lia)).mono ?_;rintro _ ⟨way,d4,hw,h4,rfl⟩;simp![];refine⟨λw3=>?_,λ_=>bn5 h4 (by lia) hr' hl hc' (by lia)⟩;obtain⟨z,ez⟩:∃z:Int,[D.int 1,D.int (-1),D.int 100000000000000000000000000000000000000000000000000000000000][way]? =some (.int z):=Lp (l:=[1,-1,100000000000000000000000000000000000000000000000000000000000]) (by show way<3;lia);have eb:atI (l.map D.int) (c:Int)=some (.int l[c]):=by
  unfold atI cB;rw[cY];simp[hc']
 have e2:cB (l.map D.int).length (c:Int)=some c:=by unfold cB;rw[cY];simp[hc']
 simp![ez,lc,e1,e,ea,eb,e2];refine⟨hc',?_⟩;rw[show(l.map D.int).set c (.int (l[c]+z))=(l.set c (l[c]+z)).map D.int by rw[List.map_set],zoO];exact bn5 (rs:=rs.set r (l.set c (l[c]+z))) h4 (by rw[fR];lia) (by rw[fR];exact hr') (l:=l.set c (l[c]+z)) (by rw[Wb hr']) (by rw[fR];exact hc') (by rw[fR];lia)
theorem zoM {R C:Nat}(hR:R<=5)(hC:C<=5)(f:Nat->Nat->Int){r:Nat}(hr:r<R+1):Ok (Uv [tT (R+1) (C+1) f,.int (r:Nat)]) λx=>∃(A:Nat) (m:Nat->Nat) (g:Nat->Nat->Int),A<=7/\x= .val (jT A m g):=by
 simp![↓Uv,↓zfi,↓zfN];refine⟨by lia,gP (λρ=>∃z,ρ=[z]) (λa=> .lst (wI (C+1) (f a))) ⟨_,rfl⟩ ?_ ?_⟩
 ·rintro a _ ha ⟨z,rfl⟩;simp![↓zfz];exact⟨_,rfl⟩
 rintro _ ⟨z,rfl⟩;simp![↓zfy,aZ _ hr,xE];refine⟨by lia,gP (λρ=>∃y z,ρ=[.val (.int (r:Nat)),y,z]) (λk=> .int (f r k+sg r k)) ⟨_,_,rfl⟩ ?_ ?_⟩
 ·rintro k _ hk ⟨y,z,rfl⟩;simp![↓zfC];refine(Uy _ _).mono ?_;rintro _ rfl;simp![];exact⟨_,_,rfl⟩
 rintro _ ⟨y,z,rfl⟩;simp![hr];have e:(wL (R+1) λr=>D.lst (wI (C+1) (f r))).set r (.lst (wL (C+1) λk=> .int (f r k+sg r k)))=rL ((rows (R+1) (C+1) f).set r ((List.range (C+1)).map λk=>f r k+sg r k)):=by
  unfold rL;rw[List.map_set,<-zmh];congr 1;exact(Gx _ _ _).symm
 have e':=e;unfold wL at e';rw[e];refine(zlF (by rw[fR,zko];lia)).mono ?_;rintro _ rfl;simp![];obtain⟨m,g,e⟩:=Gs ((rows (R+1) (C+1) f).set r ((List.range (C+1)).map λk=>f r k+sg r k));exact⟨((rows (R+1) (C+1) f).set r ((List.range (C+1)).map λk=>f r k+sg r k)).length,m,g,by rw[fR,zko];lia,by rw[e]⟩
abbrev pD (p:Int×Int):D:= .tup [.int p.1,.int p.2]
abbrev pL (ps:AA (Int×Int)):AA D:=ps.map pD
def pX (ps:AA (Int×Int))(i:Nat):Int:=(ps.getD (if i<ps.length then i else 0) (0,0)).1
def pY (ps:AA (Int×Int))(i:Nat):Int:=(ps.getD (if i<ps.length then i else 0) (0,0)).2
theorem Vd (ps:AA (Int×Int)):pL ps=wL ps.length (dM (pX ps) (pY ps)):=by
 apply lH;intro j
 by_cases h:j<ps.length
 ·rw[aZ _ h,eG,cI h];unfold dM pX pY;rw[if_pos h];simp[List.getD,h]
 ·rw[eO (by rw[cY];lia),eO (by rw[dI];lia)]
theorem Ux (ps:AA (Int×Int)):pX ps ps.length=pX ps 0/\pY ps ps.length=pY ps 0:=by
 unfold pX pY;rw[if_neg (by lia)]
 constructor<;>(split<;>rfl)
theorem w_pL (c:Nat)(x y:Nat->Int):wL c (dM x y)=pL ((List.range c).map λi=>(x i,y i)):=by
 unfold pL wL;rw[fA];rfl
def Pap (y:D):Prop:=(∃A m f,A<=7/\y= .tup [.str "floor",jT A m f])\/∃ps:AA (Int×Int),ps.length<=100/\y= .tup [.str "tour",.lst (pL ps)]
section
variable {R C:Nat}{S L G:Nat->Nat->Int}
theorem qD (hR:R<=40)(hC:C<=40){t:D}(h:Pap (.tup [.str w,t])):∃z:Bool,Ok (tF [cP R C S L G,.tup [.str w,t]]) (λx=>x= .val (.bl z))/\Ok (zQ [cP R C S L G,.tup [.str w,t]]) (λx=>x= .val (.bl z))/\∃l,cL [t]=some l/\Ok (tF [cP R C S L G,.tup [.str w,.tup l]]) (λx=>x= .val (.bl z)):=by
 rcases h with⟨A,m,f,hA,e⟩|⟨ps,hp,e⟩
 ·injection e with e;injection e with e1 e2;injection e1 with e1;injection e2 with e2;subst e1;subst e2
  obtain⟨z,h1,h2⟩:=same (zl4 (S:=S) (L:=L) (G:=G) (A:=A) (m:=m) (f:=f) hR hC) (zny hR hC (by lia));exact⟨z,h1,h2,_,rfl,h1⟩
 ·injection e with e;injection e with e1 e2;injection e1 with e1;injection e2 with e2;subst e1;subst e2
  rw[Vd];have cy:=Ux ps;obtain⟨z,h1,h2⟩:=same (zjV (S:=S) (L:=L) (G:=G) false hp cy (by lia) (by lia)) (zlI hR hC hp cy);obtain⟨z',h3,h4⟩:=same (zjV (S:=S) (L:=L) (G:=G) true hp cy (by lia) (by lia)) (zlI hR hC hp cy);have ez:z'=z:=by
   obtain⟨_,a1,rfl⟩:=h2;obtain⟨_,a2,a3⟩:=h4;rw[a1]at a2;cases a2;cases a3
   rfl
  subst ez;exact⟨_,h1,h2,_,rfl,h3⟩
end
theorem Pb {n:Nat}{k:Int}(h1: -(n:Int)<=k)(h2:k<(n:Int)):∃j,j<n/\cB n k=some j:=by
 unfold cB
 by_cases c:0<=k
 ·exact⟨k.toNat,by lia,by simp[c,h2]⟩
 ·exact⟨(k+(n:Int)).toNat,by lia,by rw[if_neg c,if_pos (by lia)]⟩
theorem Vg {k:Int}(hj:j<ps.length)(e:cB ps.length k=some j):∃p,atI (pL ps) k=some (pD p):=⟨ps[j],by
 unfold atI;rw[cY,e];show(pL ps)[j]? =_;rw[eG,cI hj];rfl⟩
theorem qI (ps:AA (Int×Int))(j:Nat)(p:Int×Int):(pL ps).set j (pD p)=pL (ps.set j p):=by unfold pL;rw[List.map_set]
def oG (N:Nat)(x:Sl×AA D):Prop:=∃(ps:AA (Int×Int)) (ds':AA D),ps.length<=N/\cR ds'/\x=(.own (pL ps),ds')
def qB (N:Nat)(x:Fl×R):Prop:=Ok (match x.1,(x.2[0]?:AB Sl)with
   |Fl.ret r,some (Sl.par out)=>some (r,out)
   |Fl.next,some (Sl.par out)=>some (.val .non,out)
   |_,_=>none) (oG N)
section
variable {N at' way:Nat}{ps:AA (Int×Int)}{ds:AA D}{s1 s2 s3:Sl}{r c:Int}
theorem bc1 (h:cR ds)(hp:ps.length<=N):Ok (zbQ [.par ds,s1,s2,s3,.own (pL ps),.val (.int at'),.val (.int r),.val (.int c),.val (.int way)]) (qB N):=by
 simp![↓zbQ,qB];exact⟨ps,ds,hp,h,rfl⟩
theorem bc2 (h:cR ds)(hp:ps.length<=N)(ha:way=8->at'<ps.length):Ok (zbS [.par ds,s1,s2,s3,.own (pL ps),.val (.int at'),.val (.int r),.val (.int c),.val (.int way)]) (qB N):=by
 simp![↓zbS];refine⟨λw=>?_,λ_=>bc1 h hp⟩;have a0:=ha (by lia);have len:(pL ps).length=ps.length:=cY ..;obtain⟨j,hj,ej⟩:=Pb (n:=ps.length) (k:=(at':Int)-1) (by lia) (by lia);obtain⟨i,hi,ei⟩:=Pb (n:=ps.length) (k:=(at':Int)) (by lia) (by lia);obtain⟨p,ep⟩:=Vg hj ej;obtain⟨q,eq⟩:=Vg hi ei;simp![ep,eq,↓Nx,len,ei,ej,qI,fR];exact⟨a0,bc1 (ps:=(ps.set at' p).set j q) h (by rw[fR,fR];exact hp)⟩
theorem bc3 (h:cR ds)(hp:ps.length<=N)(hN:N<=1000)(ha:way=8\/way=7->at'<ps.length):Ok (zbX [.par ds,s1,s2,s3,.own (pL ps),.val (.int at'),.val (.int r),.val (.int c),.val (.int way)]) (qB N):=by
 simp![↓zbX];refine⟨λw=>?_,λ_=>bc2 h hp λz=>ha (.inl z)⟩;have a0:=ha (.inr (by lia));have e:(pL ps)[at']? =some (pD ps[at']):=by rw[eG,cI a0];rfl
 have len:(pL ps).length=ps.length:=cY ..;simp![e];refine⟨by lia,?_⟩;rw[show(pL ps).eraseIdx at'=pL (ps.eraseIdx at') by unfold pL;rw[Rj,Rj,qb9,Fc,Ke]];exact bc2 (ps:=ps.eraseIdx at') h (jE (List.length_eraseIdx_le ..) hp) λz=>by lia
theorem bc4 (h:cR ds)(hp:ps.length+1<=N)(hN:N<=1000)(ha:at'<ps.length):Ok (zbW [.par ds,s1,s2,s3,.own (pL ps),.val (.int at'),.val (.int r),.val (.int c),.val (.int way)]) (qB N):=by
 simp![↓zbW];refine⟨λw=>?_,λ_=>bc3 h (by lia) hN λ_=>ha⟩;refine⟨by lia,?_⟩;rw[show(pL ps).take at'++D.tup [.int r,.int c]::(pL ps).drop at'=pL (ps.take at'++(r,c)::ps.drop at') by unfold pL;rw[qb9,Fc,jJ,Ke]];exact bc3 (ps:=ps.take at'++(r,c)::ps.drop at') h (by rw[eB,eW,kO,pT];lia) hN λz=>by lia
end
theorem zn4 (h:cR ds){ps:AA (Int×Int)}(p1:1<=ps.length)(p9:ps.length<=99)(rows cols:Int):Ok (Pt ds [.lst (pL ps),.int rows,.int cols]) (oG 100):=by
 have len:(pL ps).length=ps.length:=cY ..;simp![↓Pt,↓zcB,len];refine(fF h (m:=(ps.length:Int)) (by lia) (by lia)).mono ?_;rintro _ ⟨at',d1,ha,h1,rfl⟩;obtain⟨i,hi,ei⟩:=Pb (n:=ps.length) (k:=(at':Int)) (by lia) (by lia);obtain⟨⟨r,c⟩,eq⟩:=Vg hi ei;simp![eq];refine(fF h1 (m:=9) (by lia) (by lia)).mono ?_;rintro _ ⟨way,d2,hw,h2,rfl⟩;simp![];refine⟨λw=>?_,λ_=>bc4 h2 (by lia) (by lia) (by lia)⟩;obtain⟨q,ew⟩:∃q:Int×Int,[D.tup [.int (r+1),.int c],D.tup [.int r,.int (c+1)],D.tup [.int (r-rows),.int c],D.tup [.int r,.int (c-cols)],D.tup [.int 100000000000000000000000000000000000000000000000000000000000,.int c],D.tup [.int r,.int (-1)]][way]? =some (pD q):=by
  have:way=0\/way=1\/way=2\/way=3\/way=4\/way=5:=by lia
  rcases this with rfl|rfl|rfl|rfl|rfl|rfl
  ·exact⟨(_,_),rfl⟩
  ·exact⟨(_,_),rfl⟩
  ·exact⟨(_,_),rfl⟩
  ·exact⟨(_,_),rfl⟩
  ·exact⟨(_,_),rfl⟩
  ·exact⟨(_,_),rfl⟩
 simp![ew,len,ei,qI];exact⟨by lia,bc4 (ps:=ps.set at' q) h2 (by rw[fR];lia) (by lia) (by rw[fR];lia)⟩
theorem nZ:∀{l:AA D},(∀d∈l,∃p,d=pD p)->∃ps:AA (Int×Int),l=pL ps/\ps.length=l.length
 |[],_=>⟨[],rfl,rfl⟩
 |d::l,h=>by
  obtain⟨p,rfl⟩:=h d jP;obtain⟨ps,rfl,e⟩:=nZ λd hd=>h d (iN _ hd)
  exact⟨p::ps,rfl,by rw[eW,eW,e]⟩
section
variable {R C:Nat}{S L G:Nat->Nat->Int}
theorem Tour.short (t:Tour R C S L G c W qs):c<=R+C+2:=by
 apply Nat.le_of_not_lt;intro h;have lt:∀i,W i<R+C+2:=λi=>by
  obtain⟨-,-,h1,h2,-,-⟩:=t.cell i;unfold cr at h1;unfold cc at h2
  split at h1
  ·lia
  ·rw[if_neg (by assumption)]at h2;lia
 obtain⟨i,j,ij,hj,e⟩:=pN (n:=R+C+2) (f:=W) λi _=>lt i
 exact t.apart i j ij (by lia) e
def Pap0 (R C:Nat)(y:D):Prop:=(∃f,y= .tup [.str "floor",tT (R+1) (C+1) f])\/∃ps:AA (Int×Int),1<=ps.length/\ps.length<=99/\y= .tup [.str "tour",.lst (pL ps)]
def zoc (R C:Nat)(x:Sl×AA D):Prop:=∃(l ds':AA D),cR ds'/\l.length<=8/\(∀y∈l,Pap0 R C y)/\x=(.own l,ds')
def Vf (R C:Nat)(x:Fl×M.R):Prop:=Ok (match x.1,(x.2[0]?:AB Sl)with
   |Fl.ret r,some (Sl.par out)=>some (r,out)
   |Fl.next,some (Sl.par out)=>some (.val .non,out)
   |_,_=>none) (zoc R C)
theorem zm0 (q:Nat)(a b:Nat->Nat):∃ps:AA (Int×Int),cells q a b=pL ps/\ps.length=q:=⟨(List.range q).map λi=>((a i:Int),(b i:Int)),w_pL q (λi=>(a i:Nat)) λi=>(b i:Nat),by simp⟩
theorem Um (h:cR ds)(r1:1<=R)(r5:R<=5)(c1:1<=C)(c5:C<=5){told:D}(pt:Pap0 R C told)(p2:2<=ps.length)(p4:ps.length<=40)(s6 s7:Sl):
  Ok (zc1 [.par ds,.val (cP R C S L G),.val (.int ((R+1:Nat):Int)),.val (.int ((C+1:Nat):Int)),.val told,.val (.lst (pL ps)),s6,s7]) (Vf R C):=by
 have len:(pL ps).length=ps.length:=cY ..;have e2:(ps.length:Int)/2=((ps.length/2:Nat):Int):=by lia
 simp![↓zc1,len,e2];refine⟨zmx (by lia) (by lia),?_⟩;refine(fF h (m:=((ps.length/2:Nat):Int)) (by lia) (by lia)).mono ?_;rintro _ ⟨t,d1,ht,h1,rfl⟩;have e3:(2:Int)*(t:Int)=((2*t:Nat):Int):=by lia
 simp![e3];refine⟨kJ (by decide),?_⟩;refine(zlw (by lia) (by lia)).mono ?_;rintro _ rfl;simp![];refine(Mt (f:=cT S) (by lia) (by lia)).mono ?_;rintro _ rfl;have d1':bD (pL ps) (some ((2*t:Nat):Int)) none=pL (ps.drop (2*t)):=by rw[Qq,<-Ke]
 have d2':bD (pL ps) none (some ((2*t:Nat):Int))=pL (ps.take (2*t)):=by rw[Nj,<-Fc]
 have d3':bD (pL ps) (some 1) none=pL (ps.drop 1):=by rw[show(1:Int)=((1:Nat):Int)from rfl,Qq,<-Ke]
 have d4':bD (pL ps) none (some 1)=pL (ps.take 1):=by rw[show(1:Int)=((1:Nat):Int)from rfl,Nj,<-Fc]
 have ap:∀a b:AA (Int×Int),pL a++pL b=pL (a++b):=λa b=>qb9.symm
 simp![len,d1',d2',d3',d4',ap,cY,eB,kO,pT,↓zfL];refine⟨by lia,by lia,by lia,gB (by lia) (by lia),by lia,gP (λρ=>∃s,ρ=[.val (.lst (pL ps)),s]) (λi=>(atI (pL ps) (1-(i:Int))).getD .non) ⟨_,rfl⟩ ?_ ?_⟩
 ·rintro i _ hi ⟨s,rfl⟩;obtain⟨j,hj,ej⟩:=Pb (n:=ps.length) (k:=1-(i:Int)) (by lia) (by lia);obtain⟨p,ep⟩:=Vg hj ej;simp![↓zfv,ep];exact⟨rfl,_,rfl⟩
 rintro _ ⟨s,rfl⟩;obtain⟨qs,eq,lq⟩:=nZ (l:=wL ps.length λi=>(atI (pL ps) (1-(i:Int))).getD .non) λd hd=>by
  obtain⟨i,hi,rfl⟩:=qb1.mp hd;have hi:=qah.mp hi;obtain⟨j,hj,ej⟩:=Pb (n:=ps.length) (k:=1-(i:Int)) (by lia) (by lia);obtain⟨p,ep⟩:=Vg hj ej;exact⟨p,by rw[ep];rfl⟩
 rw[dI]at lq;simp![eq];refine(zmD h1 (R+1) (C+1) (by lia) (by lia) (by lia) (by lia)).mono ?_;rintro _ ⟨z,f,g,d2,h2,z2,z4,-,-,-,-,rfl⟩;obtain⟨us,eu,lu⟩:=zm0 (2*(z+2)) (tr (z+2) f) λa=>g (a/2)
 rw[eu];simp![Vf];have tour:∀{ps:AA (Int×Int)},1<=ps.length->ps.length<=99->Pap0 R C (.tup [.str "tour",.lst (pL ps)]):=λh h'=> .inr ⟨_,h,h',rfl⟩
 refine⟨_,d2,h2,bZ _,λy hy=>?_,rfl⟩;simp only[qam,qan,Nk,or_false]at hy;rcases hy with rfl|rfl|rfl|rfl|rfl|rfl|rfl|rfl
 ·exact pt
 ·exact .inl ⟨_,rfl⟩
 ·exact tour (by lia) (by lia)
 ·exact tour (by rw[eB];lia) (by rw[eB];lia)
 ·exact tour (by rw[eB,pT,kO];lia) (by rw[eB,pT,kO];lia)
 ·exact tour (by rw[eB,pT,kO];lia) (by rw[eB,pT,kO];lia)
 ·exact tour (by lia) (by lia)
 ·exact tour (by lia) (by lia)
theorem zoT (h:cR ds)(r1:1<=R)(r5:R<=5)(c1:1<=C)(c5:C<=5):Ok (Rl ds [cP R C S L G]) (zoc R C):=by
 have s1:(("floor":Str)=="tour")=false:=by decide+kernel
 simp![↓Rl,↓zfc,aZ _ (show 0<R+1 by lia)];refine(zoJ (R:=R) (C:=C) (by lia) (by lia)).mono ?_;intro v hv;obtain⟨told,rfl⟩:∃told,v= .val told:=by
  rcases hv with⟨_,_,rfl⟩|⟨_,_,_,_,rfl⟩<;>exact⟨_,rfl⟩
 simp![];refine(zmD h (R+1) (C+1) (by lia) (by lia) (by lia) (by lia)).mono ?_;rintro _ ⟨z,f,g,d2,h2,z2,z4,-,-,-,-,rfl⟩;obtain⟨us,eu,lu⟩:=zm0 (2*(z+2)) (tr (z+2) f) λa=>g (a/2)
 rw[eu];rcases hv with⟨q,_,e⟩|⟨c,W,qs,t,e⟩
 ·injection e with e;subst e
  simp![s1];exact Um h2 r1 r5 c1 c5 (.inl ⟨_,rfl⟩) (by lia) (by lia) _ _
 ·injection e with e;subst e
  have sh:=t.short;have ev:=t.even;have po:=t.pos;have ec:wL c (Ku (R+1) W)=pL ((List.range c).map λi=>((cr W i:Int),(cc (R+1) W i:Int))):=by
   unfold pL wL;rw[fA];exact mD λi _=>(t.cell i).2.2.2.2.2
  rw[ec];simp![Yn];exact Um h2 r1 r5 c1 c5 (.inr ⟨_,by simpa using po,by simp;lia,rfl⟩) (by simp;lia) (by simp;lia) _ _
end
theorem Ij (a b a' b':Int):fB (.tup [.int a,.int b]) (.tup [.int a',.int b'])=some (.bl !(a==a'&&b==b')):=by
 have p:∀a b:Int,Pl 1 (.tup [.int a,.int b]):=λa b=>My λd hd=>by
  rcases qam.mp hd with rfl|hd
  ·exact Da 0 _
  ·rw[qcs.mp hd];exact Da 0 _
 unfold fB;rw[(p a b).1,(p a' b').1,iP (jE (p a b).2 (by decide:1<=50))];simp[eJ,cS]
abbrev nD (p:Nat×Nat):D:= .tup [.int (p.1:Nat),.int (p.2:Nat)]
abbrev nL (ps:AA (Nat×Nat)):AA D:=ps.map nD
theorem Ei (ps:AA (Nat×Nat)):nL ps=wL ps.length λi=>nD (ps.getD i (0,0)):=by
 apply lH;intro j
 by_cases h:j<ps.length
 ·rw[aZ _ h,eG,cI h];simp[List.getD,h]
 ·rw[eO (by rw[cY];lia),eO (by rw[dI];lia)]
theorem nL_p (ps:AA (Nat×Nat)):nL ps=pL (ps.map λp=>((p.1:Int),(p.2:Int))):=by
 unfold nL pL;rw[fA];rfl
def Ins (A B:Nat)(ps:AA (Nat×Nat)):Prop:=∀p∈ps,p.1<A/\p.2<B
theorem Ins.app {A B:Nat}{ps:AA (Nat×Nat)}(h:Ins A B ps)(ha:a<A)(hb:b<B):Ins A B (ps++[(a,b)]):=λp hp=>by
 rcases qan.mp hp with z|z
 ·exact h p z
 ·rw[qcs.mp z];exact⟨ha,hb⟩
theorem Jr (ps:AA (Nat×Nat))(a b:Nat):nL ps++[.tup [.int (a:Nat),.int (b:Nat)]]=nL (ps++[(a,b)]):=by unfold nL;rw[qb9];rfl
section
variable {A B:Nat}{ds:AA D}
theorem Ad (h:cR ds)(hA:A<=10)(hB:B<=10):Ok (Zn [.par ds,.val (.int (A:Nat)),.val (.int (B:Nat)),.emp,.emp,.emp,.emp,.emp,.emp,.emp,.emp,.emp,.emp,.emp,.emp,.emp]) λx=>∃(f:Nat->Nat->Int) (ds':AA D),cR ds'/\x=(wL A λr=> .lst (wI B (f r)),[.par ds',.val (.int (A:Nat)),.val (.int (B:Nat)),.emp,.emp,.emp,.emp,.emp,.emp,.emp,.emp,.emp,.emp,.emp,.emp,.emp]):=by
 simp![↓Zn];refine⟨gB (by lia) (by lia),by lia,Lz (λi acc ρ=>∃(f:Nat->Nat->Int) (ds':AA D) (s:Sl),cR ds'/\acc=(wL i λr=> .lst (wI B (f r)))/\ρ=[.val (.int (B:Nat)),.par ds',s]) ⟨λ_ _=>0,ds,.emp,h,rfl,rfl⟩ ?_ ?_⟩
 ·rintro i _ _ hi ⟨f,d1,s,h1,rfl,rfl⟩;simp![↓zeO,↓zeQ];refine⟨gB (by lia) (by lia),by lia,Lz (λj acc ρ=>∃(q:Nat->Int) (ds':AA D) (s:Sl),cR ds'/\acc=wI j q/\ρ=[.par ds',s]) ⟨λ_=>0,d1,.emp,h1,rfl,rfl⟩ ?_ ?_⟩
  ·rintro j _ _ hj ⟨q,d2,s2,h2,rfl,rfl⟩;simp![↓ze1];refine(fF h2 (m:=19) (by lia) (by lia)).mono ?_;rintro _ ⟨t,d3,ht,h3,rfl⟩;simp![];exact⟨_,d3,_,h3,Ze j q _,rfl⟩
  rintro _ _ ⟨q,d2,s2,h2,rfl,rfl⟩;simp![];refine⟨λr=>if r<i then f r else q,d2,_,h2,?_,rfl⟩;rw[gE];congr 1
  ·exact kX λr hr=>by(try dsimp only);rw[if_pos hr]
  ·(try dsimp only);rw[if_neg (by lia)];rfl
 ·rintro _ _ ⟨f,d2,s2,h2,rfl,rfl⟩;simp![];exact⟨f,d2,h2,rfl⟩
theorem zo8 {n:Nat}{p q:Nat->Nat}(ip:Inj A n p)(iq:Inj B n q)(n9:n<=10)(s0 s1 s2 s3 s8 s9 s10 s11 s12 s13 s14 s15:Sl):Ok (zcC [s0,s1,s2,s3,.val (.int (n:Nat)),.val (.lst (wN n p)),.val (.lst (wN n q)),.own [],s8,s9,s10,s11,s12,s13,s14,s15]) λx=>∃(cs:AA (Nat×Nat)) (s8:Sl),cs.length<=2*n/\Ins A B cs/\(0<n->cs[0]? =some (p 0,q 0))/\x=(.next,[s0,s1,s2,s3,.val (.int (n:Nat)),.val (.lst (wN n p)),.val (.lst (wN n q)),.own (nL cs),s8,s9,s10,s11,s12,s13,s14,s15]):=by
 simp![↓zcC];refine⟨gB (by lia) (by lia),fN (λi ρ=>∃(cs:AA (Nat×Nat)) (s8:Sl),cs.length<=2*i/\Ins A B cs/\(0<i->cs[0]? =some (p 0,q 0))/\(i=0->cs=[])/\ρ=[s0,s1,s2,s3,.val (.int (n:Nat)),.val (.lst (wN n p)),.val (.lst (wN n q)),.own (nL cs),s8,s9,s10,s11,s12,s13,s14,s15]) ⟨[],_,by simp,(λp hp=>by cases hp),λh=>AH h (by lia),λ_=>rfl,rfl⟩ ?_ ?_⟩
 ·rintro i _ hi ⟨cs,s8,hl,hin,h0,hz,rfl⟩;have mo:((i:Int)+1)%(n:Int)=(((i+1)%n:Nat):Int):=by rw[Int.natCast_emod];rfl
  have ml:(i+1)%n<n:=Dm _ (by lia);have lc:(nL cs).length=cs.length:=cY ..;simp![↓zeA,mo,aZ _ hi,aZ _ ml,Jr,lc,cY,eB];refine⟨by lia,by lia,by lia,cs++[(p i,q i)]++[(p ((i+1)%n),q i)],_,by simp;lia,(hin.app (ip.1 _ hi) (iq.1 _ hi)).app (ip.1 _ ml) (iq.1 _ hi),λ_=>?_,rfl⟩
  by_cases z:i=0
  ·subst z;rw[hz rfl];rfl
  ·have:=h0 (by lia);have l0:0<cs.length:=by
    cases cs with
    |nil=>cases this
    |cons=>simp
   rw[iU (by simp),iU l0];exact this
 ·rintro _ ⟨cs,s8,hl,hin,h0,hz,rfl⟩;exact⟨cs,_,hl,hin,h0,rfl⟩
abbrev g8 (cs:AA (Nat×Nat))(a b:Nat)(i:Nat):AB (Nat×Nat):=if cs.getD i (0,0)=(a,b)then none else some (cs.getD i (0,0))
theorem tH (l9:cs.length<=50)(hin:Ins A B cs){p q:Nat->Nat}(n3:3<=n)(h0:cs[0]? =some (p 0,q 0))(hne:p 0≠p 2)(s0 s1 s2 s3 s4 s8:Sl)(t9 t10:T):
    Ok (zcE [.par ds,s1,s2,s3,s4,.val (.lst (wN n p)),.val (.lst (wN n q)),.val (.lst (nL cs)),s8,.tre t9,.tre t10,.emp,.emp,.emp,.emp,.emp]) λx=>∃ts:AA (Nat×Nat),1<=ts.length/\ts.length<=50/\Ins A B ts/\x=(nL ts,[.par ds,s1,s2,s3,s4,.val (.lst (wN n p)),.val (.lst (wN n q)),.val (.lst (nL cs)),s8,.tre t9,.tre t10,.emp,.emp,.emp,.emp,.emp]):=by
  have lc:(nL cs).length=cs.length:=cY ..;simp![↓zcE,lc];refine⟨by lia,?_⟩;rw[Ei];refine zlX (λρ=>∃s,ρ=[.val (.lst (wN n p)),.val (.lst (wN n q)),s]) (λi=>(g8 cs (p 2) (q 1) i).map nD) ⟨.emp,rfl⟩ ?_ ?_
  . rintro i _ hi ⟨s,rfl⟩
    simp![↓zeZ,↓zeH,aZ _ (show 2<n by lia),aZ _ (show 1<n by lia),Ij];refine⟨λz=>⟨?_,_,rfl⟩,λz=>⟨?_,_,rfl⟩⟩
    . unfold g8
      rw[if_neg]
      . rfl
      . intro e
        rw[e]at z;simp at z
    . unfold g8
      rw[if_pos]
      . rfl
      . simp at z
        exact Prod.ext (Int.ofNat_inj.mp (by simpa using z.1)) (Int.ofNat_inj.mp (by simpa using z.2))
  . rintro _ ⟨s,rfl⟩
    rw[<-Ei];simp![];refine⟨(List.range cs.length).filterMap (g8 cs (p 2) (q 1)),?_,jE (List.length_filterMap_le ..) (by simpa using l9),?_,?_⟩
    . have:(p 0,q 0)∈(List.range cs.length).filterMap (g8 cs (p 2) (q 1)):=qaG.mpr ⟨0,qah.mpr (by cases cs with|nil=>cases h0|cons=>simp),by
        have e:cs.getD 0 (0,0)=(p 0,q 0):=by simp[List.getD,h0]
        unfold g8;rw[e,if_neg];intro z;injection z with z
        exact hne z⟩
      exact List.length_pos_of_mem this
    . intro z hz
      obtain⟨i,hi,e⟩:=qaG.mp hz;unfold g8 at e
      split at e
      . cases e
      . cases e
        have hi:=qah.mp hi;have:cs.getD i (0,0)=cs[i]:=by simp[List.getD,hi]
        rw[this];exact hin _ (List.getElem_mem hi)
    . unfold nL
      rw[List.map_filterMap]
theorem Jf {R C:Nat}{ts:AA (Nat×Nat)}(hin:Ins (R+1) (C+1) ts){more:Int}(m1:more=1\/more= -1)(b:Nat×Nat)(L G:Nat->Nat->Int)(s1 s2 s4 s5 s6 s7 s8 s14 s15:Sl):
  Ok (zcF [.par ds,s1,s2,.val (tL (R+1) (C+1) f),s4,s5,s6,s7,s8,tS (R+1) (C+1) L,tS (R+1) (C+1) G,.val (.lst (nL ts)),.val (.int more),.val (nD b),s14,s15]) λx=>∃(L G:Nat->Nat->Int) (s14 s15:Sl),x=(.next,[.par ds,s1,s2,.val (tL (R+1) (C+1) f),s4,s5,s6,s7,s8,tS (R+1) (C+1) L,tS (R+1) (C+1) G,.val (.lst (nL ts)),.val (.int more),.val (nD b),s14,s15]):=by
 simp![↓zcF];refine Yb (enc:=nD) (l:=ts) (λ_ ρ=>∃(L G:Nat->Nat->Int) (s14 s15:Sl),ρ=[.par ds,s1,s2,.val (tL (R+1) (C+1) f),s4,s5,s6,s7,s8,tS (R+1) (C+1) L,tS (R+1) (C+1) G,.val (.lst (nL ts)),.val (.int more),.val (nD b),s14,s15]) ⟨L,G,_,_,rfl⟩ ?_ ?_
 ·rintro i ⟨r,k⟩ _ hi ⟨L,G,s14,s15,rfl⟩;obtain⟨hr,hk⟩:=hin _ (xB hi);have hr:r<R+1:=hr;have hk:k<C+1:=hk;simp![↓zeE,aZ _ hr,aZ _ hk,nM,mL,oV,uW _ hr,Ni _ _ hr hk,hr,hk];exact⟨Fi m1,_,_,_,_,rfl⟩
 ·rintro _ ⟨L,G,s14,s15,rfl⟩;exact⟨L,G,_,_,rfl⟩
end
theorem znE (h:cR ds):Ok (Pn ds []) λx=>∃(R C:Nat) (S L G:Nat->Nat->Int) (ps:AA (Int×Int)) (ds':AA D),R<=5/\C<=5/\ps.length<=50/\cR ds'/\x=(.val (.tup [cP R C S L G,.lst (pL ps)]),ds'):=by
 simp![↓Pn,↓zei];refine(fF h (m:=4) (by lia) (by lia)).mono ?_;rintro _ ⟨a,d1,ha,h1,rfl⟩;obtain⟨R,hR⟩:∃R,R=a+2:=⟨_,rfl⟩;have eR:(3:Int)+(a:Int)=((R+1:Nat):Int):=by lia
 simp![eR];refine(fF h1 (m:=4) (by lia) (by lia)).mono ?_;rintro _ ⟨b,d2,hb,h2,rfl⟩;obtain⟨C,hC⟩:∃C,C=b+2:=⟨_,rfl⟩;have eC:(3:Int)+(b:Int)=((C+1:Nat):Int):=by lia
 simp![eC];refine(Ad h2 (by lia) (by lia)).mono ?_;rintro _ ⟨f,d3,h3,rfl⟩;obtain⟨n,n3,nR,nC,en⟩:∃n:Nat,3<=n/\n<=R+1/\n<=C+1/\eT ((R+1:Nat):Int) ((C+1:Nat):Int)=(n:Int):=by
  unfold eT
  split
  all_goals first|exact⟨R+1,by lia,by lia,by lia,rfl⟩|exact⟨C+1,by lia,by lia,by lia,rfl⟩
 simp![en];refine(zm4 h3 nR (by lia)).mono ?_;rintro _ ⟨p,d4,h4,ip,rfl⟩;simp![];refine(zm4 h4 nC (by lia)).mono ?_;rintro _ ⟨q,d5,h5,iq,rfl⟩;simp![];refine(zo8 ip iq (by lia) _ _ _ _ _ _ _ _ _ _ _ _).mono ?_;rintro _ ⟨cs,s8,hl,hin,h0,rfl⟩;have h0:=h0 (by lia);have l0:0<cs.length:=by
  cases cs with
  |nil=>cases h0
  |cons=>simp
 have ea:nL cs++[D.tup [.int (p 0:Nat),.int (q 0:Nat)],.tup [.int (p 2:Nat),.int (q 0:Nat)],.tup [.int (p 2:Nat),.int (q 1:Nat)],.tup [.int (p 0:Nat),.int (q 1:Nat)]]=nL (cs++[(p 0,q 0),(p 2,q 0),(p 2,q 1),(p 0,q 1)]):=by unfold nL;rw[qb9];rfl
 have hin:Ins (R+1) (C+1) (cs++[(p 0,q 0),(p 2,q 0),(p 2,q 1),(p 0,q 1)]):=by
  rw[show cs++[(p 0,q 0),(p 2,q 0),(p 2,q 1),(p 0,q 1)]=cs++[(p 0,q 0)]++[(p 2,q 0)]++[(p 2,q 1)]++[(p 0,q 1)] by simp];have p0:=ip.1 0 (by lia);have p2:=ip.1 2 (by lia);have q0:=iq.1 0 (by lia);have q1:=iq.1 1 (by lia);exact(((hin.app p0 q0).app p2 q0).app p2 q1).app p0 q1
 have lc:(nL cs).length=cs.length:=cY ..;simp![aZ _ (show 0<n by lia),aZ _ (show 1<n by lia),aZ _ (show 2<n by lia),ea,lc];have hl:(cs++[(p 0,q 0),(p 2,q 0),(p 2,q 1),(p 0,q 1)]).length<=50:=by rw[eB];show cs.length+4<=50;lia
 have h0:(cs++[(p 0,q 0),(p 2,q 0),(p 2,q 1),(p 0,q 1)])[0]? =some (p 0,q 0):=by rw[iU l0];exact h0
 generalize cs++[(p 0,q 0),(p 2,q 0),(p 2,q 1),(p 0,q 1)]=cs' at hin hl h0
 refine⟨by lia,by lia,Nd (λρ=>∃z,ρ=[z]) (λr=>wI (C+1) λk=>f r k-90) ⟨_,rfl⟩ ?_ ?_⟩
 ·rintro r _ hr ⟨z,rfl⟩;simp![↓Gq,↓zeU,↓zev];refine⟨by lia,gP (λρ=>∃z,ρ=[z]) (λk=> .int (f r k-90)) ⟨_,rfl⟩ ?_ ?_⟩
  ·rintro k _ hk ⟨z,rfl⟩;simp![↓zeL];exact⟨_,rfl⟩
  ·rintro _ ⟨z,rfl⟩;exact⟨rfl,rfl,_,rfl⟩
 rintro _ ⟨z,rfl⟩;rw[show((List.range (R+1)).map λr=>wI (C+1) λk=>f r k-90).map Ch.l=tC (R+1) (C+1) λr k=>f r k-90 from by unfold tC;rw[fA];rfl];simp![];refine⟨by lia,Nd (λρ=>∃z,ρ=[z]) (λr=>wI (C+1) λk=>f r k+90) ⟨_,rfl⟩ ?_ ?_⟩
 ·rintro r _ hr ⟨z,rfl⟩;simp![↓Gq,↓zeG,↓zeS];refine⟨by lia,gP (λρ=>∃z,ρ=[z]) (λk=> .int (f r k+90)) ⟨_,rfl⟩ ?_ ?_⟩
  ·rintro k _ hk ⟨z,rfl⟩;simp![↓zeW];exact⟨_,rfl⟩
  ·rintro _ ⟨z,rfl⟩;exact⟨rfl,rfl,_,rfl⟩
 rintro _ ⟨z,rfl⟩;rw[show((List.range (R+1)).map λr=>wI (C+1) λk=>f r k+90).map Ch.l=tC (R+1) (C+1) λr k=>f r k+90 from by unfold tC;rw[fA];rfl];simp![];refine(tH hl hin n3 h0 (ip.2 0 2 (by lia) (by lia)) (.par d5) _ _ _ _ _ _ _).mono ?_;rintro _ ⟨ts,t1,t5,tin,rfl⟩;simp![];refine(fF h5 (m:=2) (by lia) (by lia)).mono ?_;rintro _ ⟨y,d6,hy,h6,rfl⟩;obtain⟨more,mm,em⟩:∃z:Int,(z=1\/z= -1)/\[D.int 1,D.int (-1)][y]? =some (.int z):=by
  have:y=0\/y=1:=by lia
  rcases this with rfl|rfl
  ·exact⟨1,.inl rfl,rfl⟩
  ·exact⟨-1,.inr rfl,rfl⟩
 have lt:(nL ts).length=ts.length:=cY ..;simp![em,lt];refine(fF h6 (m:=(ts.length:Int)) (by lia) (by lia)).mono ?_;rintro _ ⟨y,d7,hy,h7,rfl⟩;have ey:(nL ts)[y]? =some (nD (ts.getD y (0,0))):=by rw[Ei,aZ _ (by lia)]
 simp![ey];refine(Jf tin mm _ _ _ _ _ _ _ _ _ _ _ _).mono ?_;rintro _ ⟨L,G,s14,s15,rfl⟩;simp![fzT,wD];refine(zml _ (.inr rfl) (by lia) (by lia)).mono ?_;rintro _ rfl;simp![];refine(Mt (by lia) (by lia)).mono ?_;rintro _ rfl;simp![];refine(Mt (by lia) (by lia)).mono ?_;rintro _ rfl;simp![];exact⟨R,C,_,_,_,cs'.map λp=>((p.1:Int),(p.2:Int)),d7,by lia,by lia,by rw[cY];exact hl,h7,by rw[nL_p]⟩
theorem zoL (a:Bool):fB (.bl a) (.bl a)=some (.bl false):=by
 unfold fB;rw[show bP (.bl a)=true from rfl,show depth (.bl a)=0 from rfl];cases a<;>rfl
theorem Pap0.up {R C:Nat}(hR:R<=5)(h:Pap0 R C y):Pap y:=by
 rcases h with⟨f,rfl⟩|⟨ps,_,h,rfl⟩
 ·exact .inl ⟨R+1,λ_=>C+1,f,by lia,rfl⟩
 ·exact .inr ⟨ps,by lia,rfl⟩
theorem Pap.pr (h:Pap y):∃(w:Str) (t:D) (l:AA D),y= .tup [.str w,t]/\cL [t]=some l/\fX [t]=some (.tup l)/\fB (.lst l) (.lst l)=some (.bl false):=by
 rcases h with⟨A,m,f,_,rfl⟩|⟨ps,_,rfl⟩
 ·exact⟨_,_,_,rfl,rfl,rfl,(oW (k:=1) (sD λr=>My (sD λc=>Da 0 _))).ne (by decide)⟩
 ·refine⟨_,_,_,rfl,rfl,rfl,?_⟩;rw[Vd];exact(oW (k:=1) (sD λr=>My λd hd=>by
   rcases qam.mp hd with rfl|hd
   ·exact Da 0 _
   ·rw[qcs.mp hd];exact Da 0 _)).ne (by decide)
section
variable {R C:Nat}{S L G:Nat->Nat->Int}
theorem xC (hR:R<=5)(hC:C<=5){t:D}(hp:Pap (.tup [.str w,t]))(s0 s1 s2 s4 s5 s6 s9 s10:Sl):Ok (zk3 [s0,s1,s2,.val (cP R C S L G),s4,s5,s6,.val (.str w),.val t,s9,s10]) λx=>∃s9 s10,x=(.next,[s0,s1,s2,.val (cP R C S L G),s4,s5,s6,.val (.str w),.val t,s9,s10]):=by
 obtain⟨z,h1,h2,l,e1,h3⟩:=qD (S:=S) (L:=L) (G:=G) (show R<=40 by lia) (show C<=40 by lia) hp;obtain⟨w',t',l',e2,e3,e4,e5⟩:=hp.pr;injection e2 with e2
 injection e2 with e2 e6
 injection e6 with e6
 subst e6;rw[e1]at e3;cases e3;simp![↓zk3,e1];refine h1.mono ?_;rintro _ rfl;simp![];refine⟨by decide,λh=>AH h (by decide),λ_=>?_⟩;refine h2.mono ?_;rintro _ rfl;simp![zoL,e1,e5,↓zmT,e4];refine h3.mono ?_;rintro _ rfl;simp![zoL];exact⟨_,_,rfl⟩
theorem Ae (r1:1<=R)(hR:R<=5)(c1:1<=C)(hC:C<=5)(h:cR ds)(hy:Pap0 R C y)(hX:X.length<=100)(pX:∀y∈X,Pap y)(s0 s1 s4 s7 s8 s9 s10:Sl):
  Ok ((gT 2 (bI (gN 7) (bI (gN 8) eA)) y [s0,s1,.own ds,.val (cP R C S L G),s4,.val (.int ((R+1:Nat):Int)),.own X,s7,s8,s9,s10]).bind λρ=>Wh ρ) λx=>∃(ds' X':AA D) (s7 s8:Sl),cR ds'/\X'.length<=X.length+3/\(∀y∈X',Pap y)/\x=(.next,[s0,s1,.own ds',.val (cP R C S L G),s4,.val (.int ((R+1:Nat):Int)),.own X',s7,s8,s9,s10]):=by
 have add:∀{X:AA D} {y:D},(∀y∈X,Pap y)->Pap y->∀z∈X++[y],Pap z:=λh1 h2 z hz=>by
  rcases qan.mp hz with a|a
  ·exact h1 z a
  ·rw[qcs.mp a];exact h2
 have p0:=hy.up hR;have sf:(("floor":Str)=="floor")=true:=by decide+kernel
 have st:(("tour":Str)=="floor")=false:=by decide+kernel
 rcases hy with⟨f,rfl⟩|⟨ps,q1,q9,rfl⟩
 ·simp![↓Wh,sf];refine⟨by lia,?_⟩;refine(uZ h hR hC f).mono ?_;rintro _ ⟨A,m,g,d1,hA,h1,rfl⟩;simp![eB,eW,Zd];refine⟨by lia,?_⟩;refine(fF h1 (m:=((R+1:Nat):Int)) (by lia) (by lia)).mono ?_;rintro _ ⟨r,d2,hr,h2,rfl⟩;simp![];refine(zoM hR hC f (r:=r) (by lia)).mono ?_;rintro _ ⟨A',m',g',hA',rfl⟩;simp![eB,eW,Zd];exact⟨by lia,d2,_,_,_,h2,by simp,add (add (add pX p0) (.inl ⟨A,m,g,hA,rfl⟩)) (.inl ⟨A',m',g',hA',rfl⟩),rfl⟩
 ·simp![↓Wh,st,aZ _ (show 0<R+1 by lia)];refine⟨by lia,?_⟩;refine(zn4 h q1 q9 _ _).mono ?_;rintro _ ⟨ps',d1,l1,h1,rfl⟩;simp![eB,eW,Zd];exact⟨by lia,d1,_,_,_,h1,by simp,add (add pX p0) (.inr ⟨ps',l1,rfl⟩),rfl⟩
end
theorem math (ns:AA Int)(hl:ns.length<=63):Du [.scr ns]=some (.val (.bl true)):=by
 have:Ok (Du [.scr ns]) λr=>r= .val (.bl true):=by
  have ct:bD ns none (some 5)=ns.take 5:=Nj ns 5;have len:(ns.take 5).length<=5:=by rw[kO];lia
  simp![↓Du,↓sZ,↓zmH,ct];refine⟨by lia,?_⟩;rw[show(ns.take 5).map D.int++[D.int 0]=(ns.take 5++[0]).map D.int by simp];refine Yb (enc:=D.int) (l:=ns.take 5++[0]) (λ_ ρ=>∃s1 s2 s3 s4 s5 s6 s7 s8 s9 s10,ρ=[.val (.scr ns),s1,s2,s3,s4,s5,s6,s7,s8,s9,s10]) ⟨_,_,_,_,_,_,_,_,_,_,rfl⟩ ?_ ?_
  ·rintro i c _ _ ⟨s1,s2,s3,s4,s5,s6,s7,s8,s9,s10,rfl⟩;simp![↓zmK];refine(zR c).mono ?_;rintro _ ⟨d1,h1,rfl⟩;simp![];refine(znE h1).mono ?_;rintro _ ⟨R,C,S,L,G,ps,d2,hR,hC,lp,h2,rfl⟩;obtain⟨z,j1,j2,-⟩:=qD (S:=S) (L:=L) (G:=G) (show R<=40 by lia) (show C<=40 by lia) (w:="tour") (t:= .lst (pL ps)) (.inr ⟨ps,by lia,rfl⟩);simp![];refine j1.mono ?_;rintro _ rfl;simp![];refine j2.mono ?_;rintro _ rfl;simp![zoL,↓zmO];clear hR hC;refine(rS h2).mono ?_;rintro _ ⟨R,C,S,L,G,d3,h3,r1,hR,c1,hC,-,rfl⟩;simp![↓zmX];refine(zoT h3 r1 hR c1 hC).mono ?_;rintro _ ⟨l,d4,h4,l8,hl',rfl⟩;obtain⟨m,e,he,hm,rfl⟩:∃(m:Nat) (e:Nat->D),(∀i,i<m->Pap0 R C (e i))/\m<=8/\l=wL m e:=⟨l.length,λi=>l.getD i .non,λi hi'=>hl' _ (by simp[List.getD,hi']),l8,nG l⟩;simp![];refine fN (λi ρ=>∃(ds' X':AA D) (s7 s8:Sl),cR ds'/\X'.length<=3*i/\(∀y∈X',Pap y)/\ρ=[.val (.scr ns),.val (.int c),.own ds',.val (cP R C S L G),.val (.lst (pL ps)),.val (.int ((R+1:Nat):Int)),.own X',s7,s8,s9,s10]) ⟨d4,[],_,_,h4,by simp,(λy hy=>by cases hy),rfl⟩ ?_ ?_
   ·rintro i _ hi ⟨ds',X',s7,s8,h5,hX,pX,rfl⟩;refine(Ae r1 hR c1 hC h5 (he i hi) (by lia) pX _ _ _ _ _ _ _).mono ?_;rintro _ ⟨ds2,X2,t7,t8,q1,q2,q3,rfl⟩;simp![];exact⟨ds2,X2,_,_,q1,by lia,q3,rfl⟩
   rintro _ ⟨d5,X,s7,s8,h5,hX,pX,rfl⟩;simp![↓zmQ];obtain⟨m2,e2,he2,rfl⟩:∃(m:Nat) (e:Nat->D),(∀i,i<m->Pap (e i))/\X=wL m e:=⟨X.length,λi=>X.getD i .non,λi hi'=>pX _ (by simp[List.getD,hi']),nG X⟩;refine fN (λ_ ρ=>∃s2 s4 s6 s7 s8 s9 s10,ρ=[.val (.scr ns),.val (.int c),s2,.val (cP R C S L G),s4,.val (.int ((R+1:Nat):Int)),s6,s7,s8,s9,s10]) ⟨_,_,_,_,_,_,_,rfl⟩ ?_ ?_
   ·rintro i _ hi ⟨s2,s4,s6,s7,s8,s9,s10,rfl⟩;have hp:=he2 i hi;obtain⟨w,t,l,ew,-,-,-⟩:=hp.pr;rw[ew]at hp ⊢;simp![];refine(xC hR hC hp _ _ _ _ _ _ _ _).mono ?_;rintro _ ⟨s9,s10,rfl⟩;simp![];exact⟨_,_,_,_,_,_,_,rfl⟩
   ·rintro _ ⟨s2,s4,s6,s7,s8,s9,s10,rfl⟩;simp![];exact⟨_,_,_,_,_,_,_,_,_,_,rfl⟩
  ·rintro _ ⟨s1,s2,s3,s4,s5,s6,s7,s8,s9,s10,rfl⟩;simp![]
 obtain⟨_,e,rfl⟩:=this.ex;exact e
end Prf
namespace PySem.W.Fast
def tw18008316514988826941:=0
def tw11606821474467970367:=0
def tw17087926917335846565:=0
def tw8238508156776025426:=0
def tw14552745703776759188:=0
def tw12253464320568989990:=0
def tw6932420996600050756:=0
def tw3091122496749474063:=0
def tw16155337445002447895:=0
def tw16417354480067358418:=0
def tw2641338946655066455:=0
def tw14838620018140864660:=0
def tw1260110108148426843:=0
def tw11390837047555438502:=0
def tw15716876277308781430:=0
def tw9584922650280920738:=0
def tw10397606243822203076:=0
def tw3276704067357333025:=0
def tw4666984529176937282:=0
def tw10213514368196564961:=0
def tw8791596054630459171:=0
def tw14153636536068730089:=0
def tw241201095351921596:=0
def tw9752857078106216834:=0
def tw944218794912380247:=0
def tw16253832698536088869:=0
def tw455409143772823455:=0
def tw15006574651917856543:=0
def tw7793859927352000191:=0
def tw17416382260273041935:=0
def tw11682497324333272380:=0
def tw14317488297366186055:=0
def tw9293464505507348286:=0
def tw7693429697411237662:=0
def tw12823925111060265598:=0
def tw8339361992498211224:=0
def tw15283683306919801885:=0
def tw10765543912671641649:=0
def tw10417105062130509632:=0
def tw1810849682855981884:=0
def tw18047477316507375208:=0
def tw14493006207749812642:=0
def tw17157962347014391135:=0
def tw6833562803659897546:=0
def tw5453043091417230695:=0
def tw9492094880813985994:=0
def tw16745826809697249062:=0
def tw232949939335967574:=0
def tw9151626838195362609:=0
def tw6631102827898689127:=0
def tw6790517382872509294:=0
def tw14065133908486522153:=0
def tw2451362996659571461:=0
def tw5304922203493575742:=0
def tw17326519912990400802:=0
def tw7248829934879436014:=0
def tw5717631451431281884:=0
def tw4433036141730779906:=0
def tw4702445820039765488:=0
def tw11291785212843620155:=0
def tw17161194744281133375:=0
def tw6190020262335400670:=0
def tw4349532338995552270:=0
def tw4318303278327708989:=0
def tw9501684445925460885:=0
def tw9578749696039986152:=0
def tw7531934179538807839:=0
def tw1100386597097055559:=0
def tw3609201493733234629:=0
def tw11434552178528704961:=0
def tw9546368468945812311:=0
def tw15246532965722563501:=0
def tw13777689567678718874:=0
def tw328783163207857998:=0
def tw16937159797876173045:=0
def tw11998725033131366087:=0
def tw3200534518156082872:=0
def tw7441943921552102966:=0
def tw11640636563026155402:=0
def tw5690731581261915675:=0
def tw13112525995583220094:=0
def tw2268282023978807997:=0
def tw4771200520447506750:=0
def tw8946951508584945017:=0
def tw8007603326007121713:=0
def tw9663470805705615021:=0
def tw17301412202701104864:=0
def tw1378981799953046247:=0
def tw4321971926206105621:=0
def tw18357754139983799629:=0
def tw1719418778713852357:=0
def tw10296120165452769456:=0
def tw9539611061468284760:=0
def tw14160443435599199126:=0
def tw15887899864274446463:=0
def tw12622822091133189905:=0
def tw9248337529564446153:=0
def tw10462886743452595564:=0
def tw5972345762432994071:=0
def tw17952468728248217159:=0
def tw13216289131217941837:=0
def tw127089155500072508:=0
def tw9660200935739381710:=0
def tw3569968749284373102:=0
def tw8298682632241471130:=0
def tw17846874053477968383:=0
def tw14021455937418255764:=0
def tw5915235473217729543:=0
def tw17033832620456962444:=0
def tw15787245872613961711:=0
def tw13682560401894197803:=0
def tw16480112312919454897:=0
def tw2239358354736725266:=0
def tw15640714595048173436:=0
def tw421596924703552569:=0
def tw2601470542082242890:=0
def tw10160782190761336828:=0
def tw2806610458224589908:=0
def tw17322685311482710433:=0
def tw11968495094377683264:=0
def tw15530238638019896205:=0
def tw4309099499318765566:=0
def tw13721455750815663099:=0
def tw16051052013121394977:=0
def tw4525436167073074804:=0
def tw5764768234062047222:=0
def tw5805770973601856106:=0
def tw6587530337775767856:=0
def tw14828508019851830137:=0
def tw3691568656729823338:=0
def tw9965858512850767719:=0
def tw2172100298954787719:=0
def tw2019480323008875654:=0
def tw10208826778352921350:=0
def tw14091949979087987629:=0
def tw14534422358413393202:=0
def tw6181119982803923702:=0
def tw10276834793505374710:=0
def tw5705418534524184017:=0
def tw10394503725288134410:=0
def tw9817188957641338993:=0
def tw634777926448937282:=0
def tw2577181297079414854:=0
def tw7209494316646386290:=0
def tw13648122898920152733:=0
def tw8075363455487390127:=0
def tw11322353172807077397:=0
def tw4563013895085453731:=0
def tw6810586788313275163:=0
def tw7200985648837214471:=0
def tw8320042659354096624:=0
def tw18241346040530969970:=0
def tw8939522182828615523:=0
def tw9908069748450283272:=0
def tw9782594855112303854:=0
def tw16240326900700294100:=0
def tw6853254600205116806:=0
def tw10058009552509821718:=0
def tw18199292952318883511:=0
def tw9516244971622417124:=0
def tw13723602614154537775:=0
def tw993743603162728530:=0
def tw17249116344684756885:=0
def tw17194594514363540052:=0
def tw12997293476120182873:=0
def tw12851795775289360635:=0
def tw184187817846429823:=0
def tw3700943186776433703:=0
def tw1370912319305581916:=0
def tw14690422075011746992:=0
def tw13965206276266700693:=0
def tw11555806537386309665:=0
def tw6886893572998910435:=0
def tw5753959688868045446:=0
def tw15357710807630460833:=0
def tw7423454652399333031:=0
def tw13853538490630235579:=0
def tw11277129859692778696:=0
def tw3979587253375855483:=0
def tw7142790235650379036:=0
def tw8001951121484993377:=0
def tw2127109738641484966:=0
def tw9238894469097855558:=0
def tw1802600863384240224:=0
def tw14373869306041460987:=0
def tw16485346370343514096:=0
def tw37731345760005863:=0
def tw15469580277484957845:=0
end PySem.W.Fast
open PyProof.Rows PySem PySem.W
set_option maxRecDepth 100000 in
set_option maxHeartbeats 0 in
theorem PySem.Challenge.cw_tellsum_k39_floors_judged_holds : PySem.Challenge.rw_tellsum_k39_floors_judged.Holds := by
  w_on; o_law; k_head; (case hw => w_witness2)
  k_fill
  refine Prf.walk (l := PySem.Challenge.rw_tellsum_k39_floors_judged) rfl rfl Prf.math (λw h Y => W.kIn_of Y) ?F
  case F =>
    intro w mg fa h KX G hmg
    refine' Prf.Kj KX G hmg ?h1 ?h2 ?h3 ?h4 ?h5 ?h6 ?h7 ?h8 ?h9 ?h10 ?h11 ?h12 ?h13 ?h14 ?h15 ?h16 ?h17 ?h18 ?h19 ?h20 ?h21 ?h22 ?h23 ?h24 ?h25 ?h26 ?h27 ?h28 ?h29 ?h30 ?h31 ?h32 ?h33 ?h34 ?h35 ?h36 ?h37 ?h38 ?h39 ?h40 ?h41 ?h42 ?h43 ?h44 ?h45 ?h46 ?h47 ?h48 ?h49 ?h50 ?z0 ?z1 ?z2 ?z3 ?z4 ?z5 ?z6 ?z7 ?z8 ?z9 ?z10 ?z11 ?z12
    (case h1 | h2 | h3 | h4 | h5 | h6 | h7 | h8 | h9 | h10 | h11 | h12 | h13 | h14 | h15 | h16 | h17 | h18 | h19 | h20 | h21 | h22 | h23 | h24 | h25 | h26 | h27 | h28 | h29 | h30 | h31 | h32 | h33 | h34 | h35 | h36 | h37 | h38 | h39 | h40 | h41 | h42 | h43 | h44 | h45 | h46 | h47 | h48 | h49 | h50 =>
      refine' M.FnAt.mk ?a ?l ?c ?k
      (case a => k_is)
      (case l => k_is)
      (case c => k_is)
      (case k => k_is))
    (case z0 | z1 | z2 | z3 | z4 | z5 | z6 | z7 | z8 | z9 | z10 | z11 | z12 => k_is)
end
