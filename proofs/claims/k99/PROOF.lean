import PyProof.Rows.All
import Wide.All
import OpenK.AllK
import Wide.FinOn
import Lean
import PyProof.EqAt
import PyProof.EqKinds
import PyProof.TupleCall
import PyProof.Rows.Range3
import PyProof.ZipIter
import PyProof.Draws
import PyProof.EnumMake
import PyProof.Rows.FactsTup
import PyProof.LayNew
import PyProof.Rows.SeqMore2
import PyProof.Rows.RuleIs
import KE.KRevIter
import PyProof.P3In
import KE.KSortTup
import PyProof.Rows.SortWalk
import PyProof.Rows.SetFrom
import KE.KIntText
import PyProof.StrOps2
import PySem.Challenge.RW_tellsum_k99_whole_mended_lines_have_thei
set_option Elab.async false
set_option linter.all false
set_option bootstrap.genMatcherCode false
set_option compiler.extract_closed false
set_option maxRecDepth 100000
local macro_rules | `(tactic| trivial) => `(tactic| first|exact Or.inl rfl|exact Or.inr rfl|exact Or.inr (Or.inl rfl)|exact Or.inr (Or.inr rfl))
theorem xE02 {P Q:Prop}{C:Prop}(h:P∧Q)(k:P→Q→C):C:=by obtain⟨p,q⟩:=h;exact k p q
theorem xE03 {P Q R:Prop}{C:Prop}(h:P∧Q∧R)(k:P→Q→R→C):C:=by obtain⟨p,q,r⟩:=h;exact k p q r
theorem xE04 {P Q R S:Prop}{C:Prop}(h:P∧Q∧R∧S)(k:P→Q→R→S→C):C:=by obtain⟨p,q,r,s⟩:=h;exact k p q r s
theorem xE05 {P Q R S T:Prop}{C:Prop}(h:P∧Q∧R∧S∧T)(k:P→Q→R→S→T→C):C:=by obtain⟨p,q,r,s,t⟩:=h;exact k p q r s t
theorem xE06 {P Q R S T U:Prop}{C:Prop}(h:P∧Q∧R∧S∧T∧U)(k:P→Q→R→S→T→U→C):C:=by obtain⟨p,q,r,s,t,u⟩:=h;exact k p q r s t u
theorem xE11 {α:Sort _}{P:α→Prop}{C:Prop}(h:∃a,P a)(k:∀a,P a→C):C:=by obtain⟨a,p⟩:=h;exact k a p
theorem xE12 {α:Sort _}{P Q:α→Prop}{C:Prop}(h:∃a,P a∧Q a)(k:∀a,P a→Q a→C):C:=by obtain⟨a,p,q⟩:=h;exact k a p q
theorem xE13 {α:Sort _}{P Q R:α→Prop}{C:Prop}(h:∃a,P a∧Q a∧R a)(k:∀a,P a→Q a→R a→C):C:=by obtain⟨a,p,q,r⟩:=h;exact k a p q r
theorem xE14 {α:Sort _}{P Q R S:α→Prop}{C:Prop}(h:∃a,P a∧Q a∧R a∧S a)(k:∀a,P a→Q a→R a→S a→C):C:=by obtain⟨a,p,q,r,s⟩:=h;exact k a p q r s
theorem xE15 {α:Sort _}{P Q R S T:α→Prop}{C:Prop}(h:∃a,P a∧Q a∧R a∧S a∧T a)(k:∀a,P a→Q a→R a→S a→T a→C):C:=by obtain⟨a,p,q,r,s,t⟩:=h;exact k a p q r s t
theorem xE21 {α β:Sort _}{P:α→β→Prop}{C:Prop}(h:∃a b,P a b)(k:∀a b,P a b→C):C:=by obtain⟨a,b,p⟩:=h;exact k a b p
theorem xE22 {α β:Sort _}{P Q:α→β→Prop}{C:Prop}(h:∃a b,P a b∧Q a b)(k:∀a b,P a b→Q a b→C):C:=by obtain⟨a,b,p,q⟩:=h;exact k a b p q
theorem xE23 {α β:Sort _}{P Q R:α→β→Prop}{C:Prop}(h:∃a b,P a b∧Q a b∧R a b)(k:∀a b,P a b→Q a b→R a b→C):C:=by obtain⟨a,b,p,q,r⟩:=h;exact k a b p q r
theorem xE24 {α β:Sort _}{P Q R S:α→β→Prop}{C:Prop}(h:∃a b,P a b∧Q a b∧R a b∧S a b)(k:∀a b,P a b→Q a b→R a b→S a b→C):C:=by obtain⟨a,b,p,q,r,s⟩:=h;exact k a b p q r s
theorem xE31 {α β γ:Sort _}{P:α→β→γ→Prop}{C:Prop}(h:∃a b c,P a b c)(k:∀a b c,P a b c→C):C:=by obtain⟨a,b,c,p⟩:=h;exact k a b c p
theorem xE32 {α β γ:Sort _}{P Q:α→β→γ→Prop}{C:Prop}(h:∃a b c,P a b c∧Q a b c)(k:∀a b c,P a b c→Q a b c→C):C:=by obtain⟨a,b,c,p,q⟩:=h;exact k a b c p q
theorem xE33 {α β γ:Sort _}{P Q R:α→β→γ→Prop}{C:Prop}(h:∃a b c,P a b c∧Q a b c∧R a b c)(k:∀a b c,P a b c→Q a b c→R a b c→C):C:=by obtain⟨a,b,c,p,q,r⟩:=h;exact k a b c p q r
open Lean in
local macro_rules
| `(tactic| obtain ⟨$ps,*⟩ := $h) => do
 let ps:=ps.getElems
 let k:=ps.size
 if k<2||k>6 then Macro.throwUnsupported
 let mut bs:Array Term:= #[]
 let mut post:Array (TSyntax `tactic):= #[]
 let mut i:=0
 for p in ps do
  let q:=p.raw[0][0][0]
  if p.raw[1].getNumArgs != 0||p.raw[0][0].getNumArgs != 1 then Macro.throwUnsupported
  let x:=mkIdent (← Macro.addMacroScope (.mkSimple s!"y{i}"))
  i:=i+1
  if q.isOfKind ``Parser.Tactic.rcasesPat.one then
   let d:Ident:=⟨q[0]⟩
   if d.getId== `rfl then
    bs:=bs.push x
    let pp:TSyntax ``Parser.Tactic.rcasesPatMed:=⟨p.raw[0]⟩
    post:=post.push (← `(tactic| obtain $pp := $x))
   else
    bs:=bs.push d
    if h.raw.isIdent&&h.raw.getId==d.getId then Macro.throwUnsupported
  else if q.isOfKind ``Parser.Tactic.rcasesPat.ignore then bs:=bs.push (← `(_))
  else if q.isOfKind ``Parser.Tactic.rcasesPat.tuple then
   bs:=bs.push x
   let pp:TSyntax ``Parser.Tactic.rcasesPatMed:=⟨p.raw[0]⟩
   post:=post.push (← `(tactic| obtain $pp := $x))
  else Macro.throwUnsupported
 let mut alts:Array (TSyntax ``Parser.Tactic.tacticSeq):= #[]
 for n in [0:min 4 k] do
  let f:=mkIdent (.mkSimple s!"xE{n}{k-n}")
  alts:=alts.push (← `(tacticSeq| refine $f $h fun $bs* => ?_))
 let cl← if h.raw.isIdent then `(tactic| try clear $(⟨h.raw⟩)) else `(tactic| skip)
 `(tactic| ((first $[| $alts]*);$cl;$[$post];*))
noncomputable section
abbrev qaa:=@decide_eq_false
abbrev qab:=@beq_eq_false_iff_ne
abbrev qac:=@PySem.Paired.length
abbrev qad:=@PySem.Heap.lt_size
abbrev qae:=@Nat.lt_of_lt_of_le
abbrev qaf:=@Nat.lt_irrefl
abbrev qag:=@Nat.ne_of_lt
abbrev qah:=@List.mem_range
abbrev qai:=@Nat.le_trans
abbrev qaj:=@List.filterMap_cons
abbrev qak:=@List.mem_cons_self
abbrev qal:=@List.mem_cons_of_mem
abbrev qam:=@List.mem_cons
abbrev qan:=@List.mem_append
abbrev qao:=@List.mem_append_left
abbrev qap:=@List.getElem?_eq_some_iff
abbrev qaq:=@List.getElem?_set_ne
abbrev qar:=@PySem.wpAny_mono
abbrev qas:=@PySem.wpAny_truthy_bool
abbrev qat:=@Array.length_toList
abbrev qau:=@PySem.wpAny_execs_nil
abbrev qav:=@PySem.wpAny_bind
abbrev qaw:=@PySem.wpAny_holding
abbrev qax:=@PySem.wpAny_passesOwn
abbrev qay:=@Bool.false_ne_true
abbrev qaz:=@PySem.wpAny_pure
abbrev qaA:=@Int.mul_one
abbrev qaB:=@PySem.wpAny_pyIter_tuple
abbrev qaC:=@PySem.Heap.get?_push_of_some
abbrev qaD:=@PySem.Heap.get?_push_size
abbrev qaE:=@Nat.le_refl
abbrev qaF:=@PyProof.Rows.callWith_type1
abbrev qaG:=@List.mem_filterMap
abbrev qaH:=@List.mem_append_right
abbrev qaI:=@PySem.sizeLine_eq
abbrev qaJ:=@List.size_toArray
abbrev qaK:=@List.append_nil
abbrev qaL:=@PySem.wpAny_Call_Name_kw
abbrev qaM:=@List.nodup_cons
abbrev qaN:=@Option.isSome_iff_exists
abbrev qaO:=@List.length_take
abbrev qaP:=@PySem.mem_of_lookup
abbrev qaQ:=@List.getElem?_append_right
abbrev qaR:=@List.getElem?_replicate
abbrev qaS:=@List.getElem?_append_left
abbrev qaT:=@List.getElem?_map
abbrev qaU:=@List.getElem?_take_of_lt
abbrev qaV:=@List.mem_of_getElem?
abbrev qaW:=@List.length_append
abbrev qaX:=@List.length_map
abbrev qaY:=@List.length_replicate
abbrev qaZ:=@PySem.F.slot_tuple_add
abbrev qa0:=@PySem.F.entry_tuple_add
abbrev qa1:=@PySem.F.args_tuple_add_2
abbrev qa2:=@Int.toNat_natCast
abbrev qa3:=@if_false
abbrev qa4:=@PySem.wpAny_field
abbrev qa5:=@List.length_drop
abbrev qa6:=@PySem.wpAny_callSpecial?_slot
abbrev qa7:=@PyProof.Rows.slot_tuple_getitem
abbrev qa8:=@PySem.wpAny_call_entry
abbrev qa9:=@Bool.and_eq_true
abbrev qba:=@PySem.wpAny_newObj_type
abbrev qbb:=@List.map_nil
abbrev qbc:=@List.map_cons
abbrev qbd:=@PySem.Heap.get?_update_self
abbrev qbe:=@List.length_set
abbrev qbf:=@List.replicate_succ
abbrev qbg:=@List.flatten_cons
abbrev qbh:=@List.append_assoc
abbrev qbi:=@List.foldl_cons
abbrev qbj:=@PySem.call_meets
abbrev qbk:=@List.length_singleton
abbrev qbl:=@Nat.add_comm
abbrev qbm:=@List.nil_append
abbrev qbn:=@PySem.F.slot_int_rmul
abbrev qbo:=@Nat.mul_comm
abbrev qbp:=@decide_eq_true
abbrev qbq:=@List.find?_cons
abbrev qbr:=@List.length_cons
abbrev qbs:=@List.length_nil
abbrev qbt:=@Exists.imp
abbrev qbu:=@List.getElem?_set
abbrev qbv:=@Option.ne_none_iff_exists'
abbrev qbw:=@Option.bind_some
abbrev qbx:=@Option.map_some
abbrev qby:=@Option.some.injEq
abbrev qbz:=@Prod.mk.injEq
abbrev qbA:=@decide_eq_true_eq
abbrev qbB:=@Nat.zero_le
abbrev qbC:=@Bool.or_eq_true
abbrev qbD:=@of_decide_eq_true
abbrev qbE:=@List.eq_nil_of_length_eq_zero
abbrev qbF:=@List.getElem?_eq_getElem
abbrev qbG:=@Nat.lt_of_le_of_lt
abbrev qbH:=@beq_iff_eq
abbrev qbI:=@List.getElem?_cons_succ
abbrev qbJ:=@List.forIn_cons
abbrev qbK:=@List.lookup_cons
abbrev qbL:=@beq_self_eq_true
abbrev qbM:=@Nat.lt_succ_self
abbrev qbN:=@Nat.lt_succ_of_lt
abbrev qbO:=@PySem.Heap.size_push
abbrev qbP:=@List.forIn_nil
abbrev qbQ:=@Bool.false_eq_true
abbrev qbR:=@List.all_eq_true
abbrev qbS:=@List.mem_map
abbrev qbT:=@List.take_of_length_le
abbrev qbU:=@List.getElem?_eq_none
abbrev qbV:=@PySem.wpAny_rule
abbrev qbW:=@Nat.sub_zero
abbrev qbX:=@List.length_pos_iff
abbrev qbY:=@Nat.add_left_cancel
abbrev qbZ:=@PySem.wpAny_seqItems
abbrev qb0:=@PySem.Obj.data_mapFields
abbrev qb1:=@PySem.wpAny_setField
abbrev qb2:=@PySem.Heap.SameBut.update
abbrev qb3:=@PySem.wpAny_setField_rec
abbrev qb4:=@List.zipIdx_cons
abbrev qb5:=@List.zipIdx_nil
abbrev qb6:=@PySem.wpAny_onRaise
abbrev qb7:=@PySem.wpAny_letGo
abbrev qb8:=@PySem.AutoSeq1.wpAny_loadPart'
abbrev qb9:=@List.not_mem_nil
abbrev qca:=@PySem.wpAny_attempt
abbrev qcb:=@PySem.F.slot_zip_next
abbrev qcc:=@PySem.F.entry_zip_next
abbrev qcd:=@PySem.F.args_zip_next_1
abbrev qce:=@List.getElem?_zipWith
abbrev qcf:=@List.getElem?_range
abbrev qcg:=@List.mem_singleton
abbrev qch:=@List.map_map
abbrev qci:=@List.map_congr_left
abbrev qcj:=@List.map_append
abbrev qck:=@PySem.wpAny_updateSeq_pair
abbrev qcl:=@PySem.F.slot_dict_keyiterator_next
abbrev qcm:=@PySem.wpAny_typeNameOfWhole_keyiter
abbrev qcn:=@PySem.wpAny_typeNameOf_keyiter
abbrev qco:=@PySem.tupleKind_room_in1
abbrev qcp:=@Int.sub_zero
abbrev qcq:=@exists_eq_left'
abbrev qcr:=@false_implies
abbrev qcs:=@Nat.zero_add
abbrev qct:=@Function.comp_def
abbrev qcu:=@List.range_succ
abbrev qcv:=@List.ext_getElem?
abbrev qcw:=@Nat.min_eq_left
abbrev qcx:=@List.drop_of_length_le
abbrev qcy:=@List.getD_eq_getElem?_getD
abbrev qcz:=@Int.zero_add
abbrev qcA:=@Int.mul_comm
abbrev qcB:=@Int.le_refl
abbrev qcC:=@List.getElem?_drop
abbrev qcD:=@List.length_range
abbrev qcE:=@Nat.add_mul_mod_self_right
abbrev qcF:=@Nat.mod_eq_of_lt
abbrev qcG:=@Nat.mod_add_div
abbrev qcH:=@PySem.PassesOwn.never
abbrev qcI:=@PySem.W.mg_none_of
abbrev qcJ:=@Nat.add_mul
abbrev qcK:=@Classical.byContradiction
abbrev qcL:=@Nat.add_sub_cancel
abbrev qcM:=@Nat.mul_le_mul_right
abbrev qcN:=@Nat.mul_add
abbrev qcO:=@Nat.add_zero
abbrev qcP:=@List.getElem_of_mem
abbrev qcQ:=@Int.le_trans
abbrev qcR:=@Classical.choose_spec
abbrev qcS:=@Nat.sub_self
abbrev qcT:=@Int.emod_lt_of_pos
abbrev qcU:=@Int.one_mul
abbrev qcV:=@Nat.mod_lt
abbrev qcW:=@List.length_eq_zero_iff
abbrev qcX:=@Int.zero_mul
abbrev qcY:=@List.mem_flatMap
abbrev qcZ:=@Nat.pow_le_pow_right
abbrev qc0:=@List.flatMap_append
abbrev qc1:=@Nat.mul_one
namespace L2
open PyProof.Rows PySem PySem.Spec
variable {xs vs:List V} {us its:List Value} {x qual:Str} {u cd:Value} {H:Hp} {a b it:Addr} {o:Obj} {w:World} {h:Heap} {g':Array GenState} {t' i j k n:Nat} {d':Drawn} {ch fp:List Addr} {e c tg l:Expr} {pins' pins pl:List (Addr×Obj)} {N ps:List Str} {A:Around} {E:Value->Shared->Prop} {v:V} {Q:Unit->Shared->Prop} {X:Cx} {t te:TE} {s s':Shared} {ta:TA} {tb:TS} {σ:St} {pos pos':Pos} {op op':CmpOp} {K:W.Frag} {tc:TT} {es:List Expr} {g:Int->Int->Int} {body:List Stmt} {p:Addr×Obj} {r:V->Hp->VK->Prop} {C:Int->Int->Prop} {fd:FuncData} {kindOf:Str->Option NameKind} {sc scope:Scope} {CX:CXT} {mg:Str->Option Value} {outer:List Env} {params:Arguments}
noncomputable abbrev Key:=Sum Int Str
noncomputable def zp9:Key->Value->Bool
 | .inl k,v=>Value.isInt k v
 | .inr x,v=>Value.isStrOf x v
noncomputable def keyH (w:World):Key->Int
 | .inl k=>hashInt k
 | .inr x=>hashStr w x
theorem zbn:∀{k:Key} {v:Value},zp9 k v=true->(∃i t,k=Sum.inl i/\v=Value.int i t)\/(∃x t,k=Sum.inr x/\v=Value.str x t)
 | .inl i,v,h=>by
  obtain⟨t,e⟩:=Value.isInt_shape (k:=i) (v:=v) h;exact .inl ⟨i,t,rfl,e⟩
 | .inr x,v,h=>by
  obtain⟨t,e⟩:=Value.isStrOf_shape (x:=x) (v:=v) h;exact .inr ⟨x,t,rfl,e⟩
theorem zsu (i:Int)(t:Tok):zp9 (.inl i) (.int i t)=true:=by simp[zp9,Value.isInt]
theorem zqT (x:Str)(t:Tok):zp9 (.inr x) (.str x t)=true:=by simp[zp9,Value.isStrOf]
theorem key_ll (a b:Int):decide ((Sum.inl a:Key)=Sum.inl b)=(a==b):=by
 by_cases e:a=b
 ·subst e;simp
 ·have h:¬(Sum.inl a:Key)=Sum.inl b:=fun q=>e (Sum.inl.inj q)
  rw[qaa h];exact(qab.mpr e).symm
theorem key_rr (a b:Str):decide ((Sum.inr a:Key)=Sum.inr b)=decide (a=b):=by
 by_cases e:a=b
 ·subst e;simp
 ·have h:¬(Sum.inr a:Key)=Sum.inr b:=fun q=>e (Sum.inr.inj q)
  rw[qaa h,qaa e]
theorem key_lr (a:Int)(b:Str):decide ((Sum.inl a:Key)=Sum.inr b)=false:=qaa (fun q=>nomatch q)
theorem key_rl (a:Str)(b:Int):decide ((Sum.inr a:Key)=Sum.inl b)=false:=qaa (fun q=>nomatch q)
noncomputable def zcK (prog:Program)(w:World):PySem.KeyKind prog w Key where
 is:=zp9
 hash:=keyH w
 inj:=fun v a b ha hb=>by
  rcases zbn ha with⟨i,t,rfl,rfl⟩|⟨x,t,rfl,rfl⟩
  ·rcases zbn hb with⟨j,u,rfl,e⟩|⟨y,u,rfl,e⟩
   ·injection e with e1 _;rw[e1]
   ·exact nomatch e
  ·rcases zbn hb with⟨j,u,rfl,e⟩|⟨y,u,rfl,e⟩
   ·exact nomatch e
   ·injection e with e1 _;rw[e1]
 byValue:=fun k v h=>by
  rcases zbn h with⟨i,t,rfl,rfl⟩|⟨x,t,rfl,rfl⟩<;>rfl
 pyHash:=fun hv h=>by
  rcases zbn hv with⟨i,t,rfl,rfl⟩|⟨x,t,rfl,rfl⟩
  ·exact wpAny_pyHash_int h
  ·exact wpAny_pyHash_str h
 eqBool:=fun hu hv h=>by
  rcases zbn hu with⟨i,t,rfl,rfl⟩|⟨x,t,rfl,rfl⟩
  ·rcases zbn hv with⟨j,u,rfl,rfl⟩|⟨y,u,rfl,rfl⟩
   ·rw[key_ll]at h;exact wpAny_eqBool_int h
   ·rw[key_lr]at h;exact SeqAt.EqAt.int_str i t y u _ _ _ _ h
  ·rcases zbn hv with⟨j,u,rfl,rfl⟩|⟨y,u,rfl,rfl⟩
   ·rw[key_rl]at h;exact SeqAt.EqAt.str_int x t j u _ _ _ _ h
   ·rw[key_rr]at h;exact wpAny_eqBool_str h
 «strs»:=fun k x t v h=>by
  rcases zbn h with⟨i,u,rfl,e⟩|⟨y,u,rfl,e⟩
  ·exact nomatch e
  ·injection e with e1 _
   subst e1;cases v<;>rfl
theorem zoL (prog:Program)(w:World)(i:Int)(t:Tok):(zcK prog w).is (.inl i) (.int i t)=true:=zsu i t
theorem zoE (prog:Program)(w:World)(x:Str)(t:Tok):(zcK prog w).is (.inr x) (.str x t)=true:=zqT x t
inductive V where
 |non|bl (b:Bool)|int (i:Int)|str (x:Str)|byt (b:Array UInt8)|flt (b:UInt64)|ref (a:Addr)|ty (n:String)
 deriving DecidableEq
noncomputable def RelV:V->Value->Prop
 | .non,u=>u=Value.none
 | .bl b,u=>u=Value.bool b
 | .int i,u=>∃t,u=Value.int i t
 | .str x,u=>∃t,u=Value.str x t
 | .byt b,u=>∃t,u=Value.bytes b t
 | .flt b,u=>∃t,u=Value.float b t
 | .ref a,u=>u=Value.ref a
 | .ty n,u=>u=Value.type n
noncomputable abbrev Vals:List V->List Value->Prop:=Paired RelV
theorem Vals.length (r:Vals xs us):xs.length=us.length:=qac r
theorem Vals.get:∀{xs:List V} {us:List Value} {i:Nat} {x:V},Vals xs us->xs[i]? =some x->∃u,us[i]? =some u/\RelV x u
 |_,_,_,_,.nil,e=>by simp at e
 |_,_,0,_,.cons r _,e=>by simp at e;subst e;exact⟨_,rfl,r⟩
 |_,_,i+1,x,.cons _ t,e=>by
  obtain⟨u,h1,h2⟩:=Vals.get (i:=i) (x:=x) t (by simpa using e);exact⟨u,by simpa using h1,h2⟩
theorem Vals.set {x:V}(r:RelV x u):∀{xs:List V} {us:List Value} (i:Nat),Vals xs us->Vals (xs.set i x) (us.set i u)
 |_,_,_,.nil=> .nil
 |_,_,0,.cons _ t=> .cons r t
 |_,_,i+1,.cons q t=> .cons q (Vals.set r i t)
theorem Vals.append:∀{xs ys:List V} {us ws:List Value},Vals xs us->Vals ys ws->Vals (xs++ys) (us++ws)
 |_,_,_,_,.nil,s=>s
 |_,_,_,_,.cons r t,s=> .cons r (Vals.append t s)
theorem Vals.take:∀{xs:List V} {us:List Value} (n:Nat),Vals xs us->Vals (xs.take n) (us.take n)
 |_,_,0,_=> .nil
 |_,_,_+1,.nil=> .nil
 |_,_,n+1,.cons r t=> .cons r (Vals.take n t)
theorem Vals.drop:∀{xs:List V} {us:List Value} (n:Nat),Vals xs us->Vals (xs.drop n) (us.drop n)
 |_,_,0,r=>r
 |_,_,_+1,.nil=> .nil
 |_,_,n+1,.cons _ t=>Vals.drop n t
noncomputable def RelO:Option V->Option Value->Prop
 |some v,some u=>RelV v u
 |none,none=>True
 |_,_=>False
noncomputable def KV {κ:Type}:List (κ×V)->List (κ×Value)->Prop:=Paired fun(p:κ×V) (q:κ×Value)=>p.1=q.1/\RelV p.2 q.2
noncomputable def kV:Key->V
 | .inl i=> .int i
 | .inr x=> .str x
inductive HO where
 /-- a list -/
 |lst (xs:List V)
 /-- a tuple (never changes) -/
 |tup (xs:List V)
 /-- a dict whose keys are ints and texts; one whose keys are tuples of ints and texts (the empty one is both) -/
 |dK (kvs:List (Key×V))|dT (kvs:List (List Key×V))
 /-- a set of ints: its members, its size -/
 |set (S:Int->Bool) (n:Nat)
 /-- an instance of the class at C, its dict at dx, its attributes -/
 |ins (C dx:Addr) (fs:List (Str×V))
 /-- the dict of the instance at x -/
 |own (x:Addr)
 /-- the dict of an exception -/
 |xd (fs:List (Str×V))
 /-- a bound method, f of x -/
 |met (f x:Addr)
 /-- a range object lo, lo + 1, .. zbS hi -/
 |rng (lo hi:Int)
 /-- a thing that is known to the object (the script; a dict while a loop walks it): read, never written while it is so -/
 |frz (o:Obj) (u:HO)
 /-- a code object's table -/
 |tbl (ps:Array Value)
 /-- any other thing, by what is true of its one object (a def of one's own: SetO a S n := HO.ext fun h => ..) -/
 |ext (φ:Heap->Prop)
noncomputable abbrev Hp:=Addr->Option HO
noncomputable def upd (H:Hp)(a:Addr)(o:HO):Hp:=fun b=>if b=a then some o else H b
theorem zaD {o:HO}:upd H a o a=some o:=by unfold upd;rw[if_pos rfl]
theorem zaw {o:HO}(h:b≠a):upd H a o b=H b:=by unfold upd;rw[if_neg h]
theorem za3 {o:HO}(h:H a=some o)(h':H b=none):a≠b:=by
 intro e;subst e;rw[h]at h';cases h'
section
variable (P:Program) (w:World)
noncomputable def ObjOk (H:Hp)(h:Heap)(a:Addr):HO->Prop
 | .lst xs=>xs.length<=sizeLine/\∃(its:List Value) (n:Nat),Vals xs its/\h.get? a=some {cls:= .type "list",data:= .seq its.toArray n}
 | .tup xs=>xs.length<=sizeLine/\∃its:List Value,Vals xs its/\IsTup h a its.toArray
 | .dK kvs=>kvs.length<=sizeLine/\(a==sysModules)=false/\∃vs,KV kvs vs/\h.DictOf (zcK P w) a vs
 | .dT kvs=>kvs.length<=sizeLine/\(a==sysModules)=false/\∃xs:List (List Key×Addr×Value),
   Paired (fun(p:List Key×V) (q:List Key×Addr×Value)=>p.1=q.1/\H q.2.1=some (.tup (p.1.map kV))/\RelV p.2 q.2.2) kvs xs/\
   ∃o es ep,h.get? a=some o/\o.ExactDict/\o.data= .dict es ep/\es.toList=xs.map (entryOfKey (tupleKind (zcK P w)))/\(xs.map (·.1)).Nodup
 | .set S n=>h.SetOf (intKind P w) a S n
 | .ins C dx fs=>H dx=some (.own a)/\fs.length<=1000/\dx≠a/\h.get? a=some (W.instObj C dx)/\
   ∃mA,h.Ns1 dx mA/\(∀f,RelO (fs.lookup f) (mA f))/\PySem.Within mA (fs.map (·.1))
 | .own _=>∃o,h.get? a=some o
 | .xd fs=>∃mA,h.Ns1 a mA/\∀f,RelO (fs.lookup f) (mA f)
 | .rng lo hi=>∃t u v,h.get? a=some {cls:= .type "range",data:= .fields #[.int lo t,.int hi u,.int 1 v]}
 | .frz o u=>h.get? a=some o/\ObjOk H h a u
 | .tbl ps=>h.get? a=some {cls:= .none,data:= .fields ps}
 | .met f x=>h.get? a=some (W.methodObj (.ref f) (.ref x))
 | .ext φ=>φ h/\(∃o,h.get? a=some o)/\∀h1 h2:Heap,φ h1->(∀o,h1.get? a=some o->h2.get? a=some o)->φ h2
noncomputable def HOk (H:Hp)(h:Heap):Prop:=∀a o,H a=some o->ObjOk P w H h a o
end
section
variable {P:Program} {w:World} {H H':Hp} {h h':Heap} {a:Addr} {o:HO}
theorem ObjOk.lt (x:ObjOk P w H h a o):a<h.objs.size:=by
 cases o with
 |lst xs=>obtain⟨_,_,_,_,e⟩:=x;exact qad e
 |tup xs=>obtain⟨_,_,_,p⟩:=x;exact p.lt
 |dK kvs=>obtain⟨_,_,_,_,o,_,_,e,_⟩:=x;exact qad e
 |dT kvs=>obtain⟨_,_,_,_,o,_,_,e,_⟩:=x;exact qad e
 |set S n=>obtain⟨o,_,_,_,e,_⟩:=x;exact qad e
 |ins C dx fs=>obtain⟨_,_,_,e,_⟩:=x;exact qad e
 |own y=>obtain⟨_,e⟩:=x;exact qad e
 |xd fs=>obtain⟨_,⟨_,_,_,e,_⟩,_⟩:=x;exact qad e
 |rng lo hi=>obtain⟨_,_,_,e⟩:=x;exact qad e
 |frz ob u=>obtain⟨e,_⟩:=x;exact qad e
 |tbl ps=>exact qad (show h.get? a=some _ from x)
 |met f y=>exact qad (show h.get? a=some _ from x)
 |ext φ=>obtain⟨_,⟨_,e⟩,_⟩:=x;exact qad e
theorem Paired.mapP {α β:Type}{F G:α->β->Prop}:∀{l₁:List α} {l₂:List β},Paired F l₁ l₂->(∀a b,F a b->G a b)->Paired G l₁ l₂
 |_,_,.nil,_=> .nil
 |_,_,.cons r t,f=> .cons (f _ _ r) (Paired.mapP t f)
theorem ObjOk.stay (x:ObjOk P w H h a o)(k:∀b u,(b=a\/H b=some (.own a))->h.get? b=some u->h'.get? b=some u)
  (ho:∀b,H b=some (.own a)->H' b=some (.own a)) (ht:∀b xs,H b=some (.tup xs)->H' b=some (.tup xs)):ObjOk P w H' h' a o:=by
 induction o with
 |lst xs=>obtain⟨z,its,n,r,e⟩:=x;exact⟨z,its,n,r,k _ _ (.inl rfl) e⟩
 |tup xs=>obtain⟨z,its,r,ob,e,c⟩:=x;exact⟨z,its,r,ob,k _ _ (.inl rfl) e,c⟩
 |dK kvs=>obtain⟨z,y,vs,r,ob,es,ep,e,c⟩:=x;exact⟨z,y,vs,r,ob,es,ep,k _ _ (.inl rfl) e,c⟩
 |dT kvs=>
  obtain⟨z,y,xs,r,ob,es,ep,e,c⟩:=x;exact⟨z,y,xs,Paired.mapP r fun p q z=>⟨z.1,ht _ _ z.2.1,z.2.2⟩,ob,es,ep,k _ _ (.inl rfl) e,c⟩
 |set S n=>obtain⟨ob,es,ep,t,e,c⟩:=x;exact⟨ob,es,ep,t,k _ _ (.inl rfl) e,c⟩
 |ins C dx fs=>
  obtain⟨d,z,ne,e,mA,⟨od,es,ep,e2,c⟩,r⟩:=x;exact⟨ho _ d,z,ne,k _ _ (.inl rfl) e,mA,⟨od,es,ep,k _ _ (.inr d) e2,c⟩,r⟩
 |own y=>obtain⟨ob,e⟩:=x;exact⟨ob,k _ _ (.inl rfl) e⟩
 |xd fs=>obtain⟨mA,⟨od,es,ep,e,c⟩,r⟩:=x;exact⟨mA,⟨od,es,ep,k _ _ (.inl rfl) e,c⟩,r⟩
 |rng lo hi=>obtain⟨t,u,v,e⟩:=x;exact⟨t,u,v,k _ _ (.inl rfl) e⟩
 |frz ob u ih=>obtain⟨e,q⟩:=x;exact⟨k _ _ (.inl rfl) e,ih q⟩
 |tbl ps=>
  have e:h.get? a=some {cls:= .none,data:= .fields ps}:=x;show h'.get? a=some {cls:= .none,data:= .fields ps};exact k a _ (.inl rfl) e
 |met f y=>
  have e:h.get? a=some (W.methodObj (.ref f) (.ref y)):=x;show h'.get? a=some (W.methodObj (.ref f) (.ref y));exact k a _ (.inl rfl) e
 |ext φ=>obtain⟨p,⟨o,e⟩,st⟩:=x;exact⟨st _ _ p fun o q=>k _ _ (.inl rfl) q,⟨o,k _ _ (.inl rfl) e⟩,st⟩
theorem HOk.lt (x:HOk P w H h)(e:H a=some o):a<h.objs.size:=(x a o e).lt
theorem HOk.fresh (x:HOk P w H h)(e:h.objs.size<=a):H a=none:=by
 cases q:H a with
 |none=>rfl
 |some u=>exact absurd (qae (x.lt q) e) (qaf _)
theorem HOk.kept (x:HOk P w H h)(k:∀b u,h.get? b=some u->h'.get? b=some u):HOk P w H h':=fun a o e=>
 (x a o e).stay (fun b u _ q=>k b u q) (fun _ q=>q) fun _ _ q=>q
theorem HOk.laid (x:HOk P w H h)(k:∀b u,h.get? b=some u->h'.get? b=some u)(hp:h.objs.size<=a)(new:ObjOk P w (upd H a o) h' a o):HOk P w (upd H a o) h':=fun b u e=>by
 have hn:=x.fresh hp
 by_cases hb:b=a
 ·subst hb;rw[zaD]at e;cases e;exact new
 ·rw[zaw hb]at e;exact(x b u e).stay (fun c v _ q=>k c v q) (fun c q=>by rw[zaw (za3 q hn)];exact q) fun c xs q=>by rw[zaw (za3 q hn)];exact q
end
noncomputable def Rd (H:Hp)(a:Addr)(u:HO):Prop:=H a=some u\/∃o,H a=some (.frz o u)
theorem Rd.ok {P:Program}{u:HO}(r:Rd H a u)(x:HOk P w H h):ObjOk P w H h a u:=by
 rcases r with r|⟨o,r⟩
 ·exact x a u r
 ·obtain⟨_,q⟩:=x a _ r;exact q
noncomputable def Mut:Option HO->Prop
 |some (.lst _)=>True
 |some (.dK _)=>True
 |some (.dT _)=>True
 |some (.set _ _)=>True
 |some (.ins _ _ _)=>True
 |some (.ext _)=>True
 |_=>False
section
variable {P:Program} {w:World} {H:Hp} {h h':Heap} {x e:Addr} {o':HO}
theorem HOk.write (ok:HOk P w H h)(mu:Mut (H x))(he:e=x\/H e=some (.own x))(k:∀b u,b≠e->h.get? b=some u->h'.get? b=some u)(heo:∃u,h'.get? e=some u)
  (new:ObjOk P w (upd H x o') h' x o'):HOk P w (upd H x o') h':=fun b u q=>by
 have nown:∀c y,H c=some (.own y)->c≠x:=fun c y r z=>by subst z;rw[r]at mu;exact mu
 have ntup:∀c xs,H c=some (.tup xs)->c≠x:=fun c xs r z=>by subst z;rw[r]at mu;exact mu
 by_cases hb:b=x
 ·subst hb;rw[zaD]at q;cases q;exact new
 ·rw[zaw hb]at q
  by_cases hbe:b=e
  ·have q':H b=some (.own x):=by
    rcases he with z|z
    ·exact absurd (hbe.trans z) hb
    ·rw[hbe];exact z
   rw[q]at q';cases q';obtain⟨v,hv⟩:=heo;exact⟨v,by rw[hbe];exact hv⟩
  ·refine(ok b u q).stay (fun c v hc r=>k c v ?_ r) (fun c r=>by rw[zaw (nown c b r)];exact r) fun c xs r=>by rw[zaw (ntup c xs r)];exact r
   rcases hc with rfl|hc
   ·exact hbe
   ·rintro rfl;rcases he with z|z
    ·exact nown c b hc z
    ·rw[hc]at z;cases z;exact hb rfl
end
structure Un (fs ex:List Addr) (H H':Hp) (h h':Heap):Prop where
 keep:∀b o,h.get? b=some o->H b=none->b∉fs->b∉ex->h'.get? b=some o
 slot:∀b o,h.get? b=some o->H b=none->b∈fs->b∉ex->∃sl,h'.get? b=some {o with slots:=sl}
 free:∀b o,h.get? b=some o->H b=none->b∉ex->H' b=none
 there:∀b o,h.get? b=some o->b∉ex->∃o',h'.get? b=some o'
 tups:∀b xs,H b=some (.tup xs)->H' b=some (.tup xs)
 frzs:∀b o u,H b=some (.frz o u)->H' b=some (.frz o u)
 tbls:∀b ps,H b=some (.tbl ps)->∃more,H' b=some (.tbl (ps++more))
section
variable {fs fs' ex ex':List Addr} {H H1 H2:Hp} {h h1 h2 h':Heap} {a x e:Addr} {o:HO}
theorem Un.any (u:Un fs ex H H1 h h1){ob:Obj}(q:h.get? b=some ob)(n:H b=none)(hx:b∉ex):∃sl,h1.get? b=some {ob with slots:=sl}:=by
 by_cases hb:b∈fs
 ·exact u.slot b ob q n hb hx
 ·exact⟨ob.slots,u.keep b ob q n hb hx⟩
theorem Un.kept (k:∀b u,h.get? b=some u->h'.get? b=some u):Un fs ex H H h h':=
 ⟨fun b ob q _ _ _=>k b ob q,fun b ob q _ _ _=>⟨ob.slots,k b ob q⟩,fun _ _ _ n _=>n,fun b ob q _=>⟨ob,k b ob q⟩,fun _ _ q=>q,fun _ _ _ q=>q,fun _ ps q=>⟨#[],by rw[q];simp⟩⟩
theorem Un.refl:Un fs ex H H h h:=Un.kept fun _ _ q=>q
theorem Un.laid (k:∀b u,h.get? b=some u->h'.get? b=some u)(hp:h.objs.size<=a)(hn:H a=none):Un fs ex H (upd H a o) h h' where
 keep:=fun b u q _ _ _=>k b u q
 slot:=fun b u q _ _ _=>⟨u.slots,k b u q⟩
 free:=fun b u q n _=>by rw[zaw (qag (qae (qad q) hp))];exact n
 there:=fun b u q _=>⟨u,k b u q⟩
 tups:=fun b xs q=>by rw[zaw (za3 q hn)];exact q
 frzs:=fun b u xs q=>by rw[zaw (za3 q hn)];exact q
 tbls:=fun b ps q=>⟨#[],by rw[zaw (za3 q hn),q];simp⟩
theorem Un.write (mu:Mut (H x))(he:e=x\/H e=some (.own x))(k:∀b u,b≠e->h.get? b=some u->h'.get? b=some u)(heo:∃u,h'.get? e=some u):Un fs ex H (upd H x o) h h':=by
 have hx:∀b,H b=none->b≠x:=fun b n z=>by subst z;rw[n]at mu;exact mu
 have hb:∀b,H b=none->b≠e:=fun b n z=>by
  subst z;rcases he with r|r
  ·exact hx b n r
  ·rw[n]at r;cases r
 have hm:∀b u,H b=some u->¬Mut (some u)->b≠x:=fun b u q nm z=>by subst z;rw[q]at mu;exact nm mu
 refine⟨fun b u q n _ _=>k b u (hb b n) q,fun b u q n _ _=>⟨u.slots,k b u (hb b n) q⟩,fun b u q n _=>by rw[zaw (hx b n)];exact n,fun b u q _=>?_,
  fun b xs q=>by rw[zaw (hm b _ q fun z=>z)];exact q,fun b u xs q=>by rw[zaw (hm b _ q fun z=>z)];exact q,fun b ps q=>⟨#[],by rw[zaw (hm b _ q fun z=>z),q];simp⟩⟩
 by_cases hbe:b=e
 ·subst hbe;exact heo
 ·exact⟨u,k b u hbe q⟩
end
noncomputable def trk (h:Heap)(H:Hp):List Addr:=(List.range h.objs.size).filter fun a=>(H a).isSome
noncomputable def hidT (h:Heap)(H:Hp):Heap:=W.hideAll h (trk h H)
theorem zq3 (h:Heap)(H:Hp):(hidT h H).objs.size=h.objs.size:=W.hideAll_size _ _
theorem hidT_get (e:h.get? b=some o)(n:H b=none):(hidT h H).get? b=some o:=
 W.hideAll_get _ e fun hm=>by
  have q:(H b).isSome=true:=(List.mem_filter.mp hm).2;rw[n]at q;simp at q
theorem of_hidT (e:(hidT h H).get? b=some o):h.get? b=some o/\H b=none:=by
 have e':h.get? b=some o:=W.of_hideAll (trk h H) e;refine⟨e',?_⟩;cases q:H b with
 |none=>rfl
 |some x=>
  have hm:b∈trk h H:=List.mem_filter.mpr ⟨qah.mpr (qad e'),by simp[q]⟩;have z:(hidT h H).get? b=none:=W.hideAll_none (trk h H) hm;rw[z]at e;cases e
noncomputable def allNews (g h:Heap)(L:Addr):List (Addr×Obj):=(List.range h.objs.size).filterMap fun a=>if a=L\/(g.get? a).isSome=true then none else(h.get? a).map fun o=>(a,o)
noncomputable def rest (g h:Heap)(L d:Addr):List (Addr×Obj):=(allNews g h L).filter fun p=>decide (p.1≠d)
structure Mod (K:W.Frag) (mg:Str->Option Value) (base:Heap):Prop where
 kin:K.In base
 glob:base.Ns mainGlobals mg
 blt:∃mb,base.Ns builtinsNs mb/\∀x:Str,x≠"__name__"->mb x=bootBuiltins x
 nolimit:base.NoLimit
structure Cx where
 prog:Program
 w:World
 K:W.Frag
 mg:Str->Option Value
 base:Heap
 A:Around
 N:List Str
 s₀:Shared
 H₀:Hp
 env:Env
 outer:List Env
 stack:List Env
 ex:List Addr
 fn:Str->Bool
 calm:Bool
 pn:List (Addr×Obj)
 xe:Value->Shared->Prop
noncomputable def frs (l:List Env):List Addr:=l.filterMap (·.frame)
noncomputable abbrev Cx.fs (X:Cx):List Addr:=frs X.outer
noncomputable def Vis (sc:Scope)(x:Str):Prop:=sc.names.lookup x=some .local\/sc.names.lookup x=some .cell\/sc.names.lookup x=some .free
noncomputable def Loc (sc:Scope)(x:Str):Prop:=sc.names.lookup x=some .local\/sc.names.lookup x=some .cell
noncomputable def Look (env:Env)(h:Heap)(m:Str->Option Value)(x:Str)(u:Value):Prop:=
 (env.kindOf x=some .local/\m x=some u)\/((env.kindOf x=some .cell\/env.kindOf x=some .free)/\∃c,env.cells.lookup x=some c/\h.IsCell c (some u))
structure Cx.Ok (X:Cx):Prop where
 mod:Mod X.K X.mg X.base
 kind:X.env.scope.kind= .function
 glob:X.env.globals=mainGlobals
 blt:X.env.builtins=builtinsNs
 above:X.s₀.heap.objs.size<=X.env.locals
 inj:∀x y c,X.env.cells.lookup x=some c->X.env.cells.lookup y=some c->x=y
 has:∀x,(X.env.kindOf x=some .cell\/X.env.kindOf x=some .free)->∃c,X.env.cells.lookup x=some c
 cab:∀x c,X.fn x=true->X.env.cells.lookup x=some c->X.s₀.heap.objs.size<=c
 hd:X.calm=true->X.A.handled=none
 frames:X.A.frames=some X.stack
 stk:X.stack=X.outer\/(X.stack=X.env::X.outer/\X.env.frame=some X.env.locals)
 exf:∀b∈X.ex,b≠X.env.locals/\∀x c,X.env.cells.lookup x=some c->c≠b
 bs:∀b o,X.base.get? b=some o->X.s₀.heap.get? b=some o/\X.H₀ b=none
 bsz:X.base.objs.size<=X.s₀.heap.objs.size
 noex:∀b o,X.base.get? b=some o->b∉X.ex
 exfs:∀b∈X.ex,b∉X.fs
 funs:X.s₀.heap.FunFrames X.base X.outer
 frf:∀b∈X.fs,X.H₀ b=none
structure Inv (X:Cx) (pins:List (Addr×Obj)) (σ:List (Option V)) (H:Hp) (s:Shared):Prop where
 ok:X.Ok
 os:s.os=X.s₀.os
 bare:AllBare s.gens
 base:Un X.fs X.ex X.H₀ H X.s₀.heap s.heap
 loc:∃m,s.heap.Ns X.env.locals m/\∀(i:Nat) (x:Str) (v:V),X.N[i]? =some x->σ[i]? =some (some v)->Vis X.env.scope x->∃u,RelV v u/\Look X.env s.heap m x u
 cell:∀x c,X.env.cells.lookup x=some c->∃v,s.heap.IsCell c v
 free:H X.env.locals=none
 freeC:∀x c,X.env.cells.lookup x=some c->H c=none
 pin:∀p∈X.pn++pins,s.heap.get? p.1=some p.2/\H p.1=none/\p.1≠X.env.locals/\p.1∉X.fs/\∀v,p.2.data≠ .cell v
 hok:HOk X.prog X.w H s.heap
 len:σ.length=X.N.length
section
variable {X:Cx} {pins:List (Addr×Obj)} {σ:List (Option V)} {H H':Hp} {s:Shared} {h':Heap}
theorem Cx.Ok.nofr (ok:X.Ok)(e:X.base.get? b=some o):b∉X.fs:=fun hb=>by
 have:=(ok.funs.mem hb).1;rw[e]at this;cases this
theorem Inv.bs (I:Inv X pins σ H s):∀b o,X.base.get? b=some o->s.heap.get? b=some o/\H b=none:=fun b o e=>
 ⟨I.base.keep b o (I.ok.bs b o e).1 (I.ok.bs b o e).2 (I.ok.nofr e) (I.ok.noex b o e),I.base.free b o (I.ok.bs b o e).1 (I.ok.bs b o e).2 (I.ok.noex b o e)⟩
theorem Inv.bk (I:Inv X pins σ H s):∀b o,X.base.get? b=some o->s.heap.get? b=some o:=fun b o e=>(I.bs b o e).1
theorem Inv.mod (I:Inv X pins σ H s):Mod X.K X.mg X.base:=I.ok.mod
theorem Inv.kIn (I:Inv X pins σ H s):X.K.In s.heap:=I.ok.mod.kin.keeps I.bk
theorem Inv.lt (I:Inv X pins σ H s):X.env.locals<s.heap.objs.size:=let⟨_,hn,_⟩:=I.loc;hn.lt
theorem Inv.sz (I:Inv X pins σ H s):X.s₀.heap.objs.size<=s.heap.objs.size:=qai I.ok.above (Nat.le_of_lt I.lt)
theorem Inv.nofs (I:Inv X pins σ H s)(h:s.heap.objs.size<=a):a∉X.fs:=fun hb=>by
 obtain⟨_,o,ho,_⟩:=I.ok.funs.mem hb;exact absurd (qae (qad ho) (qai I.sz h)) (qaf _)
theorem Inv.cne (I:Inv X pins σ H s):∀x c,X.env.cells.lookup x=some c->c≠X.env.locals:=fun x c e z=>by
 obtain⟨v,o,ho,hd⟩:=I.cell x c e;obtain⟨m,⟨o',es,ep,ho',hd',_⟩,_⟩:=I.loc;rw[z,ho']at ho;cases ho;rw[hd']at hd;cases hd
theorem Inv.funs (I:Inv X pins σ H s):s.heap.FunFrames X.base X.outer:=by
 have all:∀(l:List Env),(∀b∈frs l,b∈X.fs)->X.s₀.heap.FunFrames X.base l->s.heap.FunFrames X.base l:=by
  intro l
  induction l with
  |nil=>intro _ _;trivial
  |cons env r ih=>
   intro hs hl;obtain⟨hk,⟨L,o,hf,hn,ho,hd⟩,hr⟩:=hl;have hL:L∈X.fs:=hs L (by unfold frs;rw[qaj,hf];exact qak);obtain⟨sl,e⟩:=I.base.slot L o ho (I.ok.frf L hL) hL fun z=>I.ok.exfs L z hL
   exact⟨hk,⟨L,_,hf,hn,e,hd⟩,ih (fun b hb=>hs b (by unfold frs;rw[qaj,hf];exact qal _ hb)) hr⟩
 exact all X.outer (fun _ hb=>hb) I.ok.funs
theorem Inv.stack (I:Inv X pins σ H s):s.heap.FunFrames X.base X.stack:=by
 rcases I.ok.stk with e|⟨e,hf⟩
 ·rw[e];exact I.funs
 ·rw[e];obtain⟨m,hn,_⟩:=I.loc;refine .cons (by rw[I.ok.kind];decide) hf hn ?_ I.funs;exact Heap.get?_none_of_le (qai I.ok.bsz I.ok.above)
theorem Inv.stkSub (I:Inv X pins σ H s):∀b∈frs X.stack,b∈X.env.locals::X.fs:=fun b hb=>by
 rcases I.ok.stk with e|⟨e,hf⟩
 ·rw[e]at hb;exact qal _ hb
 ·rw[e]at hb;unfold frs at hb;rw[qaj,hf]at hb;exact hb
theorem Inv.stkFree (I:Inv X pins σ H s):∀b∈frs X.stack,H b=none:=fun b hb=>by
 rcases qam.mp (I.stkSub b hb)with e|hb
 ·rw[e];exact I.free
 ·obtain⟨_,o,ho,_⟩:=I.ok.funs.mem hb;exact I.base.free b o ho (I.ok.frf b hb) fun z=>I.ok.exfs b z hb
theorem Inv.step (I:Inv X pins σ H s)
  (hch:∀b∈ch,(b∈X.ex\/X.s₀.heap.objs.size<=b)/\b≠X.env.locals/\(∀x c,X.env.cells.lookup x=some c->c≠b)/\∀p∈X.pn++pins,p.1≠b)
  (keep:∀b o,b≠X.env.locals->b∉X.fs->b∉ch->s.heap.get? b=some o->H b=none->h'.get? b=some o)
  (slot:∀b o,b≠X.env.locals->b∈X.fs->b∉ch->s.heap.get? b=some o->H b=none->∃sl,h'.get? b=some {o with slots:=sl}) (free:∀b o,b∉ch->s.heap.get? b=some o->H b=none->H' b=none)
  (there:∀b o,b∉ch->s.heap.get? b=some o->∃o',h'.get? b=some o')
  (tups:∀b xs,H b=some (.tup xs)->H' b=some (.tup xs)) (frzs:∀b o u,H b=some (.frz o u)->H' b=some (.frz o u)) (tbls:∀b ps,H b=some (.tbl ps)->∃more,H' b=some (.tbl (ps++more)))
  (ns:∀m,s.heap.Ns X.env.locals m->h'.Ns X.env.locals m) (hok:HOk X.prog X.w H' h') (hg:AllBare g'):
  Inv X pins σ H' {s with heap:=h',gens:=g',drawn:=d',toks:=t'}:=by
 have neL:∀b o,X.s₀.heap.get? b=some o->b≠X.env.locals:=fun b o e=>qag (qae (qad e) I.ok.above)
 have neC:∀b o,X.s₀.heap.get? b=some o->b∉X.ex->b∉ch:=fun b o e hx hb=>by
  rcases(hch b hb).1 with z|z
  ·exact hx z
  ·exact absurd (qae (qad e) z) (qaf _)
 have cellK:∀x c,X.env.cells.lookup x=some c->∀v,s.heap.IsCell c v->h'.IsCell c v:=fun x c e v ⟨o,ho,hd⟩=>by
  have nch:c∉ch:=fun z=>(hch c z).2.2.1 x c e rfl
  by_cases hc:c∈X.fs
  ·obtain⟨sl,q⟩:=slot c o (I.cne x c e) hc nch ho (I.freeC x c e);exact⟨_,q,hd⟩
  ·exact⟨o,keep c o (I.cne x c e) hc nch ho (I.freeC x c e),hd⟩
 refine⟨I.ok,I.os,hg,⟨fun b o e n hb hx=>?_,fun b o e n hb hx=>?_,fun b o e n hx=>?_,fun b o e hx=>?_,fun b xs e=>tups b xs (I.base.tups b xs e),fun b o xs e=>frzs b o xs (I.base.frzs b o xs e),fun b ps e=>?_⟩,?_,fun x c e=>?_,?_,fun x c e=>?_,fun p hp=>?_,hok,I.len⟩
 ·exact keep b o (neL b o e) hb (neC b o e hx) (I.base.keep b o e n hb hx) (I.base.free b o e n hx)
 ·obtain⟨sl,e1⟩:=I.base.slot b o e n hb hx;obtain⟨sl',e2⟩:=slot b _ (neL b o e) hb (neC b o e hx) e1 (I.base.free b o e n hx);exact⟨sl',e2⟩
 ·obtain⟨o',e1⟩:=I.base.there b o e hx;exact free b o' (neC b o e hx) e1 (I.base.free b o e n hx)
 ·obtain⟨o',e1⟩:=I.base.there b o e hx;exact there b o' (neC b o e hx) e1
 ·obtain⟨m1,e1⟩:=I.base.tbls b ps e;obtain⟨m2,e2⟩:=tbls b _ e1;exact⟨m1++m2,by rw[e2,Array.append_assoc]⟩
 ·obtain⟨m,hn,hl⟩:=I.loc;refine⟨m,ns m hn,fun i x v e1 e2 e3=>?_⟩;obtain⟨u,r,l⟩:=hl i x v e1 e2 e3;refine⟨u,r,?_⟩;rcases l with l|⟨k,c,e,z⟩
  ·exact .inl l
  ·exact .inr ⟨k,c,e,cellK x c e _ z⟩
 ·obtain⟨v,z⟩:=I.cell x c e;exact⟨v,cellK x c e v z⟩
 ·obtain⟨m,⟨o,_,_,ho,_⟩,_⟩:=I.loc;exact free _ o (fun z=>(hch _ z).2.1 rfl) ho I.free
 ·obtain⟨v,o,ho,hd⟩:=I.cell x c e;exact free c o (fun z=>(hch c z).2.2.1 x c e rfl) ho (I.freeC x c e)
 ·obtain⟨e,n,ne,nf,d⟩:=I.pin p hp;have nch:p.1∉ch:=fun z=>(hch p.1 z).2.2.2 p hp rfl
  exact⟨keep p.1 p.2 ne nf nch e n,free p.1 p.2 nch e n,ne,nf,d⟩
theorem Inv.un (I:Inv X pins σ H s)(u:Un X.fs [] H H' s.heap h')(hok:HOk X.prog X.w H' h'):Inv X pins σ H' {s with heap:=h',toks:=t'}:=by
  obtain⟨m,⟨o,es,ep,ho,r⟩,_⟩:=id I.loc;obtain⟨sl,hL⟩:=u.any ho I.free (by simp);exact I.step (g':=s.gens) (d':=s.drawn) (ch:=[]) (fun _ z=>nomatch z) (fun b o _ hb _ e n=>u.keep b o e n hb (by simp)) (fun b o _ hb _ e n=>u.slot b o e n hb (by simp)) (fun b o _ e n=>u.free b o e n (by simp)) (fun b o _ e=>u.there b o e (by simp)) u.tups u.frzs u.tbls (fun m' hm=>by
    obtain⟨o',es',ep',ho',r'⟩:=hm;rw[ho]at ho';cases ho';exact⟨_,es',ep',hL,r'⟩) hok I.bare
theorem Inv.call {ch:List Addr}(I:Inv X pins σ H s)(u:Un (frs X.stack) ch H H' s.heap h')(hok:HOk X.prog X.w H' h')(hg:AllBare g')
  (hch:∀b∈ch,(b∈X.ex\/X.s₀.heap.objs.size<=b)/\b≠X.env.locals/\(∀x c,X.env.cells.lookup x=some c->c≠b)/\∀p∈X.pn++pins,p.1≠b):
  Inv X pins σ H' {s with heap:=h',gens:=g',drawn:=d',toks:=t'}:=by
 obtain⟨m,⟨o,es,ep,ho,r⟩,_⟩:=id I.loc;obtain⟨sl,hL⟩:=u.any ho I.free fun z=>(hch _ z).2.1 rfl
 exact I.step (ch:=ch) hch (fun b o hL hb hc e n=>u.keep b o e n (fun z=>(qam.mp (I.stkSub b z)).elim hL hb) hc) (fun b o _ _ hc e n=>u.any e n hc) (fun b o hc e n=>u.free b o e n hc) (fun b o hc e=>u.there b o e hc) u.tups u.frzs u.tbls (fun m' hm=>by
  obtain⟨o',es',ep',ho',r'⟩:=hm;rw[ho]at ho';cases ho';exact⟨_,es',ep',hL,r'⟩) hok hg
theorem Inv.turned (I:Inv X pins σ H s)(k:∀b o,b≠it->s.heap.get? b=some o->h'.get? b=some o)(hn:H it=none)(hL:it≠X.env.locals)
  (h1:it∈X.ex\/X.s₀.heap.objs.size<=it) (h2:∀x c,X.env.cells.lookup x=some c->c≠it) (h3:∀p∈X.pn++pins,p.1≠it):Inv X pins σ H {s with heap:=h',toks:=t'}:=by
 have nit:∀b u,H b=some u->b≠it:=fun b u e z=>by rw[z,hn]at e;cases e
 refine I.step (g':=s.gens) (d':=s.drawn) (ch:=[it]) (fun b hb=>?_) (fun b o _ _ hc e _=>k b o (fun z=>hc (by simp[z])) e) (fun b o _ _ hc e _=>⟨o.slots,k b o (fun z=>hc (by simp[z])) e⟩) (fun _ _ _ _ n=>n)
  (fun b o hc e=>⟨o,k b o (fun z=>hc (by simp[z])) e⟩) (fun _ _ e=>e) (fun _ _ _ e=>e) (fun b ps e=>⟨#[],by rw[e];simp⟩) (fun m hm=>?_) (fun b u e=>?_) I.bare
 ·have e:b=it:=by simpa using hb
  subst e;exact⟨h1,hL,h2,h3⟩
 ·obtain⟨o,es,ep,ho,r⟩:=hm;exact⟨o,es,ep,k _ o (Ne.symm hL) ho,r⟩
 ·refine(I.hok b u e).stay (fun c v hc q=>k c v ?_ q) (fun _ q=>q) fun _ _ q=>q
  rcases hc with z|z
  ·rw[z];exact nit b u e
  ·exact nit c _ z
theorem Inv.tok (I:Inv X pins σ H s)(t:Nat):Inv X pins σ H {s with toks:=t}:=I.un (h':=s.heap) (t':=t) Un.refl I.hok
theorem Inv.kept (I:Inv X pins σ H s)(k:∀b u,s.heap.get? b=some u->h'.get? b=some u):Inv X pins σ H {s with heap:=h',toks:=t'}:=I.un (Un.kept k) (I.hok.kept k)
theorem Inv.laid {o:HO}(I:Inv X pins σ H s)(k:∀b u,s.heap.get? b=some u->h'.get? b=some u)(hp:s.heap.objs.size<=a)(new:ObjOk X.prog X.w (upd H a o) h' a o):
  Inv X pins σ (upd H a o) {s with heap:=h',toks:=t'}:=I.un (Un.laid k hp (I.hok.fresh hp)) (I.hok.laid k hp new)
theorem Inv.write {x e:Addr}{o:HO}(I:Inv X pins σ H s)(mu:Mut (H x))(he:e=x\/H e=some (.own x))(k:∀b u,b≠e->s.heap.get? b=some u->h'.get? b=some u)(heo:∃u,h'.get? e=some u)
  (new:ObjOk X.prog X.w (upd H x o) h' x o):Inv X pins σ (upd H x o) {s with heap:=h',toks:=t'}:=I.un (Un.write mu he k heo) (I.hok.write mu he k heo new)
theorem Inv.pins_of (I:Inv X pins σ H s)(h:∀p∈pins',s.heap.get? p.1=some p.2/\H p.1=none/\p.1≠X.env.locals/\p.1∉X.fs/\∀v,p.2.data≠ .cell v):Inv X pins' σ H s:=
 ⟨I.ok,I.os,I.bare,I.base,I.loc,I.cell,I.free,I.freeC,fun p hp=>(qan.mp hp).elim (fun z=>I.pin p (qao _ z)) (h p),I.hok,I.len⟩
theorem zpn (hN:N.Nodup)(a:N[i]? =some x)(b:N[j]? =some x):i=j:=by
 obtain⟨h1,e1⟩:=qap.mp a;obtain⟨h2,e2⟩:=qap.mp b;exact(List.getElem_inj hN).mp (e1.trans e2.symm)
theorem zq2 {M:Model}(I:Inv X pins σ H s)(hN:X.N.Nodup)(hi:X.N[i]? =some x)(hx:Loc X.env.scope x)(r:RelV v u)
    (h:∀s',Inv X pins (σ.set i (some v)) H s'->(∃a,Heap.SameBut a s.heap s'.heap/\(a=X.env.locals\/X.env.cells.lookup x=some a))->Q () s') (hf:X.fn x=true\/X.env.scope.names.lookup x=some .local:=by first|exact .inl rfl|exact .inr rfl|assumption):wpAny M A (storeName X.env x u) Q E s:=by
  obtain⟨m,hn,hl⟩:=id I.loc;have hcls:(X.env.scope.kind== .class||(X.env.scope.kind== .module&&X.env.locals !=X.env.globals))=false:=by rw[I.ok.kind];rfl
  have hiσ:i<σ.length:=by rw[I.len];exact(qap.mp hi).1
  have cne:=I.cne;have tracked:∀{a:Addr} {h':Heap},(∃o,s.heap.get? a=some o/\H a=none)->Heap.SameBut a s.heap h'->HOk X.prog X.w H h':=fun{a h'} ha hs b ob e=>by
    obtain⟨_,_,hfree⟩:=ha;refine(I.hok b ob e).stay (fun c w' hc q=>(hs.2 c ?_).trans q) (fun _ q=>q) fun _ _ q=>q
    rintro rfl;rcases hc with rfl|hc
    . rw[hfree]at e;cases e
    . rw[hfree]at hc;cases hc
  rcases hx with hk|hk
  . refine wpAny_storeName_local hk hn (fun h' hn' hs=>?_) hcls
    obtain⟨oL,_,_,hoL,_⟩:=id hn;refine h _ ⟨I.ok,I.os,I.bare,⟨fun b o e n hb hx=>?_,fun b o e n hb hx=>?_,I.base.free,fun b o e hx=>?_,I.base.tups,I.base.frzs,I.base.tbls⟩,⟨_,hn',fun j y v' e1 e2 e3=>?_⟩,fun y c e=>?_,I.free,I.freeC,fun p hp=>?_,tracked ⟨oL,hoL,I.free⟩ hs,by simpa using I.len⟩ ⟨_,hs,.inl rfl⟩
    . exact(hs.2 b (qag (qae (qad e) I.ok.above))).trans (I.base.keep b o e n hb hx)
    . obtain⟨sl,e1⟩:=I.base.slot b o e n hb hx
      exact⟨sl,(hs.2 b (qag (qae (qad e) I.ok.above))).trans e1⟩
    . obtain⟨o',e1⟩:=I.base.there b o e hx
      exact⟨o',(hs.2 b (qag (qae (qad e) I.ok.above))).trans e1⟩
    . by_cases hj:j=i
      . subst hj
        rw[hi]at e1;cases e1;rw[List.getElem?_set_self hiσ]at e2;cases e2;exact⟨u,r,.inl ⟨hk,by simp⟩⟩
      . rw[qaq (Ne.symm hj)]at e2
        obtain⟨u',r',q⟩:=hl j y v' e1 e2 e3;refine⟨u',r',?_⟩;rcases q with⟨k,e⟩|⟨k,c,e,z⟩
        . refine .inl ⟨k,?_⟩
          have:y≠x:=fun e=>hj (zpn hN e1 (e ▸ hi))
          simp[this,e]
        . exact .inr ⟨k,c,e,z.sameBut hs (cne y c e)⟩
    . obtain⟨w',z⟩:=I.cell y c e
      exact⟨w',z.sameBut hs (cne y c e)⟩
    . obtain⟨e,n,ne,nf,d⟩:=I.pin p hp
      exact⟨(hs.2 p.1 ne).trans e,n,ne,nf,d⟩
  . have hfn:X.fn x=true:=by
      rcases hf with z|z
      . exact z
      . rw[z]at hk;cases hk
    obtain⟨c,hc⟩:=I.ok.has x (.inl hk);obtain⟨w',z⟩:=I.cell x c hc;refine wpAny_storeName_cell I.ok.kind hk hc z (fun h' hc' hs=>?_);obtain⟨oc,hoc,hocd⟩:=id z;refine h {s with heap:=h'} ⟨I.ok,I.os,I.bare,⟨fun b o e n hb hx=>?_,fun b o e n hb hx=>?_,I.base.free,fun b o e hx=>?_,I.base.tups,I.base.frzs,I.base.tbls⟩,⟨m,hn.sameBut hs (Ne.symm (cne x c hc)),fun j y v' e1 e2 e3=>?_⟩,fun y c' e=>?_,I.free,I.freeC,fun p hp=>?_,tracked ⟨oc,hoc,I.freeC x c hc⟩ hs,by simpa using I.len⟩ ⟨c,hs,.inr hc⟩
    . exact(hs.2 b (qag (qae (qad e) (I.ok.cab x c hfn hc)))).trans (I.base.keep b o e n hb hx)
    . obtain⟨sl,e1⟩:=I.base.slot b o e n hb hx
      exact⟨sl,(hs.2 b (qag (qae (qad e) (I.ok.cab x c hfn hc)))).trans e1⟩
    . obtain⟨o',e1⟩:=I.base.there b o e hx
      exact⟨o',(hs.2 b (qag (qae (qad e) (I.ok.cab x c hfn hc)))).trans e1⟩
    . by_cases hj:j=i
      . subst hj
        rw[hi]at e1;cases e1;rw[List.getElem?_set_self hiσ]at e2;cases e2;exact⟨u,r,.inr ⟨.inl hk,c,hc,hc'⟩⟩
      . rw[qaq (Ne.symm hj)]at e2
        obtain⟨u',r',q⟩:=hl j y v' e1 e2 e3;refine⟨u',r',?_⟩;rcases q with q|⟨k,c',e,z'⟩
        . exact .inl q
        . refine .inr ⟨k,c',e,z'.sameBut hs ?_⟩
          rintro rfl;exact hj (zpn hN e1 (I.ok.inj _ _ _ e hc ▸ hi))
    . by_cases hcc:c'=c
      . subst hcc;exact⟨_,hc'⟩
      . obtain⟨w2,z2⟩:=I.cell y c' e
        exact⟨w2,z2.sameBut hs hcc⟩
    . obtain⟨e,n,ne,nf,d⟩:=I.pin p hp
      refine⟨(hs.2 p.1 ?_).trans e,n,ne,nf,d⟩;intro q;rw[q,hoc]at e;have q':oc=p.2:=Option.some.inj e;exact d w' (by rw[<-q'];exact hocd)
theorem zmr {M:Model}(I:Inv X pins σ H s)(hN:X.N.Nodup)(hi:X.N[i]? =some x)(hx:Loc X.env.scope x)(r:RelV v u)
  (h:∀s',Inv X pins (σ.set i (some v)) H s'->Q () s') (hf:X.fn x=true\/X.env.scope.names.lookup x=some .local:=by first|exact .inl rfl|exact .inr rfl|assumption):wpAny M A (storeName X.env x u) Q E s:=
 zq2 I hN hi hx r (fun s' I' _=>h s' I') hf
end
noncomputable abbrev XK:=Value->Option Addr->Hp->Prop
noncomputable abbrev St:=List (Option V)
noncomputable abbrev VK:=V->Hp->Prop
noncomputable abbrev TE:=St->Hp->VK->Prop
noncomputable abbrev TT:=St->Hp->(Bool->Hp->Prop)->Prop
noncomputable abbrev TA:=St->Hp->(List V->Hp->Prop)->Prop
structure Ends where
 nx:St->Hp->Prop
 rt:VK
 bk:St->Hp->Prop:=fun _ _=>False
 ct:St->Hp->Prop:=fun _ _=>False
noncomputable abbrev TS:=Ends->St->Hp->Prop
noncomputable def EP (X:Cx)(pins:List (Addr×Obj))(σ:St)(Q:VK)(u:Value)(s':Shared):Prop:=∃v H',Inv X pins σ H' s'/\RelV v u/\Q v H'
noncomputable def TP (X:Cx)(pins:List (Addr×Obj))(σ:St)(Q:Bool->Hp->Prop)(b:Bool)(s':Shared):Prop:=∃H',Inv X pins σ H' s'/\Q b H'
noncomputable def AP (X:Cx)(pins:List (Addr×Obj))(σ:St)(Q:List V->Hp->Prop)(us:List Value)(s':Shared):Prop:=∃vs H',Inv X pins σ H' s'/\Vals vs us/\Q vs H'
noncomputable def SP (X:Cx)(pins:List (Addr×Obj))(D:Ends)(f:Flow)(s':Shared):Prop:=
 match f with
 | .next=>∃σ' H',Inv X pins σ' H' s'/\D.nx σ' H'
 | .brk=>∃σ' H',Inv X pins σ' H' s'/\D.bk σ' H'
 | .cont=>∃σ' H',Inv X pins σ' H' s'/\D.ct σ' H'
 | .ret u=>∃v σ' H',Inv X pins σ' H' s'/\RelV v u/\D.rt v H'
noncomputable def PE (X:Cx)(e:Expr)(t:TE):Prop:=
 ∀(pins:List (Addr×Obj)) (s:Shared) (σ:St) (H:Hp) (Q:VK),Inv X pins σ H s->t σ H Q->wpAny (model X.prog X.w) X.A (eval e X.env) (EP X pins σ Q) X.xe s
noncomputable def PT (X:Cx)(e:Expr)(t:TT):Prop:=
 ∀(pins:List (Addr×Obj)) (s:Shared) (σ:St) (H:Hp) (Q:Bool->Hp->Prop),Inv X pins σ H s->t σ H Q->wpAny (model X.prog X.w) X.A (isTrue e X.env (eval e X.env)) (TP X pins σ Q) X.xe s
noncomputable def PW (X:Cx)(e:Expr)(t:TT):Prop:=
 ∀(whole:Sem Value) (pins:List (Addr×Obj)) (s:Shared) (σ:St) (H:Hp) (Q:Bool->Hp->Prop),Inv X pins σ H s->t σ H Q->wpAny (model X.prog X.w) X.A (isTrue e X.env whole) (TP X pins σ Q) X.xe s
theorem PW.pt {t:TT}(h:PW X e t):PT X e t:=h _
noncomputable def PA (X:Cx)(es:List Expr)(t:TA):Prop:=
 ∀(pos:Pos) (pins:List (Addr×Obj)) (s:Shared) (σ:St) (H:Hp) (Q:List V->Hp->Prop),Inv X pins σ H s->t σ H Q->wpAny (model X.prog X.w) X.A (spliced (backTo pos (starEach es X.env))) (AP X pins σ Q) X.xe s
noncomputable def PS (X:Cx)(st:Stmt)(t:TS):Prop:=
 ∀(pins:List (Addr×Obj)) (s:Shared) (σ:St) (H:Hp) (D:Ends),Inv X pins σ H s->t D σ H->wpAny (model X.prog X.w) X.A (exec st X.env) (SP X pins D) X.xe s
noncomputable def PSs (X:Cx)(st:List Stmt)(t:TS):Prop:=
 ∀(pins:List (Addr×Obj)) (s:Shared) (σ:St) (H:Hp) (D:Ends),Inv X pins σ H s->t D σ H->wpAny (model X.prog X.w) X.A (execs st X.env) (SP X pins D) X.xe s
theorem thn {α:Type}{t:Sem α}{Q Q':α->Shared->Prop}{M:Model}(h:wpAny M A t Q E s)(hQ:∀a s,Q a s->Q' a s):wpAny M A t Q' E s:=qar h hQ fun _ _ x=>x
section
variable {X:Cx}
theorem bin {a b:Expr}{ta tb:TE}(ha:PE X a ta)(hb:PE X b tb){R:V->V->Hp->Prop}(I:Inv X pins σ H s)(h:ta σ H fun x H1=>tb σ H1 fun y H2=>R x y H2)
  {α:Type} {Q:α->Shared->Prop} {f:Value->Value->Sem α}
  (hf:∀v u s2 x y H2,Inv X pins σ H2 s2->RelV x v->RelV y u->R x y H2->wpAny (model X.prog X.w) X.A (f v u) Q X.xe s2):
  wpAny (model X.prog X.w) X.A (eval a X.env) (fun v s₁=>wpAny (model X.prog X.w) X.A (eval b X.env) (fun u s₂=>wpAny (model X.prog X.w) X.A (f v u) Q X.xe s₂) X.xe s₁) X.xe s:=by
 refine thn (ha pins s σ H _ I h) fun v s1 ⟨x,H1,I1,r1,q1⟩=>?_
 refine thn (hb pins s1 σ H1 _ I1 q1) fun u s2 ⟨y,H2,I2,r2,q2⟩=>?_
 exact hf v u s2 x y H2 I2 r1 r2 q2
noncomputable def tVar (i:Nat):TE:=fun σ H Q=>∃v,σ[i]? =some (some v)/\Q v H
noncomputable def tC (v:V):TE:=fun _ H Q=>Q v H
theorem zfO (hN:X.N[i]? =some x)(hv:Vis X.env.scope x)(hd:(x==("__debug__":Str))=false:=by decide)(hcd:(x==("__classdict__":Str))=false:=by decide):PE X (.Name x pos) (tVar i):=by
 intro pins s σ H Q I h;obtain⟨v,e,h⟩:=h;obtain⟨m,hn,hl⟩:=I.loc;obtain⟨u,r,l⟩:=hl i x v hN e hv;have fin:EP X pins σ Q u s:=⟨v,H,I,r,h⟩;rcases l with⟨hk,hm⟩|⟨hk,c,hc,hcell⟩
 ·exact wpAny_Name (wpAny_loadName_local I.ok.kind hk hn hm fin) hd
 ·rcases hk with hk|hk
  ·exact wpAny_Name (wpAny_loadName_cell I.ok.kind hk hc hcell fin) hd
  ·exact wpAny_Name (wpAny_loadName_free I.ok.kind hk hc hcell fin hcd) hd
theorem pe_int {i j pos}:PE X (.Constant (.int i) j pos) (tC (.int i)):=fun _ _ _ H _ I h=>wpAny_Constant_int ⟨.int i,H,I.tok _,⟨_,rfl⟩,h⟩
theorem pe_bl {b j pos}:PE X (.Constant (.bool b) j pos) (tC (.bl b)):=fun _ _ _ H _ I h=>Constant_bool ⟨.bl b,H,I,rfl,h⟩
theorem pe_non {j pos}:PE X (.Constant .none j pos) (tC .non):=fun _ _ _ H _ I h=>Constant_none ⟨.non,H,I,rfl,h⟩
theorem pe_str {x j pos}:PE X (.Constant (.str x) j pos) (tC (.str x)):=fun _ _ _ H _ I h=>Calls.Constant_str ⟨.str x,H,I.tok _,⟨_,rfl⟩,h⟩
noncomputable def Gl (X:Cx)(x:Str):Prop:=X.env.kindOf x=some .globalImplicit
theorem zr8 {Q:Value->Shared->Prop}(I:Inv X pins σ H s)(hg:Gl X x)(hm:X.mg x=some u)(h:Q u s)
  (hd:(x==("__debug__":Str))=false:=by decide):wpAny (model X.prog X.w) X.A (eval (.Name x pos) X.env) Q E s:=
 Calls.Name_function_global I.ok.kind hg (Calls.loadGlobal_global (by rw[I.ok.glob];exact I.mod.glob.keeps I.bk) hm h) hd
theorem zj3 {Q:Value->Shared->Prop}(I:Inv X pins σ H s)(hg:Gl X x)(hm:X.mg x=none)(hv:bootBuiltins x=some u)(h:Q u s)
  (hn:x≠"__name__":=by decide) (hd:(x==("__debug__":Str))=false:=by decide):wpAny (model X.prog X.w) X.A (eval (.Name x pos) X.env) Q E s:=by
 obtain⟨mb,h1,h2⟩:=I.mod.blt;exact Calls.Name_function_global I.ok.kind hg (Calls.loadGlobal_builtin (by rw[I.ok.glob];exact I.mod.glob.keeps I.bk) hm (by rw[I.ok.blt];exact h1.keeps I.bk) ((h2 x hn).trans hv) h) hd
theorem zry (hg:Gl X x)(hm:X.mg x=some u)(r:RelV v u)(hd:(x==("__debug__":Str))=false:=by decide):PE X (.Name x pos) (tC v):=
 fun _ _ _ H _ I h=>zr8 I hg hm ⟨v,H,I,r,h⟩ hd
variable {a b:Expr} {ta tb:TE} {pos:Pos}
noncomputable def PC (X:Cx)(op:CmpOp)(a b:Expr)(t:TE):Prop:=
 ∀(pins:List (Addr×Obj)) (s:Shared) (σ:St) (H:Hp) (Q:VK),Inv X pins σ H s->t σ H Q->
  wpAny (model X.prog X.w) X.A (eval a X.env) (fun v s₁=>wpAny (model X.prog X.w) X.A (eval b X.env) (fun u s₂=>wpAny (model X.prog X.w) X.A (compareOp op v u) (EP X pins σ Q) X.xe s₂) X.xe s₁) X.xe s
theorem nobehind (b:Expr)(h:op≠ .In)(h2:op≠ .NotIn):behindInMarks op b=false:=by
 have e1:(op==CmpOp.In)=false:=by cases op<;>first|rfl|exact absurd rfl h
 have e2:(op==CmpOp.NotIn)=false:=by cases op<;>first|rfl|exact absurd rfl h2
 cases b<;>simp[behindInMarks,e1,e2]
noncomputable def tB (t:TE):TT:=fun σ H Q=>t σ H fun x H1=>∃c,x= .bl c/\Q c H1
theorem pt_cmp (h:PC X op a b t)(h1:behindInMarks op b=false:=by first|exact nobehind _ (by decide) (by decide)|rfl):PT X (.Compare a [op] [b] pos) (tB t):=by
  intro pins s σ H Q I hw;refine wpAny_isTrue_Compare1 (thn (h pins s σ H _ I hw) fun v s1 h1=>thn h1 fun u s2 h2=>thn h2 fun c s3 ⟨x,H1,I1,r1,q1⟩=>?_) h1;obtain⟨d,rfl,q⟩:=q1;cases r1;exact qas ⟨H1,I1,q⟩
variable {tA tB':TT} {rest:List Expr}
noncomputable def tAnd (t u:TT):TT:=fun σ H Q=>t σ H fun c H1=>if c=true then u σ H1 Q else Q false H1
noncomputable def tOr (t u:TT):TT:=fun σ H Q=>t σ H fun c H1=>if c=true then Q true H1 else u σ H1 Q
noncomputable def tNot (t:TT):TT:=fun σ H Q=>t σ H fun c H1=>Q (!c) H1
theorem pw_and1 (ha:PT X a tA):PW X (.BoolOp .And [a] pos) tA:=by
 intro wh pins s σ H Q I h;refine isTrue_and (thn (ha pins s σ H Q I h) fun c s1 e=>?_);cases c with
 |true=>exact isTrue_and_nil e
 |false=>exact e
theorem pw_or1 (ha:PT X a tA):PW X (.BoolOp .Or [a] pos) tA:=by
 intro wh pins s σ H Q I h;refine isTrue_or (thn (ha pins s σ H Q I h) fun c s1 e=>?_);cases c with
 |false=>exact isTrue_or_nil e
 |true=>exact e
theorem pw_and (ha:PT X a tA)(hb:PW X (.BoolOp .And (b::rest) pos) tB'):PW X (.BoolOp .And (a::b::rest) pos) (tAnd tA tB'):=by
 intro wh pins s σ H Q I h;refine isTrue_and (thn (ha pins s σ H _ I h) fun c s1 ⟨H1,I1,q1⟩=>?_);cases c with
 |true=>exact hb wh pins s1 σ H1 Q I1 q1
 |false=>exact⟨H1,I1,q1⟩
theorem pw_or (ha:PT X a tA)(hb:PW X (.BoolOp .Or (b::rest) pos) tB'):PW X (.BoolOp .Or (a::b::rest) pos) (tOr tA tB'):=by
 intro wh pins s σ H Q I h;refine isTrue_or (thn (ha pins s σ H _ I h) fun c s1 ⟨H1,I1,q1⟩=>?_);cases c with
 |true=>exact⟨H1,I1,q1⟩
 |false=>exact hb wh pins s1 σ H1 Q I1 q1
theorem pt_not (ha:PT X a tA):PT X (.UnaryOp .Not a pos) (tNot tA):=by
 intro pins s σ H Q I h;exact isTrue_not (ha pins s σ H (fun c H1=>Q (!c) H1) I h)
noncomputable def tAndV (ta tb:TE):TE:=fun σ H Q=>ta σ H fun x H1=>∃c,x= .bl c/\if c=true then tb σ H1 Q else Q (.bl false) H1
theorem pe_one {op}(h:PE X a t):PE X (.BoolOp op [a] pos) t:=fun pins s σ H Q I hw=>BoolOp_one (h pins s σ H Q I hw)
theorem pe_and (ha:PE X a ta)(hb:PE X (.BoolOp .And (b::rest) pos) tb):PE X (.BoolOp .And (a::b::rest) pos) (tAndV ta tb):=by
 intro pins s σ H Q I h;refine BoolOp_and (thn (ha pins s σ H _ I h) fun v s1 ⟨x,H1,I1,r1,q1⟩=>?_);obtain⟨c,rfl,q1⟩:=q1;cases r1;refine qas ?_;cases c with
 |true=>exact hb pins s1 σ H1 Q I1 q1
 |false=>exact⟨.bl false,H1,I1,rfl,q1⟩
noncomputable def tIf (t:TT)(ta tb:TE):TE:=fun σ H Q=>t σ H fun c H1=>if c=true then ta σ H1 Q else tb σ H1 Q
theorem pe_ifExp (hc:PT X c tA)(ha:PE X a ta)(hb:PE X b tb):PE X (.IfExp c a b pos) (tIf tA ta tb):=by
 intro pins s σ H Q I h;refine wpAny_IfExp (thn (hc pins s σ H _ I h) fun d s1 ⟨H1,I1,q1⟩=>?_);cases d with
 |true=>exact ha pins s1 σ H1 Q I1 q1
 |false=>exact hb pins s1 σ H1 Q I1 q1
end
noncomputable def SqL (K:W.Frag)(H:Hp)(a:Addr)(xs:List V):Prop:=
 Rd H a (.lst xs)\/
  ∃(o:Obj) (its:Array Value) (n:Nat),K.lookup a=some o/\o.cls= .type "list"/\o.dict=none/\o.data= .seq its n/\its.size<=sizeLine/\Vals xs its.toList
noncomputable def SqT (K:W.Frag)(H:Hp)(a:Addr)(xs:List V):Prop:=
 Rd H a (.tup xs)\/
  ∃(o:Obj) (its:Array Value) (n:Nat),K.lookup a=some o/\o.cls= .type "tuple"/\o.data= .seq its n/\its.size<=sizeLine/\Vals xs its.toList
noncomputable def absV:Value->Option V
 | .none=>some .non
 | .bool b=>some (.bl b)
 | .int i _=>some (.int i)
 | .str x _=>some (.str x)
 | .bytes b _=>some (.byt b)
 | .float b _=>some (.flt b)
 | .ref a=>some (.ref a)
 | .type n=>some (.ty n)
 |_=>none
theorem RelV.abs {x:V}(r:RelV x u):absV u=some x:=by
 cases x with
 |non=>cases r;rfl
 |bl _=>cases r;rfl
 |int _=>obtain⟨t,rfl⟩:=r;rfl
 |str _=>obtain⟨t,rfl⟩:=r;rfl
 |byt _=>obtain⟨t,rfl⟩:=r;rfl
 |flt _=>obtain⟨t,rfl⟩:=r;rfl
 |ref _=>cases r;rfl
 |ty _=>cases r;rfl
theorem RelV.inj {x y:V}(r:RelV x u)(q:RelV y u):x=y:=Option.some.inj (r.abs.symm.trans q.abs)
theorem Vals.inj:∀{xs ys:List V} {us:List Value},Vals xs us->Vals ys us->xs=ys
 |_,_,_,.nil,.nil=>rfl
 |_,_,_,.cons r t,.cons r' t'=>by rw[r.inj r',Vals.inj t t']
section
variable {X:Cx} {pins:List (Addr×Obj)} {σ:St} {H:Hp} {s:Shared} {a:Addr} {xs ys:List V}
theorem SqL.of (h:H a=some (.lst xs)):SqL K H a xs:= .inl (.inl h)
theorem SqT.of (h:H a=some (.tup xs)):SqT K H a xs:= .inl (.inl h)
theorem Inv.list (I:Inv X pins σ H s)(h:SqL X.K H a xs):∃its:List Value,Vals xs its/\PlainL s.heap a its.toArray/\xs.length<=sizeLine:=by
 rcases h with h|⟨o,its,n,hk,hc,hd,hs,hz,r⟩
 ·obtain⟨z,its,n,r,e⟩:=h.ok I.hok;exact⟨its,r,⟨_,n,e,rfl,rfl,rfl⟩,z⟩
 ·refine⟨its.toList,r,⟨o,n,I.kIn a o hk,hc,hd,by simpa using hs⟩,?_⟩;have e:=r.length;simp only[qat]at e;lia
theorem Inv.tuple (I:Inv X pins σ H s)(h:SqT X.K H a xs):∃its:List Value,Vals xs its/\IsTup s.heap a its.toArray/\xs.length<=sizeLine:=by
 rcases h with h|⟨o,its,n,hk,hc,hs,hz,r⟩
 ·obtain⟨z,its,r,p⟩:=h.ok I.hok;exact⟨its,r,p,z⟩
 ·refine⟨its.toList,r,⟨o,I.kIn a o hk,hc,n,by simpa using hs⟩,?_⟩;have e:=r.length;simp only[qat]at e;lia
theorem Inv.list_inj (I:Inv X pins σ H s)(h:SqL X.K H a xs)(h':SqL X.K H a ys):xs=ys:=by
 obtain⟨its,r,⟨o,n,e,_,_,d⟩,_⟩:=I.list h;obtain⟨its',r',⟨o',n',e',_,_,d'⟩,_⟩:=I.list h';rw[e]at e';cases e';rw[d]at d';injection d' with d1 _
 have:its=its':=by simpa using congrArg Array.toList d1
 subst this;exact r.inj r'
theorem Inv.tuple_inj (I:Inv X pins σ H s)(h:SqT X.K H a xs)(h':SqT X.K H a ys):xs=ys:=by
 obtain⟨its,r,⟨o,e,_,n,d⟩,_⟩:=I.tuple h;obtain⟨its',r',⟨o',e',_,n',d'⟩,_⟩:=I.tuple h';rw[e]at e';cases e';rw[d]at d';injection d' with d1 _
 have:its=its':=by simpa using congrArg Array.toList d1
 subst this;exact r.inj r'
end
noncomputable abbrev Cx.wish (X:Cx)(E:Value->Shared->Prop):Cx:={X with xe:=E}
noncomputable abbrev Cx.nox (X:Cx):Cx:=X.wish fun _ _=>False
theorem Cx.Ok.wish (ok:X.Ok)(E:Value->Shared->Prop):(X.wish E).Ok:=
 ⟨ok.mod,ok.kind,ok.glob,ok.blt,ok.above,ok.inj,ok.has,ok.cab,ok.hd,ok.frames,ok.stk,ok.exf,ok.bs,ok.bsz,ok.noex,ok.exfs,ok.funs,ok.frf⟩
theorem Cx.Ok.unwish (ok:(X.wish E).Ok):X.Ok:=
 ⟨ok.mod,ok.kind,ok.glob,ok.blt,ok.above,ok.inj,ok.has,ok.cab,ok.hd,ok.frames,ok.stk,ok.exf,ok.bs,ok.bsz,ok.noex,ok.exfs,ok.funs,ok.frf⟩
section
variable {X:Cx} {pins:List (Addr×Obj)} {σ:St} {H:Hp} {s:Shared} {E:Value->Shared->Prop}
theorem Inv.wish (I:Inv X pins σ H s)(E:Value->Shared->Prop):Inv (X.wish E) pins σ H s:=⟨I.ok.wish E,I.os,I.bare,I.base,I.loc,I.cell,I.free,I.freeC,I.pin,I.hok,I.len⟩
theorem Inv.unwish (I:Inv (X.wish E) pins σ H s):Inv X pins σ H s:=⟨I.ok.unwish,I.os,I.bare,I.base,I.loc,I.cell,I.free,I.freeC,I.pin,I.hok,I.len⟩
theorem SP.unwish {D:Ends}{f:Flow}(h:SP (X.wish E) pins D f s'):SP X pins D f s':=by
 cases f with
 |next=>obtain⟨σ',H',I,q⟩:=h;exact⟨σ',H',I.unwish,q⟩
 |brk=>obtain⟨σ',H',I,q⟩:=h;exact⟨σ',H',I.unwish,q⟩
 |cont=>obtain⟨σ',H',I,q⟩:=h;exact⟨σ',H',I.unwish,q⟩
 |ret u=>obtain⟨v,σ',H',I,r,q⟩:=h;exact⟨v,σ',H',I.unwish,r,q⟩
theorem PSs.nox {st:List Stmt}{t:TS}(h:PSs X.nox st t):PSs X st t:=fun pins s σ H D I hw=>
 qar (h pins s σ H D (I.wish _) hw) (fun _ _ q=>q.unwish) fun _ _ z=>False.elim z
end
section
variable {X:Cx} {st:Stmt} {rest:List Stmt} {t u:TS} {e:Expr} {te:TE} {pos:Pos}
noncomputable def tNext:TS:=fun D σ H=>D.nx σ H
noncomputable def tSeq (t u:TS):TS:=fun D σ H=>t {D with nx:=u D} σ H
theorem pss_nil:PSs X [] tNext:=fun _ _ σ H _ I h=>qau ⟨σ,H,I,h⟩
theorem pss_cons (h1:PS X st t)(h2:PSs X rest u):PSs X (st::rest) (tSeq t u):=by
 intro pins s σ H D I h;refine wpAny_execs_cons (thn (h1 pins s σ H {D with nx:=u D} I h) fun f s1 q=>?_);cases f with
 |next=>
  obtain⟨σ',H',I',q⟩:=q;exact h2 pins s1 σ' H' D I' q
 |ret v=>exact q
 |brk=>exact q
 |cont=>exact q
theorem pss_one (h1:PS X st t):PSs X [st] t:=by
 intro pins s σ H D I h;refine wpAny_execs_cons (thn (h1 pins s σ H D I h) fun f s1 q=>?_);cases f with
 |next=>exact qau q
 |ret v=>exact q
 |brk=>exact q
 |cont=>exact q
theorem Inv.quiet (I:Inv X pins σ H s):interactive X.env=false:=by simp[interactive,I.ok.kind]
noncomputable def tDrop (te:TE):TS:=fun D σ H=>te σ H fun _ H1=>D.nx σ H1
theorem ps_expr (he:PE X e te)(hs:swapsWith e none pos.line X.env=pure false:=by rfl):PS X (.Expr e pos) (tDrop te):=by
 intro pins s σ H D I h;exact wpAny_Expr_any (thn (he pins s σ H _ I h) fun v s1 ⟨x,H1,I1,r1,q1⟩=>⟨σ,H1,I1,q1⟩) I.quiet hs
noncomputable def tRet (te:TE):TS:=fun D σ H=>te σ H D.rt
theorem zqS (he:PE X e te):PS X (.Return (some e) pos) (tRet te):=by
 intro pins s σ H D I h;exact wpAny_Return_some (thn (he pins s σ H _ I h) fun v s1 ⟨x,H1,I1,r1,q1⟩=>⟨x,σ,H1,I1,r1,q1⟩)
noncomputable def tIfS (c:TT)(t u:TS):TS:=fun D σ H=>c σ H fun b H1=>if b=true then t D σ H1 else u D σ H1
theorem ps_if {a b:List Stmt}(hc:PT X c tc)(ha:PSs X a t)(hb:PSs X b u):PS X (.If c a b pos) (tIfS tc t u):=by
 intro pins s σ H D I h;refine wpAny_If (thn (hc pins s σ H _ I h) fun d s1 ⟨H1,I1,q1⟩=>?_);cases d with
 |true=>exact ha pins s1 σ H1 D I1 q1
 |false=>exact hb pins s1 σ H1 D I1 q1
noncomputable def tNever:TS:=fun _ _ _=>False
theorem ps_never:PS X st tNever:=fun _ _ _ _ _ _ h=>h.elim
end
noncomputable abbrev TG:=V->St->Hp->(St->Hp->Prop)->Prop
noncomputable abbrev TGs:=List V->St->Hp->(St->Hp->Prop)->Prop
noncomputable def PG (X:Cx)(target:Expr)(t:TG):Prop:=
 ∀(pins:List (Addr×Obj)) (s:Shared) (σ:St) (H:Hp) (v:V) (u:Value) (Q:St->Hp->Prop),Inv X pins σ H s->RelV v u->t v σ H Q->
  wpAny (model X.prog X.w) X.A (assign target X.env u) (fun _ s'=>∃σ' H',Inv X pins σ' H' s'/\Q σ' H') X.xe s
noncomputable def PGs (X:Cx)(ts:List Expr)(t:TGs):Prop:=
 ∀(pins:List (Addr×Obj)) (s:Shared) (σ:St) (H:Hp) (vs:List V) (us:List Value) (Q:St->Hp->Prop),Inv X pins σ H s->Vals vs us->t vs σ H Q->
  wpAny (model X.prog X.w) X.A (assignInOrder ((assignEach ts X.env).map (·.2)) us) (fun _ s'=>∃σ' H',Inv X pins σ' H' s'/\Q σ' H') X.xe s
noncomputable abbrev TSet:=V->V->V->Hp->(Hp->Prop)->Prop
noncomputable def PSet (X:Cx)(t:TSet):Prop:=
 ∀(pins:List (Addr×Obj)) (s:Shared) (σ:St) (H:Hp) (o i v:V) (ov iv u:Value) (Q:Hp->Prop),Inv X pins σ H s->RelV o ov->RelV i iv->RelV v u->t o i v H Q->
  wpAny (model X.prog X.w) X.A (setItem ov iv u) (fun _ s'=>∃H',Inv X pins σ H' s'/\Q H') X.xe s
noncomputable abbrev TIp:=V->V->Hp->VK->Prop
noncomputable def PIp (X:Cx)(op:Operator)(t:TIp):Prop:=
 ∀(pins:List (Addr×Obj)) (s:Shared) (σ:St) (H:Hp) (x y:V) (v u:Value) (Q:VK),Inv X pins σ H s->RelV x v->RelV y u->t x y H Q->
  wpAny (model X.prog X.w) X.A (inplaceOp op v u) (EP X pins σ Q) X.xe s
section
variable {X:Cx} {pos:Pos}
noncomputable def gName (i:Nat):TG:=fun v σ H Q=>Q (σ.set i (some v)) H
theorem zsQ (hN:X.N.Nodup)(hi:X.N[i]? =some x)(hx:Loc X.env.scope x)(hf:X.fn x=true\/X.env.scope.names.lookup x=some .local:=by first|exact .inl rfl|exact .inr rfl|assumption):PG X (.Name x pos) (gName i):=by
  intro pins s σ H v u Q I r h;exact wpAny_assign_Name (zmr I hN hi hx r (fun s' I'=>⟨_,H,I',h⟩) hf)
noncomputable def gNil:TGs:=fun vs σ H Q=>vs=[]/\Q σ H
noncomputable def gCons (t:TG)(u:TGs):TGs:=fun vs σ H Q=>∃v r,vs=v::r/\t v σ H fun σ' H'=>u r σ' H' Q
theorem pgs_nil:PGs X [] gNil:=by
 intro pins s σ H vs us Q I r h;obtain⟨e,h⟩:=h;subst e;cases r;exact assignInOrder_nil ⟨σ,H,I,h⟩
theorem pgs_cons {t:TG}{u:TGs}(h1:PG X e t)(h2:PGs X es u)
  (hs:(assignEach (e::es) X.env).map (·.2)=assign e X.env::(assignEach es X.env).map (·.2):=by rfl):PGs X (e::es) (gCons t u):=by
 intro pins s σ H vs us Q I r h;obtain⟨v,vr,e1,h⟩:=h;subst e1;cases r with
 |cons r rr=>
  rw[hs];refine assignInOrder_cons (thn (h1 pins s σ H _ _ _ I r h) fun _ s1 ⟨σ1,H1,I1,q1⟩=>?_);exact h2 pins s1 σ1 H1 _ _ Q I1 rr q1
noncomputable def gTup (K:W.Frag)(n:Nat)(t:TGs):TG:=fun v σ H Q=>∃a xs,v= .ref a/\SqT K H a xs/\xs.length=n/\t xs σ H Q
theorem pg_tup {t:TGs}(hc:X.calm=true)(h:PGs X es t)
  (hn:(assignEach es X.env).length=n:=by rfl) (hst:(assignEach es X.env).findIdx? (·.1)=none:=by rfl):PG X (.Tuple es k pos) (gTup X.K n t):=by
 intro pins s σ H v u Q I r hw;obtain⟨a,xs,e1,hq,hl,hw⟩:=hw;subst e1;cases r;obtain⟨its,rv,ht,hz⟩:=I.tuple hq;refine assign_Tuple_tuple (I.ok.hd hc) ht (by simp[hn,<-hl,rv.length]) hst fun h' hx=>?_
 have I1:Inv X pins σ H {s with heap:=h'}:=I.kept (t':=s.toks) fun b o e=>hx b o (qag (qad e)) e
 exact h pins _ σ H xs _ Q I1 (by simpa using rv) hw
noncomputable def gSub (to ti:TE)(t:TSet):TG:=fun v σ H Q=>to σ H fun o H1=>ti σ H1 fun i H2=>t o i v H2 fun H3=>Q σ H3
theorem pg_sub {o i:Expr}{to ti:TE}{t:TSet}(ho:PE X o to)(hi:PE X i ti)(hs:PSet X t)
    (ha : ∀ v, assign (.Subscript o i pos) X.env v = (do
      let ov<-holding [v] (eval o X.env)
      let iv<-holding [v,ov] (eval i X.env)
      standAt pos
      holding [v,ov,iv] (setItem ov iv v)
      release [v,ov,iv] []):=by intro _;rfl):PG X (.Subscript o i pos) (gSub to ti t):=by
  intro pins s σ H v u Q I r h;rw[ha];refine qav (qaw (thn (ho pins s σ H _ I h) fun ov s1 ⟨x,H1,I1,r1,q1⟩=>?_));refine qav (qaw (thn (hi pins s1 σ H1 _ I1 q1) fun iv s2 ⟨y,H2,I2,r2,q2⟩=>?_));refine qav (wpAny_standAt (qav (qaw (thn (hs pins s2 σ H2 x y v ov iv u _ I2 r1 r2 r q2) fun _ s3 ⟨H3,I3,q3⟩=>?_))));exact wpAny_release ⟨σ,H3,I3,q3⟩
noncomputable def tAsg (te:TE)(g:TG):TS:=fun D σ H=>te σ H fun x H1=>g x σ H1 D.nx
theorem ps_asg {g:TG}(he:PE X e te)(hg:PG X tg g)(hs:swapsWithSole [tg] e pos.line X.env=pure false:=by rfl)(hw:swappedStores [tg] e X.env=pure none:=by rfl)
  (h1:(assignEach [tg] X.env).map (·.2)=[assign tg X.env]:=by rfl):PS X (.Assign [tg] e pos) (tAsg te g):=by
 intro pins s σ H D I h;refine wpAny_Assign_stores (thn (he pins s σ H _ I h) fun v s1 ⟨x,H1,I1,r1,q1⟩=>?_) hs hw;rw[h1];exact thn (hg pins s1 σ H1 x v _ I1 r1 q1) fun _ s2 q=>q
theorem zpC (hN:X.N.Nodup)(hi:X.N[i]? =some x)(hx:Loc X.env.scope x)(he:PE X e te)(hs:swapsWith e (some (.Name x pos')) pos.line X.env=pure false:=by rfl)(hf:X.fn x=true\/X.env.scope.names.lookup x=some .local:=by first|exact .inl rfl|exact .inr rfl|assumption):
  PS X (.Assign [.Name x pos'] e pos) (tAsg te (gName i)):=by
 intro pins s σ H D I h;refine wpAny_Assign_Name (thn (he pins s σ H _ I h) fun v s1 ⟨y,H1,I1,r1,q1⟩=>?_) hs;exact zmr I1 hN hi hx r1 (fun s2 I2=>⟨_,H1,I2,q1⟩) hf
noncomputable def tAug (i:Nat)(te:TE)(ti:TIp):TS:=fun D σ H=>∃x,σ[i]? =some (some x)/\te σ H fun y H1=>ti x y H1 fun z H2=>D.nx (σ.set i (some z)) H2
theorem ps_aug {op:Operator}{ti:TIp}(hN:X.N.Nodup)(hi:X.N[i]? =some x)(hx:Loc X.env.scope x)(he:PE X e te)(ho:PIp X op ti)(hf:X.fn x=true\/X.env.scope.names.lookup x=some .local:=by first|exact .inl rfl|exact .inr rfl|assumption):
  PS X (.AugAssign (.Name x pos') op e pos) (tAug i te ti):=by
 intro pins s σ H D I h;obtain⟨v,e1,h⟩:=h;obtain⟨m,hn,hl⟩:=I.loc;have vis:Vis X.env.scope x:=by rcases hx with k|k;exact .inl k;exact .inr (.inl k)
 obtain⟨u,r,l⟩:=hl i x v hi e1 vis;refine wpAny_AugAssign_Name ?_;have go:wpAny (model X.prog X.w) X.A (eval e X.env) (fun w s₂=>wpAny (model X.prog X.w) X.A (inplaceOp op u w) (fun r s₃=>wpAny (model X.prog X.w) X.A (storeName X.env x r) (fun _=>SP X pins D .next) X.xe s₃) X.xe s₂) X.xe s:=by
  refine thn (he pins s σ H _ I h) fun w s1 ⟨y,H1,I1,r1,q1⟩=>?_
  refine thn (ho pins s1 σ H1 v y u w _ I1 r r1 q1) fun z s2 ⟨zv,H2,I2,r2,q2⟩=>?_
  exact zmr I2 hN hi hx r2 (fun s3 I3=>⟨_,H2,I3,q2⟩) hf
 rcases l with⟨hk,hm⟩|⟨hk,c,hc,hcell⟩
 ·exact wpAny_loadName_local I.ok.kind hk hn hm go
 ·rcases hk with hk|hk
  ·exact wpAny_loadName_cell I.ok.kind hk hc hcell go
  ·rcases hx with k|k
   ·have:X.env.scope.names.lookup x=some .free:=hk;rw[k]at this;cases this
   ·have:X.env.scope.names.lookup x=some .free:=hk;rw[k]at this;cases this
noncomputable def ipI (f:Int->Int->Int):TIp:=fun x y H Q=>∃i j,x= .int i/\y= .int j/\Q (.int (f i j)) H
theorem ip_add:PIp X .Add (ipI fun i j=>i+j):=by
 intro pins s σ H x y v u Q I r1 r2 h;obtain⟨i,j,e1,e2,q⟩:=h;subst e1;subst e2;obtain⟨t,rfl⟩:=r1;obtain⟨t',rfl⟩:=r2;exact iadd_int ⟨.int _,H,I.tok _,⟨_,rfl⟩,q⟩
theorem ip_sub:PIp X .Sub (ipI fun i j=>i-j):=by
 intro pins s σ H x y v u Q I r1 r2 h;obtain⟨i,j,e1,e2,q⟩:=h;subst e1;subst e2;obtain⟨t,rfl⟩:=r1;obtain⟨t',rfl⟩:=r2;exact isub_int ⟨.int _,H,I.tok _,⟨_,rfl⟩,q⟩
end
section
variable {X:Cx} {pos:Pos}
noncomputable def tWhile (c:TT)(tb:TS):TS:=fun D σ H=>∃W:Nat->St->Hp->Prop,(∃m,W m σ H)/\∀m σ H,W m σ H->
 c σ H fun b H1=>if b=true then ∃N:St->Hp->Prop,(∀σ' H',N σ' H'->∃m',m'<m/\W m' σ' H')/\tb {D with nx:=N,ct:=N,bk:=D.nx} σ H1 else D.nx σ H1
theorem ps_while (hp:PassesOwn (model X.prog X.w) X.A X.env X.xe)(hc:PT X c tc)(hb:PSs X body tb):PS X (.While c body [] pos) (tWhile tc tb):=by
 intro pins s σ H D I h;obtain⟨W,⟨m0,w0⟩,turn⟩:=h;refine wpAny_While (codeAny_whileLoop (fun n s'=>∃σ' H',Inv X pins σ' H' s'/\W n σ' H') ?_ m0 ⟨σ,H,I,w0⟩);rintro n s1 ⟨σ1,H1,I1,w1⟩;refine qax hp (thn (hc pins s1 σ1 H1 _ I1 (turn n σ1 H1 w1)) fun b s2 ⟨H2,I2,q2⟩=>?_);cases b with
 |true=>
  obtain⟨N,hN,q2⟩:=q2;rw[if_pos rfl];refine qax hp (thn (hb pins s2 σ1 H2 _ I2 q2) fun f s3 q3=>?_);cases f with
  |next=>
   obtain⟨σ3,H3,I3,n3⟩:=q3;obtain⟨m',hm,w3⟩:=hN σ3 H3 n3;exact⟨m',hm,σ3,H3,I3,w3⟩
  |cont=>
   obtain⟨σ3,H3,I3,n3⟩:=q3;obtain⟨m',hm,w3⟩:=hN σ3 H3 n3;exact⟨m',hm,σ3,H3,I3,w3⟩
  |brk=>exact q3
  |ret v=>exact q3
 |false=>
  rw[if_neg qay];exact qau ⟨σ1,H2,I2,q2⟩
end
structure It where
 go:Nat->Hp->Prop
 yld:Nat->Hp->V->Hp->Prop
 stop:Nat->Hp->Prop
noncomputable def FpOk (X:Cx)(pins:List (Addr×Obj))(H:Hp)(b:Addr):Prop:=
 H b=none/\b≠X.env.locals/\b∉X.fs/\(b∈X.ex\/X.s₀.heap.objs.size<=b)/\(∀x c,X.env.cells.lookup x=some c->c≠b)/\∀p∈X.pn++pins,p.1≠b
theorem Inv.fpOk {H H':Hp}(I:Inv X pins σ H s)(hb:s.heap.objs.size<=b)(hn:H' b=none):FpOk X pins H' b:=by
 refine⟨hn,Nat.ne_of_gt (qae I.lt hb),I.nofs hb,.inr (qai I.sz hb),fun x c e z=>?_,fun p hp z=>?_⟩
 ·obtain⟨v,q⟩:=I.cell x c e;exact absurd (qae q.lt (by rw[z];exact hb)) (qaf _)
 ·exact absurd (qae (qad (I.pin p hp).1) (by rw[z];exact hb)) (qaf _)
structure Turn (P:Program) (w:World) (K:W.Frag) (tg:Expr) (J:It) (fp:List Addr) (it:Addr) (tn:Nat->Heap->Prop):Prop where
 mem:it∈fp
 obj:∀i h,tn i h->∀b∈fp,∃o,h.get? b=some o/\∀v,o.data≠ .cell v
 keep:∀i h h',tn i h->(∀b∈fp,∀o,h.get? b=some o->h'.get? b=some o)->tn i h'
 item:∀(X:Cx),X.prog=P->X.w=w->X.K=K->X.calm=true->∀(i:Nat) (pins:List (Addr×Obj)) (s:Shared) (σ:St) (H:Hp) (E:Value->Shared->Prop),Inv X pins σ H s->(∀b∈fp,FpOk X pins H b)->tn i s.heap->J.go i H->
  wpAny (model P w) X.A (pyNext (.ref it)) (fun r s1=>∃u,r=some u/\
   wpAny (model P w) X.A (letOwnedTupleGo tg (.ref it) u) (fun _ s2=>∃x H',Inv X pins σ H' s2/\RelV x u/\J.yld i H x H'/\tn (i+1) s2.heap/\∀b∈fp,H' b=none) E s1) E s
 done:∀(X:Cx),X.prog=P->X.w=w->X.K=K->X.calm=true->∀(i:Nat) (pins:List (Addr×Obj)) (s:Shared) (σ:St) (H:Hp) (E:Value->Shared->Prop),Inv X pins σ H s->(∀b∈fp,FpOk X pins H b)->tn i s.heap->J.stop i H->
  wpAny (model P w) X.A (pyNext (.ref it)) (fun r s1=>r=none/\Inv X pins σ H s1) E s
 self:∀(A:Around) (i:Nat) (s:Shared) (Q:Value->Shared->Prop) (E:Value->Shared->Prop),tn i s.heap->Q (.ref it) s->wpAny (model P w) A (pyIter (.ref it)) Q E s
noncomputable abbrev TI:=St->Hp->(It->Hp->Prop)->Prop
noncomputable def PIE (X:Cx)(pins:List (Addr×Obj))(σ:St)(tg:Expr)(R:It->Hp->Prop)(itv:Value)(s2:Shared):Prop:=
 ∃(it:Addr) (fp:List Addr) (tn:Nat->Heap->Prop) (J:It) (H':Hp),itv= .ref it/\Inv X pins σ H' s2/\Turn X.prog X.w X.K tg J fp it tn/\tn 0 s2.heap/\(∀b∈fp,FpOk X pins H' b)/\R J H'
noncomputable def PI (X:Cx)(tg iter:Expr)(wi:TI):Prop:=
 ∀(pins:List (Addr×Obj)) (s:Shared) (σ:St) (H:Hp) (R:It->Hp->Prop),Inv X pins σ H s->wi σ H R->
  wpAny (model X.prog X.w) X.A (eval iter X.env) (fun v s1=>wpAny (model X.prog X.w) X.A (pyIter v) (PIE X pins σ tg R) X.xe s1) X.xe s
theorem zrK {M:Model}{n:String}{vs:Array Value}(ho:s.heap.get? it=some o)(hc:o.cls= .type n)(hd:o.data= .fields vs)
    (hn:["enumerate","zip","dict_itemiterator","dict_reverseitemiterator","odict_iterator","itertools.zip_longest","itertools.pairwise"].contains n=false) (hQ:Q () s):wpAny M A (letOwnedTupleGo tg (.ref it) u) Q E s:=by
  unfold letOwnedTupleGo;cases tg<;>first
    |exact qaz hQ
    | (cases u <;> first
        |exact qaz hQ
        | (refine qav (wpAny_load ho ?_)
           rw[hc,hd];show wpAny M A (if(["enumerate","zip","dict_itemiterator","dict_reverseitemiterator","odict_iterator","itertools.zip_longest","itertools.pairwise"].contains n&&vs[0]? ==some (rawInt _))=true then _ else _) Q E s;rw[if_neg (by intro h;rw[hn,Bool.false_and]at h;cases h)];exact qaz hQ))
noncomputable def Itl (K:W.Frag)(a:Addr):It:=
 ⟨fun i H=>∃xs x,SqL K H a xs/\xs[i]? =some x,fun i H x H'=>H'=H/\∀xs,SqL K H a xs->xs[i]? =some x,fun i H=>∃xs,SqL K H a xs/\xs.length<=i⟩
noncomputable def Itt (K:W.Frag)(a:Addr):It:=
 ⟨fun i H=>∃xs x,SqT K H a xs/\xs[i]? =some x,fun i H x H'=>H'=H/\∀xs,SqT K H a xs->xs[i]? =some x,fun i H=>∃xs,SqT K H a xs/\xs.length<=i⟩
noncomputable def Itr (lo:Int)(n:Nat):It:=⟨fun i _=>i<n,fun i H x H'=>H'=H/\x= .int (lo+i),fun i _=>n<=i⟩
theorem zsx {P:Program}(a it:Addr):Turn P w K tg (Itl K a) [it] it (fun i h=>h.IsListIter it a i) where
 mem:=by simp
 obj:=fun i h st b hb=>by
  have e:b=it:=by simpa using hb
  subst e;obtain⟨o,e,c,d⟩:=st;exact⟨o,e,fun v z=>by rw[d]at z;cases z⟩
 keep:=fun i h h' st k=>st.at fun o e=>k it (by simp) o e
 item:=by
  intro X hP hw hK hc i pins s σ H E I hf st hg;subst hP hw hK;obtain⟨xs,x,hq,hx⟩:=hg;obtain⟨its,rv,p,hz⟩:=I.list hq;obtain⟨u,hu,ru⟩:=rv.get hx;obtain⟨f0,f1,f2,f3,f4,f5⟩:=hf it (by simp);refine wpAny_pyNext_list_item st p.isList (x:=u) (by simpa using hu) fun h' st' sb=>?_
  have I1:Inv X pins σ H {s with heap:=h'}:=I.turned (t':=s.toks) (fun b o hb e=>(sb.2 b hb).trans e) f0 f1 f3 f4 f5;obtain⟨o,e,c,d⟩:=id st';exact⟨u,rfl,zrK (s:={s with heap:=h'}) e c d (by decide) ⟨x,H,I1,ru,⟨rfl,fun ys hy=>by rw[I.list_inj hy hq];exact hx⟩,st',fun b hb=>(hf b hb).1⟩⟩
 done:=by
  intro X hP hw hK hc i pins s σ H E I hf st hg;subst hP hw hK;obtain⟨xs,hq,hx⟩:=hg;obtain⟨its,rv,p,hz⟩:=I.list hq;obtain⟨f0,f1,f2,f3,f4,f5⟩:=hf it (by simp);have hl:=rv.length;exact wpAny_pyNext_list_end (I.ok.hd hc) st p.isList (by simp;lia) fun h' eb=>⟨rfl,I.turned (t':=s.toks) (fun b o hb e=>eb b o hb e) f0 f1 f3 f4 f5⟩
 self:=fun _ _ _ _ _ st h=>wpAny_pyIter_listiter st h
theorem zlA {P:Program}(a it:Addr):Turn P w K tg (Itt K a) [it] it (fun i h=>h.IsTupleIter it a i) where
 mem:=by simp
 obj:=fun i h st b hb=>by
  have e:b=it:=by simpa using hb
  subst e;obtain⟨o,e,c,d⟩:=st;exact⟨o,e,fun v z=>by rw[d]at z;cases z⟩
 keep:=fun i h h' st k=>st.at fun o e=>k it (by simp) o e
 item:=by
  intro X hP hw hK hc i pins s σ H E I hf st hg;subst hP hw hK;obtain⟨xs,x,hq,hx⟩:=hg;obtain⟨its,rv,p,hz⟩:=I.tuple hq;obtain⟨u,hu,ru⟩:=rv.get hx;obtain⟨f0,f1,f2,f3,f4,f5⟩:=hf it (by simp);refine wpAny_pyNext_tuple_item st (show s.heap.IsTuple a its.toArray from p) (x:=u) (by simpa using hu) fun h' st' sb=>?_
  have I1:Inv X pins σ H {s with heap:=h'}:=I.turned (t':=s.toks) (fun b o hb e=>(sb.2 b hb).trans e) f0 f1 f3 f4 f5;obtain⟨o,e,c,d⟩:=id st';exact⟨u,rfl,zrK (s:={s with heap:=h'}) e c d (by decide) ⟨x,H,I1,ru,⟨rfl,fun ys hy=>by rw[I.tuple_inj hy hq];exact hx⟩,st',fun b hb=>(hf b hb).1⟩⟩
 done:=by
  intro X hP hw hK hc i pins s σ H E I hf st hg;subst hP hw hK;obtain⟨xs,hq,hx⟩:=hg;obtain⟨its,rv,p,hz⟩:=I.tuple hq;obtain⟨f0,f1,f2,f3,f4,f5⟩:=hf it (by simp);have hl:=rv.length;exact wpAny_pyNext_tuple_end (I.ok.hd hc) st (show s.heap.IsTuple a its.toArray from p) (by simp;lia) fun h' eb=>⟨rfl,I.turned (t':=s.toks) (fun b o hb e=>eb b o hb e) f0 f1 f3 f4 f5⟩
 self:=fun _ _ _ _ _ st h=>wpAny_pyIter_tupleiter st h
theorem zqr {P:Program}{w:World}(it:Addr)(lo:Int)(n:Nat):Turn P w K tg (Itr lo n) [it] it (fun i h=>IsRangeIter h it (lo+(i:Nat)*1) ((n:Int)-(i:Nat)) 1) where
 mem:=by simp
 obj:=fun i h st b hb=>by
  have e:b=it:=by simpa using hb
  subst e;exact⟨_,st,fun v z=>by
   have z':Data.fields _=Data.cell v:=z;cases z'⟩
 keep:=fun i h h' st k=>k it (by simp) _ st
 item:=by
  intro X hP hw hK hc i pins s σ H E I hf st hg;subst hP hw hK;obtain⟨f0,f1,f2,f3,f4,f5⟩:=hf it (by simp);have W:=Walks.range (prog:=X.prog) (w:=X.w) (I.ok.hd hc) it lo 1 n;refine W.item i s _ _ hg st fun v h' tk hv st' kk=>?_
  obtain⟨t,rfl⟩:=hv;have I1:Inv X pins σ H {s with heap:=h',toks:=tk}:=I.turned (fun b o hb e=>kk b o (by simpa using hb) e) f0 f1 f3 f4 f5;refine⟨_,rfl,zrK (s:={s with heap:=h',toks:=tk}) (n:="range_iterator") st' rfl rfl (by decide) ⟨.int (lo+i),H,I1,⟨t,?_⟩,⟨rfl,rfl⟩,st',fun b hb=>(hf b hb).1⟩⟩;rw[qaA]
 done:=by
  intro X hP hw hK hc i pins s σ H E I hf st hg;subst hP hw hK;obtain⟨f0,f1,f2,f3,f4,f5⟩:=hf it (by simp);exact wpAny_pyNext_range_end (I.ok.hd hc) st (by have:n<=i:=hg;lia) fun h' eb=>⟨rfl,I.turned (t':=s.toks) (fun b o hb e=>eb b o hb e) f0 f1 f3 f4 f5⟩
 self:=fun _ _ _ _ _ st h=>wpAny_pyIter_rangeiter st h
section
variable {X:Cx} {tg:Expr}
noncomputable def iTup (K:W.Frag)(tl:TE):TI:=fun σ H R=>tl σ H fun x H1=>∃a,x= .ref a/\(∃xs,SqT K H1 a xs)/\R (Itt K a) H1
theorem pi_tup {tl:TE}(hl:PE X l tl):PI X tg l (iTup X.K tl):=by
 intro pins s σ H R I h;refine thn (hl pins s σ H _ I h) fun v s1 ⟨x,H1,I1,r1,q1⟩=>?_
 obtain⟨a,e,⟨xs,hq⟩,q⟩:=q1;subst e;cases r1;obtain⟨its,rv,p,hz⟩:=I1.tuple hq;refine qaB (show s1.heap.IsTuple a its.toArray from p) ?_;refine⟨s1.heap.objs.size,[s1.heap.objs.size],_,_,H1,rfl,I1.kept (t':=s1.toks) fun b o e=>qaC _ e,zlA a _,⟨_,qaD _ rfl,rfl,rfl⟩,fun b hb=>?_,q⟩;have e:b=s1.heap.objs.size:=by simpa using hb
 subst e;exact I1.fpOk (qaE _) (I1.hok.fresh (qaE _))
theorem zpF {R:It->Hp->Prop}{lo hi:Int}{t u v:Tok}{tk:Nat}(I:Inv X pins σ H s)(h1: -(2^62)<=lo)(h2:lo<2^62)(h3: -(2^62)<=hi)(h4:hi<2^62)
  (q:R (Itr lo (hi-lo).toNat) H):wpAny (model X.prog X.w) X.A (pyIter (.ref s.heap.objs.size)) (PIE X pins σ tg R) E {s with heap:=s.heap.push {cls:= .type "range",data:= .fields #[.int lo t,.int hi u,.int 1 v]},toks:=tk}:=by
 refine wpAny_pyIter_range (IsRange.new ..) (small_one h1 h2 h3 h4) ?_;have I1:Inv X pins σ H {s with heap:=s.heap.push {cls:= .type "range",data:= .fields #[.int lo t,.int hi u,.int 1 v]},toks:=tk}:=I.kept fun b o e=>qaC _ e
 refine⟨(s.heap.push {cls:= .type "range",data:= .fields #[.int lo t,.int hi u,.int 1 v]}).objs.size,[(s.heap.push {cls:= .type "range",data:= .fields #[.int lo t,.int hi u,.int 1 v]}).objs.size],_,_,H,rfl,
  I1.kept (t':=tk) fun b o e=>qaC _ e,zqr _ lo (hi-lo).toNat,?_,fun b hb=>?_,q⟩
 ·have e1:lo+((0:Nat):Int)*1=lo:=by simp
  have e2:(((hi-lo).toNat:Nat):Int)-((0:Nat):Int)=Builtin.Range.rangeSize lo hi 1:=by rw[rangeSize_one];split<;>lia
  show IsRangeIter _ _ (lo+((0:Nat):Int)*1) ((((hi-lo).toNat:Nat):Int)-((0:Nat):Int)) 1;rw[e1,e2];exact qaD _ rfl
 ·have e:b=(s.heap.push {cls:= .type "range",data:= .fields #[.int lo t,.int hi u,.int 1 v]}).objs.size:=by simpa using hb
  subst e;exact I1.fpOk (qaE _) (I1.hok.fresh (qaE _))
noncomputable def iRng1 (ta:TA):TI:=fun σ H R=>ta σ H fun vs H1=>∃j:Int,vs=[.int j]/\ -(2^62)<=j/\j<2^62/\R (Itr 0 j.toNat) H1
noncomputable def iRng2 (ta:TA):TI:=fun σ H R=>ta σ H fun vs H1=>∃i j:Int,vs=[.int i,.int j]/\(-(2^62)<=i/\i<2^62/\ -(2^62)<=j/\j<2^62)/\R (Itr i (j-i).toNat) H1
theorem zrG {a:Expr}{p pos:Pos}(hg:Gl X "range")(hm:X.mg "range"=none)(ha:PA X [a] ta)(hs:starEach [a] X.env=[(false,eval a X.env)]:=by rfl):PI X tg (.Call (.Name "range" p) [a] [] pos) (iRng1 ta):=by
 intro pins s σ H R I h;refine Call_ (zj3 I hg hm boot_range (qaF (thn (ha pos pins s σ H _ I h) fun us s1 ⟨vs,H1,I1,r1,q1⟩=>?_) hs rfl));obtain⟨j,e,q1,q2,q⟩:=q1;subst e;cases r1 with
 |cons r rr=>
  cases rr;obtain⟨t,rfl⟩:=r;exact call_range_1 (zpF I1 (by lia) (by lia) q1 q2 (by simpa using q))
theorem zrt {a b:Expr}{p pos:Pos}(hg:Gl X "range")(hm:X.mg "range"=none)(ha:PA X [a,b] ta)(hs:starEach [a,b] X.env=[(false,eval a X.env),(false,eval b X.env)]:=by rfl)(hs2:starEach [b] X.env=[(false,eval b X.env)]:=by rfl):
  PI X tg (.Call (.Name "range" p) [a,b] [] pos) (iRng2 ta):=by
 intro pins s σ H R I h;refine Call_ (zj3 I hg hm boot_range (qaF (thn (ha pos pins s σ H _ I h) fun us s1 ⟨vs,H1,I1,r1,q1⟩=>?_) (by rw[hs,hs2]) (by rw[hs2];rfl)));obtain⟨i,j,e,⟨q1,q2,q3,q4⟩,q⟩:=q1;subst e;cases r1 with
 |cons r rr=>
  cases rr with
  |cons r' rr=>
   cases rr;obtain⟨t,rfl⟩:=r;obtain⟨t',rfl⟩:=r';exact call_range_2 (zpF I1 q1 q2 q3 q4 q)
noncomputable def tFor (wi:TI)(g:TG)(tb:TS):TS:=fun D σ H=>wi σ H fun J H1=>∃W:Nat->Nat->St->Hp->Prop,(∃m,W 0 m σ H1)/\∀i m σ H,W i m σ H->
 (J.stop i H/\D.nx σ H)\/(J.go i H/\∃N:St->Hp->Prop,(∀σ' H',N σ' H'->∃m',m'<m/\W (i+1) m' σ' H')/\∀x H',J.yld i H x H'->g x σ H' fun σ2 H2=>tb {D with nx:=N,ct:=N,bk:=D.nx} σ2 H2)
noncomputable def znK (fp:List Addr)(h:Heap):List (Addr×Obj):=fp.filterMap fun b=>(h.get? b).map fun o=>(b,o)
theorem zho (hb:b∈fp)(e:h.get? b=some o):(b,o)∈znK fp h:=qaG.mpr ⟨b,hb,by rw[e];rfl⟩
theorem zqI (hp:p∈znK fp h):p.1∈fp/\h.get? p.1=some p.2:=by
 obtain⟨b,hb,e⟩:=qaG.mp hp;cases q:h.get? b with
 |none=>rw[q]at e;cases e
 |some o=>
  rw[q]at e;have e':(b,o)=p:=Option.some.inj e;subst e';exact⟨hb,q⟩
theorem Inv.pinned (I:Inv X pins σ H s)(hf:∀b∈fp,FpOk X pins H b)(ho:∀b∈fp,∃o,s.heap.get? b=some o/\∀v,o.data≠ .cell v):Inv X (pins++znK fp s.heap) σ H s:=
 I.pins_of fun p hp=>(qan.mp hp).elim (fun z=>I.pin p (qaH _ z)) fun z=>by
  obtain⟨hb,e⟩:=zqI z;obtain⟨f0,f1,f2,_⟩:=hf p.1 hb;obtain⟨o,e',d⟩:=ho p.1 hb;rw[e]at e';cases e';exact⟨e,f0,f1,f2,d⟩
theorem Inv.unpinned (I:Inv X (pins++pl) σ H s):Inv X pins σ H s:=I.pins_of fun p hp=>I.pin p (qaH _ (qao _ hp))
theorem ps_for {iter:Expr}{wi:TI}{g:TG}(hp:PassesOwn (model X.prog X.w) X.A X.env X.xe)(hc:X.calm=true)(hi:PI X tg iter wi)(hg:PG X tg g)(hb:PSs X body tb)
    (hs:∀x,foldedSetIterable iter X.env x=pure x:=by intro _;rfl):PS X (.For tg iter body [] pos) (tFor wi g tb):=by
  intro pins s σ H D I h;refine wpAny_For (thn (hi pins s σ H _ I h) fun v s1 h1=>thn h1 fun itv s2 h2=>?_) hs;obtain⟨it,fp,tn,J,H2,e,I2,T,st2,f2,W,⟨m0,w0⟩,turn⟩:=h2;subst e;have stat:∀{H':Hp},(∀b∈fp,H' b=none)->∀b∈fp,FpOk X pins H' b:=fun hn b hb=>⟨hn b hb,(f2 b hb).2⟩
  refine codeAny_forLoop_any (fun n s'=>∃i σ' H',Inv X pins σ' H' s'/\tn i s'.heap/\(∀b∈fp,H' b=none)/\W i n σ' H') ?_ m0 ⟨0,σ,H2,I2,st2,fun b hb=>(f2 b hb).1,w0⟩;rintro n s3 ⟨i,σ3,H3,I3,st3,fr3,w3⟩;rcases turn i n σ3 H3 w3 with⟨stop,qn⟩|⟨go,N,hN,step⟩
  . refine qax hp (thn (T.done X rfl rfl rfl hc i pins s3 σ3 H3 X.xe I3 (stat fr3) st3 stop) fun r s4 ⟨hr,I4⟩=>?_)
    subst hr;exact qau ⟨σ3,H3,I4,qn⟩
  . refine qax hp (thn (T.item X rfl rfl rfl hc i pins s3 σ3 H3 X.xe I3 (stat fr3) st3 go) fun r s4 ⟨u,hr,h4⟩=>?_)
    subst hr;refine qax hp (thn h4 fun _ s5 ⟨x,H5,I5,r5,y5,st5,fr5⟩=>?_);have I5':=I5.pinned (stat fr5) (T.obj _ _ st5);refine qax hp (thn (hg _ s5 σ3 H5 x u _ I5' r5 (step x H5 y5)) fun _ s6 ⟨σ6,H6,I6,q6⟩=>?_);refine qax hp (thn (hb _ s6 σ6 H6 _ I6 q6) fun f s7 q7=>?_);have again:∀{σ7:St} {H7:Hp},Inv X (pins++znK fp s5.heap) σ7 H7 s7->N σ7 H7->∃m,m<n/\∃i σ' H',Inv X pins σ' H' s7/\tn i s7.heap/\(∀b∈fp,H' b=none)/\W i m σ' H':=fun{σ7 H7} I7 n7=>by
      obtain⟨m',hm,w7⟩:=hN σ7 H7 n7;refine⟨m',hm,i+1,σ7,H7,I7.unpinned,T.keep _ _ _ st5 fun b hb o e=>(I7.pin (b,o) (qaH _ (qaH _ (zho hb e)))).1,fun b hb=>?_,w7⟩;obtain⟨o,e,d⟩:=T.obj _ _ st5 b hb;exact(I7.pin (b,o) (qaH _ (qaH _ (zho hb e)))).2.1
    cases f with
    |next=>obtain⟨σ7,H7,I7,n7⟩:=q7;exact again I7 n7
    |cont=>obtain⟨σ7,H7,I7,n7⟩:=q7;exact again I7 n7
    |brk=>obtain⟨σ7,H7,I7,q7⟩:=q7;exact⟨σ7,H7,I7.unpinned,q7⟩
    |ret v=>obtain⟨x7,σ7,H7,I7,r7,q7⟩:=q7;exact⟨x7,σ7,H7,I7.unpinned,r7,q7⟩
end
noncomputable abbrev R2:=V->V->Hp->VK->Prop
noncomputable def OpR (X:Cx)(f:Value->Value->Sem Value)(r:R2):Prop:=
 ∀(pins:List (Addr×Obj)) (s:Shared) (σ:St) (H:Hp) (x y:V) (v u:Value) (Q:VK),Inv X pins σ H s->RelV x v->RelV y u->r x y H Q->
  wpAny (model X.prog X.w) X.A (f v u) (EP X pins σ Q) X.xe s
noncomputable def UnR (X:Cx)(f:Value->Sem Value)(r:V->Hp->VK->Prop):Prop:=
 ∀(pins:List (Addr×Obj)) (s:Shared) (σ:St) (H:Hp) (x:V) (v:Value) (Q:VK),Inv X pins σ H s->RelV x v->r x H Q->
  wpAny (model X.prog X.w) X.A (f v) (EP X pins σ Q) X.xe s
noncomputable def zje (X:Cx)(f:Value)(r:List V->Hp->VK->Prop):Prop:=
 ∀(pins:List (Addr×Obj)) (s:Shared) (σ:St) (H:Hp) (xs:List V) (us:List Value) (Q:VK),Inv X pins σ H s->Vals xs us->r xs H Q->
  wpAny (model X.prog X.w) X.A (call f us) (EP X pins σ Q) X.xe s
noncomputable def TruR (X:Cx)(r:V->Hp->(Bool->Hp->Prop)->Prop):Prop:=
 ∀(pins:List (Addr×Obj)) (s:Shared) (σ:St) (H:Hp) (x:V) (v:Value) (Q:Bool->Hp->Prop),Inv X pins σ H s->RelV x v->r x H Q->
  wpAny (model X.prog X.w) X.A (truthy v) (TP X pins σ Q) X.xe s
noncomputable def tOp (r:R2)(ta tb:TE):TE:=fun σ H Q=>ta σ H fun x H1=>tb σ H1 fun y H2=>r x y H2 Q
noncomputable def tUn (r:V->Hp->VK->Prop)(ta:TE):TE:=fun σ H Q=>ta σ H fun x H1=>r x H1 Q
noncomputable def rI (C:Int->Int->Prop)(g:Int->Int->V):R2:=fun x y H Q=>∃i j,x= .int i/\y= .int j/\C i j/\Q (g i j) H
noncomputable def rI0 (g:Int->Int->V):R2:=fun x y H Q=>∃i j,x= .int i/\y= .int j/\Q (g i j) H
noncomputable def rU (g:Int->V):V->Hp->VK->Prop:=fun x H Q=>∃i,x= .int i/\Q (g i) H
section
variable {X:Cx} {a b c:Expr} {ta tb tc:TE} {pos:Pos}
theorem binT (ha:PE X a ta)(hb:PE X b tb){R:V->V->Hp->Prop}(I:Inv X pins σ H s)
  (h:ta σ H fun x H1=>tb σ H1 fun y H2=>R x y H2) {Q:Value->Shared->Prop} {f:Value->Value->Sem Value}
  (hf:∀v u s2 x y H2,Inv X pins σ H2 s2->RelV x v->RelV y u->R x y H2->wpAny (model X.prog X.w) X.A (f v u) Q X.xe s2):
  wpAny (model X.prog X.w) X.A (eval a X.env) (fun v s₁=>wpAny (model X.prog X.w) X.A (eval b X.env) (fun u s₂=>wpAny (model X.prog X.w) X.A (f v u) Q X.xe s₂) X.xe s₁) X.xe s:=by
 refine thn (ha pins s σ H _ I h) fun v s1 ⟨x,H1,I1,r1,q1⟩=>?_
 refine thn (hb pins s1 σ H1 _ I1 q1) fun u s2 ⟨y,H2,I2,r2,q2⟩=>?_
 exact hf v u s2 x y H2 I2 r1 r2 q2
theorem pe_op {op:Operator}{r:R2}(ho:OpR X (binaryOp op) r)(ha:PE X a ta)(hb:PE X b tb):PE X (.BinOp a op b pos) (tOp r ta tb):=by
 intro pins s σ H Q I h;exact wpAny_BinOp (binT ha hb I h fun v u s2 x y H2 I2 rx ry q=>ho pins s2 σ H2 x y v u Q I2 rx ry q)
theorem pe_un {op:UnaryOp}(ho:UnR X (unaryOp op) r)(ha:PE X a ta):PE X (.UnaryOp op a pos) (tUn r ta):=by
 intro pins s σ H Q I h;exact UnaryOp_ (thn (ha pins s σ H _ I h) fun v s1 ⟨x,H1,I1,r1,q1⟩=>ho pins s1 σ H1 x v Q I1 r1 q1)
theorem opI {f:Value->Value->Sem Value}
  (rule:∀(i j:Int) (t u:Tok) (s:Shared) (Q:Value->Shared->Prop) (E:Value->Shared->Prop),C i j->Q (.int (g i j) s.toks) {s with toks:=s.toks+1}->wpAny (model X.prog X.w) X.A (f (.int i t) (.int j u)) Q E s):
  OpR X f (rI C fun i j=> .int (g i j)):=by
 intro pins s σ H x y v u Q I rx ry h;obtain⟨i,j,rfl,rfl,hc,q⟩:=h;obtain⟨t,rfl⟩:=rx;obtain⟨t',rfl⟩:=ry;exact rule i j t t' s _ _ hc ⟨.int (g i j),H,I.tok _,⟨_,rfl⟩,q⟩
theorem opI0 {f:Value->Value->Sem Value}
  (rule:∀(i j:Int) (t u:Tok) (s:Shared) (Q:Value->Shared->Prop) (E:Value->Shared->Prop),Q (.int (g i j) s.toks) {s with toks:=s.toks+1}->wpAny (model X.prog X.w) X.A (f (.int i t) (.int j u)) Q E s):
  OpR X f (rI0 fun i j=> .int (g i j)):=by
 intro pins s σ H x y v u Q I rx ry h;obtain⟨i,j,rfl,rfl,q⟩:=h;obtain⟨t,rfl⟩:=rx;obtain⟨t',rfl⟩:=ry;exact rule i j t t' s _ _ ⟨.int (g i j),H,I.tok _,⟨_,rfl⟩,q⟩
theorem opB0 {f:Value->Value->Sem Value}{g:Int->Int->Bool}
  (rule:∀(i j:Int) (t u:Tok) (s:Shared) (Q:Value->Shared->Prop) (E:Value->Shared->Prop),Q (.bool (g i j)) s->wpAny (model X.prog X.w) X.A (f (.int i t) (.int j u)) Q E s):
  OpR X f (rI0 fun i j=> .bl (g i j)):=by
 intro pins s σ H x y v u Q I rx ry h;obtain⟨i,j,rfl,rfl,q⟩:=h;obtain⟨t,rfl⟩:=rx;obtain⟨t',rfl⟩:=ry;exact rule i j t t' s _ _ ⟨.bl (g i j),H,I,rfl,q⟩
noncomputable def CPow (i j:Int):Prop:=0<=j/\j<=1000000/\i.natAbs<2^64
theorem op_add:OpR X (binaryOp .Add) (rI0 fun i j=> .int (i+j)):=opI0 fun _ _ _ _ _ _ _ q=>add_int q
theorem op_sub:OpR X (binaryOp .Sub) (rI0 fun i j=> .int (i-j)):=opI0 fun _ _ _ _ _ _ _ q=>sub_int q
theorem op_mod:OpR X (binaryOp .Mod) (rI (fun _ j=>0<j) fun i j=> .int (i%j)):=opI fun i j _ _ _ _ _ hc q=>by
 have h1:(0:Int)<j:=hc;exact mod_int' (by lia) (by rw[Int.fmod_eq_emod_of_nonneg i (by lia)];exact q)
theorem op_pow:OpR X (binaryOp .Pow) (rI CPow fun i j=> .int (i^j.toNat)):=opI fun _ _ _ _ _ _ _ hc q=>pow_int_small hc.1 hc.2.1 hc.2.2 q
theorem unI {f:Value->Sem Value}{g:Int->Int}
  (rule:∀(i:Int) (t:Tok) (s:Shared) (Q:Value->Shared->Prop) (E:Value->Shared->Prop),Q (.int (g i) s.toks) {s with toks:=s.toks+1}->wpAny (model X.prog X.w) X.A (f (.int i t)) Q E s):
  UnR X f (rU fun i=> .int (g i)):=by
 intro pins s σ H x v Q I rx h;obtain⟨i,rfl,q⟩:=h;obtain⟨t,rfl⟩:=rx;exact rule i t s _ _ ⟨.int (g i),H,I.tok _,⟨_,rfl⟩,q⟩
theorem un_neg:UnR X (unaryOp .USub) (rU fun i=> .int (-i)):=unI fun _ _ _ _ _ q=>neg_int q
end
section
variable {X:Cx} {a b c:Expr} {ta tb tc:TE} {pos:Pos}
theorem fin_bl {Q:VK}{k k':Bool}(I:Inv X pins σ H s)(q:Q (.bl k) H)(e:k=k'):EP X pins σ Q (.bool k') s:=by
 subst e;exact⟨.bl k,H,I,rfl,q⟩
theorem op_lt:OpR X (compareOp .Lt) (rI0 fun i j=> .bl (decide (i<j))):=opB0 fun _ _ _ _ _ _ _ q=>lt_int q
theorem zk9:OpR X (compareOp .LtE) (rI0 fun i j=> .bl (decide (i<=j))):=opB0 fun _ _ _ _ _ _ _ q=>le_int q
theorem op_gt:OpR X (compareOp .Gt) (rI0 fun i j=> .bl (decide (j<i))):=opB0 fun _ _ _ _ _ _ _ q=>gt_int q
theorem op_ge:OpR X (compareOp .GtE) (rI0 fun i j=> .bl (decide (j<=i))):=opB0 fun _ _ _ _ _ _ _ q=>ge_int q
theorem op_isN:OpR X (compareOp .Is) (fun x y H Q=>y= .non/\Q (.bl (decide (x= .non))) H):=by
 intro pins s σ H x y v u Q I rx ry h;obtain⟨rfl,q⟩:=h;cases ry;refine is_none_gen (fin_bl I q ?_);cases x<;>first
  |(cases rx;rfl)
  |(obtain⟨t,rfl⟩:=rx;rfl)
theorem op_notN:OpR X (compareOp .IsNot) (fun x y H Q=>y= .non/\Q (.bl (!decide (x= .non))) H):=by
 intro pins s σ H x y v u Q I rx ry h;obtain⟨rfl,q⟩:=h;cases ry;refine isnot_none_gen (fin_bl I q ?_);cases x<;>first
  |(cases rx;rfl)
  |(obtain⟨t,rfl⟩:=rx;rfl)
theorem OpR.or {f:Value->Value->Sem Value}{r r':R2}(h:OpR X f r)(h':OpR X f r'):OpR X f (fun x y H Q=>r x y H Q\/r' x y H Q):=by
 intro pins s σ H x y v u Q I rx ry q;rcases q with q|q
 ·exact h pins s σ H x y v u Q I rx ry q
 ·exact h' pins s σ H x y v u Q I rx ry q
theorem zh0 (b:Expr)(h:op≠ .In:=by decide)(h2:op≠ .NotIn:=by decide):behindInMarks op b=false:=by
 have e1:(op==CmpOp.In)=false:=by cases op<;>first|rfl|exact absurd rfl h
 have e2:(op==CmpOp.NotIn)=false:=by cases op<;>first|rfl|exact absurd rfl h2
 cases b<;>simp[behindInMarks,e1,e2]
theorem pe_cmpR {r:R2}(ho:OpR X (compareOp op) r)(ha:PE X a ta)(hb:PE X b tb)(hm:behindInMarks op b=false):PE X (.Compare a [op] [b] pos) (tOp r ta tb):=by
 intro pins s σ H Q I h;exact wpAny_Compare1 (binT ha hb I h fun v u s2 x y H2 I2 rx ry q=>ho pins s2 σ H2 x y v u Q I2 rx ry q) hm
noncomputable def tTest (t:TE):TT:=fun σ H Q=>t σ H fun x H'=>∃k,x= .bl k/\Q k H'
theorem pt_cmpR {r:R2}(ho:OpR X (compareOp op) r)(ha:PE X a ta)(hb:PE X b tb)(hm:behindInMarks op b=false):PT X (.Compare a [op] [b] pos) (tTest (tOp r ta tb)):=by
 intro pins s σ H Q I h;refine wpAny_isTrue_Compare1 (thn (ha pins s σ H _ I h) fun v s1 ⟨x,H1,I1,r1,q1⟩=>thn (hb pins s1 σ H1 _ I1 q1) fun u s2 ⟨y,H2,I2,r2,q2⟩=>
  thn (ho pins s2 σ H2 x y v u _ I2 r1 r2 q2) fun c s3 ⟨z,H3,I3,r3,k,e,q3⟩=>?_) hm
 subst e;cases r3;exact qas ⟨H3,I3,q3⟩
noncomputable def zsm (r r':R2)(ta tb tc:TE):TE:=fun σ H Q=>ta σ H fun x H1=>tb σ H1 fun y H2=>r x y H2 fun z H3=>∃k,z= .bl k/\
 (if k=true then tc σ H3 fun w' H4=>r' y w' H4 Q else Q (.bl false) H3)
theorem pe_chain {r r':R2}(ho:OpR X (compareOp op) r)(ho':OpR X (compareOp op') r')(ha:PE X a ta)(hb:PE X b tb)(hc:PE X c tc)
  (hm:lastMarks [op,op'] [b,c]=false:=by with_unfolding_all rfl):PE X (.Compare a [op,op'] [b,c] pos) (zsm r r' ta tb tc):=by
 intro pins s σ H Q I h;refine Compare_chain (thn (ha pins s σ H _ I h) fun v s1 ⟨x,H1,I1,r1,q1⟩=>chain_link (thn (hb pins s1 σ H1 _ I1 q1) fun u s2 ⟨y,H2,I2,r2,q2⟩=>
  thn (ho pins s2 σ H2 x y v u _ I2 r1 r2 q2) fun d s3 ⟨z,H3,I3,r3,k,e,q3⟩=>?_)) hm
 subst e;cases r3;refine qas ?_;cases k with
 |false=>exact ite_ff ⟨.bl false,H3,I3,rfl,q3⟩
 |true=>exact ite_tt (chain_last (thn (hc pins s3 σ H3 _ I3 q3) fun w' s4 ⟨z',H4,I4,r4,q4⟩=>ho' pins s4 σ H4 y z' u w' Q I4 r2 r4 q4))
theorem pt_chain {r r':R2}(ho:OpR X (compareOp op) r)(ho':OpR X (compareOp op') r')(ha:PE X a ta)(hb:PE X b tb)(hc:PE X c tc)
  (hm:lastMarks [op,op'] [b,c]=false:=by with_unfolding_all rfl):PT X (.Compare a [op,op'] [b,c] pos) (tTest (zsm r r' ta tb tc)):=by
 intro pins s σ H Q I h;refine isTrue_chain (thn (ha pins s σ H _ I h) fun v s1 ⟨x,H1,I1,r1,q1⟩=>test_link (thn (hb pins s1 σ H1 _ I1 q1) fun u s2 ⟨y,H2,I2,r2,q2⟩=>
  thn (ho pins s2 σ H2 x y v u _ I2 r1 r2 q2) fun d s3 ⟨z,H3,I3,r3,k,e,q3⟩=>?_)) hm
 subst e;cases r3;refine qas ?_;cases k with
 |false=>
  obtain⟨k',e',q'⟩:=q3;cases e';exact ite_ff ⟨H3,I3,q'⟩
 |true=>
  refine ite_tt (test_last (thn (hc pins s3 σ H3 _ I3 q3) fun w' s4 ⟨z',H4,I4,r4,q4⟩=>thn (ho' pins s4 σ H4 y z' u w' _ I4 r2 r4 q4) fun d' s5 ⟨z2,H5,I5,r5,k2,e2,q5⟩=>?_));subst e2;cases r5;exact qas ⟨H5,I5,q5⟩
noncomputable def TruV (K:W.Frag)(x:V)(H:Hp)(k:Bool):Prop:=
 match x with
 | .non=>k=false
 | .bl b=>k=b
 | .int i=>k=(i !=0)
 | .str y=>y.length<=sizeLine/\k=((y.length:Int) !=0)
 | .byt y=>y.size<=sizeLine/\k=((y.size:Int) !=0)
 | .ref p=>(∃xs,SqL K H p xs/\k=!xs.isEmpty)\/(∃xs,SqT K H p xs/\k=!xs.isEmpty)\/∃kvs,H p=some (.dK kvs)/\k=!kvs.isEmpty
 |_=>False
theorem zqv {κ:Type}{kvs:List (κ×V)}{vs:List (κ×Value)}(r:KV kvs vs):(!vs.isEmpty)=!kvs.isEmpty:=by
 cases r<;>rfl
theorem zlO (r:Vals xs its):(!its.toArray.isEmpty)=!xs.isEmpty:=by
 cases r<;>simp
theorem zlM:(sizeLine:Nat)<2^63:=by rw[qaI];decide
theorem tru_ok:TruR X (fun x H Q=>∃k,TruV X.K x H k/\Q k H):=by
 intro pins s σ H x v Q I rx h;obtain⟨k,e,q⟩:=h;have hl:=zlM;have hs:sizeLine=16777216:=qaI;cases x with
 |non=>
  cases rx;have e':k=false:=e;subst e';exact truthy_none ⟨H,I,q⟩
 |bl b=>
  cases rx;have e':k=b:=e;subst e';exact qas ⟨H,I,q⟩
 |int i=>
  obtain⟨t,rfl⟩:=rx;have e':k=(i !=0):=e;subst e';exact PySem.P.truthy_int ⟨H,I,q⟩
 |str y=>
  obtain⟨t,rfl⟩:=rx;obtain⟨hy,e'⟩:y.length<=sizeLine/\k=((y.length:Int) !=0):=e;subst e';exact PySem.P.truthy_str (by lia) ⟨H,I.tok _,q⟩
 |byt y=>
  obtain⟨t,rfl⟩:=rx;obtain⟨hy,e'⟩:y.size<=sizeLine/\k=((y.size:Int) !=0):=e;subst e';exact W.truthy_bytes (by lia) ⟨H,I.tok _,q⟩
 |ref p=>
  cases rx;have e':(∃xs,SqL X.K H p xs/\k=!xs.isEmpty)\/(∃xs,SqT X.K H p xs/\k=!xs.isEmpty)\/∃kvs,H p=some (.dK kvs)/\k=!kvs.isEmpty:=e;rcases e' with⟨xs,hx,e'⟩|⟨xs,hx,e'⟩|⟨kvs,hx,e'⟩
  ·subst e';obtain⟨its,r,pl,hz⟩:=I.list hx;have hlen:=r.length;exact wpAny_truthy_list pl.isList (by simp only[qaJ];lia) ⟨H,I.tok _,by rw[zlO r];exact q⟩
  ·subst e';obtain⟨its,r,pl,hz⟩:=I.tuple hx;have hlen:=r.length;exact truthy_tuple pl (by simp only[qaJ];lia) ⟨H,I.tok _,by rw[zlO r];exact q⟩
  ·subst e';obtain⟨hz,hS,vs,r,m⟩:kvs.length<=sizeLine/\(p==sysModules)=false/\∃vs,KV kvs vs/\s.heap.DictOf (zcK X.prog X.w) p vs:=I.hok p _ hx;have hlen:kvs.length=vs.length:=qac r;exact wpAny_truthy_dict hS m (by lia) ⟨H,I.tok _,by rw[zqv r];exact q⟩
 |_=>exact(show False from e).elim
theorem pt_truth (ha:PE X a ta)(he:∀whole,isTrue a X.env whole=(do let v<-whole;standAt a.pos;holding [v] (truthy v))):
  PT X a (fun σ H Q=>ta σ H fun x H'=>∃k,TruV X.K x H' k/\Q k H'):=by
 intro pins s σ H Q I h;exact isTrue_plain (thn (ha pins s σ H _ I h) fun v s1 ⟨x,H1,I1,r1,q1⟩=>tru_ok pins s1 σ H1 x v Q I1 r1 q1) (he _)
theorem zqz:OpR X (binaryOp .Add) (fun x y H Q=>∃i j,x= .str i/\y= .str j/\i.length+j.length<=sizeLine/\Q (.str (i++j)) H):=by
 intro pins s σ H x y v u Q I rx ry h;obtain⟨i,j,rfl,rfl,hz,q⟩:=h;obtain⟨t,rfl⟩:=rx;obtain⟨t',rfl⟩:=ry;exact add_str (fun t' tk=>⟨.str (i++j),H,I.tok _,⟨_,rfl⟩,q⟩) hz
theorem znu {x:V}(r:Vals [x] us):∃u,us=[u]/\RelV x u:=by
 cases r with
 |cons r1 r2=>cases r2;exact⟨_,rfl,r1⟩
theorem vals2 {x y:V}(r:Vals [x,y] us):∃u w',us=[u,w']/\RelV x u/\RelV y w':=by
 cases r with
 |cons r1 r2=>
  cases r2 with
  |cons r3 r4=>cases r4;exact⟨_,_,rfl,r1,r3⟩
theorem zr5 (hc:X.calm=true):zje X (.builtin "max") (fun xs H Q=>∃i j,xs=[.int i,.int j]/\Q (.int (if j>i then j else i)) H):=by
 intro pins s σ H xs us Q I r h;obtain⟨i,j,rfl,q⟩:=h;obtain⟨u,w',rfl,⟨t,rfl⟩,⟨t',rfl⟩⟩:=vals2 r;refine max_two_ints (I.ok.hd hc) fun h' tk k=>⟨_,H,I.kept k,?_,q⟩
 by_cases hj:j>i
 ·rw[if_pos hj,if_pos hj];exact⟨_,rfl⟩
 ·rw[if_neg hj,if_neg hj];exact⟨_,rfl⟩
theorem zq8 (hc:X.calm=true):zje X (.builtin "min") (fun xs H Q=>∃i j,xs=[.int i,.int j]/\Q (.int (if j<i then j else i)) H):=by
 intro pins s σ H xs us Q I r h;obtain⟨i,j,rfl,q⟩:=h;obtain⟨u,w',rfl,⟨t,rfl⟩,⟨t',rfl⟩⟩:=vals2 r;refine min_two_ints (I.ok.hd hc) fun h' tk k=>⟨_,H,I.kept k,?_,q⟩
 by_cases hj:j<i
 ·rw[if_pos hj,if_pos hj];exact⟨_,rfl⟩
 ·rw[if_neg hj,if_neg hj];exact⟨_,rfl⟩
end
theorem RelO.some_of {o:Option Value}(r:RelO (some v) o):∃u,o=some u/\RelV v u:=by
 cases o with
 |none=>exact(show False from r).elim
 |some u=>exact⟨u,rfl,r⟩
structure Room (k:Nat) (A:Around):Prop where
 hd:A.handled=none
 dp:A.depth+3*k+5<recursionLimit
 un:A.units+16*k+200<cLine
 gd:A.guards=some []
theorem Room.mono (r:Room k A)(h:j<=k):Room j A:=⟨r.hd,by have:=r.dp;lia,by have:=r.un;lia,r.gd⟩
theorem Room.deeper (r:Room (k+1) A)(env:Env):Room k (A.deeper env):=
 ⟨r.hd,by have:=r.dp;show A.depth+1+3*k+5<_;lia,by have:=r.un;show A.units+3+16*k+200<_;lia,r.gd⟩
theorem Room.depth (r:Room k A):A.depth<recursionLimit:=by have:=r.dp;lia
theorem Room.units (r:Room k A):A.units+64<cLine:=by have:=r.un;lia
noncomputable def tNil:TA:=fun _ H Q=>Q [] H
noncomputable def tCons (ta:TE)(tr:TA):TA:=fun σ H Q=>ta σ H fun x H1=>tr σ H1 fun xs H2=>Q (x::xs) H2
section
variable {X:Cx} {e:Expr} {es:List Expr} {te:TE} {t:TA} {pos:Pos}
theorem zpe:PA X [] tNil:=fun _ _ _ _ H Q I h=>Calls.spliced_nil ⟨[],H,I,.nil,h⟩
theorem zko (ha:PE X e te)(hr:PA X es t)(hs:starEach (e::es) X.env=(false,eval e X.env)::starEach es X.env:=by rfl):PA X (e::es) (tCons te t):=by
 intro pos pins s σ H Q I h;rw[hs];show wpAny _ _ (spliced ((false,eval e X.env)::backTo pos (starEach es X.env))) _ _ s;refine Calls.spliced_cons (thn (ha pins s σ H _ I h) fun u s1 ⟨x,H1,I1,r1,q1⟩=>?_);exact thn (hr pos pins s1 σ H1 _ I1 q1) fun us s2 ⟨xs,H2,I2,r2,q2⟩=>⟨x::xs,H2,I2,.cons r1 r2,q2⟩
noncomputable def tTup (t:TA):TE:=fun σ H Q=>t σ H fun xs H1=>xs.length<=sizeLine/\∀p,H1 p=none->Q (.ref p) (upd H1 p (.tup xs))
noncomputable def tLst (t:TA):TE:=fun σ H Q=>t σ H fun xs H1=>xs.length<=sizeLine/\∀p,H1 p=none->Q (.ref p) (upd H1 p (.lst xs))
theorem pe_tup {x1}(h:PA X es t):PE X (.Tuple es x1 pos) (tTup t):=by
 intro pins s σ H Q I hq;refine wpAny_Tuple_spliced (thn (h pos pins s σ H _ I hq) fun us s1 ⟨xs,H1,I1,r,z,q⟩=>⟨by rw[<-r.length];exact z,?_⟩);have hf:H1 s1.heap.objs.size=none:=I1.hok.fresh (qaE _);refine⟨.ref s1.heap.objs.size,upd H1 s1.heap.objs.size (.tup xs),I1.laid (t':=s1.toks) (fun b u e=>qaC _ e) (qaE _) ?_,rfl,q _ hf⟩;exact⟨z,us,r,⟨_,qaD _ rfl,rfl,_,rfl⟩⟩
theorem pe_lst (h:PA X es t):PE X (.List es pos) (tLst t):=by
 intro pins s σ H Q I hq;refine wpAny_List_spliced (thn (h pos pins s σ H _ I hq) fun us s1 ⟨xs,H1,I1,r,z,q⟩=>⟨by rw[<-r.length];exact z,?_⟩);have hf:H1 s1.heap.objs.size=none:=I1.hok.fresh (qaE _);refine⟨.ref s1.heap.objs.size,upd H1 s1.heap.objs.size (.lst xs),I1.laid (t':=s1.toks) (fun b u e=>qaC _ e) (qaE _) ?_,rfl,q _ hf⟩;exact⟨z,us,0,r,qaD _ rfl⟩
end
noncomputable abbrev Sp:=List V->Hp->VK->XK->Prop
noncomputable abbrev CXT:=List Env->Hp->Shared->XK->Value->Shared->Prop
structure Env0 (P:Program) (w:World) (K:W.Frag) (mg:Str->Option Value) (base:Heap) (A:Around) (outer:List Env) (s:Shared) (H:Hp):Prop where
 frames:A.frames=some outer
 mod:Mod K mg base
 bs:∀b o,base.get? b=some o->s.heap.get? b=some o/\H b=none
 bsz:base.objs.size<=s.heap.objs.size
 funs:s.heap.FunFrames base outer
 frf:∀b∈frs outer,H b=none
 hok:HOk P w H s.heap
 bare:AllBare s.gens
noncomputable def CE (outer:List Env)(P:Program)(w:World)(H:Hp)(s:Shared)(Q:VK)(u:Value)(s':Shared):Prop:=
 ∃v H',s'.os=s.os/\AllBare s'.gens/\Un (frs outer) [] H H' s.heap s'.heap/\HOk P w H' s'.heap/\RelV v u/\Q v H'
noncomputable def CR (CX:CXT)(outer:List Env)(P:Program)(w:World)(H:Hp)(s:Shared)(Q:VK)(E:XK)(r:Result)(s':Shared):Prop:=
 match r with
 | .ok (.ret u)=>CE outer P w H s Q u s'
 | .ok _=>False
 | .error e=>CX outer H s E e s'
structure FnOk (P:Program) (w:World) (K:W.Frag) (mg:Str->Option Value) (base:Heap) (CX:CXT) (k:Nat) (f:Addr) (fd:FuncData) (ps:List Str) (sp:Sp):Prop where
 len:∀vs H Q E,sp vs H Q E->vs.length=ps.length
 run:∀(A:Around) (outer:List Env) (s:Shared) (H:Hp) (args:Args) (us:List Value) (vs:List V) (Q:VK) (E:XK),Room k A->Env0 P w K mg base A outer s H->BindsTo s fd args (ps.zip us)->Vals vs us->sp vs H Q E->
  codeAny (model P w) A (.call (.ref f) args) (CR CX outer P w H s Q E) s
section
variable {X:Cx} {pins:List (Addr×Obj)} {σ:St} {H:Hp} {s s':Shared}
theorem Inv.env0 (I:Inv X pins σ H s):Env0 X.prog X.w X.K X.mg X.base X.A X.stack s H:=
 ⟨I.ok.frames,I.ok.mod,I.bs,qai I.ok.bsz I.sz,I.stack,I.stkFree,I.hok,I.bare⟩
theorem Inv.after {Q:VK}(I:Inv X pins σ H s)(h:CE X.stack X.prog X.w H s Q u s'):EP X pins σ Q u s':=by
 obtain⟨v,H',os,bare,un,hok,r,q⟩:=h;obtain⟨hh,g,d,t,os'⟩:=s';obtain rfl:os'=s.os:=os;exact⟨v,H',I.call (h':=hh) (g':=g) (d':=d) (t':=t) (ch:=[]) un hok bare (fun b z=>absurd z (by simp)),r,q⟩
end
noncomputable def tCall (sp:Sp)(dvs:List V)(E:XK)(t:TA):TE:=fun σ H Q=>t σ H fun vs H1=>sp (vs++dvs) H1 Q E
noncomputable def Binds (K:W.Frag)(fd:FuncData)(ps:List Str)(ds:List Value):Prop:=
 ∀(s:Shared) (us:List Value),K.In s.heap->(us++ds).length=ps.length->BindsTo s fd ⟨us,[]⟩ (ps.zip (us++ds))
theorem Binds.all (h:∀us:List Value,us.length=ps.length->bindArgs fd ⟨us,[]⟩=pure (ps.zip us)):Binds K fd ps []:=fun s us _ hl=>by
 rw[qaK]at hl ⊢;exact .of_eq (h us hl)
noncomputable def zrM (CX:CXT)(X:Cx)(E:XK):Prop:=∀(pins:List (Addr×Obj)) (σ:St) (H:Hp) (s:Shared) (e:Value) (s':Shared),Inv X pins σ H s->CX X.stack H s E e s'->X.xe e s'
section
variable {X:Cx} {CX:CXT} {k:Nat} {f C:Addr} {fd:FuncData} {ps:List Str} {sp:Sp} {dvs:List V} {ds:List Value} {E:XK} {x m:Str} {p pos apos:Pos} {e o:Expr} {es:List Expr} {ta:TE} {t:TA}
theorem run_fn {Q:VK}(F:FnOk X.prog X.w X.K X.mg X.base CX k f fd ps sp)(hr:Room k X.A)(hb:Binds X.K fd ps ds)(hd:Vals dvs ds)(hx:zrM CX X E)
  (I:Inv X pins σ H s) (r:Vals vs us) (h:sp (vs++dvs) H Q E):wpAny (model X.prog X.w) X.A (call (.ref f) us) (EP X pins σ Q) X.xe s:=by
 have r2:Vals (vs++dvs) (us++ds):=r.append hd;have hl:(us++ds).length=ps.length:=by rw[<-r2.length];exact F.len _ _ _ _ h
 refine wpAny_call (codeAny_mono (F.run X.A X.stack s H ⟨us,[]⟩ (us++ds) (vs++dvs) Q E hr I.env0 (hb s us I.kIn hl) r2 h) fun r s' hq=>?_);cases r with
 |error e=>exact hx pins σ H s e s' I hq
 |ok fl=>
  cases fl with
  |ret u=>exact I.after hq
  |next=>exact False.elim hq
  |brk=>exact False.elim hq
  |cont=>exact False.elim hq
theorem zoU (F:FnOk X.prog X.w X.K X.mg X.base CX k f fd ps sp)(hr:Room k X.A)(hg:Gl X x)(hm:X.mg x=some (.ref f))(hk:W.keepIn X.K (.ref f)=true)(hb:Binds X.K fd ps ds)(hd:Vals dvs ds)(hx:zrM CX X E)
  (ha:PA X (e::es) t) (hdb:(x==("__debug__":Str))=false:=by decide) (he:starEach (e::es) X.env=(false,eval e X.env)::starEach es X.env:=by rfl) (hpl:(backTo pos (starEach es X.env)).any (·.1)=false:=by rfl):
  PE X (.Call (.Name x p) (e::es) [] pos) (tCall sp dvs E t):=by
 intro pins s σ H Q I h;refine qaL (zr8 I hg hm ?_ hdb);refine W.callWith_K (h₀:=X.base) I.ok.mod.kin hk (thn (ha pos pins s σ H _ I h) fun us s1 ⟨vs,H1,I1,r,q⟩=>⟨I1.kIn,?_⟩) he hpl;exact run_fn F hr hb hd hx I1 r q
end
structure FnScope (N P:List Str) (sc:Scope):Prop where
 kind:sc.kind= .function
 co:sc.isCoroutine=false
 gen:sc.isGenerator=false
 nd:N.Nodup
 pre:N.take P.length=P
 par:∀x∈P,sc.names.lookup x=some .local\/sc.names.lookup x=some .cell
 nofree:∀y∈sc.names,y.2≠ .free
theorem zni:∀{binds:List (Str×Value)} {m:Str->Option Value},(∀v,(x,v)∉binds)->bindL kindOf binds m x=m x
 |[],_,_=>rfl
 |(n,v)::r,m,h=>by
  unfold bindL;rw[zni fun w hw=>h w (qal _ hw)]
  split
  ·have:x≠n:=by rintro rfl;exact h v qak
   simp[this]
  ·rfl
theorem znk:∀{binds:List (Str×Value)} {m:Str->Option Value},(∀v,(x,v)∉binds)->bindC kindOf binds m x=m x
 |[],_,_=>rfl
 |(n,v)::r,m,h=>by
  unfold bindC;rw[znk fun w hw=>h w (qal _ hw)]
  split
  ·rfl
  ·have:x≠n:=by rintro rfl;exact h v qak
   simp[this]
theorem zm2 {v:Value}:∀{P:List Str} {vs:List Value} {i:Nat} {m:Str->Option Value},P.Nodup->P[i]? =some x->vs[i]? =some v->kindOf x=some .local->
  bindL kindOf (P.zip vs) m x=some v
 |[],_,_,_,_,h,_,_=>by simp at h
 |_::_,[],_,_,_,_,h,_=>by simp at h
 |p::P,w::vs,0,m,nd,h1,h2,hk=>by
  simp at h1 h2;subst h1;subst h2;show bindL kindOf ((p,w)::P.zip vs) m p=_;unfold bindL;rw[zni fun v hv=>(qaM.mp nd).1 (List.of_mem_zip hv).1,if_pos hk];simp
 |p::P,w::vs,i+1,m,nd,h1,h2,hk=>by
  show bindL kindOf ((p,w)::P.zip vs) m x=_;unfold bindL;exact zm2 (i:=i) (qaM.mp nd).2 (by simpa using h1) (by simpa using h2) hk
theorem znc {v:Value}:∀{P:List Str} {vs:List Value} {i:Nat} {m:Str->Option Value},P.Nodup->P[i]? =some x->vs[i]? =some v->kindOf x≠some .local->
  bindC kindOf (P.zip vs) m x=some v
 |[],_,_,_,_,h,_,_=>by simp at h
 |_::_,[],_,_,_,_,h,_=>by simp at h
 |p::P,w::vs,0,m,nd,h1,h2,hk=>by
  simp at h1 h2;subst h1;subst h2;show bindC kindOf ((p,w)::P.zip vs) m p=_;unfold bindC;rw[znk fun v hv=>(qaM.mp nd).1 (List.of_mem_zip hv).1,if_neg hk];simp
 |p::P,w::vs,i+1,m,nd,h1,h2,hk=>by
  show bindC kindOf ((p,w)::P.zip vs) m x=_;unfold bindC;exact znc (i:=i) (qaM.mp nd).2 (by simpa using h1) (by simpa using h2) hk
noncomputable def start (N:List Str)(vs:List V):St:=vs.map some++List.replicate (N.length-vs.length) none
noncomputable def cxOf (CX:CXT)(P:Program)(w:World)(K:W.Frag)(mg:Str->Option Value)(base:Heap)(N:List Str)(qual:Str)(scope:Scope)(f:Addr)(cd:Value)(A:Around)(outer:List Env)(s:Shared)(H:Hp)(E:XK):Cx where
 prog:=P
 w:=w
 K:=K
 mg:=mg
 base:=base
 A:=A.deeper (envOfC qual scope s.heap.objs.size f cd)
 N:=N
 s₀:=s
 H₀:=H
 env:=envOfC qual scope s.heap.objs.size f cd
 outer:=outer
 stack:=envOfC qual scope s.heap.objs.size f cd::outer
 ex:=[]
 calm:=true
 fn:=fun _=>true
 pn:=[]
 xe:=fun e s'=>wpAny (model P w) (A.deeper (envOfC qual scope s.heap.objs.size f cd)) (leaving (envOfC qual scope s.heap.objs.size f cd) e) (fun _ s''=>CX outer H s E e s'') (fun e' s''=>CX outer H s E e' s'') s'
theorem zpm (h:sc.names.lookup x=some .cell):∃c,(cellsFrom n sc.names []).lookup x=some c:=by
 have q:=W.cellsFrom_some sc.names n [] (.inl h);exact qaN.mp q
theorem zrq {P:Program}{base:Heap}{f:Addr}{s s1:Shared}{E:XK}
  (S:FnScope N ps scope) (hd:A.handled=none) (e0:Env0 P w K mg base A outer s H) (hl:vs.length=ps.length) (r:Vals vs us)
  (x:InCallC s s.heap.objs.size (bindL (envOfC qual scope s.heap.objs.size f cd).kindOf (ps.zip us) fun _=>none) (cellsFrom (s.heap.objs.size+1) scope.names []) (bindC (envOfC qual scope s.heap.objs.size f cd).kindOf (ps.zip us) fun _=>none) s1):
  Inv (cxOf CX P w K mg base N qual scope f cd A outer s H E) [] (start N vs) H s1:=by
 have hpl:ps.length<=N.length:=by have:=congrArg List.length S.pre;rw[qaO]at this;lia
 obtain⟨h1,tk,rfl,hk⟩:=x.done;have noA:∀b:Addr,b∉(cxOf CX P w K mg base N qual scope f cd A outer s H E).ex:=fun b z=>absurd (show b∈([]:List Addr)from z) (by simp)
 refine⟨⟨e0.mod,S.kind,rfl,rfl,qaE _,fun y z c h1 h2=>?_,fun y hy=>?_,fun y c _ h=>?_,fun _=>hd,Around.frames_deeper e0.frames,.inr ⟨rfl,rfl⟩,fun b z=>absurd z (noA b),e0.bs,e0.bsz,fun b _ _=>noA b,fun b z=>absurd z (noA b),e0.funs,e0.frf⟩,
  rfl,e0.bare,Un.kept hk,⟨_,x.toInCall.ns,fun i y v h1 h2 h3=>?_⟩,fun y c h=>⟨_,x.cell y c h⟩,e0.hok.fresh (qaE _),fun y c h=>?_,fun p hp=>absurd (show p∈([]:List (Addr×Obj))from hp) (by simp),e0.hok.kept hk,?_⟩
 ·exact name_of_addr x.apart (qaP h1) (qaP h2)
 ·have hy:scope.names.lookup y=some .cell\/scope.names.lookup y=some .free:=hy;rcases hy with hy|hy
  ·exact zpm hy
  ·exact absurd rfl (S.nofree _ (qaP hy))
 ·exact Nat.le_of_lt (x.above y c (qaP h))
 ·have hi:i<vs.length:=by
   unfold start at h2
   by_cases hi:i<vs.length
   ·exact hi
   ·rw[qaQ (by simpa using hi)]at h2;rw[qaR]at h2
    split at h2<;>cases h2
  have ha:vs[i]? =some v:=by
   unfold start at h2;rw[qaS (by simpa using hi),qaT]at h2;cases e:vs[i]? with
   |none=>rw[e]at h2;cases h2
   |some a=>rw[e]at h2;cases h2;rfl
  obtain⟨u,hu,rv⟩:=r.get ha;have hp:ps[i]? =some y:=by
   rw[<-S.pre,qaU (by lia)];exact h1
  have ndP:ps.Nodup:=by rw[<-S.pre];exact S.nd.sublist (List.take_sublist _ _)
  refine⟨u,rv,?_⟩;rcases S.par y (qaV hp)with k|k
  ·exact .inl ⟨k,zm2 ndP hp hu k⟩
  ·obtain⟨c,e⟩:=zpm (n:=s.heap.objs.size+1) k;refine .inr ⟨.inl k,c,e,?_⟩;have q:=x.cell y c e;rw[znc ndP hp hu (by show scope.names.lookup y≠_;rw[k];decide)]at q;exact q
 ·exact e0.hok.fresh (Nat.le_of_lt (x.above y c (qaP h)))
 ·unfold start;show _=N.length;rw[qaW,qaX,qaY];lia
theorem fn_of {P:Program}{base:Heap}{f:Addr}{name qual:Str}{dV kV doc pm cdv ct oc:Value}{an od:Option Addr}
  {osl:Array (Option Value)} {N ps:List Str} {sp:Sp} (lk:K.lookup f=some ⟨oc,od,.func (W.fnOf name qual params body scope dV kV doc pm an cdv ct),osl⟩) (hcd:W.codeIn K cdv qual=true) (S:FnScope N ps scope)
  (len:∀vs H Q E,sp vs H Q E->vs.length=ps.length)
  (hbody : ∀ (A : Around) (outer : List Env) (s : Shared) (H : Hp) (vs : List V) (Q : VK) (E : XK), Room k (A.deeper (envOfC qual scope s.heap.objs.size f cdv)) -> sp vs H Q E ->
   ∃t,PSs (cxOf CX P w K mg base N qual scope f cdv A outer s H E) body t/\t {nx:=fun _ H'=>Q .non H',rt:=Q} (start N vs) H):
  FnOk P w K mg base CX (k+1) f (W.fnOf name qual params body scope dV kV doc pm an cdv ct) ps sp:=by
 refine⟨len,fun A outer s H args us vs Q E hr e0 hb r hsp=>?_⟩;have hl:=len _ _ _ _ hsp;have KX:K.In s.heap:=e0.mod.kin.keeps fun b o e=>(e0.bs b o e).1
 have lim:s.heap.NoLimit:=e0.mod.nolimit.keeps fun b o e=>(e0.bs b o e).1
 have hkind:∀y∈ps.zip us,scope.names.lookup y.1=some .local\/(scope.names.lookup y.1=some .cell/\((cellsFrom (s.heap.objs.size+1) scope.names []).lookup y.1).isSome=true):=fun⟨n,v⟩ hy=>by
  rcases S.par n (List.of_mem_zip hy).1 with q|q
  ·exact .inl q
  ·exact .inr ⟨q,W.cellsFrom_some _ _ _ (.inl q)⟩
 refine codeAny_call_function hr.depth (KX _ _ lk) rfl S.co S.gen rfl (W.codeRec_of KX hcd) (hb _ _ _ _ ?_);refine wpAny_newFunctionEnv_cells S.kind hkind fun env he s1 x=>?_
 subst he;refine⟨lim.keeps x.toInCall.keep,codeAny_func ?_⟩;obtain⟨t,ht,hq⟩:=hbody A outer s H vs Q E (hr.deeper _) hsp;have I:Inv (cxOf CX P w K mg base N qual scope f cdv A outer s H E) [] (start N vs) H s1:=zrq S hr.hd e0 hl r x;refine qar (ht [] s1 (start N vs) H _ I hq) (fun fl s' hs=>?_) fun e s' hs=>hs
 have fin:∀{σ':St} {H':Hp} {v:V} {u:Value},Inv (cxOf CX P w K mg base N qual scope f cdv A outer s H E) [] σ' H' s'->RelV v u->Q v H'->CE outer P w H s Q u s':=
  fun{σ' H' v u} J rv q=>⟨v,H',J.os,J.bare,J.base,J.hok,rv,q⟩
 cases fl with
 |ret u=>
  obtain⟨v,σ',H',J,rv,q⟩:=hs;exact fin J rv q
 |next=>
  obtain⟨σ',H',J,q⟩:=hs;exact fin (v:=V.non) (u:=Value.none) J rfl q
 |brk=>
  obtain⟨_,_,_,q⟩:=hs;exact False.elim q
 |cont=>
  obtain⟨_,_,_,q⟩:=hs;exact False.elim q
section
variable {X:Cx} {x:Str} {p pos:Pos} {e:Expr} {es:List Expr} {t:TA} {id T:String} {r:List V->Hp->VK->Prop}
noncomputable def tCB (r:List V->Hp->VK->Prop)(t:TA):TE:=fun σ H Q=>t σ H fun vs H1=>r vs H1 Q
theorem zpv (hc:zje X (.builtin id) r)(hg:Gl X x)(hm:X.mg x=none)(hv:bootBuiltins x=some (.builtin id))(ha:PA X (e::es) t)(hn:x≠"__name__":=by decide)(hdb:(x==("__debug__":Str))=false:=by decide)
  (he:starEach (e::es) X.env=(false,eval e X.env)::starEach es X.env:=by rfl) (hpl:(backTo pos (starEach es X.env)).any (·.1)=false:=by rfl):PE X (.Call (.Name x p) (e::es) [] pos) (tCB r t):=by
 intro pins s σ H Q I h;refine qaL (zj3 I hg hm hv ?_ hn hdb);exact PyProof.Rows.callWith_builtin1 (thn (ha pos pins s σ H _ I h) fun us s1 ⟨vs,H1,I1,r1,q1⟩=>hc pins s1 σ H1 vs us Q I1 r1 q1) he hpl
theorem zm5 (hc:zje X (.type T) r)(hg:Gl X x)(hm:X.mg x=none)(hv:bootBuiltins x=some (.type T))(ha:PA X (e::es) t)(hn:x≠"__name__":=by decide)(hdb:(x==("__debug__":Str))=false:=by decide)
  (he:starEach (e::es) X.env=(false,eval e X.env)::starEach es X.env:=by rfl) (hpl:(backTo pos (starEach es X.env)).any (·.1)=false:=by rfl):PE X (.Call (.Name x p) (e::es) [] pos) (tCB r t):=by
 intro pins s σ H Q I h;refine qaL (zj3 I hg hm hv ?_ hn hdb);exact qaF (thn (ha pos pins s σ H _ I h) fun us s1 ⟨vs,H1,I1,r1,q1⟩=>hc pins s1 σ H1 vs us Q I1 r1 q1) he hpl
end
end L2
namespace HT
open PyProof.Rows PySem
theorem eqAt_int (A:Around)(s:Shared)(a:Int)(t:Tok)(c:Int)(u:Tok):∃e,SeqAt.EqAt A s (.int a t) (.int c u) e/\(e=true↔a=c):=
 ⟨(a==c),SeqAt.EqAt.int_int a t c u,by simp⟩
section
variable {prog:Program} {w:World} {A:Around} {E:Value->Shared->Prop} {s:Shared}
theorem cat_tup {t b:Addr}{vs ws:List Value}{Q:Value->Shared->Prop}(ht:IsTup s.heap t vs.toArray)(hb:IsTup s.heap b ws.toArray)(hv:vs≠[])
  (h1:ws=[]->Q (.ref t) s) (h2:ws≠[]->Q (.ref s.heap.objs.size) {s with heap:=s.heap.push {cls:= .type "tuple",data:= .seq (vs++ws).toArray}})
  (hsz:vs.length+ws.length<=sizeLine):wpAny (model prog w) A (binaryOp .Add (.ref t) (.ref b)) Q E s:=by
 obtain⟨⟨cls,dd,data,sl⟩,ho,hc,n,hd⟩:=id ht;obtain⟨⟨cls2,dd2,data2,sl2⟩,ho2,hc2,n2,hd2⟩:=id hb;simp only at hc hd hc2 hd2;subst hc hd hc2 hd2;have e:vs.toArray++ws.toArray=(vs++ws).toArray:=by simp
 by_cases hw:ws=[]
 ·exact concat_meets ⟨_,ho,rfl⟩ ⟨_,ho2,rfl⟩ noFill_tuple_add seq_tuple_add qaZ qa0 (qa1 _ _)
   (tuple_addW1 t b vs.toArray ws.toArray n n2 dd dd2 sl sl2 (by simpa using hv) (by simp[hw])) ⟨ho,ho2,h1 hw⟩
 ·refine concat_meets ⟨_,ho,rfl⟩ ⟨_,ho2,rfl⟩ noFill_tuple_add seq_tuple_add qaZ qa0 (qa1 _ _)
   (tuple_addW2 t b vs.toArray ws.toArray n n2 dd dd2 sl sl2 (by simpa using hv) (by simpa using hw) (by rw[qaJ,qaJ];exact hsz)) ⟨ho,ho2,?_⟩
  rw[e];exact h2 hw
noncomputable def sIx (n d:Nat):Option Int->Nat
 |none=>d
 |some v=>if v<0 then(v+(n:Int)).toNat else min v.toNat n
theorem zo3 (n d:Nat):sIx n d none=d:=rfl
theorem zjt (n d k:Nat):sIx n d (some (k:Int))=min k n:=by
 show(if(k:Int)<0 then((k:Int)+(n:Int)).toNat else min (k:Int).toNat n)=min k n;rw[if_neg (by lia),qa2]
theorem sIx_le (n d:Nat)(hd:d<=n)(o:Option Int):sIx n d o<=n:=by
 cases o with
 |none=>exact hd
 |some v=>
  show(if v<0 then(v+(n:Int)).toNat else min v.toNat n)<=n
  by_cases hv:v<0
  ·rw[if_pos hv];lia
  ·rw[if_neg hv];exact Nat.min_le_right _ _
theorem zs2 (v:Int)(n d:Nat):(if v<0 then max (v+(n:Int)) 0 else min v (n:Int))=((sIx n d (some v):Nat):Int):=by
 show(if v<0 then max (v+(n:Int)) 0 else min v (n:Int))=(((if v<0 then(v+(n:Int)).toNat else min v.toNat n):Nat):Int)
 by_cases hv:v<0
 ·simp only[if_pos hv];lia
 ·simp only[if_neg hv];lia
theorem zqf (lo hi:Option Int)(n:Nat):Builtin.Slice.sliceAdjust lo hi 1 (n:Int)=(((sIx n 0 lo:Nat):Int),((sIx n n hi:Nat):Int)):=by
 have h1:¬((1:Int)<0):=by lia
 unfold Builtin.Slice.sliceAdjust;simp only[h1,qa3];refine Prod.ext ?_ ?_
 ·cases lo with
  |none=>rfl
  |some v=>exact zs2 v n 0
 ·cases hi with
  |none=>rfl
  |some v=>exact zs2 v n n
theorem zqh (i j:Nat):Builtin.Slice.slicePlaces (i:Int) (j:Int) 1=j-i:=by
 unfold Builtin.Slice.slicePlaces;have h1:(1:Int)>0:=by lia
 simp only[h1,if_true,Int.ediv_one]
 split<;>lia
theorem zlz {v:Value}{o:Option Int}{Q:Option Int->Shared->Prop}(p:IsPart v o)(h:Q o s):wpAny (model prog w) A (Builtin.Slice.slicePartIndex v) Q E s:=by
 cases p with
 |none=>exact slicePart_none h
 |int i t=>exact slicePart_int h
theorem zfT {sl:Addr}{vl vu:Value}{lo hi:Option Int}{n:Nat}{Q:Int×Int×Nat->Shared->Prop}(hs:s.heap.IsSliceOf sl vl vu .none)(pl:IsPart vl lo)(pu:IsPart vu hi)
  (h:Q (((sIx n 0 lo:Nat):Int),1,sIx n n hi-sIx n 0 lo) s):wpAny (model prog w) A (Builtin.Slice.sliceApplied (.ref sl) (pure (n:Int))) Q E s:=by
 obtain⟨os,hos,hcs,hds⟩:=id hs;unfold Builtin.Slice.sliceApplied Builtin.Slice.sliceFields;refine qav (qav (qa4 hos hds (x:=vl) rfl (qav (qa4 hos hds (x:=vu) rfl (qav (qa4 hos hds (x:= .none) rfl (qaz ?_)))))));refine qav (slicePart_none ?_);show wpAny _ _ (if((1:Int)==0)=true then _ else _) _ _ s;rw[if_neg (by decide)];refine qav (zlz pl (qav (zlz pu (qav (qaz ?_)))));show wpAny _ _ (match Builtin.Slice.sliceAdjust lo hi 1 (n:Int)with|(lo,hi)=>pure (lo,(1:Int),Builtin.Slice.slicePlaces lo hi 1)) _ _ s;rw[zqf lo hi n];show wpAny _ _ (pure (((sIx n 0 lo:Nat):Int),(1:Int),Builtin.Slice.slicePlaces ((sIx n 0 lo:Nat):Int) ((sIx n n hi:Nat):Int) 1)) _ _ s;rw[zqh];exact qaz h
theorem pick_gen (xs:Array Value)(i k:Nat):((List.range k).filterMap fun(m:Nat)=>xs[((i:Int)+(m:Int)*1).toNat]?).toArray=((xs.toList.drop i).take k).toArray:=by
 have e:(fun(m:Nat)=>xs[((i:Int)+(m:Int)*1).toNat]?)=fun m=>xs[i+m]?:=by
  funext m
  have:((i:Int)+(m:Int)*1).toNat=i+m:=by lia
  rw[this]
 rw[e];have:=pick_run xs i k;rw[List.filterMap_map]at this;have e2:((fun x=>xs[x]?) ∘ fun x=>i+x)=fun m=>xs[i+m]?:=rfl
 rw[e2]at this;rw[this]
theorem zjD {t sl:Addr}{items:Array Value}{vl vu:Value}{lo hi:Option Int}{Q:Value->Shared->Prop}(ht:IsTup s.heap t items)(hs:s.heap.IsSliceOf sl vl vu .none)(pl:IsPart vl lo)(pu:IsPart vu hi)
  (hw:¬(sIx items.size 0 lo=0/\sIx items.size items.size hi=items.size))
  (h:Q (.ref s.heap.objs.size) {s with heap:=s.heap.push {cls:= .type "tuple",data:= .seq ((items.toList.drop (sIx items.size 0 lo)).take (sIx items.size items.size hi-sIx items.size 0 lo)).toArray}})
  (hsz:items.size<=sizeLine):wpAny (model prog w) A (getItem (.ref t) (.ref sl)) Q E s:=by
 have htake:sizeOk (.seq ((items.toList.drop (sIx items.size 0 lo)).take (sIx items.size items.size hi-sIx items.size 0 lo)).toArray):=by
  show((items.toList.drop (sIx items.size 0 lo)).take (sIx items.size items.size hi-sIx items.size 0 lo)).toArray.size<=sizeLine;rw[qaJ,qaO,qa5,qat];lia
 have hj:sIx items.size items.size hi<=items.size:=sIx_le _ _ (qaE _) hi;obtain⟨os,hos,hcs,hds⟩:=id hs;have hTs:s.TypeIs (.ref sl) "slice":=⟨os,hos,hcs⟩;unfold getItem
 try with_reducible refine qaw ?_
 first|refine qav (qaz ?_)|skip
 refine qav (wpAny_sequenceKey ht.typeIs (by decide) ?_);refine qav (qa6 (name:=Str.ofString "__getitem__") ht.typeIs qa7
  (qa8 qa7 ht.typeIs entry_tuple_getitem ?_ (args_tuple_getitem _ _)))
 show wpAny _ _ (Builtin.Tuple.tupleItemsOf (.ref t)>>=_) _ _ s;refine qav (tupleItemsOf_ ht ?_);refine qav (wpAny_typeOf hTs ?_);rw[if_pos (by decide)];refine qav (zfT hs pl pu ?_);have hno:¬((((sIx items.size 0 lo:Nat):Int)==0&&(1:Int)==1&&(sIx items.size items.size hi-sIx items.size 0 lo)==items.size)=true):=by
  intro q;rw[qa9,qa9]at q;have q1:((sIx items.size 0 lo:Nat):Int)=0:=eq_of_beq q.1.1;have q2:sIx items.size items.size hi-sIx items.size 0 lo=items.size:=eq_of_beq q.2;exact hw ⟨by lia,by lia⟩
 show wpAny _ _ (if(((sIx items.size 0 lo:Nat):Int)==0&&(1:Int)==1&&(sIx items.size items.size hi-sIx items.size 0 lo)==items.size)=true then _ else _) _ _ s;rw[if_neg hno,pick_gen]
 first
  |exact qav (m:=Builtin.Tuple.tupleExact _) (qba (qaz ⟨_,rfl,qaz h⟩) htake)
  |exact qav (m:=Builtin.Tuple.tupleExact _) (qba (qav (qaz (qaz ⟨_,rfl,qaz h⟩))) htake)
  |exact qav (qav (m:=Builtin.Tuple.tupleExact _) (qba (qaz (qaz ⟨_,rfl,qaz h⟩)) htake))
  |exact qav (qav (m:=Builtin.Tuple.tupleExact _) (qba (qaz ⟨_,rfl,qaz h⟩) htake))
end
end HT
namespace L2
open PyProof.Rows PySem PySem.Spec
variable {ns:List Int} {r r':V->Option Int->Option Int->Hp->VK->Prop} {xs:List V} {us its its':List Value} {n j t':Nat} {i:Int} {pins:List (Addr×Obj)} {σ:St} {H:Hp} {s:Shared} {p:Addr} {v:Value}
noncomputable abbrev TO:=St->Hp->(Option Int->Hp->Prop)->Prop
noncomputable def PO (X:Cx)(e:Option Expr)(t:TO):Prop:=
 ∀(pins:List (Addr×Obj)) (s:Shared) (σ:St) (H:Hp) (Q:Option Int->Hp->Prop),Inv X pins σ H s->t σ H Q->
  wpAny (model X.prog X.w) X.A (evalPart e X.env) (fun u s'=>∃o H',Inv X pins σ H' s'/\IsPart u o/\Q o H') X.xe s
noncomputable def tNoPart:TO:=fun _ H Q=>Q none H
noncomputable def tPart (t:TE):TO:=fun σ H Q=>t σ H fun x H1=>∃i,x= .int i/\Q (some i) H1
theorem zjB:∀{us:List Value},Vals (ns.map V.int) us->IntsAre us ns:=by
 induction ns with
 |nil=>intro us r;rw[qbb]at r;cases r;exact .nil
 |cons n ns ih=>
  intro us r;rw[qbc]at r;cases r with
  |cons r1 r2=>
   obtain⟨t,e⟩:=r1;subst e;exact .cons n t (ih r2)
section
variable {X:Cx} {e:Expr} {te:TE} {lo hi:Option Expr} {tl th:TO} {pos p2:Pos}
theorem po_none:PO X none tNoPart:=by
 intro pins s σ H Q I h;rw[evalPart_none];exact qaz ⟨none,H,I,.none,h⟩
theorem po_some (h:PE X e te):PO X (some e) (tPart te):=by
 intro pins s σ H Q I hw;rw[evalPart_some];refine thn (h pins s σ H _ I hw) fun u s1 ⟨x,H1,I1,r1,q1⟩=>?_
 obtain⟨i,rfl,q⟩:=q1;obtain⟨t,rfl⟩:=r1;exact⟨some i,H1,I1,.int i t,q⟩
noncomputable def SlR (X:Cx)(r:V->Option Int->Option Int->Hp->VK->Prop):Prop:=
 ∀(pins:List (Addr×Obj)) (s:Shared) (σ:St) (H:Hp) (x:V) (v vl vu:Value) (lo hi:Option Int) (sl:Addr) (Q:VK),Inv X pins σ H s->RelV x v->s.heap.IsSliceOf sl vl vu .none->IsPart vl lo->IsPart vu hi->r x lo hi H Q->
  ∃T id,typeLookup (.type T) "__getitem__"=pure (some (.builtin id))/\s.TypeIs v T/\wpAny (model X.prog X.w) X.A (getItem v (.ref sl)) (EP X pins σ Q) X.xe s
theorem SlR.or (h:SlR X r)(h':SlR X r'):SlR X (fun x lo hi H Q=>r x lo hi H Q\/r' x lo hi H Q):=by
 intro pins s σ H x v vl vu lo hi sl Q I rx hs pl pu q;rcases q with q|q
 ·exact h pins s σ H x v vl vu lo hi sl Q I rx hs pl pu q
 ·exact h' pins s σ H x v vl vu lo hi sl Q I rx hs pl pu q
noncomputable def tSl (r:V->Option Int->Option Int->Hp->VK->Prop)(te:TE)(tl th:TO):TE:=fun σ H Q=>te σ H fun x H1=>tl σ H1 fun l H2=>th σ H2 fun u H3=>r x l u H3 Q
theorem pe_slice (hr:SlR X r)(he:PE X e te)(hl:PO X lo tl)(hu:PO X hi th):PE X (.Subscript e (.Slice lo hi none p2) pos) (tSl r te tl th):=by
 intro pins s σ H Q I h;refine Subscript_ (thn (he pins s σ H _ I h) fun v s1 ⟨x,H1,I1,r1,q1⟩=>?_);refine wpAny_Slice (thn (hl pins s1 σ H1 _ I1 q1) fun vl s2 ⟨l,H2,I2,pl,q2⟩=>thn (hu pins s2 σ H2 _ I2 q2) fun vu s3 ⟨u,H3,I3,pu,q3⟩=>?_);rw[evalPart_none];refine qaz ?_;have I4:Inv X pins σ H3 {s3 with heap:=s3.heap.push {cls:= .type "slice",data:= .fields #[vl,vu,.none]}}:=I3.kept (t':=s3.toks) fun b ob q=>qaC _ q
 obtain⟨T,id,hT,ht,hg⟩:=hr pins {s3 with heap:=s3.heap.push {cls:= .type "slice",data:= .fields #[vl,vu,.none]}} σ H3 x v vl vu l u s3.heap.objs.size Q I4 r1 (Heap.IsSliceOf.new ..) pl pu q3;show wpAny (model X.prog X.w) X.A (subscriptTail e (.Slice lo hi none p2) v (.ref s3.heap.objs.size)) (EP X pins σ Q) X.xe {s3 with heap:=s3.heap.push {cls:= .type "slice",data:= .fields #[vl,vu,.none]}};exact tail_any (ops:=[.ref s3.heap.objs.size,v]) ht hT hg (by with_unfolding_all rfl)
noncomputable def cutV (xs:List V)(lo hi:Option Int):List V:=(xs.drop (HT.sIx xs.length 0 lo)).take (HT.sIx xs.length xs.length hi-HT.sIx xs.length 0 lo)
theorem zkG (xs:List V)(lo hi:Option Int):(cutV xs lo hi).length<=xs.length:=by
 unfold cutV;rw[qaO,qa5];lia
noncomputable def rSlT (K:W.Frag):V->Option Int->Option Int->Hp->VK->Prop:=fun x lo hi H Q=>∃a xs,x= .ref a/\SqT K H a xs/\
 ¬(HT.sIx xs.length 0 lo=0/\HT.sIx xs.length xs.length hi=xs.length)/\∀p,H p=none->Q (.ref p) (upd H p (.tup (cutV xs lo hi)))
theorem sl_tup:SlR X (rSlT X.K):=by
 intro pins s σ H x v vl vu lo hi sl Q I rx hs pl pu h;obtain⟨a,xs,rfl,hx,hw,q⟩:=h;cases rx;obtain⟨its,r,ht,hz⟩:=I.tuple hx;have hlen:its.toArray.size=xs.length:=by rw[qaJ];exact r.length.symm
 refine⟨"tuple",_,PyProof.Rows.slot_tuple_getitem.lookup,ht.typeIs,?_⟩;refine HT.zjD ht hs pl pu (by rw[hlen];exact hw) ?_ (by rw[hlen];exact hz);rw[hlen];refine⟨.ref s.heap.objs.size,_,I.laid (t':=s.toks) (o:= .tup (cutV xs lo hi)) (fun b ob q=>qaC _ q) (qaE _) ?_,rfl,q _ (I.hok.fresh (qaE _))⟩;exact⟨qai (zkG xs lo hi) hz,_,(r.drop (HT.sIx xs.length 0 lo)).take (HT.sIx xs.length xs.length hi-HT.sIx xs.length 0 lo),IsTup.new _ _⟩
noncomputable def rCatT (K:W.Frag):R2:=fun x y H Q=>∃a b xs ys,x= .ref a/\y= .ref b/\SqT K H a xs/\SqT K H b ys/\xs≠[]/\xs.length+ys.length<=sizeLine/\
 (ys=[]->Q (.ref a) H)/\(ys≠[]->∀p,H p=none->Q (.ref p) (upd H p (.tup (xs++ys))))
theorem Vals.nil_iff (r:Vals xs us):us=[]↔xs=[]:=by
 cases r with
 |nil=>simp
 |cons _ _=>simp
theorem op_catT:OpR X (binaryOp .Add) (rCatT X.K):=by
 intro pins s σ H x y v u Q I rx ry h;obtain⟨a,b,xs,ys,rfl,rfl,ha,hb,hx,hz,q1,q2⟩:=h;cases rx;cases ry;obtain⟨its,r1,p1,_⟩:=I.tuple ha;obtain⟨its2,r2,p2,_⟩:=I.tuple hb;refine HT.cat_tup p1 p2 (fun z=>hx (r1.nil_iff.mp z)) (fun z=>⟨.ref a,H,I,rfl,q1 (r2.nil_iff.mp z)⟩) (fun z=>?_) (by rw[<-r1.length,<-r2.length];exact hz);refine⟨.ref s.heap.objs.size,_,I.laid (t':=s.toks) (o:= .tup (xs++ys)) (fun b ob q=>qaC _ q) (qaE _) ?_,rfl,q2 (fun w=>z (r2.nil_iff.mpr w)) _ (I.hok.fresh (qaE _))⟩;exact⟨by rw[qaW];exact hz,_,r1.append r2,IsTup.new _ _⟩
end
noncomputable def ixN (n:Nat)(i:Int):Option Nat:=if 0<=i then(if i<n then some i.toNat else none)else if-(n:Int)<=i then some (i+n).toNat else none
noncomputable def atI {α:Type}(xs:List α)(i:Int):Option α:=(ixN xs.length i).bind fun j=>xs[j]?
theorem zq9 {n:Nat}(h:ixN n i=some j):seqIndex? i n=some j/\j<n/\ -(n:Int)<=i/\i<n:=by
 unfold ixN at h
 by_cases h0:0<=i
 ·rw[if_pos h0]at h
  by_cases h1:i<n
  ·rw[if_pos h1]at h;have e:i.toNat=j:=Option.some.inj h;exact⟨by rw[seqIndex_of h0 h1,e],by lia,by lia,h1⟩
  ·rw[if_neg h1]at h;cases h
 ·rw[if_neg h0]at h
  by_cases h1: -(n:Int)<=i
  ·rw[if_pos h1]at h;have e:(i+n).toNat=j:=Option.some.inj h;exact⟨by rw[seqIndex_neg (by lia) h1,e],by lia,h1,by lia⟩
  ·rw[if_neg h1]at h;cases h
theorem zom {α:Type}{xs:List α}{v:α}(h:atI xs i=some v):∃j,seqIndex? i xs.length=some j/\xs[j]? =some v/\j<xs.length/\ -(xs.length:Int)<=i/\i<xs.length:=by
 unfold atI at h;cases e:ixN xs.length i with
 |none=>rw[e]at h;cases h
 |some j=>
  rw[e]at h;obtain⟨h1,h2,h3,h4⟩:=zq9 e;exact⟨j,h1,h,h2,h3,h4⟩
theorem zph {α:Type}(xs:List α)(v:α):atI (xs++[v]) (-1)=some v:=by
 have hl:(xs++[v]).length=xs.length+1:=by simp
 have e:ixN (xs++[v]).length (-1)=some xs.length:=by
  unfold ixN;rw[hl,if_neg (by decide),if_pos (by lia)];congr 1;lia
 unfold atI;rw[e];show(xs++[v])[xs.length]? =some v;simp
noncomputable def zmN (b:Expr):Prop:=∀o i,subscripted b false o i=operate [o,i] (getItem o i)
noncomputable def IxR (X:Cx)(r:R2):Prop:=
 ∀(value slice:Expr) (pins:List (Addr×Obj)) (s:Shared) (σ:St) (H:Hp) (x y:V) (v u:Value) (Q:VK),Inv X pins σ H s->RelV x v->RelV y u->r x y H Q->
  subscripted slice false v u=operate [v,u] (getItem v u)->wpAny (model X.prog X.w) X.A (subscriptTail value slice v u) (EP X pins σ Q) X.xe s
noncomputable def MtR (X:Cx)(id:String)(r:V->List V->Hp->VK->Prop):Prop:=
 ∀(pins:List (Addr×Obj)) (s:Shared) (σ:St) (H:Hp) (x:V) (xs:List V) (v:Value) (us:List Value) (Q:VK),Inv X pins σ H s->RelV x v->Vals xs us->r x xs H Q->
  wpAny (model X.prog X.w) X.A (call (.builtin id) (v::us)) (EP X pins σ Q) X.xe s
section
variable {X:Cx} {a b:Expr} {ta tb:TE} {pos:Pos}
theorem IxR.or {r r':R2}(h:IxR X r)(h':IxR X r'):IxR X (fun x y H Q=>r x y H Q\/r' x y H Q):=by
 intro value slice pins s σ H x y v u Q I rx ry q hs;rcases q with q|q
 ·exact h value slice pins s σ H x y v u Q I rx ry q hs
 ·exact h' value slice pins s σ H x y v u Q I rx ry q hs
theorem pe_ix {r:R2}(hr:IxR X r)(ha:PE X a ta)(hb:PE X b tb)(hs:zmN b):PE X (.Subscript a b pos) (tOp r ta tb):=by
 intro pins s σ H Q I h;exact Subscript_ (binT ha hb I h fun v u s2 x y H2 I2 rx ry q=>hr a b pins s2 σ H2 x y v u Q I2 rx ry q (hs _ _))
noncomputable def rIxL (K:W.Frag):R2:=fun x y H Q=>∃p xs i v,x= .ref p/\y= .int i/\SqL K H p xs/\atI xs i=some v/\Q v H
noncomputable def rIxT (K:W.Frag):R2:=fun x y H Q=>∃p xs i v,x= .ref p/\y= .int i/\SqT K H p xs/\atI xs i=some v/\Q v H
noncomputable def rIxS:R2:=fun x y H Q=>∃z i c,x= .str z/\y= .int i/\z.length<=sizeLine/\atI z.cps.toList i=some c/\Q (.str ⟨#[c]⟩) H
theorem ix_list:IxR X (rIxL X.K):=by
 intro value slice pins s σ H x y v u Q I rx ry h hs;obtain⟨p,xs,i,z,rfl,rfl,hq,he,q⟩:=h;cases rx;obtain⟨t,rfl⟩:=ry;obtain⟨its,r,pl,hz⟩:=I.list hq;obtain⟨j,h1,h2,h3,h4,h5⟩:=zom he;obtain⟨w,ew,rw'⟩:=r.get h2;have hl:=r.length;have hn:=zlM;have fin:EP X pins σ Q w s:=⟨z,H,I,rw',q⟩
 by_cases h0:0<=i
 ·have hj:i.toNat=j:=by
   rw[seqIndex_of h0 h5]at h1;exact Option.some.inj h1
  exact item_listR pl.isList h0 (by lia) (by rw[hj];simpa using ew) fin hs
 ·have hj:(i+(its.toArray.size:Int)).toNat=j:=by
   rw[seqIndex_neg (by lia) h4]at h1;rw[qaJ,<-hl];exact Option.some.inj h1
  exact subscriptTail_builtinR (x:=w) pl.isList.typeIs slot_list_getitem.lookup
   (wpAny_getItem_list_neg (Q:=fun r s'=>r=w/\EP X pins σ Q r s') pl.isList (by lia) (by rw[qaJ]<;>lia) (by lia) (by rw[hj];simpa using ew) ⟨rfl,fin⟩) hs
theorem ix_tup:IxR X (rIxT X.K):=by
 intro value slice pins s σ H x y v u Q I rx ry h hs;obtain⟨p,xs,i,z,rfl,rfl,hq,he,q⟩:=h;cases rx;obtain⟨t,rfl⟩:=ry;obtain⟨its,r,pl,hz⟩:=I.tuple hq;obtain⟨j,h1,h2,h3,h4,h5⟩:=zom he;obtain⟨w,ew,rw'⟩:=r.get h2;have hl:=r.length;have hn:=zlM;have fin:EP X pins σ Q w s:=⟨z,H,I,rw',q⟩;exact subscriptTail_builtinR (x:=w) pl.typeIs slot_tuple_getitem.lookup
  (getItem_tuple (j:=j) (Q:=fun r s'=>r=w/\EP X pins σ Q r s') pl (by lia) (by lia) (by rw[qaJ,<-hl];exact h1) (by simpa using ew) ⟨rfl,fin⟩) hs
theorem ix_str:IxR X rIxS:=by
 intro value slice pins s σ H x y v u Q I rx ry h hs;obtain⟨z,i,c,rfl,rfl,hz,he,q⟩:=h;obtain⟨t,rfl⟩:=rx;obtain⟨t',rfl⟩:=ry;obtain⟨j,h1,h2,h3,h4,h5⟩:=zom he;have hl:z.cps.toList.length=z.length:=by simp[Str.length]
 rw[hl]at h1 h4 h5;have hn:=zlM;exact tail_any (typeIs_str s z t) slot_str_getitem.lookup (getItem_str (c:=c) (by
  have e1:decide (i< -(2^63:Int))=false:=qaa (by lia);have e2:decide (i>=2^63)=false:=qaa (by lia);rw[e1,e2,Bool.or_false]) (by rw[h1];simpa using h2) ⟨.str ⟨#[c]⟩,H,I.tok _,⟨_,rfl⟩,q⟩) hs
noncomputable def rIx (K:W.Frag):R2:=fun x y H Q=>rIxL K x y H Q\/rIxT K x y H Q\/rIxS x y H Q
theorem ix_seq:IxR X (rIx X.K):=ix_list.or (ix_tup.or ix_str)
theorem zqe (its:List Value)(n j:Nat)(u:Value):Obj.mapSeq (·.setIfInBounds j u) {cls:= .type "list",data:= .seq its.toArray n}={cls:= .type "list",data:= .seq (its.set j u).toArray n}:=by
 simp[Obj.mapSeq]
theorem Inv.lst (I:Inv X pins σ H s)(h:H p=some (.lst xs)):
  ∃(its:List Value) (n:Nat),Vals xs its/\s.heap.get? p=some {cls:= .type "list",data:= .seq its.toArray n}/\xs.length<=sizeLine:=by
 obtain⟨z,its,n,r,e⟩:=I.hok p _ h;exact⟨its,n,r,e,z⟩
theorem Inv.lstUpd {xs ys:List V}{n n':Nat}{f:Obj->Obj}(I:Inv X pins σ H s)(h:H p=some (.lst xs))
  (ho:s.heap.get? p=some {cls:= .type "list",data:= .seq its.toArray n}) (hf:f {cls:= .type "list",data:= .seq its.toArray n}={cls:= .type "list",data:= .seq its'.toArray n'}) (r:Vals ys its') (hz:ys.length<=sizeLine) (t:Nat):
  Inv X pins σ (upd H p (.lst ys)) {s with heap:=s.heap.update p f,toks:=t}:=by
 have e:(s.heap.update p f).get? p=some {cls:= .type "list",data:= .seq its'.toArray n'}:=by
  rw[qbd f ho (by rw[hf]<;>rfl),hf]
 refine I.write (x:=p) (e:=p) (by rw[h];trivial) (.inl rfl) (fun b u hb q=>(Heap.get?_update_other _ _ (Ne.symm hb)).trans q) ⟨_,e⟩ ?_;exact⟨hz,its',n',r,e⟩
noncomputable def rSetL:V->V->V->Hp->(Hp->Prop)->Prop:=fun o i v H Q=>∃p xs k j,o= .ref p/\i= .int k/\H p=some (.lst xs)/\ixN xs.length k=some j/\Q (upd H p (.lst (xs.set j v)))
theorem set_list:PSet X rSetL:=by
 intro pins s σ H o i v ov iv u Q I ro ri rv h;obtain⟨p,xs,k,j,rfl,rfl,hp,hj,q⟩:=h;cases ro;obtain⟨t,rfl⟩:=ri;obtain⟨its,n,r,ho,hz⟩:=I.lst hp;obtain⟨h1,h2,h3,h4⟩:=zq9 hj;have hl:=r.length;have hn:=zlM;have I':Inv X pins σ (upd H p (.lst (xs.set j v))) {s with heap:=s.heap.update p (Obj.mapSeq (·.setIfInBounds j u))}:=
  I.lstUpd hp ho (zqe its n j u) (r.set rv j) (by rw[qbe];exact hz) s.toks
 by_cases h0:0<=k
 ·have hk:k.toNat=j:=by
   rw[seqIndex_of h0 h4]at h1;exact Option.some.inj h1
  exact W.ki_setAt ho h0 (by lia) (by rw[qaJ,<-hl];exact h4) (by rw[hk];exact⟨_,I',q⟩)
 ·have hk:(k+(its.toArray.size:Int)).toNat=j:=by
   rw[seqIndex_neg (by lia) h3]at h1;rw[qaJ,<-hl];exact Option.some.inj h1
  exact W.ki_setBack ho (by lia) (by rw[qaJ,<-hl];exact h3) (by lia) (by rw[hk];exact⟨_,I',q⟩)
theorem znQ (lo hi:Option Int)(n:Nat):(sliceBounds lo hi none n).1=((HT.sIx n 0 lo:Nat):Int)/\(sliceBounds lo hi none n).2.1=((HT.sIx n n hi:Nat):Int)/\(sliceBounds lo hi none n).2.2=1:=by
 refine⟨?_,?_,rfl⟩
 ·cases lo with
  |none=>simp[sliceBounds,HT.sIx]
  |some i=>
   simp only[sliceBounds,HT.sIx,Option.getD_none,show(1:Int)>0 by decide,if_true]
   by_cases h:i<0
   ·simp only[h,if_true]<;>lia
   ·simp only[h,qa3]<;>lia
 ·cases hi with
  |none=>simp[sliceBounds,HT.sIx]
  |some i=>
   simp only[sliceBounds,HT.sIx,Option.getD_none,show(1:Int)>0 by decide,if_true]
   by_cases h:i<0
   ·simp only[h,if_true]<;>lia
   ·simp only[h,qa3]<;>lia
theorem zmh (its:List Value)(lo hi:Option Int):slicePick its.toArray lo hi none=((its.drop (HT.sIx its.length 0 lo)).take (HT.sIx its.length its.length hi-HT.sIx its.length 0 lo)).toArray:=by
 obtain⟨h1,h2,h3⟩:=znQ lo hi its.toArray.size;unfold slicePick;rw[h1,h2,h3];simp only[sliceRange_one,pick_run,qaJ]<;>rfl
noncomputable def rSlL (K:W.Frag):V->Option Int->Option Int->Hp->VK->Prop:=fun x lo hi H Q=>∃a xs,x= .ref a/\SqL K H a xs/\∀p,H p=none->Q (.ref p) (upd H p (.lst (cutV xs lo hi)))
theorem sl_list:SlR X (rSlL X.K):=by
 intro pins s σ H x v vl vu lo hi sl Q I rx hs pl pu h;obtain⟨a,xs,rfl,hx,q⟩:=h;cases rx;obtain⟨its,r,ht,hz⟩:=I.list hx;have hlen:=r.length;refine⟨"list",_,slot_list_getitem.lookup,ht.isList.typeIs,?_⟩;refine wpAny_getItem_list_slice ht.isList hs pl pu .none (by simp) ?_ (by rw[qaJ]<;>lia)
 rw[zmh,<-hlen];refine⟨.ref s.heap.objs.size,_,I.laid (t':=s.toks) (o:= .lst (cutV xs lo hi)) (fun b ob q=>qaC _ q) (qaE _) ?_,rfl,q _ (I.hok.fresh (qaE _))⟩;exact⟨qai (zkG xs lo hi) hz,_,0,(r.drop (HT.sIx xs.length 0 lo)).take (HT.sIx xs.length xs.length hi-HT.sIx xs.length 0 lo),qaD _ rfl⟩
theorem zj0:zje X (.builtin "len") (fun xs H Q=>∃p ys,xs=[.ref p]/\(SqL X.K H p ys\/SqT X.K H p ys)/\Q (.int ys.length) H):=by
 intro pins s σ H xs us Q I r h;obtain⟨p,ys,rfl,hq,q⟩:=h;obtain⟨u,rfl,rx⟩:=znu r;cases rx;have hn:=zlM;rcases hq with hq|hq
 ·obtain⟨its,r',pl,hz⟩:=I.list hq;have hlen:=r'.length;exact Calls.call_len_list pl.isList (by simp only[qaJ]<;>lia) ⟨.int ys.length,H,I.tok _,⟨s.toks+1,by rw[qaJ,hlen]⟩,q⟩
 ·obtain⟨its,r',pl,hz⟩:=I.tuple hq;have hlen:=r'.length;exact len_tuple pl (by simp only[qaJ]<;>lia) ⟨.int ys.length,H,I.tok _,⟨s.toks+1,by rw[qaJ,hlen]⟩,q⟩
theorem znh:zje X (.type "list") (fun xs H Q=>∃p ys,xs=[.ref p]/\(SqL X.K H p ys\/SqT X.K H p ys)/\∀l,H l=none->Q (.ref l) (upd H l (.lst ys))):=by
 intro pins s σ H xs us Q I r h;obtain⟨p,ys,rfl,hq,q⟩:=h;obtain⟨u,rfl,rx⟩:=znu r;cases rx;have fin:∀(its:List Value),Vals ys its->ys.length<=sizeLine->∀(h':Heap) (c':Nat),(∀b o',s.heap.get? b=some o'->h'.get? b=some o')->
   h'.get? s.heap.objs.size=some {cls:= .type "list",dict:=none,data:= .seq its.toArray c',slots:= #[]}->EP X pins σ Q (.ref s.heap.objs.size) {s with heap:=h'}:=fun its r' hz h' c' kp e=>
  ⟨.ref s.heap.objs.size,_,I.laid (t':=s.toks) kp (qaE _) (show ObjOk X.prog X.w _ h' _ (.lst ys)from⟨hz,its,c',r',e⟩),rfl,q _ (I.hok.fresh (qaE _))⟩
 rcases hq with hq|hq
 ·obtain⟨its,r',pl,hz⟩:=I.list hq;have hlen:=r'.length;obtain⟨o,ho,hc,n,hd⟩:=pl.isList;exact call_list_seq p (.inl rfl) ho hc hd (fun h' c' kp e=>fin its r' hz h' c' kp e) (by simp only[qaJ]<;>lia)
 ·obtain⟨its,r',pl,hz⟩:=I.tuple hq;have hlen:=r'.length;obtain⟨o,ho,hc,n,hd⟩:=pl;exact call_list_seq p (.inr rfl) ho hc hd (fun h' c' kp e=>fin its r' hz h' c' kp e) (by simp only[qaJ]<;>lia)
theorem zmP:zje X (.type "tuple") (fun xs H Q=>∃p ys,xs=[.ref p]/\((SqL X.K H p ys/\∀l,H l=none->Q (.ref l) (upd H l (.tup ys)))\/(SqT X.K H p ys/\Q (.ref p) H))):=by
 intro pins s σ H xs us Q I r h;obtain⟨p,ys,rfl,h⟩:=h;obtain⟨u,rfl,rx⟩:=znu r;cases rx;rcases h with⟨hq,q⟩|⟨hq,q⟩
 ·obtain⟨its,r',pl,hz⟩:=I.list hq;have hlen:=r'.length;refine call_tuple_list pl.isList (fun h' kp=>?_) (by simp only[qaJ]<;>lia)
  have I1:Inv X pins σ H {s with heap:=h'}:=I.kept (t':=s.toks) kp;have I2:Inv X pins σ (upd H h'.objs.size (.tup ys)) {s with heap:=h'.push {cls:= .type "tuple",data:= .seq its.toArray}}:=
   I1.laid (t':=s.toks) (fun b o e=>qaC _ e) (qaE _) (show ObjOk X.prog X.w _ _ _ (.tup ys)from⟨hz,its,r',IsTup.new _ _⟩)
  exact⟨.ref h'.objs.size,_,I2,rfl,q _ (I1.hok.fresh (qaE _))⟩
 ·obtain⟨its,r',pl,hz⟩:=I.tuple hq;exact call_tuple_same pl ⟨.ref p,H,I,rfl,q⟩
noncomputable def tyV (K:W.Frag)(T:String)(x:V)(H:Hp):Prop:=match x with
 | .str _=>T="str"
 | .int _=>T="int"
 | .ref p=>(T="list"/\∃xs,SqL K H p xs)\/(T="tuple"/\∃o,K.lookup p=some o/\o.cls= .type "tuple"/\o.dict=none)\/
   (T="dict"/\((∃kvs,H p=some (.dK kvs))\/∃kvs,H p=some (.dT kvs)))\/(T="set"/\∃S n,H p=some (.set S n))
 |_=>False
theorem tyV_is {T:String}{x:V}(I:Inv X pins σ H s)(r:RelV x v)(ty:tyV X.K T x H):
  s.TypeIs v T/\∀a,v= .ref a->∃ob,s.heap.get? a=some ob/\ob.dict=none:=by
 cases x with
 |str z=>
  obtain⟨t,rfl⟩:=r;cases(show T="str" from ty);exact⟨typeIs_str s z t,fun _ e=>nomatch e⟩
 |int i=>
  obtain⟨t,rfl⟩:=r;cases(show T="int" from ty);exact⟨typeIs_int s i t,fun _ e=>nomatch e⟩
 |ref p=>
  cases r;rcases ty with⟨rfl,xs,hq⟩|⟨rfl,o,hk,hc,hd⟩|⟨rfl,hk⟩|⟨rfl,S,n,hk⟩
  ·obtain⟨its,_,pl,_⟩:=I.list hq;refine⟨pl.isList.typeIs,fun a e=>?_⟩;cases e;obtain⟨o,n,e,c,hd,_⟩:=pl;exact⟨o,e,hd⟩
  ·refine⟨⟨o,I.kIn p o hk,hc⟩,fun a e=>?_⟩;cases e;exact⟨o,I.kIn _ o hk,hd⟩
  ·have z:∃o,s.heap.get? p=some o/\o.ExactDict:=by
    rcases hk with⟨kvs,hk⟩|⟨kvs,hk⟩
    ·obtain⟨_,_,_,_,o,_,_,e,ex,_⟩:=I.hok p _ hk;exact⟨o,e,ex⟩
    ·obtain⟨_,_,_,_,o,_,_,e,ex,_⟩:=I.hok p _ hk;exact⟨o,e,ex⟩
   obtain⟨o,e,ex⟩:=z;refine⟨⟨o,e,ex.1⟩,fun a e2=>?_⟩;cases e2;exact⟨o,e,ex.2.1⟩
  ·obtain⟨o,_,_,_,e,ex,_⟩:=I.hok p _ hk;refine⟨⟨o,e,ex.1⟩,fun a e2=>?_⟩;cases e2;exact⟨o,e,ex.2.1⟩
 |_=>exact False.elim ty
noncomputable def tBM (K:W.Frag)(T:String)(r:V->List V->Hp->VK->Prop)(to:TE)(t:TA):TE:=fun σ H Q=>to σ H fun x H1=>tyV K T x H1/\t σ H1 fun xs H2=>r x xs H2 Q
variable {o e:Expr} {es:List Expr} {to:TE} {t:TA} {name:Str} {apos cpos:Pos} {T id:String} {r:V->List V->Hp->VK->Prop}
theorem pe_bm (pa:PlainAttrs T)(slot:Slot T name id)(hty:typeOf (.builtin id)=pure (.type "method_descriptor"))(hm:MtR X id r)(ho:PE X o to)(ha:PA X (e::es) t)
  (hbase:attributeBase o name X.env (eval o X.env)=eval o X.env:=by rfl)
  (hfew : ((backTo cpos (starEach (e :: es) X.env)).all (fun x => !x.1) && (backToKw cpos (keywordEach [] X.env)).all (fun x => x.1.isSome)
   &&decide ((e::es).length+([]:List Keyword).length+(if([]:List Keyword).isEmpty then 0 else 1)<30))=true:=by rfl)
  (hline:(apos.endLine==cpos.line)=true:=by rfl) (hs:starEach (e::es) X.env=(false,eval e X.env)::starEach es X.env:=by rfl) (hplain:(backTo cpos (starEach es X.env)).any (·.1)=false:=by rfl):
  PE X (.Call (.Attribute o name apos) (e::es) [] cpos) (tBM X.K T r to t):=by
 intro pins s σ H Q I h;refine wpAny_Call_method_late hbase hfew hline rfl (thn (ho pins s σ H _ I h) fun v s1 ⟨x,H1,I1,r1,ty,q1⟩=>?_);obtain⟨h1,h2⟩:=tyV_is I1 r1 ty;refine⟨T,id,pa,slot,hty,h1,h2,?_⟩;have hA:=ha cpos pins s1 σ H1 _ I1 q1;rw[hs]at hA ⊢;refine Calls.callWith_builtin (by show(false||(backTo cpos (starEach es X.env)).any (·.1))=false;rw[hplain]<;>rfl) (Calls.evalArgs_plain ?_)
 exact thn hA fun us s2 ⟨vs,H2,I2,r2,q2⟩=>hm pins s2 σ H2 x vs v us Q I2 r1 r2 q2
end
noncomputable def MtM (X:Cx)(id:String)(r:V->List V->Hp->VK->Prop):Prop:=
 ∀(pins:List (Addr×Obj)) (s:Shared) (σ:St) (H:Hp) (x:V) (xs:List V) (v:Value) (us:List Value) (Q:VK),Inv X pins σ H s->RelV x v->Vals xs us->r x xs H Q->
  wpAny (model X.prog X.w) X.A (call (.builtin id) (v::us)) (EP X pins σ Q) X.xe s
theorem Vals.one:∀{x:V} {us:List Value},Vals [x] us->∃u,us=[u]/\RelV x u
 |_,_,.cons r .nil=>⟨_,rfl,r⟩
theorem Vals.rep (h:Vals xs us):∀k:Nat,Vals (List.replicate k xs).flatten (List.replicate k us).flatten
 |0=> .nil
 |k+1=>by
  rw[qbf,qbf,qbg,qbg];exact Vals.append h (Vals.rep h k)
theorem zkE (its:List Value):∀(k:Nat) (acc:List Value),
  List.foldl (fun x1 x2=>x1++x2) acc.toArray (List.replicate k its.toArray)=(acc++(List.replicate k its).flatten).toArray
 |0,acc=>by simp
 |k+1,acc=>by
  have e:acc.toArray++its.toArray=(acc++its).toArray:=by simp
  have e2:(acc++its)++(List.replicate k its).flatten=acc++(List.replicate (k+1) its).flatten:=by
   rw[qbf,qbg,qbh]
  rw[<-e2,<-zkE its k (acc++its),<-e,qbf,qbi]
section
variable {X:Cx} {pins:List (Addr×Obj)} {σ:St} {H:Hp} {s:Shared} {l b:Addr} {xs ys zs:List V}
theorem Inv.lset {f:Array Value->Array Value}(I:Inv X pins σ H s)(hH:H l=some (.lst xs))
  (e:s.heap.get? l=some {cls:= .type "list",data:= .seq its.toArray n}) (hf:f its.toArray=its'.toArray) (hv:Vals ys its') (hz:ys.length<=sizeLine):
  Inv X pins σ (upd H l (.lst ys)) {s with heap:=s.heap.update l (Obj.mapSeq f),toks:=t'}:=by
 have q:=PySem.IsL.update e f;rw[hf]at q;refine I.write (x:=l) (e:=l) (by rw[hH];exact trivial) (.inl rfl) (fun b' u hb hu=>(Heap.get?_update_other s.heap (Obj.mapSeq f) (Ne.symm hb)).trans hu) ⟨_,q⟩ ?_;exact⟨hz,its',_,hv,q⟩
theorem Inv.lnew (I:Inv X pins σ H s)(hv:Vals ys its)(hz:ys.length<=sizeLine):
  Inv X pins σ (upd H s.heap.objs.size (.lst ys)) {s with heap:=s.heap.push {cls:= .type "list",data:= .seq its.toArray},toks:=t'}:=
 I.laid (fun _ _ q=>qaC _ q) (qaE _) ⟨hz,its,0,hv,qaD _ rfl⟩
theorem Inv.fresh (I:Inv X pins σ H s):H s.heap.objs.size=none:=I.hok.fresh (qaE _)
theorem Inv.lstM (I:Inv X pins σ H s)(hH:H l=some (.lst xs)):xs.length<=sizeLine/\∃(its:List Value) (n:Nat),Vals xs its/\xs.length=its.length/\s.heap.get? l=some {cls:= .type "list",data:= .seq its.toArray n}:=by
 obtain⟨z,its,n,r,e⟩:=I.hok l _ hH;exact⟨z,its,n,r,r.length,e⟩
theorem notLongL (h:n<=sizeLine):Builtin.List.listTooLong n=false:=by
 unfold Builtin.List.listTooLong;exact qaa (by lia)
end
section
variable {X:Cx}
noncomputable def rAppend:V->List V->Hp->VK->Prop:=fun x vs H Q=>∃l xs y,x= .ref l/\vs=[y]/\H l=some (.lst xs)/\xs.length<sizeLine/\Q .non (upd H l (.lst (xs++[y])))
theorem znN:MtM X "list.append" rAppend:=by
 intro pins s σ H x vs v us Q I rx rv h;obtain⟨l,xs,y,rfl,rfl,hH,hz,q⟩:=h;cases rx;obtain⟨u,rfl,ru⟩:=rv.one;obtain⟨z,its,n,r,hl,e⟩:=I.lstM hH;refine qbj F.slot_list_append ⟨_,e,rfl⟩ F.entry_list_append (F.args_list_append_2 _ _) (PySem.list_append l its.toArray n u (by rw[qaJ];lia)) ⟨e,?_⟩;refine⟨.non,_,I.lset (its':=its++[u]) hH e (by simp) (r.append (.cons ru .nil)) ?_,rfl,q⟩;rw[qaW,qbk];lia
noncomputable def rCat:R2:=fun x y H Q=>∃l b xs zs,x= .ref l/\y= .ref b/\H l=some (.lst xs)/\H b=some (.lst zs)/\xs.length+zs.length<=sizeLine/\∀p,H p=none->Q (.ref p) (upd H p (.lst (xs++zs)))
theorem op_cat:OpR X (binaryOp .Add) rCat:=by
 intro pins s σ H x y v u Q I rx ry h;obtain⟨l,b,xs,zs,rfl,rfl,hH,hB,hz,q⟩:=h;cases rx;cases ry;obtain⟨z,its,n,r,hl,e⟩:=I.lstM hH;obtain⟨z2,its2,n2,r2,hl2,e2⟩:=I.lstM hB;refine PySem.P.add_list e e2 ?_ (by rw[qaJ,qaJ];lia);have ea:its.toArray++its2.toArray=(its++its2).toArray:=by simp
 rw[ea];exact⟨.ref _,_,I.lnew (t':=s.toks) (r.append r2) (by rw[qaW];lia),rfl,q _ I.fresh⟩
noncomputable def rRep:R2:=fun x y H Q=>∃l k xs,x= .ref l/\y= .int k/\H l=some (.lst xs)/\ -(2^63)<=k/\k<2^63/\xs.length*k.toNat<=sizeLine/\
 ∀p,H p=none->Q (.ref p) (upd H p (.lst (List.replicate k.toNat xs).flatten))
theorem zoN {α:Type}(xs:List α)(k:Nat):(List.replicate k xs).flatten.length=k*xs.length:=by
 induction k with
 |zero=>simp
 |succ k ih=>rw[qbf,qbg,qaW,ih,Nat.succ_mul,qbl]
theorem op_rep:OpR X (binaryOp .Mult) rRep:=by
 intro pins s σ H x y v u Q I rx ry h;obtain⟨l,k,xs,rfl,rfl,hH,h1,h2,hz,q⟩:=h;cases rx;obtain⟨t,rfl⟩:=ry;obtain⟨z,its,n,r,hl,e⟩:=I.lstM hH;have hlen:its.toArray.size*k.toNat<=sizeLine:=by rw[qaJ,<-hl];exact hz
 have hcap:¬its.toArray.size*k.toNat>(2^63-1)/8:=by
  have:(sizeLine:Nat)<=(2^63-1)/8:=by decide
  lia
 have hfit:¬(!Builtin.List.listFitsIndex k)=true:=by
  rw[fitsIndex_both h1 h2];exact qay
 have hlong:¬Builtin.List.listTooLong (its.toArray.size*k.toNat)=true:=by
  rw[notLongL hlen];exact qay
 have hnew:List.foldl (fun x1 x2=>x1++x2) #[] (List.replicate (if its.toArray.isEmpty=true then 0 else k.toNat) its.toArray)=(List.replicate k.toNat its).flatten.toArray:=by
  have f0:∀m:Nat,List.foldl (fun x1 x2=>x1++x2) #[] (List.replicate m its.toArray)=(List.replicate m its).flatten.toArray:=fun m=>by
   have:=zkE its m [];rw[qbm]at this;exact this
  rw[f0];cases its with
  |nil=>simp
  |cons a r'=>rw[if_neg (by simp)]
 refine wpAny_binaryOp_repeat_ref (T:="list") (U:="int") (by decide) ⟨_,e,rfl⟩ (fun s'=>typeIs_int s' k t) noFill_list_mul F.fills_int_mul qbn repeat_list F.slot_int_index.lookup
  (qbj qbn (typeIs_int s k t) F.entry_int_rmul (F.args_int_rmul_2 _ _) (int___rmul___int_list k t l its.toArray n)
   ⟨e,rfl,⟨_,e,rfl⟩,qbj F.slot_list_mul ⟨_,e,rfl⟩ F.entry_list_mul (F.args_list_mul_2 _ _) (AutoListH.list___mul___list_int_3 l its.toArray n k t hfit hcap hlong) ⟨e,?_⟩⟩)
 rw[hnew];exact⟨.ref _,_,I.lnew (t':=s.toks) (r.rep k.toNat) (by rw[zoN,qbo];exact hz),rfl,q _ I.fresh⟩
end
end L2
namespace Att
open PyProof.Rows PySem PySem.Calls PySem.W
theorem zk2 {P:Params}{h:Heap}:∀(ns:List Int) (vs:List Value),WellAll P h vs (ns.map WData.int)->IntsAre vs ns:=by
 intro ns
 induction ns with
 |nil=>
  intro vs w;rw[qbb]at w;cases w;exact .nil
 |cons n ns ih=>
  intro vs w;rw[qbc]at w;cases w with
  |cons a b=>
   cases a;exact .cons _ _ (ih _ b)
theorem zsF {l:OpenLaw}{n:Nat}(hn:l.most=some n){P:Params}{h:Heap}{args:List WData}{vals:List Value}
  (hpre:l.row.toRowW.claim.pre args=true) (hwl:WellAll P h vals args):
  ∃a vs ns,vals=[Value.ref a]/\args=[WData.list (ns.map WData.int)]/\h.get? a=some {cls:= .type "list",data:= .seq vs.toArray}/\IntsAre vs ns/\ns.length<=n:=by
 have hsh:WShape.hasAll [] args [.list .int]=true:=(pre_splitW hpre).1;have hc:l.pre.holds [] {args:=args}=true:=(pre_splitW hpre).2;obtain⟨d,r,rfl,h1,h2⟩:=hasAllW_cons hsh;obtain rfl:=hasAllW_nil h2;obtain⟨xs,rfl,h3⟩:=hasW_list h1;obtain⟨ns,rfl⟩:=items_int h3;have hlen:ns.length<=n:=by
  unfold OpenLaw.pre at hc;have h4:(WTm.not (.lt (.lit (.int (n:Int))) (.len (.arg 0)))).holds [] {args:=[.list (ns.map .int)]}=true:=by
   have h4:=(holds_andW hc).1;rw[hn]at h4;exact h4
  have h5:=condW_of h4 (w_not (w_lt w_lit (w_len_list (w_arg rfl))));rw[qaX]at h5;refine Nat.le_of_not_lt fun q=>?_
  have q':(n:Int)<((ns.length:Nat):Int):=by lia
  first
   |(rw[qbp q']at h5;exact absurd h5 (by decide))
   |(simp at h5;lia)
 cases hwl with
 |cons w1 w2=>
  cases w2;cases w1 with
  |list ho hall=>exact⟨_,_,ns,rfl,rfl,ho,zk2 ns _ hall,hlen⟩
theorem zse (l:OpenLaw)(args:List WData):l.row.toRowW.claim.post args (.bool true) args=true:=
 postW_of (r:=l.row.toRowW) (X:=(true==true))
  (show WShape.has [] (.bool true) .bool=true by first|rfl|decide|simp[WShape.has,WShape.arms,WShape.armsAll])
  (show(WTm.eq .res (.lit (.bool true))).value [] {args:=args,res:=some (.bool true),after:=args}=some (.bool (true==true))from w_eq_bool (w_res rfl) w_lit) rfl
theorem attach_call {l:OpenLaw}{n:Nat}{q:Program}{loose:List Str}{XP:(Str->Option Value)->Heap->Prop}{YP:World->Heap->Prop}{d:DefRec}
  (hn:l.most=some n) (hdf:d.params.defaults=[])
  (call : ∀ (w : World) (s₀ s₁ : Shared) (mg mb : Str -> Option Value) (fa : Addr) (o : Obj) (pm cd doc : Value) (a : Addr) (vs : List Value) (ns : List Int),
   Ground q loose [] XP w s₀ mg mb s₁.heap->YP w s₁.heap->
   s₁.heap.get? fa=some o->o.data= .func (docDef d.name d.params d.body d.scope pm cd doc)->s₁.heap.CodeRec cd d.name->mg d.name=some (.ref fa)->
   s₁.heap.get? a=some {cls:= .type "list",data:= .seq vs.toArray}->IntsAre vs ns->ns.length<=n->s₁.gens= #[]->
   codeAny (model l.prog w) callerA (.call (.ref fa) ⟨[.ref a],[]⟩) (fun r s'=>r= .ok (.ret (.bool true))/\OldK s₁.heap s'.heap/\s'.os=s₁.os/\AllBare s'.gens) s₁):
  WalkO q loose XP YP l.row.toRowW d [] (fun f vs=>PySem.call f vs):=by
 intro w s₀ s₁ mg mb G Y fa o pm cd doc dV kV ho hd hcd hD hmg hg args vals as hpre hlay hrd hwl hlo;obtain rfl:dV= .none:=Dflts.none hD hdf;obtain rfl:kV= .none:=Dflts.noKw hD;obtain⟨a,vs,ns,rfl,rfl,hobj,hints,hlen⟩:=zsF hn hpre hwl;refine enter_call (codeAny_mono (call w s₀ s₁ mg mb fa o pm cd doc a vs ns G Y ho (fd_plain hd) hcd hmg hobj hints hlen hg) fun r s' hq=>?_);obtain⟨rfl,h2,h3,h4⟩:=hq;exact⟨.inl ⟨.bool true,.bool true,[],rfl,fun _=>rfl,.bool true,zse l _,fun _=>⟨List.Pairwise.nil,fun _ hm=>(nomatch hm)⟩⟩,h2,h3,h4⟩
end Att
namespace L2
open PyProof.Rows PySem PySem.Spec
variable {w:World} {K:W.Frag} {mg mb:Str->Option Value} {CX:World->CXT} {k:Nat} {a b:Addr} {fd:FuncData} {x qual:Str} {sp:Sp} {vs:List Value} {ns:List Int} {l:W.OpenLaw} {q prog:Program} {loose ps:List Str} {XP:(Str->Option Value)->Heap->Prop} {YP:World->Heap->Prop} {d:DefRec} {X:Cx} {oc u:Value} {osl:Array (Option Value)} {H:Hp} {xs:List (List Key×Addr×Value)} {o:Option V} {kvs:List (List Key×V)} {y:V} {ks:List (Option Expr)} {h':Heap} {A:Around} {E Q:Value->Shared->Prop} {s:Shared} {pos:Pos} {trs:List (TE×TE)}
theorem zjl:∀{vs:List Value} {ns:List Int},IntsAre vs ns->Vals (ns.map V.int) vs
 |_,_,.nil=> .nil
 |_,_,.cons n t h=> .cons ⟨t,rfl⟩ (zjl h)
noncomputable def Only (H:Hp):Prop:=∀b,H b=none\/∃o xs,H b=some (.frz o (.lst xs))
theorem law_call {P:Program}{CX:CXT}{fa a:Addr}{s₁:Shared}
  (KX:K.In s₁.heap) (hns:s₁.heap.Ns mainGlobals mg) (hb:s₁.heap.Ns builtinsNs mb) (hbb:∀x:Str,x≠"__name__"->mb x=bootBuiltins x) (hlim:s₁.heap.NoLimit) (hg:s₁.gens= #[])
  (ha:s₁.heap.get? a=some {cls:= .type "list",data:= .seq vs.toArray}) (hi:IntsAre vs ns) (hl:ns.length<=sizeLine) (hr:Room k callerA)
  (F:∀base:Heap,K.In base->base.Ns mainGlobals mg->FnOk P w K mg base CX k fa fd [x] sp) (hbind:∀(s:Shared) (u:Value),BindsTo s fd ⟨[u],[]⟩ [(x,u)])
  (hsp:∀H:Hp,Only H->SqL K H a (ns.map V.int)->sp [.ref a] H (fun v _=>v= .bl true) fun _ _ _=>False)
  (hCX:∀H e s',CX [] H s₁ (fun _ _ _=>False) e s'->False):
  codeAny (model P w) callerA (.call (.ref fa) ⟨[.ref a],[]⟩) (fun r s'=>r= .ok (.ret (.bool true))/\OldK s₁.heap s'.heap/\s'.os=s₁.os/\AllBare s'.gens) s₁:=by
 have rv:=zjl hi;have lenV:=hi.length;have core:∀H:Hp,Only H->SqL K H a (ns.map V.int)->HOk P w H s₁.heap->(∀b,H b≠none->b=a)->(H a≠none->K.lookup a=none)->
   codeAny (model P w) callerA (.call (.ref fa) ⟨[.ref a],[]⟩) (fun r s'=>r= .ok (.ret (.bool true))/\OldK s₁.heap s'.heap/\s'.os=s₁.os/\AllBare s'.gens) s₁:=by
  intro H hO hS hok hA hK;have base_of:∀{b:Addr} {o:Obj},s₁.heap.get? b=some o->H b=none->(hidT s₁.heap H).get? b=some o:=fun e n=>hidT_get e n
  have noA:∀{b:Addr} {o:Obj} {es:Array DictEntry} {ep:Nat},s₁.heap.get? b=some o->o.data= .dict es ep->H b=none:=fun{b o es ep} e d=>by
   cases q:H b with
   |none=>rfl
   |some u=>
    have e':b=a:=hA b (by rw[q];simp);subst e';rw[ha]at e;cases e;have d':Data.seq vs.toArray _=Data.dict es ep:=d;cases d'
  have nsK:∀{b:Addr} {m:Str->Option Value},s₁.heap.Ns b m->(hidT s₁.heap H).Ns b m:=fun{b m} ⟨o,es,ep,e,d,r⟩=>⟨o,es,ep,base_of e (noA e d),d,r⟩
  have hKb:K.In (hidT s₁.heap H):=fun b o e=>base_of (KX b o e) (by
   cases q:H b with
   |none=>rfl
   |some u=>
    have e':b=a:=hA b (by rw[q];simp);subst e';rw[hK (by rw[q];simp)]at e;cases e)
  have hM:Mod K mg (hidT s₁.heap H):=⟨hKb,nsK hns,⟨mb,nsK hb,hbb⟩,let⟨mc,h1,h2⟩:=hlim;⟨mc,nsK h1,h2⟩⟩;have e0:Env0 P w K mg (hidT s₁.heap H) callerA [] s₁ H:=⟨rfl,hM,fun b o e=>of_hidT e,Nat.le_of_eq (zq3 _ _),trivial,fun b hb=>absurd (show b∈([]:List Addr)from hb) (by simp),hok,.of_eq hg⟩;refine codeAny_mono ((F _ hKb (nsK hns)).run callerA [] s₁ H ⟨[.ref a],[]⟩ [.ref a] [.ref a] _ _ hr e0 (hbind s₁ (.ref a)) (.cons rfl .nil) (hsp H hO hS)) fun r s' h=>?_
  cases r with
  |error e=>exact(hCX H e s' h).elim
  |ok fl=>
   cases fl with
   |next=>exact False.elim h
   |brk=>exact False.elim h
   |cont=>exact False.elim h
   |ret u=>
    obtain⟨v,H',os,bare,un,hok',r',q⟩:=h;have q':v= .bl true:=q;subst q';obtain rfl:u=Value.bool true:=r';refine⟨rfl,OldK.of_keep fun b o e=>?_,os,bare⟩;cases q:H b with
    |none=>exact un.keep b o e q (by intro z;exact absurd (show b∈([]:List Addr)from z) (by simp)) (by simp)
    |some u=>
     rcases hO b with z|⟨ob,xs,z⟩
     ·rw[q]at z;cases z
     ·have z2:=un.frzs b ob _ z;obtain⟨e1,_⟩:=hok b _ z;obtain⟨e2,_⟩:=hok' b _ z2;rw[e]at e1;cases e1;exact e2
 cases hk:K.lookup a with
 |some o=>
  have e:=KX a o hk;rw[ha]at e;cases e;refine core (fun _=>none) (fun _=> .inl rfl) (.inr ⟨_,vs.toArray,_,hk,rfl,rfl,rfl,by rw[qaJ,lenV];exact hl,by simpa using rv⟩) (fun b u z=>by have z':(none:Option HO)=some u:=z;cases z') (fun b z=>absurd rfl z) fun z=>absurd rfl z
 |none=>
  refine core (fun b=>if b=a then some (.frz {cls:= .type "list",data:= .seq vs.toArray} (.lst (ns.map V.int)))else none) (fun b=>?_) (.inl (.inr ⟨{cls:= .type "list",data:= .seq vs.toArray},if_pos rfl⟩)) (fun b u z=>?_) (fun b z=>?_) fun _=>hk
  ·by_cases hb:b=a
   ·exact .inr ⟨_,_,if_pos hb⟩
   ·exact .inl (if_neg hb)
  ·by_cases hb:b=a
   ·have z':=(if_pos hb).symm.trans z;cases z';subst hb;exact⟨ha,by rw[qaX];exact hl,vs,_,rv,ha⟩
   ·have z':=(if_neg hb).symm.trans z;cases z'
  ·by_cases hb:b=a
   ·exact hb
   ·exact absurd (if_neg hb) z
theorem walk_of {n k:Nat}{K:Params->W.Frag}{sp:World->Sp}
  (hn:l.most=some n) (hn2:n<=sizeLine) (hdf:d.params.defaults=[]) (hr:Room k callerA)
  (hY:∀(w:World) (h:Heap),YP w h->(K w.params).In h)
  (F : ∀ (w : World) (mg : Str -> Option Value) (fa : Addr) (h : Heap), (K w.params).In h -> h.Ns mainGlobals mg -> mg d.name = some (.ref fa) ->
   ∃fd:FuncData,(∀(s:Shared) (u:Value),BindsTo s fd ⟨[u],[]⟩ [(x,u)])/\
    ∀base:Heap,(K w.params).In base->base.Ns mainGlobals mg->FnOk l.prog w (K w.params) mg base (CX w) k fa fd [x] (sp w))
  (hsp:∀(w:World) (H:Hp) (a:Addr) (ns:List Int),ns.length<=n->Only H->SqL (K w.params) H a (ns.map V.int)->sp w [.ref a] H (fun v _=>v= .bl true) fun _ _ _=>False)
  (hCX:∀(w:World) (H:Hp) (s:Shared) (e:Value) (s':Shared),CX w [] H s (fun _ _ _=>False) e s'->False):
  W.WalkO q loose XP YP l.row.toRowW d [] (fun f vs=>PySem.call f vs):=by
 refine Att.attach_call hn hdf fun w s₀ s₁ mg mb fa o pm cd doc a vs ns G Y ho hd hcd hmg hobj hints hlen hg=>?_
 have KX:=hY w _ Y;obtain⟨fd,hb,hF⟩:=F w mg fa _ KX G.T.g hmg;exact law_call KX G.T.g G.T.b G.T.builtins G.T.nolimit hg hobj hints (qai hlen hn2) hr hF hb (fun H hO hS=>hsp w H a ns hlen hO hS) fun H e s'=>hCX w H s₁ e s'
noncomputable def zgP (s:Stmt):Arguments:=match s with
 | .FunctionDef _ a _ _ _ _ _ _ _ _=>a
 |_=>{posonlyargs:=[],args:=[],vararg:=none,kwonlyargs:=[],kw_defaults:=[],kwarg:=none,defaults:=[]}
noncomputable def zde (s:Stmt):List Stmt:=match s with
 | .FunctionDef _ _ b _ _ _ _ _ _ _=>b
 |_=>[]
noncomputable def zaT (s:Stmt):Scope:=match s with
 | .FunctionDef _ _ _ _ _ _ sc _ _ _=>sc
 |_=>{kind:= .function,names:=[],isGenerator:=false,isCoroutine:=false}
noncomputable abbrev CX0:CXT:=fun _ _ _ _ _ _=>False
noncomputable abbrev E0:XK:=fun _ _ _=>False
theorem pass0:zrM CX0 X E0:=fun _ _ _ _ _ _ _ h=>h.elim
structure Fun (K:W.Frag) (x qual:Str) (st:Stmt) (f:Addr) (fd:FuncData):Prop where
 ex:∃(oc:Value) (od:Option Addr) (kV doc pm:Value) (an:Option Addr) (cdv ct:Value) (osl:Array (Option Value)),
  fd=W.fnOf x qual (zgP st) (zde st) (zaT st) .none kV doc pm an cdv ct/\K.lookup f=some ⟨oc,od,.func fd,osl⟩/\W.codeIn K cdv qual=true
 kp:W.keepIn K (.ref f)=true
section
variable {P:Program} {w:World} {K:W.Frag} {mg:Str->Option Value} {base:Heap}
theorem Fun.ok {st:Stmt}{f:Addr}{N ps:List Str}(F:Fun K x qual st f fd)(S:FnScope N ps (zaT st))(len:∀vs H Q E,sp vs H Q E->vs.length=ps.length)
  (hbody : ∀ (cdv : Value) (A : Around) (outer : List Env) (s : Shared) (H : Hp) (vs : List V) (Q : VK) (E : XK), Room k (A.deeper (envOfC qual (zaT st) s.heap.objs.size f cdv)) -> sp vs H Q E ->
   ∃t,PSs (cxOf CX0 P w K mg base N qual (zaT st) f cdv A outer s H E).nox (zde st) t/\t {nx:=fun _ H'=>Q .non H',rt:=Q} (start N vs) H):FnOk P w K mg base CX0 (k+1) f fd ps sp:=by
 obtain⟨oc,od,kV,doc,pm,an,cdv,ct,osl,rfl,lk,hcd⟩:=F.ex;refine fn_of lk hcd S len fun A outer s H vs Q E hr hsp=>?_
 obtain⟨t,h,q⟩:=hbody cdv A outer s H vs Q E hr hsp;exact⟨t,h.nox,q⟩
theorem Fun.binds {st:Stmt}{f:Addr}(F:Fun K x qual st f fd)
  (h:∀(kV doc pm:Value) (an:Option Addr) (cdv ct:Value) (us:List Value),us.length=ps.length->bindArgs (W.fnOf x qual (zgP st) (zde st) (zaT st) .none kV doc pm an cdv ct) ⟨us,[]⟩=pure (ps.zip us)):Binds K fd ps []:=by
 obtain⟨oc,od,kV,doc,pm,an,cdv,ct,osl,rfl,lk,hcd⟩:=F.ex;exact .all (h kV doc pm an cdv ct)
theorem fun_mk {st:Stmt}{f:Addr}{od an:Option Addr}{kV doc pm cdv ct:Value}(l:K.lookup f=some ⟨oc,od,.func (W.fnOf x qual (zgP st) (zde st) (zaT st) .none kV doc pm an cdv ct),osl⟩)
  (c:W.codeIn K cdv qual=true) (k:W.keepIn K (.ref f)=true):Fun K x qual st f (W.fnOf x qual (zgP st) (zde st) (zaT st) .none kV doc pm an cdv ct):=⟨⟨oc,od,kV,doc,pm,an,cdv,ct,osl,rfl,l,c⟩,k⟩
end
noncomputable def Same (H H':Hp):Prop:=∀b o,H b=some o->H' b=some o
theorem Same.seq {H H':Hp}{xs:List V}(e:Same H H')(h:SqL K H a xs):SqL K H' a xs:=by
 rcases h with(h|⟨o,h⟩)|h
 ·exact .inl (.inl (e _ _ h))
 ·exact .inl (.inr ⟨o,e _ _ h⟩)
 ·exact .inr h
section
variable {κ:Type} [DecidableEq κ]
noncomputable def valV (kvs:List (κ×V))(k:κ):Option V:=(kvs.find? fun kv=>decide (kv.1=k)).map (·.2)
noncomputable def putK (kvs:List (κ×V))(k:κ)(v:V):List (κ×V):=
 if(kvs.any fun kv=>decide (kv.1=k))=true then kvs.map (fun kv=>if kv.1=k then(kv.1,v)else kv)else kvs++[(k,v)]
theorem zmO {p:κ×V}{r:List (κ×V)}{k:κ}(e:p.1=k):valV (p::r) k=some p.2:=by simp[valV,qbq,e]
theorem zki {p:κ×V}{r:List (κ×V)}{k:κ}(e:¬p.1=k):valV (p::r) k=valV r k:=by simp[valV,qbq,e]
theorem zpX (k:κ):∀kvs:List (κ×V),(kvs.any fun kv=>decide (kv.1=k))=(valV kvs k).isSome
 |[]=>rfl
 |p::r=>by
  rw[List.any_cons]
  by_cases e:p.1=k
  ·simp only[zmO e,qbp e,Bool.true_or,Option.isSome_some]
  ·rw[zki e,qaa e,Bool.false_or];exact zpX k r
theorem zoz (kvs:List (κ×V))(k:κ)(v:V):(putK kvs k v).length<=kvs.length+1:=by
 unfold putK
 split
 ·rw[qaX];lia
 ·rw[qaW,qbr,qbs];lia
theorem RelO.isSome_eq {u:Option Value}(r:RelO o u):o.isSome=u.isSome:=by
 cases o with
 |none=>cases u with
  |none=>rfl
  |some _=>exact(show False from r).elim
 |some _=>cases u with
  |none=>exact(show False from r).elim
  |some _=>rfl
end
theorem kV_is {P:Program}{k:Key}(r:RelV (kV k) u):(zcK P w).is k u=true:=by
 cases k with
 |inl i=>obtain⟨t,e⟩:=(show ∃t,u=Value.int i t from r);subst e;exact zoL P w i t
 |inr x=>obtain⟨t,e⟩:=(show ∃t,u=Value.str x t from r);subst e;exact zoE P w x t
theorem znB {P:Program}:∀{ks:List Key} {us:List Value},Vals (ks.map kV) us->ItemsAre (zcK P w) ks us
 |[],_,r=>by rw[qbb]at r;cases r;exact .nil
 |k::ks,_,r=>by
  rw[qbc]at r;cases r with
  |cons h t=>exact .cons (kV_is h) (znB t)
noncomputable abbrev KT (H:Hp):List (List Key×V)->List (List Key×Addr×Value)->Prop:=Paired fun p q=>p.1=q.1/\H q.2.1=some (.tup (p.1.map kV))/\RelV p.2 q.2.2
theorem KT.val (r:KT H kvs xs)(k:List Key):RelO (valV kvs k) ((atKey xs k).map (·.2)):=by
 induction r with
 |nil=>exact True.intro
 | @cons p q ps qs h t ih=>
  obtain⟨h1,_,h2⟩:=h
  by_cases e:p.1=k
  ·have e':q.1=k:=h1.symm.trans e;have b:atKey (q::qs) k=some q.2:=by simp[atKey,qbq,e']
   rw[zmO e,b];exact h2
  ·have e':¬q.1=k:=fun z=>e (h1.trans z)
   have b:atKey (q::qs) k=atKey qs k:=by simp[atKey,qbq,e']
   rw[zki e,b];exact ih
theorem KT.repl (r:KT H kvs xs)(k:List Key)(ry:RelV y u):
  KT H (kvs.map fun kv=>if kv.1=k then(kv.1,y)else kv) (xs.map (putAt k u)):=by
 induction r with
 |nil=>exact .nil
 | @cons p q ps qs h t ih=>
  rw[qbc,qbc];refine .cons ?_ ih;obtain⟨h1,h2,h3⟩:=h;unfold putAt
  by_cases e:p.1=k
  ·rw[if_pos e,if_pos (h1.symm.trans e)];exact⟨h1,h2,ry⟩
  ·rw[if_neg e,if_neg (fun z=>e (h1.trans z))];exact⟨h1,h2,h3⟩
theorem KT.put (r:KT H kvs xs)(k:List Key)(hb:H b=some (.tup (k.map kV)))(ry:RelV y u):
  KT H (putK kvs k y) (storedH xs k b u):=by
 have e:(kvs.any fun kv=>decide (kv.1=k))=(atKey xs k).isSome:=by
  rw[zpX,(r.val k).isSome_eq,Option.isSome_map]
 unfold putK storedH;rw[e]
 by_cases q:(atKey xs k).isSome=true
 ·rw[if_pos q,if_pos q];exact r.repl k ry
 ·rw[if_neg q,if_neg q];exact Paired.snoc r ⟨rfl,hb,ry⟩
section
variable {P:Program} {w:World} {H:Hp} {h:Heap} {a:Addr}
theorem zmX {ks:List Key}(ok:HOk P w H h)(e:H a=some (.tup (ks.map kV))):(tupleKind (zcK P w)).is h ks a:=by
 obtain⟨_,its,r,o,h1,h2,n,h3⟩:=(show ObjOk P w H h a (.tup (ks.map kV))from ok a _ e);exact⟨o,its.toArray,n,h1,h2,h3,by simpa using znB r⟩
end
section
variable {X:Cx} {pins:List (Addr×Obj)} {σ:St} {H:Hp} {s:Shared} {a:Addr} {y v:V} {u r:Value} {o:Option V} {A:Around} {E:Value->Shared->Prop}
theorem Inv.big (I:Inv X pins σ H s):sysModules<s.heap.objs.size:=by
 have h:mainGlobals<s.heap.objs.size:=(I.mod.glob.keeps I.bk).lt;exact Nat.lt_trans (by decide) h
theorem zq5 {t':Nat}{ob:HO}(I:Inv X pins σ H s)(mu:Mut (H a))(hs:Heap.SameBut a s.heap h')(he:∃q,h'.get? a=some q)(new:ObjOk X.prog X.w (upd H a ob) h' a ob):
  Inv X pins σ (upd H a ob) {s with heap:=h',toks:=t'}:=
 I.write (x:=a) (e:=a) mu (.inl rfl) (fun b q hb z=>(hs.2 b hb).trans z) he new
end
noncomputable def NoSl (i:Expr):Prop:=∀ov iv,subscripted i false ov iv=operate [ov,iv] (getItem ov iv)
theorem subD_of {env:Env}{value slice:Expr}{T id:String}
  (hl:typeLookup (.type T) "__getitem__"=pure (some (.builtin id))) (hs:NoSl slice)
  (h:wpAny (model prog w) A (eval value env) (fun o s₁=>wpAny (model prog w) A (eval slice env) (fun i s₂=>s₂.TypeIs o T/\wpAny (model prog w) A (getItem o i) Q E s₂) E s₁) E s):
  wpAny (model prog w) A (eval (.Subscript value slice pos) env) Q E s:=by
 refine Subscript_ (qar h (fun o s₁ h₁=>qar h₁ (fun i s₂ h₂=>?_) fun _ _ x=>x) fun _ _ x=>x);obtain⟨hT,h₂⟩:=h₂;unfold subscriptTail;refine qav ?_;rw[getitemInPython_of_ne hT.not_modules];refine qav (wpAny_specialOf hT hl ?_);have fin:wpAny (model prog w) A (subscripted slice false o i) (fun r s₃=>wpAny (model prog w) A (letTemporaryGo value o r>>=fun _=>pure r) Q E s₃) E s₂:=by
  rw[hs o i];exact wpAny_operating (qar h₂ (fun r s₃ h₃=>qav (wpAny_letTemporaryGo (qaz h₃))) fun _ _ x=>x)
 first
  |exact qaz (qav fin)
  |exact qav (qaz (qav fin))
  |exact qav fin
noncomputable def zrj:List (TE×TE)->St->Hp->(List (V×V)->Hp->Prop)->Prop
 |[],_,H,Q=>Q [] H
 |(tk,tv)::r,σ,H,Q=>tk σ H fun x H1=>tv σ H1 fun y H2=>zrj r σ H2 fun ps H3=>Q ((x,y)::ps) H3
noncomputable abbrev VV:List (V×V)->List (Value×Value)->Prop:=Paired fun p q=>RelV p.1 q.1/\RelV p.2 q.2
noncomputable def PPs (X:Cx)(pos:Pos)(keys:List (Option Expr))(values:List Expr)(trs:List (TE×TE)):Prop:=
 ∀(pins:List (Addr×Obj)) (s:Shared) (σ:St) (H:Hp) (Q:List (V×V)->Hp->Prop),Inv X pins σ H s->zrj trs σ H Q->
  wpAny (model X.prog X.w) X.A (evalPairs (pairTrees keys values X.env pos)) (fun vs s'=>∃ps H',Inv X pins σ H' s'/\VV ps vs/\Q ps H') X.xe s
theorem pps_nil:PPs X pos [] [] []:=fun pins s σ H Q I h=>pairTrees_nil_walk ⟨[],H,I,.nil,h⟩
theorem pps_cons {k v:Expr}{vs:List Expr}{tk tv:TE}(hk:PE X k tk)(hv:PE X v tv)(hr:PPs X pos ks vs trs):
  PPs X pos (some k::ks) (v::vs) ((tk,tv)::trs):=fun pins s σ H Q I h=>
 pairTrees_cons_walk (thn (hk pins s σ H _ I h) fun u s1 ⟨x,H1,I1,rx,q1⟩=>thn (hv pins s1 σ H1 _ I1 q1) fun w2 s2 ⟨y,H2,I2,ry,q2⟩=>
  thn (hr pins s2 σ H2 _ I2 q2) fun ws s3 ⟨ps,H3,I3,rel,q3⟩=>⟨(x,y)::ps,H3,I3,.cons ⟨rx,ry⟩ rel,q3⟩)
end L2
namespace M
open L2 PySem
variable {C:Prop} {c:Ch} {G G' H:Hp} {a p l:Addr} {o:Obj} {xs ys:List V} {ks:List (List Int)} {A A':List Addr} {K:W.Frag} {x v:V} {d:D} {ds es:List D} {i:Nat} {ls:List (List D)} {dk:Option (List Int×List D)} {t:T} {ov:Option (Option V)} {s:Sl} {X:Cx} {e:Expr} {m:MO} {ρ ρ':R} {b:Bool} {ma:ME} {op:Operator} {r:V->Hp->VK->Prop} {g:D->Option D}
theorem cBel {α β:Type}{o:Option α}{f:α->Option β}{b:β}(h:o.bind f=some b)(k:∀a,o=some a->f a=some b->C):C:=by
 cases o with
 |none=>cases h
 |some a=>exact k a rfl h
theorem zaJ {α α' β:Type}{o:Option (α×α')}{f:α×α'->Option β}{b:β}(h:o.bind f=some b)(k:∀x y,o=some (x,y)->f (x,y)=some b->C):C:=cBel h fun a=>k a.1 a.2
theorem cMel {α β:Type}{o:Option α}{f:α->β}{b:β}(h:o.map f=some b)(k:∀a,o=some a->f a=b->C):C:=by
 cases o with
 |none=>cases h
 |some a=>exact k a rfl (Option.some.inj h)
theorem zjy {α α' β:Type}{o:Option (α×α')}{f:α×α'->β}{b:β}(h:o.map f=some b)(k:∀x y,o=some (x,y)->f (x,y)=b->C):C:=cMel h fun a=>k a.1 a.2
theorem cNN {α:Type}{a:α}(h:none=some a):C:=by cases h
theorem cSp {α β:Type}{a c:α}{b d:β}(h:some (a,b)=some (c,d)):a=c/\b=d:=by cases h;exact⟨rfl,rfl⟩
theorem cIte {α:Type}{c:Prop}[Decidable c]{a:Option α}{b:α}(h:(if c then a else none)=some b)(k:c->a=some b->C):C:=by
 by_cases z:c
 ·rw[if_pos z]at h;exact k z h
 ·rw[if_neg z]at h;exact cNN h
inductive D where
 |non|bl (b:Bool)|int (i:Int)|str (x:Str)|lst (ds:List D)|tup (ds:List D)|scr (ns:List Int)|exc (c:Str)|dic (ks:List Int) (ds:List D)|dit (ks:List (List Int)) (ds:List D)|obj (c:Str) (ns:List Str) (ls:List D) (ks:List Int) (ds:List D)
noncomputable def ExcIs (a C:Addr)(h:Heap):Prop:=∃o,h.get? a=some o/\o.cls= .ref C
noncomputable def kI (n:Int):Key:=Sum.inl n
noncomputable def kn (a:Addr)(o:Obj):HO:= .ext (fun h=>h.get? a=some o)
noncomputable def hI:Key->Int
 | .inl k=>hashInt k
 | .inr _=>0
noncomputable def DtN (o:Obj)(xs:List (List Key×Addr×Value)):Prop:=o.ExactDict/\(∃es ep,o.data= .dict es ep/\es.toList=xs.map fun x=>⟨reduceHash (Builtin.Tuple.tupleHashOf (x.1.map hI)),.ref x.2.1,x.2.2⟩)/\(xs.map (·.1)).Nodup
structure DtI (G:Hp) (a:Addr) (o:Obj) (xs:List (List Key×Addr×Value)) (ks:List (List Int)) (ys:List (List Key×V)):Prop where
 sys:(a==sysModules)=false
 dn:DtN o xs
 len:ys.length<=sizeLine
 key:ys.map (·.1)=ks.map (·.map kI)
 kt:Paired (fun(p:List Key×V) (q:List Key×Addr×Value)=>p.1=q.1/\G q.2.1=some (.tup (p.1.map kV))/\RelV p.2 q.2.2) ys xs
structure DkN (a:Addr) (o:Obj) (zs:List (Int×Tok×Value)) (ks:List Int) (ys:List (Key×V)):Prop where
 sys:(a==sysModules)=false
 ex:o.ExactDict
 dat:∃es ep,o.data= .dict es ep/\es.toList=zs.map fun z=>⟨hashInt z.1,.int z.1 z.2.1,z.2.2⟩
 nd:ks.Nodup
 len:ys.length<=sizeLine
 zk:zs.map (·.1)=ks
 key:ys.map (·.1)=ks.map kI
 kv:Paired (fun(p:Key×V) (q:Int×Tok×Value)=>p.1=kI q.1/\RelV p.2 q.2.2) ys zs
mutual
noncomputable def RepD (K:W.Frag)(G:Hp)(v:V):D->Prop
 | .non=>v= .non
 | .bl b=>v= .bl b
 | .int i=>v= .int i
 | .str x=>v= .str x
 | .lst ds=>∃a xs,v= .ref a/\G a=some (.lst xs)/\RepL K G xs ds
 | .tup ds=>∃a xs,v= .ref a/\G a=some (.tup xs)/\RepL K G xs ds
 | .scr ns=>∃a,v= .ref a/\SqL K G a (ns.map V.int)
 | .exc c=>∃a C,v= .ref a/\W.nsIn K mainGlobals c=some (some (.ref C))/\G a=some (.ext (ExcIs a C))
 | .dic ks ds=>∃a ys,v= .ref a/\Rd G a (.dK ys)/\ys.map (·.1)=ks.map kI/\RepL K G (ys.map (·.2)) ds
 | .dit ks ds=>∃a ys o xs,v= .ref a/\G a=some (kn a o)/\DtI G a o xs ks ys/\RepL K G (ys.map (·.2)) ds
 | .obj c ns ls ks ds=>∃a C dx vs ws p o zs ys,v= .ref a/\W.nsIn K mainGlobals c=some (some (.ref C))/\G a=some (.ins C dx vs)/\vs.map (·.1)=ns/\vs.map (·.2)=ws++[.ref p]/\RepL K G ws ls/\G p=some (kn p o)/\DkN p o zs ks ys/\RepL K G (ys.map (·.2)) ds
noncomputable def RepL (K:W.Frag)(G:Hp)(xs:List V):List D->Prop
 |[]=>xs=[]
 |d::ds=>∃x ys,xs=x::ys/\RepD K G x d/\RepL K G ys ds
end
noncomputable def Fz (G H:Hp):Prop:=∀a o,G a=some o->H a=some o
theorem DtI.mono {xs:List (List Key×Addr×Value)}{ys:List (List Key×V)}(d:DtI G a o xs ks ys)(h:Fz G G'):DtI G' a o xs ks ys:={d with kt:=Paired.mapP d.kt fun _ _ z=>⟨z.1,h _ _ z.2.1,z.2.2⟩}
theorem Fz.refl (G:Hp):Fz G G:=fun _ _ h=>h
theorem Fz.trans {A B C:Hp}(h:Fz A B)(k:Fz B C):Fz A C:=fun a o e=>k a o (h a o e)
theorem Fz.free (h:Fz G H)(e:H p=none):G p=none:=by
 cases q:G p with
 |none=>rfl
 |some o=>rw[h p o q]at e;cases e
theorem Fz.new (e:G p=none)(o:HO):Fz G (upd G p o):=fun a u q=>by
 rw[zaw (za3 q e)];exact q
theorem Fz.upd2 (h:Fz G H)(p:Addr)(o:HO):Fz (upd G p o) (upd H p o):=fun a u q=>by
 by_cases e:a=p
 ·subst e;rw[zaD]at q ⊢;exact q
 ·rw[zaw e]at q ⊢;exact h a u q
theorem Fz.right (h:Fz G H)(e:G p=none)(o:HO):Fz G (upd H p o):=fun a u q=>by
 rw[zaw (za3 q e)];exact h a u q
theorem Fz.sql {G H:Hp}(h:Fz G H)(q:SqL K G a xs):SqL K H a xs:=Same.seq (H:=G) (H':=H) h q
mutual
theorem RepD.mono (h:Fz G G'):∀{v:V} {d:D},RepD K G v d->RepD K G' v d:=by
 intro v d r;cases d with
 |lst _=>exact qbt (fun a=>qbt fun xs=>And.imp id (And.imp (h a _) (RepL.mono h))) r
 |tup _=>exact qbt (fun a=>qbt fun xs=>And.imp id (And.imp (h a _) (RepL.mono h))) r
 |scr _=>exact qbt (fun a=>And.imp id h.sql) r
 |exc _=>exact qbt (fun a=>qbt fun C=>And.imp id (And.imp id (h a _))) r
 |dic _ _=>exact qbt (fun a=>qbt fun ys=>And.imp id (And.imp (Or.imp (h a _) (qbt fun o=>h a _)) (And.imp id (RepL.mono h)))) r
 |dit _ _=>exact qbt (fun a=>qbt fun ys=>qbt fun o=>qbt fun xs=>And.imp id (And.imp (h a _) (And.imp (fun f=>f.mono h) (RepL.mono h)))) r
 |obj _ _ _ _ _=>exact qbt (fun a=>qbt fun C=>qbt fun dx=>qbt fun vs=>qbt fun ws=>qbt fun p=>qbt fun o=>qbt fun zs=>qbt fun ys=>And.imp id (And.imp id (And.imp (h a _) (And.imp id (And.imp id (And.imp (RepL.mono h) (And.imp (h p _) (And.imp id (RepL.mono h))))))))) r
 |_=>exact r
theorem RepL.mono (h:Fz G G'):∀{xs:List V} {ds:List D},RepL K G xs ds->RepL K G' xs ds:=by
 intro xs ds r;cases ds with
 |nil=>exact r
 |cons _ _=>exact qbt (fun x=>qbt fun ys=>And.imp id (And.imp (RepD.mono h) (RepL.mono h))) r
end
section
variable {K:W.Frag} {G:Hp}
theorem RepL.nil:RepL K G [] []:=rfl
theorem RepL.cons {x:V}{d:D}(h:RepD K G x d)(t:RepL K G xs ds):RepL K G (x::xs) (d::ds):=⟨x,xs,rfl,h,t⟩
theorem RepL.length:∀{xs:List V} {ds:List D},RepL K G xs ds->xs.length=ds.length
 |_,[],e=>by cases e;rfl
 |_,_::_,⟨x,ys,e,_,r⟩=>by subst e;rw[qbr,qbr,RepL.length r]
theorem RepL.get:∀{xs:List V} {ds:List D} {i:Nat} {d:D},RepL K G xs ds->ds[i]? =some d->∃x,xs[i]? =some x/\RepD K G x d
 |_,[],_,_,_,h=>by simp at h
 |_,_::_,0,_,⟨x,ys,e,q,r⟩,h=>by subst e;simp at h;subst h;exact⟨x,rfl,q⟩
 |_,_::_,i+1,_,⟨x,ys,e,q,r⟩,h=>by
  subst e;obtain⟨y,h1,h2⟩:=RepL.get (i:=i) r (by simpa using h);exact⟨y,by simpa using h1,h2⟩
theorem RepL.append:∀{xs ys:List V} {ds es:List D},RepL K G xs ds->RepL K G ys es->RepL K G (xs++ys) (ds++es)
 |_,_,[],_,e,r=>by cases e;exact r
 |_,_,_::_,_,⟨x,zs,e,q,r⟩,s=>by subst e;exact⟨x,zs++_,rfl,q,RepL.append r s⟩
theorem RepL.snoc (h:RepL K G xs ds)(q:RepD K G x d):RepL K G (xs++[x]) (ds++[d]):=h.append (.cons q .nil)
theorem RepL.take:∀{xs:List V} {ds:List D} (n:Nat),RepL K G xs ds->RepL K G (xs.take n) (ds.take n)
 |_,_,0,_=>by simp;exact .nil
 |_,[],n+1,e=>by cases e;exact .nil
 |_,_::_,n+1,⟨x,zs,e,q,r⟩=>by subst e;exact⟨x,zs.take n,rfl,q,RepL.take n r⟩
theorem RepL.drop:∀{xs:List V} {ds:List D} (n:Nat),RepL K G xs ds->RepL K G (xs.drop n) (ds.drop n)
 |_,_,0,r=>by simpa using r
 |_,[],n+1,e=>by cases e;exact .nil
 |_,_::_,n+1,⟨x,zs,e,q,r⟩=>by subst e;exact RepL.drop n r
theorem RepL.set:∀{xs:List V} {ds:List D} (i:Nat) {x:V} {d:D},RepL K G xs ds->RepD K G x d->RepL K G (xs.set i x) (ds.set i d)
 |_,[],_,_,_,e,_=>by cases e;exact .nil
 |_,_::_,0,_,_,⟨x,zs,e,q,r⟩,h=>by subst e;exact⟨_,zs,rfl,h,r⟩
 |_,_::_,i+1,_,_,⟨x,zs,e,q,r⟩,h=>by subst e;exact⟨x,_,rfl,q,RepL.set i r h⟩
theorem RepL.rep (h:RepL K G xs ds):∀k:Nat,RepL K G (List.replicate k xs).flatten (List.replicate k ds).flatten
 |0=> .nil
 |k+1=>by rw[qbf,qbf,qbg,qbg];exact h.append (RepL.rep h k)
theorem RepL.ints:∀(ns:List Int),RepL K G (ns.map V.int) (ns.map D.int)
 |[]=> .nil
 |n::ns=>⟨.int n,ns.map V.int,rfl,rfl,RepL.ints ns⟩
theorem RepL.ints_eq:∀{ns:List Int} {xs:List V},RepL K G xs (ns.map D.int)->xs=ns.map V.int
 |[],_,e=>e
 |n::ns,_,⟨x,ys,e,q,r⟩=>by subst e;cases(show x=V.int n from q);rw[RepL.ints_eq r];rfl
theorem RepL.at {i:Int}(h:RepL K G xs ds)(e:atI ds i=some d):∃x,atI xs i=some x/\RepD K G x d:=by
 unfold atI at e ⊢;rw[h.length];cases q:ixN ds.length i with
 |none=>rw[q]at e;exact cNN e
 |some j=>rw[q]at e;exact h.get e
end
inductive Ch where
 |d (x:D)|l (xs:List D)|t (xss:List (List D))
inductive T where
 |lst (cs:List Ch)|tup (cs:List Ch)|ins (c:Str) (fs:List (Str×Ch))|dic (ks:List Int) (ds:List D)|dit (ks:List (List Int)) (ds:List D)|obj (c:Str) (ns:List Str) (ls:List (List D)) (dk:Option (List Int×List D))
inductive Sl where
 |emp|val (d:D)|own (ds:List D)|par (ds:List D)|two (ds es:List D)|tre (t:T)|ptr (t:T)
noncomputable abbrev R:=List Sl
noncomputable def Sl.items:Sl->Option (List D)
 | .own ds=>some ds
 | .par ds=>some ds
 |_=>none
structure Bs where
 G:Hp
 H:Hp
 O:List (Nat×Addr)
noncomputable def RepTb (K:W.Frag)(G H:Hp):List V->List (List D)->List Addr->Prop
 |[],[],A=>A=[]
 |x::xs,ds::dss,A=>∃r ys A2,x= .ref r/\H r=some (.lst ys)/\RepL K G ys ds/\RepTb K G H xs dss A2/\A=r::A2
 |_,_,_=>False
noncomputable def RepC (K:W.Frag)(G H:Hp)(x:V):Ch->List Addr->Prop
 | .d y,A=>RepD K G x y/\A=[]
 | .l ds,A=>∃l xs,x= .ref l/\H l=some (.lst xs)/\RepL K G xs ds/\A=[l]
 | .t xss,A=>∃p xs A',x= .ref p/\H p=some (.lst xs)/\RepTb K G H xs xss A'/\A=p::A'
noncomputable def RepCs (K:W.Frag)(G H:Hp):List V->List Ch->List Addr->Prop
 |[],[],A=>A=[]
 |x::xs,c::cs,A=>∃A1 A2,RepC K G H x c A1/\RepCs K G H xs cs A2/\A=A1++A2
 |_,_,_=>False
noncomputable def RepO (K:W.Frag)(G H:Hp)(xs:List V)(ls:List (List D)):Option (List Int×List D)->List Addr->Prop
 |none,A=>RepTb K G H xs ls A
 |some q,A=>∃ws p o zs ys A',xs=ws++[.ref p]/\RepTb K G H ws ls A'/\H p=some (kn p o)/\DkN p o zs q.1 ys/\RepL K G (ys.map (·.2)) q.2/\A=A'++[p]
noncomputable def RepT (K:W.Frag)(G H:Hp)(v:V):T->List Addr->Prop
 | .lst cs,A=>∃p xs A',v= .ref p/\H p=some (.lst xs)/\RepCs K G H xs cs A'/\A=p::A'
 | .tup cs,A=>∃p xs A',v= .ref p/\H p=some (.tup xs)/\RepCs K G H xs cs A'/\A=p::A'
 | .ins c fs,A=>∃p C dx vs A',v= .ref p/\W.nsIn K mainGlobals c=some (some (.ref C))/\H p=some (.ins C dx vs)/\H dx=some (.own p)/\vs.map (·.1)=fs.map (·.1)/\RepCs K G H (vs.map (·.2)) (fs.map (·.2)) A'/\A=p::dx::A'
 | .dic ks ds,A=>∃p ys,v= .ref p/\H p=some (.dK ys)/\ys.map (·.1)=ks.map kI/\RepL K G (ys.map (·.2)) ds/\A=[p]
 | .dit ks ds,A=>∃p ys o xs,v= .ref p/\H p=some (kn p o)/\DtI G p o xs ks ys/\RepL K G (ys.map (·.2)) ds/\A=[p]
 | .obj c ns ls dk,A=>∃p C dx vs A',v= .ref p/\W.nsIn K mainGlobals c=some (some (.ref C))/\H p=some (.ins C dx vs)/\H dx=some (.own p)/\vs.map (·.1)=ns/\RepO K G H (vs.map (·.2)) ls dk A'/\A=p::dx::A'
section
variable {K:W.Frag} {G G' H H':Hp}
theorem RepTb.move:∀{xs:List V} {dss:List (List D)} {A:List Addr},RepTb K G H xs dss A->Fz G G'->(∀a∈A,H' a=H a)->RepTb K G' H' xs dss A
 |[],[],_,h,_,_=>h
 |x::xs,ds::dss,A,⟨r,ys,A2,e1,e2,e3,e4,e5⟩,hg,hh=>⟨r,ys,A2,e1,by rw[hh r (by rw[e5];simp)];exact e2,e3.mono hg,e4.move hg fun a m=>hh a (by rw[e5];simp[m]),e5⟩
 |[],_::_,_,h,_,_=>h.elim
 |_::_,[],_,h,_,_=>h.elim
theorem RepTb.det:∀{xs:List V} {dss:List (List D)} {A A':List Addr},RepTb K G H xs dss A->RepTb K G' H' xs dss A'->A=A'
 |[],[],_,_,h,h'=>by rw[show _=[]from h,show _=[]from h']
 |x::xs,ds::dss,_,_,⟨r,ys,A2,e1,_,_,e4,e5⟩,⟨r',ys',A2',e1',_,_,e4',e5'⟩=>by
  rw[e1]at e1';cases e1';rw[e5,e5',e4.det e4']
 |[],_::_,_,_,h,_=>h.elim
 |_::_,[],_,_,h,_=>h.elim
theorem RepTb.here:∀{xs:List V} {dss:List (List D)} {A:List Addr},RepTb K G H xs dss A->∀{a:Addr},a∈A->∃xs,H a=some (.lst xs)
 |[],[],_,h,a,m=>by rw[show _=[]from h]at m;cases m
 |x::xs,ds::dss,_,⟨r,ys,A2,e1,e2,_,e4,e5⟩,a,m=>by
  rw[e5]at m;rcases qam.mp m with rfl|m
  ·exact⟨ys,e2⟩
  ·exact e4.here m
 |[],_::_,_,h,_,_=>h.elim
 |_::_,[],_,h,_,_=>h.elim
theorem RepO.move (h:RepO K G H xs ls dk A)(hg:Fz G G')(hh:∀a∈A,H' a=H a):RepO K G' H' xs ls dk A:=by
 cases dk with
 |none=>exact RepTb.move h hg hh
 |some q=>
  obtain⟨ws,p,o,zs,ys,A',e,r,q1,q2,q3,rfl⟩:=h;exact⟨ws,p,o,zs,ys,A',e,r.move hg fun a m=>hh a (by simp[m]),by rw[hh p (by simp)];exact q1,q2,q3.mono hg,rfl⟩
theorem RepO.det (h:RepO K G H xs ls dk A)(h':RepO K G' H' xs ls dk A'):A=A':=by
 cases dk with
 |none=>exact RepTb.det h h'
 |some q=>
  obtain⟨ws,p,_,_,ys,B,e,r,_,_,_,rfl⟩:=h;obtain⟨ws',p',_,_,ys',B',e',r',_,_,_,rfl⟩:=h';rw[e]at e';obtain⟨rfl,q2⟩:=List.append_inj' e' rfl;cases q2;rw[r.det r']
theorem RepO.here (h:RepO K G H xs ls dk A)(m:a∈A):(∃xs,H a=some (.lst xs))\/∃o,H a=some (kn a o):=by
 cases dk with
 |none=>exact .inl (RepTb.here h m)
 |some q=>
  obtain⟨ws,p,o,zs,ys,B,e,r,q1,_,_,rfl⟩:=h;rcases qan.mp m with m|m
  ·exact .inl (r.here m)
  ·simp at m;subst m;exact .inr ⟨o,q1⟩
theorem RepC.move (h:RepC K G H x c A)(hg:Fz G G')(hh:∀a∈A,H' a=H a):RepC K G' H' x c A:=by
 cases c with
 |d y=>exact⟨h.1.mono hg,h.2⟩
 |l ds=>obtain⟨l,xs,e,q,r,rfl⟩:=h;exact⟨l,xs,e,by rw[hh l (by simp)];exact q,r.mono hg,rfl⟩
 |t xss=>obtain⟨p,xs,A',e,q,r,rfl⟩:=h;exact⟨p,xs,A',e,by rw[hh p (by simp)];exact q,r.move hg fun a m=>hh a (by simp[m]),rfl⟩
theorem RepCs.move:∀{xs:List V} {cs:List Ch} {A:List Addr},RepCs K G H xs cs A->Fz G G'->(∀a∈A,H' a=H a)->RepCs K G' H' xs cs A
 |[],[],_,h,_,_=>h
 |x::xs,c::cs,A,⟨A1,A2,h1,h2,e⟩,hg,hh=>⟨A1,A2,h1.move hg fun a m=>hh a (by rw[e];exact qao _ m),h2.move hg fun a m=>hh a (by rw[e];exact qaH _ m),e⟩
 |[],_::_,_,h,_,_=>h.elim
 |_::_,[],_,h,_,_=>h.elim
theorem RepT.move (h:RepT K G H v t A)(hg:Fz G G')(hh:∀a∈A,H' a=H a):RepT K G' H' v t A:=by
 cases t with
 |lst cs=>obtain⟨p,xs,A',e,q,r,rfl⟩:=h;exact⟨p,xs,A',e,by rw[hh p (by simp)];exact q,r.move hg fun a m=>hh a (by simp[m]),rfl⟩
 |tup cs=>obtain⟨p,xs,A',e,q,r,rfl⟩:=h;exact⟨p,xs,A',e,by rw[hh p (by simp)];exact q,r.move hg fun a m=>hh a (by simp[m]),rfl⟩
 |ins c fs=>obtain⟨p,C,dx,vs,A',e,n,q,q2,f,r,rfl⟩:=h;exact⟨p,C,dx,vs,A',e,n,by rw[hh p (by simp)];exact q,by rw[hh dx (by simp)];exact q2,f,r.move hg fun a m=>hh a (by simp[m]),rfl⟩
 |dic ks ds=>obtain⟨p,ys,e,q,f,r,rfl⟩:=h;exact⟨p,ys,e,by rw[hh p (by simp)];exact q,f,r.mono hg,rfl⟩
 |dit ks ds=>obtain⟨p,ys,o,xs,e,q,f,r,rfl⟩:=h;exact⟨p,ys,o,xs,e,by rw[hh p (by simp)];exact q,f.mono hg,r.mono hg,rfl⟩
 |obj c ns ls dk=>obtain⟨p,C,dx,vs,A',e,n,q,q2,f,r,rfl⟩:=h;exact⟨p,C,dx,vs,A',e,n,by rw[hh p (by simp)];exact q,by rw[hh dx (by simp)];exact q2,f,r.move hg fun a m=>hh a (by simp[m]),rfl⟩
theorem RepC.det (h:RepC K G H x c A)(h':RepC K G' H' x c A')(hh:∀a∈A,H' a=H a):A=A':=by
 cases c with
 |d y=>rw[h.2,h'.2]
 |l ds=>obtain⟨l,xs,e,_,_,rfl⟩:=h;obtain⟨l',xs',e',_,_,rfl⟩:=h';rw[e]at e';cases e';rfl
 |t xss=>
  obtain⟨p,xs,B,e,q,r,rfl⟩:=h;obtain⟨p',xs',B',e',q',r',rfl⟩:=h';rw[e]at e';cases e';rw[hh p (by simp),q]at q';cases q';rw[r.det r']
theorem RepCs.det:∀{xs:List V} {cs:List Ch} {A A':List Addr},RepCs K G H xs cs A->RepCs K G' H' xs cs A'->(∀a∈A,H' a=H a)->A=A'
 |[],[],_,_,h,h',_=>by rw[show _=[]from h,show _=[]from h']
 |x::xs,c::cs,_,_,⟨A1,A2,h1,h2,e⟩,⟨B1,B2,k1,k2,e'⟩,hh=>by rw[e,e',h1.det k1 fun a m=>hh a (by rw[e];exact qao _ m),h2.det k2 fun a m=>hh a (by rw[e];exact qaH _ m)]
 |[],_::_,_,_,h,_,_=>h.elim
 |_::_,[],_,_,h,_,_=>h.elim
theorem RepT.det (h:RepT K G H v t A)(h':RepT K G' H' v t A')(hh:∀a∈A,H' a=H a):A=A':=by
 cases t with
 |lst cs=>
  obtain⟨p,xs,B,e,q,r,rfl⟩:=h;obtain⟨p',xs',B',e',q',r',rfl⟩:=h';rw[e]at e';cases e';rw[hh p (by simp),q]at q';cases q';rw[r.det r' fun a m=>hh a (by simp[m])]
 |tup cs=>
  obtain⟨p,xs,B,e,q,r,rfl⟩:=h;obtain⟨p',xs',B',e',q',r',rfl⟩:=h';rw[e]at e';cases e';rw[hh p (by simp),q]at q';cases q';rw[r.det r' fun a m=>hh a (by simp[m])]
 |ins c fs=>
  obtain⟨p,C,dx,vs,B,e,n,q,q2,f,r,rfl⟩:=h;obtain⟨p',C',dx',vs',B',e',n',q',q2',f',r',rfl⟩:=h';rw[e]at e';cases e';rw[hh p (by simp),q]at q';cases q';rw[r.det r' fun a m=>hh a (by simp[m])]
 |dic ks ds=>obtain⟨p,ys,e,q,f,r,rfl⟩:=h;obtain⟨p',ys',e',q',f',r',rfl⟩:=h';rw[e]at e';cases e';rfl
 |dit ks ds=>obtain⟨p,ys,o,xs,e,q,f,r,rfl⟩:=h;obtain⟨p',ys',o',xs',e',q',f',r',rfl⟩:=h';rw[e]at e';cases e';rfl
 |obj c ns ls dk=>
  obtain⟨p,C,dx,vs,B,e,n,q,q2,f,r,rfl⟩:=h;obtain⟨p',C',dx',vs',B',e',n',q',q2',f',r',rfl⟩:=h';rw[e]at e';cases e';rw[hh p (by simp),q]at q';cases q';rw[r.det r']
theorem RepC.here (h:RepC K G H x c A)(m:a∈A):∃xs,H a=some (.lst xs):=by
 cases c with
 |d y=>rw[h.2]at m;cases m
 |l ds=>obtain⟨l,xs,_,q,_,rfl⟩:=h;simp at m;subst m;exact⟨xs,q⟩
 |t xss=>
  obtain⟨p,xs,A',_,q,r,rfl⟩:=h;rcases qam.mp m with rfl|m
  ·exact⟨xs,q⟩
  ·exact r.here m
theorem RepCs.here:∀{xs:List V} {cs:List Ch} {A:List Addr},RepCs K G H xs cs A->∀{a:Addr},a∈A->∃xs,H a=some (.lst xs)
 |[],[],_,h,a,m=>by rw[show _=[]from h]at m;cases m
 |x::xs,c::cs,_,⟨A1,A2,h1,h2,e⟩,a,m=>by
  rw[e]at m;rcases qan.mp m with m|m
  ·exact h1.here m
  ·exact h2.here m
 |[],_::_,_,h,_,_=>h.elim
 |_::_,[],_,h,_,_=>h.elim
theorem RepT.here (h:RepT K G H v t A)(m:a∈A):H a≠none:=by
 cases t with
 |lst cs=>
  obtain⟨p,xs,B,e,q,r,rfl⟩:=h;rcases qam.mp m with rfl|m
  ·rw[q];simp
  ·obtain⟨ys,z⟩:=r.here m;rw[z];simp
 |tup cs=>
  obtain⟨p,xs,B,e,q,r,rfl⟩:=h;rcases qam.mp m with rfl|m
  ·rw[q];simp
  ·obtain⟨ys,z⟩:=r.here m;rw[z];simp
 |ins c fs=>
  obtain⟨p,C,dx,vs,B,e,n,q,q2,f,r,rfl⟩:=h;rcases qam.mp m with rfl|m
  ·rw[q];simp
  rcases qam.mp m with rfl|m
  ·rw[q2];simp
  ·obtain⟨ys,z⟩:=r.here m;rw[z];simp
 |dic ks ds=>obtain⟨p,ys,e,q,f,r,rfl⟩:=h;simp at m;subst m;rw[q];simp
 |dit ks ds=>obtain⟨p,ys,o,xs,e,q,f,r,rfl⟩:=h;simp at m;subst m;rw[q];simp
 |obj c ns ls dk=>
  obtain⟨p,C,dx,vs,B,e,n,q,q2,f,r,rfl⟩:=h;rcases qam.mp m with rfl|m
  ·rw[q];simp
  rcases qam.mp m with rfl|m
  ·rw[q2];simp
  ·rcases r.here m with⟨ys,z⟩|⟨ys,z⟩<;>(rw[z];simp)
end
noncomputable def T.isObj:T->Bool
 | .obj _ _ _ _=>true
 |_=>false
noncomputable def SlotOk (K:W.Frag)(B:Bs)(G H:Hp)(i:Nat)(ov:Option (Option V)):Sl->Prop
 | .emp=>True
 | .two _ _=>True
 | .val d=>∃v,ov=some (some v)/\RepD K G v d
 | .own ds=>∃l xs,ov=some (some (.ref l))/\G l=none/\H l=some (.lst xs)/\RepL K G xs ds/\B.H l=none
 | .par ds=>∃l xs,ov=some (some (.ref l))/\G l=none/\H l=some (.lst xs)/\RepL K G xs ds/\(i,l)∈B.O
 | .tre t=>∃v A,ov=some (some v)/\RepT K G H v t A/\A.Nodup/\∀a∈A,G a=none/\B.H a=none
 | .ptr t=>∃v A,ov=some (some v)/\RepT K G H v t A/\(A.Nodup/\∃p,v= .ref p/\(i+4096,p)∈B.O/\(t.isObj=true->(i+8192,p)∈B.O))/\∀a∈A,G a=none/\((i,a)∈B.O\/(B.H a=none/\∃p,v= .ref p/\(i+8192,p)∈B.O))
noncomputable def Wr (ρ:R)(i:Nat):Prop:=∃s ds,ρ[i]? =some s/\s.items=some ds
noncomputable def OwS (K:W.Frag)(G H:Hp)(ov:Option (Option V))(a:Addr):Sl->Prop
 | .own _=>ov=some (some (.ref a))
 | .par _=>ov=some (some (.ref a))
 | .tre t=>∃v A,ov=some (some v)/\RepT K G H v t A/\a∈A
 | .ptr t=>∃v A,ov=some (some v)/\RepT K G H v t A/\a∈A
 |_=>False
noncomputable def Nw (K:W.Frag)(G H:Hp)(σ:St)(ρ:R)(a:Addr):Prop:=∀(i:Nat) (s:Sl),ρ[i]? =some s->¬OwS K G H σ[i]? a s
structure SI (K:W.Frag) (B:Bs) (G H:Hp) (σ:St) (ρ:R):Prop where
 fz:Fz G H
 g0:Fz B.G G
 new:∀b o,G b=some o->B.G b≠none\/B.H b=none
 keep:∀b o,B.H b=some o->(∀i,(i,b)∉B.O)->H b=some o
 there:∀b,H b=none->B.H b=none
 len:σ.length=ρ.length
 ob:∀i b,(i,b)∈B.O->B.H b≠none
 slot:∀i s,ρ[i]? =some s->SlotOk K B G H i σ[i]? s
 dis:∀(i j:Nat) (s t:Sl) (a:Addr),i≠j->ρ[i]? =some s->ρ[j]? =some t->OwS K G H σ[i]? a s->¬OwS K G H σ[j]? a t
section
variable {K:W.Frag} {B:Bs} {G G' H H':Hp} {σ:St} {ρ:R}
theorem SlotOk.own (h:SlotOk K B G H i ov s)(w:OwS K G H ov a s):G a=none/\H a≠none/\(B.H a=none\/(i,a)∈B.O):=by
 cases s with
 |emp=>exact w.elim
 |two _ _=>exact w.elim
 |val d=>exact w.elim
 |own ds=>obtain⟨l,xs,e,g,k,r,n⟩:=h;rw[show ov=_ from w]at e;cases e;exact⟨g,by rw[k];simp,.inl n⟩
 |par ds=>obtain⟨l,xs,e,g,k,r,n⟩:=h;rw[show ov=_ from w]at e;cases e;exact⟨g,by rw[k];simp,.inr n⟩
 |tre t=>
  obtain⟨v,A,e,r,nd,f⟩:=h;obtain⟨v',A',e',r',m⟩:=w;rw[e]at e';cases e';rw[<-r.det r' fun _ _=>rfl]at m;exact⟨(f a m).1,r.here m,.inl (f a m).2⟩
 |ptr t=>
  obtain⟨v,A,e,r,nd,f⟩:=h;obtain⟨v',A',e',r',m⟩:=w;rw[e]at e';cases e';rw[<-r.det r' fun _ _=>rfl]at m;exact⟨(f a m).1,r.here m,(f a m).2.elim .inr fun z=> .inl z.1⟩
theorem SlotOk.mono (h:SlotOk K B G H i ov s)(hg:Fz G G')(hw:∀a,OwS K G H ov a s->G a=none->H a≠none->G' a=none/\H' a=H a):SlotOk K B G' H' i ov s:=by
 have ow:=fun a (w:OwS K G H ov a s)=>h.own w
 cases s with
 |emp=>trivial
 |two _ _=>trivial
 |val d=>obtain⟨v,e,r⟩:=h;exact⟨v,e,r.mono hg⟩
 |own ds=>
  obtain⟨l,xs,e,g,k,r,n⟩:=h;obtain⟨h1,h2⟩:=hw l e g (by rw[k];simp);exact⟨l,xs,e,h1,h2.trans k,r.mono hg,n⟩
 |par ds=>
  obtain⟨l,xs,e,g,k,r,n⟩:=h;obtain⟨h1,h2⟩:=hw l e g (by rw[k];simp);exact⟨l,xs,e,h1,h2.trans k,r.mono hg,n⟩
 |tre t=>
  obtain⟨v,A,e,r,nd,f⟩:=h;have w:=fun a m=>hw a ⟨v,A,e,r,m⟩ (f a m).1 (r.here m)
  exact⟨v,A,e,r.move hg fun a m=>(w a m).2,nd,fun a m=>⟨(w a m).1,(f a m).2⟩⟩
 |ptr t=>
  obtain⟨v,A,e,r,nd,f⟩:=h;have w:=fun a m=>hw a ⟨v,A,e,r,m⟩ (f a m).1 (r.here m)
  exact⟨v,A,e,r.move hg fun a m=>(w a m).2,nd,fun a m=>⟨(w a m).1,(f a m).2⟩⟩
theorem SlotOk.back (h:SlotOk K B G H i ov s)(hw:∀a,OwS K G H ov a s->G a=none->H a≠none->G' a=none/\H' a=H a)(w:OwS K G' H' ov a s):OwS K G H ov a s:=by
 cases s with
 |emp=>exact w
 |two _ _=>exact w
 |val d=>exact w
 |own ds=>exact w
 |par ds=>exact w
 |tre t=>
  obtain⟨v,A,e,r,nd,f⟩:=h;obtain⟨v',A',e',r',m⟩:=w;rw[e]at e';cases e';have q:=r.det r' fun a m=>(hw a ⟨v,A,e,r,m⟩ (f a m).1 (r.here m)).2
  subst q;exact⟨v,A,e,r,m⟩
 |ptr t=>
  obtain⟨v,A,e,r,nd,f⟩:=h;obtain⟨v',A',e',r',m⟩:=w;rw[e]at e';cases e';have q:=r.det r' fun a m=>(hw a ⟨v,A,e,r,m⟩ (f a m).1 (r.here m)).2
  subst q;exact⟨v,A,e,r,m⟩
theorem SI.move (I:SI K B G H σ ρ)(fz:Fz G' H')(fg:Fz G G')(new:∀b o,G' b=some o->B.G b≠none\/B.H b=none)(keep:∀b o,B.H b=some o->(∀i,(i,b)∉B.O)->H' b=some o)(there:∀b,H' b=none->B.H b=none)
  (ow:∀(i:Nat) (s:Sl) (a:Addr),ρ[i]? =some s->OwS K G H σ[i]? a s->G a=none->H a≠none->G' a=none/\H' a=H a):SI K B G' H' σ ρ where
 fz:=fz
 g0:=I.g0.trans fg
 new:=new
 keep:=keep
 there:=there
 len:=I.len
 ob:=I.ob
 slot:=fun i s e=>(I.slot i s e).mono fg fun a w g h=>ow i s a e w g h
 dis:=fun i j s t a n e1 e2 w1 w2=>I.dis i j s t a n e1 e2 ((I.slot i s e1).back (fun a w g h=>ow i s a e1 w g h) w1) ((I.slot j t e2).back (fun a w g h=>ow j t a e2 w g h) w2)
theorem SI.chg (I:SI K B G H σ ρ){ov:Option V}{s':Sl}(fz:Fz G' H')(fg:Fz G G')(new:∀b o,G' b=some o->B.G b≠none\/B.H b=none)(keep:∀b o,B.H b=some o->(∀i,(i,b)∉B.O)->H' b=some o)(there:∀b,H' b=none->B.H b=none)
  (ow:∀(j:Nat) (s:Sl) (a:Addr),j≠i->ρ[j]? =some s->OwS K G H σ[j]? a s->G a=none->H a≠none->G' a=none/\H' a=H a/\¬OwS K G' H' (some ov) a s') (sl:SlotOk K B G' H' i (some ov) s'):SI K B G' H' (σ.set i ov) (ρ.set i s'):=by
 have atI:∀{s},(ρ.set i s')[i]? =some s->s=s'/\(σ.set i ov)[i]? =some ov:=fun{s} e=>by
  rw[qbu,if_pos rfl]at e ⊢
  split at e
  ·rename_i h;cases e;rw[if_pos (by rw[I.len];exact h)];exact⟨rfl,rfl⟩
  ·exact cNN e
 have atJ:∀{j s},j≠i->(ρ.set i s')[j]? =some s->ρ[j]? =some s/\(σ.set i ov)[j]? =σ[j]?:=fun{j s} n e=>by
  rw[qaq (Ne.symm n)]at e ⊢;exact⟨e,rfl⟩
 refine⟨fz,I.g0.trans fg,new,keep,there,by rw[qbe,qbe];exact I.len,I.ob,fun j s e=>?_,fun j k s t a n e1 e2 w1 w2=>?_⟩
 ·by_cases z:j=i
  ·subst z;obtain⟨rfl,q⟩:=atI e;rw[q];exact sl
  ·obtain⟨e1,q⟩:=atJ z e;rw[q];exact(I.slot j s e1).mono fg fun a w g h=>⟨(ow j s a z e1 w g h).1,(ow j s a z e1 w g h).2.1⟩
 ·have one:∀j s,j≠i->(ρ.set i s')[j]? =some s->OwS K G' H' (σ.set i ov)[j]? a s->ρ[j]? =some s/\OwS K G H σ[j]? a s:=fun j s z e w=>by
   obtain⟨e1,q⟩:=atJ z e;rw[q]at w;exact⟨e1,(I.slot j s e1).back (fun a w g h=>⟨(ow j s a z e1 w g h).1,(ow j s a z e1 w g h).2.1⟩) w⟩
  by_cases z1:j=i
  ·subst z1;obtain⟨rfl,q1⟩:=atI e1;obtain⟨f2,w2⟩:=one k t (Ne.symm n) e2 w2;obtain⟨o1,o2,_⟩:=(I.slot k t f2).own w2;rw[q1]at w1;exact(ow k t a (Ne.symm n) f2 w2 o1 o2).2.2 w1
  ·have p1:=one j s z1 e1 w1
   by_cases z2:k=i
   ·subst z2;obtain⟨rfl,q2⟩:=atI e2;obtain⟨o1,o2,_⟩:=(I.slot j s p1.1).own p1.2;rw[q2]at w2;exact(ow j s a z1 p1.1 p1.2 o1 o2).2.2 w2
   ·have p2:=one k t z2 e2 w2;exact I.dis j k s t a n p1.1 p2.1 p1.2 p2.2
theorem SI.nw (I:SI K B G H σ ρ)(hp:H p=none):Nw K G H σ ρ p:=fun i s e w=>((I.slot i s e).own w).2.1 hp
theorem SI.nw_move (I:SI K B G H σ ρ)(n:Nw K G H σ ρ p)(ow:∀(i:Nat) (s:Sl) (a:Addr),ρ[i]? =some s->OwS K G H σ[i]? a s->G a=none->H a≠none->G' a=none/\H' a=H a):Nw K G' H' σ ρ p:=
 fun i s e w=>n i s e ((I.slot i s e).back (fun a w g h=>ow i s a e w g h) w)
theorem SI.allocF (I:SI K B G H σ ρ)(hp:H p=none)(o:HO):SI K B (upd G p o) (upd H p o) σ ρ:=
 I.move (I.fz.upd2 p o) (Fz.new (I.fz.free hp) o) (fun b u e=>by
  by_cases q:b=p
  ·subst q;exact .inr (I.there b hp)
  ·rw[zaw q]at e;exact I.new b u e) (fun b u e n=>by
  have q:=I.keep b u e n;rw[zaw (za3 q hp)];exact q) (fun b e=>by
  by_cases q:b=p
  ·subst q;rw[zaD]at e;cases e
  ·rw[zaw q]at e;exact I.there b e) (fun i s a _ _ g h=>by
  have q:a≠p:=fun z=>h (by rw[z];exact hp)
  rw[zaw q,zaw q];exact⟨g,rfl⟩)
theorem SI.allocO (I:SI K B G H σ ρ)(hp:H p=none)(o:HO):SI K B G (upd H p o) σ ρ:=
 I.move (I.fz.right (I.fz.free hp) o) (Fz.refl G) I.new (fun b u e n=>by
  have q:=I.keep b u e n;rw[zaw (za3 q hp)];exact q) (fun b e=>by
  by_cases q:b=p
  ·subst q;rw[zaD]at e;cases e
  ·rw[zaw q]at e;exact I.there b e) (fun i s a _ _ g h=>by
  have q:a≠p:=fun z=>h (by rw[z];exact hp)
  rw[zaw q];exact⟨g,rfl⟩)
theorem SI.frz (I:SI K B G H σ ρ){o:HO}(hl:H l=some o)(hB:B.H l=none)(hn:Nw K G H σ ρ l)(hg:G l=none):SI K B (upd G l o) H σ ρ:=
 I.move (fun a u q=>by
  by_cases e:a=l
  ·subst e;rw[zaD]at q;cases q;exact hl
  ·rw[zaw e]at q;exact I.fz a u q) (Fz.new hg o) (fun b u e=>by
  by_cases q:b=l
  ·subst q;exact .inr hB
  ·rw[zaw q]at e;exact I.new b u e) I.keep I.there (fun i s a e w g _=>by
  refine⟨?_,rfl⟩;rw[zaw (fun z=>?_)]
  ·exact g
  ·subst z;exact hn i s e w)
theorem SI.set (I:SI K B G H σ ρ)(h:RepD K G v d):SI K B G H (σ.set i (some v)) (ρ.set i (.val d)):=
 I.chg I.fz (Fz.refl G) I.new I.keep I.there (fun _ _ _ _ _ _ g _=>⟨g,rfl,id⟩) ⟨v,rfl,h⟩
theorem SI.setO (I:SI K B G H σ ρ)(hg:G l=none)(hl:H l=some (.lst xs))(h:RepL K G xs ds)(hB:B.H l=none)(hn:Nw K G H σ ρ l):
  SI K B G H (σ.set i (some (.ref l))) (ρ.set i (.own ds)):=
 I.chg I.fz (Fz.refl G) I.new I.keep I.there (fun j s a _ e w g _=>⟨g,rfl,fun z=>by cases(show some (some (V.ref l))=some (some (.ref a))from z);exact hn j s e w⟩) ⟨l,xs,rfl,hg,hl,h,hB⟩
theorem SI.wr (I:SI K B G H σ ρ)(e:ρ[i]? =some s)(q:s.items=some ds):∃l xs,σ[i]? =some (some (.ref l))/\G l=none/\H l=some (.lst xs)/\RepL K G xs ds:=by
 have h:=I.slot i s e;cases s with
 |emp=>exact cNN q
 |two _ _=>exact cNN q
 |val d=>exact cNN q
 |tre _=>exact cNN q
 |ptr _=>exact cNN q
 |own es=>cases q;obtain⟨l,xs,h1,h2,h3,h4,_⟩:=h;exact⟨l,xs,h1,h2,h3,h4⟩
 |par es=>cases q;obtain⟨l,xs,h1,h2,h3,h4,_⟩:=h;exact⟨l,xs,h1,h2,h3,h4⟩
noncomputable def Sl.put (s:Sl)(ds:List D):Sl:=match s with
 | .own _=> .own ds
 | .par _=> .par ds
 |s=>s
theorem zg0 (q:s.items=some ds):OwS K G H ov a s↔ov=some (some (.ref a)):=by
 cases s with
 |own _=>exact Iff.rfl
 |par _=>exact Iff.rfl
 |_=>exact cNN q
theorem znE (q:s.items=some ds)(es:List D):(s.put es).items=some es:=by
 cases s with
 |own _=>rfl
 |par _=>rfl
 |_=>exact cNN q
theorem znZ {α:Type}{l:List α}{x:α}(e:l[i]? =some x):l.set i x=l:=by
 obtain⟨h,rfl⟩:=qap.mp e;exact List.set_getElem_self h
theorem SI.chgW (I:SI K B G H σ ρ){i:Nat}(e:ρ[i]? =some s)(q:s.items=some ds)(hl:σ[i]? =some (some (.ref l)))(fz:Fz G' H')(fg:Fz G G')(nw:∀b o,G' b=some o->G b≠none\/H b=none)
  (kp:∀b o,b≠l->H b=some o->H' b=some o) (gl:G' l=none) (hl':H' l=some (.lst ys)) (r:RepL K G' ys es):SI K B G' H' σ (ρ.set i (s.put es)):=by
 obtain⟨l',xs,e1,e2,e3,e4⟩:=I.wr e q;rw[hl]at e1;cases e1;have sl:=I.slot i s e;have nb:∀b o,B.H b=some o->(∀i,(i,b)∉B.O)->b≠l:=fun b o h1 h2 z=>by
  subst z;rcases(sl.own ((zg0 q).mpr hl)).2.2 with z|z
  ·rw[h1]at z;cases z
  ·exact h2 i z
 have h:=I.chg (i:=i) (ov:=some (.ref l)) (s':=s.put es) (G':=G') (H':=H') fz fg (fun b o k=>?_) (fun b o k1 k2=>kp b o (nb b o k1 k2) (I.keep b o k1 k2)) (fun b k=>?_) (fun j t a z ej w g ha=>?_) ?_
 ·rwa[znZ hl]at h
 ·rcases nw b o k with h|h
  ·cases q2:G b with
   |none=>exact absurd q2 h
   |some u=>exact I.new b u q2
  ·exact .inr (I.there b h)
 ·refine I.there b ?_;cases q2:H b with
  |none=>rfl
  |some u=>
   by_cases z:b=l
   ·subst z;rw[hl']at k;cases k
   ·rw[kp b u z q2]at k;cases k
 ·have na:a≠l:=fun w'=>by subst w';exact I.dis j i t s a z ej e w ((zg0 q).mpr hl)
  obtain⟨u,hu⟩:=qbv.mp ha;refine⟨?_,(kp a u na hu).trans hu.symm,fun z=>na ?_⟩
  ·cases q2:G' a with
   |none=>rfl
   |some u=>
    rcases nw a u q2 with z|z
    ·exact absurd g z
    ·exact absurd z ha
  ·cases(zg0 (znE q es)).mp z;rfl
 ·cases s with
  |own es'=>obtain⟨l',xs',k1,k2,k3,k4,k5⟩:=sl;rw[hl]at k1;cases k1;exact⟨_,ys,rfl,gl,hl',r,k5⟩
  |par es'=>obtain⟨l',xs',k1,k2,k3,k4,k5⟩:=sl;rw[hl]at k1;cases k1;exact⟨_,ys,rfl,gl,hl',r,k5⟩
  |_=>cases q
theorem SI.write (I:SI K B G H σ ρ)(e:ρ[i]? =some s)(q:s.items=some ds)(hl:σ[i]? =some (some (.ref l)))(h:RepL K G ys es):
  SI K B G (upd H l (.lst ys)) σ (ρ.set i (s.put es)):=by
 obtain⟨l',xs,e1,e2,e3,e4⟩:=I.wr e q;rw[hl]at e1;cases e1;exact I.chgW e q hl (I.fz.right e2 _) (Fz.refl G) (fun b o k=> .inl (by rw[k];simp)) (fun b o z k=>by rw[zaw z];exact k) e2 zaD h
theorem SI.freeze (I:SI K B G H σ ρ){i:Nat}(e:ρ[i]? =some (.own ds)):∃l xs,σ[i]? =some (some (.ref l))/\Fz G (upd G l (.lst xs))/\RepD K (upd G l (.lst xs)) (.ref l) (.lst ds)/\
  SI K B (upd G l (.lst xs)) H σ (ρ.set i (.val (.lst ds))):=by
 obtain⟨l,xs,h1,h2,h3,h4,h5⟩:=I.slot i _ e;have fz:=Fz.new h2 (.lst xs);have rep:RepD K (upd G l (.lst xs)) (.ref l) (.lst ds):=⟨l,xs,rfl,zaD,h4.mono fz⟩;refine⟨l,xs,h1,fz,rep,?_⟩;have h:=I.chg (i:=i) (ov:=some (.ref l)) (s':= .val (.lst ds)) (G':=upd G l (.lst xs)) (H':=H) (fun a u q=>?_) fz (fun b u q=>?_) I.keep I.there (fun j t a z ej w g _=>⟨?_,rfl,id⟩) ⟨.ref l,rfl,rep⟩
 ·rwa[znZ h1]at h
 ·by_cases z:a=l
  ·subst z;rw[zaD]at q;cases q;exact h3
  ·rw[zaw z]at q;exact I.fz a u q
 ·by_cases z:b=l
  ·subst z;exact .inr h5
  ·rw[zaw z]at q;exact I.new b u q
 ·rw[zaw (fun q=>by subst q;exact I.dis j i t _ a z ej e w h1)];exact g
end
noncomputable abbrev ME:=R->Option (D×R)
noncomputable abbrev MO:=R->Option (List D×R)
noncomputable abbrev MT:=R->Option (Bool×R)
noncomputable abbrev MA:=R->Option (List D×R)
noncomputable def SEb (X:Cx)(e:Expr)(m:ME)(t:TE):Prop:=∀B G H σ ρ d ρ' (Q:VK),SI X.K B G H σ ρ->m ρ=some (d,ρ')->(∀G' H' v,SI X.K B G' H' σ ρ'->Fz G G'->RepD X.K G' v d->Q v H')->t σ H Q
noncomputable def SE (X:Cx)(e:Expr)(m:ME):Prop:=∃t,PE X e t/\SEb X e m t
theorem SE.el {m:ME}(h:SE X e m)(k:∀t,PE X e t->SEb X e m t->C):C:=h.elim fun t q=>k t q.1 q.2
noncomputable def SOb (X:Cx)(e:Expr)(m:MO)(t:TE):Prop:=∀B G H σ ρ ds ρ' (Q:VK),SI X.K B G H σ ρ->m ρ=some (ds,ρ')->
  (∀G' H' l xs,SI X.K B G' H' σ ρ'->Fz G G'->G' l=none->H' l=some (.lst xs)->RepL X.K G' xs ds->B.H l=none->Nw X.K G' H' σ ρ' l->Q (.ref l) H')->t σ H Q
noncomputable def SO (X:Cx)(e:Expr)(m:MO):Prop:=∃t,PE X e t/\SOb X e m t
theorem SO.el (h:SO X e m)(k:∀t,PE X e t->SOb X e m t->C):C:=h.elim fun t q=>k t q.1 q.2
noncomputable def STtb (X:Cx)(e:Expr)(m:MT)(t:TT):Prop:=∀B G H σ ρ d ρ' (Q:Bool->Hp->Prop),SI X.K B G H σ ρ->m ρ=some (d,ρ')->(∀G' H',SI X.K B G' H' σ ρ'->Fz G G'->Q d H')->t σ H Q
noncomputable def STt (X:Cx)(e:Expr)(m:MT):Prop:=∃t,PT X e t/\STtb X e m t
theorem STt.el {m:MT}(h:STt X e m)(k:∀t,PT X e t->STtb X e m t->C):C:=h.elim fun t q=>k t q.1 q.2
noncomputable def SAb (X:Cx)(es:List Expr)(m:MA)(t:TA):Prop:=∀B G H σ ρ ds ρ' (Q:List V->Hp->Prop),SI X.K B G H σ ρ->m ρ=some (ds,ρ')->(∀G' H' vs,SI X.K B G' H' σ ρ'->Fz G G'->RepL X.K G' vs ds->Q vs H')->t σ H Q
noncomputable def SA (X:Cx)(es:List Expr)(m:MA):Prop:=∃t,PA X es t/\SAb X es m t
theorem SA.el {es:List Expr}{m:MA}(h:SA X es m)(k:∀t,PA X es t->SAb X es m t->C):C:=h.elim fun t q=>k t q.1 q.2
theorem zny {B:Bs}{σ:St}(I:SI K B G H σ ρ)(hg:G l=none)(hl:H l=some (.lst xs))(h:RepL K G xs ds)(hB:B.H l=none)(hn:Nw K G H σ ρ l):
  SI K B (upd G l (.lst xs)) H σ ρ/\Fz G (upd G l (.lst xs))/\RepD K (upd G l (.lst xs)) (.ref l) (.lst ds):=
 ⟨I.frz hl hB hn hg,Fz.new hg _,⟨l,xs,rfl,zaD,h.mono (Fz.new hg _)⟩⟩
noncomputable def eFz (m:MO):ME:=fun ρ=>(m ρ).map fun p=>(.lst p.1,p.2)
theorem SO.se (h:SO X e m):SE X e (eFz m):=by
 refine h.el fun t p s=>?_
 refine⟨t,p,fun B G H σ ρ d ρ' Q I hm k=>?_⟩;unfold eFz at hm;cases q:m ρ with
 |none=>rw[q]at hm;exact cNN hm
 |some r=>
  obtain⟨ds,ρ1⟩:=r;rw[q]at hm;obtain⟨rfl,rfl⟩:=cSp hm;refine s B G H σ ρ ds _ Q I q fun G' H' l xs I' fz hg hl hr hB hn=>?_
  obtain⟨I2,f2,r2⟩:=zny I' hg hl hr hB hn;exact k _ _ _ I2 (fz.trans f2) r2
noncomputable def eC (d:D):ME:=fun ρ=>some (d,ρ)
noncomputable def eVar (i:Nat):ME:=fun ρ=>match ρ[i]? with
 |some (.val d)=>some (d,ρ)
 |some (.own ds)=>some (.lst ds,ρ.set i (.val (.lst ds)))
 |_=>none
section
variable {X:Cx} {pos:Pos}
theorem zab (i:Nat){x:Str}(hN:X.N[i]? =some x:=by rfl)(hv:Vis X.env.scope x:=by trivial)(hd:(x==("__debug__":Str))=false:=by decide)
  (hcd:(x==("__classdict__":Str))=false:=by decide):SE X (.Name x pos) (eVar i):=by
 refine⟨_,zfO hN hv hd hcd,fun B G H σ ρ d ρ' Q I hm k=>?_⟩;unfold eVar at hm;cases e:ρ[i]? with
 |none=>rw[e]at hm;exact cNN hm
 |some s=>
  rw[e]at hm;cases s with
  |emp=>exact cNN hm
  |two _ _=>exact cNN hm
  |tre _=>exact cNN hm
  |ptr _=>exact cNN hm
  |par ds=>exact cNN hm
  |val d'=>
   obtain⟨rfl,rfl⟩:=cSp hm;obtain⟨v,h1,h2⟩:=I.slot i _ e;exact⟨v,h1,k G H v I (Fz.refl G) h2⟩
  |own ds=>
   obtain⟨rfl,rfl⟩:=cSp hm;obtain⟨l,xs,h1,f,r,I'⟩:=I.freeze e;exact⟨.ref l,h1,k _ H _ I' f r⟩
theorem zag {i:Int}{j}:SE X (.Constant (.int i) j pos) (eC (.int i)):=⟨_,pe_int,fun B G H σ ρ d ρ' Q I hm k=>by obtain⟨rfl,rfl⟩:=cSp hm;exact k G H _ I (Fz.refl G) rfl⟩
theorem zk0 {j}:SE X (.Constant (.bool b) j pos) (eC (.bl b)):=⟨_,pe_bl,fun B G H σ ρ d ρ' Q I hm k=>by obtain⟨rfl,rfl⟩:=cSp hm;exact k G H _ I (Fz.refl G) rfl⟩
theorem zeN {j}:SE X (.Constant .none j pos) (eC .non):=⟨_,pe_non,fun B G H σ ρ d ρ' Q I hm k=>by obtain⟨rfl,rfl⟩:=cSp hm;exact k G H _ I (Fz.refl G) rfl⟩
theorem zdJ {x:Str}{j}:SE X (.Constant (.str x) j pos) (eC (.str x)):=⟨_,pe_str,fun B G H σ ρ d ρ' Q I hm k=>by obtain⟨rfl,rfl⟩:=cSp hm;exact k G H _ I (Fz.refl G) rfl⟩
theorem se_globI {x:Str}{i:Int}{t:Tok}(hm:X.mg x=some (.int i t))(hg:Gl X x:=by rfl)(hd:(x==("__debug__":Str))=false:=by decide):SE X (.Name x pos) (eC (.int i)):=
 ⟨_,zry (v:= .int i) hg hm ⟨t,rfl⟩ hd,fun B G H σ ρ d ρ' Q I hm k=>by obtain⟨rfl,rfl⟩:=cSp hm;exact k G H _ I (Fz.refl G) rfl⟩
end
noncomputable def aNil:MA:=fun ρ=>some ([],ρ)
noncomputable def zad (m:ME)(r:MA):MA:=fun ρ=>(m ρ).bind fun p=>(r p.2).map fun q=>(p.1::q.1,q.2)
section
variable {X:Cx} {e:Expr} {es:List Expr} {m:ME} {r:MA}
theorem zae:SA X [] aNil:=⟨_,zpe,fun B G H σ ρ ds ρ' Q I hm k=>by obtain⟨rfl,rfl⟩:=cSp hm;exact k G H [] I (Fz.refl G) .nil⟩
theorem zaa (h:SE X e m)(hr:SA X es r)(hs:starEach (e::es) X.env=(false,eval e X.env)::starEach es X.env:=by rfl):SA X (e::es) (zad m r):=by
 refine h.el fun t p s=>?_
 refine hr.el fun u q z=>?_
 refine⟨_,zko p q hs,fun B G H σ ρ ds ρ' Q I hm k=>?_⟩;unfold zad at hm;cases e1:m ρ with
 |none=>rw[e1]at hm;exact cNN hm
 |some a=>
  obtain⟨d,ρ1⟩:=a;rw[e1]at hm;cases e2:r ρ1 with
  |none=>simp[e2]at hm
  |some b=>
   obtain⟨es',ρ2⟩:=b;simp only[qbw,e2,qbx,qby,qbz]at hm;obtain⟨rfl,rfl⟩:=hm;exact s B G H σ ρ d ρ1 _ I e1 fun G1 H1 v I1 f1 r1=>z B G1 H1 σ ρ1 es' ρ2 _ I1 e2 fun G2 H2 vs I2 f2 r2=>k G2 H2 (v::vs) I2 (f1.trans f2) (.cons (r1.mono f2) r2)
end
noncomputable def V2 (X:Cx)(r:R2)(f:D->D->Option D):Prop:=∀B G H σ ρ x y a b d (Q:VK),SI X.K B G H σ ρ->RepD X.K G x a->RepD X.K G y b->f a b=some d->(∀G' H' v,SI X.K B G' H' σ ρ->Fz G G'->RepD X.K G' v d->Q v H')->r x y H Q
noncomputable def V1 (X:Cx)(r:V->Hp->VK->Prop)(f:D->Option D):Prop:=∀B G H σ ρ x a d (Q:VK),SI X.K B G H σ ρ->RepD X.K G x a->f a=some d->(∀G' H' v,SI X.K B G' H' σ ρ->Fz G G'->RepD X.K G' v d->Q v H')->r x H Q
noncomputable def VC (X:Cx)(r:List V->Hp->VK->Prop)(f:List D->Option D):Prop:=∀B G H σ ρ xs ds d (Q:VK),SI X.K B G H σ ρ->RepL X.K G xs ds->f ds=some d->(∀G' H' v,SI X.K B G' H' σ ρ->Fz G G'->RepD X.K G' v d->Q v H')->r xs H Q
noncomputable def m2 (f:D->D->Option D)(ma mb:ME):ME:=fun ρ=>(ma ρ).bind fun p=>(mb p.2).bind fun q=>(f p.1 q.1).map fun d=>(d,q.2)
noncomputable def m1 (f:D->Option D)(ma:ME):ME:=fun ρ=>(ma ρ).bind fun p=>(f p.1).map fun d=>(d,p.2)
noncomputable def mC (f:List D->Option D)(ma:MA):ME:=fun ρ=>(ma ρ).bind fun p=>(f p.1).map fun d=>(d,p.2)
theorem m2_inv {f:D->D->Option D}{ma mb:ME}(h:m2 f ma mb ρ=some (d,ρ')):∃a ρ1 b,ma ρ=some (a,ρ1)/\mb ρ1=some (b,ρ')/\f a b=some d:=by
 unfold m2 at h;cases e1:ma ρ with
 |none=>rw[e1]at h;exact cNN h
 |some p=>
  obtain⟨a,ρ1⟩:=p;rw[e1]at h;cases e2:mb ρ1 with
  |none=>simp[e2]at h
  |some q=>
   obtain⟨b,ρ2⟩:=q;simp only[qbw,e2]at h;cases e3:f a b with
   |none=>rw[e3]at h;exact cNN h
   |some c=>rw[e3]at h;obtain⟨rfl,rfl⟩:=cSp h;exact⟨a,ρ1,b,rfl,e2,e3⟩
theorem m1_inv {f:D->Option D}(h:m1 f ma ρ=some (d,ρ')):∃a,ma ρ=some (a,ρ')/\f a=some d:=by
 unfold m1 at h;cases e1:ma ρ with
 |none=>rw[e1]at h;exact cNN h
 |some p=>
  obtain⟨a,ρ1⟩:=p;rw[e1]at h;simp only[qbw]at h;cases e3:f a with
  |none=>rw[e3]at h;exact cNN h
  |some c=>rw[e3]at h;obtain⟨rfl,rfl⟩:=cSp h;exact⟨a,rfl,e3⟩
theorem mC_inv {f:List D->Option D}{ma:MA}(h:mC f ma ρ=some (d,ρ')):∃a,ma ρ=some (a,ρ')/\f a=some d:=by
 unfold mC at h;cases e1:ma ρ with
 |none=>rw[e1]at h;exact cNN h
 |some p=>
  obtain⟨a,ρ1⟩:=p;rw[e1]at h;simp only[qbw]at h;cases e3:f a with
  |none=>rw[e3]at h;exact cNN h
  |some c=>rw[e3]at h;obtain⟨rfl,rfl⟩:=cSp h;exact⟨a,rfl,e3⟩
section
variable {X:Cx} {a b:Expr} {ma mb:ME} {pos:Pos} {f:D->D->Option D}
theorem zp2 {r:R2}{ta tb:TE}(hv:V2 X r f)
  (sa:∀B G H σ ρ d ρ' (Q:VK),SI X.K B G H σ ρ->ma ρ=some (d,ρ')->(∀G' H' v,SI X.K B G' H' σ ρ'->Fz G G'->RepD X.K G' v d->Q v H')->ta σ H Q)
  (sb:∀B G H σ ρ d ρ' (Q:VK),SI X.K B G H σ ρ->mb ρ=some (d,ρ')->(∀G' H' v,SI X.K B G' H' σ ρ'->Fz G G'->RepD X.K G' v d->Q v H')->tb σ H Q):
  ∀B G H σ ρ d ρ' (Q:VK),SI X.K B G H σ ρ->m2 f ma mb ρ=some (d,ρ')->(∀G' H' v,SI X.K B G' H' σ ρ'->Fz G G'->RepD X.K G' v d->Q v H')->tOp r ta tb σ H Q:=by
 intro B G H σ ρ d ρ' Q I hm k;obtain⟨x,ρ1,y,e1,e2,e3⟩:=m2_inv hm;exact sa B G H σ ρ x ρ1 _ I e1 fun G1 H1 v I1 f1 r1=>sb B G1 H1 σ ρ1 y ρ' _ I1 e2 fun G2 H2 u I2 f2 r2=>
  hv B G2 H2 σ ρ' v u x y d Q I2 (r1.mono f2) r2 e3 fun G3 H3 z I3 f3 r3=>k G3 H3 z I3 (f1.trans (f2.trans f3)) r3
theorem zoi {r:R2}(ho:OpR X (binaryOp op) r)(hv:V2 X r f)(ha:SE X a ma)(hb:SE X b mb):SE X (.BinOp a op b pos) (m2 f ma mb):=by
 refine ha.el fun ta pa sa=>?_
 refine hb.el fun tb pb sb=>?_
 exact⟨_,pe_op ho pa pb,zp2 hv sa sb⟩
theorem zpL {op:CmpOp}{r:R2}(ho:OpR X (compareOp op) r)(hv:V2 X r f)(ha:SE X a ma)(hb:SE X b mb)(hm:behindInMarks op b=false):SE X (.Compare a [op] [b] pos) (m2 f ma mb):=by
 refine ha.el fun ta pa sa=>?_
 refine hb.el fun tb pb sb=>?_
 exact⟨_,pe_cmpR ho pa pb hm,zp2 hv sa sb⟩
theorem se_un {op:UnaryOp}(ho:UnR X (unaryOp op) r)(hv:V1 X r g)(ha:SE X a ma):SE X (.UnaryOp op a pos) (m1 g ma):=by
 refine ha.el fun ta pa sa=>?_
 refine⟨_,pe_un ho pa,fun B G H σ ρ d ρ' Q I hm k=>?_⟩;obtain⟨x,e1,e2⟩:=m1_inv hm;exact sa B G H σ ρ x ρ' _ I e1 fun G1 H1 v I1 f1 r1=>hv B G1 H1 σ ρ' v x d Q I1 r1 e2 fun G2 H2 z I2 f2 r2=>k G2 H2 z I2 (f1.trans f2) r2
theorem se_ix {r:R2}(hr:IxR X r)(hv:V2 X r f)(ha:SE X a ma)(hb:SE X b mb)(hs:zmN b):SE X (.Subscript a b pos) (m2 f ma mb):=by
 refine ha.el fun ta pa sa=>?_
 refine hb.el fun tb pb sb=>?_
 exact⟨_,pe_ix hr pa pb hs,zp2 hv sa sb⟩
end
section
variable {X:Cx} {x:Str} {p pos:Pos} {e:Expr} {es:List Expr} {ma:MA} {id T:String} {r:List V->Hp->VK->Prop} {f:List D->Option D}
theorem soundC {t:TA}(hv:VC X r f)(sa:∀B G H σ ρ ds ρ' (Q:List V->Hp->Prop),SI X.K B G H σ ρ->ma ρ=some (ds,ρ')->(∀G' H' vs,SI X.K B G' H' σ ρ'->Fz G G'->RepL X.K G' vs ds->Q vs H')->t σ H Q):
  ∀B G H σ ρ d ρ' (Q:VK),SI X.K B G H σ ρ->mC f ma ρ=some (d,ρ')->(∀G' H' v,SI X.K B G' H' σ ρ'->Fz G G'->RepD X.K G' v d->Q v H')->tCB r t σ H Q:=by
 intro B G H σ ρ d ρ' Q I hm k;obtain⟨ds,e1,e2⟩:=mC_inv hm;exact sa B G H σ ρ ds ρ' _ I e1 fun G1 H1 vs I1 f1 r1=>hv B G1 H1 σ ρ' vs ds d Q I1 r1 e2 fun G2 H2 z I2 f2 r2=>k G2 H2 z I2 (f1.trans f2) r2
theorem zdX (hc:zje X (.builtin id) r)(hv:VC X r f)(hb:bootBuiltins x=some (.builtin id))(hm:X.mg x=none)(ha:SA X (e::es) ma)(hg:Gl X x:=by rfl)(hn:x≠"__name__":=by decide)(hdb:(x==("__debug__":Str))=false:=by decide)
  (he:starEach (e::es) X.env=(false,eval e X.env)::starEach es X.env:=by rfl) (hpl:(backTo pos (starEach es X.env)).any (·.1)=false:=by rfl):SE X (.Call (.Name x p) (e::es) [] pos) (mC f ma):=by
 refine ha.el fun t pa sa=>?_
 exact⟨_,zpv hc hg hm hb pa hn hdb he hpl,soundC hv sa⟩
theorem zsn (hc:zje X (.type T) r)(hv:VC X r f)(hb:bootBuiltins x=some (.type T))(hm:X.mg x=none)(ha:SA X (e::es) ma)(hg:Gl X x:=by rfl)(hn:x≠"__name__":=by decide)(hdb:(x==("__debug__":Str))=false:=by decide)
  (he:starEach (e::es) X.env=(false,eval e X.env)::starEach es X.env:=by rfl) (hpl:(backTo pos (starEach es X.env)).any (·.1)=false:=by rfl):SE X (.Call (.Name x p) (e::es) [] pos) (mC f ma):=by
 refine ha.el fun t pa sa=>?_
 exact⟨_,zm5 hc hg hm hb pa hn hdb he hpl,soundC hv sa⟩
end
end M
namespace M
open L2 PySem PySem.Spec
open PyProof.Rows hiding St
variable {v:V} {ds cs out:List D} {p pos pos':Pos} {xs vs ys:List V} {c:Int->Int->Bool} {g:D->R->Option R} {x qual:Str} {d:D} {C:Prop} {X:Cx} {a b e tg it:Expr} {ma:MA} {k i j n t:Nat} {mb:ME} {K:W.Frag} {G H H' G' Hc Gc:Hp} {us its:List Value} {u:Value} {A:Around} {B:Bs} {σ σc:St} {ρ ρ':R} {s:Sl} {Q E:Value->Shared->Prop} {op op':CmpOp} {m:MS} {mc:MT} {tgs es ifs:List Expr} {h:List D->R->Option R} {body:List Stmt} {l DD:Addr} {N ps:List Str} {fd:FuncData} {env:Env} {scope:Scope} {cl:List (Str×Addr)} {h':Heap} {prog:Program} {w:World} {use:Option (Value->Sem Unit)} {ov:Option (Option V)} {cap:List Nat} {o:Option D} {O:List (Nat×Addr)} {tg':Addr->Shared->Hp->List Addr->TG} {tt:Addr->Shared->Hp->List Addr->TT} {te:Addr->Shared->Hp->List Addr->TE} {JJ:Hp->Hp->St->R->Prop} {wi:TI} {ns:List Int}
section
variable {X:Cx} {K:W.Frag} {B:Bs} {G H:Hp} {σ:St} {ρ:R}
theorem SI.lst (I:SI K B G H σ ρ)(h:RepD K G v (.lst ds)):∃a xs,v= .ref a/\H a=some (.lst xs)/\RepL K G xs ds:=by
 obtain⟨a,xs,e,q,r⟩:=h;exact⟨a,xs,e,I.fz a _ q,r⟩
theorem SI.tup (I:SI K B G H σ ρ)(h:RepD K G v (.tup ds)):∃a xs,v= .ref a/\H a=some (.tup xs)/\RepL K G xs ds:=by
 obtain⟨a,xs,e,q,r⟩:=h;exact⟨a,xs,e,I.fz a _ q,r⟩
theorem SI.newT (I:SI K B G H σ ρ){p:Addr}(hp:H p=none)(h:RepL K G xs ds):SI K B (upd G p (.tup xs)) (upd H p (.tup xs)) σ ρ/\Fz G (upd G p (.tup xs))/\RepD K (upd G p (.tup xs)) (.ref p) (.tup ds):=
 ⟨I.allocF hp _,Fz.new (I.fz.free hp) _,⟨p,xs,rfl,zaD,h.mono (Fz.new (I.fz.free hp) _)⟩⟩
theorem SI.newL (I:SI K B G H σ ρ){p:Addr}(hp:H p=none)(h:RepL K G xs ds):SI K B (upd G p (.lst xs)) (upd H p (.lst xs)) σ ρ/\Fz G (upd G p (.lst xs))/\RepD K (upd G p (.lst xs)) (.ref p) (.lst ds):=
 ⟨I.allocF hp _,Fz.new (I.fz.free hp) _,⟨p,xs,rfl,zaD,h.mono (Fz.new (I.fz.free hp) _)⟩⟩
end
noncomputable def dI2 (c:Int->Int->Bool)(g:Int->Int->D):D->D->Option D
 | .int i,.int j=>if c i j then some (g i j)else none
 |_,_=>none
theorem zpd {g:Int->Int->D}{x y d:D}(h:dI2 c g x y=some d)(k:∀i j,x= .int i->y= .int j->c i j=true->g i j=d->C):C:=by
 cases x with
 |int i=>cases y with
  |int j=>exact cIte h fun z h=>k i j rfl rfl z (Option.some.inj h)
  |_=>exact cNN h
 |_=>exact cNN h
theorem zsj {C:Int->Int->Prop}{g:Int->Int->Int}(hc:∀i j,c i j=true->C i j):V2 X (rI C fun i j=> .int (g i j)) (dI2 c fun i j=> .int (g i j)):=fun B G H σ ρ x y a b d Q I ra rb hf k=>zpd hf fun i j ea eb h ed=>by
 subst ea eb ed;exact⟨i,j,ra,rb,hc i j h,k G H _ I (Fz.refl G) rfl⟩
theorem v2_int0 {g:Int->Int->Int}:V2 X (rI0 fun i j=> .int (g i j)) (dI2 (fun _ _=>true) fun i j=> .int (g i j)):=fun B G H σ ρ x y a b d Q I ra rb hf k=>zpd hf fun i j ea eb h ed=>by
 subst ea eb ed;exact⟨i,j,ra,rb,k G H _ I (Fz.refl G) rfl⟩
theorem zcM {g:Int->Int->Bool}:V2 X (rI0 fun i j=> .bl (g i j)) (dI2 (fun _ _=>true) fun i j=> .bl (g i j)):=fun B G H σ ρ x y a b d Q I ra rb hf k=>zpd hf fun i j ea eb h ed=>by
 subst ea eb ed;exact⟨i,j,ra,rb,k G H _ I (Fz.refl G) rfl⟩
noncomputable def dSub:D->D->Option D:=dI2 (fun _ _=>true) fun i j=> .int (i-j)
noncomputable def zqn (j:Int):Bool:=decide (0<j)&&decide (j.natAbs.log2<9000)
theorem op_fdivW:OpR X (binaryOp .FloorDiv) (rI (fun _ j=>0<j/\j.natAbs.log2<9000) fun i j=> .int (i/j)):=opI fun i j _ _ _ _ _ hc q=>by
 have h1:(0:Int)<j:=hc.1;exact PyProof.Rows.floordiv_int (by lia) (by rw[Int.fdiv_eq_ediv_of_nonneg i (by lia)];exact q) (.inl (PyProof.noPylong_of_log2 hc.2))
noncomputable def dDiv:D->D->Option D:=dI2 (fun _ j=>zqn j) fun i j=> .int (i/j)
noncomputable def dMod:D->D->Option D:=dI2 (fun _ j=>decide (0<j)) fun i j=> .int (i%j)
noncomputable def dPow:D->D->Option D:=dI2 (fun i j=>decide (0<=j)&&decide (j<=1000000)&&decide (i.natAbs<2^64)) fun i j=> .int (i^j.toNat)
noncomputable def dLt:D->D->Option D:=dI2 (fun _ _=>true) fun i j=> .bl (decide (i<j))
noncomputable def dLe:D->D->Option D:=dI2 (fun _ _=>true) fun i j=> .bl (decide (i<=j))
noncomputable def dGt:D->D->Option D:=dI2 (fun _ _=>true) fun i j=> .bl (decide (j<i))
noncomputable def dGe:D->D->Option D:=dI2 (fun _ _=>true) fun i j=> .bl (decide (j<=i))
section
variable {X:Cx} {a b:Expr} {ma mb:ME} {pos:Pos}
theorem za1 (ha:SE X a ma)(hb:SE X b mb):SE X (.BinOp a .Sub b pos) (m2 dSub ma mb):=zoi op_sub v2_int0 ha hb
theorem znr (ha:SE X a ma)(hb:SE X b mb):SE X (.BinOp a .FloorDiv b pos) (m2 dDiv ma mb):=zoi op_fdivW (zsj fun i j h=>by simpa[zqn]using h) ha hb
theorem zj7 (ha:SE X a ma)(hb:SE X b mb):SE X (.BinOp a .Mod b pos) (m2 dMod ma mb):=zoi op_mod (zsj fun i j h=>by simpa using h) ha hb
theorem zj1 (ha:SE X a ma)(hb:SE X b mb):SE X (.BinOp a .Pow b pos) (m2 dPow ma mb):=zoi op_pow (zsj fun i j h=>by simp only[qa9,qbA]at h;exact⟨h.1.1,h.1.2,h.2⟩) ha hb
theorem se_le (ha:SE X a ma)(hb:SE X b mb):SE X (.Compare a [.LtE] [b] pos) (m2 dLe ma mb):=zpL zk9 zcM ha hb (zh0 _)
theorem se_gt (ha:SE X a ma)(hb:SE X b mb):SE X (.Compare a [.Gt] [b] pos) (m2 dGt ma mb):=zpL op_gt zcM ha hb (zh0 _)
end
noncomputable def dNeg:D->Option D
 | .int i=>some (.int (-i))
 |_=>none
theorem zex {ma:ME}(ha:SE X a ma):SE X (.UnaryOp .USub a pos) (m1 dNeg ma):=
 se_un un_neg (fun B G H σ ρ x a d Q I ra hf k=>by
  cases a<;>simp only[dNeg]at hf<;>try cases hf
  exact⟨_,ra,k G H _ I (Fz.refl G) rfl⟩) ha
noncomputable def zmc (i j:Int):Bool:=(decide (i.natAbs<2^64)||decide (j.natAbs<2^64))||(decide (i.natAbs<2^4000)&&decide (j.natAbs<2^4000))
noncomputable def dMul:D->D->Option D
 | .int i,.int j=>if zmc i j then some (.int (i*j))else none
 | .lst ds,.int k=>if decide (-1000000<=k)&&decide (k<=1000000)&&decide (ds.length*k.toNat<=1000000)then some (.lst (List.replicate k.toNat ds).flatten)else none
 |_,_=>none
theorem zlJ {k:Int}(h:k.natAbs<2^4000):Builtin.Int.intBits k<=4000:=by
 unfold Builtin.Int.intBits
 split
 ·exact qbB _
 ·have:k.natAbs.log2<4000:=by
   rcases Nat.eq_zero_or_pos k.natAbs with h0|hp
   ·rw[h0];decide
   ·exact(Nat.log2_lt (Nat.ne_of_gt hp)).mpr h
  lia
theorem mulOk_ok {i j:Int}(h:zmc i j=true):IntMulOk i j:=by
 unfold zmc at h;simp only[qbC,qa9,qbA]at h;rcases h with(h|h)|⟨h1,h2⟩
 ·exact .of_left (intBits_le_64 (by lia) (by lia))
 ·exact .of_right (intBits_le_64 (by lia) (by lia))
 ·have b1:=zlJ h1;have b2:=zlJ h2;unfold IntMulOk;intro z;simp only[qa9]at z;have z2:=z.2;unfold Builtin.Int.intTooBig at z2
  revert z2
  generalize Builtin.Int.intBits i=p at*
  generalize Builtin.Int.intBits j=q at*
  intro z2;have z3:=qbD z2;have hb:=bitsLine_eq;lia
theorem op_mulG:OpR X (binaryOp .Mult) (rI IntMulOk fun i j=> .int (i*j)):=opI fun _ _ _ _ _ _ _ hc q=>mul_int q hc
theorem zcz {ma mb:ME}(ha:SE X a ma)(hb:SE X b mb):SE X (.BinOp a .Mult b pos) (m2 dMul ma mb):=by
 refine zoi (op_mulG.or op_rep) (fun B G H σ ρ x y a b d Q I ra rb hf k=>?_) ha hb;cases a with
 |int i=>cases b with
  |int j=>
   refine cIte hf fun h hf=>?_
   obtain rfl:=Option.some.inj hf;exact .inl ⟨i,j,ra,rb,mulOk_ok h,k G H _ I (Fz.refl G) rfl⟩
  |_=>exact cNN hf
 |lst ds=>cases b with
  |int j=>
   refine cIte hf fun h hf=>?_
   obtain rfl:=Option.some.inj hf;simp only[qa9,qbA]at h;obtain⟨a,xs,rfl,ha,r⟩:=I.lst ra;have hl:=r.length;refine .inr ⟨a,j,xs,rfl,rb,ha,by lia,by lia,by rw[hl,qaI];lia,fun p hp=>?_⟩;obtain⟨I2,f2,r2⟩:=I.newL hp (r.rep j.toNat);exact k _ _ _ I2 f2 r2
  |_=>exact cNN hf
 |_=>exact cNN hf
noncomputable def dAdd:D->D->Option D
 | .int i,.int j=>some (.int (i+j))
 | .tup a,.tup b=>if a.length+b.length<=16777216 then some (.tup (a++b))else none
 | .lst a,.lst b=>if a.length+b.length<=16777216 then some (.lst (a++b))else none
 | .str a,.str b=>if a.length+b.length<=16777216 then some (.str (a++b))else none
 |_,_=>none
theorem op_catT0:OpR X (binaryOp .Add) (fun x y H Q=>∃a b ys,x= .ref a/\y= .ref b/\SqT X.K H a []/\SqT X.K H b ys/\Q (.ref b) H):=by
 intro pins s σ H x y v u Q I rx ry h;obtain⟨a,b,ys,rfl,rfl,ha,hb,q⟩:=h;cases rx;cases ry;obtain⟨its,r1,p1,_⟩:=I.tuple ha;obtain⟨its2,r2,p2,_⟩:=I.tuple hb;obtain rfl:its=[]:=by cases r1;rfl
 obtain⟨⟨cls,dd,data,sl⟩,ho,hc,n,hd⟩:=id p1;obtain⟨⟨cls2,dd2,data2,sl2⟩,ho2,hc2,n2,hd2⟩:=id p2;simp only at hc hd hc2 hd2;subst hc hd hc2 hd2;exact concat_meets ⟨_,ho,rfl⟩ ⟨_,ho2,rfl⟩ noFill_tuple_add seq_tuple_add qaZ qa0 (qa1 _ _)
   (tuple_addW0 a b _ _ n n2 dd dd2 sl sl2 (by simp)) ⟨ho,ho2,⟨.ref b,H,I,rfl,q⟩⟩
theorem zav {ma mb:ME}(ha:SE X a ma)(hb:SE X b mb):SE X (.BinOp a .Add b pos) (m2 dAdd ma mb):=by
 refine zoi (op_add.or (op_catT.or (op_catT0.or (op_cat.or zqz)))) (fun B G H σ ρ x y a b d Q I ra rb hf k=>?_) ha hb;cases a with
 |int i=>cases b with
  |int j=>obtain rfl:=Option.some.inj hf;exact .inl ⟨_,_,ra,rb,k G H _ I (Fz.refl G) rfl⟩
  |_=>exact cNN hf
 |str i=>cases b with
  |str j=>
   refine cIte hf fun h hf=>?_
   obtain rfl:=Option.some.inj hf;exact .inr (.inr (.inr (.inr ⟨i,j,ra,rb,by rw[qaI];exact h,k G H _ I (Fz.refl G) rfl⟩)))
  |_=>exact cNN hf
 |lst as=>cases b with
  |lst bs=>
   refine cIte hf fun h hf=>?_
   obtain rfl:=Option.some.inj hf;obtain⟨a,xs,rfl,ha,r⟩:=I.lst ra;obtain⟨b,ys,rfl,hb,r2⟩:=I.lst rb;refine .inr (.inr (.inr (.inl ⟨a,b,xs,ys,rfl,rfl,ha,hb,by rw[r.length,r2.length,qaI];exact h,fun p hp=>?_⟩)));obtain⟨I2,f2,r2⟩:=I.newL hp (r.append r2);exact k _ _ _ I2 f2 r2
  |_=>exact cNN hf
 |tup as=>cases b with
  |tup bs=>
   refine cIte hf fun h hf=>?_
   obtain rfl:=Option.some.inj hf;obtain⟨a,xs,rfl,ha,r⟩:=I.tup ra;obtain⟨b,ys,rfl,hb,r2⟩:=I.tup rb
   by_cases z:xs=[]
   ·subst z;have z':as=[]:=qbE r.length.symm;subst z';exact .inr (.inr (.inl ⟨a,b,ys,rfl,rfl,SqT.of ha,SqT.of hb,k G H _ I (Fz.refl G) rb⟩))
   ·refine .inr (.inl ⟨a,b,xs,ys,rfl,rfl,SqT.of ha,SqT.of hb,z,by rw[r.length,r2.length,qaI];exact h,fun w=>?_,fun w p hp=>?_⟩)
    ·subst w;have w':bs=[]:=qbE r2.length.symm;subst w';rw[qaK]at k;exact k G H _ I (Fz.refl G) ra
    ·obtain⟨I2,f2,r2⟩:=I.newT hp (r.append r2);exact k _ _ _ I2 f2 r2
  |_=>exact cNN hf
 |_=>exact cNN hf
mutual
noncomputable def noS:D->Bool
 | .scr _=>false
 | .exc _=>false
 | .dic _ _=>false
 | .dit _ _=>false
 | .obj _ _ _ _ _=>false
 | .lst ds=>noSL ds
 | .tup ds=>noSL ds
 |_=>true
noncomputable def noSL:List D->Bool
 |[]=>true
 |d::ds=>noS d&&noSL ds
end
mutual
noncomputable def eqB:D->D->Bool
 | .non,.non=>true
 | .bl a,.bl b=>a==b
 | .int a,.int b=>a==b
 | .str a,.str b=>a==b
 | .bl a,.int b=>(if a then 1 else 0)==b
 | .int a,.bl b=>a==(if b then 1 else 0)
 | .lst a,.lst b=>eqBL a b
 | .tup a,.tup b=>eqBL a b
 |_,_=>false
noncomputable def eqBL:List D->List D->Bool
 |[],[]=>true
 |a::as,b::bs=>eqB a b&&eqBL as bs
 |_,_=>false
end
theorem ziV:∀{as bs:List D},as.length≠bs.length->eqBL as bs=false
 |[],[],h=>absurd rfl h
 |[],_::_,_=>rfl
 |_::_,[],_=>rfl
 |a::as,b::bs,h=>by
  have:=ziV (as:=as) (bs:=bs) (fun e=>h (by simp[e]));simp[eqBL,this]
mutual
theorem zmE:∀d,noS d=true->eqB d d=true
 | .non,_=>rfl
 | .bl b,_=>by simp[eqB]
 | .int b,_=>by simp[eqB]
 | .str b,_=>by simp[eqB]
 | .lst ds,h=>by simp only[noS]at h;simp only[eqB];exact zkw ds h
 | .tup ds,h=>by simp only[noS]at h;simp only[eqB];exact zkw ds h
 | .scr _,h=>by simp[noS]at h
 | .exc _,h=>by simp[noS]at h
 |(.dic _ _),h=>by simp[noS]at h
 |(.dit _ _),h=>by simp[noS]at h
 |(.obj _ _ _ _ _),h=>by simp[noS]at h
theorem zkw:∀ds,noSL ds=true->eqBL ds ds=true
 |[],_=>rfl
 |d::ds,h=>by
  simp only[noSL,qa9]at h;simp only[eqBL,qa9];exact⟨zmE d h.1,zkw ds h.2⟩
end
mutual
noncomputable def depth:D->Nat
 | .lst ds=>zjf ds+1
 | .tup ds=>zjf ds+1
 |_=>0
noncomputable def zjf:List D->Nat
 |[]=>0
 |d::ds=>max (depth d) (zjf ds)
end
theorem zlE:∀{l:List D} {i:Nat} {d:D},l[i]? =some d->depth d<=zjf l
 |[],_,_,h=>by simp at h
 |c::l,0,d,h=>by simp at h;subst h;simp only[zjf];lia
 |c::l,i+1,d,h=>by
  have:=zlE (l:=l) (i:=i) (d:=d) (by simpa using h);simp only[zjf];lia
theorem ziX:∀{l:List D} {i:Nat} {d:D},l[i]? =some d->noSL l=true->noS d=true
 |[],_,_,h,_=>by simp at h
 |c::l,0,d,h,z=>by simp at h;subst h;simp only[noSL,qa9]at z;exact z.1
 |c::l,i+1,d,h,z=>by simp only[noSL,qa9]at z;exact ziX (l:=l) (i:=i) (by simpa using h) z.2
mutual
theorem RepD.inj:∀{a b:D} {x:V},noS a=true->noS b=true->RepD K G x a->RepD K G x b->a=b
 | .non,b,x,_,nb,ra,rb=>by
  cases(show x=V.non from ra);cases b<;>simp_all [RepD,noS]
 | .bl c,b,x,_,nb,ra,rb=>by
  cases(show x=V.bl c from ra);cases b<;>simp_all [RepD,noS]
 | .int c,b,x,_,nb,ra,rb=>by
  cases(show x=V.int c from ra);cases b<;>simp_all [RepD,noS]
 | .str c,b,x,_,nb,ra,rb=>by
  cases(show x=V.str c from ra);cases b<;>simp_all [RepD,noS]
 | .lst ds,b,x,na,nb,ra,rb=>by
  obtain⟨p,xs,rfl,q,r⟩:=ra;cases b with
  |lst es=>
   obtain⟨p2,ys,e,q2,r2⟩:=rb;cases e;rw[q]at q2;cases q2;simp only[noS]at na nb;rw[RepL.inj na nb r r2]
  |tup es=>
   obtain⟨p2,ys,e,q2,r2⟩:=rb;cases e;rw[q]at q2;cases q2
  |scr _=>simp[noS]at nb
  |exc _=>simp[noS]at nb
  |dic _ _=>simp[noS]at nb
  |dit _ _=>simp[noS]at nb
  |obj _ _ _ _ _=>simp[noS]at nb
  |non=>simp[RepD]at rb
  |bl _=>simp[RepD]at rb
  |int _=>simp[RepD]at rb
  |str _=>simp[RepD]at rb
 | .tup ds,b,x,na,nb,ra,rb=>by
  obtain⟨p,xs,rfl,q,r⟩:=ra;cases b with
  |tup es=>
   obtain⟨p2,ys,e,q2,r2⟩:=rb;cases e;rw[q]at q2;cases q2;simp only[noS]at na nb;rw[RepL.inj na nb r r2]
  |lst es=>
   obtain⟨p2,ys,e,q2,r2⟩:=rb;cases e;rw[q]at q2;cases q2
  |scr _=>simp[noS]at nb
  |exc _=>simp[noS]at nb
  |dic _ _=>simp[noS]at nb
  |dit _ _=>simp[noS]at nb
  |obj _ _ _ _ _=>simp[noS]at nb
  |non=>simp[RepD]at rb
  |bl _=>simp[RepD]at rb
  |int _=>simp[RepD]at rb
  |str _=>simp[RepD]at rb
 | .scr _,_,_,na,_,_,_=>by simp[noS]at na
 | .exc _,_,_,na,_,_,_=>by simp[noS]at na
 |(.dic _ _),_,_,na,_,_,_=>by simp[noS]at na
 |(.dit _ _),_,_,na,_,_,_=>by simp[noS]at na
 |(.obj _ _ _ _ _),_,_,na,_,_,_=>by simp[noS]at na
theorem RepL.inj:∀{as bs:List D} {xs:List V},noSL as=true->noSL bs=true->RepL K G xs as->RepL K G xs bs->as=bs
 |[],[],_,_,_,_,_=>rfl
 |[],_::_,xs,_,_,e,h=>by
  obtain⟨_,_,e2,_⟩:=h;cases(show xs=[]from e);cases e2
 |_::_,[],xs,_,_,h,e=>by
  obtain⟨_,_,e2,_⟩:=h;cases(show xs=[]from e);cases e2
 |a::as,b::bs,xs,na,nb,h,h2=>by
  obtain⟨x,ys,e,q,r⟩:=h;obtain⟨x2,ys2,e2,q2,r2⟩:=h2;subst e;cases e2;simp only[noSL,qa9]at na nb;rw[RepD.inj na.1 nb.1 q q2,RepL.inj na.2 nb.2 r r2]
end
noncomputable def eqJ (ds es:List D)(j:Nat):Bool:=match ds[j]?,es[j]? with
 |some a,some b=>eqB a b
 |_,_=>false
theorem zeP:∀(as bs:List D),as.length=bs.length->(List.range as.length).all (eqJ as bs)=eqBL as bs
 |[],[],_=>by simp[eqBL]
 |a::as,b::bs,h=>by
  have ih:=zeP as bs (by simpa using h);rw[qbr,List.range_succ_eq_map,List.all_cons,List.all_map];simp only[eqBL,<-ih];congr 1
 |[],_::_,h=>by simp at h
 |_::_,[],h=>by simp at h
section
variable {X:Cx} {pins:List (Addr×Obj)} {σ:St} {H G:Hp} {s:Shared}
theorem zqX (r:Vals xs us)(h:RepL X.K G xs ds)(e:us[j]? =some u):∃x d,ds[j]? =some d/\RelV x u/\RepD X.K G x d:=by
 have hl:=r.length;have hl2:=h.length;have hj:j<us.length:=(qap.mp e).1;have ej:ds[j]? =some ds[j]:=qbF (by lia);obtain⟨x,q1,q2⟩:=h.get ej;obtain⟨u',h1,h2⟩:=r.get q1;have:u'=u:=by rw[h1]at e;exact Option.some.inj e
 subst this;exact⟨x,_,ej,h2,q2⟩
inductive Sh (K:W.Frag) (G:Hp) (s:Shared):D->Value->Prop
 |non:Sh K G s .non .none
 |bl (c:Bool):Sh K G s (.bl c) (.bool c)
 |int (c:Int) (t:Tok):Sh K G s (.int c) (.int c t)
 |str (c:Str) (t:Tok):Sh K G s (.str c) (.str c t)
 |lst {ds:List D} {p:Addr} {xs:List V} {its:List Value} (q:G p=some (.lst xs)) (r:RepL K G xs ds) (rv:Vals xs its) (pl:PlainL s.heap p its.toArray):Sh K G s (.lst ds) (.ref p)
 |tup {ds:List D} {p:Addr} {xs:List V} {its:List Value} (q:G p=some (.tup xs)) (r:RepL K G xs ds) (rv:Vals xs its) (pl:IsTup s.heap p its.toArray):Sh K G s (.tup ds) (.ref p)
theorem zqx (I:Inv X pins σ H s)(fz:Fz G H){x:V}(na:noS d=true)(ra:RepD X.K G x d)(rx:RelV x u):Sh X.K G s d u:=by
 cases d with
 |non=>rw[show x=V.non from ra]at rx;rw[show u=Value.none from rx];exact .non
 |bl c=>rw[show x=V.bl c from ra]at rx;rw[show u=Value.bool c from rx];exact .bl c
 |int c=>rw[show x=V.int c from ra]at rx;exact Exists.elim rx fun t e=>by rw[e];exact .int c t
 |str c=>rw[show x=V.str c from ra]at rx;exact Exists.elim rx fun t e=>by rw[e];exact .str c t
 |lst ds=>
  obtain⟨p,xs,e,q,r⟩:=ra;rw[e]at rx;rw[show u=Value.ref p from rx];exact(I.list (SqL.of (fz _ _ q))).elim fun its h=> .lst q r h.1 h.2.1
 |tup ds=>
  obtain⟨p,xs,e,q,r⟩:=ra;rw[e]at rx;rw[show u=Value.ref p from rx];exact(I.tuple (SqT.of (fz _ _ q))).elim fun its h=> .tup q r h.1 h.2.1
 |_=>exact nomatch (show false=true from na)
theorem zlV (I:Inv X pins σ H s)(fz:Fz G H)(ih:∀(a b:D) (u v:Value),depth a<n->noS a=true->noS b=true->Sh X.K G s a u->Sh X.K G s b v->SeqAt.EqAt A s u v (eqB a b))
  {ds es:List D} {xs ys:List V} {its its2:List Value} (hd:zjf ds<n) (nd:noSL ds=true) (ne:noSL es=true) (r:RepL X.K G xs ds) (r2:RepL X.K G ys es) (rv:Vals xs its) (rv2:Vals ys its2) (j:Nat) (h1:j<its.toArray.size) (h2:j<its2.toArray.size):SeqAt.EqAt A s its.toArray[j] its2.toArray[j] (eqJ ds es j):=by
 rw[qaJ]at h1 h2;obtain⟨x1,d1,e1,k1,m1⟩:=zqX rv r (j:=j) (u:=its[j]) (qbF h1);obtain⟨x2,d2,e2,k2,m2⟩:=zqX rv2 r2 (j:=j) (u:=its2[j]) (qbF h2);rw[show eqJ ds es j=eqB d1 d2 by unfold eqJ;rw[e1,e2]];exact ih d1 d2 _ _ (qbG (zlE e1) hd) (ziX e1 nd) (ziX e2 ne) (zqx I fz (ziX e1 nd) m1 k1) (zqx I fz (ziX e2 ne) m2 k2)
theorem zs0 (I:Inv X pins σ H s)(fz:Fz G H)(n:Nat):∀(A:Around) (a b:D) (u v:Value),depth a<n->noS a=true->noS b=true->A.units+n<cLine->Sh X.K G s a u->Sh X.K G s b v->
  SeqAt.EqAt A s u v (eqB a b)/\SeqAt.RcAt A s u v (eqB a b):=by
 induction n with
 |zero=>intro A a b u v hd;exact absurd hd (Nat.not_lt_zero _)
 |succ n ih=>
  intro A a b u v hd na nb hu ha hb;have hu':A.units<cLine:=by lia
  cases ha with
  |non=>cases hb with
   |non=>exact⟨.same _,.none_none⟩
   |bl c=>exact⟨.none_bool _,.none_bool _⟩
   |int c t=>exact⟨.none_int _ _,.none_int _ _⟩
   |str c t=>exact⟨.none_str _ _,.none_str _ _⟩
   |lst _ _ _ pl=>exact⟨.none_list pl.isList hu',.none_list pl.isList hu'⟩
   |tup _ _ _ pl=>exact⟨.none_tuple pl hu',.none_tuple pl hu'⟩
  |bl c0=>cases hb with
   |non=>exact⟨.bool_none _,.bool_none _⟩
   |bl c=>exact⟨.bool_bool _ _,.bool_bool _ _⟩
   |int c t=>exact⟨.bool_int _ _ _,.bool_int _ _ _⟩
   |str c t=>exact⟨.bool_str _ _ _,.bool_str _ _ _⟩
   |lst _ _ _ pl=>exact⟨.bool_list _ pl.isList hu',.bool_list _ pl.isList hu'⟩
   |tup _ _ _ pl=>exact⟨.bool_tuple _ pl hu',.bool_tuple _ pl hu'⟩
  |int c0 t0=>cases hb with
   |non=>exact⟨.int_none _ _,.int_none _ _⟩
   |bl c=>exact⟨.int_bool _ _ _,.int_bool _ _ _⟩
   |int c t=>exact⟨.int_int _ _ _ _,.int_int _ _ _ _⟩
   |str c t=>exact⟨.int_str _ _ _ _,.int_str _ _ _ _⟩
   |lst _ _ _ pl=>exact⟨.int_list _ _ pl.isList hu',.int_list _ _ pl.isList hu'⟩
   |tup _ _ _ pl=>exact⟨.int_tuple _ _ pl hu',.int_tuple _ _ pl hu'⟩
  |str c0 t0=>cases hb with
   |non=>exact⟨.str_none _ _,.str_none _ _⟩
   |bl c=>exact⟨.str_bool _ _ _,.str_bool _ _ _⟩
   |int c t=>exact⟨.str_int _ _ _ _,.str_int _ _ _ _⟩
   |str c t=>exact⟨.str_str _ _ _ _,.str_str _ _ _ _⟩
   |lst _ _ _ pl=>exact⟨.str_list _ _ pl.isList hu',.str_list _ _ pl.isList hu'⟩
   |tup _ _ _ pl=>exact⟨.str_tuple _ _ pl hu',.str_tuple _ _ pl hu'⟩
  | @lst ds p xs its q r rv pl=>cases hb with
   |non=>exact⟨.list_none pl.isList hu',.list_none pl.isList hu'⟩
   |bl c=>exact⟨.list_bool _ pl.isList hu',.list_bool _ pl.isList hu'⟩
   |int c t=>exact⟨.list_int _ _ pl.isList hu',.list_int _ _ pl.isList hu'⟩
   |str c t=>exact⟨.list_str _ _ pl.isList hu',.list_str _ _ pl.isList hu'⟩
   |tup _ _ _ pl2=>exact⟨.list_tuple pl.isList pl2 hu',.list_tuple pl.isList pl2 hu'⟩
   | @lst es p2 ys its2 q2 r2 rv2 pl2=>
    have l1:=rv.length;have l2:=r.length;have l3:=rv2.length;have l4:=r2.length;have rc:SeqAt.RcAt A s (.ref p) (.ref p2) (eqBL ds es):=by
     by_cases hl:ds.length=es.length
     ·have z:=SeqAt.RcAt.lists (A:=A) (s:=s) (e:=eqJ ds es) pl.isList pl2.isList (by rw[qaJ,qaJ];lia) hu' (zlV I fz (fun a b u v h1 h2 h3 h4 h5=>(ih A.in1 a b u v h1 h2 h3 (by show A.units+1+n<cLine;lia) h4 h5).1) (Nat.lt_of_succ_lt_succ hd) na nb r r2 rv rv2);rw[qaJ,<-l1,l2,zeP ds es hl]at z;exact z
     ·rw[ziV hl];refine .lists_lengths pl.isList pl2.isList ?_ hu';rw[qaJ,qaJ,bne_iff_ne];lia
    refine⟨?_,rc⟩
    by_cases hp:p=p2
    ·subst hp;rw[show D.lst ds= .lst es from RepD.inj na nb ⟨p,xs,rfl,q,r⟩ ⟨p,ys,rfl,q2,r2⟩,zmE _ nb];exact .same _
    ·exact .of_refs hp rc
  | @tup ds p xs its q r rv pl=>cases hb with
   |non=>exact⟨.tuple_none pl hu',.tuple_none pl hu'⟩
   |bl c=>exact⟨.tuple_bool _ pl hu',.tuple_bool _ pl hu'⟩
   |int c t=>exact⟨.tuple_int _ _ pl hu',.tuple_int _ _ pl hu'⟩
   |str c t=>exact⟨.tuple_str _ _ pl hu',.tuple_str _ _ pl hu'⟩
   |lst _ _ _ pl2=>exact⟨.tuple_list pl pl2.isList hu',.tuple_list pl pl2.isList hu'⟩
   | @tup es p2 ys its2 q2 r2 rv2 pl2=>
    have l1:=rv.length;have l2:=r.length;have l3:=rv2.length;have l4:=r2.length;have rc:SeqAt.RcAt A s (.ref p) (.ref p2) (eqBL ds es):=by
     have z:=SeqAt.RcAt.tuples (A:=A) (s:=s) (e:=eqJ ds es) pl pl2 hu' (zlV I fz (fun a b u v h1 h2 h3 h4 h5=>(ih A.in1 a b u v h1 h2 h3 (by show A.units+1+n<cLine;lia) h4 h5).1) (Nat.lt_of_succ_lt_succ hd) na nb r r2 rv rv2);rw[qaJ,qaJ]at z
     by_cases hl:ds.length=es.length
     ·rw[show min its.length its2.length=ds.length by lia,show(its.length==its2.length)=true from qbH.mpr (by lia),Bool.and_true,zeP ds es hl]at z;exact z
     ·rw[show(its.length==its2.length)=false from qab.mpr (by lia),Bool.and_false]at z;rw[ziV hl];exact z
    refine⟨?_,rc⟩
    by_cases hp:p=p2
    ·subst hp;rw[show D.tup ds= .tup es from RepD.inj na nb ⟨p,xs,rfl,q,r⟩ ⟨p,ys,rfl,q2,r2⟩,zmE _ nb];exact .same _
    ·exact .of_refs hp rc
theorem eqAt_D (I:Inv X pins σ H s)(fz:Fz G H)(n:Nat)(A:Around)(a b:D)(x y:V)(u v:Value)(hd:depth a<=n)(na:noS a=true)(nb:noS b=true)(hu:A.units+n+1<cLine)(ra:RepD X.K G x a)(rb:RepD X.K G y b)(rx:RelV x u)(ry:RelV y v):
  SeqAt.EqAt A s u v (eqB a b)/\SeqAt.RcAt A s u v (eqB a b):=zs0 I fz (n+1) A a b u v (Nat.lt_succ_of_le hd) na nb hu (zqx I fz na ra rx) (zqx I fz nb rb ry)
end
noncomputable def dEq (a b:D):Option D:=if noS a&&noS b&&decide (depth a<=50)then some (.bl (eqB a b))else none
noncomputable def dNe (a b:D):Option D:=if noS a&&noS b&&decide (depth a<=50)then some (.bl (!eqB a b))else none
noncomputable def rEqD (K:W.Frag)(c:Bool->Bool):R2:=fun x y H Q=>∃G a b,Fz G H/\RepD K G x a/\RepD K G y b/\noS a=true/\noS b=true/\depth a<=50/\Q (.bl (c (eqB a b))) H
theorem op_eqD (hu:X.A.units+64<cLine):OpR X (compareOp .Eq) (rEqD X.K id):=by
 intro pins s σ H x y v u Q I rx ry h;obtain⟨G,a,b,fz,ra,rb,na,nb,hd,q⟩:=h;exact(eqAt_D I fz 50 X.A a b x y v u hd na nb (by lia) ra rb rx ry).2 _ _ _ _ ⟨.bl _,H,I,rfl,q⟩
theorem zsU {ma mb:ME}(hu:X.A.units+64<cLine)(ha:SE X a ma)(hb:SE X b mb):SE X (.Compare a [.Eq] [b] pos) (m2 dEq ma mb):=by
 refine zpL (op_eqD hu) (fun B G H σ ρ x y a b d Q I ra rb hf k=>?_) ha hb (zh0 _);unfold dEq at hf;refine cIte hf fun h hf=>?_
 simp only[qa9,qbA]at h;cases hf;exact⟨G,a,b,I.fz,ra,rb,h.1.1,h.1.2,h.2,k G H _ I (Fz.refl G) rfl⟩
section
variable {X:Cx} {pins:List (Addr×Obj)} {σ:St} {H G:Hp} {s:Shared}
theorem neAt_Sh (I:Inv X pins σ H s)(fz:Fz G H)(A:Around)(a b:D)(u v:Value)(hd:depth a<=50)(na:noS a=true)(nb:noS b=true)(hu:A.units+64<cLine)(ha:Sh X.K G s a u)(hb:Sh X.K G s b v):SeqAt.RcNeAt A s u v (!eqB a b):=by
 have hu':A.units<cLine:=by lia
 have ih:∀(a b:D) (u v:Value),depth a<50->noS a=true->noS b=true->Sh X.K G s a u->Sh X.K G s b v->SeqAt.EqAt A.in1 s u v (eqB a b):=fun a b u v h1 h2 h3 h4 h5=>(zs0 I fz 50 A.in1 a b u v h1 h2 h3 (by show A.units+1+50<cLine;lia) h4 h5).1
 cases ha with
 |non=>cases hb with
  |non=>exact .none_none
  |bl c=>exact .none_bool _
  |int c t=>exact .none_int _ _
  |str c t=>exact .none_str _ _
  |lst _ _ _ pl=>exact .none_list pl.isList hu'
  |tup _ _ _ pl=>exact .none_tuple pl hu'
 |bl c0=>cases hb with
  |non=>exact .bool_none _
  |bl c=>exact .bool_bool _ _
  |int c t=>exact .bool_int _ _ _
  |str c t=>exact .bool_str _ _ _
  |lst _ _ _ pl=>exact .bool_list _ pl.isList hu'
  |tup _ _ _ pl=>exact .bool_tuple _ pl hu'
 |int c0 t0=>cases hb with
  |non=>exact .int_none _ _
  |bl c=>exact .int_bool _ _ _
  |int c t=>exact .int_int _ _ _ _
  |str c t=>exact .int_str _ _ _ _
  |lst _ _ _ pl=>exact .int_list _ _ pl.isList hu'
  |tup _ _ _ pl=>exact .int_tuple _ _ pl hu'
 |str c0 t0=>cases hb with
  |non=>exact .str_none _ _
  |bl c=>exact .str_bool _ _ _
  |int c t=>exact .str_int _ _ _ _
  |str c t=>exact .str_str _ _ _ _
  |lst _ _ _ pl=>exact .str_list _ _ pl.isList hu'
  |tup _ _ _ pl=>exact .str_tuple _ _ pl hu'
 | @lst ds p xs its q r rv pl=>cases hb with
  |non=>exact .list_none pl.isList hu'
  |bl c=>exact .list_bool _ pl.isList hu'
  |int c t=>exact .list_int _ _ pl.isList hu'
  |str c t=>exact .list_str _ _ pl.isList hu'
  |tup _ _ _ pl2=>exact .list_tuple pl.isList pl2 hu'
  | @lst es p2 ys its2 q2 r2 rv2 pl2=>
   have l1:=rv.length;have l2:=r.length;have l3:=rv2.length;have l4:=r2.length;show SeqAt.RcNeAt A s (.ref p) (.ref p2) (!eqBL ds es)
   by_cases hl:ds.length=es.length
   ·have z:=SeqAt.RcNeAt.lists (A:=A) (s:=s) (e:=eqJ ds es) pl.isList pl2.isList (by rw[qaJ,qaJ];lia) hu' (zlV I fz ih (Nat.lt_of_succ_le hd) na nb r r2 rv rv2);rw[qaJ,<-l1,l2,zeP ds es hl]at z;exact z
   ·rw[ziV hl];refine .lists_lengths pl.isList pl2.isList ?_ hu';rw[qaJ,qaJ,bne_iff_ne];lia
 | @tup ds p xs its q r rv pl=>cases hb with
  |non=>exact .tuple_none pl hu'
  |bl c=>exact .tuple_bool _ pl hu'
  |int c t=>exact .tuple_int _ _ pl hu'
  |str c t=>exact .tuple_str _ _ pl hu'
  |lst _ _ _ pl2=>exact .tuple_list pl pl2.isList hu'
  | @tup es p2 ys its2 q2 r2 rv2 pl2=>
   have l1:=rv.length;have l2:=r.length;have l3:=rv2.length;have l4:=r2.length;show SeqAt.RcNeAt A s (.ref p) (.ref p2) (!eqBL ds es);have z:=SeqAt.RcNeAt.tuples (A:=A) (s:=s) (e:=eqJ ds es) pl pl2 hu' (zlV I fz ih (Nat.lt_of_succ_le hd) na nb r r2 rv rv2);rw[qaJ,qaJ]at z
   by_cases hl:ds.length=es.length
   ·rw[show min its.length its2.length=ds.length by lia,show(its.length==its2.length)=true from qbH.mpr (by lia),Bool.and_true,zeP ds es hl]at z;exact z
   ·rw[show(its.length==its2.length)=false from qab.mpr (by lia),Bool.and_false]at z;rw[ziV hl];exact z
theorem neAt_D (I:Inv X pins σ H s)(fz:Fz G H)(A:Around)(a b:D)(x y:V)(u v:Value)(hd:depth a<=50)(na:noS a=true)(nb:noS b=true)(hu:A.units+64<cLine)(ra:RepD X.K G x a)(rb:RepD X.K G y b)(rx:RelV x u)(ry:RelV y v):
  SeqAt.RcNeAt A s u v (!eqB a b):=neAt_Sh I fz A a b u v hd na nb hu (zqx I fz na ra rx) (zqx I fz nb rb ry)
end
theorem op_neD (hu:X.A.units+64<cLine):OpR X (compareOp .NotEq) (rEqD X.K not):=by
 intro pins s σ H x y v u Q I rx ry h;obtain⟨G,a,b,fz,ra,rb,na,nb,hd,q⟩:=h;exact neAt_D I fz X.A a b x y v u hd na nb hu ra rb rx ry _ _ _ _ ⟨.bl _,H,I,rfl,q⟩
theorem v2_ne:V2 X (rEqD X.K not) dNe:=by
 intro B G H σ ρ x y a b d Q I ra rb hf k;unfold dNe at hf;refine cIte hf fun h hf=>?_
 simp only[qa9,qbA]at h;cases hf;exact⟨G,a,b,I.fz,ra,rb,h.1.1,h.1.2,h.2,k G H _ I (Fz.refl G) rfl⟩
theorem v2_eq:V2 X (rEqD X.K id) dEq:=by
 intro B G H σ ρ x y a b d Q I ra rb hf k;unfold dEq at hf;refine cIte hf fun h hf=>?_
 simp only[qa9,qbA]at h;cases hf;exact⟨G,a,b,I.fz,ra,rb,h.1.1,h.1.2,h.2,k G H _ I (Fz.refl G) rfl⟩
noncomputable def dIx:D->D->Option D
 | .lst ds,.int i=>atI ds i
 | .tup ds,.int i=>atI ds i
 | .scr ns,.int i=>(atI ns i).map .int
 |_,_=>none
theorem atI_map {α β:Type}(f:α->β){xs:List α}{i:Int}{v:α}(h:atI xs i=some v):atI (xs.map f) i=some (f v):=by
 unfold atI at h ⊢;rw[qaX];cases q:ixN xs.length i with
 |none=>rw[q]at h;exact cNN h
 |some j=>
  rw[q]at h;show(xs.map f)[j]? =_;rw[qaT,show xs[j]? =some v from h]
  rfl
noncomputable def ReadD (K:W.Frag)(G H:Hp)(v:V):D->Prop
 | .lst ds=>∃a xs,v= .ref a/\H a=some (.lst xs)/\RepL K G xs ds
 |d=>RepD K G v d
theorem ReadD.of (fz:Fz G H)(h:RepD K G v d):ReadD K G H v d:=by
 cases d with
 |lst ds=>obtain⟨a,xs,e,q,r⟩:=h;exact⟨a,xs,e,fz a _ q,r⟩
 |_=>exact h
noncomputable def Sl.read:Sl->Option D
 | .emp=>none
 | .two _ _=>none
 | .tre _=>none
 | .ptr _=>none
 | .val d=>some d
 | .own ds=>some (.lst ds)
 | .par ds=>some (.lst ds)
noncomputable def hasV (ρ:R)(j:Nat):Bool:=match ρ[j]? with
 |some (.val _)=>true
 |some (.own _)=>true
 |some (.par _)=>true
 |_=>false
theorem SI.has (I:SI K B G H σ ρ)(h:hasV ρ j=true):∃v,σ[j]? =some (some v):=by
 unfold hasV at h;cases e:ρ[j]? with
 |none=>rw[e]at h;cases h
 |some s=>
  rw[e]at h;have q:=I.slot j s e;cases s with
  |emp=>cases h
  |two _ _=>cases h
  |tre _=>cases h
  |ptr _=>cases h
  |val d=>obtain⟨v,e,_⟩:=q;exact⟨v,e⟩
  |own d=>obtain⟨l,_,e,_⟩:=q;exact⟨_,e⟩
  |par d=>obtain⟨l,_,e,_⟩:=q;exact⟨_,e⟩
theorem SI.read (I:SI K B G H σ ρ)(hv:σ[j]? =some (some v))(e:ρ[j]? =some s)(q:s.read=some d):ReadD K G H v d:=by
 have h:=I.slot j s e;cases s with
 |emp=>exact cNN q
 |two _ _=>exact cNN q
 |tre _=>exact cNN q
 |ptr _=>exact cNN q
 |val d'=>
  cases q;obtain⟨w,e1,r⟩:=h;rw[hv]at e1;cases e1;exact .of I.fz r
 |own ds=>
  cases q;obtain⟨l,xs,e1,_,h3,h4,_⟩:=h;rw[hv]at e1;cases e1;exact⟨l,xs,rfl,h3,h4⟩
 |par ds=>
  cases q;obtain⟨l,xs,e1,_,h3,h4,_⟩:=h;rw[hv]at e1;cases e1;exact⟨l,xs,rfl,h3,h4⟩
theorem zsw {x y:V}{a b d:D}{Q:VK}(I:SI K B G H σ ρ)(ra:ReadD K G H x a)(rb:RepD K G y b)(hf:dIx a b=some d)(k:∀v,RepD K G v d->Q v H):rIx K x y H Q:=by
 cases a<;>cases b<;>simp only[dIx]at hf<;>try exact cNN hf
 ·rename_i ds i;obtain⟨p,xs,rfl,hp,r⟩:=ra;obtain⟨v,e,q⟩:=r.at hf;exact .inl ⟨p,xs,i,v,rfl,rb,SqL.of hp,e,k _ q⟩
 ·rename_i ds i;obtain⟨p,xs,rfl,hp,r⟩:=I.tup ra;obtain⟨v,e,q⟩:=r.at hf;exact .inr (.inl ⟨p,xs,i,v,rfl,rb,SqT.of hp,e,k _ q⟩)
 ·rename_i ns i;obtain⟨p,rfl,hp⟩:=ra;cases e:atI ns i with
  |none=>rw[e]at hf;exact cNN hf
  |some n=>
   rw[e]at hf;cases hf;exact .inl ⟨p,_,i,.int n,rfl,rb,I.fz.sql hp,atI_map V.int e,k _ rfl⟩
theorem v2_ix:V2 X (rIx X.K) dIx:=fun B G H σ ρ x y a b d Q I ra rb hf k=>zsw I (.of I.fz ra) rb hf fun v q=>k G H v I (Fz.refl G) q
theorem zaA {ma mb:ME}(ha:SE X a ma)(hb:SE X b mb)(hs:zmN b:=by exact fun _ _=>rfl):SE X (.Subscript a b pos) (m2 dIx ma mb):=se_ix ix_seq v2_ix ha hb hs
noncomputable def eIxV (j:Nat)(mi:ME):ME:=fun ρ=>if hasV ρ j then(mi ρ).bind fun p=>(p.2[j]?.bind Sl.read).bind fun d=>(dIx d p.1).map fun e=>(e,p.2)else none
theorem zai (j:Nat)(hb:SE X b mb)(hN:X.N[j]? =some x:=by rfl)(hv:Vis X.env.scope x:=by trivial)(hd:(x==("__debug__":Str))=false:=by decide)
    (hcd:(x==("__classdict__":Str))=false:=by decide) (hs:zmN b:=by exact fun _ _=>rfl):SE X (.Subscript (.Name x pos') b pos) (eIxV j mb):=by
  refine hb.el fun tb pb sb=>?_
  refine⟨_,pe_ix ix_seq (zfO hN hv hd hcd) pb hs,fun B G H σ ρ d ρ' Q I hm k=>?_⟩;unfold eIxV at hm;refine cIte hm fun hh hm=>?_
  obtain⟨v,ev⟩:=I.has hh;cases e1:mb ρ with
  |none=>rw[e1]at hm;exact cNN hm
  |some q=>
    obtain⟨i,ρ1⟩:=q;rw[e1]at hm;simp only[qbw]at hm;cases e2:ρ1[j]? with
    |none=>rw[e2]at hm;exact cNN hm
    |some s=>
      rw[e2]at hm;simp only[qbw]at hm;cases e3:s.read with
      |none=>rw[e3]at hm;exact cNN hm
      |some a=>
        rw[e3]at hm;simp only[qbw]at hm;cases e4:dIx a i with
        |none=>rw[e4]at hm;exact cNN hm
        |some c=>
          rw[e4]at hm;cases hm;exact⟨v,ev,sb B G H σ ρ i ρ' _ I e1 fun G1 H1 y I1 f1 r1=>zsw I1 (I1.read ev e2 e3) r1 e4 fun w q=>k G1 H1 w I1 f1 q⟩
noncomputable def dLen:List D->Option D
 |[.lst ds]=>some (.int ds.length)
 |[.tup ds]=>some (.int ds.length)
 |[.scr ns]=>some (.int ns.length)
 |_=>none
theorem zpR {x:V}{a d:D}{Q:VK}(I:SI K B G H σ ρ)(ra:ReadD K G H x a)(hf:dLen [a]=some d)(k:∀v,RepD K G v d->Q v H):
  ∃p ys,[x]=[V.ref p]/\(SqL K H p ys\/SqT K H p ys)/\Q (.int ys.length) H:=by
 cases a<;>simp only[dLen]at hf<;>try cases hf
 ·obtain⟨p,xs,rfl,hp,r⟩:=ra;exact⟨p,xs,rfl,.inl (SqL.of hp),by rw[r.length];exact k _ rfl⟩
 ·obtain⟨p,xs,rfl,hp,r⟩:=I.tup ra;exact⟨p,xs,rfl,.inr (SqT.of hp),by rw[r.length];exact k _ rfl⟩
 ·obtain⟨p,rfl,hp⟩:=ra;exact⟨p,_,rfl,.inl (I.fz.sql hp),by rw[qaX];exact k _ rfl⟩
theorem RepL.one (h:RepL K G xs [d]):∃x,xs=[x]/\RepD K G x d:=by
 obtain⟨x,ys,e,q,r⟩:=h;cases(show ys=[]from r);exact⟨x,e,q⟩
theorem RepL.two {a b:D}(h:RepL K G xs [a,b]):∃x y,xs=[x,y]/\RepD K G x a/\RepD K G y b:=by
 obtain⟨x,ys,e,q,r⟩:=h;obtain⟨y,e2,q2⟩:=r.one;subst e2;exact⟨x,y,e,q,q2⟩
theorem dLen_one (h:dLen ds=some d):∃a,ds=[a]:=by
 match ds,h with
 |[a],_=>exact⟨a,rfl⟩
 |[],h=>exact cNN h
 |_::_::_,h=>simp[dLen]at h
theorem vc_len:VC X (fun xs H Q=>∃p ys,xs=[.ref p]/\(SqL X.K H p ys\/SqT X.K H p ys)/\Q (.int ys.length) H) dLen:=by
 intro B G H σ ρ xs ds d Q I r hf k;obtain⟨a,rfl⟩:=dLen_one hf;obtain⟨x,rfl,ra⟩:=r.one;exact zpR I (.of I.fz ra) hf fun v q=>k G H v I (Fz.refl G) q
theorem zdQ (ml:X.mg "len"=none)(ha:SA X [e] ma)(hg:Gl X "len":=by rfl)(he:starEach [e] X.env=(false,eval e X.env)::starEach [] X.env:=by rfl):SE X (.Call (.Name "len" p) [e] [] pos) (mC dLen ma):=
 zdX zj0 vc_len PySem.boot_len ml ha hg (by decide) (by decide) he rfl
noncomputable def zdf (j:Nat):ME:=fun ρ=>(ρ[j]?.bind Sl.read).bind fun d=>(dLen [d]).map fun e=>(e,ρ)
theorem za2 (j:Nat)(ml:X.mg "len"=none)(hN:X.N[j]? =some x:=by rfl)(hv:Vis X.env.scope x:=by trivial)(hd:(x==("__debug__":Str))=false:=by decide)
  (hcd:(x==("__classdict__":Str))=false:=by decide) (hg:Gl X "len":=by rfl) (he:starEach [.Name x pos'] X.env=(false,eval (.Name x pos') X.env)::starEach [] X.env:=by rfl):SE X (.Call (.Name "len" p) [.Name x pos'] [] pos) (zdf j):=by
 refine⟨_,zpv zj0 hg ml PySem.boot_len (zko (zfO hN hv hd hcd) zpe he) (by decide) (by decide) he rfl,fun B G H σ ρ d ρ' Q I hm k=>?_⟩;unfold zdf at hm;cases e2:ρ[j]? with
 |none=>rw[e2]at hm;exact cNN hm
 |some s=>
  rw[e2]at hm;simp only[qbw]at hm;cases e3:s.read with
  |none=>rw[e3]at hm;exact cNN hm
  |some a=>
   rw[e3]at hm;simp only[qbw]at hm;cases e4:dLen [a]with
   |none=>rw[e4]at hm;exact cNN hm
   |some c=>
    rw[e4]at hm;obtain⟨rfl,rfl⟩:=cSp hm;have hh:hasV ρ j=true:=by
     unfold hasV;rw[e2];cases s<;>first|rfl|exact cNN e3
    obtain⟨v,ev⟩:=I.has hh;exact⟨v,ev,zpR I (I.read ev e2 e3) e4 fun w q=>k G H w I (Fz.refl G) q⟩
noncomputable def zck:List D->Option D
 |[.lst ds]=>some (.tup ds)
 |[.tup ds]=>some (.tup ds)
 |[.scr ns]=>some (.tup (ns.map .int))
 |_=>none
theorem vc_tuple:VC X (fun xs H Q=>∃p ys,xs=[.ref p]/\((SqL X.K H p ys/\∀l,H l=none->Q (.ref l) (upd H l (.tup ys)))\/(SqT X.K H p ys/\Q (.ref p) H))) zck:=by
 intro B G H σ ρ xs ds d Q I r hf k
 match ds,hf with
 |[a],hf=>
  obtain⟨x,rfl,ra⟩:=r.one;cases a<;>simp only[zck]at hf<;>try cases hf
  ·obtain⟨p,ys,rfl,hp,q⟩:=I.lst ra;refine⟨p,ys,rfl,.inl ⟨SqL.of hp,fun l hl=>?_⟩⟩;obtain⟨I2,f2,r2⟩:=I.newT hl q;exact k _ _ _ I2 f2 r2
  ·obtain⟨p,ys,e,hp,q⟩:=I.tup ra;subst e;exact⟨p,ys,rfl,.inr ⟨SqT.of hp,k G H _ I (Fz.refl G) ra⟩⟩
  ·obtain⟨p,rfl,hp⟩:=ra;refine⟨p,_,rfl,.inl ⟨I.fz.sql hp,fun l hl=>?_⟩⟩;obtain⟨I2,f2,r2⟩:=I.newT hl (RepL.ints _);exact k _ _ _ I2 f2 r2
 |[],hf=>exact cNN hf
 |_::_::_,hf=>simp[zck]at hf
theorem zb9 (ml:X.mg "tuple"=none)(ha:SA X [e] ma)(hg:Gl X "tuple":=by rfl)(he:starEach [e] X.env=(false,eval e X.env)::starEach [] X.env:=by rfl)(hb:bootBuiltins "tuple"=some (.type "tuple"):=by decide+kernel):
  SE X (.Call (.Name "tuple" p) [e] [] pos) (mC zck ma):=
 zsn zmP vc_tuple hb ml ha hg (by decide) (by decide) he rfl
noncomputable def zaV:List D->Option (List D)
 |[.lst ds]=>some ds
 |[.tup ds]=>some ds
 |[.scr ns]=>some (ns.map .int)
 |_=>none
noncomputable def oC (f:List D->Option (List D))(ma:MA):MO:=fun ρ=>(ma ρ).bind fun p=>(f p.1).map fun d=>(d,p.2)
theorem oC_inv {f:List D->Option (List D)}{d:List D}(h:oC f ma ρ=some (d,ρ')):∃a,ma ρ=some (a,ρ')/\f a=some d:=by
 unfold oC at h;cases e1:ma ρ with
 |none=>rw[e1]at h;exact cNN h
 |some p=>
  obtain⟨a,ρ1⟩:=p;rw[e1]at h;simp only[qbw]at h;cases e3:f a with
  |none=>rw[e3]at h;exact cNN h
  |some c=>rw[e3]at h;obtain⟨rfl,rfl⟩:=cSp h;exact⟨a,rfl,e3⟩
theorem SI.newO (I:SI K B G H σ ρ){p:Addr}(hp:H p=none)(xs:List V):SI K B G (upd H p (.lst xs)) σ ρ/\G p=none/\(upd H p (.lst xs)) p=some (.lst xs)/\B.H p=none/\Nw K G (upd H p (.lst xs)) σ ρ p:=
 ⟨I.allocO hp _,I.fz.free hp,zaD,I.there p hp,I.nw_move (I.nw hp) fun i s a _ _ g h=>⟨g,zaw fun z=>h (by rw[z];exact hp)⟩⟩
theorem so_list (ml:X.mg "list"=none)(ha:SA X [e] ma)(hg:Gl X "list":=by rfl)(he:starEach [e] X.env=(false,eval e X.env)::starEach [] X.env:=by rfl)(hb:bootBuiltins "list"=some (.type "list"):=by decide+kernel):
  SO X (.Call (.Name "list" p) [e] [] pos) (oC zaV ma):=by
 refine ha.el fun t pa sa=>?_
 refine⟨_,zm5 znh hg ml hb pa (by decide) (by decide) he rfl,fun B G H σ ρ ds ρ' Q I hm k=>?_⟩;obtain⟨as,e1,e2⟩:=oC_inv hm;refine sa B G H σ ρ as ρ' _ I e1 fun G1 H1 vs I1 f1 r1=>?_
 match as,e2 with
 |[a],e2=>
  obtain⟨x,rfl,ra⟩:=r1.one;have fin:∀(q:Addr) (ys:List V) (sq:SqL X.K H1 q ys\/SqT X.K H1 q ys),x= .ref q->RepL X.K G1 ys ds->∃p ys,[x]=[V.ref p]/\(SqL X.K H1 p ys\/SqT X.K H1 p ys)/\∀l,H1 l=none->Q (.ref l) (upd H1 l (.lst ys)):=fun q ys sq ex r=>by
   refine⟨q,ys,by rw[ex],sq,fun l hl=>?_⟩;obtain⟨I2,g2,h2,b2,n2⟩:=I1.newO hl ys;exact k G1 _ l ys I2 f1 g2 h2 r b2 n2
  cases a<;>simp only[zaV]at e2<;>try cases e2
  ·obtain⟨p,ys,ex,hp,q⟩:=I1.lst ra;exact fin p ys (.inl (SqL.of hp)) ex q
  ·obtain⟨p,ys,ex,hp,q⟩:=I1.tup ra;exact fin p ys (.inr (SqT.of hp)) ex q
  ·obtain⟨p,ex,hp⟩:=ra;exact fin p _ (.inl (I1.fz.sql hp)) ex (RepL.ints _)
 |[],e2=>exact cNN e2
 |_::_::_,e2=>simp[zaV]at e2
section
variable {X:Cx} {es:List Expr} {ma:MA} {pos:Pos}
noncomputable def eTup (ma:MA):ME:=fun ρ=>(ma ρ).bind fun p=>if p.1.length<=16777216 then some (.tup p.1,p.2)else none
theorem zaO {x1}(h:SA X es ma):SE X (.Tuple es x1 pos) (eTup ma):=by
 refine h.el fun t pa sa=>?_
 refine⟨_,pe_tup pa,fun B G H σ ρ d ρ' Q I hm k=>?_⟩;unfold eTup at hm;cases e1:ma ρ with
 |none=>rw[e1]at hm;exact cNN hm
 |some q=>
  obtain⟨ds,ρ1⟩:=q;rw[e1]at hm;simp only[qbw]at hm;refine cIte hm fun hl hm=>?_
  cases hm;refine sa B G H σ ρ ds ρ' _ I e1 fun G1 H1 vs I1 f1 r1=>⟨by rw[r1.length,qaI];exact hl,fun p hp=>?_⟩
  obtain⟨I2,f2,r2⟩:=I1.newT hp r1;exact k _ _ _ I2 (f1.trans f2) r2
noncomputable def oLst (ma:MA):MO:=fun ρ=>(ma ρ).bind fun p=>if p.1.length<=16777216 then some (p.1,p.2)else none
theorem zbr (h:SA X es ma):SO X (.List es pos) (oLst ma):=by
 refine h.el fun t pa sa=>?_
 refine⟨_,pe_lst pa,fun B G H σ ρ d ρ' Q I hm k=>?_⟩;unfold oLst at hm;cases e1:ma ρ with
 |none=>rw[e1]at hm;exact cNN hm
 |some q=>
  obtain⟨ds,ρ1⟩:=q;rw[e1]at hm;simp only[qbw]at hm;refine cIte hm fun hl hm=>?_
  cases hm;refine sa B G H σ ρ _ ρ' _ I e1 fun G1 H1 vs I1 f1 r1=>⟨by rw[r1.length,qaI];exact hl,fun p hp=>?_⟩
  obtain⟨I2,g2,h2,b2,n2⟩:=I1.newO hp vs;exact k G1 _ p vs I2 f1 g2 h2 r1 b2 n2
end
theorem zpz {α β:Type}{o:Option α}{f:α->Option β}{b:β}(h:o.bind f=some b):∃a,o=some a/\f a=some b:=by
 cases o with
 |none=>exact cNN h
 |some a=>exact⟨a,rfl,h⟩
theorem zru {α β:Type}{o:Option α}{f:α->β}{b:β}(h:o.map f=some b):∃a,o=some a/\f a=b:=by
 cases o with
 |none=>exact cNN h
 |some a=>cases h;exact⟨a,rfl,rfl⟩
noncomputable def dTru:D->Option Bool
 | .bl b=>some b
 | .int i=>some (i !=0)
 | .non=>some false
 | .lst ds=>some (!ds.isEmpty)
 | .tup ds=>some (!ds.isEmpty)
 |_=>none
noncomputable def tTru (ma:ME):MT:=fun ρ=>(ma ρ).bind fun p=>(dTru p.1).map fun b=>(b,p.2)
section
variable {X:Cx} {a b c:Expr} {ma mb mc:ME} {pos:Pos}
theorem zqG (h:RepL K G xs ds):(!xs.isEmpty)=!ds.isEmpty:=by
 have:=h.length;cases xs<;>cases ds<;>simp_all
theorem zc2 (ha:SE X a ma)(he:∀whole,isTrue a X.env whole=(do let v<-whole;standAt a.pos;holding [v] (truthy v)):=by exact fun _=>rfl):STt X a (tTru ma):=by
  refine ha.el fun ta pa sa=>?_
  refine⟨_,pt_truth pa he,fun B G H σ ρ d ρ' Q I hm k=>?_⟩;refine zaJ hm fun x ρ1 e1 e2=>?_
  refine cMel e2 fun t e3 e4=>?_
  obtain⟨rfl,rfl⟩:=Prod.mk.inj e4;refine sa B G H σ ρ x ρ1 _ I e1 fun G1 H1 v I1 f1 r1=>⟨t,?_,k G1 H1 I1 f1⟩
  cases x<;>simp only[dTru]at e3<;>try cases e3
  . cases r1;exact rfl
  . cases r1;exact rfl
  . cases r1;exact rfl
  . obtain⟨p,xs,rfl,hp,r⟩:=I1.lst r1
    exact .inl ⟨xs,SqL.of hp,(zqG r).symm⟩
  . obtain⟨p,xs,rfl,hp,r⟩:=I1.tup r1
    exact .inr (.inl ⟨xs,SqT.of hp,(zqG r).symm⟩)
theorem zjj {r:R2}{f:D->D->Option D}(ho:OpR X (compareOp op) r)(hv:V2 X r f)(hB:∀x y d,f x y=some d->∃t,d= .bl t)(ha:SE X a ma)(hb:SE X b mb)(hm:behindInMarks op b=false):STt X (.Compare a [op] [b] pos) (tTru (m2 f ma mb)):=by
 refine ha.el fun ta pa sa=>?_
 refine hb.el fun tb pb sb=>?_
 refine⟨_,pt_cmpR ho pa pb hm,fun B G H σ ρ d ρ' Q I hm k=>?_⟩;refine zaJ hm fun x ρ1 e1 e2=>?_
 refine cMel e2 fun t e3 e4=>?_
 obtain⟨rfl,rfl⟩:=Prod.mk.inj e4;obtain⟨_,_,_,_,_,e5⟩:=m2_inv e1;obtain⟨t',rfl⟩:=hB _ _ _ e5;obtain rfl:t'=t:=Option.some.inj e3;refine zp2 hv sa sb B G H σ ρ (.bl t') ρ1 _ I e1 fun G1 H1 v I1 f1 r1=>?_
 cases(show v=V.bl t' from r1);exact⟨t',rfl,k G1 H1 I1 f1⟩
theorem zks {g:Int->Int->Bool}(x y d:D)(h:dI2 (fun _ _=>true) (fun i j=> .bl (g i j)) x y=some d):∃t,d= .bl t:=zpd h fun _ _ _ _ _ e=>⟨_,e.symm⟩
theorem bl_eq (x y d:D)(h:dEq x y=some d):∃t,d= .bl t:=by
 unfold dEq at h
 split at h
 ·cases h;exact⟨_,rfl⟩
 ·exact cNN h
theorem bl_ne (x y d:D)(h:dNe x y=some d):∃t,d= .bl t:=by
 unfold dNe at h
 split at h
 ·cases h;exact⟨_,rfl⟩
 ·exact cNN h
theorem zn7 (ha:SE X a ma)(hb:SE X b mb):STt X (.Compare a [.Lt] [b] pos) (tTru (m2 dLt ma mb)):=zjj op_lt zcM zks ha hb (zh0 _)
theorem st_le (ha:SE X a ma)(hb:SE X b mb):STt X (.Compare a [.LtE] [b] pos) (tTru (m2 dLe ma mb)):=zjj zk9 zcM zks ha hb (zh0 _)
theorem zoR (ha:SE X a ma)(hb:SE X b mb):STt X (.Compare a [.Gt] [b] pos) (tTru (m2 dGt ma mb)):=zjj op_gt zcM zks ha hb (zh0 _)
theorem st_ge (ha:SE X a ma)(hb:SE X b mb):STt X (.Compare a [.GtE] [b] pos) (tTru (m2 dGe ma mb)):=zjj op_ge zcM zks ha hb (zh0 _)
theorem zns (hu:X.A.units+64<cLine)(ha:SE X a ma)(hb:SE X b mb):STt X (.Compare a [.Eq] [b] pos) (tTru (m2 dEq ma mb)):=zjj (op_eqD hu) v2_eq bl_eq ha hb (zh0 _)
theorem znz (hu:X.A.units+64<cLine)(ha:SE X a ma)(hb:SE X b mb):STt X (.Compare a [.NotEq] [b] pos) (tTru (m2 dNe ma mb)):=zjj (op_neD hu) v2_ne bl_ne ha hb (zh0 _)
end
noncomputable def STwb (X:Cx)(e:Expr)(m:MT)(t:TT):Prop:=∀B G H σ ρ d ρ' (Q:Bool->Hp->Prop),SI X.K B G H σ ρ->m ρ=some (d,ρ')->(∀G' H',SI X.K B G' H' σ ρ'->Fz G G'->Q d H')->t σ H Q
noncomputable def STw (X:Cx)(e:Expr)(m:MT):Prop:=∃t,PW X e t/\STwb X e m t
theorem STw.el {m:MT}(h:STw X e m)(k:∀t,PW X e t->STwb X e m t->C):C:=h.elim fun t q=>k t q.1 q.2
theorem STw.st {m:MT}(h:STw X e m):STt X e m:=h.el fun t p s=>⟨t,p.pt,s⟩
noncomputable def tAndM (a b:MT):MT:=fun ρ=>(a ρ).bind fun p=>if p.1 then b p.2 else some (false,p.2)
noncomputable def tOrM (a b:MT):MT:=fun ρ=>(a ρ).bind fun p=>if p.1 then some (true,p.2)else b p.2
noncomputable def zjq (a:MT):MT:=fun ρ=>(a ρ).map fun p=>(!p.1,p.2)
section
variable {X:Cx} {a b c:Expr} {ma mb:MT} {pos:Pos} {rest:List Expr}
theorem sw_and1 (h:STt X a ma):STw X (.BoolOp .And [a] pos) ma:=h.el fun t p s=>⟨t,pw_and1 p,s⟩
theorem zlD (h:STt X a ma):STw X (.BoolOp .Or [a] pos) ma:=h.el fun t p s=>⟨t,pw_or1 p,s⟩
theorem sw_and (ha:STt X a ma)(hb:STw X (.BoolOp .And (b::rest) pos) mb):STw X (.BoolOp .And (a::b::rest) pos) (tAndM ma mb):=by
 refine ha.el fun ta pa sa=>?_
 refine hb.el fun tb pb sb=>?_
 refine⟨_,pw_and pa pb,fun B G H σ ρ d ρ' Q I hm k=>?_⟩;refine zaJ hm fun x ρ1 e1 e2=>?_
 refine sa B G H σ ρ x ρ1 _ I e1 fun G1 H1 I1 f1=>?_
 cases x with
 |true=>exact sb B G1 H1 σ ρ1 d ρ' Q I1 e2 fun G2 H2 I2 f2=>k G2 H2 I2 (f1.trans f2)
 |false=>obtain⟨rfl,rfl⟩:=cSp e2;exact k G1 H1 I1 f1
theorem znA (ha:STt X a ma)(hb:STw X (.BoolOp .Or (b::rest) pos) mb):STw X (.BoolOp .Or (a::b::rest) pos) (tOrM ma mb):=by
 refine ha.el fun ta pa sa=>?_
 refine hb.el fun tb pb sb=>?_
 refine⟨_,pw_or pa pb,fun B G H σ ρ d ρ' Q I hm k=>?_⟩;refine zaJ hm fun x ρ1 e1 e2=>?_
 refine sa B G H σ ρ x ρ1 _ I e1 fun G1 H1 I1 f1=>?_
 cases x with
 |false=>exact sb B G1 H1 σ ρ1 d ρ' Q I1 e2 fun G2 H2 I2 f2=>k G2 H2 I2 (f1.trans f2)
 |true=>obtain⟨rfl,rfl⟩:=cSp e2;exact k G1 H1 I1 f1
theorem zgh (ha:STt X a ma):STt X (.UnaryOp .Not a pos) (zjq ma):=by
 refine ha.el fun ta pa sa=>?_
 refine⟨_,pt_not pa,fun B G H σ ρ d ρ' Q I hm k=>?_⟩;refine zjy hm fun x ρ1 e1 e2=>?_
 cases e2;exact sa B G H σ ρ x ρ1 _ I e1 fun G1 H1 I1 f1=>k G1 H1 I1 f1
end
noncomputable def eAnd (a b:ME):ME:=fun ρ=>(a ρ).bind fun p=>match p.1 with
 | .bl true=>b p.2
 | .bl false=>some (.bl false,p.2)
 |_=>none
noncomputable def eOr (a b:ME):ME:=fun ρ=>(a ρ).bind fun p=>match p.1 with
 | .bl true=>some (.bl true,p.2)
 | .bl false=>b p.2
 |_=>none
section
variable {X:Cx} {a b c:Expr} {ma mb:ME} {pos:Pos} {rest:List Expr} {op:BoolOp}
theorem zp1 (h:SE X a ma):SE X (.BoolOp op [a] pos) ma:=h.el fun t p s=>⟨t,pe_one p,s⟩
theorem zn0 (ha:SE X a ma)(hb:SE X (.BoolOp .And (b::rest) pos) mb):SE X (.BoolOp .And (a::b::rest) pos) (eAnd ma mb):=by
 refine ha.el fun ta pa sa=>?_
 refine hb.el fun tb pb sb=>?_
 refine⟨_,pe_and pa pb,fun B G H σ ρ d ρ' Q I hm k=>?_⟩;refine zaJ hm fun x ρ1 e1 e2=>?_
 refine sa B G H σ ρ x ρ1 _ I e1 fun G1 H1 v I1 f1 r1=>?_
 cases x<;>try exact cNN e2
 rename_i y;refine⟨y,r1,?_⟩;cases y with
 |true=>exact sb B G1 H1 σ ρ1 d ρ' Q I1 e2 fun G2 H2 v I2 f2 r2=>k G2 H2 v I2 (f1.trans f2) r2
 |false=>obtain⟨rfl,rfl⟩:=cSp e2;exact k G1 H1 _ I1 f1 rfl
noncomputable def eIf (c:MT)(a b:ME):ME:=fun ρ=>(c ρ).bind fun p=>if p.1 then a p.2 else b p.2
theorem zc4 (hc:STt X c mc)(ha:SE X a ma)(hb:SE X b mb):SE X (.IfExp c a b pos) (eIf mc ma mb):=by
 refine hc.el fun tc pc sc=>?_
 refine ha.el fun ta pa sa=>?_
 refine hb.el fun tb pb sb=>?_
 refine⟨_,pe_ifExp pc pa pb,fun B G H σ ρ d ρ' Q I hm k=>?_⟩;refine zaJ hm fun x ρ1 e1 e2=>?_
 refine sc B G H σ ρ x ρ1 _ I e1 fun G1 H1 I1 f1=>?_
 cases x with
 |true=>exact sa B G1 H1 σ ρ1 d ρ' Q I1 e2 fun G2 H2 v I2 f2 r2=>k G2 H2 v I2 (f1.trans f2) r2
 |false=>exact sb B G1 H1 σ ρ1 d ρ' Q I1 e2 fun G2 H2 v I2 f2 r2=>k G2 H2 v I2 (f1.trans f2) r2
end
noncomputable def zg6 (f g:D->D->Option D)(a b c:ME):ME:=fun ρ=>(a ρ).bind fun p=>(b p.2).bind fun q=>(f p.1 q.1).bind fun t=>match t with
 | .bl true=>(c q.2).bind fun r=>(g q.1 r.1).map fun d=>(d,r.2)
 | .bl false=>some (.bl false,q.2)
 |_=>none
section
variable {X:Cx} {a b c:Expr} {ma mb mc:ME} {pos:Pos}
theorem zkX {r r':R2}{f g:D->D->Option D}{ta tb tc:TE}(hv:V2 X r f)(hw:V2 X r' g)
  (sa:∀B G H σ ρ d ρ' (Q:VK),SI X.K B G H σ ρ->ma ρ=some (d,ρ')->(∀G' H' v,SI X.K B G' H' σ ρ'->Fz G G'->RepD X.K G' v d->Q v H')->ta σ H Q)
  (sb:∀B G H σ ρ d ρ' (Q:VK),SI X.K B G H σ ρ->mb ρ=some (d,ρ')->(∀G' H' v,SI X.K B G' H' σ ρ'->Fz G G'->RepD X.K G' v d->Q v H')->tb σ H Q)
  (sc:∀B G H σ ρ d ρ' (Q:VK),SI X.K B G H σ ρ->mc ρ=some (d,ρ')->(∀G' H' v,SI X.K B G' H' σ ρ'->Fz G G'->RepD X.K G' v d->Q v H')->tc σ H Q):
  ∀B G H σ ρ d ρ' (Q:VK),SI X.K B G H σ ρ->zg6 f g ma mb mc ρ=some (d,ρ')->(∀G' H' v,SI X.K B G' H' σ ρ'->Fz G G'->RepD X.K G' v d->Q v H')->zsm r r' ta tb tc σ H Q:=by
 intro B G H σ ρ d ρ' Q I hm k;refine zaJ hm fun x ρ1 e1 h1=>?_
 refine zaJ h1 fun y ρ2 e2 h2=>?_
 refine cBel h2 fun t e3 h3=>?_
 refine sa B G H σ ρ x ρ1 _ I e1 fun G1 H1 v I1 f1 r1=>sb B G1 H1 σ ρ1 y ρ2 _ I1 e2 fun G2 H2 u I2 f2 r2=>hv B G2 H2 σ ρ2 v u x y t _ I2 (r1.mono f2) r2 e3 fun G3 H3 z I3 f3 r3=>?_
 cases t<;>try exact cNN h3
 rename_i t;refine⟨t,r3,?_⟩;cases t with
 |true=>
  refine zaJ h3 fun w ρ3 e4 h4=>?_
  refine cMel h4 fun d' e5 e6=>?_
  cases e6;exact sc B G3 H3 σ ρ2 w ρ3 _ I3 e4 fun G4 H4 s I4 f4 r4=>hw B G4 H4 σ ρ3 u s y w d Q I4 (r2.mono (f3.trans f4)) r4 e5 fun G5 H5 z5 I5 f5 r5=>k G5 H5 z5 I5 (f1.trans (f2.trans (f3.trans (f4.trans f5)))) r5
 |false=>obtain⟨rfl,rfl⟩:=cSp h3;exact k G3 H3 _ I3 (f1.trans (f2.trans f3)) rfl
theorem zme {r r':R2}{f g:D->D->Option D}(ho:OpR X (compareOp op) r)(ho':OpR X (compareOp op') r')(hv:V2 X r f)(hw:V2 X r' g)(ha:SE X a ma)(hb:SE X b mb)(hc:SE X c mc)
  (hm:lastMarks [op,op'] [b,c]=false:=by with_unfolding_all rfl):SE X (.Compare a [op,op'] [b,c] pos) (zg6 f g ma mb mc):=by
 refine ha.el fun ta pa sa=>?_
 refine hb.el fun tb pb sb=>?_
 refine hc.el fun tc pc sc=>?_
 exact⟨_,pe_chain ho ho' pa pb pc hm,zkX hv hw sa sb sc⟩
theorem zmK {r r':R2}{f g:D->D->Option D}(ho:OpR X (compareOp op) r)(ho':OpR X (compareOp op') r')(hv:V2 X r f)(hw:V2 X r' g)(hB:∀x y d,g x y=some d->∃t,d= .bl t)(ha:SE X a ma)(hb:SE X b mb)(hc:SE X c mc)
  (hm:lastMarks [op,op'] [b,c]=false:=by with_unfolding_all rfl):STt X (.Compare a [op,op'] [b,c] pos) (tTru (zg6 f g ma mb mc)):=by
 refine ha.el fun ta pa sa=>?_
 refine hb.el fun tb pb sb=>?_
 refine hc.el fun tc pc sc=>?_
 refine⟨_,pt_chain ho ho' pa pb pc hm,fun B G H σ ρ d ρ' Q I hm k=>?_⟩;refine zaJ hm fun x ρ1 e1 e2=>?_
 refine cMel e2 fun t e3 e4=>?_
 obtain⟨rfl,rfl⟩:=Prod.mk.inj e4;have hx:∃t',x= .bl t':=by
  refine zaJ e1 fun x' ρ1' _ h1=>?_
  refine zaJ h1 fun y' ρ2' _ h2=>?_
  refine cBel h2 fun t' et' h3=>?_
  clear et';cases t'<;>try exact cNN h3
  rename_i t';cases t' with
  |true=>
   refine zaJ h3 fun w ρ3 e4 h4=>?_
   refine cMel h4 fun d' e5 e6=>?_
   cases e6;exact hB _ _ _ e5
  |false=>obtain⟨rfl,rfl⟩:=cSp h3;exact⟨_,rfl⟩
 obtain⟨t',rfl⟩:=hx;obtain rfl:t'=t:=Option.some.inj e3;refine zkX hv hw sa sb sc B G H σ ρ (.bl t') ρ1 _ I e1 fun G1 H1 v I1 f1 r1=>?_
 cases(show v=V.bl t' from r1);exact⟨t',rfl,k G1 H1 I1 f1⟩
end
inductive Fl where
 |next|brk|cont|ret (r:Sl)
noncomputable abbrev MS:=R->Option (Fl×R)
noncomputable def ResOk (K:W.Frag)(B:Bs)(G H:Hp)(v:V):Sl->Prop
 | .val d=>RepD K G v d
 | .own ds=>∃l xs,v= .ref l/\G l=none/\H l=some (.lst xs)/\RepL K G xs ds/\B.H l=none
 | .tre t=>∃A,RepT K G H v t A/\A.Nodup/\∀a∈A,G a=none/\B.H a=none
 | .two ds es=>∃t l xs m ys,v= .ref t/\H t=some (.tup [.ref l,.ref m])/\l≠m/\G l=none/\H l=some (.lst xs)/\RepL K G xs ds/\B.H l=none/\G m=none/\H m=some (.lst ys)/\RepL K G ys es/\B.H m=none
 |_=>False
noncomputable def Post (K:W.Frag)(B:Bs)(G:Hp)(E:Ends)(fl:Fl)(ρ':R):Prop:=match fl with
 | .next=>∀G' H' σ',SI K B G' H' σ' ρ'->Fz G G'->E.nx σ' H'
 | .brk=>∀G' H' σ',SI K B G' H' σ' ρ'->Fz G G'->E.bk σ' H'
 | .cont=>∀G' H' σ',SI K B G' H' σ' ρ'->Fz G G'->E.ct σ' H'
 | .ret r=>∀G' H' σ' v,SI K B G' H' σ' ρ'->Fz G G'->ResOk K B G' H' v r->E.rt v H'
theorem Post.mono {G G1:Hp}{E:Ends}{fl:Fl}(h:Post K B G E fl ρ')(f:Fz G G1):Post K B G1 E fl ρ':=by
 cases fl with
 |next=>exact fun G' H' σ' I g=>h G' H' σ' I (f.trans g)
 |brk=>exact fun G' H' σ' I g=>h G' H' σ' I (f.trans g)
 |cont=>exact fun G' H' σ' I g=>h G' H' σ' I (f.trans g)
 |ret r=>exact fun G' H' σ' v I g=>h G' H' σ' v I (f.trans g)
noncomputable def SSb (X:Cx)(st:Stmt)(m:MS)(t:TS):Prop:=∀B G H σ ρ fl ρ' (E:Ends),SI X.K B G H σ ρ->m ρ=some (fl,ρ')->Post X.K B G E fl ρ'->t E σ H
noncomputable def SS (X:Cx)(st:Stmt)(m:MS):Prop:=∃t,PS X st t/\SSb X st m t
theorem SS.el {st:Stmt}(h:SS X st m)(k:∀t,PS X st t->SSb X st m t->C):C:=h.elim fun t q=>k t q.1 q.2
noncomputable def SSsb (X:Cx)(st:List Stmt)(m:MS)(t:TS):Prop:=∀B G H σ ρ fl ρ' (E:Ends),SI X.K B G H σ ρ->m ρ=some (fl,ρ')->Post X.K B G E fl ρ'->t E σ H
noncomputable def SSs (X:Cx)(st:List Stmt)(m:MS):Prop:=∃t,PSs X st t/\SSsb X st m t
theorem SSs.el {st:List Stmt}(h:SSs X st m)(k:∀t,PSs X st t->SSsb X st m t->C):C:=h.elim fun t q=>k t q.1 q.2
noncomputable def zb0:MS:=fun ρ=>some (.next,ρ)
noncomputable def sSeq (a b:MS):MS:=fun ρ=>(a ρ).bind fun p=>match p.1 with
 | .next=>b p.2
 |f=>some (f,p.2)
section
variable {X:Cx} {st:Stmt} {rest:List Stmt} {m n:MS} {e:Expr} {me:ME} {pos:Pos}
theorem zaM:SSs X [] zb0:=⟨_,pss_nil,fun B G H σ ρ fl ρ' E I hm k=>by obtain⟨rfl,rfl⟩:=cSp hm;exact k G H σ I (Fz.refl G)⟩
theorem zaj (h:SS X st m):SSs X [st] m:=h.el fun t p s=>⟨t,pss_one p,s⟩
theorem zaf (h:SS X st m)(hr:SSs X rest n):SSs X (st::rest) (sSeq m n):=by
 refine h.el fun t p s=>?_
 refine hr.el fun u q z=>?_
 refine⟨_,pss_cons p q,fun B G H σ ρ fl ρ' E I hm k=>?_⟩;refine zaJ hm fun f ρ1 e1 e2=>?_
 refine s B G H σ ρ f ρ1 _ I e1 ?_;cases f with
 |next=>exact fun G1 H1 σ1 I1 f1=>z B G1 H1 σ1 ρ1 fl ρ' E I1 e2 (k.mono f1)
 |brk=>obtain⟨rfl,rfl⟩:=cSp e2;exact k
 |cont=>obtain⟨rfl,rfl⟩:=cSp e2;exact k
 |ret r=>obtain⟨rfl,rfl⟩:=cSp e2;exact k
noncomputable def sRet (m:ME):MS:=fun ρ=>(m ρ).map fun p=>(.ret (.val p.1),p.2)
theorem zat (h:SE X e me):SS X (.Return (some e) pos) (sRet me):=by
 refine h.el fun t p s=>?_
 refine⟨_,zqS p,fun B G H σ ρ fl ρ' E I hm k=>?_⟩;refine zjy hm fun d ρ1 e1 e2=>?_
 cases e2;exact s B G H σ ρ d ρ1 _ I e1 fun G1 H1 v I1 f1 r1=>k G1 H1 σ v I1 f1 r1
noncomputable def zio (m:MO):MS:=fun ρ=>(m ρ).map fun p=>(.ret (.own p.1),p.2)
theorem zcS {mo:MO}(h:SO X e mo):SS X (.Return (some e) pos) (zio mo):=by
 refine h.el fun t p s=>?_
 refine⟨_,zqS p,fun B G H σ ρ fl ρ' E I hm k=>?_⟩;refine zjy hm fun d ρ1 e1 e2=>?_
 cases e2;exact s B G H σ ρ d ρ1 _ I e1 fun G1 H1 l xs I1 f1 g1 h1 r1 b1 _=>k G1 H1 σ _ I1 f1 ⟨l,xs,rfl,g1,h1,r1,b1⟩
theorem SI.emp (I:SI K B G H σ ρ)(i:Nat):SI K B G H σ (ρ.set i .emp):=by
 by_cases hi:i<ρ.length
 ·have hs:σ[i]? =some (σ[i]'(by rw[I.len];exact hi)):=qbF _;have h:=I.chg (i:=i) (ov:=σ[i]'(by rw[I.len];exact hi)) (s':= .emp) I.fz (Fz.refl G) I.new I.keep I.there (fun _ _ _ _ _ _ g _=>⟨g,rfl,id⟩) trivial;rwa[znZ hs]at h
 ·rw[List.set_eq_of_length_le (by lia)];exact I
noncomputable def zgX (i:Nat):MS:=fun ρ=>match ρ[i]? with
 |some (.val d)=>some (.ret (.val d),ρ)
 |some (.own ds)=>some (.ret (.own ds),ρ.set i .emp)
 |_=>none
theorem zcL (i:Nat)(hN:X.N[i]? =some x:=by rfl)(hv:Vis X.env.scope x:=by trivial)(hd:(x==("__debug__":Str))=false:=by decide)
  (hcd:(x==("__classdict__":Str))=false:=by decide):SS X (.Return (some (.Name x pos')) pos) (zgX i):=by
 refine⟨_,zqS (zfO hN hv hd hcd),fun B G H σ ρ fl ρ' E I hm k=>?_⟩;unfold zgX at hm;cases e:ρ[i]? with
 |none=>rw[e]at hm;exact cNN hm
 |some s=>
  rw[e]at hm;have h:=I.slot i s e;cases s with
  |emp=>exact cNN hm
  |two _ _=>exact cNN hm
  |tre _=>exact cNN hm
  |ptr _=>exact cNN hm
  |par ds=>exact cNN hm
  |val d=>obtain⟨rfl,rfl⟩:=cSp hm;obtain⟨v,h1,h2⟩:=h;exact⟨v,h1,k G H σ v I (Fz.refl G) h2⟩
  |own ds=>
   obtain⟨rfl,rfl⟩:=cSp hm;obtain⟨l,xs,h1,h2,h3,h4,h5⟩:=h;exact⟨.ref l,h1,k G H σ _ (I.emp i) (Fz.refl G) ⟨l,xs,rfl,h2,h3,h4,h5⟩⟩
noncomputable def sIf (c:MT)(a b:MS):MS:=fun ρ=>(c ρ).bind fun p=>if p.1 then a p.2 else b p.2
theorem zcd {c:Expr}{a b:List Stmt}{ma mb:MS}(hc:STt X c mc)(ha:SSs X a ma)(hb:SSs X b mb):SS X (.If c a b pos) (sIf mc ma mb):=by
 refine hc.el fun tc pc sc=>?_
 refine ha.el fun ta pa sa=>?_
 refine hb.el fun tb pb sb=>?_
 refine⟨_,ps_if pc pa pb,fun B G H σ ρ fl ρ' E I hm k=>?_⟩;refine zaJ hm fun x ρ1 e1 e2=>?_
 refine sc B G H σ ρ x ρ1 _ I e1 fun G1 H1 I1 f1=>?_
 cases x with
 |true=>exact sa B G1 H1 σ ρ1 fl ρ' E I1 e2 (k.mono f1)
 |false=>exact sb B G1 H1 σ ρ1 fl ρ' E I1 e2 (k.mono f1)
end
noncomputable def SGb (X:Cx)(tg:Expr)(g:D->R->Option R)(t:TG):Prop:=∀B G H σ ρ v d ρ' (Q:St->Hp->Prop),SI X.K B G H σ ρ->RepD X.K G v d->g d ρ=some ρ'->(∀G' H' σ',SI X.K B G' H' σ' ρ'->Fz G G'->Q σ' H')->t v σ H Q
noncomputable def SG (X:Cx)(tg:Expr)(g:D->R->Option R):Prop:=∃t,PG X tg t/\SGb X tg g t
theorem SG.el (h:SG X tg g)(k:∀t,PG X tg t->SGb X tg g t->C):C:=h.elim fun t q=>k t q.1 q.2
noncomputable def SGsb (X:Cx)(tgs:List Expr)(g:List D->R->Option R)(t:TGs):Prop:=∀B G H σ ρ vs ds ρ' (Q:St->Hp->Prop),SI X.K B G H σ ρ->RepL X.K G vs ds->g ds ρ=some ρ'->(∀G' H' σ',SI X.K B G' H' σ' ρ'->Fz G G'->Q σ' H')->t vs σ H Q
noncomputable def SGs (X:Cx)(tgs:List Expr)(g:List D->R->Option R):Prop:=∃t,PGs X tgs t/\SGsb X tgs g t
theorem SGs.el {g:List D->R->Option R}(h:SGs X tgs g)(k:∀t,PGs X tgs t->SGsb X tgs g t->C):C:=h.elim fun t q=>k t q.1 q.2
noncomputable def gN (i:Nat):D->R->Option R:=fun d ρ=>some (ρ.set i (.val d))
noncomputable def zbH:List D->R->Option R:=fun ds ρ=>match ds with
 |[]=>some ρ
 |_=>none
noncomputable def zaq (g:D->R->Option R)(h:List D->R->Option R):List D->R->Option R:=fun ds ρ=>match ds with
 |d::ds=>(g d ρ).bind fun ρ1=>h ds ρ1
 |[]=>none
noncomputable def gT (n:Nat)(g:List D->R->Option R):D->R->Option R:=fun d ρ=>match d with
 | .tup ds=>if ds.length=n then g ds ρ else none
 |_=>none
section
variable {X:Cx} {pos:Pos}
theorem zal (i:Nat)(hN:X.N.Nodup)(hi:X.N[i]? =some x:=by rfl)(hx:Loc X.env.scope x:=by trivial)(hf:X.fn x=true\/X.env.scope.names.lookup x=some .local:=by trivial):SG X (.Name x pos) (gN i):=
 ⟨_,zsQ hN hi hx hf,fun B G H σ ρ v d ρ' Q I r hm k=>by cases hm;exact k G H _ (I.set r) (Fz.refl G)⟩
theorem zaG:SGs X [] zbH:=⟨_,pgs_nil,fun B G H σ ρ vs ds ρ' Q I r hm k=>by
 cases ds with
 |nil=>cases hm;exact⟨r,k G H σ I (Fz.refl G)⟩
 |cons=>exact cNN hm⟩
theorem zan {e:Expr}(h1:SG X e g)(h2:SGs X es h)(hs:(assignEach (e::es) X.env).map (·.2)=assign e X.env::(assignEach es X.env).map (·.2):=by rfl):SGs X (e::es) (zaq g h):=by
 refine h1.el fun t p s=>?_
 refine h2.el fun u q z=>?_
 refine⟨_,pgs_cons p q hs,fun B G H σ ρ vs ds ρ' Q I r hm k=>?_⟩;cases ds with
 |nil=>exact cNN hm
 |cons d ds=>
  obtain⟨x,ys,rfl,rx,ry⟩:=r;refine cBel hm fun ρ1 e1 e2=>?_
  exact⟨x,ys,rfl,s B G H σ ρ x d ρ1 _ I rx e1 fun G1 H1 σ1 I1 f1=>z B G1 H1 σ1 ρ1 ys ds ρ' Q I1 (ry.mono f1) e2 fun G2 H2 σ2 I2 f2=>k G2 H2 σ2 I2 (f1.trans f2)⟩
theorem zaX {g:List D->R->Option R}(hc:X.calm=true)(h:SGs X es g)(hn:(assignEach es X.env).length=n:=by rfl)(hst:(assignEach es X.env).findIdx? (·.1)=none:=by rfl):SG X (.Tuple es k pos) (gT n g):=by
 refine h.el fun t p s=>?_
 refine⟨_,pg_tup hc p hn hst,fun B G H σ ρ v d ρ' Q I r hm k=>?_⟩;cases d<;>try exact cNN hm
 rename_i ds;simp only[gT]at hm;refine cIte hm fun hl hm=>?_
 obtain⟨a,xs,e,ha,rx⟩:=I.tup r;exact⟨a,xs,e,SqT.of ha,by rw[rx.length];exact hl,s B G H σ ρ xs ds ρ' Q I rx hm k⟩
variable {e tg:Expr} {me:ME} {mo:MO}
noncomputable def sAsg (m:ME)(g:D->R->Option R):MS:=fun ρ=>(m ρ).bind fun p=>(g p.1 p.2).map fun ρ'=>(.next,ρ')
theorem zsc (he:SE X e me)(hg:SG X tg g)(hs:swapsWithSole [tg] e pos.line X.env=pure false:=by rfl)(hw:swappedStores [tg] e X.env=pure none:=by rfl)
  (h1:(assignEach [tg] X.env).map (·.2)=[assign tg X.env]:=by rfl):SS X (.Assign [tg] e pos) (sAsg me g):=by
 refine he.el fun t p s=>?_
 refine hg.el fun u q z=>?_
 refine⟨_,ps_asg p q hs hw h1,fun B G H σ ρ fl ρ' E I hm k=>?_⟩;refine zaJ hm fun d ρ1 e1 h2=>?_
 refine cMel h2 fun ρ2 e2 e3=>?_
 obtain⟨rfl,rfl⟩:=Prod.mk.inj e3;exact s B G H σ ρ d ρ1 _ I e1 fun G1 H1 v I1 f1 r1=>z B G1 H1 σ ρ1 v d ρ2 _ I1 r1 e2 fun G2 H2 σ2 I2 f2=>k G2 H2 σ2 I2 (f1.trans f2)
noncomputable def sSet (i:Nat)(m:ME):MS:=fun ρ=>(m ρ).map fun p=>(.next,p.2.set i (.val p.1))
theorem zap (i:Nat)(he:SE X e me)(hN:X.N.Nodup)(hi:X.N[i]? =some x:=by rfl)(hx:Loc X.env.scope x:=by trivial)(hs:swapsWith e (some (.Name x pos')) pos.line X.env=pure false:=by rfl)
    (hf:X.fn x=true\/X.env.scope.names.lookup x=some .local:=by trivial):SS X (.Assign [.Name x pos'] e pos) (sSet i me):=by
  refine he.el fun t p s=>?_
  refine⟨_,zpC hN hi hx p hs hf,fun B G H σ ρ fl ρ' E I hm k=>?_⟩;refine zjy hm fun d ρ1 e1 e3=>?_
  cases e3;exact s B G H σ ρ d ρ1 _ I e1 fun G1 H1 v I1 f1 r1=>k G1 H1 _ (I1.set r1) f1
noncomputable def zhx (i:Nat)(m:MO):MS:=fun ρ=>(m ρ).map fun p=>(.next,p.2.set i (.own p.1))
theorem zcv (i:Nat)(he:SO X e mo)(hN:X.N.Nodup)(hi:X.N[i]? =some x:=by rfl)(hx:Loc X.env.scope x:=by trivial)(hs:swapsWith e (some (.Name x pos')) pos.line X.env=pure false:=by rfl)
    (hf:X.fn x=true\/X.env.scope.names.lookup x=some .local:=by trivial):SS X (.Assign [.Name x pos'] e pos) (zhx i mo):=by
  refine he.el fun t p s=>?_
  refine⟨_,zpC hN hi hx p hs hf,fun B G H σ ρ fl ρ' E I hm k=>?_⟩;refine zjy hm fun d ρ1 e1 e3=>?_
  cases e3;exact s B G H σ ρ d ρ1 _ I e1 fun G1 H1 l xs I1 f1 g1 h1 r1 b1 n1=>k G1 H1 _ (I1.setO g1 h1 r1 b1 n1) f1
noncomputable def sApp (i:Nat)(m:ME):MS:=fun ρ=>if(ρ[i]?.bind Sl.items).isSome then(m ρ).bind fun p=>p.2[i]?.bind fun s=>s.items.bind fun ds=>if ds.length<16777216 then some (.next,p.2.set i (s.put (ds++[p.1])))else none else none
theorem zg9 (i:Nat){pos' apos cpos:Pos}(he:SE X e me)(hN:X.N[i]? =some x:=by rfl)(hv:Vis X.env.scope x:=by trivial)(hd:(x==("__debug__":Str))=false:=by decide)
  (hcd:(x==("__classdict__":Str))=false:=by decide)
  (hbase:attributeBase (.Name x pos') "append" X.env (eval (.Name x pos') X.env)=eval (.Name x pos') X.env:=by rfl)
  (hfew : ((backTo cpos (starEach [e] X.env)).all (fun x => !x.1) && (backToKw cpos (keywordEach [] X.env)).all (fun x => x.1.isSome)
   &&decide ([e].length+([]:List Keyword).length+(if([]:List Keyword).isEmpty then 0 else 1)<30))=true:=by rfl)
  (hline:(apos.endLine==cpos.line)=true:=by rfl) (hs:starEach [e] X.env=(false,eval e X.env)::starEach [] X.env:=by rfl):SS X (.Expr (.Call (.Attribute (.Name x pos') "append" apos) [e] [] cpos) pos) (sApp i me):=by
 refine he.el fun t p s=>?_
 refine⟨_,ps_expr (pe_bm PySem.F.plainAttrs_list PySem.F.slot_list_append PySem.F.type_list_append znN (zfO hN hv hd hcd) (zko p zpe hs) hbase hfew hline hs rfl) (by rfl),fun B G H σ ρ fl ρ' E I hm k=>?_⟩;unfold sApp at hm;refine cIte hm fun hso hm=>?_
 obtain⟨ds0,hso⟩:=qaN.mp hso;refine cBel hso fun s0 e0 q0=>?_
 obtain⟨l,xs0,h1,h2,h3,h4⟩:=I.wr e0 q0;refine zaJ hm fun d ρ1 e1 hm=>?_
 refine cBel hm fun s1 e2 hm=>?_
 refine cBel hm fun ds e3 hm=>?_
 refine cIte hm fun hl hm=>?_
 obtain⟨rfl,rfl⟩:=cSp hm;refine⟨.ref l,h1,.inl ⟨rfl,_,SqL.of h3⟩,s B G H σ ρ d ρ1 _ I e1 fun G1 H1 v I1 f1 r1=>?_⟩;obtain⟨l',xs,k1,k2,k3,k4⟩:=I1.wr e2 e3;rw[h1]at k1;cases k1;refine⟨l,xs,v,rfl,rfl,k3,by rw[k4.length,qaI];exact hl,?_⟩;exact k G1 _ σ (I1.write e2 e3 h1 (k4.snoc r1)) f1
noncomputable def sPut (j:Nat)(mi me:ME):MS:=fun ρ=>(me ρ).bind fun p=>if hasV p.2 j then(mi p.2).bind fun q=>match q.1 with
 | .int k=>q.2[j]?.bind fun s=>s.items.bind fun ds=>(ixN ds.length k).bind fun n=>some (.next,q.2.set j (s.put (ds.set n p.1)))
 |_=>none else none
theorem zkR (j:Nat){i:Expr}{mi:ME}{pos' tpos:Pos}(he:SE X e me)(hi:SE X i mi)(hN:X.N[j]? =some x:=by rfl)(hv:Vis X.env.scope x:=by trivial)(hd:(x==("__debug__":Str))=false:=by decide)
  (hcd:(x==("__classdict__":Str))=false:=by decide)
  (ha : ∀ v, assign (.Subscript (.Name x pos') i tpos) X.env v = (do
   let ov<-holding [v] (eval (.Name x pos') X.env)
   let iv<-holding [v,ov] (eval i X.env)
   standAt tpos
   holding [v,ov,iv] (setItem ov iv v)
   release [v,ov,iv] []):=by exact fun _=>rfl)
  (hs:swapsWithSole [.Subscript (.Name x pos') i tpos] e pos.line X.env=pure false:=by rfl) (hw:swappedStores [.Subscript (.Name x pos') i tpos] e X.env=pure none:=by rfl)
  (h1:(assignEach [.Subscript (.Name x pos') i tpos] X.env).map (·.2)=[assign (.Subscript (.Name x pos') i tpos) X.env]:=by rfl):SS X (.Assign [.Subscript (.Name x pos') i tpos] e pos) (sPut j mi me):=by
 refine he.el fun t p s=>?_
 refine hi.el fun u q z=>?_
 refine⟨_,ps_asg p (pg_sub (zfO hN hv hd hcd) q set_list ha) hs hw h1,fun B G H σ ρ fl ρ' E I hm k=>?_⟩;refine zaJ hm fun d ρ1 e1 hm=>?_
 refine s B G H σ ρ d ρ1 _ I e1 fun G1 H1 v I1 f1 r1=>?_
 refine cIte hm fun hh hm=>?_
 obtain⟨w,ew⟩:=I1.has hh;refine zaJ hm fun kd ρ2 e2 hm=>?_
 cases kd<;>try exact cNN hm
 rename_i kk;refine cBel hm fun s2 e3 hm=>?_
 refine cBel hm fun ds e4 hm=>?_
 refine cBel hm fun n e5 hm=>?_
 obtain⟨rfl,rfl⟩:=cSp hm;refine⟨w,ew,z B G1 H1 σ ρ1 (.int kk) ρ2 _ I1 e2 fun G2 H2 y I2 f2 r2=>?_⟩;obtain⟨l,xs,k1,k2,k3,k4⟩:=I2.wr e3 e4;rw[ew]at k1;cases k1;refine⟨l,xs,kk,n,rfl,r2,k3,by rw[k4.length];exact e5,?_⟩;exact k G2 _ σ (I2.write e3 e4 ew (k4.set n (r1.mono f2))) (f1.trans f2)
end
structure Itm (K:W.Frag) (J:It) (G:Hp) (items:List D):Prop where
 go:∀H i,Fz G H->i<items.length->J.go i H
 yld:∀H i x H',Fz G H->J.yld i H x H'->∀d,items[i]? =some d->(H'=H/\RepD K G x d)\/∃p xs ds,H p=none/\H'=upd H p (.tup xs)/\x= .ref p/\d= .tup ds/\RepL K G xs ds
 stop:∀H i,Fz G H->items.length<=i->J.stop i H
noncomputable def SItb (X:Cx)(tg it:Expr)(m:MA)(wi:TI):Prop:=∀B G H σ ρ ds ρ' (Q:It->Hp->Prop),SI X.K B G H σ ρ->m ρ=some (ds,ρ')->(∀J G' H',SI X.K B G' H' σ ρ'->Fz G G'->Itm X.K J G' ds->Q J H')->wi σ H Q
noncomputable def SIt (X:Cx)(tg it:Expr)(m:MA):Prop:=∃wi,PI X tg it wi/\SItb X tg it m wi
theorem SIt.el {m:MA}(h:SIt X tg it m)(k:∀wi,PI X tg it wi->SItb X tg it m wi->C):C:=h.elim fun wi q=>k wi q.1 q.2
noncomputable def forM (f:D->R->Option (Fl×R)):List D->R->Option (Fl×R)
 |[],ρ=>some (.next,ρ)
 |d::ds,ρ=>(f d ρ).bind fun p=>match p.1 with
  | .next=>forM f ds p.2
  | .cont=>forM f ds p.2
  | .brk=>some (.next,p.2)
  | .ret r=>some (.ret r,p.2)
noncomputable def sFor (mi:MA)(g:D->R->Option R)(mb:MS):MS:=fun ρ=>(mi ρ).bind fun p=>forM (fun d ρ=>(g d ρ).bind fun ρ'=>mb ρ') p.1 p.2
theorem SI.yld {x:V}(I:SI K B G H σ ρ)
  (h:(H'=H/\RepD K G x d)\/∃p xs ds,H p=none/\H'=upd H p (.tup xs)/\x= .ref p/\d= .tup ds/\RepL K G xs ds):∃G',SI K B G' H' σ ρ/\Fz G G'/\RepD K G' x d:=by
 rcases h with⟨rfl,r⟩|⟨p,xs,ds,hp,rfl,rfl,rfl,r⟩
 ·exact⟨G,I,Fz.refl G,r⟩
 ·obtain⟨I2,f2,r2⟩:=I.newT hp r;exact⟨_,I2,f2,r2⟩
theorem zbj {mi:MA}{mb:MS}(hp:PassesOwn (model X.prog X.w) X.A X.env X.xe)(hc:X.calm=true)(hi:SIt X tg it mi)(hg:SG X tg g)(hb:SSs X body mb)
    (hs:∀x,foldedSetIterable it X.env x=pure x:=by exact fun _=>rfl):SS X (.For tg it body [] pos) (sFor mi g mb):=by
  refine hi.el fun wi pi si=>?_
  refine hg.el fun tg' pg sg=>?_
  refine hb.el fun tb pb sb=>?_
  refine⟨_,ps_for hp hc pi pg pb hs,fun B G H σ ρ fl ρ' E I hm k=>?_⟩;refine zaJ hm fun ds ρ1 e1 hm=>?_
  refine si B G H σ ρ ds ρ1 _ I e1 fun J G1 H1 I1 f1 IT=>?_
  refine⟨fun i m σ H=>m=ds.length-i/\i<=ds.length/\∃G2 ρ2,SI X.K B G2 H σ ρ2/\Fz G1 G2/\forM (fun d ρ=>(g d ρ).bind fun ρ'=>mb ρ') (ds.drop i) ρ2=some (fl,ρ'),⟨ds.length,by simp,qbB _,G1,ρ1,I1,Fz.refl _,by simpa using hm⟩,?_⟩;rintro i m σ2 H2 ⟨rfl,hi,G2,ρ2,I2,f2,e2⟩
  by_cases hlt:i<ds.length
  . rw[List.drop_eq_getElem_cons hlt]at e2
    simp only[forM]at e2;refine zaJ e2 fun f ρ3 e3 e4=>?_
    refine cBel e3 fun ρ2' e5 e6=>?_
    have fz2:Fz G1 H2:=f2.trans I2.fz;refine .inr ⟨IT.go H2 i fz2 hlt,fun σ' H'=>(∃G3,SI X.K B G3 H' σ' ρ3/\Fz G1 G3)/\(f= .next\/f= .cont),?_,fun x H' y=>?_⟩
    . rintro σ' H' ⟨⟨G3,I3,f3⟩,hf⟩
      refine⟨ds.length-(i+1),by lia,rfl,hlt,G3,ρ3,I3,f3,?_⟩;rcases hf with rfl|rfl<;>exact e4
    . have yy:=IT.yld H2 i x H' fz2 y ds[i] (qbF hlt)
      have yy2:(H'=H2/\RepD X.K G2 x ds[i])\/∃p xs es,H2 p=none/\H'=upd H2 p (.tup xs)/\x= .ref p/\ds[i]= .tup es/\RepL X.K G2 xs es:=by
        rcases yy with⟨a,b⟩|⟨p,xs,es,a,b,c,d,e⟩
        . exact .inl ⟨a,b.mono f2⟩
        . exact .inr ⟨p,xs,es,a,b,c,d,e.mono f2⟩
      obtain⟨G3,I3,f3,r3⟩:=I2.yld yy2;refine sg B G3 H' σ2 ρ2 x ds[i] ρ2' _ I3 r3 e5 fun G4 H4 σ4 I4 f4=>sb B G4 H4 σ4 ρ2' f ρ3 _ I4 e6 ?_
      have ff:Fz G1 G4:=f2.trans (f3.trans f4);cases f with
      |next=>exact fun G5 H5 σ5 I5 f5=>⟨⟨G5,I5,ff.trans f5⟩,.inl rfl⟩
      |cont=>exact fun G5 H5 σ5 I5 f5=>⟨⟨G5,I5,ff.trans f5⟩,.inr rfl⟩
      |brk=>obtain⟨rfl,rfl⟩:=cSp e4;exact fun G5 H5 σ5 I5 f5=>k G5 H5 σ5 I5 (f1.trans (ff.trans f5))
      |ret r=>obtain⟨rfl,rfl⟩:=cSp e4;exact fun G5 H5 σ5 v I5 f5=>k G5 H5 σ5 v I5 (f1.trans (ff.trans f5))
  . have e:i=ds.length:=by lia
    subst e;rw[List.drop_length]at e2;obtain⟨rfl,rfl⟩:=cSp e2;exact .inl ⟨IT.stop H2 _ (f2.trans I2.fz) (qaE _),k G2 H2 σ2 I2 (f1.trans f2)⟩
section
variable {X:Cx} {tg it:Expr} {me:ME}
noncomputable def iSeq (m:ME):MA:=fun ρ=>(m ρ).bind fun p=>(zaV [p.1]).map fun ds=>(ds,p.2)
theorem pi_or {l:Expr}{tl:TE}(hl:PE X l tl):PI X tg l (fun σ H R=>tl σ H fun x H1=>∃a,x= .ref a/\(((∃xs,SqL X.K H1 a xs)/\R (Itl X.K a) H1)\/((∃xs,SqT X.K H1 a xs)/\R (Itt X.K a) H1))):=by
 intro pins s σ H R I h;refine thn (hl pins s σ H _ I h) fun v s1 ⟨x,H1,I1,r1,q1⟩=>?_
 obtain⟨a,e,q⟩:=q1;subst e;cases r1;rcases q with⟨⟨xs,hq⟩,q⟩|⟨⟨xs,hq⟩,q⟩
 ·obtain⟨its,rv,p,hz⟩:=I1.list hq;refine wpAny_pyIter_list p.isList ?_;refine⟨s1.heap.objs.size,[s1.heap.objs.size],_,_,H1,rfl,I1.kept (t':=s1.toks) fun b o e=>qaC _ e,zsx a _,⟨_,qaD _ rfl,rfl,rfl⟩,fun b hb=>?_,q⟩;have e:b=s1.heap.objs.size:=by simpa using hb
  subst e;exact I1.fpOk (qaE _) (I1.hok.fresh (qaE _))
 ·obtain⟨its,rv,p,hz⟩:=I1.tuple hq;refine qaB (show s1.heap.IsTuple a its.toArray from p) ?_;refine⟨s1.heap.objs.size,[s1.heap.objs.size],_,_,H1,rfl,I1.kept (t':=s1.toks) fun b o e=>qaC _ e,zlA a _,⟨_,qaD _ rfl,rfl,rfl⟩,fun b hb=>?_,q⟩;have e:b=s1.heap.objs.size:=by simpa using hb
  subst e;exact I1.fpOk (qaE _) (I1.hok.fresh (qaE _))
theorem zoX {a:Addr}(hg:SqL K G a xs)(r:RepL K G xs ds):Itm K (Itl K a) G ds where
 go:=fun H i f hi=>by
  have hl:=r.length;exact⟨xs,xs[i],f.sql hg,qbF (by lia)⟩
 yld:=fun H i x H' f y d e=>by
  obtain⟨rfl,y⟩:=y;have hx:=y xs (f.sql hg);obtain⟨x',h1,h2⟩:=r.get e;rw[hx]at h1;cases h1;exact .inl ⟨rfl,h2⟩
 stop:=fun H i f hi=>⟨xs,f.sql hg,by rw[r.length];exact hi⟩
theorem itm_tup {a:Addr}(hg:G a=some (.tup xs))(r:RepL K G xs ds):Itm K (Itt K a) G ds where
 go:=fun H i f hi=>by
  have hl:=r.length;exact⟨xs,xs[i],SqT.of (f _ _ hg),qbF (by lia)⟩
 yld:=fun H i x H' f y d e=>by
  obtain⟨rfl,y⟩:=y;have hx:=y xs (SqT.of (f _ _ hg));obtain⟨x',h1,h2⟩:=r.get e;rw[hx]at h1;cases h1;exact .inl ⟨rfl,h2⟩
 stop:=fun H i f hi=>⟨xs,SqT.of (f _ _ hg),by rw[r.length];exact hi⟩
theorem zbA (h:SE X it me):SIt X tg it (iSeq me):=by
 refine h.el fun t p s=>?_
 refine⟨_,pi_or p,fun B G H σ ρ ds ρ' Q I hm k=>?_⟩;refine zaJ hm fun d ρ1 e1 hm=>?_
 refine cMel hm fun es e2 e3=>?_
 cases e3;refine s B G H σ ρ d ρ1 _ I e1 fun G1 H1 v I1 f1 r1=>?_
 cases d<;>simp only[zaV]at e2<;>try cases e2
 ·obtain⟨a,xs,rfl,ha,r⟩:=r1;exact⟨a,rfl,.inl ⟨⟨xs,SqL.of (I1.fz _ _ ha)⟩,k _ G1 H1 I1 f1 (zoX (SqL.of ha) r)⟩⟩
 ·obtain⟨a,xs,rfl,ha,r⟩:=r1;exact⟨a,rfl,.inr ⟨⟨xs,SqT.of (I1.fz _ _ ha)⟩,k _ G1 H1 I1 f1 (itm_tup ha r)⟩⟩
 ·obtain⟨a,rfl,ha⟩:=r1;exact⟨a,rfl,.inl ⟨⟨_,I1.fz.sql ha⟩,k _ G1 H1 I1 f1 (zoX ha (RepL.ints _))⟩⟩
end
noncomputable def zeX (lo:Int)(n:Nat):List D:=(List.range n).map fun(i:Nat)=>D.int (lo+(i:Int))
theorem znW (lo:Int)(n:Nat):Itm K (Itr lo n) G (zeX lo n) where
 go:=fun H i f hi=>by show i<n;simpa[zeX]using hi
 yld:=fun H i x H' f y d e=>by
  obtain⟨rfl,rfl⟩:=y;unfold zeX at e;rw[qaT]at e;cases q:(List.range n)[i]? with
  |none=>rw[q]at e;exact cNN e
  |some j=>
   rw[q]at e;have hj:j=i:=by
    have:=qap.mp q;obtain⟨h1,h2⟩:=this;simpa using h2.symm
   subst hj;cases e;exact .inl ⟨rfl,rfl⟩
 stop:=fun H i f hi=>by show n<=i;simpa[zeX]using hi
noncomputable def zbL (j:Int):Bool:=decide (-1000000000000<=j)&&decide (j<=1000000000000)
theorem zdM {j:Int}(h:zbL j=true): -(2^62)<=j/\j<2^62:=by
 unfold zbL at h;simp only[qa9,qbA]at h;lia
noncomputable def iR1 (ma:MA):MA:=fun ρ=>(ma ρ).bind fun p=>match p.1 with
 |[.int j]=>if zbL j then some (zeX 0 j.toNat,p.2)else none
 |_=>none
noncomputable def iR2 (ma:MA):MA:=fun ρ=>(ma ρ).bind fun p=>match p.1 with
 |[.int i,.int j]=>if zbL i&&zbL j then some (zeX i (j-i).toNat,p.2)else none
 |_=>none
section
variable {X:Cx} {tg a b:Expr} {ma:MA} {p pos:Pos}
theorem zaB (hm:X.mg "range"=none)(ha:SA X [a] ma)(hg:Gl X "range":=by rfl)(hs:starEach [a] X.env=[(false,eval a X.env)]:=by rfl):SIt X tg (.Call (.Name "range" p) [a] [] pos) (iR1 ma):=by
 obtain⟨t,pa,sa⟩:=ha;refine⟨_,zrG hg hm pa hs,fun B G H σ ρ ds ρ' Q I hm k=>?_⟩;obtain⟨⟨es,ρ1⟩,e1,h2⟩:=zpz hm;dsimp only at h2;refine sa B G H σ ρ es ρ1 _ I e1 fun G1 H1 vs I1 f1 r1=>?_
 split at h2
 ·rename_i j
  split at h2
  ·rename_i hj;cases h2;obtain⟨x,rfl,rx⟩:=r1.one;cases(show x=V.int j from rx);exact⟨j,rfl,(zdM hj).1,(zdM hj).2,k _ G1 H1 I1 f1 (znW 0 _)⟩
  ·exact cNN h2
 ·exact cNN h2
theorem zsq (hm:X.mg "range"=none)(ha:SA X [a,b] ma)(hg:Gl X "range":=by rfl)(hs:starEach [a,b] X.env=[(false,eval a X.env),(false,eval b X.env)]:=by rfl)(hs2:starEach [b] X.env=[(false,eval b X.env)]:=by rfl):SIt X tg (.Call (.Name "range" p) [a,b] [] pos) (iR2 ma):=by
 refine ha.el fun t pa sa=>?_
 refine⟨_,zrt hg hm pa hs hs2,fun B G H σ ρ ds ρ' Q I hm k=>?_⟩;refine zaJ hm fun es ρ1 e1 h2=>?_
 dsimp only at h2;refine sa B G H σ ρ es ρ1 _ I e1 fun G1 H1 vs I1 f1 r1=>?_
 split at h2
 ·rename_i i j;refine cIte h2 fun hj h2=>?_
  simp only[qa9]at hj;obtain⟨rfl,rfl⟩:=cSp h2;obtain⟨x,y,rfl,rx,ry⟩:=r1.two;cases(show x=V.int i from rx);cases(show y=V.int j from ry);exact⟨i,j,rfl,⟨(zdM hj.1).1,(zdM hj.1).2,(zdM hj.2).1,(zdM hj.2).2⟩,k _ G1 H1 I1 f1 (znW i _)⟩
 ·exact cNN h2
end
noncomputable def ResF (K:W.Frag)(G' H' H:Hp)(v:V):Sl->Prop
 | .val d=>RepD K G' v d
 | .own ds=>∃l xs,v= .ref l/\G' l=none/\H' l=some (.lst xs)/\RepL K G' xs ds/\H l=none
 | .tre t=>∃A,RepT K G' H' v t A/\A.Nodup/\∀a∈A,G' a=none/\H a=none
 | .two ds es=>∃t l xs m ys,v= .ref t/\H' t=some (.tup [.ref l,.ref m])/\l≠m/\G' l=none/\H' l=some (.lst xs)/\RepL K G' xs ds/\H l=none/\G' m=none/\H' m=some (.lst ys)/\RepL K G' ys es/\H m=none
 |_=>False
noncomputable def spP (K:W.Frag)(n:Nat)(F:List D->Option Sl):Sp:=fun vs H Q _=>∃G ds r,F ds=some r/\ds.length=n/\Fz G H/\RepL K G vs ds/\
 ∀G' H' v,Fz G G'->Fz G' H'->(∀b o,G' b=some o->G b≠none\/H b=none)->Fz H H'->ResF K G' H' H v r->Q v H'
noncomputable def spM (K:W.Frag)(n:Nat)(F:List D->List D->Option (Sl×List D)):Sp:=fun vs H Q _=>∃G l xs cs ws ds r out,vs= .ref l::ws/\F cs ds=some (r,out)/\ds.length+1=n/\Fz G H/\G l=none/\H l=some (.lst xs)/\RepL K G xs cs/\RepL K G ws ds/\
 ∀G' H' v ys,Fz G G'->Fz G' H'->(∀b o,G' b=some o->G b≠none\/H b=none)->(∀b o,b≠l->H b=some o->H' b=some o)->G' l=none->H' l=some (.lst ys)->RepL K G' ys out->ResF K G' H' H v r->Q v H'
noncomputable def fP (N:Nat)(m:MS):List D->Option Sl:=fun ds=>(m (ds.map .val++List.replicate (N-ds.length) .emp)).bind fun p=>match p.1 with
 | .ret r=>some r
 | .next=>some (.val .non)
 |_=>none
noncomputable def fM (N:Nat)(m:MS):List D->List D->Option (Sl×List D):=fun cs ds=>(m (.par cs::(ds.map .val++List.replicate (N-(ds.length+1)) .emp))).bind fun p=>match p.1,(p.2[0]?:Option Sl)with
 |Fl.ret r,some (Sl.par out)=>some (r,out)
 |Fl.next,some (Sl.par out)=>some (.val .non,out)
 |_,_=>none
theorem znD (h:vs.length<=N.length):(L2.start N vs).length=N.length:=by
 unfold L2.start;rw[qaW,qaX,qaY];lia
theorem SI.start (fz:Fz G H)(r:RepL K G vs ds)(h:ds.length<=N.length):
  SI K ⟨G,H,[]⟩ G H (L2.start N vs) (ds.map .val++List.replicate (N.length-ds.length) .emp) where
 fz:=fz
 g0:=Fz.refl G
 new:=fun b o e=> .inl (by show G b≠none;rw[e];simp)
 keep:=fun b o e _=>e
 there:=fun b e=>e
 ob:=fun i b m=>by cases m
 len:=by rw[znD (by rw[r.length];exact h),qaW,qaX,qaY];lia
 slot:=fun i s e=>by
  by_cases hi:i<ds.length
  ·rw[qaS (by simpa using hi),qaT,qbF hi]at e;cases e;obtain⟨x,h1,h2⟩:=r.get (qbF hi);refine⟨x,?_,h2⟩;unfold L2.start;rw[qaS (by rw[qaX,r.length];exact hi),qaT,h1]
   rfl
  ·rw[qaQ (by simpa using hi),qaR]at e
   split at e
   ·cases e;trivial
   ·exact cNN e
 dis:=fun i j s _ a _ e _ w=>by
  exfalso
  by_cases hi:i<ds.length
  ·rw[qaS (by simpa using hi),qaT,qbF hi]at e;cases e;exact w
  ·rw[qaQ (by simpa using hi),qaR]at e
   split at e
   ·cases e;exact w
   ·exact cNN e
theorem SI.startM (fz:Fz G H)(hg:G l=none)(hl:H l=some (.lst xs))(rc:RepL K G xs cs)(r:RepL K G vs ds)(h:ds.length+1<=N.length):
  SI K ⟨G,H,[(0,l)]⟩ G H (L2.start N (.ref l::vs)) (.par cs::(ds.map .val++List.replicate (N.length-(ds.length+1)) .emp)) where
 fz:=fz
 g0:=Fz.refl G
 new:=fun b o e=> .inl (by show G b≠none;rw[e];simp)
 keep:=fun b o e _=>e
 there:=fun b e=>e
 ob:=fun i b m=>by
  have:b=l:=((by simpa using m):i=0/\b=l).2;subst this;show H b≠none;rw[hl];simp
 len:=by
  have:=r.length;rw[znD (by rw[qbr,r.length];exact h),qbr,qaW,qaX,qaY];lia
 slot:=fun i s e=>by
  cases i with
  |zero=>simp at e;subst e;exact⟨l,xs,rfl,hg,hl,rc,by simp⟩
  |succ i=>
   rw[qbI]at e
   by_cases hi:i<ds.length
   ·rw[qaS (by simpa using hi),qaT,qbF hi]at e;cases e;obtain⟨x,h1,h2⟩:=r.get (qbF hi);refine⟨x,?_,h2⟩;unfold L2.start;rw[qbc,List.cons_append,qbI,qaS (by rw[qaX,r.length];exact hi),qaT,h1]
    rfl
   ·rw[qaQ (by simpa using hi),qaR]at e
    split at e
    ·cases e;trivial
    ·exact cNN e
 dis:=fun i j s t a hij hi hj w1 w2=>by
  have z:∀(i:Nat) (s:Sl),(Sl.par cs::(ds.map .val++List.replicate (N.length-(ds.length+1)) .emp))[i]? =some s->OwS K G H (L2.start N (.ref l::vs))[i]? a s->i=0:=fun i s e q=>by
   cases i with
   |zero=>rfl
   |succ i=>
    exfalso;rw[qbI]at e
    by_cases hi:i<ds.length
    ·rw[qaS (by simpa using hi),qaT,qbF hi]at e;cases e;exact q
    ·rw[qaQ (by simpa using hi),qaR]at e
     split at e
     ·cases e;exact q
     ·exact cNN e
  exact hij ((z i s hi w1).trans (z j t hj w2).symm)
section
variable {P:Program} {w:World} {K:W.Frag} {mg:Str->Option Value} {base:Heap}
theorem fnP_ok {st:Stmt}{f:Addr}(F:Fun K x qual st f fd)(S:FnScope N ps (zaT st))(hn:ps.length=n)(hN:n<=N.length)
  (body:∀(cdv:Value) (A:Around) (outer:List Env) (s:Shared) (H:Hp) (E:XK),Room k (A.deeper (envOfC qual (zaT st) s.heap.objs.size f cdv))->SSs (cxOf CX0 P w K mg base N qual (zaT st) f cdv A outer s H E).nox (zde st) m):
  FnOk P w K mg base CX0 (k+1) f fd ps (spP K n (fP N.length m)):=by
 refine F.ok S (fun vs H Q E h=>?_) (fun cdv A outer s H vs Q E hr h=>?_)
 ·obtain⟨G,ds,r,_,h2,_,h4,_⟩:=h;rw[h4.length,h2,hn]
 ·obtain⟨G,ds,r,e1,h2,fz,h4,kk⟩:=h;obtain⟨t,pt,so⟩:=body cdv A outer s H E hr;refine⟨t,pt,?_⟩;refine zaJ e1 fun fl ρ' e2 e3=>?_
  refine so ⟨G,H,[]⟩ G H (L2.start N vs) _ fl ρ' _ (SI.start fz h4 (by lia)) e2 ?_;have fin:∀G' H' σ' v,SI K ⟨G,H,[]⟩ G' H' σ' ρ'->Fz G G'->ResF K G' H' H v r->Q v H':=fun G' H' σ' v I f rr=>kk G' H' v f I.fz I.new (fun b o e=>I.keep b o e (by simp)) rr
  cases fl with
  |next=>cases e3;exact fun G' H' σ' I f=>fin G' H' σ' .non I f rfl
  |brk=>exact cNN e3
  |cont=>exact cNN e3
  |ret r'=>
   cases e3;refine fun G' H' σ' v I f rr=>fin G' H' σ' v I f ?_
   cases r with
   |val d=>exact rr
   |own ds=>exact rr
   |emp=>exact rr
   |two _ _=>exact rr
   |tre _=>exact rr
   |ptr _=>exact rr
   |par ds=>exact rr
theorem fnM_ok {st:Stmt}{f:Addr}(F:Fun K x qual st f fd)(S:FnScope N ps (zaT st))(hn:ps.length=n)(hN:n<=N.length)
  (body:∀(cdv:Value) (A:Around) (outer:List Env) (s:Shared) (H:Hp) (E:XK),Room k (A.deeper (envOfC qual (zaT st) s.heap.objs.size f cdv))->SSs (cxOf CX0 P w K mg base N qual (zaT st) f cdv A outer s H E).nox (zde st) m):
  FnOk P w K mg base CX0 (k+1) f fd ps (spM K n (fM N.length m)):=by
 refine F.ok S (fun vs H Q E h=>?_) (fun cdv A outer s H vs Q E hr h=>?_)
 ·obtain⟨G,l,xs,cs,ws,ds,r,out,rfl,_,h2,_,_,_,_,h4,_⟩:=h;rw[qbr,h4.length,h2,hn]
 ·obtain⟨G,l,xs,cs,ws,ds,r,out,rfl,e1,h2,fz,hg,hl,rc,h4,kk⟩:=h;obtain⟨t,pt,so⟩:=body cdv A outer s H E hr;refine⟨t,pt,?_⟩;refine zaJ e1 fun fl ρ' e2 e3=>?_
  refine so ⟨G,H,[(0,l)]⟩ G H _ _ fl ρ' _ (SI.startM fz hg hl rc h4 (by lia)) e2 ?_;have fin:∀G' H' σ' v,ρ'[0]? =some (.par out)->SI K ⟨G,H,[(0,l)]⟩ G' H' σ' ρ'->Fz G G'->ResF K G' H' H v r->Q v H':=fun G' H' σ' v e0 I f rr=>by
   obtain⟨l',ys,k1,k2,k3,k4,k5⟩:=I.slot 0 _ e0;have:l'=l:=by simpa using k5
   subst this;exact kk G' H' v ys f I.fz I.new (fun b o hb e=>I.keep b o e (fun i hm=>by simp at hm;exact hb hm.2)) k2 k3 k4 rr
  cases e0:ρ'[0]? with
  |none=>rw[e0]at e3;cases fl<;>exact cNN e3
  |some s0=>
   rw[e0]at e3;cases s0 with
   |emp=>cases fl<;>exact cNN e3
   |two _ _=>cases fl<;>exact cNN e3
   |tre _=>cases fl<;>exact cNN e3
   |ptr _=>cases fl<;>exact cNN e3
   |val d=>cases fl<;>exact cNN e3
   |own d=>cases fl<;>exact cNN e3
   |par o2=>
    cases fl with
    |next=>obtain⟨rfl,rfl⟩:=cSp e3;exact fun G' H' σ' I f=>fin G' H' σ' .non e0 I f rfl
    |brk=>exact cNN e3
    |cont=>exact cNN e3
    |ret r'=>
     cases e3;refine fun G' H' σ' v I f rr=>fin G' H' σ' v e0 I f ?_
     cases r with
     |val d=>exact rr
     |own ds=>exact rr
     |emp=>exact rr
     |two _ _=>exact rr
     |tre _=>exact rr
     |ptr _=>exact rr
     |par ds=>exact rr
end
structure FD (P:Program) (w:World) (K:W.Frag) (mg:Str->Option Value) (base:Heap) (k:Nat) (x:Str) (sp:Sp):Prop where
 ex:∃f fd ps,FnOk P w K mg base CX0 k f fd ps sp/\mg x=some (.ref f)/\W.keepIn K (.ref f)=true/\Binds K fd ps []
theorem zqN (nw:∀b o,G' b=some o->G b≠none\/H b=none)(kp:Fz H H'):∀(i:Nat) (s:Sl) (a:Addr),ρ[i]? =some s->OwS K G H σ[i]? a s->G a=none->H a≠none->G' a=none/\H' a=H a:=fun i s a _ _ g h=>by
 obtain⟨u,hu⟩:=qbv.mp h;refine⟨?_,(kp a u hu).trans hu.symm⟩;cases q:G' a with
 |none=>rfl
 |some u=>
  rcases nw a u q with z|z
  ·exact absurd g z
  ·exact absurd z h
theorem SI.grow (I:SI K B G H σ ρ)(f:Fz G G')(fz:Fz G' H')(nw:∀b o,G' b=some o->G b≠none\/H b=none)(kp:Fz H H'):SI K B G' H' σ ρ:=
 I.move fz f (fun b o e=>by
  rcases nw b o e with h|h
  ·cases q:G b with
   |none=>exact absurd q h
   |some u=>exact I.new b u q
  ·exact .inr (I.there b h)) (fun b o e n=>kp b o (I.keep b o e n)) (fun b e=>I.there b (kp.free e)) (zqN nw kp)
theorem SI.own_ne (I:SI K B G H σ ρ){p:Addr}(hp:H p=none)(nw:∀b o,G' b=some o->G b≠none\/H b=none)(kp:Fz H H'):Nw K G' H' σ ρ p:=I.nw_move (I.nw hp) (zqN nw kp)
noncomputable def zas (F:List D->Option Sl)(ma:MA):ME:=fun ρ=>(ma ρ).bind fun p=>(F p.1).bind fun r=>match r with
 | .val d=>some (d,p.2)
 | .own ds=>some (.lst ds,p.2)
 |_=>none
noncomputable def znR (F:List D->Option Sl)(ma:MA):MO:=fun ρ=>(ma ρ).bind fun p=>(F p.1).bind fun r=>match r with
 | .own ds=>some (ds,p.2)
 |_=>none
section
variable {X:Cx} {x:Str} {p pos:Pos} {e:Expr} {es:List Expr} {ma:MA} {k k' n:Nat} {F:List D->Option Sl}
theorem zam (fd:FD X.prog X.w X.K X.mg X.base k x (spP X.K n F))(hr:Room k' X.A)(ha:SA X (e::es) ma)(hn:(e::es).length=n:=by rfl)(hk:k<=k':=by decide)(hg:Gl X x:=by rfl)(hdb:(x==("__debug__":Str))=false:=by decide)
  (he:starEach (e::es) X.env=(false,eval e X.env)::starEach es X.env:=by rfl) (hpl:(backTo pos (starEach es X.env)).any (·.1)=false:=by rfl) (hlen:∀ρ as ρ',ma ρ=some (as,ρ')->as.length=n):SE X (.Call (.Name x p) (e::es) [] pos) (zas F ma):=by
 obtain⟨f,fdd,ps,G0,h1,h2,h3⟩:=fd.ex;refine ha.el fun t pa sa=>?_
 refine⟨_,zoU G0 (hr.mono hk) hg h1 h2 h3 .nil pass0 pa hdb he hpl,fun B G H σ ρ d ρ' Q I hm kk=>?_⟩;refine zaJ hm fun as ρ1 e1 hm=>?_
 refine cBel hm fun r e2 hm=>?_
 refine sa B G H σ ρ as ρ1 _ I e1 fun G1 H1 vs I1 f1 r1=>?_
 show spP X.K n F (vs++[]) H1 Q E0;rw[qaK];refine⟨G1,as,r,e2,hlen ρ as ρ1 e1,I1.fz,r1,fun G2 H2 v f2 fz2 nw kp rr=>?_⟩;have I2:=I1.grow f2 fz2 nw kp;cases r with
 |val d'=>obtain⟨rfl,rfl⟩:=cSp hm;exact kk G2 H2 v I2 (f1.trans f2) rr
 |own ds=>
  obtain⟨rfl,rfl⟩:=cSp hm;obtain⟨l,xs,rfl,g3,h3,r3,b3⟩:=rr;obtain⟨I3,f3,r4⟩:=zny I2 g3 h3 r3 (I1.there l b3) (I1.own_ne b3 nw kp);exact kk _ H2 _ I3 (f1.trans (f2.trans f3)) r4
 |emp=>exact cNN hm
 |two _ _=>exact cNN hm
 |tre _=>exact cNN hm
 |ptr _=>exact cNN hm
 |par _=>exact cNN hm
theorem zjs (fd:FD X.prog X.w X.K X.mg X.base k x (spP X.K n F))(hr:Room k' X.A)(ha:SA X (e::es) ma)(hn:(e::es).length=n:=by rfl)(hk:k<=k':=by decide)(hg:Gl X x:=by rfl)(hdb:(x==("__debug__":Str))=false:=by decide)
  (he:starEach (e::es) X.env=(false,eval e X.env)::starEach es X.env:=by rfl) (hpl:(backTo pos (starEach es X.env)).any (·.1)=false:=by rfl) (hlen:∀ρ as ρ',ma ρ=some (as,ρ')->as.length=n):SO X (.Call (.Name x p) (e::es) [] pos) (znR F ma):=by
 obtain⟨f,fdd,ps,G0,h1,h2,h3⟩:=fd.ex;refine ha.el fun t pa sa=>?_
 refine⟨_,zoU G0 (hr.mono hk) hg h1 h2 h3 .nil pass0 pa hdb he hpl,fun B G H σ ρ d ρ' Q I hm kk=>?_⟩;refine zaJ hm fun as ρ1 e1 hm=>?_
 refine cBel hm fun r e2 hm=>?_
 refine sa B G H σ ρ as ρ1 _ I e1 fun G1 H1 vs I1 f1 r1=>?_
 show spP X.K n F (vs++[]) H1 Q E0;rw[qaK];refine⟨G1,as,r,e2,hlen ρ as ρ1 e1,I1.fz,r1,fun G2 H2 v f2 fz2 nw kp rr=>?_⟩;have I2:=I1.grow f2 fz2 nw kp;cases r with
 |val d'=>exact cNN hm
 |own ds=>
  obtain⟨rfl,rfl⟩:=cSp hm;obtain⟨l,xs,rfl,g3,h3,r3,b3⟩:=rr;exact kk G2 H2 l xs I2 (f1.trans f2) g3 h3 r3 (I1.there l b3) (I1.own_ne b3 nw kp)
 |emp=>exact cNN hm
 |two _ _=>exact cNN hm
 |tre _=>exact cNN hm
 |ptr _=>exact cNN hm
 |par _=>exact cNN hm
end
noncomputable def aLen (ma:MA)(n:Nat):Prop:=∀ρ as ρ',ma ρ=some (as,ρ')->as.length=n
theorem zah:aLen aNil 0:=fun ρ as ρ' h=>by obtain⟨rfl,rfl⟩:=cSp h;rfl
theorem zac {m:ME}{r:MA}(h:aLen r n):aLen (zad m r) (n+1):=fun ρ as ρ' e=>by
 refine zaJ e fun d ρ1 _ h2=>?_
 refine zjy h2 fun ds ρ2 e3 e4=>?_
 cases e4;rw[qbr,h ρ1 ds ρ2 e3]
noncomputable def zbB (F:List D->List D->Option (Sl×List D))(j:Nat)(ma:MA):ME:=fun ρ=>if(ρ[j]?.bind Sl.items).isSome then(ma ρ).bind fun p=>p.2[j]?.bind fun s=>s.items.bind fun cs=>(F cs p.1).bind fun r=>match r.1 with
 | .val d=>some (d,p.2.set j (s.put r.2))
 | .own ds=>some (.lst ds,p.2.set j (s.put r.2))
 |_=>none else none
theorem SI.growW (I:SI K B G H σ ρ)(e:ρ[j]? =some s)(q:s.items=some cs)(hl:σ[j]? =some (some (.ref l)))
  (f:Fz G G') (fz:Fz G' H') (nw:∀b o,G' b=some o->G b≠none\/H b=none) (kp:∀b o,b≠l->H b=some o->H' b=some o) (gl:G' l=none) (hl':H' l=some (.lst ys)) (r:RepL K G' ys out):SI K B G' H' σ (ρ.set j (s.put out)):=
 I.chgW e q hl fz f nw kp gl hl' r
theorem SI.own_neW {l p:Addr}(I:SI K B G H σ ρ)(e:ρ[j]? =some s)(q:s.items=some cs)(hl:σ[j]? =some (some (.ref l)))(hp:H p=none)
  (nw:∀b o,G' b=some o->G b≠none\/H b=none) (kp:∀b o,b≠l->H b=some o->H' b=some o):Nw K G' H' σ (ρ.set j (s.put out)) p:=fun i t et w=>by
 obtain⟨l',xs,e1,e2,e3,e4⟩:=I.wr e q;rw[hl]at e1;cases e1;have hpl:p≠l:=fun z=>by rw[z,e3]at hp;cases hp
 by_cases z:i=j
 ·subst z;rw[qbu,if_pos rfl]at et
  split at et
  ·cases et;have:=(zg0 (znE q out)).mp w;rw[hl]at this;exact hpl (V.ref.inj (Option.some.inj (Option.some.inj this))).symm
  ·cases et
 ·rw[qaq (Ne.symm z)]at et;have sl:=I.slot i t et;refine(sl.own (sl.back (fun a w g h=>?_) w)).2.1 hp;have na:a≠l:=fun w'=>by subst w';exact I.dis i j t s a z et e w ((zg0 q).mpr hl)
  obtain⟨u,hu⟩:=qbv.mp h;refine⟨?_,(kp a u na hu).trans hu.symm⟩;cases q2:G' a with
  |none=>rfl
  |some u=>
   rcases nw a u q2 with z|z
   ·exact absurd g z
   ·exact absurd z h
section
variable {X:Cx} {x y:Str} {p py pos:Pos} {es:List Expr} {ma:MA} {k k' n:Nat} {F:List D->List D->Option (Sl×List D)}
theorem soundM {t:TA}{Q:VK}(sa:∀B G H σ ρ ds ρ' (Q:List V->Hp->Prop),SI X.K B G H σ ρ->ma ρ=some (ds,ρ')->(∀G' H' vs,SI X.K B G' H' σ ρ'->Fz G G'->RepL X.K G' vs ds->Q vs H')->t σ H Q)
  (hlen:∀ρ as ρ',ma ρ=some (as,ρ')->as.length+1=n) (I:SI X.K B G H σ ρ) {ds0:List D} (h0:ρ[j]?.bind Sl.items=some ds0) {as:List D} {ρ1:R} (e1:ma ρ=some (as,ρ1)) {s:Sl} (e2:ρ1[j]? =some s) {cs:List D} (e3:s.items=some cs)
  {r:Sl} {out:List D} (e4:F cs as=some (r,out))
  (kk:∀G' H' v,SI X.K B G' H' σ (ρ1.set j (s.put out))->Fz G G'->True->(∃H1,ResF X.K G' H' H1 v r/\(∀b,H1 b=none->B.H b=none)/\∀b,H1 b=none->Nw X.K G' H' σ (ρ1.set j (s.put out)) b)->Q v H'):
  tCall (spM X.K n F) [] E0 (tCons (tVar j) t) σ H Q:=by
 obtain⟨s0,k0,q0⟩:=zpz h0;obtain⟨l,xs0,h1,h2,h3,h4⟩:=I.wr k0 q0;refine⟨.ref l,h1,sa B G H σ ρ as ρ1 _ I e1 fun G1 H1 vs I1 f1 r1=>?_⟩;show spM X.K n F ((.ref l::vs)++[]) H1 Q E0;rw[qaK];obtain⟨l',xs,m1,m2,m3,m4⟩:=I1.wr e2 e3;rw[h1]at m1;cases m1;refine⟨G1,l,xs,cs,vs,as,r,out,rfl,e4,hlen ρ as ρ1 e1,I1.fz,m2,m3,m4,r1,fun G2 H2 v ys f2 fz2 nw kp gl hl r2 rr=>?_⟩;exact kk G2 H2 v (I1.growW e2 e3 h1 f2 fz2 nw kp gl hl r2) (f1.trans f2) trivial ⟨H1,rr,fun b hb=>I1.there b hb,fun b hb=>I1.own_neW e2 e3 h1 hb nw kp⟩
theorem zaU (j:Nat)(fd:FD X.prog X.w X.K X.mg X.base k x (spM X.K n F))(hr:Room k' X.A)(ha:SA X es ma)(hlen:∀ρ as ρ',ma ρ=some (as,ρ')->as.length+1=n)(hN:X.N[j]? =some y:=by rfl)(hv:Vis X.env.scope y:=by trivial)(hd:(y==("__debug__":Str))=false:=by decide)
  (hcd:(y==("__classdict__":Str))=false:=by decide) (hk:k<=k':=by decide) (hg:Gl X x:=by rfl) (hdb:(x==("__debug__":Str))=false:=by decide)
  (he:starEach (.Name y py::es) X.env=(false,eval (.Name y py) X.env)::starEach es X.env:=by rfl) (hpl:(backTo pos (starEach es X.env)).any (·.1)=false:=by rfl):SE X (.Call (.Name x p) (.Name y py::es) [] pos) (zbB F j ma):=by
 obtain⟨f,fdd,ps,G0,h1,h2,h3⟩:=fd.ex;refine ha.el fun t pa sa=>?_
 refine⟨_,zoU G0 (hr.mono hk) hg h1 h2 h3 .nil pass0 (zko (zfO hN hv hd hcd) pa he) hdb he hpl,fun B G H σ ρ d ρ' Q I hm kk=>?_⟩;unfold zbB at hm;refine cIte hm fun hso hm=>?_
 obtain⟨ds0,hso⟩:=qaN.mp hso;refine zaJ hm fun as ρ1 e1 hm=>?_
 refine cBel hm fun s e2 hm=>?_
 refine cBel hm fun cs e3 hm=>?_
 refine zaJ hm fun r out e4 hm=>?_
 refine soundM sa hlen I hso e1 e2 e3 e4 fun G' H' v I' f' _ ⟨H1,rr,bb,nn⟩=>?_
 cases r with
 |val d'=>obtain⟨rfl,rfl⟩:=cSp hm;exact kk G' H' v I' f' rr
 |own ds=>
  obtain⟨rfl,rfl⟩:=cSp hm;obtain⟨l,xs,rfl,g3,h3,r3,b3⟩:=rr;obtain⟨I3,f3,r4⟩:=zny I' g3 h3 r3 (bb l b3) (nn l b3);exact kk _ H' _ I3 (f'.trans f3) r4
 |emp=>exact cNN hm
 |two _ _=>exact cNN hm
 |tre _=>exact cNN hm
 |ptr _=>exact cNN hm
 |par _=>exact cNN hm
end
noncomputable def zha (env:Env)(cs:List (Str×Addr))(x:Str×NameKind):List (Str×Addr):=if x.2== .free then(x.1,(env.cells.lookup x.1).getD 0)::cs else cs
noncomputable def clOf (scope:Scope)(env:Env):List (Str×Addr):=scope.names.foldl (zha env) []
theorem zj8:∀(names:List (Str×NameKind)) (cs:List (Str×Addr)),(∀y∈names,y.2= .free->∃c,env.cells.lookup y.1=some c)->
  (forIn names cs (fun x r=>if x.2==NameKind.free then do let a<-cellOf env x.1;pure (ForInStep.yield ((x.1,a)::r))else pure (ForInStep.yield r)):Sem (List (Str×Addr)))=pure (names.foldl (zha env) cs)
 |[],cs,_=>rfl
 |(n,k)::r,cs,h=>by
  have ih:=fun cs'=>zj8 r cs' (fun y hy=>h y (qal _ hy))
  rw[qbJ,qbi]
  by_cases hk:(k==NameKind.free)=true
  ·obtain⟨c,hc⟩:=h (n,k) qak (by simpa using hk);have e:zha env cs (n,k)=(n,c)::cs:=by unfold zha;simp[hk,hc]
   rw[e,<-ih];simp only[hk,if_true];unfold cellOf;simp only at hc;rw[hc]
   rfl
  ·have e:zha env cs (n,k)=cs:=by unfold zha;simp[hk]
   rw[e,<-ih];simp only[hk]
   rfl
theorem zqB {env:Env}(h:∀y∈scope.names,y.2= .free->∃c,env.cells.lookup y.1=some c):closureFor scope env=pure (clOf scope env):=by
 unfold closureFor clOf;have e:=zj8 (env:=env) scope.names [] h;simp only[bind_pure];exact e
theorem zd3 {c:Addr}:∀{names:List (Str×NameKind)} {cs:List (Str×Addr)},(∀y∈names,y.2= .free->∃c,env.cells.lookup y.1=some c)->(cs.lookup x=some c->env.cells.lookup x=some c)->
  (names.foldl (zha env) cs).lookup x=some c->env.cells.lookup x=some c
 |[],cs,_,h0,h=>h0 h
 |(n,k)::r,cs,hn,h0,h=>by
  rw[qbi]at h;refine zd3 (names:=r) (fun y hy=>hn y (qal _ hy)) ?_ h;intro q;unfold zha at q
  split at q
  ·rename_i hk;obtain⟨c',hc⟩:=hn (n,k) qak (by simpa using hk);rw[qbK]at q;simp only at hc
   by_cases z:(x==n)=true
   ·rw[z]at q;have zz:x=n:=by simpa using z
    subst zz;simp only[hc,Option.getD_some]at q;rw[hc];exact q
   ·have z':(x==n)=false:=by simpa using z
    rw[z']at q;exact h0 q
  ·exact h0 q
theorem zf1:∀{names:List (Str×NameKind)} {cs:List (Str×Addr)},((x,NameKind.free)∈names\/(cs.lookup x).isSome=true)->((names.foldl (zha env) cs).lookup x).isSome=true
 |[],cs,h=>by
  rcases h with h|h
  ·simp at h
  ·exact h
 |(n,k)::r,cs,h=>by
  rw[qbi];refine zf1 (names:=r) ?_;rcases h with h|h
  ·rcases qam.mp h with h|h
   ·cases h;refine .inr ?_;unfold zha;simp
   ·exact .inl h
  ·refine .inr ?_;unfold zha
   split
   ·rw[qbK]
    by_cases z:(x==n)=true
    ·rw[z];rfl
    ·have z':(x==n)=false:=by simpa using z
     rw[z'];exact h
   ·exact h
theorem zkr {c:Addr}:∀{names:List (Str×NameKind)} {n:Nat} {acc:List (Str×Addr)},(cellsFrom n names acc).lookup x=some c->(n<=c/\(x,NameKind.cell)∈names)\/acc.lookup x=some c
 |[],n,acc,h=> .inr h
 |(m,k)::r,n,acc,h=>by
  unfold cellsFrom at h
  split at h
  ·rename_i hk;have hk':k= .cell:=by simpa using hk
   subst hk';rcases zkr h with⟨h1,h2⟩|h1
   ·exact .inl ⟨Nat.le_of_succ_le h1,qal _ h2⟩
   ·rw[qbK]at h1;cases q:x==m with
    |true=>
     rw[q]at h1;cases h1;rw[qbH.mp q];exact .inl ⟨qaE _,qak⟩
    |false=>rw[q]at h1;exact .inr h1
  ·rcases zkr h with⟨h1,h2⟩|h1
   ·exact .inl ⟨h1,qal _ h2⟩
   ·exact .inr h1
theorem zpu:∀{names:List (Str×NameKind)} {n:Nat} {acc:List (Str×Addr)},(x,NameKind.cell)∉names->(cellsFrom n names acc).lookup x=acc.lookup x
 |[],n,acc,_=>rfl
 |(m,k)::r,n,acc,h=>by
  unfold cellsFrom
  split
  ·rename_i hk;have hk':k= .cell:=by simpa using hk
   subst hk';rw[zpu fun z=>h (qal _ z),qbK];cases q:x==m with
   |true=>exact absurd (by rw[qbH.mp q];exact qak) h
   |false=>rfl
  ·exact zpu fun z=>h (qal _ z)
theorem zpr:∀{names:List (Str×NameKind)} {n:Nat} {acc:List (Str×Addr)},(x,NameKind.cell)∈names->∃c,(cellsFrom n names acc).lookup x=some c/\n<=c
 |(m,k)::r,n,acc,h=>by
  unfold cellsFrom
  by_cases hr:(x,NameKind.cell)∈r
  ·split
   ·obtain⟨c,h1,h2⟩:=zpr (n:=n+1) (acc:=(m,n)::acc) hr;exact⟨c,h1,Nat.le_of_succ_le h2⟩
   ·exact zpr hr
  ·rcases qam.mp h with e|e
   ·cases e;rw[if_pos (qbL _),zpu hr,qbK,qbL];exact⟨n,rfl,qaE _⟩
   ·exact absurd e hr
theorem zsG:∀{names:List (Str×NameKind)} {n:Nat} {acc:List (Str×Addr)},(∀x c,acc.lookup x=some c->c<n)->(∀x y c,acc.lookup x=some c->acc.lookup y=some c->x=y)->
  ∀x y c,(cellsFrom n names acc).lookup x=some c->(cellsFrom n names acc).lookup y=some c->x=y
 |[],n,acc,_,hi=>hi
 |(m,k)::r,n,acc,hl,hi=>by
  unfold cellsFrom
  split
  ·refine zsG (fun x c h=>?_) (fun x y c h1 h2=>?_)
   ·rw[qbK]at h;cases q:x==m with
    |true=>rw[q]at h;cases h;exact qbM _
    |false=>rw[q]at h;exact qbN (hl x c h)
   ·rw[qbK]at h1 h2;cases q:x==m with
    |true=>
     rw[q]at h1;cases h1;cases q2:y==m with
     |true=>rw[qbH.mp q,qbH.mp q2]
     |false=>rw[q2]at h2;exact absurd (hl y n h2) (qaf _)
    |false=>
     rw[q]at h1;cases q2:y==m with
     |true=>rw[q2]at h2;cases h2;exact absurd (hl x n h1) (qaf _)
     |false=>rw[q2]at h2;exact hi x y c h1 h2
  ·exact zsG hl hi
theorem zof:∀{names:List (Str×NameKind)} {h:Heap} {acc:List (Str×Addr)},(∀x c,acc.lookup x=some c->∃v,h.IsCell c v)->∀x c,(cellsFrom h.objs.size names acc).lookup x=some c->∃v,(pushCells h names).IsCell c v
 |[],h,acc,ha=>ha
 |(m,k)::r,h,acc,ha=>by
  unfold cellsFrom pushCells
  split
  ·intro x c e;rw[<-qbO h {cls:= .type "cell",data:= .cell none}]at e;refine zof (fun y d q=>?_) x c e;rw[qbK]at q;cases z:y==m with
   |true=>rw[z]at q;cases q;exact⟨none,_,qaD _ rfl,rfl⟩
   |false=>
    rw[z]at q;obtain⟨v,hv⟩:=ha y d q;exact⟨v,hv.keeps fun b o e=>qaC _ e⟩
  ·exact zof ha
theorem zoO {M:Model}{s:Shared}{globals:Addr}{Q:Env->Shared->Prop}
  (hQ : ∀ h' : Heap, h'.Ns s.heap.objs.size (fun _ => none) -> (∀ a o, s.heap.get? a = some o -> h'.get? a = some o) ->
   ((∀x c,cl.lookup x=some c->∃v,s.heap.IsCell c v)->∀x c,(cellsFrom (s.heap.objs.size+1) scope.names cl).lookup x=some c->∃v,h'.IsCell c v)->
   Q (newEnv scope s.heap.objs.size globals (cellsFrom (s.heap.objs.size+1) scope.names cl) qual none .none (some env) builtinsNs) {s with heap:=h'}):
  wpAny M A (newFunctionEnv scope globals cl [] qual none .none (some env)) Q E s:=by
 simp only[newFunctionEnv,Option.isSome_some,if_true];refine qav (wpAny_alloc ?_);refine qav (wpAny_layCells _ (fun name kind cells=>by cases hkc:kind==NameKind.cell<;>simp[hkc]) _ _ _ _ ?_)
 rw[show({s with heap:=s.heap.push {cls:= .type "dict",data:= .dict #[]}}:Shared).heap.objs.size=s.heap.objs.size+1 from qbO ..];refine qav ?_;rw[qbP];refine qaz (qaz (hQ _ ((Heap.Ns.new s.heap (.type "dict")).keeps (pushCells_keeps _ _)) (fun a o e=>pushCells_keeps _ _ a o (qaC _ e)) fun hc x c e=>?_));rw[<-qbO s.heap {cls:= .type "dict",data:= .dict #[]}]at e;refine zof (fun y d q=>?_) x c e;obtain⟨v,hv⟩:=hc y d q;exact⟨v,hv.keeps fun b o e=>qaC _ e⟩
noncomputable def clC (scope:Scope)(env:Env)(C:Addr):List (Str×Addr):=cellsFrom (C+1) scope.names (clOf scope env)
noncomputable def ownC (scope:Scope)(x:Str):Bool:=match scope.names.lookup x with
 |some .cell=>true
 |_=>false
noncomputable def cxC (X:Cx)(N:List Str)(scope:Scope)(C:Addr)(s:Shared)(H:Hp)(fp:List Addr):Cx:=
 {X with N:=N,s₀:=s,H₀:=H,env:=compEnvC scope (clC scope X.env C) C X.env,outer:=X.stack,ex:=fp,fn:=ownC scope,pn:=[],xe:=fun _ _=>False}
structure BlkOk (X:Cx) (scope:Scope):Prop where
 kind:scope.kind= .function
 uniq:∀y∈scope.names,scope.names.lookup y.1=some y.2
 free:∀y∈scope.names,y.2= .free->X.env.kindOf y.1=some .cell\/X.env.kindOf y.1=some .free
theorem zhw {α:Type}{v:α}:∀{l:List (Str×α)},l.lookup x=some v->(x,v)∈l
 |[],h=>by simp at h
 |(n,w)::r,h=>by
  rw[qbK]at h
  by_cases z:(x==n)=true
  ·rw[z]at h;have zz:x=n:=by simpa using z
   subst zz;cases h;exact qak
  ·have z':(x==n)=false:=by simpa using z
   rw[z']at h;exact qal _ (zhw h)
theorem zd6 {env:Env}{x:Str}:∀{names:List (Str×NameKind)},(names.map fun(n,k)=>if(k==NameKind.free&&env.scope.kind== .function&&env.kindOf n==some .cell)then(n,NameKind.cell)else(n,k)).lookup x=
  (names.lookup x).map fun k=>if(k==NameKind.free&&env.scope.kind== .function&&env.kindOf x==some .cell)then NameKind.cell else k
 |[]=>rfl
 |(n,k)::r=>by
  have ih:=zd6 (env:=env) (x:=x) (names:=r);show List.lookup x ((if(k==NameKind.free&&env.scope.kind== .function&&env.kindOf n==some .cell)=true then(n,NameKind.cell)else(n,k))::_)=_;cases hx:x==n with
  |true=>
   have zz:x=n:=by simpa using hx
   by_cases hc:(k==NameKind.free&&env.scope.kind== .function&&env.kindOf n==some .cell)=true
   ·rw[if_pos hc];simp only[qbK,hx,qbx];rw[zz,if_pos hc]
   ·rw[if_neg hc];simp only[qbK,hx,qbx];rw[zz,if_neg hc]
  |false=>
   by_cases hc:(k==NameKind.free&&env.scope.kind== .function&&env.kindOf n==some .cell)=true
   ·rw[if_pos hc];simp only[qbK,hx];exact ih
   ·rw[if_neg hc];simp only[qbK,hx];exact ih
section
variable {X:Cx} {pins:List (Addr×Obj)} {σ:St} {H:Hp} {s:Shared} {scope:Scope} {N:List Str} {fp:List Addr} {C:Addr}
theorem zkW (I:Inv X pins σ H s)(b:BlkOk X scope):∀y∈scope.names,y.2= .free->∃c,X.env.cells.lookup y.1=some c:=fun y hy hf=>I.ok.has y.1 (b.free y hy hf)
theorem blk_vis (h:(relabel scope X.env).names.lookup x=some .cell\/(relabel scope X.env).names.lookup x=some .free):(x,NameKind.free)∈scope.names\/(x,NameKind.cell)∈scope.names:=by
 have e:(relabel scope X.env).names.lookup x=(scope.names.lookup x).map fun k=>if(k==NameKind.free&&X.env.scope.kind== .function&&X.env.kindOf x==some .cell)then NameKind.cell else k:=zd6
 rw[e]at h;cases q:scope.names.lookup x with
 |none=>rw[q]at h;simp at h
 |some k=>
  have hm:=zhw q
  by_cases hk:k= .free
  ·subst hk;exact .inl hm
  ·rw[q]at h;have hkf:(k==NameKind.free)=false:=by simpa using hk
   simp only[qbx,hkf,Bool.false_and,qbQ,qa3,qby]at h;rcases h with h|h
   ·subst h;exact .inr hm
   ·exact absurd h hk
theorem ziQ (I:Inv X pins σ H s)(b:BlkOk X scope){c:Addr}(h:(clOf scope X.env).lookup x=some c):X.env.cells.lookup x=some c:=zd3 (zkW I b) (by simp) h
theorem zjC (I:Inv X pins σ H s)(b:BlkOk X scope){c:Addr}(h:(clC scope X.env C).lookup x=some c):C<c\/X.env.cells.lookup x=some c:=by
 rcases zkr h with⟨h1,_⟩|h1
 ·exact .inl h1
 ·exact .inr (ziQ I b h1)
theorem zps (b:BlkOk X scope)(h:(x,NameKind.free)∈scope.names):(clC scope X.env C).lookup x=(clOf scope X.env).lookup x:=zpu fun z=>by
 have h1:=b.uniq _ h;have h2:=b.uniq _ z;simp only at h1 h2;rw[h1]at h2;cases h2
theorem blk_ok (I:Inv X pins σ H s)(b:BlkOk X scope)(hC:s.heap.objs.size<=C)(hf:∀b∈fp,FpOk X pins H b)(hfC:∀b∈fp,b<C):(cxC X N scope C s H fp).Ok where
 mod:=I.ok.mod
 kind:=b.kind
 glob:=I.ok.glob
 blt:=I.ok.blt
 above:=hC
 inj:=zsG (fun x c h=>by
  obtain⟨v,hv⟩:=I.cell x c (ziQ I b h);exact qbN (qae hv.lt hC)) fun x y c h1 h2=>I.ok.inj x y c (ziQ I b h1) (ziQ I b h2)
 has:=fun x hx=>by
  rcases blk_vis (x:=x) hx with hm|hm
  ·show ∃c,(clC scope X.env C).lookup x=some c;rw[zps b hm];exact qaN.mp (zf1 (.inl hm))
  ·obtain⟨c,h,_⟩:=zpr (n:=C+1) (acc:=clOf scope X.env) hm;exact⟨c,h⟩
 cab:=fun x c h e=>by
  have h':ownC scope x=true:=h;unfold ownC at h'
  split at h'
  ·rename_i q;obtain⟨c',h1,h2⟩:=zpr (n:=C+1) (acc:=clOf scope X.env) (zhw q);have e':some c'=some c:=h1.symm.trans e;cases e';exact qai hC (Nat.le_of_succ_le h2)
  ·cases h'
 hd:=I.ok.hd
 frames:=I.ok.frames
 stk:= .inl rfl
 exf:=fun a ha=>⟨qag (hfC a ha),fun x c e z=>by
  rcases zjC I b e with q|q
  ·exact Nat.lt_asymm q (z ▸ hfC a ha)
  ·exact(hf a ha).2.2.2.2.1 x c q z⟩
 bs:=I.bs
 bsz:=qai I.ok.bsz I.sz
 noex:=fun a o e ha=>by
  rcases(hf a ha).2.2.2.1 with z|z
  ·exact I.ok.noex a o e z
  ·exact absurd (qae (qad e) (qai I.ok.bsz z)) (qaf _)
 exfs:=fun a ha hs=>by
  rcases qam.mp (I.stkSub a hs)with z|z
  ·exact(hf a ha).2.1 z
  ·exact(hf a ha).2.2.1 z
 funs:=I.stack
 frf:=I.stkFree
theorem zrB {tk:Nat}(I:Inv X pins σ H s)(b:BlkOk X scope)(hf:∀b∈fp,FpOk X pins H b)(hfs:∀b∈fp,b<s.heap.objs.size)
  (hns:h'.Ns s.heap.objs.size (fun _=>none)) (hk:∀a o,s.heap.get? a=some o->h'.get? a=some o) (hcl:∀x c,(clC scope X.env s.heap.objs.size).lookup x=some c->∃v,h'.IsCell c v) (hl:σc.length=N.length)
  (hσ:∀(i:Nat) (x:Str) (v:V),N[i]? =some x->σc[i]? =some (some v)->(x,NameKind.free)∈scope.names/\∃j:Nat,X.N[j]? =some x/\σ[j]? =some (some v)) (hloc:∀(i:Nat) (x:Str) (v:V),N[i]? =some x->σc[i]? =some (some v)->¬(relabel scope X.env).names.lookup x=some .local):
  Inv (cxC X N scope s.heap.objs.size s H fp) [] σc H {s with heap:=h',toks:=tk}:=by
 have ok:=blk_ok (N:=N) I b (qaE _) hf hfs;refine⟨ok,rfl,I.bare,Un.kept hk,⟨_,hns,fun i x v h1 h2 h3=>?_⟩,fun x c e=>?_,I.hok.fresh (qaE _),fun x c e=>?_,fun p hp=>absurd (show p∈([]:List (Addr×Obj))from hp) (by simp),I.hok.kept hk,hl⟩
 ·obtain⟨hm,j,hj,hv⟩:=hσ i x v h1 h2;have hkind:=b.free _ hm rfl;obtain⟨m,hn,hloc'⟩:=I.loc;have hvis:Vis X.env.scope x:=by
   rcases hkind with z|z
   ·exact .inr (.inl z)
   ·exact .inr (.inr z)
  obtain⟨u,ru,lk⟩:=hloc' j x v hj hv hvis;refine⟨u,ru,?_⟩;rcases lk with⟨z,_⟩|⟨_,c,ec,hc⟩
  ·exfalso;rcases hkind with w|w<;>simp only at w<;>rw[z]at w<;>cases w
  ·refine .inr ⟨?_,c,?_,?_⟩
   ·rcases h3 with z|z|z
    ·exact absurd z (hloc i x v h1 h2)
    ·exact .inl z
    ·exact .inr z
   ·have hs:((clOf scope X.env).lookup x).isSome=true:=zf1 (.inl hm);obtain⟨c',ec'⟩:=qaN.mp hs;have:=zd3 (zkW I b) (by simp) ec';rw[ec]at this;cases this;exact(zps b hm).trans ec'
   ·obtain⟨o,ho,hd⟩:=hc;exact⟨o,hk _ _ ho,hd⟩
 ·exact hcl x c e
 ·rcases zjC I b e with q|q
  ·exact I.hok.fresh (Nat.le_of_lt q)
  ·exact I.freeC x c q
theorem zqW {h':Heap}{s1:Shared}(I:Inv X pins σ H s)(hf:∀b∈fp,FpOk X pins H b)(J:Inv (cxC X N scope s.heap.objs.size s H fp) [] σc H' s1)(hs:Heap.SameBut s.heap.objs.size s1.heap h'):Inv X pins σ H' {s1 with heap:=h'}:=by
 have kp:∀a o,a≠s.heap.objs.size->s1.heap.get? a=some o->h'.get? a=some o:=fun a o ha e=>hs.extBut a o ha e
 have free:H' s.heap.objs.size=none:=J.free;have ntr:∀a u,H' a=some u->a≠s.heap.objs.size:=fun a u e z=>by rw[z,free]at e;exact cNN e
 have lt:∀a o,s.heap.get? a=some o->a≠s.heap.objs.size:=fun a o e=>qag (qad e)
 have u:Un (frs X.stack) fp H H' s.heap s1.heap:=J.base;have u':Un (frs X.stack) fp H H' s.heap h':=by
  refine⟨fun a o e n hb hx=>kp a o (lt a o e) (u.keep a o e n hb hx),fun a o e n hb hx=>?_,u.free,fun a o e hx=>?_,u.tups,u.frzs,u.tbls⟩
  ·obtain⟨sl,q⟩:=u.slot a o e n hb hx;exact⟨sl,kp a _ (lt a o e) q⟩
  ·obtain⟨o',q⟩:=u.there a o e hx;exact⟨o',kp a _ (lt a o e) q⟩
 have hok:HOk X.prog X.w H' h':=fun a o e=>(J.hok a o e).stay (fun c v hc q=>by
  refine kp c v ?_ q;rcases hc with rfl|hc
  ·exact ntr _ _ e
  ·exact ntr _ _ hc) (fun _ q=>q) fun _ _ q=>q
 obtain⟨hh,g,d,t,os'⟩:=s1;have os:os'=s.os:=J.os;subst os;have z:=I.call (h':=h') (g':=g) (d':=d) (t':=t) (ch:=fp) u' hok J.bare (fun a ha=>⟨(hf a ha).2.2.2.1,(hf a ha).2.1,(hf a ha).2.2.2.2.1,(hf a ha).2.2.2.2.2⟩);exact z
end
noncomputable def PTs (X:Cx)(ifs:List Expr)(t:TT):Prop:=∀(pins:List (Addr×Obj)) (s:Shared) (σ:St) (H:Hp) (Q:Bool->Hp->Prop),Inv X pins σ H s->t σ H Q->
 wpAny (model X.prog X.w) X.A (forIn ifs true fun c r=>if r=true then do let ok<-isTrue c X.env (eval c X.env);pure (ForInStep.yield ok)else pure (ForInStep.yield r)) (TP X pins σ Q) X.xe s
theorem pts_nil:PTs X [] (fun _ H Q=>Q true H):=fun pins s σ H Q I h=>wpAny_tests_nil ⟨H,I,h⟩
theorem pts_one {c:Expr}{t:TT}(h:PT X c t):PTs X [c] t:=fun pins s σ H Q I hw=>wpAny_tests_one (h pins s σ H Q I hw)
theorem zoj {R:Result->Shared->Prop}{s:Shared}{elt target iter:Expr}{it acc:Value}(I:Nat->Shared->Prop)
  (turn : ∀ n s, I n s -> wpAny (model prog w) A (pyNext it) (fun r s₁ => match r with
   |none=>R (.ok .next) s₁
   | some v => wpAny (model prog w) A (letOwnedTupleGo target it v) (fun _ s₁' => wpAny (model prog w) A (assign target env v) (fun _ s₂ =>
     wpAny (model prog w) A (forIn ifs true fun c r=>if r=true then do let ok<-isTrue c env (eval c env);pure (ForInStep.yield ok)else pure (ForInStep.yield r)) (fun ok s₃=>
      if ok=true then wpAny (model prog w) A (eval elt env) (fun x s₄=>
       wpAny (model prog w) A (call (.builtin "list.append") [acc,x]) (fun _ s₅=>∃m,m<n/\I m s₅) (fun _ _=>False) s₄) (fun _ _=>False) s₃
      else ∃m,m<n/\I m s₃) (fun _ _=>False) s₂) (fun _ _=>False) s₁') (fun _ _=>False) s₁) (fun _ _=>False) s)
  (n:Nat) (h:I n s):codeAny (model prog w) A (.compLoop (.ListComp elt [⟨target,iter,ifs,0⟩] scope pos) 0 it acc env) R s:=by
 refine codeAny_loop rfl I (fun n s hI=>?_) n h;show wpAny _ A ((compTurn (.ListComp elt [⟨target,iter,ifs,0⟩] scope pos) 0 it acc env).onRaise (fun x=>do noteFrame x env;theTreesLotGoes x)) _ _ s;refine wpAny_noted ?_;rw[compTurn_list];have no:∀{E:Value->Shared->Prop},∀x s',(fun(_:Value) (_:Shared)=>False) x s'->E x s':=fun _ _ z=>z.elim
 refine qav (wpAny_standAt (qav (qar (turn n s hI) (fun r s₁ h₁=>?_) no)));cases r with
 |none=>exact qaz h₁
 |some v=>
  refine qav (qar h₁ (fun _ s₁' h₁'=>?_) no);refine qav (qar h₁' (fun _ s₂ h₂=>qav (qar h₂ (fun ok s₃ h₃=>?_) no)) no);cases ok with
  |false=>exact qaz ⟨rfl,h₃⟩
  |true=>
   exact qav (qav (qar h₃ (fun x s₄ h₄=>qav (qar h₄ (fun _ s₅ h₅=>qaz (qaz ⟨rfl,h₅⟩)) no)) no))
noncomputable def tLC (σ0:St->St)(wi:TI)(g:Addr->Shared->Hp->List Addr->TG)(tt:Addr->Shared->Hp->List Addr->TT)(te:Addr->Shared->Hp->List Addr->TE):TE:=fun σ H Q=>wi σ H fun J H1=>∀D,H1 D=none->∃W:Nat->Nat->St->Hp->Prop,(∃m,W 0 m (σ0 σ) (upd H1 D (.lst [])))/\∀i m σ H,W i m σ H->
 (J.stop i H /\ Q (.ref D) H) \/ (J.go i H /\ ∀ C s₀ H₀ fp x H', J.yld i H x H' -> g C s₀ H₀ fp x σ H' fun σ2 H2 => tt C s₀ H₀ fp σ2 H2 fun ok H3 => if ok = true then te C s₀ H₀ fp σ2 H3 fun v H4 => ∃ xs, H4 D = some (.lst xs) /\ xs.length < sizeLine /\ ∃ m', m' < m /\ W (i + 1) m' σ2 (upd H4 D (.lst (xs ++ [v])))
  else ∃m',m'<m/\W (i+1) m' σ2 H3)
section
variable {X:Cx} {elt iter tg:Expr} {ifs:List Expr} {scope:Scope} {pos:Pos} {N:List Str} {σ0:St->St} {wi:TI} {g:Addr->Shared->Hp->List Addr->TG} {tt:Addr->Shared->Hp->List Addr->TT} {te:Addr->Shared->Hp->List Addr->TE}
structure Cap (X:Cx) (scope:Scope) (N:List Str) (σ0:St->St):Prop where
 len:∀σ,(σ0 σ).length=N.length
 src:∀(σ:St) (i:Nat) (x:Str) (v:V),N[i]? =some x->(σ0 σ)[i]? =some (some v)->(x,NameKind.free)∈scope.names/\∃j:Nat,X.N[j]? =some x/\σ[j]? =some (some v)
 loc:∀(σ:St) (i:Nat) (x:Str) (v:V),N[i]? =some x->(σ0 σ)[i]? =some (some v)->¬(relabel scope X.env).names.lookup x=some .local
theorem zsT {E:Value->Shared->Prop}(hc:X.calm=true)(b:BlkOk X scope)(cap:Cap X scope N σ0)(hi:PI X tg iter wi)(hg:∀C s H fp,PG (cxC X N scope C s H fp) tg (g C s H fp))(ht:∀C s H fp,PTs (cxC X N scope C s H fp) ifs (tt C s H fp))(he:∀C s H fp,PE (cxC X N scope C s H fp) elt (te C s H fp))
  {pins:List (Addr×Obj)} {s:Shared} {σ:St} {H:Hp} {Q:VK} (I:Inv X pins σ H s) (h:tLC σ0 wi g tt te σ H Q) {QQ:Value->Shared->Prop} {p0:Pos}
  (hs:∀x,foldedSetIterable iter X.env x=pure x)
  (fin : match use with
   |none=>∀u s',EP X pins σ Q u s'->QQ u s'
   |some f=>∀(D:Addr) (fp:List Addr) (C:Addr) (H1 H':Hp) (σc:St) (s1 s':Shared),Inv X pins σ H1 s1->(∀b∈fp,FpOk X pins H1 b)->C=s1.heap.objs.size->Inv (cxC X N scope C s1 H1 fp) [] σc H' s'->Q (.ref D) H'->
     wpAny (model X.prog X.w) X.A (f (.ref D)) (fun _ s''=>∃m,s''.heap.Ns C m/\∀h',Heap.SameBut C s''.heap h'->QQ .none {s'' with heap:=h'}) X.xe s'):
  wpAny (model X.prog X.w) X.A (comprehension (.ListComp elt [⟨tg,iter,ifs,0⟩] scope pos) scope X.env p0 (newList []) false (eval iter X.env) use) QQ X.xe s:=by
 refine wpAny_comprehension_free (cl:=clOf scope X.env) (g:=⟨tg,iter,ifs,0⟩) (gs:=[]) rfl hs (zqB (zkW I b)) b.kind (fun x hx hl=>hl ▸ b.uniq x hx) ?_;refine thn (hi pins s σ H _ I h) fun v s1 h1=>thn h1 fun itv s2 h2=>?_
 obtain⟨it,fp,tn,J,H2,e,I2,T,st2,f2,h3⟩:=h2;subst e;refine qba ?_ (by show(0:Nat)<=sizeLine;exact qbB _);have hD:H2 s2.heap.objs.size=none:=I2.fresh;obtain⟨W,⟨m0,w0⟩,turn⟩:=h3 _ hD;have I3:Inv X pins σ (upd H2 s2.heap.objs.size (.lst [])) {s2 with heap:=s2.heap.push {cls:= .type "list",data:= .seq ([]:List Value).toArray}}:=I2.lnew (t':=s2.toks) .nil (qbB _);have f3:∀b∈fp,FpOk X pins (upd H2 s2.heap.objs.size (.lst [])) b:=fun b hb=>by
  obtain⟨a1,a2⟩:=f2 b hb;obtain⟨o,ho,_⟩:=T.obj _ _ st2 b hb;exact⟨by rw[zaw (qag (qad ho))];exact a1,a2⟩
 have st3:tn 0 (s2.heap.push {cls:= .type "list",data:= .seq ([]:List Value).toArray}):=T.keep _ _ _ st2 fun b hb o e=>qaC _ e
 generalize hs3:({s2 with heap:=s2.heap.push {cls:= .type "list",data:= .seq ([]:List Value).toArray}}:Shared)=s3 at I3
 have hs3':s3.heap=s2.heap.push {cls:= .type "list",data:= .seq ([]:List Value).toArray}:=by rw[<-hs3]
 rw[<-hs3']at st3;have hfs:∀b∈fp,b<s3.heap.objs.size:=fun b hb=>by
  obtain⟨o,ho,_⟩:=T.obj _ _ st3 b hb;exact qad ho
 show wpAny _ _ (newFunctionEnv scope X.env.globals (clOf scope X.env) [] X.env.qual none .none (some X.env)) _ _ s3;refine zoO fun h' hns hk hcl=>?_
 have hcl:=hcl fun x c e=>I3.cell x c (ziQ I3 b e)
 generalize hDD:s2.heap.objs.size=DD at*
 have B0:Inv (cxC X N scope s3.heap.objs.size s3 (upd H2 DD (.lst [])) fp) [] (σ0 σ) (upd H2 DD (.lst [])) {s3 with heap:=h'}:=
  zrB (tk:=s3.toks) I3 b f3 hfs hns hk hcl (cap.len σ) (cap.src σ) (cap.loc σ)
 have stat:∀{H':Hp},(∀b∈fp,H' b=none)->∀b∈fp,FpOk (cxC X N scope s3.heap.objs.size s3 (upd H2 DD (.lst [])) fp) [] H' b:=fun hn b' hb=>by
  refine⟨hn b' hb,qag (hfs b' hb),fun z=>?_,.inl hb,fun x c e=>?_,fun p hp=>absurd (show p∈([]:List (Addr×Obj))from hp) (by simp)⟩
  ·rcases qam.mp (I3.stkSub b' z)with w|w
   ·exact(f3 b' hb).2.1 w
   ·exact(f3 b' hb).2.2.1 w
  ·intro z;rcases zjC I3 b e with q|q
   ·exact Nat.lt_asymm q (z ▸ hfs b' hb)
   ·exact(f3 b' hb).2.2.2.2.1 x c q z
 have tn0:tn 0 h':=T.keep _ _ _ st3 fun b' hb o e=>hk b' o e
 have post:∀(s':Shared) (σc:St) (H':Hp),Inv (cxC X N scope s3.heap.objs.size s3 (upd H2 DD (.lst [])) fp) [] σc H' s'->Q (.ref DD) H'->compPost (model X.prog X.w) X.A X.xe use QQ (.ref DD) s3.heap.objs.size (.ok .next) s':=fun s' σc H' J' q=>by
  cases use with
  |none=>
   obtain⟨m,hn,_⟩:=J'.loc;exact⟨m,hn,fun h'' hs''=>fin _ _ ⟨.ref DD,H',zqW I3 f3 J' hs'',rfl,q⟩⟩
  |some f=>exact fin DD fp _ _ H' σc s3 s' I3 f3 rfl J' q
 have loop:codeAny (model X.prog X.w) X.A (.compLoop (.ListComp elt [⟨tg,iter,ifs,0⟩] scope pos) 0 (.ref it) (.ref DD) (compEnvC scope (clC scope X.env s3.heap.objs.size) s3.heap.objs.size X.env)) (compPost (model X.prog X.w) X.A X.xe use QQ (.ref DD) s3.heap.objs.size) {s3 with heap:=h'}:=by
  refine zoj (fun n s'=>∃i σ' H',Inv (cxC X N scope s3.heap.objs.size s3 (upd H2 DD (.lst [])) fp) [] σ' H' s'/\tn i s'.heap/\(∀b∈fp,H' b=none)/\W i n σ' H') ?_ m0 ⟨0,σ0 σ,_,B0,tn0,fun b' hb=>(f3 b' hb).1,w0⟩;rintro n s5 ⟨i,σ5,H5,I5,st5,fr5,w5⟩;rcases turn i n σ5 H5 w5 with⟨stop,qn⟩|⟨go,step⟩
  ·refine thn (T.done (cxC X N scope s3.heap.objs.size s3 (upd H2 DD (.lst [])) fp) rfl rfl rfl hc i [] s5 σ5 H5 (fun _ _=>False) I5 (stat fr5) st5 stop) fun r s6 ⟨hr,I6⟩=>?_
   subst hr;exact post s6 σ5 H5 I6 qn
  ·refine thn (T.item (cxC X N scope s3.heap.objs.size s3 (upd H2 DD (.lst [])) fp) rfl rfl rfl hc i [] s5 σ5 H5 (fun _ _=>False) I5 (stat fr5) st5 go) fun r s6 ⟨u,hr,h6⟩=>?_
   subst hr;refine thn h6 fun _ s7 ⟨x,H7,I7,r7,y7,st7,fr7⟩=>?_
   have I7':=I7.pinned (stat fr7) (T.obj _ _ st7);have again:∀{σ8:St} {H8:Hp} {s8:Shared} {m':Nat},Inv (cxC X N scope s3.heap.objs.size s3 (upd H2 DD (.lst [])) fp) ([]++znK fp s7.heap) σ8 H8 s8->m'<n->W (i+1) m' σ8 H8->
     ∃m,m<n/\∃i σ' H',Inv (cxC X N scope s3.heap.objs.size s3 (upd H2 DD (.lst [])) fp) [] σ' H' s8/\tn i s8.heap/\(∀b∈fp,H' b=none)/\W i m σ' H':=fun{σ8 H8 s8 m'} I8 hm w8=>by
    refine⟨m',hm,i+1,σ8,H8,I8.unpinned,T.keep _ _ _ st7 fun b' hb o e=>(I8.pin (b',o) (qaH _ (qaH _ (zho hb e)))).1,fun b' hb=>?_,w8⟩;obtain⟨o,e,d⟩:=T.obj _ _ st7 b' hb;exact(I8.pin (b',o) (qaH _ (qaH _ (zho hb e)))).2.1
   refine thn (hg _ _ _ _ _ s7 σ5 H7 x u _ I7' r7 (step _ _ _ _ x H7 y7)) fun _ s8 ⟨σ8,H8,I8,q8⟩=>?_
   refine thn (ht _ _ _ _ _ s8 σ8 H8 _ I8 q8) fun ok s9 ⟨H9,I9,q9⟩=>?_
   cases ok with
   |false=>
    obtain⟨m',hm,w9⟩:=q9;exact again I9 hm w9
   |true=>
    refine thn (he _ _ _ _ _ s9 σ8 H9 _ I9 q9) fun u10 s10 ⟨v10,H10,I10,r10,xs,hx,hz,m',hm,w10⟩=>?_
    refine thn (znN _ s10 σ8 H10 (.ref DD) [v10] (.ref DD) [u10] (fun v H'=>v= .non/\H'=upd H10 DD (.lst (xs++[v10]))) I10 rfl (.cons r10 .nil) ⟨DD,xs,v10,rfl,rfl,hx,hz,rfl,rfl⟩) fun _ s11 ⟨_,H11,I11,_,_,e11⟩=>?_
    subst e11;exact again I11 hm w10
 exact codeAny_compStart_list loop (T.self _ _ _ _ _ tn0 loop)
theorem pe_lc (hc:X.calm=true)(b:BlkOk X scope)(cap:Cap X scope N σ0)(hi:PI X tg iter wi)(hg:∀C s H fp,PG (cxC X N scope C s H fp) tg (g C s H fp))(ht:∀C s H fp,PTs (cxC X N scope C s H fp) ifs (tt C s H fp))(he:∀C s H fp,PE (cxC X N scope C s H fp) elt (te C s H fp))
    (hs:∀x,foldedSetIterable iter X.env x=pure x:=by exact fun _=>rfl):PE X (.ListComp elt [⟨tg,iter,ifs,0⟩] scope pos) (tLC σ0 wi g tt te):=by
  intro pins s σ H Q I h;rw[eval_ListComp];exact zsT (use:=none) (E:=X.xe) hc b cap hi hg ht he I h hs (fun u s' q=>q)
end
noncomputable def zed (ρ:R):Bool:=ρ.all fun s=>match s with
 | .own _=>false
 | .par _=>false
 | .tre _=>false
 | .ptr _=>false
 |_=>true
theorem zpJ (h:zed ρ=true){a:Addr}(e:ρ[i]? =some s):¬OwS K G H ov a s:=fun w=>by
 unfold zed at h;rw[qbR]at h;have:=h s (qaV e);cases s with
 |emp=>exact w
 |two _ _=>exact w
 |val d=>exact w
 |_=>exact absurd (show false=true from this) qay
theorem zkd (h:zed ρ=true)(e:ρ[i]? =some s):(∀t,s≠ .tre t)/\∀t,s≠ .ptr t:=by
 unfold zed at h;rw[qbR]at h;have:=h s (qaV e)
 constructor
 ·rintro t rfl;exact absurd (show false=true from this) qay
 ·rintro t rfl;exact absurd (show false=true from this) qay
theorem zkk (h:zed ρ=true):¬Wr ρ i:=fun⟨s,ds,e,q⟩=>by
 unfold zed at h;rw[qbR]at h;have:=h s (qaV e);cases s with
 |emp=>exact cNN q
 |two _ _=>exact cNN q
 |tre _=>exact cNN q
 |ptr _=>exact cNN q
 |val d=>exact cNN q
 |own d=>exact absurd (show false=true from this) qay
 |par d=>exact absurd (show false=true from this) qay
structure VS (K:W.Frag) (G:Hp) (σ:St) (ρ:R):Prop where
 len:σ.length=ρ.length
 no:zed ρ=true
 val:∀(i:Nat) d,ρ[i]? =some (.val d)->∃v,σ[i]? =some (some v)/\RepD K G v d
theorem VS.si (h:VS K G σ ρ)(fz:Fz G H):SI K ⟨G,H,[]⟩ G H σ ρ where
 fz:=fz
 g0:=Fz.refl G
 new:=fun b o e=> .inl (by show G b≠none;rw[e];simp)
 keep:=fun b o e _=>e
 there:=fun b e=>e
 ob:=fun i b m=>by cases m
 len:=h.len
 slot:=fun i s e=>by
  cases s with
  |emp=>trivial
  |two _ _=>trivial
  |tre t=>exact absurd rfl ((zkd h.no e).1 t)
  |ptr t=>exact absurd rfl ((zkd h.no e).2 t)
  |val d=>exact h.val i d e
  |own ds=>exact absurd ⟨_,ds,e,rfl⟩ (zkk h.no (i:=i))
  |par ds=>exact absurd ⟨_,ds,e,rfl⟩ (zkk h.no (i:=i))
 dis:=fun i j s _ a _ e _ w=>absurd w (zpJ h.no e)
theorem VS.of (I:SI K B G H σ ρ)(h:zed ρ=true):VS K G σ ρ:=⟨I.len,h,fun i d e=>I.slot i _ e⟩
noncomputable def fz1 (i:Nat)(ρ:R):R:=match ρ[i]? with
 |some (.own ds)=>ρ.set i (.val (.lst ds))
 |_=>ρ
noncomputable def fzL:List Nat->R->R
 |[],ρ=>ρ
 |i::is,ρ=>fzL is (fz1 i ρ)
theorem SI.fz1 (I:SI K B G H σ ρ)(i:Nat):∃G',SI K B G' H σ (M.fz1 i ρ)/\Fz G G':=by
 unfold M.fz1;cases e:ρ[i]? with
 |none=>exact⟨G,I,Fz.refl G⟩
 |some s=>
  cases s with
  |own ds=>obtain⟨l,xs,_,f,_,I'⟩:=I.freeze e;exact⟨_,I',f⟩
  |emp=>exact⟨G,I,Fz.refl G⟩
  |two _ _=>exact⟨G,I,Fz.refl G⟩
  |tre _=>exact⟨G,I,Fz.refl G⟩
  |ptr _=>exact⟨G,I,Fz.refl G⟩
  |val _=>exact⟨G,I,Fz.refl G⟩
  |par _=>exact⟨G,I,Fz.refl G⟩
theorem SI.fzL:∀(is:List Nat) {G:Hp} {ρ:R},SI K B G H σ ρ->∃G',SI K B G' H σ (M.fzL is ρ)/\Fz G G'
 |[],G,ρ,I=>⟨G,I,Fz.refl G⟩
 |i::is,G,ρ,I=>by
  obtain⟨G1,I1,f1⟩:=I.fz1 i;obtain⟨G2,I2,f2⟩:=SI.fzL is I1;exact⟨G2,I2,f1.trans f2⟩
noncomputable def capS (ρ:R)(i:Nat):Sl:=match ρ[i]? with
 |some (.val d)=> .val d
 |_=> .emp
theorem zqm (ρ:R)(i:Nat):capS ρ i= .emp\/∃d,capS ρ i= .val d:=by
 unfold capS
 split
 ·exact .inr ⟨_,rfl⟩
 ·exact .inl rfl
noncomputable def capR (cap:List Nat)(t:Nat)(ρ:R):R:=cap.map (capS ρ)++List.replicate t .emp
noncomputable def capσ (cap:List Nat)(t:Nat)(σ:St):St:=cap.map (fun i=>(σ[i]?).join)++List.replicate t none
theorem cap_vs (I:SI K B G H σ ρ)(cap:List Nat)(t:Nat):VS K G (capσ cap t σ) (capR cap t ρ) where
 len:=by unfold capσ capR;simp
 no:=by
  unfold zed capR;rw[qbR];intro s hs;rcases qan.mp hs with h|h
  ·obtain⟨i,_,rfl⟩:=qbS.mp h;rcases zqm ρ i with e|⟨d,e⟩
   ·rw[e]
   ·rw[e]
  ·rw[List.eq_of_mem_replicate h]
 val:=fun i d e=>by
  unfold capR at e
  by_cases hi:i<cap.length
  ·rw[qaS (by simpa using hi),qaT,qbF hi]at e;have e':capS ρ cap[i]= .val d:=by simpa using e
   unfold capS at e'
   split at e'
   ·rename_i d' q;cases e';obtain⟨v,h1,h2⟩:=I.slot _ _ q;refine⟨v,?_,h2⟩;unfold capσ;rw[qaS (by simpa using hi),qaT,qbF hi];simp[h1]
   ·cases e'
  ·rw[qaQ (by simpa using hi),qaR]at e
   split at e
   ·cases e
   ·exact cNN e
noncomputable def ze5 (f:D->R->Option (Option D×R)):List D->R->Option (List D×R)
 |[],ρ=>some ([],ρ)
 |d::ds,ρ=>(f d ρ).bind fun p=>(ze5 f ds p.2).map fun q=>(p.1.toList++q.1,q.2)
noncomputable def turnM (g:D->R->Option R)(mt:MT)(me:ME):D->R->Option (Option D×R):=fun d ρ=>(g d ρ).bind fun ρ1=>(mt ρ1).bind fun p=>if p.1 then(me p.2).bind fun q=>if zed q.2 then some (some q.1,q.2)else none else if zed p.2 then some (none,p.2)else none
noncomputable def oLC (cap:List Nat)(t:Nat)(mi:MA)(g:D->R->Option R)(mt:MT)(me:ME):MO:=fun ρ=>(mi ρ).bind fun p=>if p.1.length<=16777216 then(ze5 (turnM g mt me) p.1 (capR cap t (fzL cap p.2))).map fun q=>(q.1,fzL cap p.2)else none
noncomputable def STsb (X:Cx)(ifs:List Expr)(m:MT)(t:TT):Prop:=∀B G H σ ρ d ρ' (Q:Bool->Hp->Prop),SI X.K B G H σ ρ->m ρ=some (d,ρ')->(∀G' H',SI X.K B G' H' σ ρ'->Fz G G'->Q d H')->t σ H Q
noncomputable def STs (X:Cx)(ifs:List Expr)(m:MT):Prop:=∃t,PTs X ifs t/\STsb X ifs m t
noncomputable def zbp:MT:=fun ρ=>some (true,ρ)
theorem zaC:STs X [] zbp:=⟨_,pts_nil,fun B G H σ ρ d ρ' Q I hm k=>by obtain⟨rfl,rfl⟩:=cSp hm;exact k G H I (Fz.refl G)⟩
theorem zrI {c:Expr}{m:MT}(h:STt X c m):STs X [c] m:=h.el fun t p s=>⟨t,pts_one p,s⟩
noncomputable def blkB (env:Env)(scope:Scope):Bool:=(scope.names.all fun x=>scope.names.lookup x.1==some x.2&&(x.2 != .free||(env.kindOf x.1==some .cell||env.kindOf x.1==some .free)))
theorem zsS (hk:scope.kind= .function)(h:blkB X.env scope=true):BlkOk X scope:=by
 unfold blkB at h;rw[qbR]at h;refine⟨hk,fun x hx=>?_,fun x hx hf=>?_⟩
 ·have:=h x hx;simp only[qa9,qbC,bne_iff_ne,qbH]at this;exact this.1
 ·have:=h x hx;simp only[qa9,qbC,bne_iff_ne,qbH]at this;exact(this.2).resolve_left (fun z=>z hf)
noncomputable def capB (names:List (Str×NameKind))(N XN:List Str)(cap:List Nat)(t:Nat):Bool:=N.length==cap.length+t&&(cap.zip N).all fun p=>XN[p.1]? ==some p.2&&names.lookup p.2==some .free
theorem zrV (h:capB scope.names N X.N cap t=true):Cap X scope N (capσ cap t):=by
 unfold capB at h;rw[qa9,qbR]at h;obtain⟨hl,h⟩:=h;have hl:N.length=cap.length+t:=by simpa using hl
 have key:∀(σ:St) (i:Nat) (x:Str) (v:V),N[i]? =some x->(capσ cap t σ)[i]? =some (some v)->∃j,cap[i]? =some j/\σ[j]? =some (some v)/\X.N[j]? =some x/\scope.names.lookup x=some .free:=fun σ i x v h1 h2=>by
  unfold capσ at h2
  by_cases hi:i<cap.length
  ·rw[qaS (by simpa using hi),qaT,qbF hi]at h2;have h3:(σ[cap[i]]?).join=some v:=by simpa using h2
   have hz:(cap[i],x)∈cap.zip N:=by
    refine qaV (i:=i) ?_;rw[List.getElem?_zip_eq_some];exact⟨qbF hi,h1⟩
   have:=h _ hz;simp only[qa9,qbH]at this;refine⟨cap[i],qbF hi,?_,this.1,this.2⟩;cases q:σ[cap[i]]? with
   |none=>rw[q]at h3;exact cNN h3
   |some o=>rw[q]at h3;rw[show o=some v from h3]
  ·rw[qaQ (by simpa using hi),qaR]at h2
   split at h2<;>cases h2
 refine⟨fun σ=>by unfold capσ;simp[hl],fun σ i x v h1 h2=>?_,fun σ i x v h1 h2 z=>?_⟩
 ·obtain⟨j,_,a,b,c⟩:=key σ i x v h1 h2;exact⟨zhw c,j,b,a⟩
 ·obtain⟨j,_,a,b,c⟩:=key σ i x v h1 h2;have e:(relabel scope X.env).names.lookup x=(scope.names.lookup x).map fun k=>if(k==NameKind.free&&X.env.scope.kind== .function&&X.env.kindOf x==some .cell)then NameKind.cell else k:=zd6
  rw[e,c]at z;simp only[qbx,qby]at z
  split at z<;>cases z
noncomputable def turnG (ok:R->Bool)(g:D->R->Option R)(mt:MT)(me:ME):D->R->Option (Option D×R):=fun d ρ=>(g d ρ).bind fun ρ1=>(mt ρ1).bind fun p=>if p.1 then(me p.2).bind fun q=>if ok q.2 then some (some q.1,q.2)else none else if ok p.2 then some (none,p.2)else none
theorem cSp2 {α β:Type}{a c:α}{b d:β}(h:some (a,b)=some (c,d))(k:a=c->b=d->C):C:=k (cSp h).1 (cSp h).2
theorem turnG_el {ok:R->Bool}{mt:MT}{me:ME}(h:turnG ok g mt me d ρ=some (o,ρ'))(k:∀ρ1 b ρ2,g d ρ=some ρ1->mt ρ1=some (b,ρ2)->((b=true/\∃dv,me ρ2=some (dv,ρ')/\o=some dv)\/(b=false/\o=none/\ρ2=ρ'))->ok ρ'=true->C):C:=by
 unfold turnG at h;refine cBel h fun ρ1 e1 h=>zaJ h fun b ρ2 e2 h=>?_
 cases b with
 |true=>exact zaJ h fun dv ρ3 e3 h=>cIte h fun z h=>cSp2 h fun q1 q2=>by subst q2;exact k ρ1 _ ρ2 e1 e2 (.inl ⟨rfl,dv,e3,q1.symm⟩) z
 |false=>exact cIte h fun z h=>cSp2 h fun q1 q2=>by subst q2;exact k ρ1 _ ρ2 e1 e2 (.inr ⟨rfl,q1.symm,rfl⟩) z
theorem zqD {f:D->R->Option (Option D×R)}{d:D}(h:ze5 f (d::ds) ρ=some (out,ρ'))(k:∀o ρ1 rest,f d ρ=some (o,ρ1)->ze5 f ds ρ1=some (rest,ρ')->out=o.toList++rest->C):C:=by
 simp only[ze5]at h;exact zaJ h fun o ρ1 e1 h=>zjy h fun rest ρ2 e2 h=>by
  obtain⟨rfl,rfl⟩:=Prod.mk.inj h;exact k o ρ1 rest e1 e2 rfl
structure LcG (K:W.Frag) (O:List (Nat×Addr)) (G2 H1:Hp) (DD:Addr) (Hc Gc:Hp) (xs:List V):Prop where
 fc:Fz G2 Gc
 fcH:Fz Gc Hc
 nw:∀b o,Gc b=some o->G2 b≠none\/H1 b=none
 kp:∀b o,(∀i,(i,b)∉O)->H1 b=some o->Hc b=some o
 gD:Gc DD=none
 hDc:Hc DD=some (.lst xs)
theorem zq1 {b:Addr}(h:∀o,H b=some o->False):H b=none:=by
 cases q:H b with
 |none=>rfl
 |some u=>exact(h u q).elim
theorem LcG.next {G2 H1:Hp}(J:LcG K O G2 H1 DD Hc Gc xs)(hO:∀i,(i,DD)∉O){σ':St}(I:SI K ⟨Gc,Hc,O⟩ G' H' σ' ρ'):LcG K O G2 H1 DD H' G' xs where
 fc:=J.fc.trans I.g0
 fcH:=I.fz
 nw:=fun b o e=>(I.new b o e).elim (fun h=>by
  cases q:Gc b with
  |none=>exact absurd q h
  |some u=>exact J.nw b u q) fun h=> .inr (zq1 fun u q=>Classical.byCases (p:=∀i,(i,b)∉O) (fun n=>cNN ((show Hc b=none from h).symm.trans (J.kp b u n q))) fun n=>n fun i m=>I.ob i b m h)
 kp:=fun b o n e=>I.keep b o (J.kp b o n e) n
 gD:=zq1 fun u q=>(I.new DD u q).elim (fun h=>h J.gD) fun h=>cNN ((show Hc DD=none from h).symm.trans J.hDc)
 hDc:=I.keep DD _ J.hDc hO
theorem LcG.put {G2 H1:Hp}(J:LcG K O G2 H1 DD Hc Gc xs)(hD:H1 DD=none)(ys:List V):LcG K O G2 H1 DD (upd Hc DD (.lst ys)) Gc ys where
 fc:=J.fc
 fcH:=J.fcH.right J.gD _
 nw:=J.nw
 kp:=fun b o n e=>(zaw (za3 e hD)).trans (J.kp b o n e)
 gD:=J.gD
 hDc:=zaD
section
variable {X:Cx} {elt iter tg:Expr} {ifs:List Expr} {scope:Scope} {pos:Pos} {N:List Str} {cap:List Nat} {t:Nat} {mi:MA} {g:D->R->Option R} {mt:MT} {me:ME}
structure LcB (X:Cx) (scope:Scope) (N:List Str) (elt tg:Expr) (ifs:List Expr) (g:D->R->Option R) (mt:MT) (me:ME) (tg':Addr->Shared->Hp->List Addr->TG) (tt:Addr->Shared->Hp->List Addr->TT) (te:Addr->Shared->Hp->List Addr->TE):Prop where
 sg:∀C s H fp,SGb (cxC X N scope C s H fp) tg g (tg' C s H fp)
 st:∀C s H fp,STsb (cxC X N scope C s H fp) ifs mt (tt C s H fp)
 se:∀C s H fp,SEb (cxC X N scope C s H fp) elt me (te C s H fp)
noncomputable def LcW (σs:St)(J:It)(DD:Addr)(H1:Hp)(tg':Addr->Shared->Hp->List Addr->TG)(tt:Addr->Shared->Hp->List Addr->TT)(te:Addr->Shared->Hp->List Addr->TE)(Q:VK):Prop:=∃W:Nat->Nat->St->Hp->Prop,(∃m,W 0 m σs (upd H1 DD (.lst [])))/\∀i m σ H,W i m σ H->
 (J.stop i H /\ Q (.ref DD) H) \/ (J.go i H /\ ∀ C s₀ H₀ fp x H', J.yld i H x H' -> tg' C s₀ H₀ fp x σ H' fun σ2 H2 => tt C s₀ H₀ fp σ2 H2 fun ok H3 => if ok = true then te C s₀ H₀ fp σ2 H3 fun v H4 => ∃ xs, H4 DD = some (.lst xs) /\ xs.length < sizeLine /\ ∃ m', m' < m /\ W (i + 1) m' σ2 (upd H4 DD (.lst (xs ++ [v])))
  else ∃m',m'<m/\W (i+1) m' σ2 H3)
theorem znj (blk:LcB X scope N elt tg ifs g mt me tg' tt te){ok:R->Bool}{items all:List D}{ρs ρf:R}{G1 G2 H1:Hp}{σs:St}{J:It}{Q:VK}
  (IT:Itm X.K J G1 items) (f2:Fz G1 G2) (fH:Fz G2 H1) (hD:H1 DD=none) (hlen:items.length<=16777216) (hO:∀i,(i,DD)∉O)
  (jsi:∀G H σ ρ,JJ G H σ ρ->Fz G H->SI X.K ⟨G,H,O⟩ G H σ ρ) (joi:∀Gb Hb G H σ ρ,SI X.K ⟨Gb,Hb,O⟩ G H σ ρ->ok ρ=true->JJ G H σ ρ) (jup:∀G H σ ρ xs,JJ G H σ ρ->JJ G (upd H DD (.lst xs)) σ ρ)
  (j0:JJ G2 H1 σs ρs) (e2:ze5 (turnG ok g mt me) items ρs=some (all,ρf))
  (k:∀Gc Hc σc xs,LcG X.K O G2 H1 DD Hc Gc xs->RepL X.K Gc xs all->JJ Gc Hc σc ρf->Q (.ref DD) Hc):LcW σs J DD H1 tg' tt te Q:=by
 refine⟨fun i m σc Hc=>m=items.length-i/\i<=items.length/\∃Gc ρc acc xs rest,LcG X.K O G2 H1 DD Hc Gc xs/\RepL X.K Gc xs acc/\xs.length<=i/\JJ Gc Hc σc ρc/\ze5 (turnG ok g mt me) (items.drop i) ρc=some (rest,ρf)/\all=acc++rest,
  ⟨items.length,rfl,qbB _,G2,ρs,[],[],all,⟨Fz.refl _,fH.right (fH.free hD) _,fun b o e=> .inl (by rw[e];exact nofun),fun b o _ e=>(zaw (za3 e hD)).trans e,fH.free hD,zaD⟩,.nil,qaE _,jup _ _ _ _ _ j0,e2,rfl⟩,?_⟩
 rintro i m σc Hc ⟨rfl,hi,Gc,ρc,acc,xs,rest,J0,ra,hx,jj,ec,eall⟩
 by_cases hlt:i<items.length
 ·refine .inr ⟨IT.go Hc i (f2.trans (J0.fc.trans J0.fcH)) hlt,fun C s₀ H₀ fp x H' y=>?_⟩;rw[List.drop_eq_getElem_cons hlt]at ec;refine zqD ec fun o ρ3 rest2 h3 h4 er=>turnG_el h3 fun ρ5 b ρ6 h5 h6 hb hok=>?_
  have f3':Fz G1 Gc:=f2.trans J0.fc;have yy2:(H'=Hc/\RepD X.K Gc x items[i])\/∃p xs es,Hc p=none/\H'=upd Hc p (.tup xs)/\x= .ref p/\items[i]= .tup es/\RepL X.K Gc xs es:=(IT.yld Hc i x H' (f3'.trans J0.fcH) y items[i] (qbF hlt)).imp (fun q=>⟨q.1,q.2.mono f3'⟩) fun⟨p,xs,es,a,b,c,d,e⟩=>⟨p,xs,es,a,b,c,d,e.mono f3'⟩
  obtain⟨G3,I3,f3,r3⟩:=(jsi _ _ _ _ jj J0.fcH).yld yy2;refine blk.sg C s₀ H₀ fp _ G3 H' σc ρc x items[i] ρ5 _ I3 r3 h5 fun G4 H4 σ4 I4 f4=>blk.st C s₀ H₀ fp _ G4 H4 σ4 ρ5 b ρ6 _ I4 h6 fun G5 H5 I5 f5=>?_
  have hlt2:items.length-(i+1)<items.length-i:=by lia
  rcases hb with⟨rfl,dv,h7,rfl⟩|⟨rfl,rfl,rfl⟩
  ·refine blk.se C s₀ H₀ fp _ G5 H5 σ4 ρ6 dv _ _ I5 h7 fun G6 H6 v I6 f6 r6=>?_
   have J1:=J0.next hO I6;exact⟨xs,J1.hDc,by rw[qaI];lia,_,hlt2,rfl,hlt,G6,_,acc++[dv],xs++[v],rest2,J1.put hD _,(ra.mono I6.g0).snoc r6,by rw[qaW,qbk];lia,jup _ _ _ _ _ (joi _ _ _ _ _ _ I6 hok),h4,by rw[eall,er,qbh];rfl⟩
  ·exact⟨_,hlt2,rfl,hlt,G5,_,acc,xs,rest2,J0.next hO I5,ra.mono I5.g0,by lia,joi _ _ _ _ _ _ I5 hok,h4,by rw[eall,er];rfl⟩
 ·have e:i=items.length:=by lia
  subst e;rw[List.drop_length]at ec;have hr:=cSp ec;obtain⟨q1,q2⟩:=hr;subst q1 q2;rw[qaK]at eall;subst eall;exact .inl ⟨IT.stop Hc _ (f2.trans (J0.fc.trans J0.fcH)) (qaE _),k Gc Hc σc xs J0 ra jj⟩
theorem zpk (si:SItb X tg iter mi wi)(blk:LcB X scope N elt tg ifs g mt me tg' tt te):
  ∀B G H σ ρ ds ρ' (Q:VK),SI X.K B G H σ ρ->oLC cap t mi g mt me ρ=some (ds,ρ')->
   (∀G' H' l xs,SI X.K B G' H' σ ρ'->Fz G G'->G' l=none->H' l=some (.lst xs)->RepL X.K G' xs ds->B.H l=none->Nw X.K G' H' σ ρ' l->Q (.ref l) H')->tLC (capσ cap t) wi tg' tt te σ H Q:=fun B G H σ ρ ds ρ' Q I hm k=>
 zaJ hm fun items ρ1 e1 hm=>si B G H σ ρ items ρ1 _ I e1 fun J G1 H1 I1 f1 IT DD hD=>cIte hm fun hlen hm=>zjy hm fun all ρf e2 e3=>by
  obtain⟨rfl,rfl⟩:=Prod.mk.inj e3;obtain⟨G2,I2,f2⟩:=SI.fzL cap I1;exact znj blk (O:=[]) (JJ:=fun G _ σ ρ=>VS X.K G σ ρ) IT f2 I2.fz hD hlen (fun i m=>nomatch m) (fun G H σ ρ h f=>h.si f) (fun _ _ _ _ _ _ I h=>VS.of I h) (fun _ _ _ _ _ h=>h) (cap_vs I2 cap t) e2
   fun Gc Hc σc xs J ra _=>k Gc Hc DD xs (I2.grow J.fc J.fcH J.nw fun b o e=>J.kp b o nofun e) (f1.trans (f2.trans J.fc)) J.gD J.hDc ra (I2.there DD hD) (I2.own_ne hD J.nw fun b o e=>J.kp b o nofun e)
theorem LcB.mk' (hg:∀C s H fp,SG (cxC X N scope C s H fp) tg g)(ht:∀C s H fp,STs (cxC X N scope C s H fp) ifs mt)(he:∀C s H fp,SE (cxC X N scope C s H fp) elt me):LcB X scope N elt tg ifs g mt me (fun C s H fp=>(hg C s H fp).choose) (fun C s H fp=>(ht C s H fp).choose) (fun C s H fp=>(he C s H fp).choose):=⟨fun C s H fp=>(hg C s H fp).choose_spec.2,fun C s H fp=>(ht C s H fp).choose_spec.2,fun C s H fp=>(he C s H fp).choose_spec.2⟩
theorem zcE (cap:List Nat)(t:Nat)(N:List Str)(hc:X.calm=true)(hi:SIt X tg iter mi)(hg:∀C s H fp,SG (cxC X N scope C s H fp) tg g)(ht:∀C s H fp,STs (cxC X N scope C s H fp) ifs mt)(he:∀C s H fp,SE (cxC X N scope C s H fp) elt me)
    (hk:scope.kind= .function:=by rfl) (hb:blkB X.env scope=true:=by kernel_rfl) (hcap:capB scope.names N X.N cap t=true:=by kernel_rfl)
    (hs:∀x,foldedSetIterable iter X.env x=pure x:=by exact fun _=>rfl):SO X (.ListComp elt [⟨tg,iter,ifs,0⟩] scope pos) (oLC cap t mi g mt me):=by
  refine hi.el fun wi pi si=>?_
  exact⟨_,pe_lc hc (zsS hk hb) (zrV hcap) pi (fun C s H fp=>(hg C s H fp).choose_spec.1) (fun C s H fp=>(ht C s H fp).choose_spec.1) (fun C s H fp=>(he C s H fp).choose_spec.1) hs,
    zpk si (.mk' hg ht he)⟩
end
section
variable {X:Cx} {elt iter tg:Expr} {ifs:List Expr} {scope:Scope} {pos lpos pos':Pos} {N:List Str} {cap:List Nat} {t:Nat} {mi:MA} {g:D->R->Option R} {mt:MT} {me:ME}
theorem zpo {σ0:St->St}(hN:X.N.Nodup)(hxi:X.N[i]? =some x)(hx:Loc X.env.scope x)(hf:X.fn x=true\/X.env.scope.names.lookup x=some .local)
  (hsw:swapsWith (.ListComp elt [⟨tg,iter,ifs,0⟩] scope lpos) (some (.Name x pos')) pos.line X.env=pure true) (hc:X.calm=true) (b:BlkOk X scope) (cap:Cap X scope N σ0) (hi:PI X tg iter wi) (hg:∀C s H fp,PG (cxC X N scope C s H fp) tg (tg' C s H fp)) (ht:∀C s H fp,PTs (cxC X N scope C s H fp) ifs (tt C s H fp)) (he:∀C s H fp,PE (cxC X N scope C s H fp) elt (te C s H fp))
  (hs:∀x,foldedSetIterable iter X.env x=pure x):PS X (.Assign [.Name x pos'] (.ListComp elt [⟨tg,iter,ifs,0⟩] scope lpos) pos) (fun E σ H=>tLC σ0 wi tg' tt te σ H fun v H'=>E.nx (σ.set i (some v)) H'):=by
 intro pins s σ H E I h;rw[exec_Assign_Name_used _ _ _ _ hsw];refine qav (wpAny_standAt (qav ?_));show wpAny _ _ (do let _<-comprehension (.ListComp elt [⟨tg,iter,ifs,0⟩] scope lpos) scope X.env _ (newList []) false (eval iter X.env) (some (assign (.Name x pos') X.env))) _ _ s;refine qav (thn (zsT (use:=some (assign (.Name x pos') X.env)) (QQ:=fun _ s'=>SP X pins E .next s') (E:=X.xe) hc b cap hi hg ht he I h hs ?_) fun _ s' hq=>qaz (qaz hq));intro D fp C H1 H' σc s1 s' I1 f1 eC J q;subst eC;have I2:Inv X pins σ H' s':=by
  have z:=zqW (h':=s'.heap) I1 f1 J (Heap.SameBut.refl _ _);exact z
 obtain⟨m,⟨o,es,ep,ho,hd,hrest⟩,_⟩:=J.loc;have fpk:FpOk X pins H' s1.heap.objs.size:=I1.fpOk (qaE _) J.free;have I3:Inv X (pins++[(s1.heap.objs.size,o)]) σ H' s':=I2.pins_of fun p hp=>by
  rcases qan.mp hp with hp|hp
  ·exact I2.pin p (qaH _ hp)
  ·have e:p=(s1.heap.objs.size,o):=by simpa using hp
   subst e;exact⟨ho,fpk.1,fpk.2.1,fpk.2.2.1,fun v z=>by rw[hd]at z;cases z⟩
 refine thn (zsQ hN hxi hx hf (pins++[(s1.heap.objs.size,o)]) s' σ H' (.ref D) (.ref D) (fun σ2 H2=>E.nx σ2 H2) I3 rfl q) fun _ s'' ⟨σ2,H2,I4,q4⟩=>?_
 have pC:=I4.pin (s1.heap.objs.size,o) (qaH _ (qaH _ (by simp)));refine⟨m,⟨o,es,ep,pC.1,hd,hrest⟩,fun h' hs'=>?_⟩;have I5:Inv X pins σ2 H2 s'':=I4.unpinned;have fp2:FpOk X pins H2 s1.heap.objs.size:=I1.fpOk (qaE _) pC.2.1;have I6:=I5.turned (t':=s''.toks) (h':=h') (it:=s1.heap.objs.size) (fun b' o' hb e=>hs'.extBut b' o' hb e) fp2.1 fp2.2.1 fp2.2.2.2.1 fp2.2.2.2.2.1 fp2.2.2.2.2.2;exact⟨σ2,H2,I6,q4⟩
end
section
variable {X:Cx} {pins:List (Addr×Obj)} {σ:St} {H:Hp} {s:Shared}
theorem ziS {A:Around}{p:Addr}(hh:A.handled=none)(I:Inv X pins σ H s)(hq:SqL X.K H p ys\/SqT X.K H p ys)
  (k : ∀ (its : List Value) (s₂ : Shared) (St : Nat -> Heap -> Prop), Vals ys its -> Walks X.prog X.w A s.heap.objs.size [s.heap.objs.size, p] [s.heap.objs.size] its.length (fun i v => its[i]? = some v) St -> St 0 s₂.heap -> (∀ b ∈ [s.heap.objs.size, p], b < s₂.heap.objs.size) ->
   (∀h' tk,(∀b o,b∉[s.heap.objs.size]->s₂.heap.get? b=some o->h'.get? b=some o)->Inv X pins σ H {s₂ with heap:=h',toks:=tk})->Q (.ref s.heap.objs.size) s₂):wpAny (model X.prog X.w) A (pyIter (.ref p)) Q E s:=by
 have fin:∀(o:Obj),∀h' tk,(∀b o',b∉[s.heap.objs.size]->(s.heap.push o).get? b=some o'->h'.get? b=some o')->Inv X pins σ H {({s with heap:=s.heap.push o}:Shared)with heap:=h',toks:=tk}:=fun o h' tk hk=>by
  have z:=I.kept (h':=h') (t':=tk) fun b o' e=>hk b o' (by simpa using qag (qad e)) (qaC _ e)
  exact z
 rcases hq with hq|hq
 ·obtain⟨its,r,pl,hz⟩:=I.list hq;have hlt:p<s.heap.objs.size:=by obtain⟨_,_,e,_⟩:=pl;exact qad e
  refine wpAny_pyIter_list pl.isList (k its _ (fun i h=>h.IsListIter s.heap.objs.size p i/\h.IsList p its.toArray) r ?_ ⟨⟨_,qaD _ rfl,rfl,rfl⟩,pl.isList.push _⟩ (fun b hb=>?_) (fin _))
  ·have w:=Walks.list (prog:=X.prog) (w:=X.w) (A:=A) hh s.heap.objs.size p (qag hlt) its.toArray;simpa using w
  ·show b<(s.heap.push _).objs.size;rw[qbO];simp at hb;rcases hb with z|z
   ·rw[z];exact qbM _
   ·rw[z];exact qbN hlt
 ·obtain⟨its,r,pl,hz⟩:=I.tuple hq;have hlt:p<s.heap.objs.size:=pl.lt;refine qaB (show s.heap.IsTuple p its.toArray from pl) (k its _ (fun i h=>h.IsTupleIter s.heap.objs.size p i/\h.IsTuple p its.toArray) r ?_ ⟨⟨_,qaD _ rfl,rfl,rfl⟩,(show s.heap.IsTuple p its.toArray from pl).push _⟩ (fun b hb=>?_) (fin _))
  ·have w:=Walks.tuple (prog:=X.prog) (w:=X.w) (A:=A) hh s.heap.objs.size p (qag hlt) its.toArray;simpa using w
  ·show b<(s.heap.push _).objs.size;rw[qbO];simp at hb;rcases hb with z|z
   ·rw[z];exact qbM _
   ·rw[z];exact qbN hlt
end
theorem zlB (ns:List Int):∀j,preSum (fun i=>ns.getD i 0) j=(ns.take j).sum
 |0=>by simp[preSum]
 |j+1=>by
  rw[preSum,zlB ns j]
  by_cases h:j<ns.length
  ·rw[List.take_succ_eq_append_getElem h,List.sum_append];simp[h]
  ·rw[qbT (by lia),qbT (by lia)];simp[qbU (by lia:ns.length<=j)]
theorem zja (r:Vals (ns.map V.int) its){v:Value}(e:its[i]? =some v):∃t,v= .int (ns.getD i 0) t:=by
 have hl:=r.length;have hi:i<its.length:=(qap.mp e).1;rw[qaX]at hl;have e2:(ns.map V.int)[i]? =some (.int ns[i]):=by rw[qaT,qbF (by lia)];rfl
 obtain⟨u,h1,t,h2⟩:=r.get e2;rw[e]at h1;cases h1;exact⟨t,by rw[h2];simp[show i<ns.length by lia]⟩
noncomputable def rSum (K:W.Frag):List V->Hp->VK->Prop:=fun xs H Q=>∃(p:Addr) (ns:List Int),xs=[.ref p]/\(SqL K H p (ns.map V.int)\/SqT K H p (ns.map V.int))/\Q (.int ns.sum) H
theorem zro (hc:X.calm=true):zje X (.builtin "sum") (rSum X.K):=by
 intro pins s σ H xs us Q I r h;obtain⟨p,ns,rfl,hq,q⟩:=h;obtain⟨u,rfl,ru⟩:=znu r;cases ru;refine call_sum_walkG (ziS (A:=X.A.in1) (I.ok.hd hc) I hq fun its s₂ St rv W st hfp fin=>?_);refine⟨_,_,_,_,_,_,fun i=>ns.getD i 0,rfl,W,st,hfp,fun i v e=>zja rv e,fun h' tk t' hk=>⟨.int ns.sum,H,fin h' tk hk,⟨t',?_⟩,q⟩⟩;have hl:=rv.length;rw[qaX]at hl;rw[zlB,<-hl,qbT (qaE _)]
noncomputable def zby:List D->Option (List Int)
 |[]=>some []
 | .int i::ds=>(zby ds).map (i:: ·)
 |_=>none
theorem zg8:∀{ds:List D} {ns:List Int},zby ds=some ns->ds=ns.map .int
 |[],ns,h=>by cases h;rfl
 |d::ds,ns,h=>by
  cases d<;>simp only[zby]at h<;>try exact cNN h
  refine cMel h fun ms e1 e2=>?_
  subst e2;rw[zg8 e1];rfl
@[simp] theorem intsOf_map:∀(ns:List Int),zby (ns.map .int)=some ns
 |[]=>rfl
 |n::ns=>by simp[zby,intsOf_map ns]
noncomputable def dSum:List D->Option D
 |[d]=>(zaV [d]).bind fun ds=>(zby ds).map fun ns=> .int ns.sum
 |_=>none
theorem zmp (I:SI K B G H σ ρ){x:V}(r:RepD K G x d)(e:zaV [d]=some ds):∃p ys,x= .ref p/\(SqL K H p ys\/SqT K H p ys)/\RepL K G ys ds:=by
 cases d<;>simp only[zaV]at e<;>try cases e
 ·obtain⟨p,ys,ex,hp,q⟩:=I.lst r;exact⟨p,ys,ex,.inl (SqL.of hp),q⟩
 ·obtain⟨p,ys,ex,hp,q⟩:=I.tup r;exact⟨p,ys,ex,.inr (SqT.of hp),q⟩
 ·obtain⟨p,ex,hp⟩:=r;exact⟨p,_,ex,.inl (I.fz.sql hp),RepL.ints _⟩
theorem vc_sum:VC X (rSum X.K) dSum:=by
 intro B G H σ ρ xs ds d Q I r hf k
 match ds,hf with
 |[a],hf=>
  refine cBel hf fun es e1 hf=>?_
  refine cMel hf fun ns e2 e3=>?_
  subst e3;obtain⟨x,rfl,ra⟩:=r.one;obtain⟨p,ys,rfl,hq,ry⟩:=zmp I ra e1;rw[zg8 e2]at ry;rw[RepL.ints_eq ry]at hq;exact⟨p,ns,rfl,hq,k G H _ I (Fz.refl G) rfl⟩
 |[],hf=>exact cNN hf
 |_::_::_,hf=>exact cNN hf
theorem zdy (hc:X.calm=true)(ml:X.mg "sum"=none)(ha:SA X [e] ma)(hg:Gl X "sum":=by rfl)(he:starEach [e] X.env=(false,eval e X.env)::starEach [] X.env:=by rfl):SE X (.Call (.Name "sum" p) [e] [] pos) (mC dSum ma):=
 zdX (zro hc) vc_sum (by decide+kernel) ml ha hg (by decide) (by decide) he rfl
noncomputable def zfe:List D->Option (List Bool)
 |[]=>some []
 | .bl b::ds=>(zfe ds).map (b:: ·)
 |_=>none
theorem zlv:∀{ds:List D} {bs:List Bool},zfe ds=some bs->ds=bs.map .bl
 |[],ns,h=>by cases h;rfl
 |d::ds,ns,h=>by
  cases d<;>simp only[zfe]at h<;>try exact cNN h
  refine cMel h fun ms e1 e2=>?_
  subst e2;rw[zlv e1];rfl
@[simp] theorem boolsOf_map:∀(bs:List Bool),zfe (bs.map .bl)=some bs
 |[]=>rfl
 |n::ns=>by simp[zfe,boolsOf_map ns]
theorem RepL.bools_eq:∀{bs:List Bool} {xs:List V},RepL K G xs (bs.map D.bl)->xs=bs.map V.bl
 |[],_,e=>e
 |n::ns,_,⟨x,ys,e,q,r⟩=>by subst e;cases(show x=V.bl n from q);rw[RepL.bools_eq r];rfl
theorem zn3 {bs:List Bool}(r:Vals (bs.map V.bl) its){v:Value}(e:its[i]? =some v):∃b,bs[i]? =some b/\v= .bool b:=by
 have hl:=r.length;have hi:i<its.length:=(qap.mp e).1;rw[qaX]at hl;have e2:(bs.map V.bl)[i]? =some (.bl bs[i]):=by rw[qaT,qbF (by lia)];rfl
 obtain⟨u,h1,h2⟩:=r.get e2;rw[e]at h1;cases h1;exact⟨bs[i],qbF (by lia),h2⟩
noncomputable def rAll (K:W.Frag)(f:List Bool->Bool):List V->Hp->VK->Prop:=fun xs H Q=>∃(p:Addr) (bs:List Bool),xs=[.ref p]/\(SqL K H p (bs.map V.bl)\/SqT K H p (bs.map V.bl))/\Q (.bl (f bs)) H
theorem zs1 (hc:X.calm=true):zje X (.builtin "all") (rAll X.K fun bs=>bs.all id):=by
 intro pins s σ H xs us Q I r h;obtain⟨p,bs,rfl,hq,q⟩:=h;obtain⟨u,rfl,ru⟩:=znu r;cases ru;refine call_all_walk (ziS (A:=X.A.in1) (I.ok.hd hc) I hq fun its s₂ St rv W st hfp fin=>?_);have hl:=rv.length;rw[qaX]at hl;refine⟨_,_,_,_,_,_,fun i=>(bs[i]?).getD true,rfl,W,st,fun i v s' Q' E' hP hQ=>?_,fun h' tk hk=>⟨.bl (bs.all id),H,fin h' tk hk,?_,q⟩⟩
 ·obtain⟨b,e,rfl⟩:=zn3 rv hP;simp only[e,Option.getD_some]at hQ;exact qas hQ
 ·rw[<-hl,LSm.range_all];rfl
theorem zqJ (hc:X.calm=true):zje X (.builtin "any") (rAll X.K fun bs=>bs.any id):=by
 intro pins s σ H xs us Q I r h;obtain⟨p,bs,rfl,hq,q⟩:=h;obtain⟨u,rfl,ru⟩:=znu r;cases ru;refine call_any_walk (ziS (A:=X.A.in1) (I.ok.hd hc) I hq fun its s₂ St rv W st hfp fin=>?_);have hl:=rv.length;rw[qaX]at hl;refine⟨_,_,_,_,_,_,fun i=>(bs[i]?).getD false,rfl,W,st,fun i v s' Q' E' hP hQ=>?_,fun h' tk hk=>⟨.bl (bs.any id),H,fin h' tk hk,?_,q⟩⟩
 ·obtain⟨b,e,rfl⟩:=zn3 rv hP;simp only[e,Option.getD_some]at hQ;exact qas hQ
 ·rw[<-hl,LSm.range_any];rfl
noncomputable def dAll (f:List Bool->Bool):List D->Option D
 |[d]=>(zaV [d]).bind fun ds=>(zfe ds).map fun bs=> .bl (f bs)
 |_=>none
theorem vc_all (f:List Bool->Bool):VC X (rAll X.K f) (dAll f):=by
 intro B G H σ ρ xs ds d Q I r hf k
 match ds,hf with
 |[a],hf=>
  refine cBel hf fun es e1 hf=>?_
  refine cMel hf fun ns e2 e3=>?_
  subst e3;obtain⟨x,rfl,ra⟩:=r.one;obtain⟨p,ys,rfl,hq,ry⟩:=zmp I ra e1;rw[zlv e2]at ry;rw[RepL.bools_eq ry]at hq;exact⟨p,ns,rfl,hq,k G H _ I (Fz.refl G) rfl⟩
 |[],hf=>exact cNN hf
 |_::_::_,hf=>exact cNN hf
theorem se_all (hc:X.calm=true)(ml:X.mg "all"=none)(ha:SA X [e] ma)(hg:Gl X "all":=by rfl)(he:starEach [e] X.env=(false,eval e X.env)::starEach [] X.env:=by rfl):SE X (.Call (.Name "all" p) [e] [] pos) (mC (dAll fun bs=>bs.all id) ma):=
 zdX (zs1 hc) (vc_all _) (by decide+kernel) ml ha hg (by decide) (by decide) he rfl
theorem se_any (hc:X.calm=true)(ml:X.mg "any"=none)(ha:SA X [e] ma)(hg:Gl X "any":=by rfl)(he:starEach [e] X.env=(false,eval e X.env)::starEach [] X.env:=by rfl):SE X (.Call (.Name "any" p) [e] [] pos) (mC (dAll fun bs=>bs.any id) ma):=
 zdX (zqJ hc) (vc_all _) (by decide+kernel) ml ha hg (by decide) (by decide) he rfl
noncomputable def d2I (g:Int->Int->Int):List D->Option D
 |[.int i,.int j]=>some (.int (g i j))
 |_=>none
theorem vc_2I (g:Int->Int->Int):VC X (fun xs H Q=>∃i j,xs=[.int i,.int j]/\Q (.int (g i j)) H) (d2I g):=by
 intro B G H σ ρ xs ds d Q I r hf k;unfold d2I at hf
 split at hf
 ·rename_i i j;cases hf;obtain⟨x,y,rfl,rx,ry⟩:=r.two;cases(show x=V.int i from rx);cases(show y=V.int j from ry);exact⟨i,j,rfl,k G H _ I (Fz.refl G) rfl⟩
 ·exact cNN hf
noncomputable def max2 (i j:Int):Int:=if j>i then j else i
noncomputable def min2 (i j:Int):Int:=if j<i then j else i
theorem zlZ (hc:X.calm=true)(ml:X.mg "max"=none)(ha:SA X [a,b] ma)(hg:Gl X "max":=by rfl)(he:starEach [a,b] X.env=(false,eval a X.env)::starEach [b] X.env:=by rfl)(hpl:(backTo pos (starEach [b] X.env)).any (·.1)=false:=by rfl):SE X (.Call (.Name "max" p) [a,b] [] pos) (mC (d2I max2) ma):=
 zdX (zr5 hc) (vc_2I max2) (by decide+kernel) ml ha hg (by decide) (by decide) he hpl
theorem se_min2 (hc:X.calm=true)(ml:X.mg "min"=none)(ha:SA X [a,b] ma)(hg:Gl X "min":=by rfl)(he:starEach [a,b] X.env=(false,eval a X.env)::starEach [b] X.env:=by rfl)(hpl:(backTo pos (starEach [b] X.env)).any (·.1)=false:=by rfl):SE X (.Call (.Name "min" p) [a,b] [] pos) (mC (d2I min2) ma):=
 zdX (zq8 hc) (vc_2I min2) (by decide+kernel) ml ha hg (by decide) (by decide) he hpl
noncomputable def isI (T:String):D->Bool
 | .non=>false
 | .bl _=>T=="bool"||T=="int"
 | .int _=>T=="int"
 | .str _=>T=="str"
 | .lst _=>T=="list"
 | .tup _=>T=="tuple"
 | .scr _=>T=="list"
 | .exc _=>false
 | .dic _ _=>false
 | .dit _ _=>false
 | .obj _ _ _ _ _=>false
noncomputable def okT (T:String):Bool:=["int","bool","tuple","list","str"].contains T
noncomputable def eIsI (T:String)(ma:ME):ME:=fun ρ=>(ma ρ).bind fun p=>if okT T&&noS1 p.1 then some (.bl (isI T p.1),p.2)else none
where noS1:D->Bool
 | .scr _=>false
 | .exc _=>false
 | .dic _ _=>false
 | .dit _ _=>false
 | .obj _ _ _ _ _=>false
 |_=>true
noncomputable def cutD {α:Type}(xs:List α)(lo hi:Option Int):List α:=(xs.drop (HT.sIx xs.length 0 lo)).take (HT.sIx xs.length xs.length hi-HT.sIx xs.length 0 lo)
theorem RepL.cut (h:RepL K G xs ds)(lo hi:Option Int):RepL K G (cutV xs lo hi) (cutD ds lo hi):=by
 unfold cutV cutD;rw[h.length];exact(h.drop _).take _
section
variable {prog:Program} {w:World} {A:Around} {E:Value->Shared->Prop} {s:Shared}
theorem zia {t sl:Addr}{items:Array Value}{vl vu:Value}{lo hi:Option Int}(ht:IsTup s.heap t items)(hs:s.heap.IsSliceOf sl vl vu .none)(pl:IsPart vl lo)(pu:IsPart vu hi)
  (hw:HT.sIx items.size 0 lo=0/\HT.sIx items.size items.size hi=items.size) (h:Q (.ref t) s):wpAny (model prog w) A (getItem (.ref t) (.ref sl)) Q E s:=by
 obtain⟨os,hos,hcs,hds⟩:=id hs;have hTs:s.TypeIs (.ref sl) "slice":=⟨os,hos,hcs⟩;unfold getItem
 try with_reducible refine qaw ?_
 first|refine qav (qaz ?_)|skip
 refine qav (wpAny_sequenceKey ht.typeIs (by decide) ?_);refine qav (qa6 (name:=Str.ofString "__getitem__") ht.typeIs qa7
  (qa8 qa7 ht.typeIs entry_tuple_getitem ?_ (args_tuple_getitem _ _)))
 show wpAny _ _ (Builtin.Tuple.tupleItemsOf (.ref t)>>=_) _ _ s;refine qav (tupleItemsOf_ ht ?_);refine qav (wpAny_typeOf hTs ?_);rw[if_pos (by decide)];refine qav (HT.zfT hs pl pu ?_);have hyes:(((HT.sIx items.size 0 lo:Nat):Int)==0&&(1:Int)==1&&(HT.sIx items.size items.size hi-HT.sIx items.size 0 lo)==items.size)=true:=by
  rw[hw.1,hw.2];simp
 show wpAny _ _ (if(((HT.sIx items.size 0 lo:Nat):Int)==0&&(1:Int)==1&&(HT.sIx items.size items.size hi-HT.sIx items.size 0 lo)==items.size)=true then _ else _) _ _ s;rw[if_pos hyes];refine qav (m:=Builtin.Tuple.tupleIsExact _) ?_;unfold Builtin.Tuple.tupleIsExact;refine qav (wpAny_typeOf ht.typeIs (qaz ?_));rw[if_pos (by decide)];refine qav (qbV ?_);exact qaz ⟨_,rfl,qaz h⟩
end
noncomputable def rSlTW (K:W.Frag):V->Option Int->Option Int->Hp->VK->Prop:=fun x lo hi H Q=>∃a xs,x= .ref a/\SqT K H a xs/\(HT.sIx xs.length 0 lo=0/\HT.sIx xs.length xs.length hi=xs.length)/\Q (.ref a) H
theorem sl_tupW:SlR X (rSlTW X.K):=by
 intro pins s σ H x v vl vu lo hi sl Q I rx hs pl pu h;obtain⟨a,xs,rfl,hx,hw,q⟩:=h;cases rx;obtain⟨its,r,ht,hz⟩:=I.tuple hx;have hlen:its.toArray.size=xs.length:=by rw[qaJ];exact r.length.symm
 refine⟨"tuple",_,PyProof.Rows.slot_tuple_getitem.lookup,ht.typeIs,?_⟩;exact zia ht hs pl pu (by rw[hlen];exact hw) ⟨.ref a,H,I,rfl,q⟩
noncomputable abbrev MP:=R->Option (Option Int×R)
noncomputable def SPtb (X:Cx)(e:Option Expr)(m:MP)(t:TO):Prop:=∀B G H σ ρ o ρ' (Q:Option Int->Hp->Prop),SI X.K B G H σ ρ->m ρ=some (o,ρ')->(∀G' H',SI X.K B G' H' σ ρ'->Fz G G'->Q o H')->t σ H Q
noncomputable def SPt (X:Cx)(e:Option Expr)(m:MP):Prop:=∃t,PO X e t/\SPtb X e m t
theorem SPt.el {e:Option Expr}{m:MP}(h:SPt X e m)(k:∀t,PO X e t->SPtb X e m t->C):C:=h.elim fun t q=>k t q.1 q.2
noncomputable def pNo:MP:=fun ρ=>some (none,ρ)
noncomputable def zbx (m:ME):MP:=fun ρ=>(m ρ).bind fun p=>match p.1 with
 | .int i=>some (some i,p.2)
 |_=>none
theorem zeY:SPt X none pNo:=⟨_,po_none,fun B G H σ ρ o ρ' Q I hm k=>by obtain⟨rfl,rfl⟩:=cSp hm;exact k G H I (Fz.refl G)⟩
theorem zaE {m:ME}(h:SE X e m):SPt X (some e) (zbx m):=by
 refine h.el fun t p s=>?_
 refine⟨_,po_some p,fun B G H σ ρ o ρ' Q I hm k=>?_⟩;refine zaJ hm fun d ρ1 e1 hm=>?_
 refine s B G H σ ρ d ρ1 _ I e1 fun G1 H1 v I1 f1 r1=>?_
 cases d<;>try cases hm
 rename_i i;exact⟨i,r1,k G1 H1 I1 f1⟩
noncomputable def dCut (d:D)(lo hi:Option Int):Option D:=match d with
 | .lst ds=>some (.lst (cutD ds lo hi))
 | .tup ds=>some (.tup (cutD ds lo hi))
 | .scr ns=>some (.lst ((cutD ns lo hi).map .int))
 |_=>none
noncomputable def eCut (ma:ME)(ml mh:MP):ME:=fun ρ=>(ma ρ).bind fun p=>(ml p.2).bind fun q=>(mh q.2).bind fun r=>(dCut p.1 q.1 r.1).map fun d=>(d,r.2)
theorem zsA (ns:List Int)(lo hi:Option Int):cutV (ns.map V.int) lo hi=(cutD ns lo hi).map V.int:=by
 unfold cutV cutD;rw[qaX,<-List.map_drop,<-List.map_take]
theorem zcr {lo hi:Option Expr}{ma:ME}{ml mh:MP}{pos p2:Pos}(he:SE X e ma)(hl:SPt X lo ml)(hu:SPt X hi mh):SE X (.Subscript e (.Slice lo hi none p2) pos) (eCut ma ml mh):=by
 refine he.el fun ta pa sa=>?_
 refine hl.el fun tl pl sl=>?_
 refine hu.el fun th ph sh=>?_
 refine⟨_,pe_slice (sl_list.or (sl_tup.or sl_tupW)) pa pl ph,fun B G H σ ρ d ρ' Q I hm k=>?_⟩;refine zaJ hm fun x ρ1 e1 hm=>?_
 refine zaJ hm fun l ρ2 e2 hm=>?_
 refine zaJ hm fun u ρ3 e3 hm=>?_
 refine cMel hm fun c e4 e5=>?_
 obtain⟨rfl,rfl⟩:=Prod.mk.inj e5;refine sa B G H σ ρ x ρ1 _ I e1 fun G1 H1 v I1 f1 r1=>sl B G1 H1 σ ρ1 l ρ2 _ I1 e2 fun G2 H2 I2 f2=>sh B G2 H2 σ ρ2 u ρ3 _ I2 e3 fun G3 H3 I3 f3=>?_
 have r3:=r1.mono (f2.trans f3);dsimp only at e4;cases x with
 |exc _=>exact cNN e4
 |dic _ _=>exact cNN e4
 |dit _ _=>exact cNN e4
 |obj _ _ _ _ _=>exact cNN e4
 |non=>exact cNN e4
 |bl _=>exact cNN e4
 |int _=>exact cNN e4
 |str _=>exact cNN e4
 |lst ds=>
  cases e4;obtain⟨a,xs,rfl,ha,r⟩:=I3.lst r3;refine .inl ⟨a,xs,rfl,SqL.of ha,fun p hp=>?_⟩;obtain⟨I4,f4,r4⟩:=I3.newL hp (r.cut l u);exact k _ _ _ I4 (f1.trans (f2.trans (f3.trans f4))) r4
 |tup ds=>
  cases e4;obtain⟨a,xs,rfl,ha,r⟩:=I3.tup r3
  by_cases hw:HT.sIx xs.length 0 l=0/\HT.sIx xs.length xs.length u=xs.length
  ·refine .inr (.inr ⟨a,xs,rfl,SqT.of ha,hw,?_⟩);have e:cutD ds l u=ds:=by
    unfold cutD;rw[<-r.length,hw.1,hw.2,List.drop_zero,qbW,qbT (by rw[r.length];exact qaE _)]
   rw[e]at k;exact k G3 H3 _ I3 (f1.trans (f2.trans f3)) r3
  ·refine .inr (.inl ⟨a,xs,rfl,SqT.of ha,hw,fun p hp=>?_⟩);obtain⟨I4,f4,r4⟩:=I3.newT hp (r.cut l u);exact k _ _ _ I4 (f1.trans (f2.trans (f3.trans f4))) r4
 |scr ns=>
  cases e4;obtain⟨a,rfl,ha⟩:=r3;refine .inl ⟨a,_,rfl,I3.fz.sql ha,fun p hp=>?_⟩;rw[zsA];obtain⟨I4,f4,r4⟩:=I3.newL hp (RepL.ints (cutD ns l u));exact k _ _ _ I4 (f1.trans (f2.trans (f3.trans f4))) r4
theorem zez (h:aLen ma n):∀ρ as ρ',ma ρ=some (as,ρ')->as.length+1=n+1:=fun ρ as ρ' e=>congrArg (· +1) (h ρ as ρ' e)
section
variable {X:Cx} {elt iter tg:Expr} {ifs:List Expr} {scope:Scope} {pos lpos pos':Pos} {N:List Str} {cap:List Nat} {t:Nat} {mi:MA} {g:D->R->Option R} {mt:MT} {me:ME}
theorem zhb (i:Nat)(cap:List Nat)(t:Nat)(N:List Str)(hc:X.calm=true)(hi:SIt X tg iter mi)(hg:∀C s H fp,SG (cxC X N scope C s H fp) tg g)(ht:∀C s H fp,STs (cxC X N scope C s H fp) ifs mt)(he:∀C s H fp,SE (cxC X N scope C s H fp) elt me)(hN:X.N.Nodup)
    (hxi:X.N[i]? =some x:=by rfl) (hx:Loc X.env.scope x:=by trivial) (hf:X.fn x=true\/X.env.scope.names.lookup x=some .local:=by trivial)
    (hsw:swapsWith (.ListComp elt [⟨tg,iter,ifs,0⟩] scope lpos) (some (.Name x pos')) pos.line X.env=pure true:=by rfl)
    (hk:scope.kind= .function:=by rfl) (hb:blkB X.env scope=true:=by kernel_rfl) (hcap:capB scope.names N X.N cap t=true:=by kernel_rfl)
    (hs:∀x,foldedSetIterable iter X.env x=pure x:=by exact fun _=>rfl):SS X (.Assign [.Name x pos'] (.ListComp elt [⟨tg,iter,ifs,0⟩] scope lpos) pos) (sSet i (eFz (oLC cap t mi g mt me))):=by
  refine hi.el fun wi pi si=>?_
  refine⟨_,zpo hN hxi hx hf hsw hc (zsS hk hb) (zrV hcap) pi (fun C s H fp=>(hg C s H fp).choose_spec.1) (fun C s H fp=>(ht C s H fp).choose_spec.1) (fun C s H fp=>(he C s H fp).choose_spec.1) hs,fun B G H σ ρ fl ρ' E I hm k=>?_⟩;refine zjy hm fun d ρ1 e1 e3=>?_
  refine zjy e1 fun ds ρ2 e4 e5=>?_
  obtain⟨rfl,rfl⟩:=Prod.mk.inj e5;obtain⟨rfl,rfl⟩:=Prod.mk.inj e3;refine zpk si (.mk' hg ht he) B G H σ ρ ds ρ2 _ I e4 fun G1 H1 l xs I1 f1 g1 h1 r1 b1 n1=>?_
  obtain⟨I2,f2,r2⟩:=zny I1 g1 h1 r1 b1 n1;exact k _ H1 _ (I2.set r2) (f1.trans f2)
end
end M
namespace M
open L2 PySem
@[simp] theorem atI_nat' {α:Type} (xs:List α) (i:Nat):atI xs (i:Int)=xs[i]?:=by
 unfold atI ixN;rw[if_pos (by lia)]
 by_cases h:i<xs.length
 ·rw[if_pos (by lia)];simp
 ·rw[if_neg (by lia)];simp[qbU (by lia:xs.length<=i)]
end M
namespace M
open L2 PyProof.Rows PySem PySem.Spec
noncomputable def zk6 (i:Nat)(g:Int->Int->Int)(me:ME):MS:=fun ρ=>match ρ[i]? with
 |some (.val (.int a))=>(me ρ).bind fun p=>match p.1 with
  | .int b=>some (.next,p.2.set i (.val (.int (g a b))))
  |_=>none
 |_=>none
section
variable {X:Cx} {e:Expr} {me:ME} {pos:Pos}
theorem zsB (i:Nat){x:Str}{pos':Pos}{op:Operator}{g:Int->Int->Int}(ho:PIp X op (ipI g))(he:SE X e me)(hN:X.N.Nodup)(hi:X.N[i]? =some x:=by rfl)(hx:Loc X.env.scope x:=by trivial)
    (hf:X.fn x=true\/X.env.scope.names.lookup x=some .local:=by trivial):SS X (.AugAssign (.Name x pos') op e pos) (zk6 i g me):=by
  refine he.el fun t p s=>?_
  refine⟨_,ps_aug hN hi hx p ho hf,fun B G H σ ρ fl ρ' E I hm k=>?_⟩;unfold zk6 at hm
  split at hm
  . rename_i a e0
    refine zaJ hm fun d ρ1 e1 h2=>?_
    dsimp only at h2
    split at h2
    . rename_i b
      obtain⟨rfl,rfl⟩:=cSp h2;obtain⟨v,h1,hv⟩:=I.slot i _ e0;cases(show v=V.int a from hv);refine⟨_,h1,s B G H σ ρ (.int b) ρ1 _ I e1 fun G1 H1 w I1 f1 r1=>?_⟩;cases(show w=V.int b from r1);exact⟨a,b,rfl,rfl,k G1 H1 _ (I1.set (d:= .int (g a b)) rfl) f1⟩
    . exact cNN h2
  . exact cNN hm
theorem zqZ (i:Nat){x:Str}{pos':Pos}(he:SE X e me)(hN:X.N.Nodup)(hi:X.N[i]? =some x:=by rfl)(hx:Loc X.env.scope x:=by trivial)
  (hf:X.fn x=true\/X.env.scope.names.lookup x=some .local:=by trivial):SS X (.AugAssign (.Name x pos') .Add e pos) (zk6 i (fun i j=>i+j) me):=zsB i ip_add he hN hi hx hf
theorem zgZ (i:Nat){x:Str}{pos':Pos}(he:SE X e me)(hN:X.N.Nodup)(hi:X.N[i]? =some x:=by rfl)(hx:Loc X.env.scope x:=by trivial)
  (hf:X.fn x=true\/X.env.scope.names.lookup x=some .local:=by trivial):SS X (.AugAssign (.Name x pos') .Sub e pos) (zk6 i (fun i j=>i-j) me):=zsB i ip_sub he hN hi hx hf
end
noncomputable def zcF {α:Type}(xs:List α)(lo hi st:Option Int):List α:=
 (sliceRange (sliceBounds lo hi st xs.length).1 (sliceBounds lo hi st xs.length).2.1 (sliceBounds lo hi st xs.length).2.2).filterMap (xs[·]?)
theorem zj6 (its:List Value)(lo hi st:Option Int):slicePick its.toArray lo hi st=(zcF its lo hi st).toArray:=by
 unfold slicePick zcF;simp
theorem znO {xs:List V}{its:List Value}(h:xs.length=its.length)(lo hi st:Option Int):(zcF its lo hi st).length<=xs.length:=by
 have:=slicePick_size_le its.toArray lo hi st;rw[zj6]at this;simpa[h]using this
theorem picks {its:List Value}{xs:List V}(r:Vals xs its):∀js:List Nat,Vals (js.filterMap (xs[·]?)) (js.filterMap (its[·]?))
 |[]=> .nil
 |j::js=>by
  have hl:=r.length
  by_cases h:j<xs.length
  ·have h2:j<its.length:=by lia
   obtain⟨u,e1,e2⟩:=r.get (qbF h);rw[qaj,qaj,qbF h,e1];exact .cons e2 (picks r js)
  ·rw[qaj,qaj,qbU (by lia),qbU (by lia)];exact picks r js
theorem RepL.pickJ {K:W.Frag}{G:Hp}{xs:List V}{ds:List D}(r:RepL K G xs ds):∀js:List Nat,RepL K G (js.filterMap (xs[·]?)) (js.filterMap (ds[·]?))
 |[]=>RepL.nil
 |j::js=>by
  have hl:=r.length
  by_cases h:j<xs.length
  ·have h2:j<ds.length:=by lia
   obtain⟨u,e1,e2⟩:=r.get (qbF h2);rw[qaj,qaj,qbF h2,e1];exact RepL.cons e2 (r.pickJ js)
  ·rw[qaj,qaj,qbU (by lia),qbU (by lia)];exact r.pickJ js
section
variable {X:Cx} {e st:Expr} {lo hi:Option Expr} {te:TE} {tl th ts:TO} {p2 pos:Pos}
theorem zlu (he:PE X e te)(hl:PO X lo tl)(hu:PO X hi th)(hst:PO X (some st) ts):PE X (.Subscript e (.Slice lo hi (some st) p2) pos)
  (fun σ H Q=>te σ H fun x H1=>tl σ H1 fun l H2=>th σ H2 fun u H3=>ts σ H3 fun c H4=>∃a xs,x= .ref a/\SqL X.K H4 a xs/\c≠some 0/\∀p,H4 p=none->Q (.ref p) (upd H4 p (.lst (zcF xs l u c)))):=by
 intro pins s σ H Q I h;refine Subscript_ (thn (he pins s σ H _ I h) fun v s1 ⟨x,H1,I1,r1,q1⟩=>?_);refine wpAny_Slice (thn (hl pins s1 σ H1 _ I1 q1) fun vl s2 ⟨l,H2,I2,pl,q2⟩=>thn (hu pins s2 σ H2 _ I2 q2) fun vu s3 ⟨u,H3,I3,pu,q3⟩=>thn (hst pins s3 σ H3 _ I3 q3) fun vs s4 ⟨c,H4,I4,pc,q4⟩=>?_);have I5:Inv X pins σ H4 {s4 with heap:=s4.heap.push {cls:= .type "slice",data:= .fields #[vl,vu,vs]}}:=I4.kept (t':=s4.toks) fun b ob q=>qaC _ q
 obtain⟨a,xs,rfl,hx,h0,q⟩:=q4;cases r1;obtain⟨its,r,ht,hz⟩:=I5.list hx;have hlen:=r.length;have hg:wpAny (model X.prog X.w) X.A (getItem (.ref a) (.ref s4.heap.objs.size)) (EP X pins σ Q) X.xe {s4 with heap:=s4.heap.push {cls:= .type "slice",data:= .fields #[vl,vu,vs]}}:=by
  refine wpAny_getItem_list_slice ht.isList (Heap.IsSliceOf.new ..) pl pu pc h0 ?_ (by rw[qaJ]<;>lia)
  rw[zj6];refine⟨.ref _,_,I5.laid (t':=s4.toks) (o:= .lst (zcF xs l u c)) (fun b ob q=>qaC _ q) (qaE _) ?_,rfl,q _ (I5.hok.fresh (qaE _))⟩;refine⟨?_,_,0,?_,qaD _ rfl⟩
  ·have:=znO hlen l u c;have e2:(zcF xs l u c).length=(zcF its l u c).length:=by
    unfold zcF;rw[hlen];exact(picks r _).length
   lia
  ·unfold zcF;rw[hlen];exact picks r _
 show wpAny (model X.prog X.w) X.A (subscriptTail e (.Slice lo hi (some st) p2) (.ref a) (.ref s4.heap.objs.size)) (EP X pins σ Q) X.xe {s4 with heap:=s4.heap.push {cls:= .type "slice",data:= .fields #[vl,vu,vs]}};exact tail_any (ops:=[.ref a,.ref s4.heap.objs.size]) ht.isList.typeIs slot_list_getitem.lookup hg (by with_unfolding_all rfl)
end
noncomputable def zr0 (d:D)(lo hi st:Option Int):Option D:=match d with
 | .lst ds=>if st=some 0 then none else some (.lst (zcF ds lo hi st))
 |_=>none
noncomputable def zrT (ma:ME)(ml mh ms:MP):ME:=fun ρ=>(ma ρ).bind fun p=>(ml p.2).bind fun q=>(mh q.2).bind fun r=>(ms r.2).bind fun t=>(zr0 p.1 q.1 r.1 t.1).map fun d=>(d,t.2)
theorem RepL.pick {K:W.Frag}{G:Hp}{xs:List V}{ds:List D}(r:RepL K G xs ds)(lo hi st:Option Int):RepL K G (zcF xs lo hi st) (zcF ds lo hi st):=by
 unfold zcF;rw[r.length];exact r.pickJ _
theorem zoh {X:Cx}{e st:Expr}{lo hi:Option Expr}{ma:ME}{ml mh ms:MP}{pos p2:Pos}(he:SE X e ma)(hl:SPt X lo ml)(hu:SPt X hi mh)(hs:SPt X (some st) ms):SE X (.Subscript e (.Slice lo hi (some st) p2) pos) (zrT ma ml mh ms):=by
 refine he.el fun ta pa sa=>?_
 refine hl.el fun tl pl sl=>?_
 refine hu.el fun th ph sh=>?_
 refine hs.el fun tc pc sc=>?_
 refine⟨_,zlu pa pl ph pc,fun B G H σ ρ d ρ' Q I hm k=>?_⟩;refine zaJ hm fun x ρ1 e1 hm=>?_
 refine zaJ hm fun l ρ2 e2 hm=>?_
 refine zaJ hm fun u ρ3 e3 hm=>?_
 refine zaJ hm fun c ρ4 e4 hm=>?_
 refine cMel hm fun y e5 e6=>?_
 obtain⟨rfl,rfl⟩:=Prod.mk.inj e6;refine sa B G H σ ρ x ρ1 _ I e1 fun G1 H1 v I1 f1 r1=>sl B G1 H1 σ ρ1 l ρ2 _ I1 e2 fun G2 H2 I2 f2=>sh B G2 H2 σ ρ2 u ρ3 _ I2 e3 fun G3 H3 I3 f3=>sc B G3 H3 σ ρ3 c ρ4 _ I3 e4 fun G4 H4 I4 f4=>?_
 have r3:=r1.mono (f2.trans (f3.trans f4));dsimp only at e5;cases x<;>simp only[zr0]at e5<;>try exact cNN e5
 rename_i ds
 split at e5
 ·exact cNN e5
 ·rename_i h0;cases e5;obtain⟨a,xs,rfl,ha,r⟩:=I4.lst r3;refine⟨a,xs,rfl,SqL.of ha,h0,fun p hp=>?_⟩;obtain⟨I5,f5,r5⟩:=I4.newL hp (r.pick l u c);exact k _ _ _ I5 (f1.trans (f2.trans (f3.trans (f4.trans f5)))) r5
end M
namespace M
open L2 PySem PySem.Spec
open PyProof.Rows hiding St
noncomputable def cntS (lo hi st:Int):Nat:=if lo<hi then((hi-lo-1)/st+1).toNat else 0
noncomputable def Itrs (lo st:Int)(n:Nat):It:=⟨fun i _=>i<n,fun i H x H'=>H'=H/\x= .int (lo+i*st),fun i _=>n<=i⟩
theorem zon {P:Program}{w:World}{K:W.Frag}{tg:Expr}(it:Addr)(lo st:Int)(n:Nat):Turn P w K tg (Itrs lo st n) [it] it (fun i h=>IsRangeIter h it (lo+(i:Nat)*st) ((n:Int)-(i:Nat)) st) where
 mem:=by simp
 obj:=fun i h st b hb=>by
  have e:b=it:=by simpa using hb
  subst e;exact⟨_,st,fun v z=>by
   have z':Data.fields _=Data.cell v:=z;cases z'⟩
 keep:=fun i h h' st k=>k it (by simp) _ st
 item:=by
  intro X hP hw hK hc i pins s σ H E I hf st' hg;subst hP hw hK;obtain⟨f0,f1,f2,f3,f4,f5⟩:=hf it (by simp);have W:=Walks.range (prog:=X.prog) (w:=X.w) (I.ok.hd hc) it lo st n;refine W.item i s _ _ hg st' fun v h' tk hv st' kk=>?_
  obtain⟨t,rfl⟩:=hv;have I1:Inv X pins σ H {s with heap:=h',toks:=tk}:=I.turned (fun b o hb e=>kk b o (by simpa using hb) e) f0 f1 f3 f4 f5;exact⟨_,rfl,zrK (s:={s with heap:=h',toks:=tk}) (n:="range_iterator") st' rfl rfl (by decide) ⟨.int (lo+i*st),H,I1,⟨t,rfl⟩,⟨rfl,rfl⟩,st',fun b hb=>(hf b hb).1⟩⟩
 done:=by
  intro X hP hw hK hc i pins s σ H E I hf st' hg;subst hP hw hK;obtain⟨f0,f1,f2,f3,f4,f5⟩:=hf it (by simp);exact wpAny_pyNext_range_end (I.ok.hd hc) st' (by have:n<=i:=hg;lia) fun h' eb=>⟨rfl,I.turned (t':=s.toks) (fun b o hb e=>eb b o hb e) f0 f1 f3 f4 f5⟩
 self:=fun _ _ _ _ _ st h=>wpAny_pyIter_rangeiter st h
noncomputable def znH (lo st:Int)(n:Nat):List D:=(List.range n).map fun(i:Nat)=>D.int (lo+(i:Int)*st)
theorem zqg {K:W.Frag}{G:Hp}(lo st:Int)(n:Nat):Itm K (Itrs lo st n) G (znH lo st n) where
 go:=fun H i f hi=>by show i<n;simpa[znH]using hi
 yld:=fun H i x H' f y d e=>by
  obtain⟨rfl,rfl⟩:=y;unfold znH at e;rw[qaT]at e;cases q:(List.range n)[i]? with
  |none=>rw[q]at e;exact cNN e
  |some j=>
   rw[q]at e;have hj:j=i:=by
    have:=qap.mp q;obtain⟨h1,h2⟩:=this;simpa using h2.symm
   subst hj;cases e;exact .inl ⟨rfl,rfl⟩
 stop:=fun H i f hi=>by show n<=i;simpa[znH]using hi
theorem zm7 {j:Int}(h:zbL j=true): -(2^60)<=j/\j<2^60:=by
 unfold zbL at h;simp only[qa9,qbA]at h;lia
noncomputable def zk8 (lt:Int->Int->Bool)(ns:List Int):Int:=ns.getD (argBest (fun i j=>lt (ns.getD i 0) (ns.getD j 0)) (ns.length-1)) 0
noncomputable def rBest (K:W.Frag)(lt:Int->Int->Bool):List V->Hp->VK->Prop:=fun xs H Q=>∃(p:Addr) (ns:List Int),xs=[.ref p]/\ns≠[]/\(SqL K H p (ns.map V.int)\/SqT K H p (ns.map V.int))/\Q (.int (zk8 lt ns)) H
theorem zrl {X:Cx}(hc:X.calm=true):zje X (.builtin "max") (rBest X.K fun i j=>decide (i>j)):=by
 intro pins s σ H xs us Q I r h;obtain⟨p,ns,rfl,ne,hq,q⟩:=h;obtain⟨u,rfl,ru⟩:=znu r;cases ru;refine call_max_walk (ziS (A:=X.A.in1) (I.ok.hd hc) I hq fun its s₂ St rv W st hfp fin=>?_);have hl:=rv.length;rw[qaX]at hl;have hp:0<its.length:=by rw[<-hl];exact qbX.mpr ne
 refine⟨_,_,_,_,_,_,_,rfl,W,st,hfp,hp,CmpOf.ints_gt (fun i=>ns.getD i 0) (fun i v e=>zja rv e),fun v h' tk hP hk=>?_⟩;obtain⟨t,rfl⟩:=zja rv hP;refine⟨.int (zk8 _ ns),H,fin h' tk hk,⟨t,?_⟩,q⟩;unfold zk8;rw[hl]
theorem zsL {X:Cx}(hc:X.calm=true):zje X (.builtin "min") (rBest X.K fun i j=>decide (i<j)):=by
 intro pins s σ H xs us Q I r h;obtain⟨p,ns,rfl,ne,hq,q⟩:=h;obtain⟨u,rfl,ru⟩:=znu r;cases ru;refine call_min_walk (ziS (A:=X.A.in1) (I.ok.hd hc) I hq fun its s₂ St rv W st hfp fin=>?_);have hl:=rv.length;rw[qaX]at hl;have hp:0<its.length:=by rw[<-hl];exact qbX.mpr ne
 refine⟨_,_,_,_,_,_,_,rfl,W,st,hfp,hp,CmpOf.ints_lt (fun i=>ns.getD i 0) (fun i v e=>zja rv e),fun v h' tk hP hk=>?_⟩;obtain⟨t,rfl⟩:=zja rv hP;refine⟨.int (zk8 _ ns),H,fin h' tk hk,⟨t,?_⟩,q⟩;unfold zk8;rw[hl]
noncomputable def zoM (lt:Int->Int->Bool):List D->Option D
 |[d]=>(zaV [d]).bind fun ds=>(zby ds).bind fun ns=>if ns.isEmpty then none else some (.int (zk8 lt ns))
 |_=>none
theorem zr3 {X:Cx}(lt:Int->Int->Bool):VC X (rBest X.K lt) (zoM lt):=by
 intro B G H σ ρ xs ds d Q I r hf k
 match ds,hf with
 |[a],hf=>
  refine cBel hf fun es e1 hf=>?_
  refine cBel hf fun ns e2 hf=>?_
  split at hf
  ·exact cNN hf
  ·rename_i ne;cases hf;obtain⟨x,rfl,ra⟩:=r.one;obtain⟨p,ys,rfl,hq,ry⟩:=zmp I ra e1;rw[zg8 e2]at ry;rw[RepL.ints_eq ry]at hq;exact⟨p,ns,rfl,fun z=>ne (by rw[z];rfl),hq,k G H _ I (Fz.refl G) rfl⟩
 |[],hf=>exact cNN hf
 |_::_::_,hf=>exact cNN hf
noncomputable def zmu:List D->Option D:=zoM fun i j=>decide (i>j)
noncomputable def zlT:List D->Option D:=zoM fun i j=>decide (i<j)
theorem zrm {X:Cx}{e:Expr}{ma:MA}{p pos:Pos}(hc:X.calm=true)(ml:X.mg "max"=none)(ha:SA X [e] ma)(hg:Gl X "max":=by rfl)(he:starEach [e] X.env=(false,eval e X.env)::starEach [] X.env:=by rfl):SE X (.Call (.Name "max" p) [e] [] pos) (mC zmu ma):=
 zdX (zrl hc) (zr3 _) (by decide+kernel) ml ha hg (by decide) (by decide) he rfl
theorem zsr {X:Cx}{e:Expr}{ma:MA}{p pos:Pos}(hc:X.calm=true)(ml:X.mg "min"=none)(ha:SA X [e] ma)(hg:Gl X "min":=by rfl)(he:starEach [e] X.env=(false,eval e X.env)::starEach [] X.env:=by rfl):SE X (.Call (.Name "min" p) [e] [] pos) (mC zlT ma):=
 zdX (zsL hc) (zr3 _) (by decide+kernel) ml ha hg (by decide) (by decide) he rfl
noncomputable def oRep (ma mb:ME):MO:=fun ρ=>(ma ρ).bind fun p=>(mb p.2).bind fun q=>match p.1,q.1 with
 | .lst xs,.int k=>if zbL k&&decide (xs.length*k.toNat<=16777216)then some ((List.replicate k.toNat xs).flatten,q.2)else none
 |_,_=>none
theorem RepL.times {K:W.Frag}{G:Hp}{xs:List V}{ds:List D}(h:RepL K G xs ds):∀n:Nat,RepL K G (List.replicate n xs).flatten (List.replicate n ds).flatten
 |0=>RepL.nil
 |n+1=>by
  rw[qbf,qbg,qbf,qbg];exact h.append (h.times n)
theorem zpW {X:Cx}{a b:Expr}{ma mb:ME}{pos:Pos}(ha:SE X a ma)(hb:SE X b mb):SO X (.BinOp a .Mult b pos) (oRep ma mb):=by
 refine ha.el fun ta pa sa=>?_
 refine hb.el fun tb pb sb=>?_
 refine⟨_,pe_op op_rep pa pb,fun B G H σ ρ d ρ' Q I hm k=>?_⟩;refine zaJ hm fun x ρ1 e1 hm=>?_
 refine zaJ hm fun y ρ2 e2 hm=>?_
 refine sa B G H σ ρ x ρ1 _ I e1 fun G1 H1 v I1 f1 r1=>sb B G1 H1 σ ρ1 y ρ2 _ I1 e2 fun G2 H2 u I2 f2 r2=>?_
 dsimp only at hm
 split at hm
 ·rename_i xs n _;refine cIte hm fun hs hm=>?_
  obtain⟨rfl,rfl⟩:=cSp hm;simp only[qa9,qbA]at hs;cases(show u=V.int n from r2);obtain⟨l,ys,rfl,hl,r⟩:=I2.lst (r1.mono f2);have a1:=zdM hs.1;refine⟨l,n,ys,rfl,rfl,hl,by lia,by lia,by rw[r.length,qaI];exact hs.2,fun p hp=>?_⟩;obtain⟨I3,g3,h3,b3,n3⟩:=I2.newO hp (List.replicate n.toNat ys).flatten;exact k G2 _ p _ I3 (f1.trans f2) g3 h3 (r.times _) b3 n3
 ·exact cNN hm
end M
namespace M
open L2 PySem PySem.Spec
open PyProof.Rows hiding St
open Sem (wp)
variable {b N i k:Nat} {a it l:Addr} {t:Bool} {h h':Heap} {is xs ys:Array Value} {Q:Value->Shared->Prop}
theorem nin2 {b x y z:Nat}(h:b∈[x,y])(h1:x≠z)(h2:y≠z):b≠z:=by
 simp at h;rcases h with rfl|rfl<;>assumption
theorem nA {N a b:Nat}(h:a≠b):N+a≠N+b:=fun e=>h (qbY e)
theorem nB (h:0≠b):N≠N+b:=fun e=>h (qbY (show N+0=N+b from e))
theorem nC (h:b≠0):N+b≠N:=fun e=>h (qbY (show N+b=N+0 from e))
theorem nL {a N b:Nat}(h:a<N):a≠N+b:=qag (qae h (Nat.le_add_right _ _))
theorem ne_ {a b:Nat}(h:a≠b):a≠b:=h
local macro_rules | `(tactic| ac_rfl) => `(tactic| first | exact M.nA (by decide) | exact M.nB (by decide) | exact M.nC (by decide) | exact M.nL (by assumption) | exact Nat.ne_of_lt (by assumption) | lia)
noncomputable def SrcIt:Bool->Heap->Addr->Addr->Nat->Prop
 |true,h,it,a,i=>h.IsTupleIter it a i
 |false,h,it,a,i=>h.IsListIter it a i
noncomputable def SrcH:Bool->Heap->Addr->Array Value->Prop
 |true,h,a,its=>h.IsTuple a its
 |false,h,a,its=>h.IsList a its
theorem SrcIt.at (x:SrcIt t h it a i)(e:∀o,h.get? it=some o->h'.get? it=some o):SrcIt t h' it a i:=by
 cases t
 ·exact Heap.IsListIter.at x e
 ·exact Heap.IsTupleIter.at x e
theorem SrcH.at (x:SrcH t h a is)(e:∀o,h.get? a=some o->h'.get? a=some o):SrcH t h' a is:=by
 cases t
 ·exact Heap.IsList.at x e
 ·obtain⟨o,ho,r⟩:=x;exact⟨o,e _ ho,r⟩
theorem SrcIt.obj (x:SrcIt t h it a i):∃o,h.get? it=some o/\∀v,o.data≠ .cell v:=by
 cases t<;>(obtain⟨o,e,c,d⟩:=x;exact⟨o,e,fun v z=>by rw[d]at z;cases z⟩)
theorem SrcH.lt (x:SrcH t h a is):a<h.objs.size:=by
 cases t<;>(obtain⟨o,e,_⟩:=x;exact qad e)
section
variable {prog:Program} {w:World} {A:Around} {E:Value->Shared->Prop} {s:Shared}
theorem zpi {items}(hit:s.heap.IsTupleIter it l i)(hl:s.heap.IsTuple l items)
  (k : (∃ x, items[i]? = some x /\ ∀ h', h'.IsTupleIter it l (i + 1) -> Heap.SameBut it s.heap h' -> Q x { s with heap := h' }) \/
   (items[i]? =none/\A.handled=none/\∀h' e,Heap.ExtBut it s.heap h'->(∃o,h'.get? e=some o/\o.cls= .type "StopIteration")->E (.ref e) {s with heap:=h'})):
  wpAny (model prog w) A (Builtin.SmallTypes.nextOf (.ref it)) Q E s:=by
 obtain⟨o,ho,hc,hd⟩:=id hit;obtain⟨ol,hol,-,nl,hdl⟩:=hl;have ne:¬((Value.ref l==Value.none)=true):=qay;unfold Builtin.SmallTypes.nextOf;refine qav (qa6 (name:=Str.ofString "__next__") hit.typeIs slot_tupleiter_next (qa8 slot_tupleiter_next hit.typeIs entry_tupleiter_next ?_ (args_tupleiter_next _)));refine(?_:wpAny _ _ (field (.ref it) 0>>=_) _ _ s);refine qav (qa4 ho hd (x:= .ref l) rfl (?_:wpAny _ _ (if(Value.ref l==Value.none)=true then _ else _) _ _ s));rw[if_neg ne];refine(?_:wpAny _ _ (field (.ref it) 1>>=_) _ _ s);refine qav (qa4 ho hd (x:= .int i 0) rfl (?_:wpAny _ _ (seqItems? (.ref l)>>=_) _ _ s));refine qav (qbZ hol hdl ?_);rcases k with⟨x,hx,k⟩|⟨hx,hh,k⟩<;>simp only[qa2,hx]
 ·have upd:∀h':Heap,h'.get? it=some (o.mapFields fun a=>a.setIfInBounds 1 (rawInt (((i:Nat):Int)+1)))->h'.IsTupleIter it l (i+1):=fun h' e=>⟨_,e,(Obj.cls_mapFields ..).trans hc,by rw[qb0 hd];simp[rawInt]⟩
  refine qav (qb1 ho hd (by simp) (qaz ⟨x,rfl,qaz (k _ ?_ (qb2 ..))⟩));refine⟨_,qbd _ ho (Obj.isFreed_of_fields (qb0 hd _)),(Obj.cls_mapFields ..).trans hc,?_⟩;rw[qb0 hd];simp[rawInt]
 ·refine qav (qbV (qav (qb1 ho hd (by simp) (?_:wpAny _ _ (newExc (.type "StopIteration") []>>=_) _ _ _))));refine qav ?_;simp only[newExc,newTuple];refine qav (qba (qav (m:=firstArgMember _ _) (wpAny_of_eq (a:=Value.none) (by first|rfl|(simp only[firstArgMember];rfl)) (qba ?_ (by size_fits)))) (by size_fits));simp only[raiseNew];refine qav (wpAny_handled ?_)
  first|rw[show A.in1.handled=none from hh]|rw[hh]
  exact qav (qaz (wpAny_throw (k _ _ (((qb2 ..).extBut.push _).push _) ⟨_,qaD _ rfl,rfl⟩)))
theorem zbs (hh:A.handled=none)(it l:Addr)(hne:l≠it)(items:Array Value):Draws prog w A it [it,l] items.size (fun i v=>items[i]? =some v) (fun i h=>SrcIt t h it l i/\SrcH t h l items):=by
 cases t
 ·exact Draws.list hh it l hne items
 ·refine⟨fun _ _ st=>?_,fun _ _ _ st hk=>⟨SrcIt.at st.1 fun o e=>hk it (by simp) o e,SrcH.at st.2 fun o e=>hk l (by simp) o e⟩,fun i s Q E hi st hQ=>?_,fun s Q E st hE=>zpi st.1 st.2 (.inr ⟨by simp,hh,hE⟩)⟩
  ·obtain⟨o,e,-⟩:=SrcIt.obj st.1;exact⟨o,e⟩
  ·exact zpi st.1 st.2 (.inl ⟨items[i],by simp[hi],fun h' a b=>hQ _ h' s.toks (by simp[hi]) ⟨a,SrcH.at st.2 fun o e=>(b.2 l hne).trans e⟩ b⟩)
noncomputable def srcO (t:Bool)(a:Addr):Obj:={cls:= .type (if t then "tuple_iterator" else "list_iterator"),data:= .fields #[.ref a,.int 0 0]}
theorem zjF (e:h.get? it=some (srcO t a)):SrcIt t h it a 0:=by
 cases t<;>exact⟨_,e,rfl,rfl⟩
theorem zey (t:Bool)(a:Addr):(srcO t a).isFreed=false:=by cases t<;>rfl
theorem zcP {items}(hl:SrcH t s.heap a items)(hQ:Q (.ref s.heap.objs.size) {s with heap:=s.heap.push (srcO t a)}):
  wpAny (model prog w) A (pyIter (.ref a)) Q E s:=by
 cases t
 ·exact wpAny_pyIter_list hl hQ
 ·exact qaB hl hQ
noncomputable abbrev zer (h:Heap)(T:Addr)(a b c:Value):Prop:=h.get? T=some {cls:= .type "tuple",data:= .seq #[a,b,c]}
theorem zky {T:Addr}{a b c x:Value}{Q:Unit->Shared->Prop}(hT:zer s.heap T a b c)
  (h:∀h',h'.get? T=some {cls:= .type "tuple",data:= .seq ((#[a,b,c]:Array Value).setIfInBounds k x)}->Heap.SameBut T s.heap h'->Q () {s with heap:=h'}):
  wpAny (model prog w) A (updateSeq T (·.setIfInBounds k x)) Q E s:=
 wpAny_updateSeq hT rfl (h _ (by rw[qbd _ hT rfl];simp[Obj.mapSeq]) (qb2 ..))
section
variable {N a1 a2 a3:Nat} {n1 n2 n3:Nat} {P1 P2 P3:Nat->Value->Prop} {S1 S2 S3:Nat->Heap->Prop}
theorem zsz {a b c:Value}(D1:Draws prog w A N [N,a1] n1 P1 S1)(D2:Draws prog w A (N+1) [N+1,a2] n2 P2 S2)(D3:Draws prog w A (N+2) [N+2,a3] n3 P3 S3)(l1:a1<N)(l2:a2<N)(l3:a3<N)
  (hz:IsZip s.heap (N+5) (N+3) (N+4) .none) (hTI:zer s.heap (N+3) (.ref N) (.ref (N+1)) (.ref (N+2))) (hTO:zer s.heap (N+4) a b c) (h1:S1 i s.heap) (h2:S2 i s.heap) (h3:S3 i s.heap) (i1:i<n1) (i2:i<n2) (i3:i<n3)
  (k : ∀ x y z h' tk, P1 i x -> P2 i y -> P3 i z -> IsZip h' (N + 5) (N + 3) (N + 4) (rawInt s.heap.objs.size) -> zer h' (N + 4) x y z -> S1 (i + 1) h' -> S2 (i + 1) h' -> S3 (i + 1) h' -> zer h' s.heap.objs.size x y z ->
   (∀c o,c≠N->c≠N+1->c≠N+2->c≠N+4->c≠N+5->s.heap.get? c=some o->h'.get? c=some o)->Q (.ref s.heap.objs.size) {s with heap:=h',toks:=tk}):
  wpAny (model prog w) A (Builtin.«zip.__next__» ⟨[.ref (N+5)],[]⟩) (fun fin s'=>∃v,fin= .done (.ret v)/\Q v s') E s:=by
 refine(?_:wpAny _ _ (field (.ref (N+5)) 2>>=_) _ _ _);refine qav (qa4 hz rfl (x:= .bool false) rfl (?_:wpAny _ _ (field (.ref (N+5)) 3>>=_) _ _ _));refine qav (qa4 hz rfl (x:= .ref (N+3)) rfl (qav (qbZ hTI rfl (?_:wpAny _ _ (Builtin.SmallTypes.ownedTupleIsFree (.ref (N+5))>>=_) _ _ _))));refine qav ?_;unfold Builtin.SmallTypes.ownedTupleIsFree;refine qav (qa4 hz rfl (x:= .none) rfl (qaz ?_));simp only[if_true];refine qav (qbV (qav (qa4 hz rfl (x:= .ref (N+4)) rfl (qav (qb3 hz (by simp) fun g1 z1 s1=>qav ?_)))))
 replace z1:IsZip g1 (N+5) (N+3) (N+4) .ellipsis:=z1
 simp only[qb4,qb5,qbJ,qbP];refine qav (qav (qb6 (?_:wpAny _ _ (Builtin.SmallTypes.nextOf (.ref N)>>=_) _ _ _)));have e1:S1 i g1:=D1.frame _ _ _ h1 fun b hb o e=>(s1.2 b (nin2 hb (by ac_rfl) (by ac_rfl))).trans e
 refine qav (D1.item i _ _ _ i1 e1 fun x g2 t2 p1 f2 s2=>qaz ?_);have q2:zer g2 (N+4) a b c:=(s2.2 _ (ne_ (by ac_rfl))).trans ((s1.2 _ (ne_ (by ac_rfl))).trans hTO);refine qav (qbZ q2 rfl (qav (zky q2 fun g3 q3 s3=>qav (qb7 (qaz ?_)))))
 replace q3:zer g3 (N+4) x b c:=q3
 have k3:∀d o,d≠N->d≠N+4->d≠N+5->s.heap.get? d=some o->g3.get? d=some o:=fun d o c1 c2 c3 e=>(s3.2 d c2).trans ((s2.2 d c1).trans ((s1.2 d c3).trans e))
 refine qav (qav (qb6 (?_:wpAny _ _ (Builtin.SmallTypes.nextOf (.ref (N+1))>>=_) _ _ _)));have e3:S2 i g3:=D2.frame _ _ _ h2 fun b hb o e=>k3 b o (nin2 hb (by ac_rfl) (by ac_rfl)) (nin2 hb (by ac_rfl) (by ac_rfl)) (nin2 hb (by ac_rfl) (by ac_rfl)) e
 refine qav (D2.item i _ _ _ i2 e3 fun y g4 t4 p2 f4 s4=>qaz ?_);have q4:zer g4 (N+4) x b c:=(s4.2 _ (ne_ (by ac_rfl))).trans q3;refine qav (qbZ q4 rfl (qav (zky q4 fun g5 q5 s5=>qav (qb7 (qaz ?_)))))
 replace q5:zer g5 (N+4) x y c:=q5
 refine qav (qav (qb6 (?_:wpAny _ _ (Builtin.SmallTypes.nextOf (.ref (N+2))>>=_) _ _ _)));have e5:S3 i g5:=D3.frame _ _ _ h3 fun b hb o e=>(s5.2 b (nin2 hb (by ac_rfl) (by ac_rfl))).trans ((s4.2 b (nin2 hb (by ac_rfl) (by ac_rfl))).trans (k3 b o (nin2 hb (by ac_rfl) (by ac_rfl)) (nin2 hb (by ac_rfl) (by ac_rfl)) (nin2 hb (by ac_rfl) (by ac_rfl)) e))
 refine qav (D3.item i _ _ _ i3 e5 fun z g6 t6 p3 f6 s6=>qaz ?_);have q6:zer g6 (N+4) x y c:=(s6.2 _ (ne_ (by ac_rfl))).trans q5;refine qav (qbZ q6 rfl (qav (zky q6 fun g7 q7 s7=>qav (qb7 (qaz (qaz ?_))))))
 replace q7:zer g7 (N+4) x y z:=q7
 have sz:g7.objs.size=s.heap.objs.size:=by rw[s7.1,s6.1,s5.1,s4.1,s3.1,s2.1,s1.1]
 have z7:IsZip g7 (N+5) (N+3) (N+4) .ellipsis:=(s7.2 _ (ne_ (by ac_rfl))).trans ((s6.2 _ (ne_ (by ac_rfl))).trans ((s5.2 _ (ne_ (by ac_rfl))).trans ((s4.2 _ (ne_ (by ac_rfl))).trans ((s3.2 _ (ne_ (by ac_rfl))).trans ((s2.2 _ (ne_ (by ac_rfl))).trans z1)))));have zl:(N+5:Nat)<g7.objs.size:=qad z7;have k7:∀d o,d≠N->d≠N+1->d≠N+2->d≠N+4->d≠N+5->s.heap.get? d=some o->g7.get? d=some o:=fun d o c1 c2 c3 c4 c5 e=>(s7.2 d c4).trans ((s6.2 d c3).trans ((s5.2 d c4).trans ((s4.2 d c2).trans (k3 d o c1 c4 c5 e))))
 have f7:S1 (i+1) g7:=D1.frame _ _ _ f2 fun b hb o e=>(s7.2 b (nin2 hb (by ac_rfl) (by ac_rfl))).trans ((s6.2 b (nin2 hb (by ac_rfl) (by ac_rfl))).trans ((s5.2 b (nin2 hb (by ac_rfl) (by ac_rfl))).trans ((s4.2 b (nin2 hb (by ac_rfl) (by ac_rfl))).trans ((s3.2 b (nin2 hb (by ac_rfl) (by ac_rfl))).trans e))))
 have f7':S2 (i+1) g7:=D2.frame _ _ _ f4 fun b hb o e=>(s7.2 b (nin2 hb (by ac_rfl) (by ac_rfl))).trans ((s6.2 b (nin2 hb (by ac_rfl) (by ac_rfl))).trans ((s5.2 b (nin2 hb (by ac_rfl) (by ac_rfl))).trans e))
 have f7'':S3 (i+1) g7:=D3.frame _ _ _ f6 fun b hb o e=>(s7.2 b (nin2 hb (by ac_rfl) (by ac_rfl))).trans e
 refine qav (qbZ q7 rfl (qav (wpAny_newTuple (?_:wpAny _ _ (Builtin.SmallTypes.ownedTupleHandOut (.ref (N+5)) (.ref g7.objs.size)>>=_) _ _ _))));refine qav ?_;unfold Builtin.SmallTypes.ownedTupleHandOut;refine qav (qb3 (show IsZip (g7.push {cls:= .type "tuple",data:= .seq #[x,y,z]}) (N+5) (N+3) (N+4) .ellipsis from qaC _ z7) (by simp) fun g9 z9 s9=>?_)
 replace z9:IsZip g9 (N+5) (N+3) (N+4) (rawInt g7.objs.size):=z9
 refine qb3 z9 (by simp) fun g8 z8 s8=>qaz ⟨_,rfl,?_⟩
 replace z8:IsZip g8 (N+5) (N+3) (N+4) (rawInt g7.objs.size):=z8
 have up:∀c o,c≠N+5->g7.get? c=some o->g8.get? c=some o:=fun c o c1 e=>(s8.2 c c1).trans ((s9.2 c c1).trans (qaC _ e))
 have T8:zer g8 g7.objs.size x y z:=(s8.2 _ (ne_ (by ac_rfl))).trans ((s9.2 _ (ne_ (by ac_rfl))).trans (qaD _ rfl));rw[sz]at z8 T8;refine(?_:Q (.ref g7.objs.size) _);rw[sz];exact k x y z g8 _ p1 p2 p3 z8 (up _ _ (ne_ (by ac_rfl)) q7) (D1.frame _ _ _ f7 fun b hb o e=>up b o (nin2 hb (by ac_rfl) (by ac_rfl)) e) (D2.frame _ _ _ f7' fun b hb o e=>up b o (nin2 hb (by ac_rfl) (by ac_rfl)) e) (D3.frame _ _ _ f7'' fun b hb o e=>up b o (nin2 hb (by ac_rfl) (by ac_rfl)) e) T8 fun c o c1 c2 c3 c4 c5 e=>up c o c5 (k7 c o c1 c2 c3 c4 c5 e)
theorem zip3_end {a b c:Value}{Q:Fin->Shared->Prop}(D1:Draws prog w A N [N,a1] n1 P1 S1)(D2:Draws prog w A (N+1) [N+1,a2] n2 P2 S2)(D3:Draws prog w A (N+2) [N+2,a3] n3 P3 S3)(l1:a1<N)(l2:a2<N)(l3:a3<N)
  (hz:IsZip s.heap (N+5) (N+3) (N+4) .none) (hTI:zer s.heap (N+3) (.ref N) (.ref (N+1)) (.ref (N+2))) (hTO:zer s.heap (N+4) a b c) (h1:S1 i s.heap) (h2:S2 i s.heap) (h3:S3 i s.heap) (hi:i=n1\/(i<n1/\(i=n2\/(i<n2/\i=n3))))
  (k:∀h' e tk,(∀c o,c≠N->c≠N+1->c≠N+2->c≠N+4->c≠N+5->s.heap.get? c=some o->h'.get? c=some o)->(∃o,h'.get? e=some o/\o.cls= .type "StopIteration")->E (.ref e) {s with heap:=h',toks:=tk}):
  wpAny (model prog w) A (Builtin.«zip.__next__» ⟨[.ref (N+5)],[]⟩) Q E s:=by
 refine(?_:wpAny _ _ (field (.ref (N+5)) 2>>=_) _ _ _);refine qav (qa4 hz rfl (x:= .bool false) rfl (?_:wpAny _ _ (field (.ref (N+5)) 3>>=_) _ _ _));refine qav (qa4 hz rfl (x:= .ref (N+3)) rfl (qav (qbZ hTI rfl (?_:wpAny _ _ (Builtin.SmallTypes.ownedTupleIsFree (.ref (N+5))>>=_) _ _ _))));refine qav ?_;unfold Builtin.SmallTypes.ownedTupleIsFree;refine qav (qa4 hz rfl (x:= .none) rfl (qaz ?_));simp only[if_true];refine qav (qbV (qav (qa4 hz rfl (x:= .ref (N+4)) rfl (qav (qb3 hz (by simp) fun g1 z1 s1=>qav ?_)))))
 replace z1:IsZip g1 (N+5) (N+3) (N+4) .ellipsis:=z1
 simp only[qb4,qb5,qbJ,qbP];refine qav (qav (qb6 (?_:wpAny _ _ (Builtin.SmallTypes.nextOf (.ref N)>>=_) _ _ _)));have e1:S1 i g1:=D1.frame _ _ _ h1 fun b hb o e=>(s1.2 b (nin2 hb (by ac_rfl) (by ac_rfl))).trans e
 rcases hi with rfl|⟨i1,hi⟩
 ·refine qav (D1.done _ _ _ e1 fun g2 e x2 he=>?_);obtain⟨oe,hoe,hce⟩:=he;have z2:IsZip g2 (N+5) (N+3) (N+4) .ellipsis:=x2 _ _ (ne_ (by ac_rfl)) z1;have hez:e≠N+5:=fun x=>by subst x;rw[z2]at hoe;cases hoe;simp at hce
  exact qb3 z2 (by simp) fun g3 _ s3=>k g3 e _ (fun c o c1 c2 c3 c4 c5 x=>(s3.2 c c5).trans (x2 c o c1 ((s1.2 c c5).trans x))) ⟨oe,(s3.2 _ hez).trans hoe,hce⟩
 refine qav (D1.item i _ _ _ i1 e1 fun x g2 t2 p1 f2 s2=>qaz ?_);have q2:zer g2 (N+4) a b c:=(s2.2 _ (ne_ (by ac_rfl))).trans ((s1.2 _ (ne_ (by ac_rfl))).trans hTO);refine qav (qbZ q2 rfl (qav (zky q2 fun g3 q3 s3=>qav (qb7 (qaz ?_)))))
 replace q3:zer g3 (N+4) x b c:=q3
 have k3:∀d o,d≠N->d≠N+4->d≠N+5->s.heap.get? d=some o->g3.get? d=some o:=fun d o c1 c2 c3 e=>(s3.2 d c2).trans ((s2.2 d c1).trans ((s1.2 d c3).trans e))
 have z3:IsZip g3 (N+5) (N+3) (N+4) .ellipsis:=(s3.2 _ (ne_ (by ac_rfl))).trans ((s2.2 _ (ne_ (by ac_rfl))).trans z1);refine qav (qav (qb6 (?_:wpAny _ _ (Builtin.SmallTypes.nextOf (.ref (N+1))>>=_) _ _ _)));have e3:S2 i g3:=D2.frame _ _ _ h2 fun b hb o e=>k3 b o (nin2 hb (by ac_rfl) (by ac_rfl)) (nin2 hb (by ac_rfl) (by ac_rfl)) (nin2 hb (by ac_rfl) (by ac_rfl)) e
 rcases hi with rfl|⟨i2,rfl⟩
 ·refine qav (D2.done _ _ _ e3 fun g4 e x4 he=>?_);obtain⟨oe,hoe,hce⟩:=he;have z4:IsZip g4 (N+5) (N+3) (N+4) .ellipsis:=x4 _ _ (ne_ (by ac_rfl)) z3;have hez:e≠N+5:=fun x=>by subst x;rw[z4]at hoe;cases hoe;simp at hce
  exact qb3 z4 (by simp) fun g5 _ s5=>k g5 e _ (fun c o c1 c2 c3 c4 c5 x=>(s5.2 c c5).trans (x4 c o c2 (k3 c o c1 c4 c5 x))) ⟨oe,(s5.2 _ hez).trans hoe,hce⟩
 refine qav (D2.item i _ _ _ i2 e3 fun y g4 t4 p2 f4 s4=>qaz ?_);have q4:zer g4 (N+4) x b c:=(s4.2 _ (ne_ (by ac_rfl))).trans q3;refine qav (qbZ q4 rfl (qav (zky q4 fun g5 q5 s5=>qav (qb7 (qaz ?_)))));have z5:IsZip g5 (N+5) (N+3) (N+4) .ellipsis:=(s5.2 _ (ne_ (by ac_rfl))).trans ((s4.2 _ (ne_ (by ac_rfl))).trans z3);refine qav (qav (qb6 (?_:wpAny _ _ (Builtin.SmallTypes.nextOf (.ref (N+2))>>=_) _ _ _)));have e5:S3 i g5:=D3.frame _ _ _ h3 fun b hb o e=>(s5.2 b (nin2 hb (by ac_rfl) (by ac_rfl))).trans ((s4.2 b (nin2 hb (by ac_rfl) (by ac_rfl))).trans (k3 b o (nin2 hb (by ac_rfl) (by ac_rfl)) (nin2 hb (by ac_rfl) (by ac_rfl)) (nin2 hb (by ac_rfl) (by ac_rfl)) e))
 refine qav (D3.done _ _ _ e5 fun g6 e x6 he=>?_);obtain⟨oe,hoe,hce⟩:=he;have z6:IsZip g6 (N+5) (N+3) (N+4) .ellipsis:=x6 _ _ (ne_ (by ac_rfl)) z5;have hez:e≠N+5:=fun x=>by subst x;rw[z6]at hoe;cases hoe;simp at hce
 exact qb3 z6 (by simp) fun g7 _ s7=>k g7 e _ (fun c o c1 c2 c3 c4 c5 x=>(s7.2 c c5).trans (x6 c o c3 ((s5.2 c c4).trans ((s4.2 c c2).trans (k3 c o c1 c4 c5 x))))) ⟨oe,(s7.2 _ hez).trans hoe,hce⟩
end
end
noncomputable abbrev tup_ (vs:Array Value):Obj:={cls:= .type "tuple",data:= .seq vs}
noncomputable abbrev zip_ (ti to:Addr):Obj:={cls:= .type "zip",data:= .fields #[.none,.bool false,.bool false,.ref ti,.ref to]}
noncomputable abbrev z2a (h:Heap)(t1 t2:Bool)(l1 l2:Addr):Heap:=(h.push (srcO t1 l1)).push (srcO t2 l2)
noncomputable abbrev z2b (h:Heap)(t1 t2:Bool)(l1 l2:Addr):Heap:=(z2a h t1 t2 l1 l2).push (tup_ #[.ref h.objs.size,.ref (h.push (srcO t1 l1)).objs.size])
noncomputable abbrev z2c (h:Heap)(t1 t2:Bool)(l1 l2:Addr):Heap:=(z2b h t1 t2 l1 l2).push (tup_ #[.none,.none])
noncomputable abbrev z2d (h:Heap)(t1 t2:Bool)(l1 l2:Addr):Heap:=(z2c h t1 t2 l1 l2).push (zip_ (z2a h t1 t2 l1 l2).objs.size (z2b h t1 t2 l1 l2).objs.size)
theorem zqA (t1 t2:Bool)(l1 l2:Addr)(xs ys:Array Value):Meets (Builtin.«zip.__new__» ⟨[.type "zip",.ref l1,.ref l2],[]⟩) (fun _ R s=>SrcH t1 s.heap l1 xs/\SrcH t2 s.heap l2 ys/\
   R (.ok (.ret (.ref (z2c s.heap t1 t2 l1 l2).objs.size))) {s with heap:=z2d s.heap t1 t2 l1 l2}):=
 .of_wp fun prog w A R s h=>by
  obtain⟨hp,g,d,tk,os⟩:=s;obtain⟨b1,b2,h⟩:=h;have hsub:=sub_zip;have L1:SrcH t1 (Shared.heap ⟨hp,g,d,tk,os⟩) l1 xs:=b1;have L2:SrcH t2 (Shared.heap ⟨hp.push (srcO t1 l1),g,d,tk,os⟩) l2 ys:=SrcH.at b2 fun o e=>qaC _ e
  wp_walk using zcP L1,zcP L2
  exact⟨_,rfl,h⟩
noncomputable abbrev z3a (h:Heap)(t1 t2 t3:Bool)(l1 l2 l3:Addr):Heap:=((h.push (srcO t1 l1)).push (srcO t2 l2)).push (srcO t3 l3)
noncomputable abbrev z3b (h:Heap)(t1 t2 t3:Bool)(l1 l2 l3:Addr):Heap:=(z3a h t1 t2 t3 l1 l2 l3).push (tup_ #[.ref h.objs.size,.ref (h.push (srcO t1 l1)).objs.size,.ref ((h.push (srcO t1 l1)).push (srcO t2 l2)).objs.size])
noncomputable abbrev z3c (h:Heap)(t1 t2 t3:Bool)(l1 l2 l3:Addr):Heap:=(z3b h t1 t2 t3 l1 l2 l3).push (tup_ #[.none,.none,.none])
noncomputable abbrev z3d (h:Heap)(t1 t2 t3:Bool)(l1 l2 l3:Addr):Heap:=(z3c h t1 t2 t3 l1 l2 l3).push (zip_ (z3a h t1 t2 t3 l1 l2 l3).objs.size (z3b h t1 t2 t3 l1 l2 l3).objs.size)
set_option maxHeartbeats 4000000 in
theorem zqF (t1 t2 t3:Bool)(l1 l2 l3:Addr)(xs ys zs:Array Value):Meets (Builtin.«zip.__new__» ⟨[.type "zip",.ref l1,.ref l2,.ref l3],[]⟩) (fun _ R s=>SrcH t1 s.heap l1 xs/\SrcH t2 s.heap l2 ys/\SrcH t3 s.heap l3 zs/\
   R (.ok (.ret (.ref (z3c s.heap t1 t2 t3 l1 l2 l3).objs.size))) {s with heap:=z3d s.heap t1 t2 t3 l1 l2 l3}):=
 .of_wp fun prog w A R s h=>by
  obtain⟨hp,g,d,tk,os⟩:=s;obtain⟨b1,b2,b3,h⟩:=h;have hsub:=sub_zip;have L1:SrcH t1 (Shared.heap ⟨hp,g,d,tk,os⟩) l1 xs:=b1;have L2:SrcH t2 (Shared.heap ⟨hp.push (srcO t1 l1),g,d,tk,os⟩) l2 ys:=SrcH.at b2 fun o e=>qaC _ e
  have L3:SrcH t3 (Shared.heap ⟨(hp.push (srcO t1 l1)).push (srcO t2 l2),g,d,tk,os⟩) l3 zs:=SrcH.at b3 fun o e=>qaC _ (qaC _ e)
  wp_walk using zcP L1,zcP L2,zcP L3
  exact⟨_,rfl,h⟩
theorem zml (a b c:Value):checkTypeCall "zip" ⟨[a,b,c],[]⟩=pure ():=by kernel_rfl
theorem zmZ (a b c:Value):checkBuiltinCall "zip.__new__" ⟨[.type "zip",a,b,c],[]⟩=pure ():=by kernel_rfl
theorem zqi (a b c d:Value):argsOk "object.__init__" ⟨[a,b,c,d],[]⟩:=by
 unfold argsOk;rw[signature?_of (id:="object.__init__") (n:=['_','_','t','i','n','i','_','_']) (o:=['t','c','e','j','b','o']) (by kernel_rfl) F.owner_object];kernel_rfl
section
variable {prog:Program} {w:World} {A:Around} {E:Value->Shared->Prop} {s:Shared}
theorem zqP {t1 t2:Bool}{l1 l2:Addr}(h1:SrcH t1 s.heap l1 xs)(h2:SrcH t2 s.heap l2 ys)
  (k : ∀ h', IsZip h' (s.heap.objs.size + 4) (s.heap.objs.size + 2) (s.heap.objs.size + 3) .none -> IsPair h' (s.heap.objs.size + 2) (.ref s.heap.objs.size) (.ref (s.heap.objs.size + 1)) ->
   IsPair h' (s.heap.objs.size+3) .none .none->SrcIt t1 h' s.heap.objs.size l1 0->SrcIt t2 h' (s.heap.objs.size+1) l2 0->
   (∀c o,s.heap.get? c=some o->h'.get? c=some o)->Q (.ref (s.heap.objs.size+4)) {s with heap:=h'}):wpAny (model prog w) A (call (.type "zip") [.ref l1,.ref l2]) Q E s:=by
 refine callType_new F.called_zip (by decide) (F.typeCall_zip_2 _ _) (F.newCall_zip_2 _ _) (fun obj=>F.args_object_init_3 obj _ _) F.entry_zip_new (zqA t1 t2 l1 l2 xs ys) ⟨h1,h2,(?_:_/\_)⟩;have y1:(s.heap.push (srcO t1 l1)).objs.size=s.heap.objs.size+1:=qbO ..;have y2:(z2a s.heap t1 t2 l1 l2).objs.size=s.heap.objs.size+2:=by rw[qbO,y1]
 have y3:(z2b s.heap t1 t2 l1 l2).objs.size=s.heap.objs.size+3:=by rw[qbO,y2]
 have y4:(z2c s.heap t1 t2 l1 l2).objs.size=s.heap.objs.size+4:=by rw[qbO,y3]
 have g5:(z2d s.heap t1 t2 l1 l2).get? (z2c s.heap t1 t2 l1 l2).objs.size=some _:=qaD _ rfl;have g4:(z2d s.heap t1 t2 l1 l2).get? (z2b s.heap t1 t2 l1 l2).objs.size=some _:=qaC _ (qaD _ rfl);have g3:(z2d s.heap t1 t2 l1 l2).get? (z2a s.heap t1 t2 l1 l2).objs.size=some _:=qaC _ (qaC _ (qaD _ rfl));have g2:(z2d s.heap t1 t2 l1 l2).get? (s.heap.push (srcO t1 l1)).objs.size=some (srcO t2 l2):=qaC _ (qaC _ (qaC _ (qaD _ (zey ..))));have g1:(z2d s.heap t1 t2 l1 l2).get? s.heap.objs.size=some (srcO t1 l1):=qaC _ (qaC _ (qaC _ (qaC _ (qaD _ (zey ..)))));rw[y2,y3,y4]at g5;rw[y1,y2]at g3;rw[y3]at g4;rw[y1]at g2;rw[y4];exact⟨⟨_,g5,rfl⟩,k _ g5 g3 g4 (zjF g1) (zjF g2) fun c o x=>qaC _ (qaC _ (qaC _ (qaC _ (qaC _ x))))⟩
theorem zsR {t1 t2 t3:Bool}{l1 l2 l3:Addr}{xs ys zs:Array Value}(h1:SrcH t1 s.heap l1 xs)(h2:SrcH t2 s.heap l2 ys)(h3:SrcH t3 s.heap l3 zs)
  (k : ∀ h', IsZip h' (s.heap.objs.size + 5) (s.heap.objs.size + 3) (s.heap.objs.size + 4) .none -> zer h' (s.heap.objs.size + 3) (.ref s.heap.objs.size) (.ref (s.heap.objs.size + 1)) (.ref (s.heap.objs.size + 2)) ->
   zer h' (s.heap.objs.size+4) .none .none .none->SrcIt t1 h' s.heap.objs.size l1 0->SrcIt t2 h' (s.heap.objs.size+1) l2 0->SrcIt t3 h' (s.heap.objs.size+2) l3 0->
   (∀c o,s.heap.get? c=some o->h'.get? c=some o)->Q (.ref (s.heap.objs.size+5)) {s with heap:=h'}):wpAny (model prog w) A (call (.type "zip") [.ref l1,.ref l2,.ref l3]) Q E s:=by
 refine callType_new F.called_zip (by decide) (zml _ _ _) (zmZ _ _ _) (fun obj=>zqi obj _ _ _) F.entry_zip_new (zqF t1 t2 t3 l1 l2 l3 xs ys zs) ⟨h1,h2,h3,(?_:_/\_)⟩;have y1:(s.heap.push (srcO t1 l1)).objs.size=s.heap.objs.size+1:=qbO ..;have y2:((s.heap.push (srcO t1 l1)).push (srcO t2 l2)).objs.size=s.heap.objs.size+2:=by rw[qbO,y1]
 have y3:(z3a s.heap t1 t2 t3 l1 l2 l3).objs.size=s.heap.objs.size+3:=by rw[qbO,y2]
 have y4:(z3b s.heap t1 t2 t3 l1 l2 l3).objs.size=s.heap.objs.size+4:=by rw[qbO,y3]
 have y5:(z3c s.heap t1 t2 t3 l1 l2 l3).objs.size=s.heap.objs.size+5:=by rw[qbO,y4]
 have g6:(z3d s.heap t1 t2 t3 l1 l2 l3).get? (z3c s.heap t1 t2 t3 l1 l2 l3).objs.size=some _:=qaD _ rfl;have g5:(z3d s.heap t1 t2 t3 l1 l2 l3).get? (z3b s.heap t1 t2 t3 l1 l2 l3).objs.size=some _:=qaC _ (qaD _ rfl);have g4:(z3d s.heap t1 t2 t3 l1 l2 l3).get? (z3a s.heap t1 t2 t3 l1 l2 l3).objs.size=some _:=qaC _ (qaC _ (qaD _ rfl));have g3:(z3d s.heap t1 t2 t3 l1 l2 l3).get? ((s.heap.push (srcO t1 l1)).push (srcO t2 l2)).objs.size=some (srcO t3 l3):=qaC _ (qaC _ (qaC _ (qaD _ (zey ..))));have g2:(z3d s.heap t1 t2 t3 l1 l2 l3).get? (s.heap.push (srcO t1 l1)).objs.size=some (srcO t2 l2):=qaC _ (qaC _ (qaC _ (qaC _ (qaD _ (zey ..)))));have g1:(z3d s.heap t1 t2 t3 l1 l2 l3).get? s.heap.objs.size=some (srcO t1 l1):=qaC _ (qaC _ (qaC _ (qaC _ (qaC _ (qaD _ (zey ..))))));rw[y3,y4,y5]at g6;rw[y1,y2,y3]at g4;rw[y4]at g5;rw[y2]at g3;rw[y1]at g2;rw[y5];exact⟨⟨_,g6,rfl⟩,k _ g6 g4 g5 (zjF g1) (zjF g2) (zjF g3) fun c o x=>qaC _ (qaC _ (qaC _ (qaC _ (qaC _ (qaC _ x)))))⟩
noncomputable abbrev en_ (it:Addr):Obj:={cls:= .type "enumerate",data:= .fields #[.none,.bool false,.ref it,rawInt 0,.none,.none]}
theorem zqd (t:Bool)(l:Addr)(o:Obj)(xs:Array Value):Meets (Builtin.«enumerate.__new__» ⟨[.type "enumerate",.ref l],[]⟩) (fun _ R s=>s.heap.get? l=some o/\SrcH t s.heap l xs/\
   R (.ok (.ret (.ref (s.heap.push (srcO t l)).objs.size))) {s with heap:=(s.heap.push (srcO t l)).push (en_ s.heap.objs.size)}):=
 .of_wp fun prog w A R s h=>by
  obtain⟨hp,g,d,tk,os⟩:=s;obtain⟨hl,b,h⟩:=h;have hsub:=sub_enumerate;have hL:SrcH t (Shared.heap ⟨hp,g,d,tk,os⟩) l xs:=b
  wp_walk using qb8 hl
  refine wpAny_stack_any fun st=>qaz ?_
  split
  ·rename_i c _ _ _ _ _;cases(c==Value.type "enumerate")<;>(wp_walk using qb8 hl,zcP hL;exact⟨_,rfl,h⟩)
  ·wp_walk using qb8 hl,zcP hL
   exact⟨_,rfl,h⟩
theorem zsp (h1:SrcH t s.heap l xs)
  (k:∀h',IsEnum h' (s.heap.objs.size+1) s.heap.objs.size 0 .none->SrcIt t h' s.heap.objs.size l 0->(∀b o,s.heap.get? b=some o->h'.get? b=some o)->Q (.ref (s.heap.objs.size+1)) {s with heap:=h'}):
  wpAny (model prog w) A (call (.type "enumerate") [.ref l]) Q E s:=by
 have⟨o,ho⟩:∃o,s.heap.get? l=some o:=by cases t<;>(obtain⟨o,e,-⟩:=h1;exact⟨o,e⟩)
 refine callType_new F.called_enumerate (by decide) (F.typeCall_enumerate_1 _) (F.newCall_enumerate_1 _) (fun obj=>F.args_object_init_2 obj _) F.entry_enumerate_new (zqd t l o xs) ⟨ho,h1,(?_:_/\_)⟩;have y1:(s.heap.push (srcO t l)).objs.size=s.heap.objs.size+1:=qbO ..;have g2:((s.heap.push (srcO t l)).push (en_ s.heap.objs.size)).get? (s.heap.push (srcO t l)).objs.size=some _:=qaD _ rfl;have g1:((s.heap.push (srcO t l)).push (en_ s.heap.objs.size)).get? s.heap.objs.size=some (srcO t l):=qaC _ (qaD _ (zey ..));rw[y1]at g2;rw[y1];exact⟨⟨_,g2,rfl⟩,k _ g2 (zjF g1) fun b o x=>qaC _ (qaC _ x)⟩
end
end M
namespace M
local macro_rules | `(tactic| ac_rfl) => `(tactic| first | exact M.nA (by decide) | exact M.nB (by decide) | exact M.nC (by decide) | exact M.nL (by assumption) | exact Nat.ne_of_lt (by assumption) | lia)
open L2 PySem PySem.Spec
open PyProof.Rows hiding St
open Sem (wp)
variable {t' ek:Nat} {h':Heap} {fp:List Addr} {vs xs:List V} {its:List Value} {t:Bool} {X:Cx} {pins:List (Addr×Obj)} {σ:St} {H:Hp} {s:Shared} {a:Expr} {K:W.Frag} {elts:List Expr} {ep p pos:Pos} {ta:TA} {es:List D} {ma:MA}
section
variable {X:Cx} {pins:List (Addr×Obj)} {σ:St} {H:Hp} {s:Shared}
theorem zmA (I:Inv X pins σ H s)(k:∀b o,b∉fp->s.heap.get? b=some o->h'.get? b=some o)(hf:∀b∈fp,FpOk X pins H b):Inv X pins σ H {s with heap:=h',toks:=t'}:=by
 have nit:∀b u,H b=some u->b∉fp:=fun b u e z=>by rw[(hf b z).1]at e;exact cNN e
 refine I.step (g':=s.gens) (d':=s.drawn) (ch:=fp) (fun b hb=>?_) (fun b o _ _ hc e _=>k b o hc e) (fun b o _ _ hc e _=>⟨o.slots,k b o hc e⟩) (fun _ _ _ _ n=>n)
  (fun b o hc e=>⟨o,k b o hc e⟩) (fun _ _ e=>e) (fun _ _ _ e=>e) (fun b ps e=>⟨#[],by rw[e];simp⟩) (fun m hm=>?_) (fun b u e=>?_) I.bare
 ·obtain⟨f0,f1,f2,f3,f4,f5⟩:=hf b hb;exact⟨f3,f1,f4,f5⟩
 ·obtain⟨o,es,ep,ho,r⟩:=hm;exact⟨o,es,ep,k _ o (fun z=>(hf _ z).2.1 rfl) ho,r⟩
 ·refine(I.hok b u e).stay (fun c v hc q=>k c v ?_ q) (fun _ q=>q) fun _ _ q=>q
  rcases hc with z|z
  ·rw[z];exact nit b u e
  ·exact nit c _ z
theorem zoe {t':Nat}{h':Heap}{fp:List Addr}(I:Inv X pins σ H s)(k:∀b o,b∉fp->s.heap.get? b=some o->h'.get? b=some o)(hf:∀b∈fp,FpOk X pins H b)(hl:∀b∈fp,b<s.heap.objs.size)
  (hT:h'.get? s.heap.objs.size=some (tup_ its.toArray)) (hz:vs.length<=sizeLine) (r:Vals vs its):Inv X pins σ (upd H s.heap.objs.size (.tup vs)) {s with heap:=h',toks:=t'}:=by
 have I1:=I.laid (t':=s.toks) (a:=s.heap.objs.size) (o:= .tup vs) (h':=s.heap.push (tup_ its.toArray)) (fun b u q=>qaC _ q) (qaE _) ⟨hz,its,r,IsTup.new _ _⟩;refine zmA (s:={s with heap:=s.heap.push (tup_ its.toArray),toks:=s.toks}) (t':=t') (fp:=fp) I1 (fun b o hb e=>?_) fun b hb=>?_
 ·have e':(s.heap.push (tup_ its.toArray)).get? b=some o:=e;rcases Heap.get?_push_cases e' with⟨rfl,rfl⟩|q
  ·exact hT
  ·exact k b o hb q
 ·obtain⟨f0,fr⟩:=hf b hb;refine⟨?_,fr⟩;rw[zaw (qag (hl b hb))];exact f0
end
noncomputable def SrcSq (t:Bool)(K:W.Frag)(H:Hp)(a:Addr)(xs:List V):Prop:=match t with
 |true=>SqT K H a xs
 |false=>SqL K H a xs
theorem SrcSq.heap {a:Addr}(I:Inv X pins σ H s)(h:SrcSq t X.K H a xs):∃its:List Value,Vals xs its/\SrcH t s.heap a its.toArray/\xs.length<=sizeLine:=by
 cases t
 ·obtain⟨its,r,p,z⟩:=I.list h;exact⟨its,r,p.isList,z⟩
 ·obtain⟨its,r,p,z⟩:=I.tuple h;exact⟨its,r,p,z⟩
theorem SrcSq.inj {a:Addr}{xs ys:List V}(I:Inv X pins σ H s)(h:SrcSq t X.K H a xs)(h':SrcSq t X.K H a ys):xs=ys:=by
 cases t
 ·exact I.list_inj h h'
 ·exact I.tuple_inj h h'
noncomputable def Itz2 (K:W.Frag)(t1:Bool)(a1:Addr)(t2:Bool)(a2:Addr)(n:Nat):It where
 go:=fun i H=>i<n/\∃xs ys,SrcSq t1 K H a1 xs/\SrcSq t2 K H a2 ys/\n=min xs.length ys.length
 yld:=fun i H x H'=>∃p x1 x2,H p=none/\H'=upd H p (.tup [x1,x2])/\x= .ref p/\∀xs ys,SrcSq t1 K H a1 xs->SrcSq t2 K H a2 ys->xs[i]? =some x1/\ys[i]? =some x2
 stop:=fun i H=>n<=i/\∃xs ys,SrcSq t1 K H a1 xs/\SrcSq t2 K H a2 ys/\n=min xs.length ys.length
theorem nin4 {c N:Nat}(h:c∉([N,N+1,N+2,N+3,N+4]:List Nat)):c≠N/\c≠N+1/\c≠N+3/\c≠N+4:=
 ⟨fun e=>h (e ▸ .head _),fun e=>h (e ▸ .tail _ (.head _)),fun e=>h (e ▸ .tail _ (.tail _ (.tail _ (.head _)))),fun e=>h (e ▸ .tail _ (.tail _ (.tail _ (.tail _ (.head _)))))⟩
theorem nin5 {c N:Nat}(h:c∉([N,N+1,N+2,N+3,N+4,N+5]:List Nat)):c≠N/\c≠N+1/\c≠N+2/\c≠N+4/\c≠N+5:=
 ⟨fun e=>h (e ▸ .head _),fun e=>h (e ▸ .tail _ (.head _)),fun e=>h (e ▸ .tail _ (.tail _ (.head _))),fun e=>h (e ▸ .tail _ (.tail _ (.tail _ (.tail _ (.head _))))),fun e=>h (e ▸ .tail _ (.tail _ (.tail _ (.tail _ (.tail _ (.head _))))))⟩
noncomputable def Itz3 (K:W.Frag)(t1:Bool)(a1:Addr)(t2:Bool)(a2:Addr)(t3:Bool)(a3:Addr)(n:Nat):It where
 go:=fun i H=>i<n/\∃xs ys zs,SrcSq t1 K H a1 xs/\SrcSq t2 K H a2 ys/\SrcSq t3 K H a3 zs/\n=min xs.length (min ys.length zs.length)
 yld:=fun i H x H'=>∃p x1 x2 x3,H p=none/\H'=upd H p (.tup [x1,x2,x3])/\x= .ref p/\∀xs ys zs,SrcSq t1 K H a1 xs->SrcSq t2 K H a2 ys->SrcSq t3 K H a3 zs->xs[i]? =some x1/\ys[i]? =some x2/\zs[i]? =some x3
 stop:=fun i H=>n<=i/\∃xs ys zs,SrcSq t1 K H a1 xs/\SrcSq t2 K H a2 ys/\SrcSq t3 K H a3 zs/\n=min xs.length (min ys.length zs.length)
theorem zsJ {P:Program}{w:World}(t1:Bool)(a1:Nat)(t2:Bool)(a2:Nat)(t3:Bool)(a3:Nat)(n N:Nat)(l1:a1<N)(l2:a2<N)(l3:a3<N):
  Turn P w K (.Tuple elts ek ep) (Itz3 K t1 a1 t2 a2 t3 a3 n) ([N,N+1,N+2,N+3,N+4,N+5]:List Nat) (N+5:Nat)
   (fun i h=>i<=n/\IsZip h (N+5:Nat) (N+3:Nat) (N+4:Nat) .none/\zer h (N+3:Nat) (.ref N) (.ref (N+1:Nat)) (.ref (N+2:Nat))/\(∃a b c,zer h (N+4:Nat) a b c)/\SrcIt t1 h N a1 i/\SrcIt t2 h (N+1:Nat) a2 i/\SrcIt t3 h (N+2:Nat) a3 i) where
 mem:=by simp
 obj:=fun i h st b hb=>by
  obtain⟨-,h5,h3,⟨a,c,d,h4⟩,h0,h1,h2⟩:=st;simp only[qam,qb9,or_false]at hb;rcases hb with rfl|rfl|rfl|rfl|rfl|rfl
  ·exact h0.obj
  ·exact h1.obj
  ·exact h2.obj
  ·exact⟨_,h3,fun v z=>by cases z⟩
  ·exact⟨_,h4,fun v z=>by cases z⟩
  ·exact⟨_,h5,fun v z=>by cases z⟩
 keep:=fun i h h' st k=>by
  obtain⟨hi,h5,h3,⟨a,c,d,h4⟩,h0,h1,h2⟩:=st;exact⟨hi,k _ (by simp) _ h5,k _ (by simp) _ h3,⟨a,c,d,k _ (by simp) _ h4⟩,h0.at fun o e=>k _ (by simp) o e,h1.at fun o e=>k _ (by simp) o e,h2.at fun o e=>k _ (by simp) o e⟩
 item:=by
  intro X hP hw hK hc i pins s σ H E I hf st hg;subst hP hw hK;obtain⟨hi,h5,h3,⟨a,c,d,h4⟩,h0,h1,h2⟩:=st;obtain⟨hn,xs,ys,zs,q1,q2,q3,en⟩:=hg;obtain⟨us,ru,hu,zu⟩:=q1.heap I;obtain⟨ws,rw',hw',zw⟩:=q2.heap I;obtain⟨os,ro,ho',zo⟩:=q3.heap I;have lu:=ru.length;have lw:=rw'.length;have lo:=ro.length;have D1:=zbs (prog:=X.prog) (w:=X.w) (A:=X.A.in1) (t:=t1) (I.ok.hd hc) N a1 (ne_ (by ac_rfl)) us.toArray;have D2:=zbs (prog:=X.prog) (w:=X.w) (A:=X.A.in1) (t:=t2) (I.ok.hd hc) (N+1) a2 (ne_ (by ac_rfl)) ws.toArray;have D3:=zbs (prog:=X.prog) (w:=X.w) (A:=X.A.in1) (t:=t3) (I.ok.hd hc) (N+2) a3 (ne_ (by ac_rfl)) os.toArray;have hT:s.TypeIs (.ref (N+5:Nat)) "zip":=⟨_,h5,rfl⟩;unfold pyNext;refine qav (qca (qa6 (name:=Str.ofString "__next__") hT qcb (qa8 qcb hT qcc
   (zsz D1 D2 D3 l1 l2 l3 h5 h3 h4 ⟨h0,hu⟩ ⟨h1,hw'⟩ ⟨h2,ho'⟩ (by simp;lia) (by simp;lia) (by simp;lia) fun x y z h' tk p1 p2 p3 g5 g4 g0 g1 g2 gT kk=>qaz ?_) (qcd _))))
  obtain⟨x1,hx1⟩:∃x1,xs[i]? =some x1:=⟨xs[i]'(by lia),qbF _⟩;obtain⟨x2,hx2⟩:∃x2,ys[i]? =some x2:=⟨ys[i]'(by lia),qbF _⟩;obtain⟨x3,hx3⟩:∃x3,zs[i]? =some x3:=⟨zs[i]'(by lia),qbF _⟩;obtain⟨u1,hu1,r1⟩:=ru.get hx1;obtain⟨u2,hu2,r2⟩:=rw'.get hx2;obtain⟨u3,hu3,r3⟩:=ro.get hx3;have e1:u1=x:=by
   have:us[i]? =some x:=by simpa using p1
   rw[hu1]at this;cases this;rfl
  have e2:u2=y:=by
   have:ws[i]? =some y:=by simpa using p2
   rw[hu2]at this;cases this;rfl
  have e3:u3=z:=by
   have:os[i]? =some z:=by simpa using p3
   rw[hu3]at this;cases this;rfl
  subst e1 e2 e3;refine⟨_,rfl,wpAny_letOwnedTupleGo_zip (s:={s with heap:=h',toks:=tk}) g5 fun h'' g5' sb=>?_⟩
  replace sb:Heap.SameBut (N+5:Nat) h' h'':=sb
  have lz:N+5<s.heap.objs.size:=qad h5;have kk':∀b o,b∉([N,N+1,N+2,N+3,N+4,N+5]:List Nat)->s.heap.get? b=some o->h''.get? b=some o:=fun b o hb e=>by
   obtain⟨c1,c2,c3,c4,c5⟩:=nin5 hb;exact(sb.2 b c5).trans (kk b o c1 c2 c3 c4 c5 e)
  have I1:=zoe (t':=tk) (vs:=[x1,x2,x3]) (its:=[u1,u2,u3]) I kk' hf (fun b hb=>by
   have:b=N\/b=N+1\/b=N+2\/b=N+3\/b=N+4\/b=N+5:=by simpa using hb
   exact qbG (show(b:Nat)<=N+5 by rcases this with h|h|h|h|h|h<;>rw[h]<;>simp) lz) ((sb.2 _ (ne_ (by ac_rfl))).trans gT) (by simp;rw[qaI];decide) (.cons r1 (.cons r2 (.cons r3 .nil)))
  refine⟨.ref s.heap.objs.size,_,I1,rfl,⟨_,x1,x2,x3,I.hok.fresh (qaE _),rfl,rfl,fun xs' ys' zs' b1 b2 b3=>?_⟩,⟨hn,g5',(sb.2 _ (ne_ (by ac_rfl))).trans (kk _ _ (ne_ (by ac_rfl)) (ne_ (by ac_rfl)) (ne_ (by ac_rfl)) (ne_ (by ac_rfl)) (ne_ (by ac_rfl)) h3),⟨_,_,_,(sb.2 _ (ne_ (by ac_rfl))).trans g4⟩,SrcIt.at g0.1 fun o e=>(sb.2 _ (ne_ (by ac_rfl))).trans e,SrcIt.at g1.1 fun o e=>(sb.2 _ (ne_ (by ac_rfl))).trans e,SrcIt.at g2.1 fun o e=>(sb.2 _ (ne_ (by ac_rfl))).trans e⟩,fun b hb=>?_⟩
  ·rw[SrcSq.inj I b1 q1,SrcSq.inj I b2 q2,SrcSq.inj I b3 q3];exact⟨hx1,hx2,hx3⟩
  ·have:b=N\/b=N+1\/b=N+2\/b=N+3\/b=N+4\/b=N+5:=by simpa using hb
   rw[zaw (qag (qbG (show(b:Nat)<=N+5 by rcases this with h|h|h|h|h|h<;>rw[h]<;>simp) lz))]
   exact(hf b hb).1
 done:=by
  intro X hP hw hK hc i pins s σ H E I hf st hg;subst hP hw hK;obtain⟨hi,h5,h3,⟨a,c,d,h4⟩,h0,h1,h2⟩:=st;obtain⟨hn,xs,ys,zs,q1,q2,q3,en⟩:=hg;obtain⟨us,ru,hu,zu⟩:=q1.heap I;obtain⟨ws,rw',hw',zw⟩:=q2.heap I;obtain⟨os,ro,ho',zo⟩:=q3.heap I;have lu:=ru.length;have lw:=rw'.length;have lo:=ro.length;have D1:=zbs (prog:=X.prog) (w:=X.w) (A:=X.A.in1) (t:=t1) (I.ok.hd hc) N a1 (ne_ (by ac_rfl)) us.toArray;have D2:=zbs (prog:=X.prog) (w:=X.w) (A:=X.A.in1) (t:=t2) (I.ok.hd hc) (N+1) a2 (ne_ (by ac_rfl)) ws.toArray;have D3:=zbs (prog:=X.prog) (w:=X.w) (A:=X.A.in1) (t:=t3) (I.ok.hd hc) (N+2) a3 (ne_ (by ac_rfl)) os.toArray;have hT:s.TypeIs (.ref (N+5:Nat)) "zip":=⟨_,h5,rfl⟩;unfold pyNext;refine qav (qca (qa6 (name:=Str.ofString "__next__") hT qcb (qa8 qcb hT qcc
   (zip3_end D1 D2 D3 l1 l2 l3 h5 h3 h4 ⟨h0,hu⟩ ⟨h1,hw'⟩ ⟨h2,ho'⟩ (by simp;lia) fun h' e tk kk he=>?_) (qcd _))))
  obtain⟨o,ho,hce⟩:=he;refine qav (wpAny_isInstance (T:="StopIteration") (b:=true) ⟨o,ho,hce⟩ isSubtype_stop (qaz ⟨rfl,zmA I (fun b o hb e=>?_) hf⟩));obtain⟨c1,c2,c3,c4,c5⟩:=nin5 hb;exact kk b o c1 c2 c3 c4 c5 e
 self:=fun _ _ _ _ _ st h=>wpAny_pyIter_zip st.2.1 h
noncomputable def Ite (K:W.Frag)(t1:Bool)(a1:Addr)(n:Nat):It where
 go:=fun i H=>i<n/\∃xs,SrcSq t1 K H a1 xs/\n=xs.length
 yld:=fun i H x H'=>∃p x1,H p=none/\H'=upd H p (.tup [.int i,x1])/\x= .ref p/\∀xs,SrcSq t1 K H a1 xs->xs[i]? =some x1
 stop:=fun i H=>n<=i/\∃xs,SrcSq t1 K H a1 xs/\n=xs.length
theorem zsb {P:Program}{w:World}(t1:Bool)(a1:Nat)(n N:Nat)(l1:a1<N):
  Turn P w K (.Tuple elts ek ep) (Ite K t1 a1 n) ([N+1,N]:List Nat) (N+1:Nat) (fun i h=>i<=n/\(∃old,IsEnum h (N+1:Nat) N i old)/\SrcIt t1 h N a1 i) where
 mem:=by simp
 obj:=fun i h st b hb=>by
  obtain⟨-,⟨old,h1⟩,h0⟩:=st;simp only[qam,qb9,or_false]at hb;rcases hb with rfl|rfl
  ·exact⟨_,h1,fun v z=>by cases z⟩
  ·exact h0.obj
 keep:=fun i h h' st k=>by
  obtain⟨hi,⟨old,h1⟩,h0⟩:=st;exact⟨hi,⟨old,k _ (by simp) _ h1⟩,h0.at fun o e=>k _ (by simp) o e⟩
 item:=by
  intro X hP hw hK hc i pins s σ H E I hf st hg;subst hP hw hK;obtain⟨hi,⟨old,h1⟩,h0⟩:=st;obtain⟨hn,xs,q1,en⟩:=hg;obtain⟨us,ru,hu,zu⟩:=q1.heap I;have lu:=ru.length;have D1:=zbs (prog:=X.prog) (w:=X.w) (A:=X.A.in1) (t:=t1) (I.ok.hd hc) N a1 (ne_ (by ac_rfl)) us.toArray;refine wpAny_pyNext_enum_itemD D1 h1 ⟨h0,hu⟩ (by simp;lia) (ne_ (by ac_rfl)) (fun z=>nin2 (z:=N+1) z (by lia) (by lia) rfl) fun x h' tk p1 ho g0 gT gz kk=>?_
  obtain⟨x1,hx1⟩:∃x1,xs[i]? =some x1:=⟨xs[i]'(by lia),qbF _⟩;obtain⟨u1,hu1,r1⟩:=ru.get hx1;have e1:u1=x:=by
   have:us[i]? =some x:=by simpa using p1
   rw[hu1]at this;cases this;rfl
  subst e1;refine⟨_,rfl,wpAny_letOwnedTupleGo_enum (s:={s with heap:=h',toks:=tk+1}) ho fun h'' he' sb=>?_⟩
  replace sb:Heap.SameBut (N+1:Nat) h' h'':=sb
  have lz:N+1<s.heap.objs.size:=qad h1;have kk':∀b o,b∉([N+1,N]:List Nat)->s.heap.get? b=some o->h''.get? b=some o:=fun b o hb e=>
   (sb.2 b fun z=>hb (by simp[z])).trans (kk b o (fun z=>hb (by simp[z])) (fun z=>hb (by simp[z])) e)
  have I1:=zoe (t':=tk+1) (vs:=[.int i,x1]) (its:=[.int i tk,u1]) I kk' hf (fun b hb=>by
   have:b=N+1\/b=N:=by simpa using hb
   exact qbG (show(b:Nat)<=N+1 by rcases this with h|h<;>rw[h]<;>simp) lz) ((sb.2 _ (ne_ (by ac_rfl))).trans gT) (by simp;rw[qaI];decide) (.cons ⟨_,rfl⟩ (.cons r1 .nil))
  refine⟨.ref s.heap.objs.size,_,I1,rfl,⟨_,x1,I.hok.fresh (qaE _),rfl,rfl,fun xs' b1=>?_⟩,⟨hn,⟨_,by simpa using he'⟩,SrcIt.at g0.1 fun o e=>(sb.2 _ (ne_ (by ac_rfl))).trans e⟩,fun b hb=>?_⟩
  ·rw[SrcSq.inj I b1 q1];exact hx1
  ·have:b=N+1\/b=N:=by simpa using hb
   rw[zaw (qag (qbG (show(b:Nat)<=N+1 by rcases this with h|h<;>rw[h]<;>simp) lz))]
   exact(hf b hb).1
 done:=by
  intro X hP hw hK hc i pins s σ H E I hf st hg;subst hP hw hK;obtain⟨hi,⟨old,h1⟩,h0⟩:=st;obtain⟨hn,xs,q1,en⟩:=hg;obtain⟨us,ru,hu,zu⟩:=q1.heap I;have lu:=ru.length;have D1:=zbs (prog:=X.prog) (w:=X.w) (A:=X.A.in1) (t:=t1) (I.ok.hd hc) N a1 (ne_ (by ac_rfl)) us.toArray;have W:=WalksT.enumerateD D1 (N+1:Nat) (ne_ (by ac_rfl)) (fun z=>nin2 (z:=N+1) z (by lia) (by lia) rfl) (by simp);have ei:i=us.toArray.size:=by simp;lia
  subst ei;exact W.done s _ _ ⟨⟨old,h1⟩,h0,hu⟩ fun h' tk kk=>⟨rfl,zmA I kk hf⟩
 self:=fun _ _ _ _ _ st h=>by
  obtain⟨hi,⟨old,h1⟩,h0⟩:=st;exact wpAny_pyIter_enum h1 h
theorem zo0:bootBuiltins "zip"=some (.type "zip"):=by decide+kernel
theorem zld:bootBuiltins "enumerate"=some (.type "enumerate"):=by decide+kernel
section
variable {X:Cx} {elts:List Expr} {ek:Nat} {ep:Pos}
theorem pi_zip3 {a b c:Expr}(hg:Gl X "zip")(hm:X.mg "zip"=none)(ha:PA X [a,b,c] ta)(hs:starEach [a,b,c] X.env=(false,eval a X.env)::starEach [b,c] X.env:=by rfl)(hs2:(backTo pos (starEach [b,c] X.env)).any (·.1)=false:=by rfl):
  PI X (.Tuple elts ek ep) (.Call (.Name "zip" p) [a,b,c] [] pos) (fun σ H R=>ta σ H fun vs H1=>∃t1 a1 xs t2 a2 ys t3 a3 zs,vs=[.ref a1,.ref a2,.ref a3]/\SrcSq t1 X.K H1 a1 xs/\SrcSq t2 X.K H1 a2 ys/\SrcSq t3 X.K H1 a3 zs/\R (Itz3 X.K t1 a1 t2 a2 t3 a3 (min xs.length (min ys.length zs.length))) H1):=by
 intro pins s σ H R I h;refine Call_ (zj3 I hg hm zo0 (qaF (thn (ha pos pins s σ H _ I h) fun us s1 ⟨vs,H1,I1,r1,q1⟩=>?_) hs hs2));obtain⟨t1,a1,xs,t2,a2,ys,t3,a3,zs,e,q1,q2,q3,q⟩:=q1;subst e;cases r1 with
 |cons r rr=>
  cases rr with
  |cons r' rr=>
   cases rr with
   |cons r'' rr=>
    cases rr;cases r;cases r';cases r'';obtain⟨us,ru,hu,-⟩:=q1.heap I1;obtain⟨ws,rw',hw',-⟩:=q2.heap I1;obtain⟨os,ro,ho',-⟩:=q3.heap I1;refine zsR hu hw' ho' fun h' g5 g3 g4 g0 g1 g2 kk=>wpAny_pyIter_zip g5 ⟨_,_,_,_,H1,rfl,I1.kept (t':=s1.toks) kk,zsJ t1 a1 t2 a2 t3 a3 (min xs.length (min ys.length zs.length)) s1.heap.objs.size hu.lt hw'.lt ho'.lt,⟨qbB _,g5,g3,⟨_,_,_,g4⟩,g0,g1,g2⟩,fun b hb=>?_,q⟩
    have:b=s1.heap.objs.size\/b=s1.heap.objs.size+1\/b=s1.heap.objs.size+2\/b=s1.heap.objs.size+3\/b=s1.heap.objs.size+4\/b=s1.heap.objs.size+5:=by simpa using hb
    have le:s1.heap.objs.size<=b:=by rcases this with h|h|h|h|h|h<;>rw[h]<;>simp
    exact I1.fpOk le (I1.hok.fresh le)
theorem pi_enum (hg:Gl X "enumerate")(hm:X.mg "enumerate"=none)(ha:PA X [a] ta)(hs:starEach [a] X.env=(false,eval a X.env)::starEach [] X.env:=by rfl)(hs2:(backTo pos (starEach [] X.env)).any (·.1)=false:=by rfl):
  PI X (.Tuple elts ek ep) (.Call (.Name "enumerate" p) [a] [] pos) (fun σ H R=>ta σ H fun vs H1=>∃t1 a1 xs,vs=[.ref a1]/\SrcSq t1 X.K H1 a1 xs/\R (Ite X.K t1 a1 xs.length) H1):=by
 intro pins s σ H R I h;refine Call_ (zj3 I hg hm zld (qaF (thn (ha pos pins s σ H _ I h) fun us s1 ⟨vs,H1,I1,r1,q1⟩=>?_) hs hs2));obtain⟨t1,a1,xs,e,q1,q⟩:=q1;subst e;cases r1 with
 |cons r rr=>
  cases rr;cases r;obtain⟨us,ru,hu,-⟩:=q1.heap I1;refine zsp hu fun h' g1 g0 kk=>wpAny_pyIter_enum g1 ⟨_,_,_,_,H1,rfl,I1.kept (t':=s1.toks) kk,zsb t1 a1 xs.length s1.heap.objs.size hu.lt,⟨qbB _,⟨_,g1⟩,g0⟩,fun b hb=>?_,q⟩
  have:b=s1.heap.objs.size+1\/b=s1.heap.objs.size:=by simpa using hb
  have le:s1.heap.objs.size<=b:=by rcases this with h|h<;>rw[h]<;>simp
  exact I1.fpOk le (I1.hok.fresh le)
end
theorem zlI {G:Hp}{x:V}{d:D}(r:RepD K G x d)(e:zaV [d]=some es):∃t a xs,x= .ref a/\(∀H,Fz G H->SrcSq t K H a xs)/\RepL K G xs es:=by
 cases d<;>simp only[zaV]at e<;>try cases e
 ·obtain⟨a,xs,rfl,ha,r⟩:=r;exact⟨false,a,xs,rfl,fun H f=>SqL.of (f _ _ ha),r⟩
 ·obtain⟨a,xs,rfl,ha,r⟩:=r;exact⟨true,a,xs,rfl,fun H f=>SqT.of (f _ _ ha),r⟩
 ·obtain⟨a,rfl,ha⟩:=r;exact⟨false,a,_,rfl,fun H f=>f.sql ha,RepL.ints _⟩
noncomputable def zoF (xs ys:List D):List D:=List.zipWith (fun x y=>D.tup [x,y]) xs ys
noncomputable def zow (xs ys zs:List D):List D:=List.zipWith (fun x (p:D×D)=>D.tup [x,p.1,p.2]) xs (List.zip ys zs)
noncomputable def zoH (xs:List D):List D:=List.zipWith (fun x (i:Nat)=>D.tup [.int i,x]) xs (List.range xs.length)
noncomputable def iZ2 (ma:MA):MA:=fun ρ=>(ma ρ).bind fun p=>match p.1 with
 |[a,b]=>(zaV [a]).bind fun xs=>(zaV [b]).bind fun ys=>some (zoF xs ys,p.2)
 |_=>none
noncomputable def iZ3 (ma:MA):MA:=fun ρ=>(ma ρ).bind fun p=>match p.1 with
 |[a,b,c]=>(zaV [a]).bind fun xs=>(zaV [b]).bind fun ys=>(zaV [c]).bind fun zs=>some (zow xs ys zs,p.2)
 |_=>none
noncomputable def iEn (ma:MA):MA:=fun ρ=>(ma ρ).bind fun p=>(zaV p.1).map fun xs=>(zoH xs,p.2)
theorem zoD {a b c:Expr}(hm:X.mg "zip"=none)(ha:SA X [a,b,c] ma)(hg:Gl X "zip":=by rfl)(hs:starEach [a,b,c] X.env=(false,eval a X.env)::starEach [b,c] X.env:=by rfl)(hs2:(backTo pos (starEach [b,c] X.env)).any (·.1)=false:=by rfl):
  SIt X (.Tuple elts ek ep) (.Call (.Name "zip" p) [a,b,c] [] pos) (iZ3 ma):=by
 refine ha.el fun t pa sa=>?_
 refine⟨_,pi_zip3 hg hm pa hs hs2,fun B G H σ ρ ds ρ' Q I hm k=>?_⟩;refine zaJ hm fun es ρ1 e1 h2=>?_
 dsimp only at h2;refine sa B G H σ ρ es ρ1 _ I e1 fun G1 H1 vs I1 f1 r1=>?_
 split at h2
 ·refine cBel h2 fun xs ex h2=>?_
  refine cBel h2 fun ys ey h2=>?_
  refine cBel h2 fun zs ez h2=>?_
  obtain⟨rfl,rfl⟩:=cSp h2;obtain⟨x,us,rfl,rx,r2⟩:=r1;obtain⟨y,ws,rfl,ry,r3⟩:=r2;obtain⟨z,os,rfl,rz,r4⟩:=r3;cases(show os=[]from r4);obtain⟨t1,a1,us,rfl,s1,c1⟩:=zlI rx ex;obtain⟨t2,a2,ws,rfl,s2,c2⟩:=zlI ry ey;obtain⟨t3,a3,os,rfl,s3,c3⟩:=zlI rz ez;have n1:=c1.length;have n2:=c2.length;have n3:=c3.length;refine⟨t1,a1,us,t2,a2,ws,t3,a3,os,rfl,s1 _ I1.fz,s2 _ I1.fz,s3 _ I1.fz,k _ G1 H1 I1 f1 ⟨fun H i f hi=>?_,fun H i x H' f y d e=>?_,fun H i f hi=>?_⟩⟩
  ·exact⟨by simp[zow]at hi;lia,us,ws,os,s1 _ f,s2 _ f,s3 _ f,rfl⟩
  ·obtain⟨p,x1,x2,x3,hp,eh,ex',q⟩:=y;obtain⟨q1,q2,q3⟩:=q us ws os (s1 _ f) (s2 _ f) (s3 _ f);simp only[zow,List.zip,qce]at e;have hi:i<us.length/\i<ws.length/\i<os.length:=⟨(qap.mp q1).1,(qap.mp q2).1,(qap.mp q3).1⟩;have g1:xs[i]? =some (xs[i]'(by lia)):=qbF _;have g2:ys[i]? =some (ys[i]'(by lia)):=qbF _;have g3:zs[i]? =some (zs[i]'(by lia)):=qbF _;rw[g1,g2,g3]at e;cases e;obtain⟨v1,b1,r1⟩:=c1.get g1;obtain⟨v2,b2,r2⟩:=c2.get g2;obtain⟨v3,b3,r3⟩:=c3.get g3;rw[q1]at b1;cases b1;rw[q2]at b2;cases b2;rw[q3]at b3;cases b3;exact .inr ⟨p,_,_,hp,eh,ex',rfl,⟨_,_,rfl,r1,_,_,rfl,r2,_,_,rfl,r3,rfl⟩⟩
  ·exact⟨by simp[zow]at hi;lia,us,ws,os,s1 _ f,s2 _ f,s3 _ f,rfl⟩
 ·exact cNN h2
theorem zdq (hm:X.mg "enumerate"=none)(ha:SA X [a] ma)(hg:Gl X "enumerate":=by rfl)(hs:starEach [a] X.env=(false,eval a X.env)::starEach [] X.env:=by rfl)(hs2:(backTo pos (starEach [] X.env)).any (·.1)=false:=by rfl):
  SIt X (.Tuple elts ek ep) (.Call (.Name "enumerate" p) [a] [] pos) (iEn ma):=by
 refine ha.el fun t pa sa=>?_
 refine⟨_,pi_enum hg hm pa hs hs2,fun B G H σ ρ ds ρ' Q I hm k=>?_⟩;refine zaJ hm fun es ρ1 e1 h2=>?_
 refine cMel h2 fun xs ex h2=>?_
 cases h2;refine sa B G H σ ρ es ρ1 _ I e1 fun G1 H1 vs I1 f1 r1=>?_
 match es,ex,r1 with
 |[],ex,_=>exact cNN ex
 |_::_::_,ex,_=>exact absurd ex (by simp[zaV])
 |[d],ex,r1=>
  obtain⟨x,rfl,rx⟩:=r1.one;obtain⟨t1,a1,us,rfl,s1,c1⟩:=zlI rx ex;have n1:=c1.length;refine⟨t1,a1,us,rfl,s1 _ I1.fz,k _ G1 H1 I1 f1 ⟨fun H i f hi=>?_,fun H i x H' f y d e=>?_,fun H i f hi=>?_⟩⟩
  ·exact⟨by simp[zoH]at hi;lia,us,s1 _ f,rfl⟩
  ·obtain⟨p,x1,hp,eh,ex',q⟩:=y;have q1:=q us (s1 _ f);have hi:i<us.length:=(qap.mp q1).1;have g1:xs[i]? =some (xs[i]'(by lia)):=qbF _;simp only[zoH,qce]at e;rw[g1,show(List.range xs.length)[i]? =some i from by rw[qcf (by lia)]]at e;cases e;obtain⟨v1,b1,r1⟩:=c1.get g1;rw[q1]at b1;cases b1;exact .inr ⟨p,_,_,hp,eh,ex',rfl,⟨_,_,rfl,rfl,_,_,rfl,r1,rfl⟩⟩
  ·exact⟨by simp[zoH]at hi;lia,us,s1 _ f,rfl⟩
end M
namespace M
open L2 PySem PySem.Spec
open PyProof.Rows hiding St
variable {X:Cx} {K:W.Frag} {G H:Hp} {x:Str} {σ:St} {ρ:R} {b:Nat} {cs:List D} {l:Addr} {ys:List V} {cap:List Nat} {tg':Addr->Shared->Hp->List Addr->TG} {tt:Addr->Shared->Hp->List Addr->TT} {te:Addr->Shared->Hp->List Addr->TE}
theorem zhq {st:Stmt}:SS X st (fun _=>none):=⟨_,ps_never,fun B G H σ ρ fl ρ' E I hm k=>by exact cNN hm⟩
noncomputable def rIndex (K:W.Frag):V->List V->Hp->VK->Prop:=fun x vs H Q=>∃(l:Addr) (ns:List Int) (k:Int),x= .ref l/\vs=[.int k]/\SqL K H l (ns.map V.int)/\k∈ns/\Q (.int (ns.idxOf k:Nat)) H
theorem mt_index:MtR X "list.index" (rIndex X.K):=by
 intro pins s σ H x vs v us Q I rx rv h;obtain⟨l,ns,k,rfl,rfl,hq,hk,q⟩:=h;cases rx;obtain⟨u,rfl,t,rfl⟩:=rv.one;obtain⟨its,r,p,hz⟩:=I.list hq;have hi:=zjB r;have hlen:=hi.length;have hj:ns.idxOf k<ns.length:=List.idxOf_lt_length_iff.mpr hk;have hb:ns.length<=sizeLine:=by simpa using hz
 rw[qaI]at hb;obtain⟨⟨cls,dd,data,sl⟩,ho,hc,n,hd⟩:=p.isList;simp only at hc hd;subst hc hd;refine qbj PySem.F.slot_list_index ⟨_,ho,rfl⟩ PySem.F.entry_list_index (PySem.F.args_list_index_2 _ _)
  (PySem.SeqAt.list_indexAt l its.toArray n dd sl (.int k t) (isInt k) (ns.idxOf k) (by simpa[hlen]using hj) (by lia) ?_ ?_) ⟨ho,fun y hy=>(eq_isInt k t hi y (by simpa using hy)).at _ _,⟨.int (ns.idxOf k:Nat),H,I.tok _,⟨_,rfl⟩,q⟩⟩
 ·show isInt k its[ns.idxOf k]=true;rw[isInt_at k hi _ (by lia) hj];simpa using List.getElem_idxOf hj
 ·intro j hjs hlt;show isInt k its[j]=false;rw[isInt_at k hi j (by simpa using hjs) (by lia)];exact ne_of_lt_idxOf hlt _
noncomputable def znv:D->D->Option D
 | .lst ds,.int k=>(zby ds).bind fun ns=>if k∈ns then some (.int (ns.idxOf k:Nat))else none
 |_,_=>none
theorem se_index {o e:Expr}{mo me:ME}{apos cpos:Pos}(ho:SE X o mo)(he:SE X e me)
  (hbase:attributeBase o "index" X.env (eval o X.env)=eval o X.env:=by rfl)
  (hfew : ((backTo cpos (starEach [e] X.env)).all (fun x => !x.1) && (backToKw cpos (keywordEach [] X.env)).all (fun x => x.1.isSome)
   &&decide ([e].length+([]:List Keyword).length+(if([]:List Keyword).isEmpty then 0 else 1)<30))=true:=by rfl)
  (hline:(apos.endLine==cpos.line)=true:=by rfl) (hs:starEach [e] X.env=(false,eval e X.env)::starEach [] X.env:=by rfl):SE X (.Call (.Attribute o "index" apos) [e] [] cpos) (m2 znv mo me):=by
 refine ho.el fun to po so=>?_
 refine he.el fun te pe se=>?_
 refine⟨_,pe_bm PySem.F.plainAttrs_list PySem.F.slot_list_index PySem.F.type_list_index mt_index po (zko pe zpe hs) hbase hfew hline hs rfl,fun B G H σ ρ d ρ' Q I hm k=>?_⟩;refine zaJ hm fun d1 ρ1 e1 hm=>?_
 refine zaJ hm fun d2 ρ2 e2 hm=>?_
 refine cMel hm fun d3 e3 hm=>?_
 cases hm;refine so B G H σ ρ d1 ρ1 _ I e1 fun G1 H1 v I1 f1 r1=>?_
 cases d1 with
 |lst ds=>
  cases d2 with
  |int i=>
   refine cBel e3 fun ns e4 e3=>?_
   obtain⟨a,xs,rfl,ha,rr⟩:=r1;refine⟨.inl ⟨rfl,xs,SqL.of (I1.fz _ _ ha)⟩,?_⟩;refine se B G1 H1 σ ρ1 _ ρ2 _ I1 e2 fun G2 H2 u I2 f2 r2=>?_
   cases(show u=V.int i from r2);refine cIte e3 fun hk e3=>?_
   cases e3;cases zg8 e4;have rl:=rr.mono f2;have ex:xs=ns.map V.int:=RepL.ints_eq rl;subst ex;exact⟨a,ns,i,rfl,rfl,SqL.of (I2.fz _ _ (f2 _ _ ha)),hk,k G2 H2 _ I2 (f1.trans f2) rfl⟩
  |_=>exact cNN e3
 |_=>exact cNN e3
noncomputable def isN:D->Bool
 | .non=>true
 |_=>false
theorem isN_ok {x:V}{d:D}(r:RepD K G x d):decide (x= .non)=isN d:=by
 cases d with
 |non=>cases(show x=V.non from r);rfl
 |bl b=>cases(show x=V.bl b from r);rfl
 |int i=>cases(show x=V.int i from r);rfl
 |str s=>cases(show x=V.str s from r);rfl
 |lst ds=>obtain⟨a,xs,rfl,-⟩:=r;rfl
 |tup ds=>obtain⟨a,xs,rfl,-⟩:=r;rfl
 |scr ns=>obtain⟨a,rfl,-⟩:=r;rfl
 |exc c=>obtain⟨a,C,rfl,-⟩:=r;rfl
 |dic _ _=>obtain⟨a,ys,rfl,-⟩:=r;rfl
 |dit _ _=>obtain⟨a,ys,o,xs,rfl,-⟩:=r;rfl
 |obj _ _ _ _ _=>obtain⟨_,_,_,_,_,_,_,_,_,rfl,-⟩:=r;rfl
noncomputable def dIsN:D->D->Option D
 |a,.non=>some (.bl (isN a))
 |_,_=>none
noncomputable def zmq:D->D->Option D
 |a,.non=>some (.bl (!isN a))
 |_,_=>none
theorem v2_isN:V2 X (fun x y H Q=>y= .non/\Q (.bl (decide (x= .non))) H) dIsN:=by
 intro B G H σ ρ x y a b d Q I ra rb hf k;cases b<;>simp only[dIsN]at hf<;>cases hf
 exact⟨rb,k G H _ I (Fz.refl G) (by rw[isN_ok ra];rfl)⟩
theorem v2_notN:V2 X (fun x y H Q=>y= .non/\Q (.bl (!decide (x= .non))) H) zmq:=by
 intro B G H σ ρ x y a b d Q I ra rb hf k;cases b<;>simp only[zmq]at hf<;>cases hf
 exact⟨rb,k G H _ I (Fz.refl G) (by rw[isN_ok ra];rfl)⟩
theorem bl_isN:∀x y d,dIsN x y=some d->∃t,d= .bl t:=by
 intro x y d hf;cases y<;>simp only[dIsN]at hf<;>cases hf
 exact⟨_,rfl⟩
theorem bl_notN:∀x y d,zmq x y=some d->∃t,d= .bl t:=by
 intro x y d hf;cases y<;>simp only[zmq]at hf<;>cases hf
 exact⟨_,rfl⟩
section
variable {X:Cx} {a b:Expr} {ma mb:ME} {pos:Pos}
theorem se_is (ha:SE X a ma)(hb:SE X b mb)(hm:behindInMarks .Is b=false:=by rfl):SE X (.Compare a [.Is] [b] pos) (m2 dIsN ma mb):=zpL op_isN v2_isN ha hb hm
theorem st_is (ha:SE X a ma)(hb:SE X b mb)(hm:behindInMarks .Is b=false:=by rfl):STt X (.Compare a [.Is] [b] pos) (tTru (m2 dIsN ma mb)):=zjj op_isN v2_isN bl_isN ha hb hm
theorem zmk (ha:SE X a ma)(hb:SE X b mb)(hm:behindInMarks .IsNot b=false:=by rfl):STt X (.Compare a [.IsNot] [b] pos) (tTru (m2 zmq ma mb)):=zjj op_notN v2_notN bl_notN ha hb hm
end
noncomputable def zov (b:Nat)(ρ:R):Bool:=match ρ[b]? with
 |some (.par _)=>zed (ρ.set b .emp)
 |_=>false
noncomputable def zr1 (b:Nat)(ρ:R):List D:=match ρ[b]? with
 |some (.par cs)=>cs
 |_=>[]
noncomputable def turnP (b:Nat)(g:D->R->Option R)(mt:MT)(me:ME):D->R->Option (Option D×R):=fun d ρ=>(g d ρ).bind fun ρ1=>(mt ρ1).bind fun p=>if p.1 then(me p.2).bind fun q=>if zov b q.2 then some (some q.1,q.2)else none else if zov b p.2 then some (none,p.2)else none
noncomputable def oLCM (cap:List Nat)(t b w:Nat)(mi:MA)(g:D->R->Option R)(mt:MT)(me:ME):MO:=fun ρ=>(mi ρ).bind fun p=>if p.1.length<=16777216 then
    ((fzL (cap.filter (· !=w)) p.2)[w]?).bind fun s=>s.items.bind fun cs=>(ze5 (turnP b g mt me) p.1 ((capR cap t (fzL (cap.filter (· !=w)) p.2)).set b (.par cs))).map fun q=>(q.1,(fzL (cap.filter (· !=w)) p.2).set w (s.put (zr1 b q.2)))
  else none
theorem VS.setEmp (h:VS K G σ ρ)(b:Nat):VS K G σ (ρ.set b .emp) where
 len:=by rw[qbe];exact h.len
 no:=by
  have h0:=h.no;unfold zed at*;rw[qbR]at*;intro s hs;rcases List.mem_or_eq_of_mem_set hs with z|z
  ·exact h0 s z
  ·rw[z]
 val:=fun i d e=>by
  rw[qbu]at e
  split at e
  ·split at e
   ·cases e
   ·exact cNN e
  ·exact h.val i d e
theorem VS.siP (h:VS K G σ (ρ.set b .emp))(fz:Fz G H)(hb:ρ[b]? =some (.par cs))(hs:σ[b]? =some (some (.ref l)))(gl:G l=none)(hl:H l=some (.lst ys))(r:RepL K G ys cs):SI K ⟨G,H,[(b,l)]⟩ G H σ ρ where
 fz:=fz
 g0:=Fz.refl G
 new:=fun b o e=> .inl (by show G b≠none;rw[e];simp)
 keep:=fun b o e _=>e
 there:=fun b e=>e
 ob:=fun i c m=>by
  have:i=b/\c=l:=by simpa using m
  rw[this.2];show H l≠none;rw[hl];simp
 len:=by rw[h.len,qbe]
 slot:=fun i s e=>by
  by_cases z:i=b
  ·subst z;rw[hb]at e;cases e;exact⟨l,ys,hs,gl,hl,r,by simp⟩
  ·have e':(ρ.set b .emp)[i]? =some s:=by rw[qaq (Ne.symm z)];exact e
   cases s with
   |emp=>trivial
   |two _ _=>trivial
   |tre t=>exact absurd rfl ((zkd h.no e').1 t)
   |ptr t=>exact absurd rfl ((zkd h.no e').2 t)
   |val d=>exact h.val i d e'
   |own ds=>exact absurd ⟨_,ds,e',rfl⟩ (zkk h.no (i:=i))
   |par ds=>exact absurd ⟨_,ds,e',rfl⟩ (zkk h.no (i:=i))
 dis:=fun i j s t a hij e1 e2 w1 w2=>by
  have key:∀(i:Nat) (s:Sl) ov,ρ[i]? =some s->OwS K G H ov a s->i=b:=fun i s ov e w=>by
   by_cases z:i=b
   ·exact z
   ·exact absurd w (zpJ h.no (show(ρ.set b .emp)[i]? =some s by rw[qaq (Ne.symm z)];exact e))
  exact hij ((key i s _ e1 w1).trans (key j t _ e2 w2).symm)
theorem VS.ofP {B:Bs}(I:SI K B G H σ ρ)(hO:B.O=[(b,l)])(h:zov b ρ=true):∃cs ys,ρ[b]? =some (.par cs)/\σ[b]? =some (some (.ref l))/\G l=none/\H l=some (.lst ys)/\RepL K G ys cs/\VS K G σ (ρ.set b .emp):=by
 unfold zov at h
 split at h
 ·rename_i cs e;obtain⟨l',ys,h1,h2,h3,h4,h5⟩:=I.slot b _ e;have hl:l'=l:=by rw[hO]at h5;simpa using h5
  subst hl;refine⟨cs,ys,e,h1,h2,h3,h4,⟨by rw[qbe];exact I.len,h,fun i d e'=>?_⟩⟩;rw[qbu]at e'
  split at e'
  ·split at e'
   ·cases e'
   ·exact cNN e'
  ·exact I.slot i _ e'
 ·cases h
noncomputable def PaAt (K:W.Frag)(b:Nat)(l:Addr)(G H:Hp)(σ:St)(ρ:R):Prop:=∃cs ys,ρ[b]? =some (.par cs)/\σ[b]? =some (some (.ref l))/\G l=none/\H l=some (.lst ys)/\RepL K G ys cs
theorem PaAt.upd {l DD:Addr}(h:PaAt K b l G H σ ρ)(n:l≠DD)(xs:List V):PaAt K b l G (L2.upd H DD (.lst xs)) σ ρ:=h.imp fun _ h=>h.imp fun _ h=>⟨h.1,h.2.1,h.2.2.1,(zaw n).trans h.2.2.2.1,h.2.2.2.2⟩
theorem capσ_at {b w t:Nat}(h1:cap[b]? =some w)(h2:σ[w]? =some (some (.ref l))):b<cap.length/\(capσ cap t σ)[b]? =some (some (.ref l)):=by
 have hb:b<cap.length:=(qap.mp h1).1;have hbe:cap[b]=w:=(qap.mp h1).2;refine⟨hb,?_⟩;unfold capσ;rw[qaS (by rw[qaX];exact hb),qaT,qbF hb,hbe,qbx,h2]
 rfl
theorem zoT (cap:List Nat)(t:Nat)(ρ:R):(capR cap t ρ).length=cap.length+t:=by unfold capR;simp
section
variable {X:Cx} {elt iter tg:Expr} {ifs:List Expr} {scope:Scope} {pos:Pos} {N:List Str} {cap:List Nat} {t bk wk:Nat} {mi:MA} {g:D->R->Option R} {mt:MT} {me:ME}
theorem zqV (hbw:cap[bk]? =some wk){wi:TI}(si:SItb X tg iter mi wi)(blk:LcB X scope N elt tg ifs g mt me tg' tt te):
    ∀B G H σ ρ ds ρ' (Q:VK),SI X.K B G H σ ρ->oLCM cap t bk wk mi g mt me ρ=some (ds,ρ')->
      (∀G' H' l xs,SI X.K B G' H' σ ρ'->Fz G G'->G' l=none->H' l=some (.lst xs)->RepL X.K G' xs ds->B.H l=none->Nw X.K G' H' σ ρ' l->Q (.ref l) H')->tLC (capσ cap t) wi tg' tt te σ H Q:=fun B G H σ ρ ds ρ' Q I hm k=>
  zaJ hm fun items ρ1 e1 hm=>si B G H σ ρ items ρ1 _ I e1 fun J G1 H1 I1 f1 IT DD hD=>cIte hm fun hlen hm=>cBel hm fun sw ew hm=>cBel hm fun cs0 qw hm=>zjy hm fun all ρf e2 e3=>by
    obtain⟨rfl,rfl⟩:=Prod.mk.inj e3;obtain⟨G2,I2,f2⟩:=SI.fzL (cap.filter (· !=wk)) I1;obtain⟨l,ys0,hσ,gl0,hl0,rl0⟩:=I2.wr ew qw;have hlD:l≠DD:=za3 hl0 hD;have hb:=capσ_at (t:=t) hbw hσ;refine znj blk (O:=[(bk,l)]) (JJ:=fun G H σ ρ=>PaAt X.K bk l G H σ ρ/\VS X.K G σ (ρ.set bk .emp)) IT f2 I2.fz hD hlen (fun i m=>?_) (fun G H σ ρ h f=>?_) (fun _ _ _ _ _ _ I h=>?_) (fun _ _ _ _ xs h=>⟨h.1.upd hlD xs,h.2⟩) ⟨⟨cs0,ys0,?_,hb.2,gl0,hl0,rl0⟩,?_⟩ e2 fun Gc Hc σc xs J ra jj=>?_
    . rw[qcg]at m;exact hlD (Prod.mk.inj m).2.symm
    . obtain⟨⟨cs,ys,a1,a2,a3,a4,a5⟩,vs⟩:=h
      exact vs.siP f a1 a2 a3 a4 a5
    . obtain⟨cs',ys',w1,w2,w3,w4,w5,w6⟩:=VS.ofP I rfl h
      exact⟨⟨cs',ys',w1,w2,w3,w4,w5⟩,w6⟩
    . rw[qbu,if_pos rfl,if_pos (by rw[zoT];lia)]
    . rw[List.set_set];exact(cap_vs I2 cap t).setEmp bk
    . obtain⟨⟨cs,ys,a1,a2,a3,a4,a5⟩,vs⟩:=jj
      have hp:zr1 bk ρf=cs:=by unfold zr1;rw[a1]
      rw[hp]at k;have kp:∀b o,b≠l->H1 b=some o->Hc b=some o:=fun b o n e=>J.kp b o (fun i m=>n (Prod.mk.inj (qcg.mp m)).2) e
      exact k Gc Hc DD xs (I2.growW ew qw hσ J.fc J.fcH J.nw kp a3 a4 a5) (f1.trans (f2.trans J.fc)) J.gD J.hDc ra (I2.there DD hD) (I2.own_neW ew qw hσ hD J.nw kp)
theorem zhs (i:Nat){lpos pos':Pos}(cap:List Nat)(t bk wk:Nat)(N:List Str)(hc:X.calm=true)(hi:SIt X tg iter mi)(hg:∀C s H fp,SG (cxC X N scope C s H fp) tg g)(ht:∀C s H fp,STs (cxC X N scope C s H fp) ifs mt)(he:∀C s H fp,SE (cxC X N scope C s H fp) elt me)(hN:X.N.Nodup)(hbw:cap[bk]? =some wk:=by rfl)
    (hxi:X.N[i]? =some x:=by rfl) (hx:Loc X.env.scope x:=by trivial) (hf:X.fn x=true\/X.env.scope.names.lookup x=some .local:=by trivial)
    (hsw:swapsWith (.ListComp elt [⟨tg,iter,ifs,0⟩] scope lpos) (some (.Name x pos')) pos.line X.env=pure true:=by rfl)
    (hk:scope.kind= .function:=by rfl) (hb:blkB X.env scope=true:=by kernel_rfl) (hcap:capB scope.names N X.N cap t=true:=by kernel_rfl)
    (hs:∀x,foldedSetIterable iter X.env x=pure x:=by exact fun _=>rfl):SS X (.Assign [.Name x pos'] (.ListComp elt [⟨tg,iter,ifs,0⟩] scope lpos) pos) (sSet i (eFz (oLCM cap t bk wk mi g mt me))):=by
  refine hi.el fun wi pi si=>?_
  refine⟨_,zpo hN hxi hx hf hsw hc (zsS hk hb) (zrV hcap) pi (fun C s H fp=>(hg C s H fp).choose_spec.1) (fun C s H fp=>(ht C s H fp).choose_spec.1) (fun C s H fp=>(he C s H fp).choose_spec.1) hs,fun B G H σ ρ fl ρ' E I hm k=>?_⟩;refine zjy hm fun d ρ1 e1 e3=>?_
  refine zjy e1 fun ds ρ2 e4 e5=>?_
  obtain⟨rfl,rfl⟩:=Prod.mk.inj e5;obtain⟨rfl,rfl⟩:=Prod.mk.inj e3;refine zqV hbw si (.mk' hg ht he) B G H σ ρ ds ρ2 _ I e4 fun G1 H1 l xs I1 f1 g1 h1 r1 b1 n1=>?_
  obtain⟨I2,f2,r2⟩:=zny I1 g1 h1 r1 b1 n1;exact k _ H1 _ (I2.set r2) (f1.trans f2)
end
end M
namespace HT
open L2 PyProof.Rows PySem
noncomputable def znd:List Int->List Int->Bool
 |[],[]=>true
 |[],_::_=>true
 |_::_,[]=>false
 |x::xs,y::ys=>if x=y then znd xs ys else decide (x<=y)
noncomputable def zfa:List Int->List Int->Bool
 |[],[]=>false
 |[],_::_=>false
 |_::_,[]=>true
 |x::xs,y::ys=>if x=y then zfa xs ys else decide (x>y)
theorem zqt (x y:Int)(xs ys:List Int):zfa (x::xs) (y::ys)=if x=y then zfa xs ys else decide (x>y):=rfl
theorem rcGt_int (A:Around)(s:Shared)(a:Int)(t:Tok)(c:Int)(u:Tok)(prog:Program)(w:World)(E:Value->Shared->Prop)(Q:Value->Shared->Prop)(h:Q (.bool (decide (a>c))) s):
  wpAny (model prog w) A (richCompare .Gt (.int a t) (.int c u)) Q E s:=
 (PyProof.Rows.gt_int h:wpAny (model prog w) A (compareOp .Gt (.int a t) (.int c u)) Q E s)
section
open PySem.SeqAt
open PySem.AutoSeq1 (wpAny_loadPart')
open PySem.MeetsSeq PySem.MeetsSeq2 PySem.MeetsSeq3
theorem zlR (l b:Addr)(items items2:Array Value)(n n2:Nat)(dd dd2:Option Addr)(sl sl2:Array (Option Value))(ns ms:List Int)(hi:IntsAre items.toList ns)(hj:IntsAre items2.toList ms):
  Meets (Builtin.«tuple.__gt__» ⟨[.ref l,.ref b],[]⟩)
   (fun _ R s => s.heap.get? l = some { cls := .type "tuple", dict := dd, data := .seq items n, slots := sl } /\ s.heap.get? b = some { cls := .type "tuple", dict := dd2, data := .seq items2 n2, slots := sl2 } /\
    R (.ok (.ret (.bool (zfa ns ms)))) s):=
 .of_wp fun prog w A R s h=>by
  obtain⟨hp,g,d,tk,os⟩:=s;obtain⟨hl,hb,h⟩:=h;have f2:=AutoSeq1.sub_tuple_tuple;have z1:items.size=ns.length:=by rw[<-hi.length];simp
  have z2:items2.size=ms.length:=by rw[<-hj.length];simp
  wp_walk using wpAny_loadPart' hl,wpAny_loadPart' hb,wpAny_forIn_list _ (fun rest b s'=>b.1=none/\s'=⟨hp,g,d,tk,os⟩/\∃(vs ws:List Value) (ns' ms':List Int),rest=vs.zip ws/\
   IntsAre vs ns'/\IntsAre ws ms'/\ns'.length+items2.size=ms'.length+items.size/\R (.ok (.ret (.bool (zfa ns' ms')))) ⟨hp,g,d,tk,os⟩) _
  case turn=>
   rintro⟨y,x⟩ rest b s' ⟨hb',rfl,vs,ws,ns',ms',hz,hvi,hwi,hlen,hR⟩;cases hvi with
   |nil=>rw[List.zip_nil_left]at hz;cases hz
   |cons a t hvi'=>
    cases hwi with
    |nil=>rw[List.zip_nil_right]at hz;cases hz
    |cons c u hwi'=>
     rw[List.zip_cons_cons]at hz;injection hz with hyx hrest
     injection hyx with hy hx
     subst hy hx;rw[zqt]at hR;simp only[qbr]at hlen;obtain⟨e,he,hiff⟩:=eqAt_int A.in1 ⟨hp,g,d,tk,os⟩ a t c u;refine qav (he prog w _ _ ?_);cases e with
     |true=>
      rw[if_pos (hiff.mp rfl)]at hR
      wp_walk
      exact⟨rfl,rfl,_,_,_,_,hrest,hvi',hwi',by lia,hR⟩
     |false=>
      rw[if_neg (fun q=>absurd (hiff.mpr q) qay)]at hR;have hri:=rcGt_int A.in1 ⟨hp,g,d,tk,os⟩ a t c u prog w
      wp_walk using hri
      exact⟨_,rfl,by simpa using hR⟩
  case fin=>
   rintro⟨b1,b2⟩ s' ⟨hb',rfl,vs,ws,ns',ms',hz,hvi,hwi,hlen,hR⟩;simp only at hb';subst hb';have hv:zfa ns' ms'=decide (items.size>items2.size):=by
    cases hvi with
    |nil=>
     cases hwi with
     |nil=>
      simp only[qbs]at hlen;rw[(show zfa [] []=false from rfl)];exact(qaa (by lia)).symm
     |cons c u hw=>
      simp only[qbs,qbr]at hlen;rw[(show zfa [] (_::_)=false from rfl)];exact(qaa (by lia)).symm
    |cons a t hv=>
     cases hwi with
     |nil=>
      simp only[qbs,qbr]at hlen;rw[(show zfa (_::_) []=true from rfl)];exact(qbp (by lia)).symm
     |cons c u hw=>
      rw[List.zip_cons_cons]at hz;cases hz
   rw[hv]at hR
   wp_walk
   exact⟨_,rfl,by simpa[Builtin.Tuple.tupleCompareSizes]using hR⟩
  case h=>
   exact⟨rfl,rfl,items.toList,items2.toList,ns,ms,rfl,hi,hj,by lia,h⟩
end
section
variable {prog:Program} {w:World} {A:Around} {E:Value->Shared->Prop} {s:Shared}
theorem zp6 {l b:Addr}{items items2:Array Value}{ns ms:List Int}{Q:Value->Shared->Prop}(hl:IsTup s.heap l items)(hb:IsTup s.heap b items2)(hi:IntsAre items.toList ns)(hj:IntsAre items2.toList ms)
  (hu:A.units<cLine) (h:Q (.bool (zfa ns ms)) s):wpAny (model prog w) A (compareOp .Gt (.ref l) (.ref b)) Q E s:=by
 obtain⟨⟨cls,dd,data,sl⟩,ho,hc,n,hd⟩:=id hl;obtain⟨⟨cls2,dd2,data2,sl2⟩,ho2,hc2,n2,hd2⟩:=id hb;simp only at hc hd hc2 hd2;subst hc hd hc2 hd2;exact richCompare_meets_room (op:= .Gt) ⟨_,ho,rfl⟩ ⟨_,ho2,rfl⟩ PySem.F.slot_tuple_gt PySem.F.entry_tuple_gt (PySem.F.args_tuple_gt_2 _ _) (zlR l b items items2 n n2 dd dd2 sl sl2 ns ms hi hj)
  ⟨ho,ho2,show Value.bool (zfa ns ms)≠Value.notImplemented/\Q (.bool (zfa ns ms)) s from⟨(fun x=>nomatch x),h⟩⟩ hu
end
end HT
namespace M
open L2 PySem
theorem zjJ:∀{ds:List D} {ns:List Int},zby ds=some ns->ds=ns.map .int
 |[],_,h=>by cases h;rfl
 | .int i::ds,_,h=>by
  refine cMel h fun ms e1 e2=>?_
  cases e2;rw[zjJ e1];rfl
 | .non::_,_,h=>by exact cNN h
 | .bl _::_,_,h=>by exact cNN h
 | .str _::_,_,h=>by exact cNN h
 | .lst _::_,_,h=>by exact cNN h
 | .tup _::_,_,h=>by exact cNN h
 | .scr _::_,_,h=>by exact cNN h
 | .exc _::_,_,h=>by exact cNN h
 |(.dic _ _)::_,_,h=>by exact cNN h
 |(.dit _ _)::_,_,h=>by exact cNN h
 |(.obj _ _ _ _ _)::_,_,h=>by exact cNN h
noncomputable def dTT (f:List Int->List Int->Bool):D->D->Option D
 | .tup a,.tup b=>(zby a).bind fun ns=>(zby b).map fun ms=> .bl (f ns ms)
 |_,_=>none
noncomputable def dGtT:D->D->Option D:=dTT HT.zfa
noncomputable def rTT (K:W.Frag)(f:List Int->List Int->Bool):R2:=fun x y H Q=>∃a b ns ms,x= .ref a/\y= .ref b/\SqT K H a (ns.map V.int)/\SqT K H b (ms.map V.int)/\Q (.bl (f ns ms)) H
section
variable {X:Cx} {a b:Expr} {ma mb:ME} {pos:Pos}
theorem op_gtT (hu:X.A.units<cLine):OpR X (compareOp .Gt) (rTT X.K HT.zfa):=by
 intro pins s σ H x y v u Q I rx ry h;obtain⟨a,b,ns,ms,rfl,rfl,ha,hb,q⟩:=h;cases rx;cases ry;obtain⟨its,r1,p1,_⟩:=I.tuple ha;obtain⟨its2,r2,p2,_⟩:=I.tuple hb;have i1:PyProof.Rows.IntsAre its.toArray.toList ns:=zjB r1;have i2:PyProof.Rows.IntsAre its2.toArray.toList ms:=zjB r2;exact HT.zp6 p1 p2 i1 i2 hu ⟨.bl (HT.zfa ns ms),H,I,rfl,q⟩
theorem v2_TT (f:List Int->List Int->Bool):V2 X (rTT X.K f) (dTT f):=by
 intro B G H σ ρ x y a b d Q I ra rb hf k;cases a<;>cases b<;>simp only[dTT]at hf<;>try exact cNN hf
 rename_i as bs;refine cBel hf fun ns e1 hf=>?_
 refine cMel hf fun ms e2 e3=>?_
 cases e3;have h1:=zjJ e1;have h2:=zjJ e2;subst h1 h2;obtain⟨p,xs,rfl,hp,rp⟩:=ra;obtain⟨q,ys,rfl,hq,rq⟩:=rb;rw[rp.ints_eq]at hp;rw[rq.ints_eq]at hq;exact⟨p,q,ns,ms,rfl,rfl,SqT.of (I.fz _ _ hp),SqT.of (I.fz _ _ hq),k G H _ I (Fz.refl G) rfl⟩
theorem bl_TT (f:List Int->List Int->Bool)(x y d:D)(h:dTT f x y=some d):∃t,d= .bl t:=by
 cases x<;>cases y<;>simp only[dTT]at h<;>try exact cNN h
 refine cBel h fun ns e1 h=>?_
 refine cMel h fun ms e2 e3=>?_
 exact⟨_,e3.symm⟩
theorem st_gtT (hu:X.A.units+64<cLine)(ha:SE X a ma)(hb:SE X b mb):STt X (.Compare a [.Gt] [b] pos) (tTru (m2 dGtT ma mb)):=zjj (op_gtT (by lia)) (v2_TT _) (bl_TT _) ha hb (zh0 _)
theorem se_globE {x:Str}{i:Int}(hm:∃t,X.mg x=some (.int i t))(hg:Gl X x:=by rfl)(hd:(x==("__debug__":Str))=false:=by decide):SE X (.Name x pos) (eC (.int i)):=
 let⟨_,e⟩:=hm;se_globI e hg hd
end
end M
namespace M
open L2 PySem PySem.Spec
open PyProof.Rows hiding St
noncomputable def iR2L (ma:MA):MA:=fun ρ=>(ma ρ).bind fun p=>match p.1 with
 |[.int i,.int j]=>some (zeX i (j-i).toNat,p.2)
 |_=>none
theorem nn {α:Type}{o:Option α}{x:α}(e:o=some x):o≠none:=by rw[e];exact fun z=>by cases z
noncomputable abbrev MX:=R->Option Str
noncomputable def fX (N:Nat)(x:MX):List D->Option Str:=fun ds=>x (ds.map .val++List.replicate (N-ds.length) .emp)
noncomputable def ziZ (mc:MT)(mb:MS):Nat->MS
 |0,_=>none
 |n+1,ρ=>(mc ρ).bind fun p=>if p.1 then(mb p.2).bind fun q=>match q.1 with
  | .next=>ziZ mc mb n q.2
  | .cont=>ziZ mc mb n q.2
  | .brk=>some (.next,q.2)
  | .ret r=>some (.ret r,q.2)
  else some (.next,p.2)
theorem zpZ {X:Cx}{c:Expr}{body:List Stmt}{mc:MT}{mb:MS}{pos:Pos}(fuel:Nat)(hp:PassesOwn (model X.prog X.w) X.A X.env X.xe)(hc:STt X c mc)(hb:SSs X body mb):SS X (.While c body [] pos) (ziZ mc mb fuel):=by
 refine hc.el fun tc pc sc=>?_
 refine hb.el fun tb pb sb=>?_
 refine⟨_,ps_while hp pc pb,fun B G H σ ρ fl ρ' E I hm k=>?_⟩;refine⟨fun m σ' H'=>∃G' ρ1,SI X.K B G' H' σ' ρ1/\Fz G G'/\ziZ mc mb m ρ1=some (fl,ρ'),⟨fuel,G,ρ,I,Fz.refl G,hm⟩,fun m σ1 H1 w=>?_⟩;obtain⟨G1,ρ1,I1,f1,e1⟩:=w;cases m with
 |zero=>exact cNN e1
 |succ m=>
  refine zaJ e1 fun b ρ2 e2 e1=>?_
  refine sc B G1 H1 σ1 ρ1 b ρ2 _ I1 e2 fun G2 H2 I2 f2=>?_
  dsimp only at e1;cases b with
  |false=>
   rw[if_neg (by simp)]at e1 ⊢;obtain⟨rfl,rfl⟩:=cSp e1;exact k G2 H2 σ1 I2 (f1.trans f2)
  |true=>
   rw[if_pos rfl]at e1 ⊢;refine zaJ e1 fun f ρ3 e3 e1=>?_
   refine⟨fun σ' H'=>∃G' ρ1,SI X.K B G' H' σ' ρ1/\Fz G G'/\ziZ mc mb m ρ1=some (fl,ρ'),fun σ' H' h=>⟨m,qbM m,h⟩,?_⟩;refine sb B G2 H2 σ1 ρ2 f ρ3 _ I2 e3 ?_;have ff:=f1.trans f2;cases f with
   |next=>exact fun G' H' σ' I3 f3=>⟨G',ρ3,I3,ff.trans f3,e1⟩
   |cont=>exact fun G' H' σ' I3 f3=>⟨G',ρ3,I3,ff.trans f3,e1⟩
   |brk=>obtain⟨rfl,rfl⟩:=cSp e1;exact fun G' H' σ' I3 f3=>k G' H' σ' I3 (ff.trans f3)
   |ret r=>obtain⟨rfl,rfl⟩:=cSp e1;exact fun G' H' σ' v I3 f3 rr=>k G' H' σ' v I3 (ff.trans f3) rr
end M
namespace M
open L2 PySem
noncomputable def likeS:Sl->Sl->Bool
 | .own ds,.own es=>match zby ds,zby es with
  |some a,some b=>a==b
  |_,_=>false
 | .par ds,.par es=>match zby ds,zby es with
  |some a,some b=>a==b
  |_,_=>false
 | .own _,_=>false
 | .par _,_=>false
 | .tre _,_=>false
 | .ptr _,_=>false
 |_,_=>true
end M
namespace M
open L2 PySem PySem.Spec
open PyProof.Rows hiding St
noncomputable def Sl.putT (s:Sl)(t:T):Sl:=match s with
 | .tre _=> .tre t
 | .ptr _=> .ptr t
 |s=>s
noncomputable def Sl.tree:Sl->Option T
 | .tre t=>some t
 |_=>none
section
variable {K:W.Frag} {B:Bs} {G G' H H':Hp} {σ:St} {ρ:R}
theorem zpg {s:Sl}{t:T}(q:s.tree=some t){ov:Option (Option V)}{a:Addr}:OwS K G H ov a s↔∃v A,ov=some (some v)/\RepT K G H v t A/\a∈A:=by
 cases s with
 |tre _=>cases q;exact Iff.rfl
 |_=>exact cNN q
theorem zrD {s:Sl}{t:T}(q:s.tree=some t)(t':T):(s.putT t').tree=some t':=by
 cases s with
 |tre _=>rfl
 |_=>exact cNN q
theorem SI.tree (I:SI K B G H σ ρ){i:Nat}{s:Sl}{t:T}(e:ρ[i]? =some s)(q:s.tree=some t):∃v A,σ[i]? =some (some v)/\RepT K G H v t A/\A.Nodup/\(∀a∈A,G a=none)/\∀a∈A,B.H a=none\/(i,a)∈B.O:=by
 have h:=I.slot i s e;cases s with
 |tre _=>cases q;obtain⟨v,A,h1,h2,h3,h4⟩:=h;exact⟨v,A,h1,h2,h3,fun a m=>(h4 a m).1,fun a m=> .inl (h4 a m).2⟩
 |_=>exact cNN q
theorem SI.chT (I:SI K B G H σ ρ){i:Nat}{s:Sl}{t t':T}{v:V}{A A':List Addr}(e:ρ[i]? =some s)(q:s.tree=some t)(hv:σ[i]? =some (some v))(r:RepT K G H v t A)(fz:Fz G H')(kp:∀b o,b∉A->H b=some o->H' b=some o)(th:∀b,H' b=none->H b=none)
  (r':RepT K G H' v t' A') (nd:A'.Nodup) (sub:∀a∈A',a∈A\/H a=none):SI K B G H' σ (ρ.set i (s.putT t')):=by
 obtain⟨v1,A1,h1,h2,h3,h4,h5⟩:=I.tree e q;rw[hv]at h1;cases h1;have:A1=A:=h2.det r fun _ _=>rfl
 subst this;have g':∀a∈A',G a=none:=fun a m=>by
  rcases sub a m with z|z
  ·exact h4 a z
  ·exact I.fz.free z
 have b':∀a∈A',B.H a=none\/(i,a)∈B.O:=fun a m=>by
  rcases sub a m with z|z
  ·exact h5 a z
  ·exact .inl (I.there a z)
 have h:=I.chg (i:=i) (ov:=some v) (s':=s.putT t') (G':=G) (H':=H') fz (Fz.refl G) I.new (fun b o k1 k2=>kp b o (fun m=>?_) (I.keep b o k1 k2)) (fun b k=>I.there b (th b k)) (fun j u a z ej w g ha=>?_) ?_
 ·rwa[znZ hv]at h
 ·rcases h5 b m with z|z
  ·rw[k1]at z;cases z
  ·exact k2 i z
 ·have na:a∉A1:=fun m=>I.dis j i u s a z ej e w ((zpg q).mpr ⟨v,A1,hv,h2,m⟩)
  obtain⟨x,hx⟩:=qbv.mp ha;refine⟨g,(kp a x na hx).trans hx.symm,fun w'=>?_⟩;obtain⟨v2,A2,k1,k2,k3⟩:=(zpg (zrD q t')).mp w';cases k1;rw[k2.det r' fun _ _=>rfl]at k3;rcases sub a k3 with z|z
  ·exact na z
  ·exact ha z
 ·have sl:=I.slot i s e;cases s with
  |tre _=>
   obtain⟨v2,A2,k1,k2,k3,k4⟩:=sl;rw[hv]at k1;cases k1;cases q;have:A2=A1:=k2.det h2 fun _ _=>rfl
   subst this;refine⟨v,A',rfl,r',nd,fun a m=>⟨g' a m,?_⟩⟩;rcases sub a m with z|z
   ·exact(k4 a z).2
   ·exact I.there a z
  |_=>cases q
theorem SI.setT (I:SI K B G H σ ρ){i:Nat}{v:V}{t:T}{A:List Addr}(r:RepT K G H v t A)(nd:A.Nodup)(hA:∀a∈A,G a=none/\B.H a=none/\Nw K G H σ ρ a):SI K B G H (σ.set i (some v)) (ρ.set i (.tre t)):=
 I.chg I.fz (Fz.refl G) I.new I.keep I.there (fun j s a _ e w g _=>⟨g,rfl,fun⟨v2,A2,k1,k2,k3⟩=>by
  cases k1;rw[k2.det r fun _ _=>rfl]at k3;exact(hA a k3).2.2 j s e w⟩) ⟨v,A,rfl,r,nd,fun a m=>⟨(hA a m).1,(hA a m).2.1⟩⟩
open Classical in
end
section
variable {J κ:Type} [DecidableEq J] [DecidableEq κ]
noncomputable def lkD:List J->List D->J->Option D
 |k::ks,d::ds,j=>if k=j then some d else lkD ks ds j
 |_,_,_=>none
noncomputable def ptD (ks:List J)(ds:List D)(j:J)(d:D):List J×List D:=if ks.contains j then(ks,List.zipWith (fun k x=>if k=j then d else x) ks ds)else(ks++[j],ds++[d])
variable {K:W.Frag} {G:Hp} {em:J->κ}
theorem zoQ (inj:∀a b,em a=em b->a=b):∀{ks:List J} {ds:List D} {ys:List (κ×V)} {j:J} {d:D},ys.map (·.1)=ks.map em->RepL K G (ys.map (·.2)) ds->lkD ks ds j=some d->∃v,valV ys (em j)=some v/\RepD K G v d
 |[],_,_,_,_,_,_,h=>by exact cNN h
 |_::_,[],_,_,_,_,_,h=>by exact cNN h
 |k::ks,x::ds,[],j,d,e,_,_=>by cases e
 |k::ks,x::ds,y::ys,j,d,e,⟨z,zs,e1,r1,r2⟩,h=>by
  cases e1;have e2:=List.cons.inj e;unfold lkD at h
  by_cases q:k=j
  ·rw[if_pos q]at h;cases h;subst q;exact⟨y.2,zmO e2.1,r1⟩
  ·rw[if_neg q]at h;obtain⟨v,h1,h2⟩:=zoQ inj e2.2 r2 h;refine⟨v,?_,h2⟩;rw[zki fun z=>q (inj _ _ (e2.1.symm.trans z)),h1]
theorem zsP (inj:∀a b,em a=em b->a=b):∀{ks:List J} {ds:List D} {ys:List (κ×V)} {j:J},ys.map (·.1)=ks.map em->RepL K G (ys.map (·.2)) ds->lkD ks ds j=none->valV ys (em j)=none
 |[],_,[],_,_,_,_=>rfl
 |[],_,_::_,_,e,_,_=>by cases e
 |_::_,_,[],_,e,_,_=>by cases e
 |k::ks,[],y::ys,_,_,r,_=>by cases r
 |k::ks,x::ds,y::ys,j,e,⟨z,zs,e1,r1,r2⟩,h=>by
  cases e1;have e2:=List.cons.inj e;unfold lkD at h
  by_cases q:k=j
  ·rw[if_pos q]at h;cases h
  ·rw[if_neg q]at h;rw[zki fun z=>q (inj _ _ (e2.1.symm.trans z)),zsP inj e2.2 r2 h]
theorem zsd (inj:∀a b,em a=em b->a=b){ks:List J}{ds:List D}{ys:List (κ×V)}{j:J}(e:ys.map (·.1)=ks.map em)(r:RepL K G (ys.map (·.2)) ds):(valV ys (em j)).isSome=(lkD ks ds j).isSome:=by
 cases h:lkD ks ds j with
 |none=>rw[zsP inj e r h];rfl
 |some d=>obtain⟨v,h1,_⟩:=zoQ inj e r h;rw[h1];rfl
theorem pt_rep (inj:∀a b,em a=em b->a=b){ks:List J}{ds:List D}{ys:List (κ×V)}{j:J}{v:V}{d:D}(e:ys.map (·.1)=ks.map em)(r:RepL K G (ys.map (·.2)) ds)(rv:RepD K G v d):
  (putK ys (em j) v).map (·.1)=(ptD ks ds j d).1.map em/\RepL K G ((putK ys (em j) v).map (·.2)) (ptD ks ds j d).2:=by
 have any:(ys.any fun kv=>decide (kv.1=em j))=ks.contains j:=by
  clear r
  induction ys generalizing ks with
  |nil=>cases ks with
   |nil=>rfl
   |cons _ _=>cases e
  |cons y ys ih=>cases ks with
   |nil=>cases e
   |cons k ks=>
    have e2:=List.cons.inj e;rw[List.any_cons,ih e2.2,List.contains_cons];congr 1
    by_cases q:j=k
    ·subst q;simp[e2.1]
    ·rw[qaa (fun z=>q (inj _ _ (e2.1.symm.trans z)).symm)];simp[q]
 unfold putK ptD;rw[any]
 by_cases q:ks.contains j=true
 ·rw[if_pos q,if_pos q]
  constructor
  ·rw[qch,<-e];apply qci;intro a _;simp only[Function.comp]
   split<;>rfl
  ·clear any q;rw[qch]
   induction ys generalizing ks ds with
   |nil=>cases ks with
    |nil=>exact RepL.nil
    |cons _ _=>cases e
   |cons y ys ih=>cases ks with
    |nil=>cases e
    |cons k ks=>
     have e2:=List.cons.inj e;cases ds with
     |nil=>cases r
     |cons x ds=>
      obtain⟨z,zs,e1,r1,r2⟩:=r;cases e1;refine RepL.cons ?_ (ih e2.2 r2);simp only[Function.comp]
      by_cases q:k=j
      ·rw[if_pos q,if_pos (by rw[<-q];exact e2.1)];exact rv
      ·rw[if_neg q,if_neg fun z=>q (inj _ _ (e2.1.symm.trans z))];exact r1
 ·rw[if_neg q,if_neg q];rw[qcj,qcj,qcj,e];exact⟨rfl,r.append (.cons rv .nil)⟩
end
theorem kI_inj (a b:Int)(h:kI a=kI b):a=b:=by cases h;rfl
theorem zoJ (a b:List Int)(h:a.map kI=b.map kI):a=b:=by
 induction a generalizing b with
 |nil=>cases b with
  |nil=>rfl
  |cons _ _=>cases h
 |cons x a ih=>cases b with
  |nil=>cases h
  |cons y b=>
   have:=List.cons.inj h;rw[kI_inj _ _ this.1,ih b this.2]
noncomputable def Sl.dic:Sl->Option (List Int×List D)
 | .tre (.dic ks ds)=>some (ks,ds)
 | .val (.dic ks ds)=>some (ks,ds)
 |_=>none
noncomputable def tDI (j:Nat)(neg:Bool)(mk:ME):MT:=fun ρ=>(mk ρ).bind fun p=>match p.1 with
 | .int k=>(p.2[j]?.bind Sl.dic).map fun q=>(((lkD q.1 q.2 k).isSome !=neg),p.2)
 |_=>none
noncomputable def fzD (j:Nat)(ρ:R):R:=match ρ[j]? with
 |some (.tre (.dic ks ds))=>ρ.set j (.val (.dic ks ds))
 |_=>ρ
noncomputable def Ch.sl:Ch->Sl
 | .d x=> .val x
 | .l ds=> .own ds
 | .t xss=> .tre (.lst (xss.map .l))
noncomputable def putCs:List Nat->List Ch->R->R
 |i::is,c::cs,ρ=>putCs is cs (ρ.set i c.sl)
 |_,_,ρ=>ρ
end M
namespace M
open L2 PySem PySem.Spec
open PyProof.Rows hiding St
open Classical in
noncomputable def fMT (N:Nat)(m:MS):List D->T->List D->Option (Sl×List D):=fun cs t ds=>(m (.par cs:: .tre t::(ds.map .val++List.replicate (N-(ds.length+2)) .emp))).bind fun p=>match p.1,(p.2[0]?:Option Sl)with
 |Fl.ret r,some (Sl.par out)=>some (r,out)
 |Fl.next,some (Sl.par out)=>some (.val .non,out)
 |_,_=>none
noncomputable abbrev MP':=R->Option (List Ch×R)
end M
namespace M
open L2 PySem PySem.Spec
open PyProof.Rows hiding St
noncomputable def Ch.D:Ch->M.D
 | .d x=>x
 | .l ds=> .lst ds
 | .t xss=> .lst (xss.map .lst)
noncomputable def sTA (i j:Nat):MS:=fun ρ=>match ρ[i]?,ρ[j]? with
 |some (.tre (.lst cs)),some (.own ds)=>if cs.length<16777216 then some (.next,(ρ.set j .emp).set i (.tre (.lst (cs++[.l ds]))))else none
 |_,_=>none
noncomputable abbrev MQ:=R->Option D
noncomputable def fzT (j:Nat)(ρ:R):R:=match ρ[j]? with
 |some (.tre (.lst cs))=>ρ.set j (.val (.lst (cs.map Ch.D)))
 |_=>ρ
section
variable {X:Cx} {x y:Str} {pos p' q' tpos:Pos}
variable {e:Expr} {es:List Expr} {ma:MA} {k k' n:Nat} {F:List D->Option Sl}
variable {a b:Expr} {mi mk:MQ}
noncomputable def sPar (i j:Nat)(ma:MA):MS:=fun ρ=>(ma ρ).bind fun p=>match p.1 with
 |[c,d]=>some (.next,(p.2.set i (.val c)).set j (.val d))
 |_=>none
end
end M
namespace M
local macro_rules | `(tactic| ac_rfl) => `(tactic| first | exact M.nA (by decide) | exact M.nB (by decide) | exact M.nC (by decide) | exact M.nL (by assumption) | exact Nat.ne_of_lt (by assumption) | lia)
open L2 PySem PySem.Spec
open PyProof.Rows hiding St
open Sem (wp)
variable {a b u:Value} {Q E:Value->Shared->Prop} {i:Nat} {prog:Program} {w:World} {A:Around} {s:Shared} {tg:Expr} {K:W.Frag} {X:Cx} {p pos:Pos}
noncomputable abbrev zeD (h:Heap)(z TI TO:Addr)(f0:Value)(b:Bool):Prop:=h.get? z=some {cls:= .type "zip",data:= .fields #[f0,.bool b,.bool false,.ref TI,.ref TO]}
noncomputable def ZipAt (h:Heap)(z TI TO:Addr):Prop:=∃f0 b,zeD h z TI TO f0 b/\(f0= .none\/∃T:Nat,f0=rawInt T)
section
variable {prog:Program} {w:World} {A:Around} {E:Value->Shared->Prop} {s:Shared}
theorem zrZ {a:Addr}{Q:Option Obj->Shared->Prop}(h:Q (s.heap.get? a) s):wpAny (model prog w) A (loadIfAlive a) Q E s:=fun Γ p hΓ=>by
 show Sem.wp _ _ (Sem.loadIfAlive a Sem.pure) _ _ p s;rw[Sem.wp_loadIfAlive];exact(qaz (M:=model prog w) (A:=A) (E:=E) h) Γ p hΓ
theorem zrR {z TI TO:Addr}{f0:Value}{b:Bool}(hz:zeD s.heap z TI TO f0 b)(hf:f0= .none\/∃T:Nat,f0=rawInt T){Q:Bool->Shared->Prop}(h1:Q true s)
  (h2:∀h',zeD h' z TI TO f0 true->Heap.SameBut z s.heap h'->Q false {s with heap:=h'}):wpAny (model prog w) A (Builtin.SmallTypes.ownedTupleIsFree (.ref z)) Q E s:=by
 unfold Builtin.SmallTypes.ownedTupleIsFree;refine qav (qa4 hz rfl (x:=f0) rfl ?_);rcases hf with rfl|⟨T,rfl⟩
 ·exact qaz h1
 ·refine(?_:wpAny _ _ (loadIfAlive _>>=_) _ _ _);refine qav (zrZ ?_);cases e:s.heap.get? (T:Int).toNat with
  |none=>exact qaz h1
  |some o=>
   refine(?_:wpAny _ _ (field (.ref z) 1>>=_) _ _ _);refine qav (qa4 hz rfl (x:= .bool b) rfl ?_);cases b
   ·refine(?_:wpAny _ _ (setField (.ref z) 1 (.bool true)>>=_) _ _ _);exact qav (qb3 hz (by simp) fun g1 z1 s1=>qaz (h2 g1 z1 s1))
   ·exact qaz (h2 s.heap hz ⟨rfl,fun _ _=>rfl⟩)
variable {N a1 a2:Nat} {n1 n2:Nat} {P1 P2:Nat->Value->Prop} {S1 S2:Nat->Heap->Prop}
theorem zqC (D1:Draws prog w A N [N,a1] n1 P1 S1)(D2:Draws prog w A (N+1) [N+1,a2] n2 P2 S2)(l1:a1<N)(l2:a2<N)
  (hz':ZipAt s.heap (N+4) (N+2) (N+3)) (hTI:IsPair s.heap (N+2) (.ref N) (.ref (N+1))) (hTO:IsPair s.heap (N+3) a b) (h1:S1 i s.heap) (h2:S2 i s.heap) (i1:i<n1) (i2:i<n2)
  (k : ∀ x y h' tk, P1 i x -> P2 i y -> ZipAt h' (N + 4) (N + 2) (N + 3) -> (∃ a b, IsPair h' (N + 3) a b) -> S1 (i + 1) h' -> S2 (i + 1) h' -> IsPair h' s.heap.objs.size x y ->
   (∀c o,c≠N->c≠N+1->c≠N+3->c≠N+4->s.heap.get? c=some o->h'.get? c=some o)->Q (.ref s.heap.objs.size) {s with heap:=h',toks:=tk}):
  wpAny (model prog w) A (Builtin.«zip.__next__» ⟨[.ref (N+4)],[]⟩) (fun fin s'=>∃v,fin= .done (.ret v)/\Q v s') E s:=by
 obtain⟨f0,bb,hz,hf⟩:=hz';refine(?_:wpAny _ _ (field (.ref (N+4)) 2>>=_) _ _ _);refine qav (qa4 hz rfl (x:= .bool false) rfl (?_:wpAny _ _ (field (.ref (N+4)) 3>>=_) _ _ _));refine qav (qa4 hz rfl (x:= .ref (N+2)) rfl (qav (qbZ hTI rfl (?_:wpAny _ _ (Builtin.SmallTypes.ownedTupleIsFree (.ref (N+4))>>=_) _ _ _))));refine qav (zrR hz hf ?_ fun g0 z0 s0=>?_)
 ·simp only[if_true];refine qav (qbV (qav (qa4 hz rfl (x:= .ref (N+3)) rfl (qav (qb3 hz (by simp) fun g1 z1 s1=>qav ?_)))))
  replace z1:zeD g1 (N+4) (N+2) (N+3) .ellipsis bb:=z1
  simp only[qb4,qb5,qbJ,qbP];refine qav (qav (qb6 (?_:wpAny _ _ (Builtin.SmallTypes.nextOf (.ref N)>>=_) _ _ _)));have e1:S1 i g1:=D1.frame _ _ _ h1 fun b hb o e=>(s1.2 b (nin2 hb (by ac_rfl) (by ac_rfl))).trans e
  refine qav (D1.item i _ _ _ i1 e1 fun x g2 t2 p1 f2 s2=>qaz ?_);have q2:IsPair g2 (N+3) a b:=(s2.2 _ (ne_ (by ac_rfl))).trans ((s1.2 _ (ne_ (by ac_rfl))).trans hTO);refine qav (qbZ q2 rfl (qav (qck q2 fun g3 q3 s3=>qav (qb7 (qaz ?_)))))
  replace q3:IsPair g3 (N+3) x b:=q3
  refine qav (qav (qb6 (?_:wpAny _ _ (Builtin.SmallTypes.nextOf (.ref (N+1))>>=_) _ _ _)));have e3:S2 i g3:=D2.frame _ _ _ h2 fun b hb o e=>(s3.2 b (nin2 hb (by ac_rfl) (by ac_rfl))).trans ((s2.2 b (nin2 hb (by ac_rfl) (by ac_rfl))).trans ((s1.2 b (nin2 hb (by ac_rfl) (by ac_rfl))).trans e))
  refine qav (D2.item i _ _ _ i2 e3 fun y g4 t4 p2 f4 s4=>qaz ?_);have q4:IsPair g4 (N+3) x b:=(s4.2 _ (ne_ (by ac_rfl))).trans q3;refine qav (qbZ q4 rfl (qav (qck q4 fun g5 q5 s5=>qav (qb7 (qaz (qaz ?_))))))
  replace q5:IsPair g5 (N+3) x y:=q5
  have sz:g5.objs.size=s.heap.objs.size:=by rw[s5.1,s4.1,s3.1,s2.1,s1.1]
  have z5:zeD g5 (N+4) (N+2) (N+3) .ellipsis bb:=(s5.2 _ (ne_ (by ac_rfl))).trans ((s4.2 _ (ne_ (by ac_rfl))).trans ((s3.2 _ (ne_ (by ac_rfl))).trans ((s2.2 _ (ne_ (by ac_rfl))).trans z1)));have zl:(N+4:Nat)<g5.objs.size:=qad z5;have k5:∀c o,c≠N->c≠N+1->c≠N+3->c≠N+4->s.heap.get? c=some o->g5.get? c=some o:=fun c o c1 c2 c3 c4 e=>(s5.2 c c3).trans ((s4.2 c c2).trans ((s3.2 c c3).trans ((s2.2 c c1).trans ((s1.2 c c4).trans e))))
  have f5:S1 (i+1) g5:=D1.frame _ _ _ f2 fun b hb o e=>(s5.2 b (nin2 hb (by ac_rfl) (by ac_rfl))).trans ((s4.2 b (nin2 hb (by ac_rfl) (by ac_rfl))).trans ((s3.2 b (nin2 hb (by ac_rfl) (by ac_rfl))).trans e))
  have f5':S2 (i+1) g5:=D2.frame _ _ _ f4 fun b hb o e=>(s5.2 b (nin2 hb (by ac_rfl) (by ac_rfl))).trans e
  refine qav (qbZ q5 rfl (qav (wpAny_newTuple (?_:wpAny _ _ (Builtin.SmallTypes.ownedTupleHandOut (.ref (N+4)) (.ref g5.objs.size)>>=_) _ _ _))));refine qav ?_;unfold Builtin.SmallTypes.ownedTupleHandOut;refine qav (qb3 (show zeD (g5.push {cls:= .type "tuple",data:= .seq #[x,y]}) (N+4) (N+2) (N+3) .ellipsis bb from qaC _ z5) (by simp) fun g7 z7 s7=>?_)
  replace z7:zeD g7 (N+4) (N+2) (N+3) (rawInt g5.objs.size) bb:=z7
  refine qb3 z7 (by simp) fun g8 z8 s8=>qaz ⟨_,rfl,?_⟩
  replace z8:zeD g8 (N+4) (N+2) (N+3) (rawInt g5.objs.size) false:=z8
  have up:∀c o,c≠N+4->g5.get? c=some o->g8.get? c=some o:=fun c o c1 e=>(s8.2 c c1).trans ((s7.2 c c1).trans (qaC _ e))
  have T8:IsPair g8 g5.objs.size x y:=(s8.2 _ (ne_ (by ac_rfl))).trans ((s7.2 _ (ne_ (by ac_rfl))).trans (qaD _ rfl));rw[sz]at z8 T8;refine(?_:Q (.ref g5.objs.size) _);rw[sz];exact k x y g8 _ p1 p2 ⟨_,_,z8,.inr ⟨_,rfl⟩⟩ ⟨_,_,up _ _ (ne_ (by ac_rfl)) q5⟩ (D1.frame _ _ _ f5 fun b hb o e=>up b o (nin2 hb (by ac_rfl) (by ac_rfl)) e) (D2.frame _ _ _ f5' fun b hb o e=>up b o (nin2 hb (by ac_rfl) (by ac_rfl)) e) T8 fun c o c1 c2 c3 c4 e=>up c o c4 (k5 c o c1 c2 c3 c4 e)
 ·simp only[qbQ,qa3];simp only[List.forIn_toArray,qbJ,qbP];have e0:S1 i g0:=D1.frame _ _ _ h1 fun b hb o e=>(s0.2 b (nin2 hb (by ac_rfl) (by ac_rfl))).trans e
  refine qav (qav (qav (qaw (?_:wpAny _ _ (Builtin.SmallTypes.nextOf (.ref N)>>=_) _ _ _))));refine qav (D1.item i _ _ _ i1 e0 fun x g2 t2 p1 f2 s2=>qaz (qaz ?_));refine qav (qav (qaw (?_:wpAny _ _ (Builtin.SmallTypes.nextOf (.ref (N+1))>>=_) _ _ _)));have e3:S2 i g2:=D2.frame _ _ _ h2 fun b hb o e=>(s2.2 b (nin2 hb (by ac_rfl) (by ac_rfl))).trans ((s0.2 b (nin2 hb (by ac_rfl) (by ac_rfl))).trans e)
  refine qav (D2.item i _ _ _ i2 e3 fun y g4 t4 p2 f4 s4=>qaz (qaz (qaz ?_)));have sz:g4.objs.size=s.heap.objs.size:=by rw[s4.1,s2.1,s0.1]
  have z4:zeD g4 (N+4) (N+2) (N+3) f0 true:=(s4.2 _ (ne_ (by ac_rfl))).trans ((s2.2 _ (ne_ (by ac_rfl))).trans z0);have f4':S1 (i+1) g4:=D1.frame _ _ _ f2 fun b hb o e=>(s4.2 b (nin2 hb (by ac_rfl) (by ac_rfl))).trans e
  refine(?_:wpAny _ _ (newTuple [x,y]>>=_) _ _ _);refine qav (wpAny_newTuple (qaz ⟨_,rfl,?_⟩));have k5:∀c o,c≠N->c≠N+1->c≠N+3->c≠N+4->s.heap.get? c=some o->g4.get? c=some o:=fun c o c1 c2 c3 c4 e=>(s4.2 c c2).trans ((s2.2 c c1).trans ((s0.2 c c4).trans e))
  have q4:IsPair g4 (N+3) a b:=(s4.2 _ (ne_ (by ac_rfl))).trans ((s2.2 _ (ne_ (by ac_rfl))).trans ((s0.2 _ (ne_ (by ac_rfl))).trans hTO));have T8:IsPair (g4.push {cls:= .type "tuple",data:= .seq #[x,y]}) g4.objs.size x y:=qaD _ rfl;rw[sz]at T8;refine(?_:Q (.ref g4.objs.size) _);rw[sz];exact k x y _ _ p1 p2 ⟨_,_,qaC _ z4,hf⟩ ⟨_,_,qaC _ q4⟩ (D1.frame _ _ _ f4' fun b hb o e=>qaC _ e) (D2.frame _ _ _ f4 fun b hb o e=>qaC _ e) T8 fun c o c1 c2 c3 c4 e=>qaC _ (k5 c o c1 c2 c3 c4 e)
theorem zrN {Q:Fin->Shared->Prop}(D1:Draws prog w A N [N,a1] n1 P1 S1)(D2:Draws prog w A (N+1) [N+1,a2] n2 P2 S2)(l1:a1<N)(l2:a2<N)
  (hz':ZipAt s.heap (N+4) (N+2) (N+3)) (hTI:IsPair s.heap (N+2) (.ref N) (.ref (N+1))) (hTO:IsPair s.heap (N+3) a b) (h1:S1 i s.heap) (h2:S2 i s.heap) (hi:i=n1\/(i<n1/\i=n2))
  (k:∀h' e tk,(∀c o,c≠N->c≠N+1->c≠N+3->c≠N+4->s.heap.get? c=some o->h'.get? c=some o)->(∃o,h'.get? e=some o/\o.cls= .type "StopIteration")->E (.ref e) {s with heap:=h',toks:=tk}):
  wpAny (model prog w) A (Builtin.«zip.__next__» ⟨[.ref (N+4)],[]⟩) Q E s:=by
 obtain⟨f0,bb,hz,hf⟩:=hz';refine(?_:wpAny _ _ (field (.ref (N+4)) 2>>=_) _ _ _);refine qav (qa4 hz rfl (x:= .bool false) rfl (?_:wpAny _ _ (field (.ref (N+4)) 3>>=_) _ _ _));refine qav (qa4 hz rfl (x:= .ref (N+2)) rfl (qav (qbZ hTI rfl (?_:wpAny _ _ (Builtin.SmallTypes.ownedTupleIsFree (.ref (N+4))>>=_) _ _ _))));refine qav (zrR hz hf ?_ fun g0 z0 s0=>?_)
 ·simp only[if_true];refine qav (qbV (qav (qa4 hz rfl (x:= .ref (N+3)) rfl (qav (qb3 hz (by simp) fun g1 z1 s1=>qav ?_)))))
  replace z1:zeD g1 (N+4) (N+2) (N+3) .ellipsis bb:=z1
  simp only[qb4,qb5,qbJ,qbP];refine qav (qav (qb6 (?_:wpAny _ _ (Builtin.SmallTypes.nextOf (.ref N)>>=_) _ _ _)));have e1:S1 i g1:=D1.frame _ _ _ h1 fun b hb o e=>(s1.2 b (nin2 hb (by ac_rfl) (by ac_rfl))).trans e
  rcases hi with rfl|⟨i1,rfl⟩
  ·refine qav (D1.done _ _ _ e1 fun g2 e x2 he=>?_);obtain⟨oe,hoe,hce⟩:=he;have z2:zeD g2 (N+4) (N+2) (N+3) .ellipsis bb:=x2 _ _ (ne_ (by ac_rfl)) z1;have hez:e≠N+4:=fun x=>by subst x;rw[z2]at hoe;cases hoe;simp at hce
   exact qb3 z2 (by simp) fun g3 _ s3=>k g3 e _ (fun c o c1 c2 c3 c4 x=>(s3.2 c c4).trans (x2 c o c1 ((s1.2 c c4).trans x))) ⟨oe,(s3.2 _ hez).trans hoe,hce⟩
  ·refine qav (D1.item i _ _ _ i1 e1 fun x g2 t2 p1 f2 s2=>qaz ?_);have q2:IsPair g2 (N+3) a b:=(s2.2 _ (ne_ (by ac_rfl))).trans ((s1.2 _ (ne_ (by ac_rfl))).trans hTO);refine qav (qbZ q2 rfl (qav (qck q2 fun g3 q3 s3=>qav (qb7 (qaz ?_)))))
   replace q3:IsPair g3 (N+3) x b:=q3
   refine qav (qav (qb6 (?_:wpAny _ _ (Builtin.SmallTypes.nextOf (.ref (N+1))>>=_) _ _ _)));have e3:S2 i g3:=D2.frame _ _ _ h2 fun b hb o e=>(s3.2 b (nin2 hb (by ac_rfl) (by ac_rfl))).trans ((s2.2 b (nin2 hb (by ac_rfl) (by ac_rfl))).trans ((s1.2 b (nin2 hb (by ac_rfl) (by ac_rfl))).trans e))
   refine qav (D2.done _ _ _ e3 fun g4 e x4 he=>?_);obtain⟨oe,hoe,hce⟩:=he;have z3:zeD g3 (N+4) (N+2) (N+3) .ellipsis bb:=(s3.2 _ (ne_ (by ac_rfl))).trans ((s2.2 _ (ne_ (by ac_rfl))).trans z1);have z4:zeD g4 (N+4) (N+2) (N+3) .ellipsis bb:=x4 _ _ (ne_ (by ac_rfl)) z3;have hez:e≠N+4:=fun x=>by subst x;rw[z4]at hoe;cases hoe;simp at hce
   exact qb3 z4 (by simp) fun g5 _ s5=>k g5 e _ (fun c o c1 c2 c3 c4 x=>(s5.2 c c4).trans (x4 c o c2 ((s3.2 c c3).trans ((s2.2 c c1).trans ((s1.2 c c4).trans x))))) ⟨oe,(s5.2 _ hez).trans hoe,hce⟩
 ·simp only[qbQ,qa3,List.forIn_toArray,qbJ,qbP];have e0:S1 i g0:=D1.frame _ _ _ h1 fun b hb o e=>(s0.2 b (nin2 hb (by ac_rfl) (by ac_rfl))).trans e
  refine qav (qav (qav (qaw (?_:wpAny _ _ (Builtin.SmallTypes.nextOf (.ref N)>>=_) _ _ _))));rcases hi with rfl|⟨i1,rfl⟩
  ·refine qav (D1.done _ _ _ e0 fun g2 e x2 he=>?_);exact k g2 e _ (fun c o c1 c2 c3 c4 x=>x2 c o c1 ((s0.2 c c4).trans x)) he
  ·refine qav (D1.item i _ _ _ i1 e0 fun x g2 t2 p1 f2 s2=>qaz (qaz ?_));refine qav (qav (qaw (?_:wpAny _ _ (Builtin.SmallTypes.nextOf (.ref (N+1))>>=_) _ _ _)));have e3:S2 i g2:=D2.frame _ _ _ h2 fun b hb o e=>(s2.2 b (nin2 hb (by ac_rfl) (by ac_rfl))).trans ((s0.2 b (nin2 hb (by ac_rfl) (by ac_rfl))).trans e)
   refine qav (D2.done _ _ _ e3 fun g4 e x4 he=>?_);exact k g4 e _ (fun c o c1 c2 c3 c4 x=>x4 c o c2 ((s2.2 c c1).trans ((s0.2 c c4).trans x))) he
end
theorem ZipAt.at {h h':Heap}{z TI TO:Addr}(x:ZipAt h z TI TO)(e:∀o,h.get? z=some o->h'.get? z=some o):ZipAt h' z TI TO:=by
 obtain⟨f0,b,q,r⟩:=x;exact⟨f0,b,e _ q,r⟩
theorem zoP {z TI TO:Addr}(hz:ZipAt s.heap z TI TO)(h:Q (.ref z) s):wpAny (model prog w) A (pyIter (.ref z)) Q E s:=by
 obtain⟨f0,b,q,r⟩:=hz;have hT:s.TypeIs (.ref z) "zip":=⟨_,q,rfl⟩;exact wpAny_pyIter_slot hT F.slot_zip_iter (qa8 F.slot_zip_iter hT F.entry_zip_iter (qaz ⟨.ref z,rfl,"zip",.builtin "zip.__next__",hT,F.slot_zip_next.lookup,h⟩) (F.args_zip_iter_1 (.ref z)))
theorem letGoZ {z TI TO:Addr}{Q:Unit->Shared->Prop}(hz:ZipAt s.heap z TI TO)(h1:Q () s)
  (h2:∀h',ZipAt h' z TI TO->Heap.SameBut z s.heap h'->Q () {s with heap:=h'}):wpAny (model prog w) A (letOwnedTupleGo tg (.ref z) u) Q E s:=by
 obtain⟨f0,b,q,r⟩:=hz;have core:∀a:Addr,wpAny (model prog w) A (do
   let o<-load z
   match o.cls,o.data with
    |Value.type n,Data.fields vs=>
     if(["enumerate","zip","dict_itemiterator","dict_reverseitemiterator","odict_iterator","itertools.zip_longest","itertools.pairwise"].contains n&&vs[0]? ==some (rawInt ↑a))=true then do
      rule "for.unpacks-the-owned-tuple"
      updateField z 0 Value.none
     else pure ()
    |x,x_1=>pure ()) Q E s:=fun a=>by
  refine qav (wpAny_load q ?_);dsimp only
  split
  ·refine qav (qbV ?_);refine(?_:wpAny _ _ (setField (.ref z) 0 .none) _ _ _);exact qb3 q (by simp) fun g1 z1 s1=>h2 g1 ⟨_,_,z1,.inl rfl⟩ s1
  ·exact qaz h1
 unfold letOwnedTupleGo;cases tg<;>first|exact qaz h1|(cases u<;>first|exact qaz h1|exact core _)
theorem zqa {P:Program}{w:World}(t1:Bool)(a1:Nat)(t2:Bool)(a2:Nat)(n N:Nat)(l1:a1<N)(l2:a2<N):
  Turn P w K tg (Itz2 K t1 a1 t2 a2 n) ([N,N+1,N+2,N+3,N+4]:List Nat) (N+4:Nat)
   (fun i h=>i<=n/\ZipAt h (N+4:Nat) (N+2:Nat) (N+3:Nat)/\IsPair h (N+2:Nat) (.ref N) (.ref (N+1:Nat))/\(∃a b,IsPair h (N+3:Nat) a b)/\SrcIt t1 h N a1 i/\SrcIt t2 h (N+1:Nat) a2 i) where
 mem:=by simp
 obj:=fun i h st b hb=>by
  obtain⟨-,h4,h2,⟨a,c,h3⟩,h0,h1⟩:=st;simp only[qam,qb9,or_false]at hb;rcases hb with rfl|rfl|rfl|rfl|rfl
  ·exact h0.obj
  ·exact h1.obj
  ·exact⟨_,h2,fun v z=>by cases z⟩
  ·exact⟨_,h3,fun v z=>by cases z⟩
  ·obtain⟨f0,bb,z4,-⟩:=h4;exact⟨_,z4,fun v z=>by cases z⟩
 keep:=fun i h h' st k=>by
  obtain⟨hi,h4,h2,⟨a,c,h3⟩,h0,h1⟩:=st;exact⟨hi,h4.at fun o e=>k _ (by simp) o e,k _ (by simp) _ h2,⟨a,c,k _ (by simp) _ h3⟩,h0.at fun o e=>k _ (by simp) o e,h1.at fun o e=>k _ (by simp) o e⟩
 item:=by
  intro X hP hw hK hc i pins s σ H E I hf st hg;subst hP hw hK;obtain⟨hi,h4,h2,⟨a,c,h3⟩,h0,h1⟩:=st;obtain⟨hn,xs,ys,q1,q2,en⟩:=hg;obtain⟨us,ru,hu,zu⟩:=q1.heap I;obtain⟨ws,rw',hw',zw⟩:=q2.heap I;have lu:=ru.length;have lw:=rw'.length;have D1:=zbs (prog:=X.prog) (w:=X.w) (A:=X.A.in1) (t:=t1) (I.ok.hd hc) N a1 (ne_ (by ac_rfl)) us.toArray;have D2:=zbs (prog:=X.prog) (w:=X.w) (A:=X.A.in1) (t:=t2) (I.ok.hd hc) (N+1) a2 (ne_ (by ac_rfl)) ws.toArray;have z4:=h4;obtain⟨f0,bb,z4,-⟩:=z4;have hT:s.TypeIs (.ref (N+4:Nat)) "zip":=⟨_,z4,rfl⟩;unfold pyNext;refine qav (qca (qa6 (name:=Str.ofString "__next__") hT qcb (qa8 qcb hT qcc
   (zqC D1 D2 l1 l2 h4 h2 h3 ⟨h0,hu⟩ ⟨h1,hw'⟩ (by simp;lia) (by simp;lia) fun x y h' tk p1 p2 g4 g3 g0 g1 gT kk=>qaz ?_) (qcd _))))
  obtain⟨x1,hx1⟩:∃x1,xs[i]? =some x1:=⟨xs[i]'(by lia),qbF _⟩;obtain⟨x2,hx2⟩:∃x2,ys[i]? =some x2:=⟨ys[i]'(by lia),qbF _⟩;obtain⟨u1,hu1,r1⟩:=ru.get hx1;obtain⟨u2,hu2,r2⟩:=rw'.get hx2;have e1:u1=x:=by
   have:us[i]? =some x:=by simpa using p1
   rw[hu1]at this;cases this;rfl
  have e2:u2=y:=by
   have:ws[i]? =some y:=by simpa using p2
   rw[hu2]at this;cases this;rfl
  subst e1 e2;refine⟨_,rfl,?_⟩;have fin:∀h'',ZipAt h'' (N+4:Nat) (N+2:Nat) (N+3:Nat)->Heap.SameBut (N+4:Nat) h' h''->∃x H',L2.Inv X pins σ H' {s with heap:=h'',toks:=tk}/\RelV x (.ref s.heap.objs.size)/\(Itz2 X.K t1 a1 t2 a2 n).yld i H x H'/\(i+1<=n/\ZipAt h'' (N+4:Nat) (N+2:Nat) (N+3:Nat)/\IsPair h'' (N+2:Nat) (.ref N) (.ref (N+1:Nat))/\(∃a b,IsPair h'' (N+3:Nat) a b)/\SrcIt t1 h'' N a1 (i+1)/\SrcIt t2 h'' (N+1:Nat) a2 (i+1))/\∀b∈([N,N+1,N+2,N+3,N+4]:List Nat),H' b=none:=fun h'' z'' sb=>by
   have lz:N+4<s.heap.objs.size:=qad z4;have kk':∀b o,b∉([N,N+1,N+2,N+3,N+4]:List Nat)->s.heap.get? b=some o->h''.get? b=some o:=fun b o hb e=>by
    obtain⟨c1,c2,c3,c4⟩:=nin4 hb;exact(sb.2 b c4).trans (kk b o c1 c2 c3 c4 e)
   have I1:=zoe (t':=tk) (vs:=[x1,x2]) (its:=[u1,u2]) I kk' hf (fun b hb=>by
    have:b=N\/b=N+1\/b=N+2\/b=N+3\/b=N+4:=by simpa using hb
    exact qbG (show(b:Nat)<=N+4 by rcases this with h|h|h|h|h<;>rw[h]<;>simp) lz) ((sb.2 _ (ne_ (by ac_rfl))).trans gT) (by simp;rw[qaI];decide) (.cons r1 (.cons r2 .nil))
   refine⟨.ref s.heap.objs.size,_,I1,rfl,⟨_,x1,x2,I.hok.fresh (qaE _),rfl,rfl,fun xs' ys' b1 b2=>?_⟩,⟨hn,z'',(sb.2 _ (ne_ (by ac_rfl))).trans (kk _ _ (ne_ (by ac_rfl)) (ne_ (by ac_rfl)) (ne_ (by ac_rfl)) (ne_ (by ac_rfl)) h2),(let⟨a',b',e'⟩:=g3;⟨a',b',(sb.2 _ (ne_ (by ac_rfl))).trans e'⟩),SrcIt.at g0.1 fun o e=>(sb.2 _ (ne_ (by ac_rfl))).trans e,SrcIt.at g1.1 fun o e=>(sb.2 _ (ne_ (by ac_rfl))).trans e⟩,fun b hb=>?_⟩
   ·rw[SrcSq.inj I b1 q1,SrcSq.inj I b2 q2];exact⟨hx1,hx2⟩
   ·have:b=N\/b=N+1\/b=N+2\/b=N+3\/b=N+4:=by simpa using hb
    rw[zaw (qag (qbG (show(b:Nat)<=N+4 by rcases this with h|h|h|h|h<;>rw[h]<;>simp) lz))]
    exact(hf b hb).1
  exact letGoZ (s:={s with heap:=h',toks:=tk}) g4 (fin h' g4 ⟨rfl,fun _ _=>rfl⟩) fun h'' z'' sb=>fin h'' z'' sb
 done:=by
  intro X hP hw hK hc i pins s σ H E I hf st hg;subst hP hw hK;obtain⟨hi,h4,h2,⟨a,c,h3⟩,h0,h1⟩:=st;obtain⟨hn,xs,ys,q1,q2,en⟩:=hg;obtain⟨us,ru,hu,zu⟩:=q1.heap I;obtain⟨ws,rw',hw',zw⟩:=q2.heap I;have lu:=ru.length;have lw:=rw'.length;have D1:=zbs (prog:=X.prog) (w:=X.w) (A:=X.A.in1) (t:=t1) (I.ok.hd hc) N a1 (ne_ (by ac_rfl)) us.toArray;have D2:=zbs (prog:=X.prog) (w:=X.w) (A:=X.A.in1) (t:=t2) (I.ok.hd hc) (N+1) a2 (ne_ (by ac_rfl)) ws.toArray;have z4:=h4;obtain⟨f0,bb,z4,-⟩:=z4;have hT:s.TypeIs (.ref (N+4:Nat)) "zip":=⟨_,z4,rfl⟩;unfold pyNext;refine qav (qca (qa6 (name:=Str.ofString "__next__") hT qcb (qa8 qcb hT qcc
   (zrN D1 D2 l1 l2 h4 h2 h3 ⟨h0,hu⟩ ⟨h1,hw'⟩ (by simp;lia) fun h' e tk kk he=>?_) (qcd _))))
  obtain⟨o,ho,hce⟩:=he;refine qav (wpAny_isInstance (T:="StopIteration") (b:=true) ⟨o,ho,hce⟩ isSubtype_stop (qaz ⟨rfl,zmA I (fun b o hb e=>?_) hf⟩));obtain⟨c1,c2,c3,c4⟩:=nin4 hb;exact kk b o c1 c2 c3 c4 e
 self:=fun _ _ _ _ _ st h=>zoP st.2.1 h
theorem pi_zip2N {a b:Expr}{ta:TA}(hg:Gl X "zip")(hm:X.mg "zip"=none)(ha:PA X [a,b] ta)(hs:starEach [a,b] X.env=(false,eval a X.env)::starEach [b] X.env:=by rfl)(hs2:(backTo pos (starEach [b] X.env)).any (·.1)=false:=by rfl):
  PI X tg (.Call (.Name "zip" p) [a,b] [] pos) (fun σ H R=>ta σ H fun vs H1=>∃t1 a1 xs t2 a2 ys,vs=[.ref a1,.ref a2]/\SrcSq t1 X.K H1 a1 xs/\SrcSq t2 X.K H1 a2 ys/\R (Itz2 X.K t1 a1 t2 a2 (min xs.length ys.length)) H1):=by
 intro pins s σ H R I h;refine Call_ (zj3 I hg hm zo0 (qaF (thn (ha pos pins s σ H _ I h) fun us s1 ⟨vs,H1,I1,r1,q1⟩=>?_) hs hs2));obtain⟨t1,a1,xs,t2,a2,ys,e,q1,q2,q⟩:=q1;subst e;cases r1 with
 |cons r rr=>
  cases rr with
  |cons r' rr=>
   cases rr;cases r;cases r';obtain⟨us,ru,hu,-⟩:=q1.heap I1;obtain⟨ws,rw',hw',-⟩:=q2.heap I1;refine zqP hu hw' fun h' g4 g2 g3 g0 g1 kk=>wpAny_pyIter_zip g4 ⟨_,_,_,_,H1,rfl,I1.kept (t':=s1.toks) kk,zqa t1 a1 t2 a2 (min xs.length ys.length) s1.heap.objs.size hu.lt hw'.lt,⟨qbB _,⟨_,_,g4,.inl rfl⟩,g2,⟨_,_,g3⟩,g0,g1⟩,fun b hb=>?_,q⟩
   have:b=s1.heap.objs.size\/b=s1.heap.objs.size+1\/b=s1.heap.objs.size+2\/b=s1.heap.objs.size+3\/b=s1.heap.objs.size+4:=by simpa using hb
   have le:s1.heap.objs.size<=b:=by rcases this with h|h|h|h|h<;>rw[h]<;>simp
   exact I1.fpOk le (I1.hok.fresh le)
theorem ziw {a b:Expr}{ma:MA}(hm:X.mg "zip"=none)(ha:SA X [a,b] ma)(hg:Gl X "zip":=by rfl)(hs:starEach [a,b] X.env=(false,eval a X.env)::starEach [b] X.env:=by rfl)(hs2:(backTo pos (starEach [b] X.env)).any (·.1)=false:=by rfl):
  SIt X tg (.Call (.Name "zip" p) [a,b] [] pos) (iZ2 ma):=by
 refine ha.el fun t pa sa=>?_
 refine⟨_,pi_zip2N hg hm pa hs hs2,fun B G H σ ρ ds ρ' Q I hm k=>?_⟩;refine zaJ hm fun es ρ1 e1 h2=>?_
 dsimp only at h2;refine sa B G H σ ρ es ρ1 _ I e1 fun G1 H1 vs I1 f1 r1=>?_
 split at h2
 ·refine cBel h2 fun xs ex h2=>?_
  refine cBel h2 fun ys ey h2=>?_
  obtain⟨rfl,rfl⟩:=cSp h2;obtain⟨x,y,rfl,rx,ry⟩:=r1.two;obtain⟨t1,a1,us,rfl,s1,c1⟩:=zlI rx ex;obtain⟨t2,a2,ws,rfl,s2,c2⟩:=zlI ry ey;have n1:=c1.length;have n2:=c2.length;refine⟨t1,a1,us,t2,a2,ws,rfl,s1 _ I1.fz,s2 _ I1.fz,k _ G1 H1 I1 f1 ⟨fun H i f hi=>?_,fun H i x H' f y d e=>?_,fun H i f hi=>?_⟩⟩
  ·exact⟨by simp[zoF]at hi;lia,us,ws,s1 _ f,s2 _ f,rfl⟩
  ·obtain⟨p,x1,x2,hp,eh,ex',q⟩:=y;obtain⟨q1,q2⟩:=q us ws (s1 _ f) (s2 _ f);simp only[zoF,qce]at e
   split at e
   ·rename_i d1 d2 g1 g2;cases e;obtain⟨v1,b1,r1⟩:=c1.get g1;obtain⟨v2,b2,r2⟩:=c2.get g2;rw[q1]at b1;cases b1;rw[q2]at b2;cases b2;exact .inr ⟨p,_,_,hp,eh,ex',rfl,⟨_,_,rfl,r1,_,_,rfl,r2,rfl⟩⟩
   ·exact cNN e
  ·exact⟨by simp[zoF]at hi;lia,us,ws,s1 _ f,s2 _ f,rfl⟩
 ·exact cNN h2
end M
namespace M
open L2 PySem PySem.Spec
open PyProof.Rows hiding St
theorem ndk {l:List Str}(h:decide l.Nodup=true:=by kernel_rfl):l.Nodup:=qbD h
theorem us_0 {p:List Value->Prop}(h:p []):∀us:List Value,us.length=0->p us:=fun us e=>by
 cases us with
 |nil=>exact h
 |cons=>cases e
theorem us_s {p:List Value->Prop}{n:Nat}(h:∀(a:Value) (us:List Value),us.length=n->p (a::us)):∀us:List Value,us.length=n+1->p us:=fun us e=>by
 cases us with
 |nil=>cases e
 |cons a us=>exact h a us (Nat.succ.inj e)
section
variable {P:Program} {w:World} {K:W.Frag} {mg:Str->Option Value} {base hp:Heap} {x:Str} {st:Stmt} {f:Addr}
noncomputable def FnAt (K:W.Frag)(x:Str)(st:Stmt):Prop:=∃f fd,W.nsIn K mainGlobals x=some (some (.ref f))/\Fun K x x st f fd
theorem FnAt.mk {oc:Value}{od an:Option Addr}{osl:Array (Option Value)}{kV doc pm cdv ct:Value}(a:W.nsIn K mainGlobals x=some (some (.ref f)))(l:K.lookup f=some ⟨oc,od,.func (W.fnOf x x (zgP st) (zde st) (zaT st) .none kV doc pm an cdv ct),osl⟩)
  (c:W.codeIn K cdv x=true) (k:W.keepIn K (.ref f)=true):FnAt K x st:=⟨f,_,a,fun_mk l c k⟩
noncomputable abbrev BindsAt (x:Str)(st:Stmt)(ps:List Str):Prop:=∀(kV doc pm:Value) (an:Option Addr) (cdv ct:Value) (us:List Value),us.length=ps.length->bindArgs (W.fnOf x x (zgP st) (zde st) (zaT st) .none kV doc pm an cdv ct) ⟨us,[]⟩=pure (ps.zip us)
theorem FnAt.law (h:FnAt K x st)(X:K.In hp)(G:hp.Ns mainGlobals mg)(hf:mg x=some (.ref f)):∃kV doc pm an cdv ct,Fun K x x st f (W.fnOf x x (zgP st) (zde st) (zaT st) .none kV doc pm an cdv ct):=by
 obtain⟨f',fd,a,T⟩:=h;have e:=hf.symm.trans (W.mg_of X G a);cases e;obtain⟨oc,od,kV,doc,pm,an,cdv,ct,osl,rfl,lk,hcd⟩:=id T.ex;exact⟨kV,doc,pm,an,cdv,ct,T⟩
variable {N:List Str} {k n:Nat} {m:MS}
noncomputable abbrev Bd (P:Program)(w:World)(K:W.Frag)(mg:Str->Option Value)(base:Heap)(x:Str)(st:Stmt)(N:List Str)(k:Nat)(m:MS):Prop:=∀(f:Addr) (cdv:Value) (A:Around) (outer:List Env) (s:Shared) (H:Hp) (E:XK),Room k (A.deeper (PyProof.Rows.envOfC x (zaT st) s.heap.objs.size f cdv))->N.Nodup->SSs (cxOf CX0 P w K mg base N x (zaT st) f cdv A outer s H E).nox (zde st) m
structure DefOk (x:Str) (st:Stmt) (N:List Str) (n:Nat):Prop where
 sc:FnScope N (N.take n) (zaT st)
 len:(N.take n).length=n
 le:n<=N.length
 bs:BindsAt x st (N.take n)
theorem lawP {fd:FuncData}(F:Fun K x x st f fd)(b:Bd P w K mg base x st N k m)(d:DefOk x st N n:=by exact⟨⟨rfl,rfl,rfl,by decide+kernel,rfl,by decide+kernel,by decide+kernel⟩,rfl,by decide,fun _ _ _ _ _ _=>by repeat (first | exact us_0 rfl | refine us_s fun _ => ?_)⟩):FnOk P w K mg base CX0 (k+1) f fd (N.take n) (spP K n (fP N.length m)):=fnP_ok F d.sc d.len d.le fun cdv A outer s H E hr=>b _ cdv A outer s H E hr d.sc.nd
theorem fdP (X:K.In hp)(G:hp.Ns mainGlobals mg)(h:FnAt K x st)(b:Bd P w K mg base x st N k m)(d:DefOk x st N n:=by exact⟨⟨rfl,rfl,rfl,by decide+kernel,rfl,by decide+kernel,by decide+kernel⟩,rfl,by decide,fun _ _ _ _ _ _=>by repeat (first | exact us_0 rfl | refine us_s fun _ => ?_)⟩):FD P w K mg base (k+1) x (spP K n (fP N.length m)):=
 let⟨f,fd,a,T⟩:=h
 ⟨⟨f,fd,_,fnP_ok T d.sc d.len d.le fun cdv A outer s H E hr=>b _ cdv A outer s H E hr d.sc.nd,W.mg_of X G a,T.kp,T.binds d.bs⟩⟩
theorem fdM (X:K.In hp)(G:hp.Ns mainGlobals mg)(h:FnAt K x st)(b:Bd P w K mg base x st N k m)(d:DefOk x st N n:=by exact⟨⟨rfl,rfl,rfl,by decide+kernel,rfl,by decide+kernel,by decide+kernel⟩,rfl,by decide,fun _ _ _ _ _ _=>by repeat (first | exact us_0 rfl | refine us_s fun _ => ?_)⟩):FD P w K mg base (k+1) x (spM K n (fM N.length m)):=
 let⟨f,fd,a,T⟩:=h
 ⟨⟨f,fd,_,fnM_ok T d.sc d.len d.le fun cdv A outer s H E hr=>b _ cdv A outer s H E hr d.sc.nd,W.mg_of X G a,T.kp,T.binds d.bs⟩⟩
end
end M
namespace M
open PySem
section
variable {prog:Program} {w:World} {A:Around} {E:Value->Shared->Prop} {s:Shared} {it d:Addr} {i ep:Nat} {es:Array DictEntry} {od:Obj}
theorem raw_item {Q:Option Value->Shared->Prop}(ki:s.heap.IsKeyIter it d i es.size ep)(g1:s.heap.get? d=some od)(g2:od.data= .dict es ep)(hi:i<es.size)
  (k:∀h',h'.IsKeyIter it d (i+1) es.size ep->Heap.SameBut it s.heap h'->Q (some es[i].key) {s with heap:=h'}):wpAny (model prog w) A (pyNext (.ref it)) Q E s:=by
 obtain⟨oi,q1,q2,q3⟩:=id ki;have no:Builtin.Dict_items.ownsTuple "dict_keyiterator"=false:=by decide
 unfold pyNext;refine qav (qca (qa6 (name:=Str.ofString "__next__") ki.typeIs qcl (qa8 qcl ki.typeIs F.entry_dict_keyiterator_next ?_ (F.args_dict_keyiterator_next_1 _))));refine qav (qaz (qav (qav ?_)))
 first|refine qav (qcm ki.typeIs (qaz ?_))|refine qav (qcn ki.typeIs (qaz ?_))
 refine qav (wpAny_fieldsOf q1 q3 ?_);simp only[no,qbQ,qa3];show wpAny _ _ (if(Value.ref d==Value.none)=true then _ else _) _ _ s;rw[if_neg (show ¬((Value.ref d==Value.none)=true)from qay)];refine qav (qaz (qav (wpAny_dictEntries g1 g2 ?_)));rw[if_neg (by simp)];refine qav (qaz (qav (wpAny_dictEpoch g1 g2 ?_)));rw[if_neg (by simp)];refine qaz ?_;simp only[show ¬((i:Int)<0)from by lia,qa3,qa2,Array.getElem?_eq_getElem hi];refine qav ?_
 first|refine qav (qcm ki.typeIs (qaz ?_))|refine qav (qcn ki.typeIs (qaz ?_))
 refine qav (wpAny_isOneOf_keyiter ki.typeIs ?_);show wpAny _ _ (setField (.ref it) 1 (rawInt ((i:Int)+1))>>=_) _ _ s;refine qav (qb1 q1 q3 (by simp) ?_);have ki':(s.heap.update it (Obj.mapFields (·.setIfInBounds 1 (rawInt ((i:Int)+1))))).IsKeyIter it d (i+1) es.size ep:=
  ⟨_,qbd _ q1 (Obj.isFreed_of_fields (qb0 q3 _)),(Obj.cls_mapFields ..).trans q2,by rw[qb0 q3];simp[rawInt]⟩
 refine qav (qaw (qav (wpAny_isOneOf_keyiter (s:={s with heap:=s.heap.update it (Obj.mapFields (·.setIfInBounds 1 (rawInt ((i:Int)+1))))}) ki'.typeIs ?_)));show wpAny _ _ (pure es[i].key) _ _ _;exact qaz (qaz ⟨_,rfl,qaz (k _ ki' (qb2 ..))⟩)
theorem raw_end {Q:Option Value->Shared->Prop}(hh:A.handled=none)(ki:s.heap.IsKeyIter it d i es.size ep)(g1:s.heap.get? d=some od)(g2:od.data= .dict es ep)(hi:es.size<=i)
  (k:∀h',Heap.ExtBut it s.heap h'->Q none {s with heap:=h'}):wpAny (model prog w) A (pyNext (.ref it)) Q E s:=by
 obtain⟨oi,q1,q2,q3⟩:=id ki;have no:Builtin.Dict_items.ownsTuple "dict_keyiterator"=false:=by decide
 unfold pyNext;refine qav (qca (qa6 (name:=Str.ofString "__next__") ki.typeIs qcl (qa8 qcl ki.typeIs F.entry_dict_keyiterator_next ?_ (F.args_dict_keyiterator_next_1 _))));refine qav (qaz (qav (qav ?_)))
 first|refine qav (qcm ki.typeIs (qaz ?_))|refine qav (qcn ki.typeIs (qaz ?_))
 refine qav (wpAny_fieldsOf q1 q3 ?_);simp only[no,qbQ,qa3];show wpAny _ _ (if(Value.ref d==Value.none)=true then _ else _) _ _ s;rw[if_neg (show ¬((Value.ref d==Value.none)=true)from qay)];refine qav (qaz (qav (wpAny_dictEntries g1 g2 ?_)));rw[if_neg (by simp)];refine qav (qaz (qav (wpAny_dictEpoch g1 g2 ?_)));rw[if_neg (by simp)];refine qaz ?_;simp only[show ¬((i:Int)<0)from by lia,qa3,qa2,Array.getElem?_eq_none hi];refine qav ?_
 first|refine qav (qcm ki.typeIs (qaz ?_))|refine qav (qcn ki.typeIs (qaz ?_))
 show wpAny _ _ (setField (.ref it) 0 .none>>=_) _ _ s;refine qav (qb1 q1 q3 (by simp) ?_);show wpAny _ _ (newExc (.type "StopIteration") []>>=_) _ _ _;refine qav ?_;simp only[newExc,newTuple];refine qav (qba ?_ (by size_fits));refine qav (m:=firstArgMember _ _) (wpAny_of_eq (a:=Value.none) (by first|rfl|(simp only[firstArgMember];rfl)) ?_);refine qba ?_ (by size_fits);simp only[raiseNew];refine qav (wpAny_handled ?_);rw[show A.in1.handled=none from hh];refine qav (qaz (wpAny_throw ?_));refine qav (wpAny_isInstance (b:=true) (T:="StopIteration") ⟨_,qaD _ rfl,rfl⟩ isSubtype_stop ?_);exact qaz (k _ (((qb2 ..).extBut.push _).push _))
theorem raw_iter {Q:Value->Shared->Prop}(nm:(d==sysModules)=false)(g1:s.heap.get? d=some od)(g0:od.ExactDict)(g2:od.data= .dict es ep)
  (k:Q (.ref s.heap.objs.size) {s with heap:=s.heap.push {cls:= .type "dict_keyiterator",data:= .fields #[.ref d,.int 0 0,.int es.size 0,.int ep 0]}}):wpAny (model prog w) A (pyIter (.ref d)) Q E s:=by
 have hT:s.TypeIs (.ref d) "dict":=⟨od,g1,g0.1⟩;refine wpAny_pyIter_slot hT F.slot_dict_iter (qa8 F.slot_dict_iter hT F.entry_dict_iter ?_ (F.args_dict_iter_1 _));unfold Builtin.«dict.__iter__»;refine qav ?_;unfold Builtin.Dict.dictSlotNone;refine qav (wpAny_notOrdered_dict hT ?_);show wpAny _ _ (pure (Value.ref d)) _ _ s;refine qaz ?_;show wpAny _ _ (Builtin.Dict.showsAll d>>=_) _ _ s;unfold Builtin.Dict.showsAll;rw[if_neg (by rw[nm];exact qay)];refine qav (qaz (qav (wpAny_dictEntries g1 g2 (qav (wpAny_dictEpoch g1 g2 ?_)))));refine qav (qba (qaz ⟨_,rfl,"dict_keyiterator",_,⟨_,qaD _ rfl,rfl⟩,F.slot_dict_keyiterator_next.lookup,?_⟩));simpa[rawInt]using k
end
end M
namespace M
open L2 PySem PySem.Spec
open PyProof.Rows hiding St
variable {k n ns:List Int} {u:Value} {v:V} {K:W.Frag} {tg:Expr} {B:Bs} {G H:Hp} {σ:St} {ρ:R} {j i:Nat} {s:Sl} {q:List (List Int)×List D} {d:D} {p:Addr} {ks:List (List Int)} {ds es:List D} {ov:Option (Option V)}
variable {P:Program} {w:World} {H G:Hp} {h:Heap} {a b:Addr} {o:Obj} {xs:List (List L2.Key×Addr×Value)} {ks:List (List Int)} {ys:List (List L2.Key×V)}
theorem th_eq (k:List Int):reduceHash (Builtin.Tuple.tupleHashOf ((k.map kI).map hI))=(tupleKind (zcK P w)).hash (k.map kI):=by
 have e:(k.map kI).map hI=(k.map kI).map (keyH w):=by rw[qch,qch];exact qci fun _ _=>rfl
 rw[e]
 rfl
theorem te_one {q:List L2.Key×Addr×Value}(e:q.1=k.map kI):(⟨reduceHash (Builtin.Tuple.tupleHashOf (q.1.map hI)),.ref q.2.1,q.2.2⟩:DictEntry)=entryOfKey (tupleKind (zcK P w)) q:=by
 unfold entryOfKey;rw[e,th_eq (P:=P) (w:=w)]
theorem te_eq (kt:KT G ys xs)(e:ys.map (·.1)=ks.map (·.map kI)):(xs.map fun x=>(⟨reduceHash (Builtin.Tuple.tupleHashOf (x.1.map hI)),.ref x.2.1,x.2.2⟩:DictEntry))=xs.map (entryOfKey (tupleKind (zcK P w))):=by
  induction kt generalizing ks with
  |nil=>rw[qbb,qbb]
  | @cons p q ps qs h t ih=>
    cases ks with
    |nil=>cases e
    |cons k ks=>
      have e2:=List.cons.inj e;rw[qbc,qbc,ih e2.2];exact congrArg (· ::_) (te_one (h.1.symm.trans e2.1))
theorem kn_at (ok:HOk P w H h)(e:H a=some (kn a o)):h.get? a=some o:=(show ObjOk P w H h a (kn a o)from ok a _ e).1
theorem kn_ok (e:h.get? a=some o):ObjOk P w H h a (kn a o):=⟨e,⟨o,e⟩,fun _ _ e1 k=>k o e1⟩
theorem DtI.of (d:DtI H a o xs ks ys)(ok:HOk P w H h)(e:H a=some (kn a o)):h.DictOfH (tupleKind (zcK P w)) a xs:=by
 obtain⟨h1,⟨es,ep,h2,h3⟩,h4⟩:=d.dn;refine⟨o,es,ep,kn_at ok e,h1,h2,h3.trans (te_eq d.kt d.key),?_,h4⟩;have all:∀{l:List (List L2.Key×V)} {m:List (List L2.Key×Addr×Value)},KT H l m->∀x∈m,(tupleKind (zcK P w)).is h x.1 x.2.1:=by
  intro l m q
  induction q with
  |nil=>intro x hx;exact nomatch hx
  | @cons p q ps qs hq t ih=>
   intro x hx;rcases qam.mp hx with e|hx
   ·subst e;exact zmX ok (by rw[<-hq.1];exact hq.2.1)
   ·exact ih x hx
 exact all d.kt
theorem DtN.of (d:DtI H a o xs ks ys)(rv:RelV v u)(hb:H b=some (.tup ((k.map kI).map kV)))(dd:h.DictOfH (tupleKind (zcK P w)) a (storedH xs (k.map kI) b u)):∃o',h.get? a=some o'/\DtN o' (storedH xs (k.map kI) b u):=by
 obtain⟨o',es,ep,h1,h2,h3,h4,h5,h6⟩:=dd;have kt:=KT.put d.kt (k.map kI) hb rv;have key:∃ks':List (List Int),(putK ys (k.map kI) v).map (·.1)=ks'.map (·.map kI):=by
  unfold putK
  split
  ·refine⟨ks,?_⟩;rw[<-d.key,qch];refine qci fun p _=>?_
   show(if p.1=k.map kI then(p.1,v)else p).1=p.1
   split<;>rfl
  ·exact⟨ks++[k],by rw[qcj,qcj,d.key];rfl⟩
 obtain⟨ks',key⟩:=key;exact⟨o',h1,h2,⟨es,ep,h3,h4.trans (te_eq kt key).symm⟩,h6⟩
noncomputable def Itk (d:Addr)(o:Obj)(xs:List (List L2.Key×Addr×Value)):It:=
 ⟨fun i H=>H d=some (kn d o)/\i<xs.length,fun i H x H'=>H'=H/\∃q,xs[i]? =some q/\x= .ref q.2.1,fun i H=>H d=some (kn d o)/\xs.length<=i⟩
theorem zql (d it:Addr)(dn:DtN o xs):Turn P w K tg (Itk d o xs) [it] it (fun i h=>∃es ep,o.data= .dict es ep/\h.IsKeyIter it d i xs.length ep) where
 mem:=by simp
 obj:=fun i h ⟨es,ep,_,st⟩ b hb=>by
  have e:b=it:=by simpa using hb
  subst e;obtain⟨o,e,c,d⟩:=st;exact⟨o,e,fun v z=>by rw[d]at z;cases z⟩
 keep:=fun i h h' ⟨es,ep,q,st⟩ k=>⟨es,ep,q,st.at fun o e=>k it (by simp) o e⟩
 item:=by
  intro X hP hw hK hc i pins s σ H E I hf ⟨es,ep,q,st⟩ hg;subst hP hw hK;have g:=kn_at I.hok hg.1;obtain⟨h1,⟨es',ep',h2,he⟩,-⟩:=dn;rw[h2]at q;cases q;have hz:es.size=xs.length:=by have:=congrArg List.length he;simpa using this
  obtain⟨f0,f1,f2,f3,f4,f5⟩:=hf it (by simp);have hi:i<es.size:=by rw[hz];exact hg.2
  rw[<-hz]at st;refine raw_item st g h2 hi fun h' st' sb=>?_
  have I1:Inv X pins σ H {s with heap:=h'}:=I.turned (t':=s.toks) (fun b o hb e=>(sb.2 b hb).trans e) f0 f1 f3 f4 f5;obtain⟨o',e,c,d'⟩:=id st';have hx:xs[i]? =some (xs[i]'hg.2):=qbF hg.2;have key:es[i].key= .ref (xs[i]'hg.2).2.1:=by
   have h1:es.toList[i]? =some es[i]:=by simp[hi]
   rw[he,qaT,hx]at h1;rw[<-Option.some.inj h1]
  rw[key];exact⟨_,rfl,zrK (s:={s with heap:=h'}) e c d' (by decide) ⟨.ref (xs[i]'hg.2).2.1,H,I1,rfl,⟨rfl,_,hx,rfl⟩,⟨es,ep,h2,by rw[<-hz];exact st'⟩,fun b hb=>(hf b hb).1⟩⟩
 done:=by
  intro X hP hw hK hc i pins s σ H E I hf ⟨es,ep,q,st⟩ hg;subst hP hw hK;have g:=kn_at I.hok hg.1;obtain⟨h1,⟨es',ep',h2,he⟩,-⟩:=dn;rw[h2]at q;cases q;have hz:es.size=xs.length:=by have:=congrArg List.length he;simpa using this
  obtain⟨f0,f1,f2,f3,f4,f5⟩:=hf it (by simp);rw[<-hz]at st;exact raw_end (I.ok.hd hc) st g h2 (by rw[hz];exact hg.2) fun h' eb=>⟨rfl,I.turned (t':=s.toks) (fun b o hb e=>eb b o hb e) f0 f1 f3 f4 f5⟩
 self:=fun _ _ _ _ _ ⟨_,_,_,st⟩ h=>wpAny_pyIter_keyiter st h
noncomputable def iKnown (tl:TE):TI:=fun σ H R=>tl σ H fun x H1=>∃d o xs,x= .ref d/\H1 d=some (kn d o)/\DtN o xs/\(d==sysModules)=false/\R (Itk d o xs) H1
theorem pi_known {X:Cx}{tg l:Expr}{tl:TE}(hl:PE X l tl):PI X tg l (iKnown tl):=by
 intro pins s σ H R I h;refine thn (hl pins s σ H _ I h) fun v s1 ⟨x,H1,I1,r1,q1⟩=>?_
 obtain⟨d,o,xs,e,hd,dn,ns,q⟩:=q1;subst e;cases r1;have g:=kn_at I1.hok hd;obtain⟨h1,⟨es,ep,h2,he⟩,-⟩:=id dn;have hz:es.size=xs.length:=by have:=congrArg List.length he;simpa using this
 refine raw_iter ns g h1 h2 ?_;refine⟨s1.heap.objs.size,[s1.heap.objs.size],_,_,H1,rfl,I1.kept (t':=s1.toks) fun b o e=>qaC _ e,zql d _ dn,⟨es,ep,h2,_,qaD _ rfl,rfl,by rw[hz];rfl⟩,fun b hb=>?_,q⟩;have e:b=s1.heap.objs.size:=by simpa using hb
 subst e;exact I1.fpOk (qaE _) (I1.hok.fresh (qaE _))
noncomputable def DtG (H:Hp)(x y:V)(r:Option V):Prop:=∃(a b:Addr) (o:Obj) (xs:List (List L2.Key×Addr×Value)) (ks:List (List Int)) (ys:List (List L2.Key×V)) (k:List Int),x= .ref a/\y= .ref b/\H a=some (kn a o)/\DtI H a o xs ks ys/\H b=some (.tup ((k.map kI).map kV))/\r=valV ys (k.map kI)
section
variable {X:Cx} {e i value:Expr} {td ty tv:TE} {pos pos':Pos}
noncomputable def tDGT (td ty:TE):TE:=fun σ H Q=>td σ H fun x H1=>ty σ H1 fun y H2=>∃v,DtG H2 x y (some v)/\Q v H2
theorem pe_dgetT (hu:X.A.units+1<cLine)(ho:PE X e td)(hi:PE X i ty)(hs:NoSl i):PE X (.Subscript e i pos) (tDGT td ty):=by
 intro pins s σ H Q I h;refine subD_of PySem.F.slot_dict_getitem.lookup hs (thn (ho pins s σ H _ I h) fun u s1 ⟨x,H1,I1,rx,q1⟩=>thn (hi pins s1 σ H1 _ I1 q1) fun iv s2 ⟨y,H2,I2,ry,v,g,q2⟩=>?_);obtain⟨a,b,o,xs,ks,ys,k,rfl,rfl,g1,g2,g3,g4⟩:=g;obtain rfl:u=Value.ref a:=rx;obtain rfl:iv=Value.ref b:=ry;have dd:=g2.of I2.hok g1;obtain⟨w',hw,rw'⟩:=RelO.some_of (v:=v) (o:=(atKey xs (k.map kI)).map (·.2)) (by rw[g4];exact KT.val g2.kt _);obtain⟨p,hp,hp2⟩:=Option.map_eq_some_iff.mp hw;refine⟨dd.typeIs,wpAny_getItem_heap (qco hu) (zmX I2.hok g3) dd hp ?_⟩;rw[hp2];exact⟨v,H2,I2.tok _,rw',q2⟩
noncomputable def tDNT (ty td:TE):TE:=fun σ H Q=>ty σ H fun y H1=>td σ H1 fun x H2=>∃r,DtG H2 x y r/\Q (.bl (!r.isSome)) H2
theorem zqj (hu:X.A.units+1<cLine)(hi:PE X i ty)(ho:PE X e td):PC X .NotIn i e (tDNT ty td):=by
 intro pins s σ H Q I h;refine thn (hi pins s σ H _ I h) fun iv s1 ⟨y,H1,I1,ry,q1⟩=>thn (ho pins s1 σ H1 _ I1 q1) fun u s2 ⟨x,H2,I2,rx,r,g,q2⟩=>?_
 obtain⟨a,b,o,xs,ks,ys,k,rfl,rfl,g1,g2,g3,g4⟩:=g;obtain rfl:u=Value.ref a:=rx;obtain rfl:iv=Value.ref b:=ry;have dd:=g2.of I2.hok g1;refine wpAny_notIn_heap (qco hu) (zmX I2.hok g3) g2.sys dd ?_;have q:=(KT.val g2.kt (k.map kI)).isSome_eq;rw[Option.isSome_map]at q;rw[<-q,<-g4];exact⟨.bl (!r.isSome),H2,I2.tok _,rfl,q2⟩
noncomputable def DtP (ys:List (List L2.Key×V))(xs:List (List L2.Key×Addr×Value))(b:Addr)(k:List Int)(v:V)(xs':List (List L2.Key×Addr×Value)):Prop:=∀G:Hp,KT G ys xs->G b=some (.tup ((k.map kI).map kV))->KT G (putK ys (k.map kI) v) xs'
noncomputable def sDPt (td ty tv:TE):TS:=fun D σ H=>tv σ H fun v H1=>td σ H1 fun x H2=>ty σ H2 fun y H3=>∃(a b:Addr) (o:Obj) (xs:List (List L2.Key×Addr×Value)) (ks:List (List Int)) (ys:List (List L2.Key×V)) (k:List Int),x= .ref a/\y= .ref b/\H3 a=some (kn a o)/\DtI H3 a o xs ks ys/\H3 b=some (.tup ((k.map kI).map kV))/\∀o' xs',DtN o' xs'->DtP ys xs b k v xs'->D.nx σ (upd H3 a (kn a o'))
theorem ps_dputT (hu:X.A.units+1<cLine)(ho:PE X e td)(hi:PE X i ty)(hv:PE X value tv)(hs:swapsWith value (some (.Subscript e i pos')) pos.line X.env=pure false):
  PS X (.Assign [.Subscript e i pos'] value pos) (sDPt td ty tv):=by
 intro pins s σ H D I h;refine wpAny_Assign_Subscript (thn (hv pins s σ H _ I h) fun r s1 ⟨v,H1,I1,rv,q1⟩=>thn (ho pins s1 σ H1 _ I1 q1) fun u s2 ⟨x,H2,I2,rx,q2⟩=>thn (hi pins s2 σ H2 _ I2 q2) fun iv s3 ⟨y,H3,I3,ry,a,b,o,xs,ks,ys,k,e1,e2,g1,g2,g3,q3⟩=>?_) hs;subst e1 e2;obtain rfl:u=Value.ref a:=rx;obtain rfl:iv=Value.ref b:=ry;have hz:xs.length<=sizeLine:=by rw[<-qac g2.kt];exact g2.len
 refine wpAny_setItem_heap (hsz:=hz) (qco hu) (zmX I3.hok g3) (g2.of I3.hok g1) fun h' dd' hs=>?_
 obtain⟨o',go,dn⟩:=DtN.of g2 rv g3 dd';exact⟨σ,_,zq5 I3 (by rw[g1];exact True.intro) hs ⟨o',go⟩ (kn_ok go),q3 o' _ dn fun G kt gb=>KT.put kt _ gb rv⟩
noncomputable def tDNewt:TE:=fun _ H Q=>∀p o,H p=none->(p==sysModules)=false->DtN o []->Q (.ref p) (upd H p (kn p o))
theorem pe_dnewt:PE X (.Dict [] [] pos) tDNewt:=fun pins s σ H Q I h=>
 wpAny_Dict_empty ⟨.ref s.heap.objs.size,_,I.laid (a:=s.heap.objs.size) (o:=kn s.heap.objs.size {cls:= .type "dict",data:= .dict #[]}) (t':=s.toks) (fun _ _ q=>qaC _ q) (qaE _) (kn_ok (qaD _ rfl)),rfl,h _ _ (I.hok.fresh (qaE _)) (qab.mpr (Ne.symm (qag I.big))) ⟨⟨rfl,rfl,rfl⟩,⟨#[],0,rfl,rfl⟩,List.nodup_nil⟩⟩
noncomputable def tD1T (tk tv:TE):TE:=fun σ H Q=>∀p o,H p=none->(p==sysModules)=false->DtN o []->zrj [(tk,tv)] σ (upd H p (kn p o)) fun ps H2=>∃(b:Addr) (k:List Int) (v:V),ps=[(.ref b,v)]/\H2 p=some (kn p o)/\H2 b=some (.tup ((k.map kI).map kV))/\∀o' xs',DtN o' xs'->DtP [] [] b k v xs'->Q (.ref p) (upd H2 p (kn p o'))
theorem zqK {k v:Expr}{tk tv:TE}(hu:X.A.units+1<cLine)(hk:PE X k tk)(hv:PE X v tv):PE X (.Dict [some k] [v] pos) (tD1T tk tv):=by
 intro pins s σ H Q I q;have ns:(s.heap.objs.size==sysModules)=false:=qab.mpr (Ne.symm (qag I.big));have d0:DtN {cls:= .type "dict",data:= .dict #[]} []:=⟨⟨rfl,rfl,rfl⟩,⟨#[],0,rfl,rfl⟩,List.nodup_nil⟩;have I1:=I.laid (a:=s.heap.objs.size) (o:=kn s.heap.objs.size {cls:= .type "dict",data:= .dict #[]}) (h':=s.heap.push {cls:= .type "dict",data:= .dict #[]}) (t':=s.toks) (fun _ _ q=>qaC _ q) (qaE _) (kn_ok (qaD _ rfl));refine wpAny_Dict_any rfl rfl (by simp) (by simp) (thn (pps_cons hk hv pps_nil pins _ σ _ _ I1 (q _ _ (I.hok.fresh (qaE s.heap.objs.size)) ns d0)) fun ws s2 ⟨ps,H2,I2,rel,b,k,v,e1,g1,g2,q2⟩=>?_);subst e1;cases rel with
 | @cons _ w' _ _ r1 rt=>
 cases rt;obtain⟨wk,wv⟩:=w';obtain rfl:wk=Value.ref b:=r1.1;have d1:DtI H2 s.heap.objs.size {cls:= .type "dict",data:= .dict #[]} [] [] []:=⟨ns,d0,qbB _,rfl,.nil⟩;unfold storeAll;rw[qbJ];refine qav (qav (wpAny_dictSet_heap (hsz:=qbB _) (by show _<cLine;lia) (zmX I2.hok g2) (d1.of I2.hok g1) fun h' dd' hs=>qaz ?_));show wpAny _ _ (forIn ([]:List (Value×Value)) PUnit.unit _) _ _ _;rw[qbP];refine qaz ?_;obtain⟨o',go,dn⟩:=DtN.of d1 r1.2 g2 dd';exact⟨.ref s.heap.objs.size,_,zq5 I2 (by rw[g1];exact True.intro) hs ⟨o',go⟩ (kn_ok go),rfl,q2 o' _ dn fun G kt gb=>KT.put kt _ gb r1.2⟩
end
noncomputable def Sl.dit:Sl->Option (List (List Int)×List D)
 | .tre (.dit ks ds)=>some (ks,ds)
 | .val (.dit ks ds)=>some (ks,ds)
 |_=>none
noncomputable def keyT:D->Option (List Int)
 | .tup es=>zby es
 |_=>none
theorem SI.dit (I:SI K B G H σ ρ)(e:ρ[j]? =some s)(h:s.dit=some q):∃p ys o xs,σ[j]? =some (some (.ref p))/\H p=some (kn p o)/\DtI G p o xs q.1 ys/\RepL K G (ys.map (·.2)) q.2:=by
 have tr:∀{t:T},s.tree=some t->t= .dit q.1 q.2->∃p ys o xs,σ[j]? =some (some (.ref p))/\H p=some (kn p o)/\DtI G p o xs q.1 ys/\RepL K G (ys.map (·.2)) q.2:=fun{t} h1 h2=>by
  subst h2;obtain⟨v,A,k1,⟨p,ys,o,xs,rfl,e2,e3,e4,-⟩,_⟩:=I.tree e h1;exact⟨p,ys,o,xs,k1,e2,e3,e4⟩
 cases s with
 |tre t=>cases t with
  |dit ks ds=>obtain⟨rfl,rfl⟩:=cSp h;exact tr rfl rfl
  |_=>exact cNN h
 |val d=>cases d with
  |dit ks ds=>
   obtain⟨rfl,rfl⟩:=cSp h;obtain⟨v,k1,a,ys,o,xs,rfl,e2,e3,e4⟩:=I.slot j _ e;exact⟨a,ys,o,xs,k1,I.fz _ _ e2,e3,e4⟩
  |_=>exact cNN h
 |_=>exact cNN h
theorem zmJ (r:RepD K G v d)(e:keyT d=some k):∃b,v= .ref b/\G b=some (.tup ((k.map kI).map kV)):=by
 cases d with
 |tup es=>
  obtain⟨b,xs,rfl,h,rl⟩:=r;cases zg8 e;rw[RepL.ints_eq rl]at h;refine⟨b,rfl,h.trans ?_⟩;rw[qch]
  rfl
 |_=>exact cNN e
noncomputable def tDIT (j:Nat)(neg:Bool)(mk:ME):MT:=fun ρ=>(mk ρ).bind fun p=>(keyT p.1).bind fun k=>(p.2[j]?.bind Sl.dit).map fun q=>(((lkD q.1 q.2 k).isSome !=neg),p.2)
noncomputable def eDGT (j:Nat)(mk:ME):ME:=fun ρ=>if(ρ[j]?.bind Sl.dit).isSome then(mk ρ).bind fun p=>(keyT p.1).bind fun k=>(p.2[j]?.bind Sl.dit).bind fun q=>(lkD q.1 q.2 k).map fun d=>(d,p.2)else none
noncomputable def sDPT (j:Nat)(mk me:ME):MS:=fun ρ=>(me ρ).bind fun p=>if(p.2[j]?.bind Sl.dit).isSome then(mk p.2).bind fun q=>(keyT q.1).bind fun k=>q.2[j]?.bind fun s=>match s.tree with
  |some (.dit ks ds)=>if ks.length<16777216 then some (.next,q.2.set j (s.putT (.dit (ptD ks ds k p.1).1 (ptD ks ds k p.1).2)))else none
  |_=>none else none
noncomputable def sDNT (i:Nat):MS:=fun ρ=>some (.next,ρ.set i (.tre (.dit [] [])))
noncomputable def sDNT1 (i:Nat)(mk me:ME):MS:=fun ρ=>(mk ρ).bind fun p=>(keyT p.1).bind fun k=>(me p.2).bind fun q=>some (.next,q.2.set i (.tre (.dit [k] [q.1])))
noncomputable def iDKT (j:Nat):MA:=fun ρ=>match ρ[j]? with
 |some (.val (.dit ks ds))=>some (ks.map fun k=> .tup (k.map .int),ρ)
 |_=>none
noncomputable def eKn (j:Nat):ME:=fun ρ=>match ρ[j]? with
 |some (.tre (.dit ks ds))=>some (.dit ks ds,ρ.set j (.val (.dit ks ds)))
 |some (.val d)=>some (d,ρ)
 |_=>none
noncomputable def iCt (ds:List D):MA:=fun ρ=>some (ds,ρ)
section
variable {X:Cx} {x:Str} {a e:Expr} {tg:Expr} {mk me:ME} {pos p' tpos:Pos}
theorem zqc (j:Nat)(hu:X.A.units+64<cLine)(ha:SE X a mk)(hN:X.N[j]? =some x:=by rfl)(hv:Vis X.env.scope x:=by trivial)(hd:(x==("__debug__":Str))=false:=by decide)
  (hcd:(x==("__classdict__":Str))=false:=by decide) (hm:behindInMarks .NotIn (.Name x p')=false:=by rfl):STt X (.Compare a [.NotIn] [.Name x p'] pos) (tDIT j true mk):=by
 refine ha.el fun t pa sa=>?_
 refine⟨_,pt_cmp (zqj (by lia) pa (zfO hN hv hd hcd)) hm,fun B G H σ ρ b ρ' Q I hm k=>?_⟩;refine zaJ hm fun y ρ1 e1 hm=>?_
 refine sa B G H σ ρ y ρ1 _ I e1 fun G1 H1 v I1 f1 r1=>?_
 refine cBel hm fun n en hm=>?_
 refine cMel hm fun q e2 e3=>?_
 cases e3;refine cBel e2 fun s e4 e5=>?_
 obtain⟨p,ys,o,xs,k1,k2,k3,k4⟩:=I1.dit e4 e5;obtain⟨b,rfl,hb⟩:=zmJ r1 en;refine⟨.ref p,k1,valV ys (n.map kI),⟨p,b,o,xs,q.1,ys,n,rfl,rfl,k2,k3.mono I1.fz,I1.fz _ _ hb,rfl⟩,_,rfl,?_⟩;rw[zsd zoJ k3.key k4];have:=k G1 H1 I1 f1;simpa using this
theorem zi7 (j:Nat)(hu:X.A.units+64<cLine)(ha:SE X a mk)(hs:NoSl a:=by exact fun _ _=>rfl)(hN:X.N[j]? =some x:=by rfl)(hv:Vis X.env.scope x:=by trivial)(hd:(x==("__debug__":Str))=false:=by decide)
  (hcd:(x==("__classdict__":Str))=false:=by decide):SE X (.Subscript (.Name x p') a pos) (eDGT j mk):=by
 refine ha.el fun t pa sa=>?_
 refine⟨_,pe_dgetT (by lia) (zfO hN hv hd hcd) pa hs,fun B G H σ ρ d ρ' Q I hm k=>?_⟩;unfold eDGT at hm;refine cIte hm fun hso hm=>?_
 obtain⟨q0,hso⟩:=qaN.mp hso;refine cBel hso fun s0 e0 d0=>?_
 obtain⟨p,_,_,_,k1,_⟩:=I.dit e0 d0;refine zaJ hm fun y ρ1 e1 hm=>?_
 refine⟨.ref p,k1,sa B G H σ ρ y ρ1 _ I e1 fun G1 H1 v I1 f1 r1=>?_⟩;refine cBel hm fun n en hm=>?_
 refine cBel hm fun q e2 hm=>?_
 refine cMel hm fun d' e3 e4=>?_
 cases e4;refine cBel e2 fun s e5 e6=>?_
 obtain⟨p',ys,o,xs,m1,m2,m3,m4⟩:=I1.dit e5 e6;rw[k1]at m1;cases m1;obtain⟨b,rfl,hb⟩:=zmJ r1 en;obtain⟨w,h1,h2⟩:=zoQ zoJ m3.key m4 e3;exact⟨w,⟨p,b,o,xs,q.1,ys,n,rfl,rfl,m2,m3.mono I1.fz,I1.fz _ _ hb,h1.symm⟩,k G1 H1 w I1 f1 h2⟩
theorem DtI.put {p b:Addr}{o o':Obj}{xs xs':List (List L2.Key×Addr×Value)}{ys:List (List L2.Key×V)}(i:DtI G p o xs ks ys)(r:RepL K G (ys.map (·.2)) ds)(rv:RepD K G v d)(hl:ks.length<16777216)(hb:G b=some (.tup ((n.map kI).map kV)))(dn:DtN o' xs')(dp:DtP ys xs b n v xs'):DtI G p o' xs' (ptD ks ds n d).1 (putK ys (n.map kI) v)/\RepL K G ((putK ys (n.map kI) v).map (·.2)) (ptD ks ds n d).2:=by
 obtain⟨m1,m2⟩:=pt_rep zoJ (j:=n) i.key r rv;have len:ys.length=ks.length:=by have:=congrArg List.length i.key;simpa using this
 refine⟨⟨i.sys,dn,?_,m1,dp G i.kt hb⟩,m2⟩;have:=zoz ys (n.map kI) v;rw[qaI];lia
theorem zo1 (j:Nat)(hu:X.A.units+64<cLine)(he:SE X e me)(ha:SE X a mk)(hN:X.N[j]? =some x:=by rfl)(hv:Vis X.env.scope x:=by trivial)(hd:(x==("__debug__":Str))=false:=by decide)
    (hcd:(x==("__classdict__":Str))=false:=by decide) (hs:swapsWith e (some (.Subscript (.Name x p') a tpos)) pos.line X.env=pure false:=by rfl):SS X (.Assign [.Subscript (.Name x p') a tpos] e pos) (sDPT j mk me):=by
  refine ha.el fun t pa sa=>?_
  refine he.el fun u pe se=>?_
  refine⟨_,ps_dputT (by lia) (zfO hN hv hd hcd) pa pe hs,fun B G H σ ρ fl ρ' E I hm k=>?_⟩;refine zaJ hm fun d ρ1 e1 hm=>?_
  refine se B G H σ ρ d ρ1 _ I e1 fun G1 H1 v I1 f1 r1=>?_
  refine cIte hm fun hso hm=>?_
  obtain⟨q0,hso⟩:=qaN.mp hso;refine cBel hso fun s0 e0 d0=>?_
  obtain⟨p,_,_,_,k1,_⟩:=I1.dit e0 d0;refine zaJ hm fun y ρ2 e2 hm=>?_
  refine⟨.ref p,k1,sa B G1 H1 σ ρ1 y ρ2 _ I1 e2 fun G2 H2 w I2 f2 r2=>?_⟩;refine cBel hm fun n en hm=>?_
  refine cBel hm fun s e3 hm=>?_
  split at hm
  . rename_i ks ds q
    refine cIte hm fun hl hm=>?_
    obtain⟨rfl,rfl⟩:=cSp hm;obtain⟨b,rfl,hb⟩:=zmJ r2 en;obtain⟨v2,A,h1,h2,h3,h4,h5⟩:=I2.tree e3 q;rw[k1]at h1;cases h1;obtain⟨p2,ys,o,xs,z,g2,g3,g4,rfl⟩:=h2;cases z;refine⟨p,b,o,xs,ks,ys,n,rfl,rfl,g2,g3.mono I2.fz,I2.fz _ _ hb,fun o' xs' dn dp=>?_⟩;obtain⟨m1,m2⟩:=g3.put g4 (r1.mono f2) hl hb dn dp;have rep:RepT X.K G2 (upd H2 p (kn p o')) (.ref p) (.dit (ptD ks ds n d).1 (ptD ks ds n d).2) [p]:=⟨p,_,o',xs',rfl,zaD,m1,m2,rfl⟩;exact k G2 _ σ (I2.chT e3 q k1 ⟨p,ys,o,xs,rfl,g2,g3,g4,rfl⟩ (I2.fz.right (h4 p (by simp)) _) (fun b o n h=>by rw[zaw (fun z=>n (by simp[z]))];exact h) (fun b h=>by
      by_cases z:b=p
      . subst z;rw[zaD]at h;cases h
      . rw[zaw z]at h;exact h) rep (by simp) (fun a m=> .inl m)) (f1.trans f2)
  . exact cNN hm
theorem zpD (i:Nat)(hN:X.N.Nodup)(hi:X.N[i]? =some x:=by rfl)(hx:Loc X.env.scope x:=by trivial)(hs:swapsWith (.Dict [] [] tpos) (some (.Name x p')) pos.line X.env=pure false:=by rfl)
    (hf:X.fn x=true\/X.env.scope.names.lookup x=some .local:=by trivial):SS X (.Assign [.Name x p'] (.Dict [] [] tpos) pos) (sDNT i):=by
  refine⟨_,zpC hN hi hx pe_dnewt hs hf,fun B G H σ ρ fl ρ' E I hm k=>?_⟩;obtain⟨rfl,rfl⟩:=cSp hm;intro p o hp ns dn;have nw:Nw X.K G (upd H p (kn p o)) σ ρ p:=I.nw_move (I.nw hp) fun i s a _ _ g h=>⟨g,zaw fun z=>h (by rw[z];exact hp)⟩
  exact k G _ _ ((I.allocO hp _).setT (A:=[p]) ⟨p,[],o,[],rfl,zaD,⟨ns,dn,qbB _,rfl,.nil⟩,RepL.nil,rfl⟩ (by simp) (fun a m=>by
    have:a=p:=by simpa using m
    subst this;exact⟨I.fz.free hp,I.there a hp,nw⟩)) (Fz.refl G)
theorem SlotOk.base {B B':Bs}(h:SlotOk K B G H i ov s)(f:∀a,OwS K G H ov a s->B.H a=none->B'.H a=none)(eo:B'.O=B.O):SlotOk K B' G H i ov s:=by
 cases s with
 |emp=>trivial
 |two=>trivial
 |val d=>exact h
 |own ds=>obtain⟨l,xs,h1,h2,h3,h4,h5⟩:=h;exact⟨l,xs,h1,h2,h3,h4,f l h1 h5⟩
 |par ds=>obtain⟨l,xs,h1,h2,h3,h4,h5⟩:=h;exact⟨l,xs,h1,h2,h3,h4,eo ▸ h5⟩
 |tre t=>obtain⟨v,A,h1,h2,h3,h4⟩:=h;exact⟨v,A,h1,h2,h3,fun a m=>⟨(h4 a m).1,f a ⟨v,A,h1,h2,m⟩ (h4 a m).2⟩⟩
 |ptr t=>obtain⟨v,A,h1,h2,h3,h4⟩:=h;exact⟨v,A,h1,h2,⟨h3.1,eo ▸ h3.2⟩,fun a m=>⟨(h4 a m).1,(h4 a m).2.imp (fun z=>eo ▸ z) fun z=>⟨f a ⟨v,A,h1,h2,m⟩ z.1,eo ▸ z.2⟩⟩⟩
theorem SI.hold (I:SI K B G H σ ρ)(hp:H p=none)(o:HO):SI K ⟨B.G,upd B.H p o,B.O⟩ G (upd H p o) σ ρ:=by
 have I0:=I.allocO hp o;have bp:=I.there p hp;refine⟨I0.fz,I0.g0,fun b u e=>?_,fun b u e n=>?_,fun b e=>?_,I0.len,fun i b m=>?_,fun i s e=>(I0.slot i s e).base (fun a w e2=>?_) rfl,I0.dis⟩
 ·refine(I0.new b u e).imp id fun z=>?_
  show upd B.H p o b=none;rw[zaw (fun q=>by rw[q,I.fz.free hp]at e;exact cNN e)];exact z
 ·by_cases z:b=p
  ·subst z;have e':upd B.H b o b=some u:=e;rw[zaD]at e';cases e';exact zaD
  ·have e':upd B.H p o b=some u:=e;rw[zaw z]at e';exact I0.keep b u e' n
 ·have z:b≠p:=fun z=>by subst z;rw[zaD]at e;cases e
  show upd B.H p o b=none;rw[zaw z];exact I0.there b e
 ·show upd B.H p o b≠none;rw[zaw (fun z=>by subst z;exact I.ob i b m bp)];exact I.ob i b m
 ·show upd B.H p o a=none;rw[zaw (fun z=>?_)]
  ·exact e2
  ·subst z;have nw:Nw K G (upd H a o) σ ρ a:=I.nw_move (I.nw hp) fun i s b _ _ g h=>⟨g,zaw fun z=>h (by rw[z];exact hp)⟩
   exact nw i s e w
theorem SI.let {o:HO}(I:SI K ⟨B.G,upd B.H p o,B.O⟩ G H σ ρ)(ob:∀i b,(i,b)∈B.O->B.H b≠none)(bp:B.H p=none)(bg:B.G p=none):SI K B G H σ ρ/\H p=some o/\G p=none/\Nw K G H σ ρ p:=by
 have no:∀i,(i,p)∉B.O:=fun i m=>ob i p m bp
 have same:∀{b},upd B.H p o b=none->B.H b=none:=fun{b} e=>by
  by_cases z:b=p
  ·subst z;rw[zaD]at e;cases e
  ·rwa[zaw z]at e
 refine⟨⟨I.fz,I.g0,fun b u e=>(I.new b u e).imp id same,fun b u e n=>I.keep b u ?_ n,fun b e=>same (I.there b e),I.len,ob,fun i s e=>(I.slot i s e).base (fun a w e2=>same e2) rfl,I.dis⟩,I.keep p o zaD no,?_,fun i s e w=>?_⟩
 ·show upd B.H p o b=some u;rw[zaw (fun z=>by subst z;rw[bp]at e;exact cNN e)];exact e
 ·cases q:G p with
  |none=>rfl
  |some u=>
   rcases I.new p u q with h|h
   ·exact absurd bg h
   ·have h':upd B.H p o p=none:=h;rw[zaD]at h';cases h'
 ·rcases((I.slot i s e).own w).2.2 with h|h
  ·have h':upd B.H p o p=none:=h;rw[zaD]at h';cases h'
  ·exact no i h
theorem zsN (i:Nat)(hu:X.A.units+64<cLine)(ha:SE X a mk)(he:SE X e me)(hN:X.N.Nodup)(hi:X.N[i]? =some x:=by rfl)(hx:Loc X.env.scope x:=by trivial)(hs:swapsWith (.Dict [some a] [e] tpos) (some (.Name x p')) pos.line X.env=pure false:=by rfl)
    (hf:X.fn x=true\/X.env.scope.names.lookup x=some .local:=by trivial):SS X (.Assign [.Name x p'] (.Dict [some a] [e] tpos) pos) (sDNT1 i mk me):=by
  refine ha.el fun t pa sa=>?_
  refine he.el fun u pe se=>?_
  refine⟨_,zpC hN hi hx (zqK (by lia) pa pe) hs hf,fun B G H σ ρ fl ρ' E I hm k=>?_⟩;refine zaJ hm fun y ρ1 e1 hm=>?_
  refine cBel hm fun n en hm=>?_
  refine zaJ hm fun d ρ2 e2 hm=>?_
  obtain⟨rfl,rfl⟩:=cSp hm;intro p o hp ns dn;have bg:B.G p=none:=I.g0.free (I.fz.free hp);have bp:=I.there p hp;refine sa ⟨B.G,upd B.H p (kn p o),B.O⟩ G _ σ ρ y ρ1 _ (I.hold hp (kn p o)) e1 fun G1 H1 v I1 f1 r1=>?_
  refine se _ G1 H1 σ ρ1 d ρ2 _ I1 e2 fun G2 H2 u I2 f2 r2=>?_
  obtain⟨b,rfl,hb⟩:=zmJ r1 en;obtain⟨I3,h1,h2,h3⟩:=I2.let I.ob bp bg;refine⟨b,n,u,rfl,h1,I2.fz _ _ (f2 _ _ hb),fun o' xs' dn' dp=>?_⟩;have d1:DtI G2 p o [] [] []:=⟨ns,dn,qbB _,rfl,.nil⟩;obtain⟨m1,m2⟩:=d1.put (ds:=[]) RepL.nil r2 (by simp) (f2 _ _ hb) dn' dp;exact k G2 _ _ (I3.chg (i:=i) (ov:=some (.ref p)) (s':= .tre (.dit [n] [d])) (G':=G2) (H':=upd H2 p (kn p o')) (I3.fz.right h2 _) (Fz.refl G2) I3.new (fun c q e nn=>by
      rw[zaw (fun z=>by subst z;rw[bp]at e;exact cNN e)];exact I3.keep c q e nn) (fun c e=>by
      by_cases z:c=p
      . subst z;exact bp
      . rw[zaw z]at e;exact I3.there c e) (fun j s c z ej w g _=>by
      have nc:c≠p:=fun q=>by subst q;exact h3 j s ej w
      refine⟨g,zaw nc,fun⟨v2,A2,k1,k2,k3⟩=>?_⟩;cases k1;obtain⟨p3,_,_,_,e4,_,_,_,rfl⟩:=k2;cases e4;exact nc (by simpa using k3)) ⟨.ref p,[p],rfl,⟨p,_,o',xs',rfl,zaD,m1,m2,rfl⟩,by simp,fun c m=>by
      have:c=p:=by simpa using m
      subst this;exact⟨h2,bp⟩⟩) (f1.trans f2)
theorem SI.know (I:SI K B G H σ ρ)(e:ρ[j]? =some (.tre (.dit ks es))):∃p G',σ[j]? =some (some (.ref p))/\SI K B G' H σ (ρ.set j (.val (.dit ks es)))/\Fz G G'/\RepD K G' (.ref p) (.dit ks es):=by
 obtain⟨v,A,h1,⟨p,ys,o,xs,rfl,h2,h3,h4,rfl⟩,h5,h6⟩:=I.slot j _ e;obtain⟨g,hb⟩:=h6 p (by simp);have fz:=Fz.new g (kn p o);have rep:RepD K (upd G p (kn p o)) (.ref p) (.dit ks es):=⟨p,ys,o,xs,rfl,zaD,h3.mono fz,h4.mono fz⟩;have I2:=I.chg (i:=j) (ov:=some (.ref p)) (s':= .val (.dit ks es)) (G':=upd G p (kn p o)) (H':=H) (fun a u q=>by
   by_cases z:a=p
   ·subst z;rw[zaD]at q;cases q;exact h2
   ·rw[zaw z]at q;exact I.fz a u q) fz (fun b u q=>by
   by_cases z:b=p
   ·subst z;exact .inr hb
   ·rw[zaw z]at q;exact I.new b u q) I.keep I.there (fun i t a z ei w g' _=>by
   have na:a≠p:=fun q=>by subst q;exact I.dis i j t _ a z ei e w ⟨_,_,h1,⟨a,ys,o,xs,rfl,h2,h3,h4,rfl⟩,by simp⟩
   exact⟨by rw[zaw na];exact g',rfl,id⟩) ⟨.ref p,rfl,rep⟩
 rw[znZ h1]at I2;exact⟨p,_,h1,I2,fz,rep⟩
theorem zsi (j:Nat)(hN:X.N[j]? =some x:=by rfl)(hv:Vis X.env.scope x:=by trivial)(hd:(x==("__debug__":Str))=false:=by decide)
  (hcd:(x==("__classdict__":Str))=false:=by decide):SE X (.Name x p') (eKn j):=by
 refine⟨_,zfO hN hv hd hcd,fun B G H σ ρ d ρ' Q I hm k=>?_⟩;unfold eKn at hm
 split at hm
 ·rename_i ks es e;obtain⟨rfl,rfl⟩:=cSp hm;obtain⟨p,G',h1,h2,h3,h4⟩:=I.know e;exact⟨.ref p,h1,k _ _ _ h2 h3 h4⟩
 ·rename_i d' e;obtain⟨rfl,rfl⟩:=cSp hm;obtain⟨v,h1,h2⟩:=I.slot j _ e;exact⟨v,h1,k G H v I (Fz.refl G) h2⟩
 ·exact cNN hm
theorem it_dictT (j:Nat)(hN:X.N[j]? =some x:=by rfl)(hv:Vis X.env.scope x:=by trivial)(hd:(x==("__debug__":Str))=false:=by decide)
  (hcd:(x==("__classdict__":Str))=false:=by decide):SIt X tg (.Name x p') (iDKT j):=by
 refine⟨_,pi_known (zfO hN hv hd hcd),fun B G H σ ρ ds ρ' Q I hm k=>?_⟩;unfold iDKT at hm
 split at hm
 ·rename_i ks es e;obtain⟨rfl,rfl⟩:=cSp hm;obtain⟨v,h1,p,ys,o,xs,rfl,h2,h3,h4⟩:=I.slot j _ e;have len:ys.length=ks.length:=by have:=congrArg List.length h3.key;simpa using this
  have len2:ys.length=xs.length:=qac h3.kt;refine⟨.ref p,h1,p,o,xs,rfl,I.fz _ _ h2,h3.dn,h3.sys,k _ _ _ I (Fz.refl G) ⟨fun H' i f hi=>⟨f _ _ h2,by simp at hi;lia⟩,fun H' i x H'' f y d ed=>?_,fun H' i f hi=>⟨f _ _ h2,by simp at hi;lia⟩⟩⟩;obtain⟨rfl,q,eq,rfl⟩:=y;refine .inl ⟨rfl,?_⟩;rw[qaT]at ed;obtain⟨n,en,rfl⟩:=zru ed;have kt:∀{ys:List (List L2.Key×V)} {xs:List (List L2.Key×Addr×Value)},KT G ys xs->∀{i:Nat} {q:List L2.Key×Addr×Value},xs[i]? =some q->∃y,ys[i]? =some y/\G q.2.1=some (.tup (y.1.map kV)):=by
   intro ys xs r
   induction r with
   |nil=>intro i q h;simp at h
   |cons h _ ih=>
    intro i q h2;cases i with
    |zero=>simp only[List.getElem?_cons_zero,qby]at h2;subst h2;exact⟨_,rfl,h.2.1⟩
    |succ i=>exact ih (by simpa using h2)
  obtain⟨y,ey,hg⟩:=kt h3.kt eq;have h5:(ys.map (·.1))[i]? =(ks.map (·.map kI))[i]?:=by rw[h3.key]
  rw[qaT,qaT,ey,en]at h5;have h5:y.1=n.map kI:=by simpa using h5
  rw[h5,qch]at hg;exact⟨_,_,rfl,hg,RepL.ints n⟩
 ·exact cNN hm
noncomputable def TCon (K:W.Frag)(mg:Str->Option Value)(x:Str)(ns:List Int):Prop:=∃a,mg x=some (.ref a)/\∀H,SqT K H a (ns.map V.int)
theorem it_const (h:TCon X.K X.mg x ns)(hg:Gl X x:=by rfl)(hd:(x==("__debug__":Str))=false:=by decide):SIt X tg (.Name x pos) (iCt (ns.map .int)):=by
 obtain⟨a,h1,h2⟩:=h;refine⟨_,pi_tup (zry (v:= .ref a) hg h1 rfl hd),fun B G H σ ρ ds ρ' Q I hm k=>?_⟩;obtain⟨rfl,rfl⟩:=cSp hm;refine⟨a,rfl,⟨_,h2 H⟩,k _ G H I (Fz.refl G) ⟨fun H' i f hi=>⟨_,V.int (ns[i]'(by simpa using hi)),h2 H',by simp at hi;simp[hi]⟩,fun H' i x H'' f y d ed=>?_,fun H' i f hi=>⟨_,h2 H',by simpa using hi⟩⟩⟩;obtain⟨rfl,y⟩:=y;have hx:=y _ (h2 _);rw[qaT]at ed hx;obtain⟨n,en,rfl⟩:=zru ed;rw[en]at hx;cases hx;exact .inl ⟨rfl,rfl⟩
end
end M
namespace M
open PySem
open Sem (wp)
open Builtin
theorem zqp (l:Addr)(items:Array Value)(n:Nat)(dd:Option Addr)(sl:Array (Option Value))(x:Int)(u:Tok)(h0:¬(decide (x< -(2^63))||decide (x>=2^63))=true)(h1:¬(items.isEmpty||x==1)=true)(h2:¬(decide (x<=0)||items.isEmpty)=true)(h3:¬(items.size*x>(2^63-1)/8))(h4:¬Builtin.Tuple.tupleTooMany (items.size*x)=true)(hsz:(List.foldl (fun x1 x2=>x1++x2) #[] (List.replicate x.toNat items)).size<=sizeLine):
  Meets (Builtin.«tuple.__mul__» ⟨[.ref l,.int x u],[]⟩) (fun _ R s=>s.heap.get? l=some {cls:= .type "tuple",dict:=dd,data:= .seq items n,slots:=sl}/\R (.ok (.ret (Value.ref s.heap.objs.size))) {s with heap:=s.heap.push {cls:=Value.type "tuple",data:=Data.seq (List.foldl (fun x1 x2=>x1++x2) #[] (List.replicate x.toNat items))},toks:=s.toks}):=
 .of_wp fun prog w A R s h=>by
  obtain⟨hp,g,d,tk,os⟩:=s;obtain⟨hl,h⟩:=h;have f1:=AutoSeq1.idx_int
  wp_walk
  rw[if_neg h0]
  wp_walk using qb8 hl
  rw[if_neg h3]
  wp_walk using qb8 hl
  exact⟨_,rfl,h⟩
theorem zoC (l:Addr)(items:Array Value)(n:Nat)(dd:Option Addr)(sl:Array (Option Value))(u:Tok):
  Meets (Builtin.«tuple.__mul__» ⟨[.ref l,.int 1 u],[]⟩) (fun _ R s=>s.heap.get? l=some {cls:= .type "tuple",dict:=dd,data:= .seq items n,slots:=sl}/\R (.ok (.ret (Value.ref l))) s):=
 .of_wp fun prog w A R s h=>by
  obtain⟨hp,g,d,tk,os⟩:=s;obtain⟨hl,h⟩:=h;have f1:=AutoSeq1.idx_int
  wp_walk
  exact⟨_,rfl,h⟩
theorem zkb:fillsNumberSlot (.type "tuple") "mul"=pure false:=
 fillsNumberSlot_seq (id:="tuple.__mul__") (r:=some (.builtin "tuple.__rmul__")) F.slot_tuple_mul.lookup (by decide+kernel) F.slot_tuple_rmul.lookup (by decide+kernel)
theorem znb:seqRepeat? (.type "tuple")=pure (some (.builtin "tuple.__mul__")):=by
 unfold seqRepeat?;rw[seqSlot_of (T:="tuple") (name:="__mul__") (id:="tuple.__mul__") F.slot_tuple_mul.lookup (by decide+kernel),seqSlot_of (T:="tuple") (name:="__rmul__") (id:="tuple.__rmul__") F.slot_tuple_rmul.lookup (by decide+kernel)]
 rfl
theorem zlh (a:Int)(t:Tok)(l:Addr)(items:Array Value)(n:Nat)(dd:Option Addr)(sl:Array (Option Value)):
  Meets (Builtin.«int.__rmul__» ⟨[.int a t,.ref l],[]⟩) (fun _ R s=>s.heap.get? l=some {cls:= .type "tuple",dict:=dd,data:= .seq items n,slots:=sl}/\R (.ok (.ret Value.notImplemented)) s):=
 .of_wp fun prog w A R s h=>by obtain⟨hp,g,d,tk,os⟩:=s;obtain⟨hl,h⟩:=h;wp_walk;exact⟨_,rfl,h⟩
end M
namespace M
open L2 PySem PySem.Spec
open PyProof.Rows hiding St
noncomputable def rRepT (K:W.Frag):R2:=fun x y H Q=>∃l k xs,x= .ref l/\y= .int k/\SqT K H l xs/\xs≠[]/\1<=k/\k<=1000000/\xs.length*k.toNat<=sizeLine/\(k=1->Q (.ref l) H)/\∀p,H p=none->Q (.ref p) (upd H p (.tup (List.replicate k.toNat xs).flatten))
theorem op_repT {X:Cx}:OpR X (binaryOp .Mult) (rRepT X.K):=by
 intro pins s σ H x y v u Q I rx ry h;obtain⟨l,k,xs,rfl,rfl,hH,h0,h1,h2,hz,q1,q⟩:=h;cases rx;obtain⟨t,rfl⟩:=ry;obtain⟨its,r,p1,_⟩:=I.tuple hH;obtain⟨⟨cls,dd,data,sl⟩,e,hc,n,hd⟩:=id p1;simp only at hc hd;subst hc hd;have hl:=r.length;have hne:its≠[]:=fun z=>h0 (r.nil_iff.mp z)
 have hnew:List.foldl (fun x1 x2=>x1++x2) #[] (List.replicate k.toNat its.toArray)=(List.replicate k.toNat its).flatten.toArray:=by
  have:=zkE its k.toNat [];rw[qbm]at this;exact this
 have hs:(List.replicate k.toNat its).flatten.length<=sizeLine:=by rw[zoN,<-hl,qbo];exact hz
 refine wpAny_binaryOp_repeat_ref (T:="tuple") (U:="int") (by decide) ⟨_,e,rfl⟩ (fun s'=>typeIs_int s' k t) zkb F.fills_int_mul qbn znb F.slot_int_index.lookup
  (qbj qbn (typeIs_int s k t) F.entry_int_rmul (F.args_int_rmul_2 _ _) (zlh k t l its.toArray n dd sl) ⟨e,rfl,⟨_,e,rfl⟩,?_⟩)
 by_cases z:k=1
 ·subst z;exact qbj F.slot_tuple_mul ⟨_,e,rfl⟩ F.entry_tuple_mul (F.args_tuple_mul_2 _ _) (zoC l its.toArray n dd sl t) ⟨e,⟨.ref l,H,I,rfl,q1 rfl⟩⟩
 ·have hm:(its.toArray.size:Int)*k=((its.length*k.toNat:Nat):Int):=by
   rw[qaJ];push_cast;rw[Int.toNat_of_nonneg (by lia)]
  have hz':its.length*k.toNat<=sizeLine:=by rw[<-hl];exact hz
  have sl0:(sizeLine:Nat)=16777216:=qaI;refine qbj F.slot_tuple_mul ⟨_,e,rfl⟩ F.entry_tuple_mul (F.args_tuple_mul_2 _ _) (zqp l its.toArray n dd sl k t (by simp;lia) (by simp[hne];lia) (by simp[hne];lia) (by rw[hm];lia) (fun z=>by unfold Builtin.Tuple.tupleTooMany at z;rw[hm]at z;have:=qbD z;lia) (by rw[hnew];simpa using hs)) ⟨e,?_⟩;rw[hnew];refine⟨.ref s.heap.objs.size,_,I.laid (t':=s.toks) (o:= .tup (List.replicate k.toNat xs).flatten) (fun b ob q=>qaC _ q) (qaE _) ?_,rfl,q _ (I.hok.fresh (qaE _))⟩;exact⟨by rw[zoN,qbo];exact hz,_,r.rep k.toNat,IsTup.new _ _⟩
noncomputable def dRepT:D->D->Option D
 | .tup ds,.int k=>if !ds.isEmpty&&decide (1<=k)&&decide (k<=1000000)&&decide (ds.length*k.toNat<=1000000)then some (.tup (List.replicate k.toNat ds).flatten)else none
 |_,_=>none
theorem se_repT {X:Cx}{a b:Expr}{ma mb:ME}{pos:Pos}(ha:SE X a ma)(hb:SE X b mb):SE X (.BinOp a .Mult b pos) (m2 dRepT ma mb):=by
 refine zoi op_repT (fun B G H σ ρ x y a b d Q I ra rb hf k=>?_) ha hb;cases a<;>cases b<;>simp only[dRepT]at hf<;>try exact cNN hf
 rename_i ds j;refine cIte hf fun h hf=>?_
 cases hf;simp only[qa9,Bool.not_eq_true',List.isEmpty_eq_false_iff,qbA]at h;obtain⟨a,xs,rfl,ha,r⟩:=I.tup ra;have hl:=r.length;refine⟨a,j,xs,rfl,rb,SqT.of ha,fun z=>?_,by lia,by lia,by rw[hl,qaI];lia,fun z=>?_,fun p hp=>?_⟩
 ·subst z;exact h.1.1.1 (qbE hl.symm)
 ·subst z;rw[show(List.replicate (1:Int).toNat ds).flatten=ds by simp]at k;exact k G H _ I (Fz.refl G) ra
 ·obtain⟨I2,f2,r2⟩:=I.newT hp (r.rep j.toNat);exact k _ _ _ I2 f2 r2
end M
namespace M
open L2 PyProof.Rows PySem PySem.Spec
theorem zqM {α β:Type}(f:α->β)(xs:List α)(lo hi st:Option Int):zcF (xs.map f) lo hi st=(zcF xs lo hi st).map f:=by
 unfold zcF;rw[qaX,List.map_filterMap];simp
noncomputable def eCutZ (ma:ME)(ml mh ms:MP):ME:=fun ρ=>(ma ρ).bind fun p=>(ml p.2).bind fun q=>(mh q.2).bind fun r=>(ms r.2).bind fun t=>match p.1 with
 | .scr ns=>if t.1=some 0 then none else some (.lst ((zcF ns q.1 r.1 t.1).map .int),t.2)
 |_=>none
theorem zrx {X:Cx}{e st:Expr}{lo hi:Option Expr}{ma:ME}{ml mh ms:MP}{pos p2:Pos}(he:SE X e ma)(hl:SPt X lo ml)(hu:SPt X hi mh)(hs:SPt X (some st) ms):SE X (.Subscript e (.Slice lo hi (some st) p2) pos) (eCutZ ma ml mh ms):=by
 refine he.el fun ta pa sa=>?_
 refine hl.el fun tl pl sl=>?_
 refine hu.el fun th ph sh=>?_
 refine hs.el fun tc pc sc=>?_
 refine⟨_,zlu pa pl ph pc,fun B G H σ ρ d ρ' Q I hm k=>?_⟩;refine zaJ hm fun x ρ1 e1 hm=>?_
 refine zaJ hm fun l ρ2 e2 hm=>?_
 refine zaJ hm fun u ρ3 e3 hm=>?_
 refine zaJ hm fun c ρ4 e4 hm=>?_
 refine sa B G H σ ρ x ρ1 _ I e1 fun G1 H1 v I1 f1 r1=>sl B G1 H1 σ ρ1 l ρ2 _ I1 e2 fun G2 H2 I2 f2=>sh B G2 H2 σ ρ2 u ρ3 _ I2 e3 fun G3 H3 I3 f3=>sc B G3 H3 σ ρ3 c ρ4 _ I3 e4 fun G4 H4 I4 f4=>?_
 have r3:=r1.mono (f2.trans (f3.trans f4));dsimp only at hm;obtain⟨ns,rfl⟩:∃ns,x= .scr ns:=by
  cases x<;>first|exact⟨_,rfl⟩|exact cNN hm
 dsimp only at hm
 split at hm
 ·exact cNN hm
 ·rename_i h0;obtain⟨rfl,rfl⟩:=Prod.mk.inj (Option.some.inj hm);obtain⟨a,rfl,ha⟩:=r3;refine⟨a,ns.map V.int,rfl,I4.fz.sql ha,h0,fun p hp=>?_⟩;rw[zqM];obtain⟨I5,f5,r5⟩:=I4.newL hp (RepL.ints (zcF ns l u c));exact k _ _ _ I5 (f1.trans (f2.trans (f3.trans (f4.trans f5)))) r5
end M
namespace M
open L2 PySem PySem.Spec
open PyProof.Rows hiding St
theorem zre (lo hi:Int):(((lo-hi).toNat:Nat):Int)=Builtin.Range.rangeSize lo hi (-1):=by
 unfold Builtin.Range.rangeSize;rw[if_neg (by decide)]
 split
 ·simp only[Int.neg_neg,Int.ediv_one];lia
 ·lia
theorem zrr {a b:Int}(ha: -(2^60)<=a)(ha':a<2^60)(hb: -(2^60)<=b)(hb':b<2^60):Builtin.Range.small a b (-1)=true:=by
 have h1:=zre a b;unfold Builtin.Range.small;simp only[Builtin.Range.rangeFitsLong,qa9,qbC,qbA,qbH,<-h1];simp;lia
section
variable {X:Cx} {tg:Expr}
theorem zsf {pins:List (Addr×Obj)}{σ:St}{H:Hp}{s:Shared}{R:It->Hp->Prop}{E:Value->Shared->Prop}{lo hi:Int}{t u v:Tok}{tk:Nat}(I:Inv X pins σ H s)(h1: -(2^60)<=lo)(h2:lo<2^60)(h3: -(2^60)<=hi)(h4:hi<2^60)
  (q:R (Itrs lo (-1) (lo-hi).toNat) H):wpAny (model X.prog X.w) X.A (pyIter (.ref s.heap.objs.size)) (PIE X pins σ tg R) E {s with heap:=s.heap.push {cls:= .type "range",data:= .fields #[.int lo t,.int hi u,.int (-1) v]},toks:=tk}:=by
 refine wpAny_pyIter_range (IsRange.new ..) (zrr h1 h2 h3 h4) ?_;have I1:Inv X pins σ H {s with heap:=s.heap.push {cls:= .type "range",data:= .fields #[.int lo t,.int hi u,.int (-1) v]},toks:=tk}:=I.kept fun b o e=>qaC _ e
 refine⟨(s.heap.push {cls:= .type "range",data:= .fields #[.int lo t,.int hi u,.int (-1) v]}).objs.size,[(s.heap.push {cls:= .type "range",data:= .fields #[.int lo t,.int hi u,.int (-1) v]}).objs.size],_,_,H,rfl,
  I1.kept (t':=tk) fun b o e=>qaC _ e,zon _ lo (-1) (lo-hi).toNat,?_,fun b hb=>?_,q⟩
 ·have e1:lo+((0:Nat):Int)*(-1)=lo:=by simp
  show IsRangeIter _ _ (lo+((0:Nat):Int)*(-1)) ((((lo-hi).toNat:Nat):Int)-((0:Nat):Int)) (-1);rw[e1,zre,show(((0:Nat):Int))=0 from rfl,qcp];exact qaD _ rfl
 ·have e:b=(s.heap.push {cls:= .type "range",data:= .fields #[.int lo t,.int hi u,.int (-1) v]}).objs.size:=by simpa using hb
  subst e;exact I1.fpOk (qaE _) (I1.hok.fresh (qaE _))
theorem zp7 {a b c:Expr}{ta:TA}{p pos:Pos}(hg:Gl X "range")(hm:X.mg "range"=none)(ha:PA X [a,b,c] ta)(hs:starEach [a,b,c] X.env=(false,eval a X.env)::starEach [b,c] X.env:=by rfl)(hs2:(backTo pos (starEach [b,c] X.env)).any (·.1)=false:=by rfl):
  PI X tg (.Call (.Name "range" p) [a,b,c] [] pos) (fun σ H R=>ta σ H fun vs H1=>∃i j:Int,vs=[.int i,.int j,.int (-1)]/\(-(2^60)<=i/\i<2^60/\ -(2^60)<=j/\j<2^60)/\R (Itrs i (-1) (i-j).toNat) H1):=by
 intro pins s σ H R I h;refine Call_ (zj3 I hg hm boot_range (qaF (thn (ha pos pins s σ H _ I h) fun us s1 ⟨vs,H1,I1,r1,q1⟩=>?_) hs hs2));obtain⟨i,j,e,⟨q1,q2,q3,q4⟩,q⟩:=q1;subst e;cases r1 with
 |cons r rr=>
  cases rr with
  |cons r' rr=>
   cases rr with
   |cons r'' rr=>
    cases rr;obtain⟨t,rfl⟩:=r;obtain⟨t',rfl⟩:=r';obtain⟨t'',rfl⟩:=r'';exact call_range_3 (by lia) (zsf I1 q1 q2 q3 q4 q) (Or.inl (PyProof.noPylong_small (by lia)))
end
noncomputable def iR3N (ma:MA):MA:=fun ρ=>(ma ρ).bind fun p=>match p.1 with
 |[.int i,.int j,.int k]=>if zbL i&&zbL j&&decide (k= -1)then some (znH i (-1) (i-j).toNat,p.2)else none
 |_=>none
theorem zp8 {X:Cx}{tg a b c:Expr}{ma:MA}{p pos:Pos}(hm:X.mg "range"=none)(ha:SA X [a,b,c] ma)(hg:Gl X "range":=by rfl)(hs:starEach [a,b,c] X.env=(false,eval a X.env)::starEach [b,c] X.env:=by rfl)(hs2:(backTo pos (starEach [b,c] X.env)).any (·.1)=false:=by rfl):SIt X tg (.Call (.Name "range" p) [a,b,c] [] pos) (iR3N ma):=by
 refine ha.el fun t pa sa=>?_
 refine⟨_,zp7 hg hm pa hs hs2,fun B G H σ ρ ds ρ' Q I hm k=>?_⟩;refine zaJ hm fun es ρ1 e1 h2=>?_
 dsimp only at h2;refine sa B G H σ ρ es ρ1 _ I e1 fun G1 H1 vs I1 f1 r1=>?_
 split at h2
 ·rename_i i j l;refine cIte h2 fun hj h2=>?_
  simp only[qa9,qbA]at hj;obtain⟨rfl,rfl⟩:=cSp h2;obtain⟨x,xs,rfl,rx,r2⟩:=r1;obtain⟨y,ys,rfl,ry,r3⟩:=r2;obtain⟨z,zs,rfl,rz,r4⟩:=r3;cases(show x=V.int i from rx);cases(show y=V.int j from ry);cases(show z=V.int l from rz);cases(show zs=[]from r4);obtain rfl:=hj.2;have a1:=zm7 hj.1.1;have a2:=zm7 hj.1.2;exact⟨i,j,rfl,⟨a1.1,a1.2,a2.1,a2.2⟩,k _ G1 H1 I1 f1 (zqg i (-1) _)⟩
 ·exact cNN h2
noncomputable def fzDT (j:Nat)(ρ:R):R:=match ρ[j]? with
 |some (.tre (.dit ks ds))=>ρ.set j (.val (.dit ks ds))
 |_=>ρ
noncomputable def sFzDT (j:Nat)(m:MS):MS:=fun ρ=>m (fzDT j ρ)
theorem SI.fzDT {K:W.Frag}{B:Bs}{G H:Hp}{σ:St}{ρ:R}(I:SI K B G H σ ρ)(j:Nat):∃G',SI K B G' H σ (fzDT j ρ)/\Fz G G':=by
 unfold M.fzDT
 split
 ·rename_i ks ds e;obtain⟨p,G',h1,h2,h3,h4⟩:=I.know e;exact⟨G',h2,h3⟩
 ·exact⟨G,I,Fz.refl G⟩
theorem ss_fzDT {X:Cx}{st:Stmt}{m:MS}(j:Nat)(h:SS X st m):SS X st (sFzDT j m):=by
 refine h.el fun t p s=>?_
 refine⟨t,p,fun B G H σ ρ fl ρ' E I hm k=>?_⟩;obtain⟨G',I',f⟩:=I.fzDT j;exact s B G' H σ _ fl ρ' E I' hm (k.mono f)
noncomputable def eCallU (F:List D->Option Sl)(ma:MA):ME:=fun ρ=>(ma ρ).bind fun p=>(F p.1).bind fun r=>match r with
 | .tre (.tup cs)=>some (.tup (cs.map Ch.D),p.2)
 |_=>none
noncomputable def fzU (j:Nat)(ρ:R):R:=match ρ[j]? with
 |some (.tre (.tup cs))=>ρ.set j (.val (.tup (cs.map Ch.D)))
 |_=>ρ
noncomputable def turnT (g:D->R->Option R)(mt:MT)(mo:MO):D->R->Option (Option (List D)×R):=fun d ρ=>(g d ρ).bind fun ρ1=>(mt ρ1).bind fun p=>if p.1 then(mo p.2).bind fun q=>if zed q.2 then some (some q.1,q.2)else none else if zed p.2 then some (none,p.2)else none
noncomputable def rowsOf:List Ch->Option (List (List D))
 |[]=>some []
 | .l ds::cs=>(rowsOf cs).map (ds:: ·)
 |_=>none
noncomputable def zrX (b c:Nat)(ρ:R):Bool:=match ρ[b]?,ρ[c]? with
 |some (.par _),some (.par _)=>zed ((ρ.set b .emp).set c .emp)
 |_,_=>false
noncomputable def turnQ (b c:Nat)(g:D->R->Option R)(mt:MT)(me:ME):D->R->Option (Option D×R):=fun d ρ=>(g d ρ).bind fun ρ1=>(mt ρ1).bind fun p=>if p.1 then(me p.2).bind fun q=>if zrX b c q.2 then some (some q.1,q.2)else none else if zrX b c p.2 then some (none,p.2)else none
end M
namespace M
open PySem PySem.W
open PyProof.Rows (bubble mirror bubble_size bubble_perm mirror_size mirror_perm getElem?_bubble getElem?_mirror_all)
noncomputable def kv (p:Array Nat)(k:Nat):Nat:=p.getD k 0
end M
namespace HT
open PySem
noncomputable def SIt (h:Heap)(I S:Addr)(first:Value)(i n ep:Nat):Prop:=∃o,h.get? I=some o/\o.cls= .type "set_iterator"/\o.data= .fields #[first,.int i 0,.ref S,.int n 0,.int ep 0]
end HT
namespace M
open L2 PySem PySem.Spec
open PyProof.Rows hiding St
theorem zjl:∀{its:List Value} {ns:List Int},IntsAre its ns->Vals (ns.map V.int) its
 |_,_,.nil=> .nil
 |_,_,.cons n t h=> .cons ⟨t,rfl⟩ (zjl h)
end M
namespace M
open L2 PySem
noncomputable def zr6 (f g h:D->D->Option D)(a b c d:ME):ME:=fun ρ=>(a ρ).bind fun p=>(b p.2).bind fun q=>(f p.1 q.1).bind fun t=>match t with
 | .bl true=>(c q.2).bind fun r=>(g q.1 r.1).bind fun t'=>match t' with
  | .bl true=>(d r.2).bind fun s=>(h r.1 s.1).map fun x=>(x,s.2)
  | .bl false=>some (.bl false,r.2)
  |_=>none
 | .bl false=>some (.bl false,q.2)
 |_=>none
end M
namespace M
open L2 PySem PySem.Spec
open PyProof.Rows hiding St
open Classical in
noncomputable abbrev MG:=R->Option (R×R)
end M
namespace M
open L2 PySem PySem.Spec
open PyProof.Rows hiding St
noncomputable abbrev MXG:=R->Option (Str×R)
end M
namespace M
open L2 PySem PySem.Spec
open PyProof.Rows hiding St
open Builtin Builtin.Str
noncomputable def sIx (x:Str)(i:Int):Option Str:=(atI x.cps.toList i).map fun c=>⟨#[c]⟩
noncomputable def signs (x:Str):List D:=x.cps.toList.map fun c=>D.str ⟨#[c]⟩
end M
namespace M
open L2 PySem PySem.Spec
open PyProof.Rows hiding St
noncomputable def dAt (c:Str)(ns:List Str)(k:Nat):D->Option D
 | .obj c' ns' ls _ _=>if c'=c/\ns'=ns then ls[k]? else none
 |_=>none
noncomputable abbrev MK:=R->Option ((List Int×List D)×R)
noncomputable def kAt (c:Str)(ns:List Str)(me:ME):MK:=fun ρ=>(me ρ).bind fun p=>match p.1 with
 | .obj c' ns' _ ks ds=>if c'=c/\ns'=ns then some ((ks,ds),p.2)else none
 |_=>none
noncomputable def Sl.ob:Sl->Option (Str×List Str×List (List D)×Option (List Int×List D))
 | .tre (.obj c ns ls dk)=>some (c,ns,ls,dk)
 | .ptr (.obj c ns ls dk)=>some (c,ns,ls,dk)
 |_=>none
noncomputable def obD (c:Str)(ns:List Str)(ls:List (List D))(q:List Int×List D):D:= .obj c ns (ls.map D.lst) q.1 q.2
noncomputable def slC:Str:="Slant"
noncomputable def slN:List Str:=["block","weights","ways","backs","slants"]
end M
namespace M
open L2 PySem
variable {c d x:D} {b:MS} {z:Bool} {Q:Fl×R->Prop} {a i n j N k:Nat} {g:D->R->Option R} {mt:MT} {me m:ME} {ρ:R} {r:Sl} {h:List D->R->Option R} {ds xs ys:List D} {mi ma:MA} {t:Option Sl} {F:List D->Option Sl} {cap:List Nat} {I:R->Prop} {ns:List Int}
noncomputable abbrev Rt {α:Type}(_:α->Prop):Type:=Option α
noncomputable def OkQ {α:Type}(Q:α->Prop)(o:Rt Q):Prop:=∃a,o=some a/\Q a
noncomputable def Ok {α:Type}(o:Option α)(Q:α->Prop):Prop:=OkQ Q o
noncomputable abbrev RtS {α:Sort u}(_:α):Type:=Option Sl
section
variable {α β:Type} {o:Option α} {Q Q':α->Prop}
theorem ok_some {a:α}:OkQ Q (some a)=Q a:=propext ⟨fun⟨_,e,q⟩=>by cases e;exact q,fun q=>⟨a,rfl,q⟩⟩
theorem ok_none:OkQ Q (none:Option α)=False:=propext ⟨fun⟨_,e,_⟩=>(by cases e),False.elim⟩
theorem ok_bind {f:α->Option β}{Q:β->Prop}:OkQ Q (o.bind f)=OkQ (fun a=>OkQ Q (f a)) o:=by
 cases o with
 |none=>exact propext ⟨fun⟨_,e,_⟩=>(by cases e),fun⟨_,e,_⟩=>(by cases e)⟩
 |some a=>exact propext ⟨fun h=>⟨a,rfl,h⟩,fun⟨_,e,h⟩=>by cases e;exact h⟩
theorem ok_map {f:α->β}{Q:β->Prop}:OkQ Q (o.map f)=OkQ (fun a=>Q (f a)) o:=by
 cases o with
 |none=>exact propext ⟨fun⟨_,e,_⟩=>(by cases e),fun⟨_,e,_⟩=>(by cases e)⟩
 |some a=>exact propext ⟨fun h=>⟨a,rfl,ok_some.mp h⟩,fun⟨_,e,h⟩=>by cases e;exact ok_some.mpr h⟩
theorem zf2 {c:Prop}[Decidable c]:OkQ Q (if c then o else none)=(c/\OkQ Q o):=by
 by_cases h:c
 ·rw[if_pos h];exact propext ⟨fun k=>⟨h,k⟩,fun k=>k.2⟩
 ·rw[if_neg h];exact propext ⟨fun k=>(ok_none.mp k).elim,fun k=>absurd k.1 h⟩
theorem ok_Q:Ok o Q=OkQ Q o:=rfl
noncomputable def gd {α:Type}(b:Bool)(o:Option α):Option α:=if b then o else none
theorem ok_gd {b:Bool}(h:b=true):OkQ Q (gd b o)=OkQ Q o:=by subst h;rfl
theorem Ok.mono (h:Ok o Q)(k:∀a,Q a->Q' a):Ok o Q':=by
 obtain⟨a,e,q⟩:=h;exact⟨a,e,k a q⟩
theorem zaN {Q':α->Prop}(h:∀a,Q a=Q' a):OkQ Q o=OkQ Q' o:=by rw[funext h]
end
section
variable {c:MT} {a b:MS} {ρ:R}
theorem znC {α:Type}{o u:Option α}{Q:α->Prop}:OkQ Q (if z then o else u)=((z=true->OkQ Q o)/\(z=false->OkQ Q u)):=by cases z<;>simp
theorem ok_sIf:OkQ Q (sIf c a b ρ)=(OkQ (fun p=>(p.1=true->OkQ Q (a p.2))/\(p.1=false->OkQ Q (b p.2))) (c ρ)):=by
 unfold sIf;rw[ok_bind];exact zaN fun p=>znC
theorem ok_eIf {a b:ME}{Q:D×R->Prop}:OkQ Q (eIf c a b ρ)=(OkQ (fun p=>(p.1=true->OkQ Q (a p.2))/\(p.1=false->OkQ Q (b p.2))) (c ρ)):=by
 unfold eIf;rw[ok_bind];exact zaN fun p=>znC
theorem ok_tAnd {a b:MT}{Q:Bool×R->Prop}:OkQ Q (tAndM a b ρ)=(OkQ (fun p=>(p.1=true->OkQ Q (b p.2))/\(p.1=false->Q (false,p.2))) (a ρ)):=by
 unfold tAndM;rw[ok_bind];exact zaN fun p=>by rw[znC,ok_some]
theorem ok_tOr {a b:MT}{Q:Bool×R->Prop}:OkQ Q (tOrM a b ρ)=(OkQ (fun p=>(p.1=true->Q (true,p.2))/\(p.1=false->OkQ Q (b p.2))) (a ρ)):=by
 unfold tOrM;rw[ok_bind];exact zaN fun p=>by rw[znC,ok_some]
theorem ok_eAnd {a b:ME}{Q:D×R->Prop}:OkQ Q (eAnd a b ρ)=(OkQ (fun p=>∃z,p.1= .bl z/\(z=true->OkQ Q (b p.2))/\(z=false->Q (.bl false,p.2))) (a ρ)):=by
 unfold eAnd;rw[ok_bind];have:∀p:D×R,Ok (match p.1 with
  | .bl true=>b p.2
  | .bl false=>some (.bl false,p.2)
  |_=>none) Q↔∃z,p.1= .bl z/\(z=true->Ok (b p.2) Q)/\(z=false->Q (.bl false,p.2)):=by
  rintro⟨d,ρ⟩;cases d with
  |bl z=>cases z<;>simp[ok_Q,ok_some]
  |_=>simp[ok_Q,ok_none]
 exact zaN fun p=>propext (this p)
theorem ok_eOr {a b:ME}{Q:D×R->Prop}:OkQ Q (eOr a b ρ)=(OkQ (fun p=>∃z,p.1= .bl z/\(z=true->Q (.bl true,p.2))/\(z=false->OkQ Q (b p.2))) (a ρ)):=by
 unfold eOr;rw[ok_bind];have:∀p:D×R,Ok (match p.1 with
  | .bl true=>some (.bl true,p.2)
  | .bl false=>b p.2
  |_=>none) Q↔∃z,p.1= .bl z/\(z=true->Q (.bl true,p.2))/\(z=false->Ok (b p.2) Q):=by
  rintro⟨d,ρ⟩;cases d with
  |bl z=>cases z<;>simp[ok_Q,ok_some]
  |_=>simp[ok_Q,ok_none]
 exact zaN fun p=>propext (this p)
theorem ok_chain {f g:D->D->Option D}{a b c:ME}{Q:D×R->Prop}:OkQ Q (zg6 f g a b c ρ)=(OkQ (fun p=>OkQ (fun q=>OkQ (fun t=>∃z,t= .bl z/\(z=true->OkQ (fun r=>OkQ (fun d=>Q (d,r.2)) (g q.1 r.1)) (c q.2))/\(z=false->Q (.bl false,q.2))) (f p.1 q.1)) (b p.2)) (a ρ)):=by
 unfold zg6;rw[ok_bind];have:∀(p q:D×R) (t:D),Ok (match t with
  | .bl true=>(c q.2).bind fun r=>(g q.1 r.1).map fun d=>(d,r.2)
  | .bl false=>some (.bl false,q.2)
  |_=>none) Q↔∃z,t= .bl z/\(z=true->Ok (c q.2) fun r=>Ok (g q.1 r.1) fun d=>Q (d,r.2))/\(z=false->Q (.bl false,q.2)):=by
  intro p q t;cases t with
  |bl z=>
   cases z
   ·simp[ok_Q,ok_some]
   ·simp only[ok_Q,ok_bind,D.bl.injEq,qcq,forall_const,reduceCtorEq,qcr,and_true];exact iff_of_eq (zaN fun r=>ok_map)
  |_=>simp[ok_Q,ok_none]
 exact zaN fun p=>by rw[ok_bind];exact zaN fun q=>by rw[ok_bind];exact zaN fun t=>propext (this p q t)
theorem ok_turnM {Q:Option D×R->Prop}:OkQ Q (turnM g mt me d ρ)=(OkQ (fun ρ1=>OkQ (fun p=>(p.1=true->OkQ (fun q=>zed q.2=true/\Q (some q.1,q.2)) (me p.2))/\(p.1=false->zed p.2=true/\Q (none,p.2))) (mt ρ1)) (g d ρ)):=by
 unfold turnM;rw[ok_bind];exact zaN fun ρ1=>by rw[ok_bind];exact zaN fun p=>by rw[znC,ok_bind,zf2,ok_some];congr 1;exact propext (imp_congr Iff.rfl (iff_of_eq (zaN fun q=>by rw[zf2,ok_some])))
theorem ok_turnP {bk:Nat}{Q:Option D×R->Prop}:OkQ Q (turnP bk g mt me d ρ)=(OkQ (fun ρ1=>OkQ (fun p=>(p.1=true->OkQ (fun q=>zov bk q.2=true/\Q (some q.1,q.2)) (me p.2))/\(p.1=false->zov bk p.2=true/\Q (none,p.2))) (mt ρ1)) (g d ρ)):=by
 unfold turnP;rw[ok_bind];exact zaN fun ρ1=>by rw[ok_bind];exact zaN fun p=>by rw[znC,ok_bind,zf2,ok_some];congr 1;exact propext (imp_congr Iff.rfl (iff_of_eq (zaN fun q=>by rw[zf2,ok_some])))
theorem zqu (n:Nat):Int.natAbs (no_index (OfNat.ofNat n))=n:=rfl
end
section
theorem ok_sNext:OkQ Q (zb0 ρ)=(Q (.next,ρ)):=ok_some
noncomputable def SeqK (b:MS)(Q:Fl×R->Prop)(p:Fl×R):Prop:=OkQ Q (match p.1 with
 | .next=>b p.2
 |f=>some (f,p.2))
theorem zsv:SeqK b Q (.next,ρ)=(OkQ Q (b ρ)):=rfl
theorem seqK_ret:SeqK b Q (.ret r,ρ)=(Q (.ret r,ρ)):=ok_some
theorem seqK_brk:SeqK b Q (.brk,ρ)=(Q (.brk,ρ)):=ok_some
theorem zsK:SeqK b Q (.cont,ρ)=(Q (.cont,ρ)):=ok_some
theorem ok_sSeq {a b:MS}:OkQ Q (sSeq a b ρ)=(OkQ (SeqK b Q) (a ρ)):=ok_bind
theorem ok_sRet:OkQ Q (sRet m ρ)=(OkQ (fun p=>Q (.ret (.val p.1),p.2)) (m ρ)):=ok_map
theorem ok_sRetO {m:MO}:OkQ Q (zio m ρ)=(OkQ (fun p=>Q (.ret (.own p.1),p.2)) (m ρ)):=ok_map
theorem ok_sRetV:OkQ Q (zgX i ρ)=OkQ Q (match ρ[i]? with
 |some (.val d)=>some (.ret (.val d),ρ)
 |some (.own ds)=>some (.ret (.own ds),ρ.set i .emp)
 |_=>none):=rfl
theorem ok_gN {Q:R->Prop}:OkQ Q (gN i d ρ)=(Q (ρ.set i (.val d))):=ok_some
theorem ok_gsNil {ds:List D}{ρ:R}{Q:R->Prop}:OkQ Q (zbH ds ρ)=OkQ Q (match ds with
 |[]=>some ρ
 |_=>none):=rfl
theorem zsl {Q:R->Prop}:OkQ Q (zaq g h ds ρ)=OkQ Q (match ds with
 |d::ds=>(g d ρ).bind fun ρ1=>h ds ρ1
 |[]=>none):=rfl
theorem ok_gT {g:List D->R->Option R}{Q:R->Prop}:OkQ Q (gT n g d ρ)=OkQ Q (match d with
 | .tup ds=>if ds.length=n then g ds ρ else none
 |_=>none):=rfl
theorem ok_sAsg:OkQ Q (sAsg m g ρ)=(OkQ (fun p=>OkQ (fun ρ'=>Q (.next,ρ')) (g p.1 p.2)) (m ρ)):=ok_bind.trans (zaN fun _=>ok_map)
theorem ok_sSet:OkQ Q (sSet i m ρ)=(OkQ (fun p=>Q (.next,p.2.set i (.val p.1))) (m ρ)):=ok_map
theorem ok_sSetO {m:MO}:OkQ Q (zhx i m ρ)=(OkQ (fun p=>Q (.next,p.2.set i (.own p.1))) (m ρ)):=ok_map
theorem ok_sApp:OkQ Q (sApp i m ρ)=OkQ Q (gd ((ρ[i]?.bind Sl.items).isSome) ((m ρ).bind fun p=>p.2[i]?.bind fun s=>s.items.bind fun ds=>if ds.length<16777216 then some (.next,p.2.set i (s.put (ds++[p.1])))else none)):=rfl
theorem ok_sPut {mi me:ME}:OkQ Q (sPut j mi me ρ)=OkQ Q ((me ρ).bind fun p=>gd (hasV p.2 j) ((mi p.2).bind fun q=>match q.1 with
 | .int k=>q.2[j]?.bind fun s=>s.items.bind fun ds=>(ixN ds.length k).bind fun n=>some (.next,q.2.set j (s.put (ds.set n p.1)))
 |_=>none)):=rfl
theorem ok_eC {Q:D×R->Prop}:OkQ Q (eC d ρ)=(Q (d,ρ)):=ok_some
noncomputable def eVQ (Q:D×R->Prop)(s:RtS Q)(ρ:R)(i:Nat):Prop:=match s with
 |some (.val d)=>Q (d,ρ)
 |some (.own ds)=>Q (.lst ds,ρ.set i (.val (.lst ds)))
 |_=>False
theorem zlb {Q:D×R->Prop}:eVQ Q (some (.val d)) ρ i=Q (d,ρ):=rfl
theorem eVQ_own {Q:D×R->Prop}:eVQ Q (some (.own ds)) ρ i=Q (.lst ds,ρ.set i (.val (.lst ds))):=rfl
theorem zk3 {Q:D×R->Prop}:OkQ Q (eVar i ρ)=eVQ Q ρ[i]? ρ i:=by
 unfold eVar eVQ;cases ρ[i]? with
 |none=>exact ok_none
 |some s=>cases s<;>first|exact ok_some|exact ok_none
noncomputable def Vb (Q:D->D->Prop)(P:Prop)(s:RtS Q)(t:Option Sl):Prop:=match s,t with
 |some (.val x),some (.val y)=>Q x y
 |_,_=>P
theorem Vb_val {Q:D->D->Prop}{P:Prop}{x y:D}:Vb Q P (some (.val x)) (some (.val y))=Q x y:=rfl
theorem Vb_own {Q:D->D->Prop}{P:Prop}:Vb Q P (some (.own xs)) t=P:=rfl
theorem Vb_own2 {Q:D->D->Prop}{P:Prop}:Vb Q P (some (.val x)) (some (.own ys))=P:=rfl
noncomputable def Va (Q:D->Prop)(P:Prop)(s:RtS Q):Prop:=match s with
 |some (.val x)=>Q x
 |_=>P
theorem Va_val {Q:D->Prop}{P:Prop}:Va Q P (some (.val x))=Q x:=rfl
theorem Va_own {Q:D->Prop}{P:Prop}:Va Q P (some (.own xs))=P:=rfl
theorem ok_aNil {Q:List D×R->Prop}:OkQ Q (aNil ρ)=(Q ([],ρ)):=ok_some
theorem ok_aCons {r:MA}{Q:List D×R->Prop}:OkQ Q (zad m r ρ)=(OkQ (fun p=>OkQ (fun q=>Q (p.1::q.1,q.2)) (r p.2)) (m ρ)):=ok_bind.trans (zaN fun _=>ok_map)
theorem ok_m2 {f:D->D->Option D}{ma mb:ME}{Q:D×R->Prop}:OkQ Q (m2 f ma mb ρ)=(OkQ (fun p=>OkQ (fun q=>OkQ (fun d=>Q (d,q.2)) (f p.1 q.1)) (mb p.2)) (ma ρ)):=ok_bind.trans (zaN fun _=>ok_bind.trans (zaN fun _=>ok_map))
theorem ok_m2VV {f:D->D->Option D}{a b:Nat}{Q:D×R->Prop}:OkQ Q (m2 f (eVar a) (eVar b) ρ)=Vb (fun x y=>OkQ (fun d=>Q (d,ρ)) (f x y)) (OkQ (fun p=>OkQ (fun q=>OkQ (fun d=>Q (d,q.2)) (f p.1 q.1)) (eVar b p.2)) (eVar a ρ)) ρ[a]? ρ[b]?:=by
 rw[ok_m2,Vb.eq_def]
 split
 ·rename_i x y h1 h2;rw[zk3,h1,zlb,zk3,h2,zlb]
 ·rfl
theorem ok_m2VC {f:D->D->Option D}{Q:D×R->Prop}:OkQ Q (m2 f (eVar a) (eC c) ρ)=Va (fun x=>OkQ (fun d=>Q (d,ρ)) (f x c)) (OkQ (fun p=>OkQ (fun d=>Q (d,p.2)) (f p.1 c)) (eVar a ρ)) ρ[a]?:=by
 rw[ok_m2,Va.eq_def,show(fun p:D×R=>OkQ (fun q=>OkQ (fun d=>Q (d,q.2)) (f p.1 q.1)) (eC c p.2))=fun p=>OkQ (fun d=>Q (d,p.2)) (f p.1 c)from funext fun p=>ok_eC]
 split
 ·rename_i x h1;rw[zk3,h1,zlb]
 ·rfl
theorem ok_m2CV {f:D->D->Option D}{Q:D×R->Prop}:OkQ Q (m2 f (eC c) (eVar a) ρ)=Va (fun x=>OkQ (fun d=>Q (d,ρ)) (f c x)) (OkQ (fun p=>OkQ (fun d=>Q (d,p.2)) (f c p.1)) (eVar a ρ)) ρ[a]?:=by
 rw[ok_m2,Va.eq_def,ok_eC]
 split
 ·rename_i x h1;rw[zk3,h1,zlb]
 ·rfl
theorem ok_m1 {f:D->Option D}{ma:ME}{Q:D×R->Prop}:OkQ Q (m1 f ma ρ)=(OkQ (fun p=>OkQ (fun d=>Q (d,p.2)) (f p.1)) (ma ρ)):=ok_bind.trans (zaN fun _=>ok_map)
theorem ok_mC {f:List D->Option D}{Q:D×R->Prop}:OkQ Q (mC f ma ρ)=(OkQ (fun p=>OkQ (fun d=>Q (d,p.2)) (f p.1)) (ma ρ)):=ok_bind.trans (zaN fun _=>ok_map)
theorem ok_eIxV {mi:ME}{Q:D×R->Prop}:OkQ Q (eIxV j mi ρ)=OkQ Q (gd (hasV ρ j) ((mi ρ).bind fun p=>(p.2[j]?.bind Sl.read).bind fun d=>(dIx d p.1).map fun e=>(e,p.2))):=Eq.trans rfl rfl
noncomputable def ixR (s:Option Sl)(c:D):Option D:=match s with
 |some (.val d)=>dIx d c
 |some (.own ds)=>dIx (.lst ds) c
 |some (.par ds)=>dIx (.lst ds) c
 |_=>none
theorem ixR_val:ixR (some (.val d)) c=dIx d c:=rfl
theorem ixR_own:ixR (some (.own ds)) c=dIx (.lst ds) c:=rfl
theorem ixR_par:ixR (some (.par ds)) c=dIx (.lst ds) c:=rfl
theorem zp0:(if hasV ρ j then(ρ[j]?.bind Sl.read).bind fun d=>(dIx d c).map fun e=>(e,ρ)else none)=(ixR ρ[j]? c).map fun e=>(e,ρ):=by
 unfold hasV;cases ρ[j]? with
 |none=>rfl
 |some s=>cases s<;>rfl
theorem ok_eIxC {Q:D×R->Prop}:OkQ Q (eIxV j (eC c) ρ)=OkQ (fun e=>Q (e,ρ)) (ixR ρ[j]? c):=by
 rw[show eIxV j (eC c) ρ=(ixR ρ[j]? c).map fun e=>(e,ρ)from zp0,ok_map]
theorem ok_eIxE {Q:D×R->Prop}:OkQ Q (eIxV j (eVar i) ρ)=Va (fun c=>OkQ (fun e=>Q (e,ρ)) (ixR ρ[j]? c)) (OkQ Q (gd (hasV ρ j) ((eVar i ρ).bind fun p=>(p.2[j]?.bind Sl.read).bind fun d=>(dIx d p.1).map fun e=>(e,p.2)))) ρ[i]?:=by
 rw[Va.eq_def]
 split
 ·rename_i x h1;rw[show eIxV j (eVar i) ρ=(ixR ρ[j]? x).map fun e=>(e,ρ) by
   rw[<-zp0];unfold eIxV;rw[show eVar i ρ=some (x,ρ) by unfold eVar;rw[h1]];rfl,ok_map]
 ·rfl
theorem ok_eLenV {Q:D×R->Prop}:OkQ Q (zdf j ρ)=OkQ Q ((ρ[j]?.bind Sl.read).bind fun d=>(dLen [d]).map fun e=>(e,ρ)):=rfl
theorem ok_oC {f:List D->Option (List D)}{Q:List D×R->Prop}:OkQ Q (oC f ma ρ)=(OkQ (fun p=>OkQ (fun d=>Q (d,p.2)) (f p.1)) (ma ρ)):=ok_bind.trans (zaN fun _=>ok_map)
theorem ok_eTup {Q:D×R->Prop}:OkQ Q (eTup ma ρ)=(OkQ (fun p=>p.1.length<=16777216/\Q (.tup p.1,p.2)) (ma ρ)):=ok_bind.trans (zaN fun _=>by rw[zf2,ok_some])
theorem ok_oLst {Q:List D×R->Prop}:OkQ Q (oLst ma ρ)=(OkQ (fun p=>p.1.length<=16777216/\Q (p.1,p.2)) (ma ρ)):=ok_bind.trans (zaN fun _=>by rw[zf2,ok_some])
theorem ok_tTru {ma:ME}{Q:Bool×R->Prop}:OkQ Q (tTru ma ρ)=(OkQ (fun p=>OkQ (fun b=>Q (b,p.2)) (dTru p.1)) (ma ρ)):=ok_bind.trans (zaN fun _=>ok_map)
theorem ok_tNotM {a:MT}{Q:Bool×R->Prop}:OkQ Q (zjq a ρ)=(OkQ (fun p=>Q (!p.1,p.2)) (a ρ)):=ok_map
theorem ok_eCall {Q:D×R->Prop}:OkQ Q (zas F ma ρ)=OkQ Q ((ma ρ).bind fun p=>(F p.1).bind fun r=>match r with
 | .val d=>some (d,p.2)
 | .own ds=>some (.lst ds,p.2)
 |_=>none):=rfl
theorem ok_oCall {Q:List D×R->Prop}:OkQ Q (znR F ma ρ)=OkQ Q ((ma ρ).bind fun p=>(F p.1).bind fun r=>match r with
 | .own ds=>some (ds,p.2)
 |_=>none):=rfl
theorem zsW {F:List D->List D->Option (Sl×List D)}{Q:D×R->Prop}:OkQ Q (zbB F j ma ρ)=OkQ Q (gd ((ρ[j]?.bind Sl.items).isSome) ((ma ρ).bind fun p=>p.2[j]?.bind fun s=>s.items.bind fun cs=>(F cs p.1).bind fun r=>match r.1 with
 | .val d=>some (d,p.2.set j (s.put r.2))
 | .own ds=>some (.lst ds,p.2.set j (s.put r.2))
 |_=>none)):=rfl
theorem ok_iR2L {Q:List D×R->Prop}:OkQ Q (iR2L ma ρ)=OkQ Q ((ma ρ).bind fun p=>match p.1 with
 |[.int i,.int j]=>some (zeX i (j-i).toNat,p.2)
 |_=>none):=rfl
theorem ok_eFz {m:MO}{Q:D×R->Prop}:OkQ Q (eFz m ρ)=(OkQ (fun p=>Q (.lst p.1,p.2)) (m ρ)):=ok_map
theorem ok_eCut {ma:ME}{ml mh:MP}{Q:D×R->Prop}:OkQ Q (eCut ma ml mh ρ)=OkQ Q ((ma ρ).bind fun p=>(ml p.2).bind fun q=>(mh q.2).bind fun r=>(dCut p.1 q.1 r.1).map fun d=>(d,r.2)):=rfl
theorem ok_pNo {Q:Option Int×R->Prop}:OkQ Q (pNo ρ)=(Q (none,ρ)):=ok_some
theorem ok_pSome {Q:Option Int×R->Prop}:OkQ Q (zbx m ρ)=OkQ Q ((m ρ).bind fun p=>match p.1 with
 | .int i=>some (some i,p.2)
 |_=>none):=rfl
theorem ok_iSeq {Q:List D×R->Prop}:OkQ Q (iSeq m ρ)=(OkQ (fun p=>OkQ (fun ds=>Q (ds,p.2)) (zaV [p.1])) (m ρ)):=ok_bind.trans (zaN fun _=>ok_map)
theorem ok_iR1 {Q:List D×R->Prop}:OkQ Q (iR1 ma ρ)=OkQ Q ((ma ρ).bind fun p=>match p.1 with
 |[.int j]=>if zbL j then some (zeX 0 j.toNat,p.2)else none
 |_=>none):=rfl
theorem ok_iR2 {Q:List D×R->Prop}:OkQ Q (iR2 ma ρ)=OkQ Q ((ma ρ).bind fun p=>match p.1 with
 |[.int i,.int j]=>if zbL i&&zbL j then some (zeX i (j-i).toNat,p.2)else none
 |_=>none):=rfl
theorem ok_sFor {mb:MS}:OkQ Q (sFor mi g mb ρ)=(OkQ (fun p=>OkQ Q (forM (fun d ρ=>(g d ρ).bind fun ρ'=>mb ρ') p.1 p.2)) (mi ρ)):=ok_bind
theorem ok_oLC {t:Nat}{Q:List D×R->Prop}:OkQ Q (oLC cap t mi g mt me ρ)=OkQ Q ((mi ρ).bind fun p=>if p.1.length<=16777216 then(ze5 (turnM g mt me) p.1 (capR cap t (fzL cap p.2))).map fun q=>(q.1,fzL cap p.2)else none):=rfl
theorem ok_tTrue {Q:Bool×R->Prop}:OkQ Q (zbp ρ)=(Q (true,ρ)):=ok_some
theorem ok_sAugI {g:Int->Int->Int}:OkQ Q (zk6 i g me ρ)=OkQ Q (match ρ[i]? with
 |some (.val (.int a))=>(me ρ).bind fun p=>match p.1 with
  | .int b=>some (.next,p.2.set i (.val (.int (g a b))))
  |_=>none
 |_=>none):=rfl
theorem ok_eCutS {ma:ME}{ml mh ms:MP}{Q:D×R->Prop}:OkQ Q (zrT ma ml mh ms ρ)=OkQ Q ((ma ρ).bind fun p=>(ml p.2).bind fun q=>(mh q.2).bind fun r=>(ms r.2).bind fun t=>(zr0 p.1 q.1 r.1 t.1).map fun d=>(d,t.2)):=rfl
theorem ok_oRep {ma mb:ME}{Q:List D×R->Prop}:OkQ Q (oRep ma mb ρ)=OkQ Q ((ma ρ).bind fun p=>(mb p.2).bind fun q=>match p.1,q.1 with
 | .lst xs,.int k=>if zbL k&&decide (xs.length*k.toNat<=16777216)then some ((List.replicate k.toNat xs).flatten,q.2)else none
 |_,_=>none):=rfl
theorem ok_iZ2 {Q:List D×R->Prop}:OkQ Q (iZ2 ma ρ)=OkQ Q ((ma ρ).bind fun p=>match p.1 with
 |[a,b]=>(zaV [a]).bind fun xs=>(zaV [b]).bind fun ys=>some (zoF xs ys,p.2)
 |_=>none):=rfl
theorem ok_iZ3 {Q:List D×R->Prop}:OkQ Q (iZ3 ma ρ)=OkQ Q ((ma ρ).bind fun p=>match p.1 with
 |[a,b,c]=>(zaV [a]).bind fun xs=>(zaV [b]).bind fun ys=>(zaV [c]).bind fun zs=>some (zow xs ys zs,p.2)
 |_=>none):=rfl
theorem ok_iEn {Q:List D×R->Prop}:OkQ Q (iEn ma ρ)=OkQ Q ((ma ρ).bind fun p=>(zaV p.1).map fun xs=>(zoH xs,p.2)):=rfl
theorem ok_oLCM {t b w:Nat}{Q:List D×R->Prop}:OkQ Q (oLCM cap t b w mi g mt me ρ)=OkQ Q ((mi ρ).bind fun p=>if p.1.length<=16777216 then
    ((fzL (cap.filter (· !=w)) p.2)[w]?).bind fun s=>s.items.bind fun cs=>(ze5 (turnP b g mt me) p.1 ((capR cap t (fzL (cap.filter (· !=w)) p.2)).set b (.par cs))).map fun q=>(q.1,(fzL (cap.filter (· !=w)) p.2).set w (s.put (zr1 b q.2)))
  else none):=rfl
noncomputable def znf:Nat->List D->R
 |N,[]=>List.replicate N .emp
 |N,d::ds=> .val d::znf (N-1) ds
theorem zlx {d:D}:znf N (d::ds)= .val d::znf (N-1) ds:=rfl
theorem zsY:znf N []=List.replicate N .emp:=rfl
theorem zkg:∀(N:Nat) (ds:List D),ds.map .val++List.replicate (N-ds.length) .emp=znf N ds
 |_,[]=>rfl
 |N,d::ds=>by rw[zlx,<-zkg (N-1) ds,qbc,qbr,Nat.sub_sub,qbl 1];rfl
theorem zq7 {α β:Type}{f:α->β}{a:α}{l:List α}:(a::l).map f=f a::l.map f:=rfl
theorem map_nilR {α β:Type}{f:α->β}:[].map f=[]:=rfl
theorem ok_fP {m:MS}{Q:Sl->Prop}:OkQ Q (fP N m ds)=OkQ Q ((m (znf N ds)).bind fun p=>match p.1 with
 | .ret r=>some r
 | .next=>some (.val .non)
 |_=>none):=by rw[<-zkg];rfl
theorem ok_fM {m:MS}{cs:List D}{Q:Sl×List D->Prop}:OkQ Q (fM N m cs ds)=OkQ Q ((m (.par cs::znf (N-1) ds)).bind fun p=>match p.1,(p.2[0]?:Option Sl)with
 |Fl.ret r,some (Sl.par out)=>some (r,out)
 |Fl.next,some (Sl.par out)=>some (.val .non,out)
 |_,_=>none):=by rw[<-zkg,Nat.sub_sub,qbl 1];rfl
end
noncomputable def Turn (I:R->Prop)(Q:Fl×R->Prop)(p:Fl×R):Prop:=match p.1 with
 | .next=>I p.2
 | .cont=>I p.2
 | .brk=>Q (.next,p.2)
 | .ret r=>Q (.ret r,p.2)
theorem zrb:Turn I Q (.next,ρ)=(I ρ):=rfl
theorem zrn:Turn I Q (.cont,ρ)=(I ρ):=rfl
theorem turn_brk:Turn I Q (.brk,ρ)=(Q (.next,ρ)):=rfl
theorem turn_ret:Turn I Q (.ret r,ρ)=(Q (.ret r,ρ)):=rfl
theorem zqY {α:Type}{f:D->R->Option (Fl×R)}(enc:α->D)(I:Nat->R->Prop):∀(l:List α) (b:Nat) (ρ:R),I b ρ->
  (∀i a ρ,l[i]? =some a->I (b+i) ρ->Ok (f (enc a) ρ) (Turn (I (b+i+1)) Q))->(∀ρ,I (b+l.length) ρ->Q (.next,ρ))->Ok (forM f (l.map enc) ρ) Q
 |[],b,ρ,h0,_,hq=>ok_some.mpr (hq ρ h0)
 |a::l,b,ρ,h0,hs,hq=>by
  obtain⟨p,e,t⟩:=hs 0 a ρ rfl h0;obtain⟨fl,ρ1⟩:=p;have go:∀ρ1,I (b+1) ρ1->Ok (forM f (l.map enc) ρ1) Q:=fun ρ1 h1=>zqY enc I l (b+1) ρ1 h1 (fun i a' ρ' hi hp=>by
   have:=hs (i+1) a' ρ' (by simpa using hi) (by rw[show b+(i+1)=b+1+i by lia];exact hp);rw[show b+(i+1)+1=b+1+i+1 by lia]at this;exact this) (fun ρ h=>hq ρ (by rw[qbr,show b+(l.length+1)=b+1+l.length by lia];exact h))
  have e':forM f ((a::l).map enc) ρ=(f (enc a) ρ).bind fun p=>match p.1 with
   | .next=>forM f (l.map enc) p.2
   | .cont=>forM f (l.map enc) p.2
   | .brk=>some (.next,p.2)
   | .ret r=>some (.ret r,p.2):=rfl
  rw[e',e];cases fl with
  |next=>exact go ρ1 t
  |cont=>exact go ρ1 t
  |brk=>exact ok_some.mpr t
  |ret r=>exact ok_some.mpr t
theorem zjS {α:Type}{f:D->R->Option (Fl×R)}{enc:α->D}{l:List α}(I:Nat->R->Prop)(h0:I 0 ρ)
  (hs:∀i a ρ,l[i]? =some a->I i ρ->Ok (f (enc a) ρ) (Turn (I (i+1)) Q)) (hq:∀ρ,I l.length ρ->Q (.next,ρ)):Ok (forM f (l.map enc) ρ) Q:=
 zqY enc I l 0 ρ h0 (fun i a ρ hi h=>by rw[qcs]at h ⊢;exact hs i a ρ hi h) (fun ρ h=>hq ρ (by rw[qcs]at h;exact h))
theorem zm0 {α:Type}{f:D->R->Option (Option D×R)}(enc:α->D){Q:List D×R->Prop}(I:Nat->List D->R->Prop):∀(l:List α) (b:Nat) (acc:List D) (ρ:R),I b acc ρ->
  (∀i a acc ρ,l[i]? =some a->I (b+i) acc ρ->Ok (f (enc a) ρ) fun p=>I (b+i+1) (acc++p.1.toList) p.2)->(∀ds ρ,I (b+l.length) (acc++ds) ρ->Q (ds,ρ))->Ok (ze5 f (l.map enc) ρ) Q
 |[],b,acc,ρ,h0,_,hq=>ok_some.mpr (hq [] ρ (by rw[qaK];exact h0))
 |a::l,b,acc,ρ,h0,hs,hq=>by
  obtain⟨p,e,t⟩:=hs 0 a acc ρ rfl h0;have go:=zm0 enc (Q:=fun q=>Q (p.1.toList++q.1,q.2)) I l (b+1) (acc++p.1.toList) p.2 t (fun i a' acc' ρ' hi hp=>by
   have:=hs (i+1) a' acc' ρ' (by simpa using hi) (by rw[show b+(i+1)=b+1+i by lia];exact hp);rw[show b+(i+1)+1=b+1+i+1 by lia]at this;exact this) (fun ds ρ h=>hq _ ρ (by rw[qbr,show b+(l.length+1)=b+1+l.length by lia,<-qbh];exact h))
  have e':ze5 f ((a::l).map enc) ρ=(f (enc a) ρ).bind fun p=>(ze5 f (l.map enc) p.2).map fun q=>(p.1.toList++q.1,q.2):=rfl
  rw[e',e];exact ok_map.mpr go
theorem zpc {α:Type}{f:D->R->Option (Option D×R)}{enc:α->D}{l:List α}{Q:List D×R->Prop}(I:Nat->List D->R->Prop)(h0:I 0 [] ρ)
  (hs:∀i a acc ρ,l[i]? =some a->I i acc ρ->Ok (f (enc a) ρ) fun p=>I (i+1) (acc++p.1.toList) p.2) (hq:∀ds ρ,I l.length ds ρ->Q (ds,ρ)):Ok (ze5 f (l.map enc) ρ) Q:=
 zm0 enc I l 0 [] ρ h0 (fun i a acc ρ hi h=>by rw[qcs]at h ⊢;exact hs i a acc ρ hi h) (fun ds ρ h=>hq ds ρ (by rw[qcs]at h;exact h))
theorem zfM {α β:Type}{f g:α->Option β}:∀(l:List α),(∀a∈l,f a=g a)->l.filterMap f=l.filterMap g
 |[],_=>rfl
 |a::l,h=>by rw[qaj,qaj,h a qak,zfM l fun b hb=>h b (qal _ hb)]
theorem zlU {α:Type}{f:D->R->Option (Option D×R)}{enc:α->D}{l:List α}{Q:List D×R->Prop}(P:R->Prop)(g:α->Option D)(h0:P ρ)
  (hs:∀a ρ,a∈l->P ρ->Ok (f (enc a) ρ) fun p=>p.1=g a/\P p.2) (hq:∀ρ,P ρ->Q (l.filterMap g,ρ)):Ok (ze5 f (l.map enc) ρ) Q:=
 zpc (fun i ds ρ=>ds=(l.take i).filterMap g/\P ρ) ⟨rfl,h0⟩ (fun i a acc ρ hi ⟨e,p⟩=>by
  refine(hs a ρ (qaV hi) p).mono fun r h=>⟨?_,h.2⟩
  obtain⟨h1,h2⟩:=qap.mp hi;rw[h.1,e,List.take_add_one,hi,List.filterMap_append];cases q:g a<;>simp[q]) (fun ds ρ ⟨e,p⟩=>by rw[List.take_length]at e;rw[e];exact hq ρ p)
theorem zir {α:Type}{f:D->R->Option (Option D×R)}{enc:α->D}{l:List α}{Q:List D×R->Prop}(P:R->Prop)(g:α->D)(h0:P ρ)
  (hs:∀a ρ,a∈l->P ρ->Ok (f (enc a) ρ) fun p=>p.1=some (g a)/\P p.2) (hq:∀ρ,P ρ->Q (l.map g,ρ)):Ok (ze5 f (l.map enc) ρ) Q:=
 zlU P (fun a=>some (g a)) h0 hs (fun ρ p=>by rw[<-qct some g,List.filterMap_eq_map];exact hq ρ p)
theorem dEq_int (i j:Int):dEq (.int i) (.int j)=some (.bl (i==j)):=by
 unfold dEq;rw[show noS (.int i)=true from rfl,show noS (.int j)=true from rfl,show depth (.int i)=0 from rfl]
 rfl
theorem dNe_int (i j:Int):dNe (.int i) (.int j)=some (.bl (i !=j)):=by
 unfold dNe;rw[show noS (.int i)=true from rfl,show noS (.int j)=true from rfl,show depth (.int i)=0 from rfl]
 rfl
theorem atI_n {α:Type}(xs:List α)(i:Nat):atI xs (i:Int)=xs[i]?:=by
 unfold atI ixN;rw[if_pos (by lia)]
 by_cases h:i<xs.length
 ·rw[if_pos (by lia)];simp
 ·rw[if_neg (by lia)];simp[qbU (by lia:xs.length<=i)]
theorem atI_lit {α:Type}(xs:List α)(n:Nat):atI xs (no_index (@OfNat.ofNat Int n _))=xs[n]?:=atI_n xs n
theorem atI_n1 {α:Type}(xs:List α)(i:Nat):atI xs ((i:Int)+1)=xs[i+1]?:=atI_n xs (i+1)
theorem ixN_n (n i:Nat):ixN n (i:Int)=if i<n then some i else none:=by
 unfold ixN;rw[if_pos (by lia)]
 by_cases h:i<n
 ·rw[if_pos (by lia),if_pos h];simp
 ·rw[if_neg (by lia),if_neg h]
theorem ixN_lit (n i:Nat):ixN n (no_index (@OfNat.ofNat Int i _))=if i<n then some i else none:=ixN_n n i
theorem zph {α:Type}(xs:List α)(x:α):atI (xs++[x]) (-1)=some x:=by
 unfold atI ixN;rw[if_neg (by lia),if_pos (by simp;lia)];have:(-1+((xs++[x]).length:Int)).toNat=xs.length:=by simp;lia
 simp only[qbw,this];simp
theorem zdi {i j:Int}(h:i.natAbs<18446744073709551616):zmc i j=true:=by
 unfold zmc;have:decide (i.natAbs<2^64)=true:=qbp h;rw[this];rfl
theorem zrh {i j:Int}(h:j.natAbs<18446744073709551616):zmc i j=true:=by
 unfold zmc;have:decide (j.natAbs<2^64)=true:=qbp h;rw[this];simp
theorem zay {j:Int}(h1: -1000000000000<=j)(h2:j<=1000000000000):zbL j=true:=by
 unfold zbL;rw[qbp h1,qbp h2];rfl
noncomputable def wL (n:Nat)(f:Nat->D):List D:=(List.range n).map f
noncomputable abbrev wI (n:Nat)(f:Nat->Int):List D:=wL n fun i=> .int (f i)
theorem zaF (n:Nat)(f:Nat->D):(wL n f).length=n:=by simp[wL]
theorem zao (f:Nat->D)(h:i<n):(wL n f)[i]? =some (f i):=by simp[wL,h]
theorem zea (n:Nat)(f:Nat->D):wL (n+1) f=wL n f++[f n]:=by simp[wL,qcu]
theorem zcG {f g:Nat->D}(h:∀i,i<n->f i=g i):wL n f=wL n g:=qci fun i hi=>h i (qah.mp hi)
theorem wL_snoc (n:Nat)(f:Nat->D)(x:D):wL n f++[x]=wL (n+1) fun j=>if j<n then f j else x:=by
 rw[zea];congr 1
 ·exact zcG fun i hi=>by rw[if_pos hi]
 ·rw[if_neg (by lia)]
theorem wL_set (f:Nat->D)(x:D)(h:i<n):(wL n f).set i x=wL n fun j=>if j=i then x else f j:=by
 apply qcv;intro j
 by_cases hj:j<n
 ·rw[zao _ hj,qbu]
  by_cases e:i=j
  ·subst e;simp[zaF,h]
  ·simp[e,zao _ hj,Ne.symm e]
 ·rw[qbU (by simp[zaF];lia),qbU (by simp[zaF];lia)]
theorem atI_w1 (f:Nat->D):atI (wL (n+1) f) (-1)=some (f n):=by rw[zea];exact zph _ _
theorem zma (n:Nat)(f:Nat->D):zoH (wL n f)=wL n fun i=> .tup [.int (i:Nat),f i]:=by
 apply qcv;intro j;unfold zoH
 by_cases hj:j<n
 ·rw[qce,zao _ hj,zao _ hj];simp[zaF,hj]
 ·rw[qbU (by simp[zaF];lia),qbU (by simp[zaF];lia)]
theorem zkI (n:Nat)(f g:Nat->D):zoF (wL n f) (wL n g)=wL n fun i=> .tup [f i,g i]:=by
 apply qcv;intro j;unfold zoF
 by_cases hj:j<n
 ·rw[qce,zao _ hj,zao _ hj,zao _ hj]
 ·rw[qbU (by simp[zaF];lia),qbU (by simp[zaF];lia)]
theorem zhn {α:Type}(xs:List α)(i:Nat):cutD xs none (some (i:Int))=xs.take i:=by
 unfold cutD;rw[HT.zjt,HT.zo3,qbW,List.drop_zero]
 by_cases h:i<=xs.length
 ·rw[qcw h]
 ·rw[Nat.min_eq_right (by lia),qbT (qaE _),qbT (by lia)]
theorem zhp {α:Type}(xs:List α)(i:Nat):cutD xs (some (i:Int)) none=xs.drop i:=by
 unfold cutD;rw[HT.zjt,HT.zo3]
 by_cases h:i<=xs.length
 ·rw[qcw h,qbT (by simp)]
 ·rw[Nat.min_eq_right (by lia),qcx (qaE _),qcx (by lia)];simp
theorem zbI:∀(l:List Int),zby (l.map .int)=some l
 |[]=>rfl
 |i::l=>by simp[zby,zbI l]
theorem zkx (bt:Nat->Nat->Bool):∀n,argBest bt n<=n
 |0=>qaE 0
 |n+1=>by
  have:=zkx bt n;unfold argBest
  split<;>lia
theorem zm9 (lt:Int->Int->Bool)(h:ns≠[]):zk8 lt ns∈ns:=by
 unfold zk8;have hl:0<ns.length:=qbX.mpr h;have:=zkx (fun i j=>lt (ns.getD i 0) (ns.getD j 0)) (ns.length-1)
 generalize argBest (fun i j=>lt (ns.getD i 0) (ns.getD j 0)) (ns.length-1)=k at*
 rw[qcy,qbF (by lia)];exact List.getElem_mem _
theorem zlC (lt:Int->Int->Bool)(h:ns≠[]):zoM lt [.lst (ns.map .int)]=some (.int (zk8 lt ns)):=by
 have hne:ns.isEmpty=false:=by cases ns with|nil=>exact absurd rfl h|cons=>rfl
 simp only[zoM,zaV,qbw,zbI,hne]
 rfl
mutual
theorem zpl:∀(d:D),noS d=true->eqB d d=true
 | .non,_=>rfl
 | .bl b,_=>by simp[eqB]
 | .int i,_=>by simp[eqB]
 | .str s,_=>by simp[eqB]
 | .lst ds,h=>by simp only[eqB];exact zkO ds (by simpa[noS]using h)
 | .tup ds,h=>by simp only[eqB];exact zkO ds (by simpa[noS]using h)
 | .scr _,h=>by simp[noS]at h
 | .exc _,h=>by simp[noS]at h
theorem zkO:∀(ds:List D),noSL ds=true->eqBL ds ds=true
 |[],_=>rfl
 |d::ds,h=>by
  simp only[noSL,qa9]at h;simp only[eqBL,qa9];exact⟨zpl d h.1,zkO ds h.2⟩
end
theorem dNe_same (h:noS d=true)(k:depth d<=50):dNe d d=some (.bl false):=by simp[dNe,h,k,zpl d h]
theorem zrC:∀{ds:List D},(∀d∈ds,noS d=true)->noSL ds=true
 |[],_=>rfl
 |d::ds,h=>by simp only[noSL,qa9];exact⟨h d qak,zrC fun e he=>h e (qal _ he)⟩
theorem zm3:∀{ds:List D},(∀d∈ds,depth d<=k)->zjf ds<=k
 |[],_=>qbB _
 |d::ds,h=>by simp only[zjf];exact Nat.max_le.mpr ⟨h d qak,zm3 fun e he=>h e (qal _ he)⟩
noncomputable def Pl (k:Nat)(d:D):Prop:=noS d=true/\depth d<=k
theorem zrS (k:Nat)(i:Int):Pl k (.int i):=⟨rfl,qbB _⟩
theorem zq4 (h:∀d∈ds,Pl k d):Pl (k+1) (.tup ds):=⟨by simp only[noS];exact zrC fun d hd=>(h d hd).1,by simp only[depth];exact Nat.succ_le_succ (zm3 fun d hd=>(h d hd).2)⟩
theorem pl_w {f:Nat->D}(h:∀i,Pl k (f i)):∀d∈wL n f,Pl k d:=fun d hd=>by
 obtain⟨i,_,rfl⟩:=qbS.mp hd;exact h i
theorem Pl.ne (h:Pl k d)(l:k<=50):dNe d d=some (.bl false):=dNe_same h.1 (qai h.2 l)
theorem rangeD_w (n:Nat):zeX 0 n=wL n fun i=> .int (i:Nat):=by unfold zeX wL;simp only[qcz]
theorem zrY (lo:Int)(n:Nat):zeX lo n=wL n fun i=> .int (lo+(i:Nat)):=rfl
section
variable {n:Nat} {e:Nat->D} {ρ:R}
theorem zbm {f:D->R->Option (Fl×R)}(I:Nat->R->Prop)(h0:I 0 ρ)
  (hs:∀i ρ,i<n->I i ρ->Ok (f (e i) ρ) (Turn (I (i+1)) Q)) (hq:∀ρ,I n ρ->Q (.next,ρ)):Ok (forM f (wL n e) ρ) Q:=
 zjS (enc:=e) (l:=List.range n) I h0 (fun i a ρ hi h=>by
  obtain⟨h1,h2⟩:=qap.mp hi;have:a=i:=by simpa using h2.symm
  subst this;exact hs a ρ (by simpa using h1) h) (fun ρ h=>hq ρ (by simpa using h))
variable {f:D->R->Option (Option D×R)} {Q:List D×R->Prop}
theorem zjb (I:Nat->List D->R->Prop)(h0:I 0 [] ρ)
  (hs:∀i acc ρ,i<n->I i acc ρ->Ok (f (e i) ρ) fun p=>I (i+1) (acc++p.1.toList) p.2) (hq:∀ds ρ,I n ds ρ->Q (ds,ρ)):Ok (ze5 f (wL n e) ρ) Q:=
 zpc (enc:=e) (l:=List.range n) I h0 (fun i a acc ρ hi h=>by
  obtain⟨h1,h2⟩:=qap.mp hi;have:a=i:=by simpa using h2.symm
  subst this;exact hs a acc ρ (by simpa using h1) h) (fun ds ρ h=>hq ds ρ (by simpa using h))
theorem zrE (P:R->Prop)(g:Nat->Option D)(h0:P ρ)
  (hs:∀i ρ,i<n->P ρ->Ok (f (e i) ρ) fun p=>p.1=g i/\P p.2) (hq:∀ρ,P ρ->Q ((List.range n).filterMap g,ρ)):Ok (ze5 f (wL n e) ρ) Q:=
 zlU (enc:=e) (l:=List.range n) P g h0 (fun a ρ ha hp=>hs a ρ (qah.mp ha) hp) hq
theorem zaH (P:R->Prop)(g:Nat->D)(h0:P ρ)
  (hs:∀i ρ,i<n->P ρ->Ok (f (e i) ρ) fun p=>p.1=some (g i)/\P p.2) (hq:∀ρ,P ρ->Q (wL n g,ρ)):Ok (ze5 f (wL n e) ρ) Q:=
 zir (enc:=e) (l:=List.range n) P g h0 (fun a ρ ha hp=>hs a ρ (qah.mp ha) hp) hq
end
end M
namespace M
theorem zkm (n:Nat)(f:Nat->Int)(x:Int):wI n f++[.int x]=wI (n+1) fun j=>if j<n then f j else x:=by
 rw[wI,wL_snoc];exact zcG fun j _=>by dsimp only;split<;>rfl
theorem zkN {j:Int}(h0:0<j)(h1:j<1073741824):zqn j=true:=by
 have h:j.natAbs.log2<9000:=by
  have:j.natAbs.log2<30:=(Nat.log2_lt (by lia)).mpr (by lia);lia
 unfold zqn;rw[qbp h0,qbp h];rfl
theorem zrH {j:Int}(h0:0<j)(h1:j<2^250):zqn j=true:=by
 have h:j.natAbs.log2<9000:=by
  have:j.natAbs.log2<250:=(Nat.log2_lt (by lia)).mpr (by lia);lia
 unfold zqn;rw[qbp h0,qbp h];rfl
theorem wI_set {n i:Nat}(f:Nat->Int)(x:Int)(h:i<n):(wI n f).set i (.int x)=wI n fun j=>if j=i then x else f j:=by
 rw[wI,wL_set _ _ h];exact zcG fun j _=>by dsimp only;split<;>rfl
theorem isN_non:isN .non=true:=rfl
theorem isN_int (i:Int):isN (.int i)=false:=rfl
theorem isN_bl (b:Bool):isN (.bl b)=false:=rfl
theorem isN_str (s:PySem.Str):isN (.str s)=false:=rfl
theorem isN_lst (ds:List D):isN (.lst ds)=false:=rfl
theorem isN_tup (ds:List D):isN (.tup ds)=false:=rfl
end M
namespace M
open L2 PySem
variable {s n i c N:Nat} {a b:Nat->Int} {g:D->R->Option R} {v:Int} {Q:Fl×R->Prop} {neg:Bool} {ds:List D} {ma:MA} {mt:MT} {d:D} {ls:List (List D)} {q:List Int×List D}
theorem dItems_l (ds:List D):zaV [.lst ds]=some ds:=rfl
theorem dItems_t (ds:List D):zaV [.tup ds]=some ds:=rfl
theorem dItems_s (ns:List Int):zaV [.scr ns]=some (ns.map .int):=rfl
theorem dLen_l (ds:List D):dLen [.lst ds]=some (.int ds.length):=rfl
theorem dLen_t (ds:List D):dLen [.tup ds]=some (.int ds.length):=rfl
theorem dLen_s (ns:List Int):dLen [.scr ns]=some (.int ns.length):=rfl
theorem dTuple_l (ds:List D):zck [.lst ds]=some (.tup ds):=rfl
theorem dTuple_t (ds:List D):zck [.tup ds]=some (.tup ds):=rfl
theorem dTuple_s (ns:List Int):zck [.scr ns]=some (.tup (ns.map .int)):=rfl
theorem dCut_l (ds:List D)(a b:Option Int):dCut (.lst ds) a b=some (.lst (cutD ds a b)):=rfl
theorem dCut_t (ds:List D)(a b:Option Int):dCut (.tup ds) a b=some (.tup (cutD ds a b)):=rfl
theorem dCut_s (ns:List Int)(a b:Option Int):dCut (.scr ns) a b=some (.lst ((cutD ns a b).map .int)):=rfl
theorem dIx_l (ds:List D)(i:Int):dIx (.lst ds) (.int i)=atI ds i:=rfl
theorem dIx_t (ds:List D)(i:Int):dIx (.tup ds) (.int i)=atI ds i:=rfl
theorem dIx_s (ns:List Int)(i:Int):dIx (.scr ns) (.int i)=(atI ns i).map .int:=rfl
theorem dEq_str (a b:Str):dEq (.str a) (.str b)=some (.bl (a==b)):=by
 unfold dEq;rw[show noS (.str a)=true from rfl,show noS (.str b)=true from rfl,show depth (.str a)=0 from rfl]
 rfl
theorem zn4 (n:Nat)(f g h:Nat->D):zow (wL n f) (wL n g) (wL n h)=wL n fun i=> .tup [f i,g i,h i]:=by
 apply qcv;intro j;unfold zow
 by_cases hj:j<n
 ·have e:(List.zip (wL n g) (wL n h))[j]? =some (g j,h j):=by
   rw[List.getElem?_zip_eq_some];exact⟨zao g hj,zao h hj⟩
  rw[qce,e,zao _ hj,zao _ hj]
 ·rw[qbU (by simp[zaF];lia),qbU (by simp[zaF];lia)]
structure Sq (d:D) (n:Nat) (f:Nat->Int):Prop where
 it:zaV [d]=some (wI n f)
 ln:dLen [d]=some (.int n)
 tp:zck [d]=some (.tup (wI n f))
 ix:∀i,dIx d (.int i)=atI (wI n f) i
 ct:∀lo hi,∃d',dCut d lo hi=some d'/\zaV [d']=some (cutD (wI n f) lo hi)
theorem Sq.lst (n:Nat)(f:Nat->Int):Sq (.lst (wI n f)) n f:=⟨rfl,by rw[dLen_l,zaF],rfl,fun _=>rfl,fun lo hi=>⟨_,rfl,rfl⟩⟩
theorem Sq.tup (n:Nat)(f:Nat->Int):Sq (.tup (wI n f)) n f:=⟨rfl,by rw[dLen_t,zaF],rfl,fun _=>rfl,fun lo hi=>⟨_,rfl,rfl⟩⟩
noncomputable def eqW (s:Nat)(a b:Nat->Int):Bool:=(List.range s).map a==(List.range s).map b
theorem zp4:∀(xs ys:List Int),eqBL (xs.map D.int) (ys.map D.int)=(xs==ys)
 |[],[]=>rfl
 |[],_::_=>rfl
 |_::_,[]=>rfl
 |x::xs,y::ys=>by simp[eqBL,eqB,zp4 xs ys]
theorem wI_map (n:Nat)(f:Nat->Int):wI n f=((List.range n).map f).map .int:=by simp[wL,qch,qct]
theorem dEq_wt (s:Nat)(a b:Nat->Int):dEq (.tup (wI s a)) (.tup (wI s b))=some (.bl (eqW s a b)):=by
 have p1:Pl 1 (.tup (wI s a)):=zq4 (pl_w fun c=>zrS 0 _);have p2:Pl 1 (.tup (wI s b)):=zq4 (pl_w fun c=>zrS 0 _);unfold dEq;rw[p1.1,p2.1,qbp (qai p1.2 (by decide:1<=50))];simp only[Bool.and_self,if_true,eqB];rw[wI_map,wI_map,zp4];rfl
theorem eqW_iff:eqW s a b=true↔∀i,i<s->a i=b i:=by
 unfold eqW;rw[qbH]
 constructor
 ·intro h i hi;have:=congrArg (fun l=>l[i]?) h;simpa[hi]using this
 ·intro h;exact qci fun i hi=>h i (qah.mp hi)
theorem znw (n:Nat)(b:Nat->Bool):zfe (wL n fun i=> .bl (b i))=some ((List.range n).map b):=by
 have:∀l:List Nat,zfe (l.map fun i=>D.bl (b i))=some (l.map b):=by
  intro l
  induction l with
  |nil=>rfl
  |cons a l ih=>simp[zfe,ih]
 exact this _
theorem all_w (n:Nat)(b:Nat->Bool):(((List.range n).map b).all id=true)↔∀i,i<n->b i=true:=by simp
theorem any_w (n:Nat)(b:Nat->Bool):(((List.range n).map b).any id=true)↔∃i,i<n/\b i=true:=by simp
theorem zrg:∀(as bs:List Int),as.length=bs.length->(HT.znd as bs=true↔∀(q:Nat) (a b:Int),as[q]? =some a->bs[q]? =some b->(∀(p:Nat) (c d:Int),p<q->as[p]? =some c->bs[p]? =some d->c=d)->a<=b)
 |[],[],_=>⟨fun _ q a b ha=>by simp at ha,fun _=>rfl⟩
 |[],_::_,h=>by simp at h
 |_::_,[],h=>by simp at h
 |x::as,y::bs,h=>by
  have e:HT.znd (x::as) (y::bs)=if x=y then HT.znd as bs else decide (x<=y):=rfl
  rw[e]
  by_cases c:x=y
  ·subst c;rw[if_pos rfl,zrg as bs (by simpa using h)]
   constructor
   ·intro hh q a b ha hb hp;cases q with
    |zero=>simp at ha hb;lia
    |succ q=>exact hh q a b (by simpa using ha) (by simpa using hb) fun p c d hpq hc hd=>hp (p+1) c d (by lia) (by simpa using hc) (by simpa using hd)
   ·intro hh q a b ha hb hp;exact hh (q+1) a b (by simpa using ha) (by simpa using hb) fun p c d hpq hc hd=>by
     cases p with
     |zero=>simp at hc hd;lia
     |succ p=>exact hp p c d (by lia) (by simpa using hc) (by simpa using hd)
  ·rw[if_neg c]
   constructor
   ·intro hh q a b ha hb hp;cases q with
    |zero=>simp at ha hb hh;lia
    |succ q=>exact absurd (hp 0 x y (by lia) rfl rfl) c
   ·intro hh;have:=hh 0 x y rfl rfl fun p _ _ hp=>by lia
    simpa using this
theorem zpx:∀(as bs:List Int),as.length=bs.length->HT.zfa as bs=!HT.znd as bs
 |[],[],_=>rfl
 |[],_::_,h=>by simp at h
 |_::_,[],h=>by simp at h
 |x::as,y::bs,h=>by
  have e:HT.znd (x::as) (y::bs)=if x=y then HT.znd as bs else decide (x<=y):=rfl
  have e':HT.zfa (x::as) (y::bs)=if x=y then HT.zfa as bs else decide (x>y):=rfl
  rw[e,e']
  by_cases c:x=y
  ·rw[if_pos c,if_pos c,zpx as bs (by simpa using h)]
  ·rw[if_neg c,if_neg c]
   by_cases g:x<=y
   ·rw[qbp g,qaa (by lia)];rfl
   ·rw[qaa g,qbp (by lia)];rfl
noncomputable def leB (n:Nat)(a b:Nat->Int):Bool:=HT.znd ((List.range n).map a) ((List.range n).map b)
theorem leB_iff:leB n a b=true↔∀q,q<n->(∀p,p<q->a p=b p)->a q<=b q:=by
  unfold leB;rw[zrg _ _ (by simp)]
  constructor
  . intro h q hq hp
    exact h q _ _ (by simp[hq]) (by simp[hq]) fun p c d hpq hc hd=>by
      have hpn:p<n:=by lia
      simp[hpn]at hc hd;rw[<-hc,<-hd];exact hp p hpq
  . intro h q x y hx hy hp
    have hq:q<n:=by
      have:=(qap.mp hx).1;simpa using this
    simp[hq]at hx hy;rw[<-hx,<-hy];exact h q hq fun p hpq=>hp p _ _ hpq (by simp[show p<n by lia]) (by simp[show p<n by lia])
theorem zfp {j n m i:Nat}(hm:0<m):i<cntS (j:Int) (n:Int) (m:Int)↔j+i*m<n:=by
 unfold cntS
 by_cases h:(j:Int)<(n:Int)
 ·rw[if_pos h];have e:((n:Int)-(j:Int)-1)/(m:Int)=(((n-j-1)/m:Nat):Int):=by
   rw[Int.natCast_ediv];congr 1;lia
  have e2:∀q:Nat,((q:Int)+1).toNat=q+1:=fun q=>by lia
  rw[e,e2,Nat.lt_succ_iff,Nat.le_div_iff_mul_le hm];lia
 ·rw[if_neg h]
  constructor
  ·intro h;lia
  ·intro h;lia
theorem zrW {α β:Type}{h:α->Option β}{g:α->β}:∀(l:List α),(∀a∈l,h a=some (g a))->l.filterMap h=l.map g
 |[],_=>rfl
 |a::l,e=>by rw[qaj,e a qak,qbc,zrW l fun b hb=>e b (qal _ hb)]
theorem zrJ {n j m:Nat}(f:Nat->D)(hm:0<m)(hj:j<n):zcF (wL n f) (some (j:Int)) none (some (m:Int))=wL (cntS (j:Int) (n:Int) (m:Int)) fun i=>f (j+i*m):=by
 have hb:sliceBounds (some (j:Int)) none (some (m:Int)) n=((j:Int),(n:Int),(m:Int)):=by
  have:(m:Int)>0:=by lia
  simp[sliceBounds,this];lia
 unfold zcF;rw[zaF,hb];unfold sliceRange;have h1:(m:Int)>0:=by lia
 have h2:(j:Int)<(n:Int):=by lia
 simp only[h1,h2,if_true];have ec:(((n:Int)-(j:Int)+(m:Int)-1)/(m:Int)).toNat=cntS (j:Int) (n:Int) (m:Int):=by
  unfold cntS;rw[if_pos h2,show((n:Int)-(j:Int)+(m:Int)-1)=((n:Int)-(j:Int)-1)+(m:Int) by lia,Int.add_ediv_of_dvd_right (Int.dvd_refl _),Int.ediv_self (by lia)]
 rw[ec];rw[List.filterMap_map];apply zrW;intro i hi;have hi:j+i*m<n:=(zfp hm).mp (qah.mp hi);have ht:((j:Int)+(m:Int)*(i:Int)).toNat=j+i*m:=by
  rw[show((j:Int)+(m:Int)*(i:Int))=((j+i*m:Nat):Int) by push_cast;rw[qcA]];lia
 simp only[qct,ht];exact zao f hi
noncomputable def sumR:Nat->(Nat->Int)->Int
 |0,_=>0
 |n+1,f=>sumR n f+f n
theorem zak {f g:Nat->Int}:∀{n:Nat},(∀i,i<n->f i=g i)->sumR n f=sumR n g
 |0,_=>rfl
 |n+1,h=>by rw[sumR,sumR,zak fun i hi=>h i (by lia),h n (by lia)]
theorem zpN (f g:Nat->Int):∀n,sumR n (fun i=>f i+g i)=sumR n f+sumR n g
 |0=>rfl
 |n+1=>by simp only[sumR,zpN f g n];lia
theorem zmd (f g:Nat->Int):∀n,sumR n (fun i=>f i-g i)=sumR n f-sumR n g
 |0=>rfl
 |n+1=>by simp only[sumR,zmd f g n];lia
theorem zaW:∀n,sumR n (fun _=>0)=0
 |0=>rfl
 |n+1=>by simp only[sumR,zaW n];lia
theorem zpU (a:Int)(f:Nat->Int):∀n,sumR n (fun i=>a*f i)=a*sumR n f
 |0=>by simp[sumR]
 |n+1=>by simp only[sumR,zpU a f n,Int.mul_add]
theorem zfo {f g:Nat->Int}:∀{n:Nat},(∀i,i<n->f i<=g i)->sumR n f<=sumR n g
 |0,_=>qcB _
 |n+1,h=>by
  have h1:=zfo (n:=n) fun i hi=>h i (by lia)
  have h2:=h n (by lia);simp only[sumR];lia
theorem zc8 (f:Nat->Nat->Int)(m:Nat):∀n,sumR n (fun i=>sumR m (f i))=sumR m (fun j=>sumR n fun i=>f i j)
 |0=>(zaW m).symm
 |n+1=>by simp only[sumR,zc8 f m n,zpN]
theorem zaR (f:Nat->Int)(a:Nat):∀b,sumR (a+b) f=sumR a f+sumR b fun i=>f (a+i)
 |0=>by simp[sumR]
 |b+1=>by rw[show a+(b+1)=a+b+1 by lia,sumR,sumR,zaR f a b];lia
theorem zbq (f:Nat->Int):∀n,((List.range n).map f).sum=sumR n f
 |0=>rfl
 |n+1=>by simp[qcu,zbq f n,sumR]
theorem zbz (n:Nat)(f:Nat->Int):zby (wI n f)=some ((List.range n).map f):=by
 have:wI n f=((List.range n).map f).map .int:=by simp[wL,qch,qct]
 rw[this,zbI]
theorem cut_w {n a b:Nat}(f:Nat->D)(h:a+b<=n):cutD (wL n f) (some (a:Int)) (some ((a:Int)+(b:Int)))=wL b fun i=>f (a+i):=by
 have e:cutD (wL n f) (some (a:Int)) (some ((a:Int)+(b:Int)))=((wL n f).drop a).take b:=by
  unfold cutD;rw[HT.zjt,show((a:Int)+(b:Int))=((a+b:Nat):Int) by lia,HT.zjt,zaF];rw[qcw h,qcw (by lia:a<=n),Nat.add_sub_cancel_left]
 rw[e];apply qcv;intro j
 by_cases hj:j<b
 ·rw[qaU hj,qcC,zao _ (by lia),zao _ hj]
 ·rw[qbU (by simp[zaF];lia),qbU (by rw[zaF];lia)]
theorem zgJ (v:Nat->Int):∀n i,i<=n->v i<=v (argBest (fun i j=>decide (v i>v j)) n)
 |0,i,h=>by rw[show i=0 by lia];exact qcB _
 |n+1,i,h=>by
  simp only[argBest]
  by_cases c:v (n+1)>v (argBest (fun i j=>decide (v i>v j)) n)
  ·rw[if_pos (qbp c)]
   by_cases e:i=n+1
   ·rw[e];exact qcB _
   ·have:=zgJ v n i (by lia);lia
  ·rw[if_neg (by simpa using c)]
   by_cases e:i=n+1
   ·rw[e];lia
   ·exact zgJ v n i (by lia)
theorem zgo (v:Nat->Int):∀n i,i<=n->v (argBest (fun i j=>decide (v i<v j)) n)<=v i
 |0,i,h=>by rw[show i=0 by lia];exact qcB _
 |n+1,i,h=>by
  simp only[argBest]
  by_cases c:v (n+1)<v (argBest (fun i j=>decide (v i<v j)) n)
  ·rw[if_pos (qbp c)]
   by_cases e:i=n+1
   ·rw[e];exact qcB _
   ·have:=zgo v n i (by lia);lia
  ·rw[if_neg (by simpa using c)]
   by_cases e:i=n+1
   ·rw[e];lia
   ·exact zgo v n i (by lia)
theorem zpQ (g:Nat->Int)(h:i<c):((List.range c).map g).getD i 0=g i:=by
 rw[qcy];simp[h]
theorem max_w (g:Nat->Int)(hc:0<c):∃v,zmu [.lst (wI c g)]=some (.int v)/\(∃i,i<c/\g i=v)/\∀i,i<c->g i<=v:=by
 have hne:(List.range c).map g≠[]:=fun h=>by have:=congrArg List.length h;simp at this;lia
 have e1:wI c g=((List.range c).map g).map .int:=by simp[wL,qch,qct]
 refine⟨_,by rw[e1];exact zlC _ hne,?_,?_⟩
 ·obtain⟨i,hi,e⟩:=qbS.mp (zm9 (fun i j=>decide (i>j)) hne);exact⟨i,qah.mp hi,e⟩
 ·intro i hi;have:=zgJ (fun i=>((List.range c).map g).getD i 0) (c-1) i (by lia);rw[zpQ g hi]at this;unfold zk8;rw[qaX,qcD];exact this
theorem min_w (g:Nat->Int)(hc:0<c):∃v,zlT [.lst (wI c g)]=some (.int v)/\(∃i,i<c/\g i=v)/\∀i,i<c->v<=g i:=by
 have hne:(List.range c).map g≠[]:=fun h=>by have:=congrArg List.length h;simp at this;lia
 have e1:wI c g=((List.range c).map g).map .int:=by simp[wL,qch,qct]
 refine⟨_,by rw[e1];exact zlC _ hne,?_,?_⟩
 ·obtain⟨i,hi,e⟩:=qbS.mp (zm9 (fun i j=>decide (i<j)) hne);exact⟨i,qah.mp hi,e⟩
 ·intro i hi;have:=zgo (fun i=>((List.range c).map g).getD i 0) (c-1) i (by lia);rw[zpQ g hi]at this;unfold zk8;rw[qaX,qcD];exact this
theorem max_pick (f:Nat->Int){n m j:Nat}(hm:0<m)(hj:j<m)(hn:m<=n):∃v,zmu [.lst (zcF (wI n f) (some (j:Int)) none (some (m:Int)))]=some (.int v)/\(∃p,p<n/\p%m=j/\f p=v)/\∀p,p<n->p%m=j->f p<=v:=by
 rw[wI,zrJ _ hm (by lia)];obtain⟨v,e,⟨i,hi,ei⟩,h⟩:=max_w (fun i=>f (j+i*m)) (c:=cntS (j:Int) (n:Int) (m:Int)) ((zfp hm).mpr (by lia));refine⟨v,e,⟨j+i*m,(zfp hm).mp hi,by rw[qcE,qcF hj],ei⟩,fun p hp hpm=>?_⟩;have e2:j+p/m*m=p:=by have:=qcG p m;rw[qbo];lia
 have:=h (p/m) ((zfp hm).mpr (by lia));rw[e2]at this;exact this
theorem min_pick (f:Nat->Int){n m j:Nat}(hm:0<m)(hj:j<m)(hn:m<=n):∃v,zlT [.lst (zcF (wI n f) (some (j:Int)) none (some (m:Int)))]=some (.int v)/\(∃p,p<n/\p%m=j/\f p=v)/\∀p,p<n->p%m=j->v<=f p:=by
 rw[wI,zrJ _ hm (by lia)];obtain⟨v,e,⟨i,hi,ei⟩,h⟩:=min_w (fun i=>f (j+i*m)) (c:=cntS (j:Int) (n:Int) (m:Int)) ((zfp hm).mpr (by lia));refine⟨v,e,⟨j+i*m,(zfp hm).mp hi,by rw[qcE,qcF hj],ei⟩,fun p hp hpm=>?_⟩;have e2:j+p/m*m=p:=by have:=qcG p m;rw[qbo];lia
 have:=h (p/m) ((zfp hm).mpr (by lia));rw[e2]at this;exact this
theorem zqo (f:Nat->Int){n m j:Nat}(hm:0<m)(hj:j<m)(h:∃p,p<n/\p%m=j/\f p=v):∃i:Nat,znv (.lst (zcF (wI n f) (some (j:Int)) none (some (m:Int)))) (.int v)=some (.int i)/\j+i*m<n/\f (j+i*m)=v:=by
 obtain⟨p,hp,hpm,hv⟩:=h;have hjn:j<n:=by have:=Nat.mod_le p m;lia
 rw[wI,zrJ _ hm hjn];have e2:j+p/m*m=p:=by have:=qcG p m;rw[qbo];lia
 have hc:p/m<cntS (j:Int) (n:Int) (m:Int):=(zfp hm).mpr (by lia);have mem:v∈(List.range (cntS (j:Int) (n:Int) (m:Int))).map fun i=>f (j+i*m):=qbS.mpr ⟨p/m,qah.mpr hc,by rw[e2];exact hv⟩
 have e3:zby (wL (cntS (j:Int) (n:Int) (m:Int)) fun i=>D.int (f (j+i*m)))=some ((List.range (cntS (j:Int) (n:Int) (m:Int))).map fun i=>f (j+i*m)):=zbz _ fun i=>f (j+i*m)
 have hl:=List.idxOf_lt_length_iff.mpr mem;have hg:=List.getElem_idxOf hl;refine⟨List.idxOf v ((List.range (cntS (j:Int) (n:Int) (m:Int))).map fun i=>f (j+i*m)),by simp only[znv,e3,qbw,mem,if_true],?_,?_⟩
 ·exact(zfp hm).mp (by simpa using hl)
 ·rw[List.getElem_map,List.getElem_range]at hg;exact hg
theorem zmm {mc:MT}{mb:MS}(I:Nat->R->Prop)(turn:∀m ρ,I m ρ->Ok (mc ρ) fun p=>(p.1=true->∃m',m=m'+1/\Ok (mb p.2) fun q=>q.1= .next/\I m' q.2)/\(p.1=false->Q (.next,p.2))):∀(fuel m:Nat) (ρ:R),m<fuel->I m ρ->Ok (ziZ mc mb fuel ρ) Q
 |0,m,ρ,h,_=>by lia
 |n+1,m,ρ,h,hI=>by
  obtain⟨⟨b,ρ1⟩,e,h1,h2⟩:=(turn m ρ hI);unfold ziZ;rw[e];cases b with
  |false=>exact ok_some.mpr (h2 rfl)
  |true=>
   obtain⟨m',rfl,h3⟩:=h1 rfl;obtain⟨⟨f,ρ2⟩,e2,ef,hI2⟩:=h3;show Ok ((mb ρ1).bind _) Q;rw[e2];cases(show f= .next from ef);exact zmm I turn n m' ρ2 (by lia) hI2
theorem like_par (ns:List Int):likeS (.par (ns.map .int)) (.par (ns.map .int))=true:=by
 show(match zby (ns.map D.int),zby (ns.map D.int)with
  |some a,some b=>a==b
  |_,_=>false)=true
 rw[zbI];exact qbL ns
section
variable {j:Nat} {mk me:ME} {ρ:R}
theorem ok_tDI {Q:Bool×R->Prop}:OkQ Q (tDI j neg mk ρ)=(OkQ (fun p=>OkQ Q (match p.1 with
 | .int k=>(p.2[j]?.bind Sl.dic).map fun q=>(((lkD q.1 q.2 k).isSome !=neg),p.2)
 |_=>none)) (mk ρ)):=ok_bind
theorem ok_fMT {m:MS}{cs:List D}{t:T}{Q:Sl×List D->Prop}:OkQ Q (fMT N m cs t ds)=OkQ Q ((m (.par cs:: .tre t::znf (N-2) ds)).bind fun p=>match p.1,(p.2[0]?:Option Sl)with
 |Fl.ret r,some (Sl.par out)=>some (r,out)
 |Fl.next,some (Sl.par out)=>some (.val .non,out)
 |_,_=>none):=by rw[<-zkg,Nat.sub_sub,qbl 2];rfl
theorem ok_sPar:OkQ Q (sPar i j ma ρ)=OkQ Q ((ma ρ).bind fun p=>match p.1 with
 |[c,d]=>some (.next,(p.2.set i (.val c)).set j (.val d))
 |_=>none):=rfl
theorem ok_tDIT {Q:Bool×R->Prop}:OkQ Q (tDIT j neg mk ρ)=(OkQ (fun p=>OkQ (fun k=>OkQ Q ((p.2[j]?.bind Sl.dit).map fun q=>(((lkD q.1 q.2 k).isSome !=neg),p.2))) (keyT p.1)) (mk ρ)):=ok_bind.trans (zaN fun _=>ok_bind)
theorem ok_eDGT {Q:D×R->Prop}:OkQ Q (eDGT j mk ρ)=OkQ Q (gd ((ρ[j]?.bind Sl.dit).isSome) ((mk ρ).bind fun p=>(keyT p.1).bind fun k=>(p.2[j]?.bind Sl.dit).bind fun q=>(lkD q.1 q.2 k).map fun d=>(d,p.2))):=rfl
theorem ok_sDPT:OkQ Q (sDPT j mk me ρ)=OkQ Q ((me ρ).bind fun p=>gd ((p.2[j]?.bind Sl.dit).isSome) ((mk p.2).bind fun q=>(keyT q.1).bind fun k=>q.2[j]?.bind fun s=>match s.tree with
  |some (.dit ks ds)=>if ks.length<16777216 then some (.next,q.2.set j (s.putT (.dit (ptD ks ds k p.1).1 (ptD ks ds k p.1).2)))else none
  |_=>none)):=rfl
theorem ok_sDNT:OkQ Q (sDNT j ρ)=(Q (.next,ρ.set j (.tre (.dit [] [])))):=ok_some
theorem ok_sDNT1:OkQ Q (sDNT1 j mk me ρ)=OkQ Q ((mk ρ).bind fun p=>(keyT p.1).bind fun k=>(me p.2).bind fun q=>some (.next,q.2.set j (.tre (.dit [k] [q.1])))):=rfl
theorem ok_iDKT {Q:List D×R->Prop}:OkQ Q (iDKT j ρ)=OkQ Q (match ρ[j]? with
 |some (.val (.dit ks ds))=>some (ks.map fun k=> .tup (k.map .int),ρ)
 |_=>none):=rfl
theorem ok_eKn {Q:D×R->Prop}:OkQ Q (eKn j ρ)=OkQ Q (match ρ[j]? with
 |some (.tre (.dit ks ds))=>some (.dit ks ds,ρ.set j (.val (.dit ks ds)))
 |some (.val d)=>some (d,ρ)
 |_=>none):=rfl
theorem ok_iCt {Q:List D×R->Prop}:OkQ Q (iCt ds ρ)=(Q (ds,ρ)):=ok_some
theorem ok_eCutZ {ma:ME}{ml mh ms:MP}{Q:D×R->Prop}:OkQ Q (eCutZ ma ml mh ms ρ)=OkQ Q ((ma ρ).bind fun p=>(ml p.2).bind fun q=>(mh q.2).bind fun r=>(ms r.2).bind fun t=>match p.1 with
 | .scr ns=>if t.1=some 0 then none else some (.lst ((zcF ns q.1 r.1 t.1).map .int),t.2)
 |_=>none):=rfl
theorem ok_sFzDT {m:MS}:OkQ Q (sFzDT j m ρ)=OkQ Q (m (fzDT j ρ)):=rfl
theorem ok_iR3N {Q:List D×R->Prop}:OkQ Q (iR3N ma ρ)=OkQ Q ((ma ρ).bind fun p=>match p.1 with
 |[.int i,.int j,.int k]=>if zbL i&&zbL j&&decide (k= -1)then some (znH i (-1) (i-j).toNat,p.2)else none
 |_=>none):=rfl
theorem ok_turnT {mo:MO}{Q:Option (List D)×R->Prop}:OkQ Q (turnT g mt mo d ρ)=(OkQ (fun ρ1=>OkQ (fun p=>(p.1=true->OkQ (fun q=>zed q.2=true/\Q (some q.1,q.2)) (mo p.2))/\(p.1=false->zed p.2=true/\Q (none,p.2))) (mt ρ1)) (g d ρ)):=by
 unfold turnT;rw[ok_bind];exact zaN fun ρ1=>by rw[ok_bind];exact zaN fun p=>by rw[znC,ok_bind,zf2,ok_some];congr 1;exact propext (imp_congr Iff.rfl (iff_of_eq (zaN fun q=>by rw[zf2,ok_some])))
theorem ok_turnQ {b c:Nat}{me:ME}{Q:Option D×R->Prop}:OkQ Q (turnQ b c g mt me d ρ)=(OkQ (fun ρ1=>OkQ (fun p=>(p.1=true->OkQ (fun q=>zrX b c q.2=true/\Q (some q.1,q.2)) (me p.2))/\(p.1=false->zrX b c p.2=true/\Q (none,p.2))) (mt ρ1)) (g d ρ)):=by
 unfold turnQ;rw[ok_bind];exact zaN fun ρ1=>by rw[ok_bind];exact zaN fun p=>by rw[znC,ok_bind,zf2,ok_some];congr 1;exact propext (imp_congr Iff.rfl (iff_of_eq (zaN fun q=>by rw[zf2,ok_some])))
theorem zrv {f g h:D->D->Option D}{a b c d:ME}{Q:D×R->Prop}:OkQ Q (zr6 f g h a b c d ρ)=(OkQ (fun p=>OkQ (fun q=>OkQ (fun t=>∃z,t= .bl z/\(z=true->OkQ (fun r=>OkQ (fun t'=>∃z',t'= .bl z'/\(z'=true->OkQ (fun s=>OkQ (fun x=>Q (x,s.2)) (h r.1 s.1)) (d r.2))/\(z'=false->Q (.bl false,r.2))) (g q.1 r.1)) (c q.2))/\(z=false->Q (.bl false,q.2))) (f p.1 q.1)) (b p.2)) (a ρ)):=by
 unfold zr6;rw[ok_bind];refine zaN fun p=>?_
 rw[ok_bind];refine zaN fun q=>?_
 rw[ok_bind];refine zaN fun t=>?_
 cases t with
 |bl z=>
  cases z
  ·simp[ok_some]
  ·simp only[D.bl.injEq,qcq,forall_const,Bool.true_eq_false,qcr,and_true];rw[ok_bind];refine zaN fun r=>?_
   rw[ok_bind];refine zaN fun t'=>?_
   cases t' with
   |bl z=>
    cases z
    ·simp[ok_some]
    ·simp only[D.bl.injEq,qcq,forall_const,Bool.true_eq_false,qcr,and_true];rw[ok_bind];exact zaN fun s=>ok_map
   |_=>simp[ok_none]
 |_=>simp[ok_none]
end
section
variable {ρ:R} {j k i:Nat} {c:Str} {ns ns2:List Str} {me mo mi:ME} {mO:MO} {ma:MA} {md:MK}
noncomputable def kOb (c:Str)(ns:List Str)(p:D×R):Option ((List Int×List D)×R):=match p.1 with
 | .obj c' ns' _ ks ds=>if c'=c/\ns'=ns then some ((ks,ds),p.2)else none
 |_=>none
theorem kOb_ob:kOb slC slN (obD slC slN ls q,ρ)=some (q,ρ):=by
 unfold kOb obD;dsimp only;rw[if_pos ⟨rfl,rfl⟩]
theorem dAt_ob:dAt slC slN k (obD slC slN ls q)=(ls[k]?).map D.lst:=by
 unfold dAt obD;dsimp only;rw[if_pos ⟨rfl,rfl⟩,qaT]
theorem ok_kAt {Q:(List Int×List D)×R->Prop}:OkQ Q (kAt c ns me ρ)=OkQ Q ((me ρ).bind (kOb c ns)):=rfl
end
end M
local macro_rules | `(tactic| simp! only [$ls,*]) => do
  let f (d : Bool) (n : String) : Lean.MacroM (Lean.TSyntax `Lean.Parser.Tactic.simpLemma) := let i := Lean.mkIdent n.toName; if d then `(Lean.Parser.Tactic.simpLemma| ↓$i:term) else `(Lean.Parser.Tactic.simpLemma| $i:term)
  let a ← ("M.ok_Q M.ok_sIf M.ok_eIf M.ok_tAnd M.ok_tOr M.ok_eAnd M.ok_eOr M.ok_chain M.zrv M.ok_turnM M.ok_turnP M.ok_turnQ M.ok_bind M.ok_map M.ok_gd M.zf2 M.ok_some M.ok_sNext M.ok_sSeq M.ok_sRet M.ok_sRetO M.ok_sRetV M.ok_gN M.ok_gsNil M.zsl M.ok_gT M.ok_sAsg M.ok_sSet M.ok_sSetO M.ok_sApp M.ok_sPut M.ok_eC M.zk3 M.ok_aNil M.ok_aCons M.ok_m1 M.ok_mC M.ok_eLenV M.ok_oC M.ok_eTup M.ok_oLst M.ok_tTru M.ok_tNotM M.ok_eCall M.ok_oCall M.zsW M.ok_eFz M.ok_eCut M.ok_pNo M.ok_pSome M.ok_iSeq M.ok_iR1 M.ok_iR2 M.ok_sFor M.ok_oLC M.ok_tTrue M.ok_fP M.ok_fM M.ok_sAugI M.ok_eCutS M.ok_oRep M.ok_iZ2 M.ok_iZ3 M.ok_iEn M.ok_oLCM M.ok_fMT M.ok_tDIT M.ok_eDGT M.ok_sDPT M.ok_sDNT M.ok_sDNT1 M.ok_iDKT M.ok_eKn M.ok_iCt M.ok_eCutZ M.ok_sFzDT M.ok_iR3N M.ok_turnT M.ok_kAt M.ok_eIxC M.ok_eIxE M.ok_m2VV M.ok_m2VC M.ok_m2CV".splitOn " ").toArray.mapM (f true)
  let b ← ("M.ok_m2 M.ok_eIxV M.dI2 M.dSub M.dDiv M.dMod M.dPow M.dLt M.dLe M.dGt M.dGe M.dNeg M.dMul M.dRepT M.dAdd M.dTru M.Sl.read M.Sl.items M.Sl.put M.hasV M.zed M.fz1 M.fzL M.capS M.capR M.eIsI.noS1 M.okT M.isI M.d2I M.dSum M.dAll M.zmu M.zlT M.dIsN M.zmq M.zov M.zr1 M.fzD M.putCs M.Ch.sl M.Sl.dic M.Sl.dit M.Sl.tree M.Sl.putT M.Sl.dit M.fzT M.Ch.D M.fzDT M.fzU M.rowsOf M.zrX M.Sl.ob M.zsv M.seqK_ret M.seqK_brk M.zsK M.zrb M.zrn M.turn_brk M.turn_ret List.getElem?_cons_zero List.getElem?_cons_succ List.set_cons_zero List.set_cons_succ Option.bind_some Option.isSome_some Option.map_some if_true M.zq7 M.map_nilR M.zlx M.zsY M.ixR_val M.ixR_own M.ixR_par M.zlb M.eVQ_own M.Vb_val M.Vb_own M.Vb_own2 M.Va_val M.Va_own List.replicate_succ List.replicate_zero List.length_cons List.length_nil List.cons_append List.nil_append List.all_cons List.all_nil Bool.and_true Bool.true_and Bool.and_self Bool.true_eq_false Bool.false_eq_true if_false M.dEq_int M.dNe_int List.length_map List.length_append M.atI_n M.atI_lit M.ixN_n M.ixN_lit M.atI_n1 M.ok_none M.dItems_l M.dItems_t M.dItems_s M.dLen_l M.dLen_t M.dLen_s M.dTuple_l M.dTuple_t M.dTuple_s M.dCut_l M.dCut_t M.dCut_s M.dIx_l M.dIx_t M.dIx_s M.dEq_str M.zn4 M.isN_non M.isN_int M.isN_bl M.isN_str M.isN_lst M.isN_tup M.kOb_ob M.dAt_ob beq_self_eq_true Bool.not_true Bool.not_false M.zbI Int.toNat_natCast M.rangeD_w M.zaF decide_eq_true_eq Bool.and_eq_true true_and and_true Nat.reduceAdd Nat.reduceLeDiff Int.reduceLT Int.reduceLE Int.reduceNeg Nat.reduceSub Int.reducePow Int.reduceMul Int.reduceAdd Int.reduceSub Int.reduceMod Int.reduceDiv Nat.reduceLT Nat.reduceBNe Nat.reduceEqDiff List.filter_cons List.filter_nil bne_self_eq_false Int.reduceToNat Nat.reducePow M.zqu Int.reduceEq Int.reduceBEq Int.reduceBNe Nat.reduceMod decide_true decide_false beq_iff_eq beq_eq_false_iff_ne bne_iff_ne bne_eq_false_iff_eq decide_eq_false_iff_not Int.not_le Int.not_lt ne_eq forall_const true_implies false_implies reduceCtorEq imp_self implies_true M.D.bl.injEq exists_eq_left' Bool.not_true Bool.not_false".splitOn " ").toArray.mapM (f false)
  `(tactic| simp only [$a,*, $b,*, $ls,*])
namespace Prf
open L2 M PySem
noncomputable def top (i:Nat):Stmt:=PySem.Challenge.pw_tellsum_k99_whole_mended_lines_have_thei.main.body.getD i (.Pass ⟨0,0,0,0⟩)
structure BN (K:W.Frag) (mg:Str->Option Value):Prop where
 all':mg "all"=none
 any':mg "any"=none
 enumerate':mg "enumerate"=none
 len':mg "len"=none
 list':mg "list"=none
 max':mg "max"=none
 min':mg "min"=none
 range':mg "range"=none
 sum':mg "sum"=none
 tuple':mg "tuple"=none
 zip':mg "zip"=none
 c_MOST_PLACES:∃t,mg "MOST_PLACES"=some (.int 24 t)
 k_SIGNS:TCon K mg "SIGNS" [-1,0,1]
section
variable {P:Program} {w:World} {K:W.Frag} {mg:Str->Option Value} {base hp:Heap} {f:Addr} {fd:FuncData} (X:K.In hp) (G:hp.Ns mainGlobals mg) (bn:BN K mg)
include X G bn
abbrev zjQ:Stmt:=top 8
def zhJ:ME:=
 (mC dSum (zad (eCut (eVar 0) (zbx (eVar 2)) (zbx (m2 dAdd (eVar 2) (eVar 1)))) aNil))
def zhP:MO:=
 oLC [0,1] 1 (iR1 (zad (m2 dAdd (m2 dSub (zdf 0) (eVar 1)) (eC (.int 1))) aNil)) (gN 2) zbp zhJ
def zij:MS:=
 (sRet (mC zck (zad (eFz zhP) aNil)))
def zce:List D->Option Sl:=fP 2 zij
theorem zm6 (h:FnAt K "line_sums" zjQ):FD P w K mg base 1 "line_sums" (spP K 2 zce):=
 fdP (N:=["row","k"]) (k:=0) (m:=zij) X G h fun _ _ _ _ _ _ _ hr nd=>(zaj (zat (zb9 bn.tuple' (zaa (SO.se (zcE [0,1] 1 ["row","k","i"] rfl (zaB bn.range' (zaa (zav (za1 (za2 0 bn.len') (zab 1)) zag) zae)) (fun C s H fp=>(zal 2 ndk)) (fun C s H fp=>zaC) (fun C s H fp=>(zdy rfl bn.sum' (zaa (zcr (zab 0) (zaE (zab 2)) (zaE (zav (zab 2) (zab 1)))) zae))))) zae))))
abbrev zi5:Stmt:=top 11
def zf6:ME:=
 (zg6 dLe dLe (eVar 0) (eVar 1) (eVar 2))
def zf3:MO:=
 oLC [] 3 (iZ3 (zad (eVar 1) (zad (eVar 0) (zad (eVar 2) aNil)))) (gT 3 (zaq (gN 0) (zaq (gN 1) (zaq (gN 2) zbH)))) zbp zf6
def zg5:MS:=
 (sRet (mC (dAll fun bs=>bs.all id) (zad (eFz zf3) aNil)))
def zhf:MS:=
 (sSeq (sIf (tTru (m2 dNe (zdf 0) (zdf 1)))
  (sRet (eC (.bl false)))
  zb0)
  zg5)
def zbC:List D->Option Sl:=fP 3 zhf
theorem zmv (h:FnAt K "row_within" zi5):FD P w K mg base 1 "row_within" (spP K 3 zbC):=
 fdP (N:=["row","least","greatest"]) (k:=0) (m:=zhf) X G h fun _ _ _ _ _ _ _ hr nd=>(zaf (zcd (znz hr.units (za2 0 bn.len') (za2 1 bn.len'))
  (zaj (zat zk0))
  zaM)
  (zaj (zat (se_all rfl bn.all' (zaa (SO.se (zcE [] 3 ["low","number","high"] rfl (zoD bn.zip' (zaa (zab 1) (zaa (zab 0) (zaa (zab 2) zae)))) (fun C s H fp=>(zaX rfl (zan (zal 0 ndk) (zan (zal 1 ndk) (zan (zal 2 ndk) zaG))))) (fun C s H fp=>zaC) (fun C s H fp=>(zme zk9 zk9 zcM zcM (zab 0) (zab 1) (zab 2))))) zae)))))
abbrev zga:Stmt:=top 12
def zd5:MS:=
 (sRet (eAnd (m2 dEq (zdf 0) (eVar 2)) (eAnd (m2 dEq (zdf 1) (eVar 2)) (zas zbC (zad (eVar 0) (zad (eVar 0) (zad (eVar 1) aNil)))))))
def zb4:List D->Option Sl:=fP 3 zd5
theorem zku (zbY:FD P w K mg base 1 "row_within" (spP K 3 zbC))(h:FnAt K "bounds_right" zga):FD P w K mg base 2 "bounds_right" (spP K 3 zb4):=
 fdP (N:=["least","greatest","many"]) (k:=1) (m:=zd5) X G h fun _ _ _ _ _ _ _ hr nd=>(zaj (zat (zn0 (zsU hr.units (za2 0 bn.len') (zab 2)) (zn0 (zsU hr.units (za2 1 bn.len') (zab 2)) (zp1 (zam zbY hr (zaa (zab 0) (zaa (zab 0) (zaa (zab 1) zae))) (hlen:=(zac (zac (zac zah))))))))))
abbrev zlH:Stmt:=top 13
def zkL:MS:=
 (sRet (zg6 dLe dLe (eC (.int 2)) (eVar 0) (eC (.int 5))))
def zg2:List D->Option Sl:=fP 1 zkL
theorem zqq (h:FnAt K "k_right" zlH):FD P w K mg base 1 "k_right" (spP K 1 zg2):=
 fdP (N:=["k"]) (k:=0) (m:=zkL) X G h fun _ _ _ _ _ _ _ hr nd=>(zaj (zat (zme zk9 zk9 zcM zcM zag (zab 0) zag)))
abbrev zdL:Stmt:=top 14
def zc7:MS:=
 (sSeq (sSet 4 (m2 dSub (m2 dAdd (zdf 1) (eVar 0)) (eC (.int 1))))
  (sRet (eAnd (m2 dLe (eVar 4) (eC (.int 24))) (zas zb4 (zad (eVar 2) (zad (eVar 3) (zad (eVar 4) aNil)))))))
def zcD:MS:=
 (sSeq (sIf (tOrM (zjq (tTru (zas zg2 (zad (eVar 0) aNil)))) (tTru (m2 dEq (zdf 1) (eC (.int 0)))))
  (sRet (eC (.bl false)))
  zb0)
  zc7)
def za6:List D->Option Sl:=fP 5 zcD
theorem zis (zdK:FD P w K mg base 2 "bounds_right" (spP K 3 zb4))(zju:FD P w K mg base 1 "k_right" (spP K 1 zg2))(h:FnAt K "line_parts_right" zdL):FD P w K mg base 3 "line_parts_right" (spP K 4 za6):=
 fdP (N:=["k","sums","least","greatest","many"]) (k:=2) (m:=zcD) X G h fun _ _ _ _ _ _ _ hr nd=>(zaf (zcd (STw.st (znA (zgh (zc2 (zam zju hr (zaa (zab 0) zae) (hlen:=(zac zah))))) (zlD (zns hr.units (za2 1 bn.len') zag))))
  (zaj (zat zk0))
  zaM)
  (zaf (zap 4 (za1 (zav (za2 1 bn.len') (zab 0)) zag) nd)
  (zaj (zat (zn0 (se_le (zab 4) (se_globE bn.c_MOST_PLACES)) (zp1 (zam zdK hr (zaa (zab 2) (zaa (zab 3) (zaa (zab 4) zae))) (hlen:=(zac (zac (zac zah)))))))))))
abbrev zjM:Stmt:=top 15
def zhZ:MS:=
 (sRet (eTup (zad (eVar 0) (zad (mC zck (zad (eVar 1) aNil)) (zad (mC zck (zad (eVar 2) aNil)) (zad (mC zck (zad (eVar 3) aNil)) aNil))))))
def zib:MS:=
 (sSeq (sIf (zjq (tTru (zas za6 (zad (eVar 0) (zad (eVar 1) (zad (eVar 2) (zad (eVar 3) aNil)))))))
  (fun _=>none)
  zb0)
  zhZ)
def zdN:List D->Option Sl:=fP 4 zib
theorem zmV (zcf:FD P w K mg base 3 "line_parts_right" (spP K 4 za6))(h:FnAt K "made_line" zjM):FD P w K mg base 4 "made_line" (spP K 4 zdN):=
 fdP (N:=["k","sums","least","greatest"]) (k:=3) (m:=zib) X G h fun _ _ _ _ _ _ _ hr nd=>(zaf (zcd (zgh (zc2 (zam zcf hr (zaa (zab 0) (zaa (zab 1) (zaa (zab 2) (zaa (zab 3) zae)))) (hlen:=(zac (zac (zac (zac zah))))))))
  (zaj zhq)
  zaM)
  (zaj (zat (zaO (zaa (zab 0) (zaa (zb9 bn.tuple' (zaa (zab 1) zae)) (zaa (zb9 bn.tuple' (zaa (zab 2) zae)) (zaa (zb9 bn.tuple' (zaa (zab 3) zae)) zae))))))))
abbrev zix:Stmt:=top 16
def zf9:MS:=
 (sRet (eAnd (zas zbC (zad (eVar 1) (zad (eIxV 0 (eC (.int 2))) (zad (eIxV 0 (eC (.int 3))) aNil)))) (m2 dEq (zas zce (zad (eVar 1) (zad (eIxV 0 (eC (.int 0))) aNil))) (eIxV 0 (eC (.int 1))))))
def zbF:List D->Option Sl:=fP 2 zf9
theorem zmS (zcp:FD P w K mg base 1 "line_sums" (spP K 2 zce))(zbY:FD P w K mg base 1 "row_within" (spP K 3 zbC))(h:FnAt K "line_holds" zix):FD P w K mg base 2 "line_holds" (spP K 2 zbF):=
 fdP (N:=["line","row"]) (k:=1) (m:=zf9) X G h fun _ _ _ _ _ _ _ hr nd=>(zaj (zat (zn0 (zam zbY hr (zaa (zab 1) (zaa (zai 0 zag) (zaa (zai 0 zag) zae))) (hlen:=(zac (zac (zac zah))))) (zp1 (zsU hr.units (zam zcp hr (zaa (zab 1) (zaa (zai 0 zag) zae)) (hlen:=(zac (zac zah)))) (zai 0 zag))))))
abbrev zdY:Stmt:=top 18
def zdn:MS:=
 (sIf (tAndM (tTru (m2 zmq (eIxV 3 (eVar 8)) (eC .non))) (tOrM (tTru (m2 dIsN (eIxV 3 (eVar 7)) (eC .non))) (tTru (m2 dGt (eIxV 3 (eVar 7)) (m2 dAdd (eIxV 3 (eVar 8)) (eVar 9))))))
  (sSeq (sPut 3 (eVar 7) (m2 dAdd (eIxV 3 (eVar 8)) (eVar 9)))
  (sSeq (sPut 4 (eVar 7) (eVar 8))
  (sSet 5 (eVar 7))))
  zb0)
def zdm:MS:=
 sFor (iSeq (eVar 0)) (gT 3 (zaq (gN 7) (zaq (gN 8) (zaq (gN 9) zbH)))) zdn
def zdj:MS:=
 (sSeq (sSet 5 (eC .non))
  zdm)
def zdl:MS:=
 sFor (iR1 (zad (eVar 1) aNil)) (gN 6) zdj
def zcX:MS:=
 (sSeq (zhx 3 (oRep (eFz (oLst (zad (eC .non) aNil))) (eVar 1)))
  (sSeq (sPut 3 (eVar 2) (eC (.int 0)))
  (sSeq (zhx 4 (oRep (eFz (oLst (zad (eC .non) aNil))) (eVar 1)))
  (sSeq (sSet 5 (eC .non))
  (sSeq zdl
  (sRet (eTup (zad (eVar 3) (zad (eVar 4) (zad (eVar 5) aNil))))))))))
def zaP:List D->Option Sl:=fP 10 zcX
theorem zjg (h:FnAt K "greatest_shifts" zdY):FD P w K mg base 1 "greatest_shifts" (spP K 3 zaP):=
 fdP (N:=["ties","many","start","shifts","unders","falling","turn","lane","under","above"]) (k:=0) (m:=zcX) X G h fun _ _ _ _ _ _ _ hr nd=>(zaf (zcv 3 (zpW (SO.se (zbr (zaa zeN zae))) (zab 1)) nd)
  (zaf (zkR 3 zag (zab 2))
  (zaf (zcv 4 (zpW (SO.se (zbr (zaa zeN zae))) (zab 1)) nd)
  (zaf (zap 5 zeN nd)
  (zaf (zbj qcH rfl (zaB bn.range' (zaa (zab 1) zae)) (zal 6 nd)
  (zaf (zap 5 zeN nd)
  (zaj (zbj qcH rfl (zbA (zab 0)) (zaX rfl (zan (zal 7 nd) (zan (zal 8 nd) (zan (zal 9 nd) zaG))))
  (zaj (zcd (STw.st (sw_and (zmk (zai 3 (zab 8)) zeN) (sw_and1 (STw.st (znA (st_is (zai 3 (zab 7)) zeN) (zlD (zoR (zai 3 (zab 7)) (zav (zai 3 (zab 8)) (zab 9)))))))))
  (zaf (zkR 3 (zav (zai 3 (zab 8)) (zab 9)) (zab 7))
  (zaf (zkR 4 (zab 8) (zab 7))
  (zaj (zap 5 (zab 7) nd))))
  zaM))))))
  (zaj (zat (zaO (zaa (zab 3) (zaa (zab 4) (zaa (zab 5) zae)))))))))))
abbrev zhl:Stmt:=top 19
def zes:MS:=
 (sSet 2 (eIxV 0 (eVar 2)))
def zev:MS:=
 sFor (iR1 (zad (zdf 0) aNil)) (gN 3) zes
def zeQ:MT:=
 (tTru (m2 dNe (eIxV 0 (eIxV 4 (m1 dNeg (eC (.int 1))))) (eVar 2)))
def zeS:MS:=
 (sApp 4 (eIxV 0 (eIxV 4 (m1 dNeg (eC (.int 1))))))
def zeJ:MS:=
 ziZ zeQ zeS 400
def zei:MS:=
 (sSeq (sSet 2 (eVar 1))
  (sSeq zev
  (sSeq (zhx 4 (oLst (zad (eVar 2) aNil)))
  (sSeq zeJ
  (zgX 4)))))
def zb1:List D->Option Sl:=fP 5 zei
theorem zkS (h:FnAt K "falling_loop" zhl):FD P w K mg base 1 "falling_loop" (spP K 2 zb1):=
 fdP (N:=["unders","falling","lane","step","loop"]) (k:=0) (m:=zei) X G h fun _ _ _ _ _ _ _ hr nd=>(zaf (zap 2 (zab 1) nd)
  (zaf (zbj qcH rfl (zaB bn.range' (zaa (za2 0 bn.len') zae)) (zal 3 nd)
  (zaj (zap 2 (zai 0 (zab 2)) nd)))
  (zaf (zcv 4 (zbr (zaa (zab 2) zae)) nd)
  (zaf (zpZ 400 qcH (znz hr.units (zai 0 (zai 4 (zex zag))) (zab 2))
  (zaj (zg9 4 (zai 0 (zai 4 (zex zag))))))
  (zaj (zcL 4))))))
abbrev zgv:Stmt:=top 22
def zeG:ME:=
 (mC dSum (zad (eCut (eVar 0) (zbx (mC (d2I max2) (zad (eC (.int 0)) (zad (m2 dAdd (m2 dSub (eVar 2) (eVar 1)) (eC (.int 1))) aNil)))) (zbx (m2 dAdd (eVar 2) (eC (.int 1))))) aNil))
def zeK:MO:=
 oLC [1,2] 1 (iR1 (zad (mC dLen (zad (eIxV 0 (eC (.int 2))) aNil)) aNil)) (gN 2) zbp zeG
def zeh:MS:=
 (sSeq (sSet 2 (eIxV 0 (eC (.int 0))))
  (zio zeK))
def zbb:List D->Option Sl:=fP 3 zeh
theorem zkB (h:FnAt K "place_counts" zgv):FD P w K mg base 1 "place_counts" (spP K 2 zbb):=
 fdP (N:=["line","signs","k"]) (k:=0) (m:=zeh) X G h fun _ _ _ _ _ _ _ hr nd=>(zaf (zap 2 (zai 0 zag) nd)
  (zaj (zcS (zcE [1,2] 1 ["signs","k","place"] rfl (zaB bn.range' (zaa (zdQ bn.len' (zaa (zai 0 zag) zae)) zae)) (fun C s H fp=>(zal 2 ndk)) (fun C s H fp=>zaC) (fun C s H fp=>(zdy rfl bn.sum' (zaa (zcr (zab 0) (zaE (zlZ rfl bn.max' (zaa zag (zaa (zav (za1 (zab 2) (zab 1)) zag) zae)))) (zaE (zav (zab 2) zag))) zae)))))))
abbrev ziL:Stmt:=top 23
def zhj:MS:=
 (sRet (m2 dMul (eVar 2) (eIf (tTru (m2 dGt (eVar 2) (eC (.int 0)))) (m2 dIx (eIxV 0 (eC (.int 3))) (eVar 1)) (m2 dIx (eIxV 0 (eC (.int 2))) (eVar 1)))))
def zbM:List D->Option Sl:=fP 3 zhj
theorem zmL (h:FnAt K "place_most" ziL):FD P w K mg base 1 "place_most" (spP K 3 zbM):=
 fdP (N:=["line","place","count"]) (k:=0) (m:=zhj) X G h fun _ _ _ _ _ _ _ hr nd=>(zaj (zat (zcz (zab 2) (zc4 (zoR (zab 2) zag) (zaA (zai 0 zag) (zab 1)) (zaA (zai 0 zag) (zab 1))))))
abbrev zh5:Stmt:=top 24
def zfQ:ME:=
 (m2 dMul (eVar 0) (eVar 1))
def zfq:MO:=
 oLC [] 2 (iZ2 (zad (eVar 1) (zad (eIxV 0 (eC (.int 1))) aNil))) (gT 2 (zaq (gN 0) (zaq (gN 1) zbH))) zbp zfQ
def zfC:ME:=
 (zas zbM (zad (eVar 0) (zad (eVar 1) (zad (eVar 2) aNil))))
def zfr:MO:=
 oLC [0] 2 (iEn (zad (zas zbb (zad (eVar 0) (zad (eVar 1) aNil))) aNil)) (gT 2 (zaq (gN 1) (zaq (gN 2) zbH))) zbp zfC
def ze2:MS:=
 (sSeq (sSet 2 (mC dSum (zad (eFz zfq) aNil)))
  (sRet (m2 dSub (eVar 2) (mC dSum (zad (eFz zfr) aNil)))))
def zcC:List D->Option Sl:=fP 3 ze2
theorem zli (zbd:FD P w K mg base 1 "place_counts" (spP K 2 zbb))(zbR:FD P w K mg base 1 "place_most" (spP K 3 zbM))(h:FnAt K "signs_worth" zh5):FD P w K mg base 2 "signs_worth" (spP K 2 zcC):=
 fdP (N:=["line","signs","worth"]) (k:=1) (m:=ze2) X G h fun _ _ _ _ _ _ _ hr nd=>(zaf (zap 2 (zdy rfl bn.sum' (zaa (SO.se (zcE [] 2 ["sign","total"] rfl (ziw bn.zip' (zaa (zab 1) (zaa (zai 0 zag) zae))) (fun C s H fp=>(zaX rfl (zan (zal 0 ndk) (zan (zal 1 ndk) zaG)))) (fun C s H fp=>zaC) (fun C s H fp=>(zcz (zab 0) (zab 1))))) zae)) nd)
  (zaj (zat (za1 (zab 2) (zdy rfl bn.sum' (zaa (SO.se (zcE [0] 2 ["line","place","count"] rfl (zdq bn.enumerate' (zaa (zam zbd hr (zaa (zab 0) (zaa (zab 1) zae)) (hlen:=(zac (zac zah)))) zae)) (fun C s H fp=>(zaX rfl (zan (zal 1 ndk) (zan (zal 2 ndk) zaG)))) (fun C s H fp=>zaC) (fun C s H fp=>(zam zbR hr (zaa (zab 0) (zaa (zab 1) (zaa (zab 2) zae))) (hlen:=(zac (zac (zac zah)))))))) zae))))))
abbrev zhi:Stmt:=top 25
def zeI:ME:=
 (eTup (zad (eVar 2) (zad (m2 dMul (eVar 2) (m2 dIx (eIxV 0 (eC (.int 1))) (eVar 1))) aNil)))
def zeC:MO:=
 oLC [0,1] 1 (iCt (List.map .int [-1,0,1])) (gN 2) zbp zeI
def zeV:MS:=
 (sSeq (sSet 8 (m2 dAdd (eVar 5) (eTup (zad (eVar 6) aNil))))
  (sSeq (sSet 9 (m2 dSub (m2 dAdd (m2 dIx (eDGT 2 (eVar 5)) (eC (.int 0))) (eVar 7)) (zas zbM (zad (eVar 0) (zad (eVar 1) (zad (mC dSum (zad (eVar 8) aNil)) aNil))))))
  (sIf (tOrM (tDIT 4 true (eCut (eVar 8) (zbx (eC (.int 1))) pNo)) (tTru (m2 dLt (m2 dIx (eDGT 4 (eCut (eVar 8) (zbx (eC (.int 1))) pNo)) (eC (.int 0))) (eVar 9))))
  (sDPT 4 (eCut (eVar 8) (zbx (eC (.int 1))) pNo) (eTup (zad (eVar 9) (zad (m2 dAdd (m2 dIx (eDGT 2 (eVar 5)) (eC (.int 1))) (eTup (zad (eVar 6) aNil))) aNil))))
  zb0)))
def zeR:MS:=
 sFor (iSeq (eVar 3)) (gT 2 (zaq (gN 6) (zaq (gN 7) zbH))) zeV
def zew:MS:=
 zeR
def zcN:MS:=
 sFor (iDKT 2) (gN 5) zew
def zen:MS:=
 (sSeq (sSet 3 (eIf (tTru (m2 dLt (eVar 1) (mC dLen (zad (eIxV 0 (eC (.int 1))) aNil)))) (eFz zeC) (eFz (oLst (zad (eTup (zad (eC (.int 0)) (zad (eC (.int 0)) aNil))) aNil)))))
  (sSeq (sDNT 4)
  (sSeq zcN
  (sRet (eKn 4)))))
def zb6:List D->Option Sl:=fP 10 zen
theorem zkA (zbR:FD P w K mg base 1 "place_most" (spP K 3 zbM))(h:FnAt K "grown_worths" zhi):FD P w K mg base 2 "grown_worths" (spP K 3 zb6):=
 fdP (N:=["line","place","worths","choices","grown","recent","sign","added","here","worth"]) (k:=1) (m:=zen) X G h fun _ _ _ _ _ _ _ hr nd=>(zaf (zap 3 (zc4 (zn7 (zab 1) (zdQ bn.len' (zaa (zai 0 zag) zae))) (SO.se (zcE [0,1] 1 ["line","place","sign"] rfl (it_const bn.k_SIGNS) (fun C s H fp=>(zal 2 ndk)) (fun C s H fp=>zaC) (fun C s H fp=>(zaO (zaa (zab 2) (zaa (zcz (zab 2) (zaA (zai 0 zag) (zab 1))) zae)))))) (SO.se (zbr (zaa (zaO (zaa zag (zaa zag zae))) zae)))) nd)
  (zaf (zpD 4 nd)
  (zaf (zbj qcH rfl (it_dictT 2) (zal 5 nd)
  (zaj (zbj qcH rfl (zbA (zab 3)) (zaX rfl (zan (zal 6 nd) (zan (zal 7 nd) zaG)))
  (zaf (zap 8 (zav (zab 5) (zaO (zaa (zab 6) zae))) nd)
  (zaf (zap 9 (za1 (zav (zaA (zi7 2 hr.units (zab 5)) zag) (zab 7)) (zam zbR hr (zaa (zab 0) (zaa (zab 1) (zaa (zdy rfl bn.sum' (zaa (zab 8) zae)) zae))) (hlen := (zac (zac (zac zah)))))) nd)
  (zaj (zcd (STw.st (znA (zqc 4 hr.units (zcr (zab 8) (zaE zag) zeY)) (zlD (zn7 (zaA (zi7 4 hr.units (zcr (zab 8) (zaE zag) zeY)) zag) (zab 9)))))
  (zaj (zo1 4 hr.units (zaO (zaa (zab 9) (zaa (zav (zaA (zi7 2 hr.units (zab 5)) zag) (zaO (zaa (zab 6) zae))) zae))) (zcr (zab 8) (zaE zag) zeY)))
  zaM)))))))
  (zaj (zat (zsi 4))))))
abbrev zd0:Stmt:=top 26
def zbZ:MS:=
 (sSet 2 (zas zb6 (zad (eVar 0) (zad (eVar 3) (zad (eKn 2) aNil)))))
def zdo:MS:=
 sFor (iR1 (zad (mC dLen (zad (eIxV 0 (eC (.int 2))) aNil)) aNil)) (gN 3) zbZ
def zcY:MS:=
 (sSeq (sSet 1 (m2 dRepT (eTup (zad (eC (.int 0)) aNil)) (m2 dSub (eIxV 0 (eC (.int 0))) (eC (.int 1)))))
  (sSeq (sDNT1 2 (eVar 1) (eTup (zad (eC (.int 0)) (zad (eTup aNil) aNil))))
  (sSeq zdo
  (sRet (eCut (m2 dIx (eDGT 2 (eVar 1)) (eC (.int 1))) pNo (zbx (mC dLen (zad (eIxV 0 (eC (.int 1))) aNil))))))))
def zbh:List D->Option Sl:=fP 4 zcY
theorem ziI (zdE:FD P w K mg base 2 "grown_worths" (spP K 3 zb6))(h:FnAt K "worthiest_signs" zd0):FD P w K mg base 3 "worthiest_signs" (spP K 1 zbh):=
 fdP (N:=["line","ends","worths","place"]) (k:=2) (m:=zcY) X G h fun _ _ _ _ _ _ _ hr nd=>(zaf (zap 1 (se_repT (zaO (zaa zag zae)) (za1 (zai 0 zag) zag)) nd)
  (zaf (zsN 2 hr.units (zab 1) (zaO (zaa zag (zaa (zaO zae) zae))) nd)
  (zaf (zbj qcH rfl (zaB bn.range' (zaa (zdQ bn.len' (zaa (zai 0 zag) zae)) zae)) (zal 3 nd)
  (zaj (zap 2 (zam zdE hr (zaa (zab 0) (zaa (zab 3) (zaa (zsi 2) zae))) (hlen:=(zac (zac (zac zah))))) nd)))
  (zaj (zat (zcr (zaA (zi7 2 hr.units (zab 1)) zag) zeY (zaE (zdQ bn.len' (zaa (zai 0 zag) zae)))))))))
abbrev ziK:Stmt:=top 27
def zhm:MS:=
 (sSeq (sApp 2 (eTup (zad (m2 dAdd (eVar 3) (eC (.int 1))) (zad (eVar 3) (zad (eIxV 1 (eVar 3)) aNil)))))
  (sApp 2 (eTup (zad (eVar 3) (zad (m2 dAdd (eVar 3) (eC (.int 1))) (zad (m1 dNeg (eVar 4)) aNil))))))
def zgF:MS:=
 sFor (iEn (zad (eVar 0) aNil)) (gT 2 (zaq (gN 3) (zaq (gN 4) zbH))) zhm
def zgY:MS:=
 (sSeq (zhx 2 (oLst aNil))
  (sSeq zgF
  (zgX 2)))
def zdc:List D->Option Sl:=fP 5 zgY
theorem zmC (h:FnAt K "place_ties" ziK):FD P w K mg base 1 "place_ties" (spP K 2 zdc):=
 fdP (N:=["least","greatest","ties","place","low"]) (k:=0) (m:=zgY) X G h fun _ _ _ _ _ _ _ hr nd=>(zaf (zcv 2 (zbr zae) nd)
  (zaf (zbj qcH rfl (zdq bn.enumerate' (zaa (zab 0) zae)) (zaX rfl (zan (zal 3 nd) (zan (zal 4 nd) zaG)))
  (zaf (zg9 2 (zaO (zaa (zav (zab 3) zag) (zaa (zab 3) (zaa (zai 1 (zab 3)) zae)))))
  (zaj (zg9 2 (zaO (zaa (zab 3) (zaa (zav (zab 3) zag) (zaa (zex (zab 4)) zae))))))))
  (zaj (zcL 2))))
abbrev zhC:Stmt:=top 28
def zfA:ME:=
 (m2 dSub (eIxV 0 (m2 dAdd (eVar 1) (eC (.int 1)))) (eIxV 0 (eVar 1)))
def zfR:MO:=
 oLC [2] 1 (iR1 (zad (eVar 1) aNil)) (gN 1) zbp zfA
def zfk:MS:=
 (sSeq (sSet 2 (m2 dIx (zas zaP (zad (eVar 0) (zad (m2 dAdd (eVar 1) (eC (.int 1))) (zad (eC (.int 0)) aNil)))) (eC (.int 0))))
  (sRet (mC zck (zad (eFz zfR) aNil))))
def za9:List D->Option Sl:=fP 3 zfk
theorem zll (zaS:FD P w K mg base 1 "greatest_shifts" (spP K 3 zaP))(h:FnAt K "row_by_cuts" zhC):FD P w K mg base 2 "row_by_cuts" (spP K 2 za9):=
 fdP (N:=["ties","many","upto"]) (k:=1) (m:=zfk) X G h fun _ _ _ _ _ _ _ hr nd=>(zaf (zap 2 (zaA (zam zaS hr (zaa (zab 0) (zaa (zav (zab 1) zag) (zaa zag zae))) (hlen:=(zac (zac (zac zah))))) zag) nd)
  (zaj (zat (zb9 bn.tuple' (zaa (SO.se (zcE [2] 1 ["upto","place"] rfl (zaB bn.range' (zaa (zab 1) zae)) (fun C s H fp=>(zal 1 ndk)) (fun C s H fp=>zaC) (fun C s H fp=>(za1 (zai 0 (zav (zab 1) zag)) (zai 0 (zab 1)))))) zae)))))
abbrev zjh:Stmt:=top 29
def zgW:ME:=
 (eIf (tTru (m2 dGt (eVar 0) (eC (.int 0)))) (eVar 2) (eVar 1))
def zhg:MO:=
 oLC [] 3 (iZ3 (zad (eVar 2) (zad (eIxV 0 (eC (.int 2))) (zad (eIxV 0 (eC (.int 3))) aNil)))) (gT 3 (zaq (gN 0) (zaq (gN 1) (zaq (gN 2) zbH)))) zbp zgW
def zgi:ME:=
 (eIf (tTru (m2 dLt (eVar 0) (eC (.int 0)))) (eVar 1) (eVar 2))
def zgA:MO:=
 oLC [] 3 (iZ3 (zad (eVar 2) (zad (eIxV 0 (eC (.int 2))) (zad (eIxV 0 (eC (.int 3))) aNil)))) (gT 3 (zaq (gN 0) (zaq (gN 1) (zaq (gN 2) zbH)))) zbp zgi
def zgs:MS:=
 (sIf (tTru (m2 dLe (eIxV 1 (eVar 6)) (eC (.int 0))))
  (sApp 5 (eTup (zad (eVar 6) (zad (m2 dAdd (eVar 6) (eIxV 0 (eC (.int 0)))) (zad (m1 dNeg (eVar 7)) aNil)))))
  zb0)
def zf5:MS:=
 (sSeq (sIf (tTru (m2 dGe (eIxV 1 (eVar 6)) (eC (.int 0))))
  (sApp 5 (eTup (zad (m2 dAdd (eVar 6) (eIxV 0 (eC (.int 0)))) (zad (eVar 6) (zad (eVar 7) aNil)))))
  zb0)
  zgs)
def zgm:MS:=
 sFor (iEn (zad (eIxV 0 (eC (.int 1))) aNil)) (gT 2 (zaq (gN 6) (zaq (gN 7) zbH))) zf5
def zf7:MS:=
 (sSeq (sSet 2 (zas zbb (zad (eVar 0) (zad (eVar 1) aNil))))
  (sSeq (sSet 3 (eFz zhg))
  (sSeq (sSet 4 (eFz zgA))
  (sSeq (zhx 5 (znR zdc (zad (eVar 3) (zad (eVar 4) aNil))))
  (sSeq zgm
  (zgX 5))))))
def zdd:List D->Option Sl:=fP 8 zf7
theorem zmD (zbd:FD P w K mg base 1 "place_counts" (spP K 2 zbb))(ze4:FD P w K mg base 1 "place_ties" (spP K 2 zdc))(h:FnAt K "signs_ties" zjh):FD P w K mg base 2 "signs_ties" (spP K 2 zdd):=
 fdP (N:=["line","signs","counts","least","greatest","ties","i","total"]) (k:=1) (m:=zf7) X G h fun _ _ _ _ _ _ _ hr nd=>(zaf (zap 2 (zam zbd hr (zaa (zab 0) (zaa (zab 1) zae)) (hlen:=(zac (zac zah)))) nd)
  (zaf (zhb 3 [] 3 ["count", "low", "high"] rfl (zoD bn.zip' (zaa (zab 2) (zaa (zai 0 zag) (zaa (zai 0 zag) zae)))) (fun C s H fp => (zaX rfl (zan (zal 0 ndk) (zan (zal 1 ndk) (zan (zal 2 ndk) zaG))))) (fun C s H fp => zaC) (fun C s H fp => (zc4 (zoR (zab 0) zag) (zab 2) (zab 1))) nd)
  (zaf (zhb 4 [] 3 ["count", "low", "high"] rfl (zoD bn.zip' (zaa (zab 2) (zaa (zai 0 zag) (zaa (zai 0 zag) zae)))) (fun C s H fp => (zaX rfl (zan (zal 0 ndk) (zan (zal 1 ndk) (zan (zal 2 ndk) zaG))))) (fun C s H fp => zaC) (fun C s H fp => (zc4 (zn7 (zab 0) zag) (zab 1) (zab 2))) nd)
  (zaf (zcv 5 (zjs ze4 hr (zaa (zab 3) (zaa (zab 4) zae)) (hlen := (zac (zac zah)))) nd)
  (zaf (zbj qcH rfl (zdq bn.enumerate' (zaa (zai 0 zag) zae)) (zaX rfl (zan (zal 6 nd) (zan (zal 7 nd) zaG)))
  (zaf (zcd (st_ge (zai 1 (zab 6)) zag)
  (zaj (zg9 5 (zaO (zaa (zav (zab 6) (zai 0 zag)) (zaa (zab 6) (zaa (zab 7) zae))))))
  zaM)
  (zaj (zcd (st_le (zai 1 (zab 6)) zag)
  (zaj (zg9 5 (zaO (zaa (zab 6) (zaa (zav (zab 6) (zai 0 zag)) (zaa (zex (zab 7)) zae))))))
  zaM))))
  (zaj (zcL 5)))))))
abbrev zh6:Stmt:=top 30
def zfi:MS:=
 (sSeq (sSet 1 (zas zbh (zad (eVar 0) aNil)))
  (sRet (eTup (zad (zas zcC (zad (eVar 0) (zad (eVar 1) aNil))) (zad (zas za9 (zad (zas zdd (zad (eVar 0) (zad (eVar 1) aNil))) (zad (mC dLen (zad (eIxV 0 (eC (.int 2))) aNil)) aNil))) (zad (eVar 1) aNil))))))
def za5:List D->Option Sl:=fP 2 zfi
theorem zlg (zbu:FD P w K mg base 2 "row_by_cuts" (spP K 2 za9))(zfm:FD P w K mg base 2 "signs_ties" (spP K 2 zdd))(zeo:FD P w K mg base 2 "signs_worth" (spP K 2 zcC))(zcB:FD P w K mg base 3 "worthiest_signs" (spP K 1 zbh))(h:FnAt K "line_change" zh6):FD P w K mg base 4 "line_change" (spP K 1 za5):=
 fdP (N:=["line","signs"]) (k:=3) (m:=zfi) X G h fun _ _ _ _ _ _ _ hr nd=>(zaf (zap 1 (zam zcB hr (zaa (zab 0) zae) (hlen:=(zac zah))) nd)
  (zaj (zat (zaO (zaa (zam zeo hr (zaa (zab 0) (zaa (zab 1) zae)) (hlen:=(zac (zac zah)))) (zaa (zam zbu hr (zaa (zam zfm hr (zaa (zab 0) (zaa (zab 1) zae)) (hlen:=(zac (zac zah)))) (zaa (zdQ bn.len' (zaa (zai 0 zag) zae)) zae)) (hlen:=(zac (zac zah)))) (zaa (zab 1) zae)))))))
abbrev ziM:Stmt:=top 32
def zgw:ME:=
 (m2 dSub (eVar 0) (eVar 1))
def zgq:MO:=
 oLC [] 2 (iZ2 (zad (eVar 0) (zad (eVar 1) aNil))) (gT 2 (zaq (gN 0) (zaq (gN 1) zbH))) zbp zgw
def zg4:MS:=
 (zio zgq)
def zbK:List D->Option Sl:=fP 2 zg4
theorem zl7 (h:FnAt K "less_mores" ziM):FD P w K mg base 1 "less_mores" (spP K 2 zbK):=
 fdP (N:=["bounds","mores"]) (k:=0) (m:=zg4) X G h fun _ _ _ _ _ _ _ hr nd=>(zaj (zcS (zcE [] 2 ["bound","more"] rfl (ziw bn.zip' (zaa (zab 0) (zaa (zab 1) zae))) (fun C s H fp=>(zaX rfl (zan (zal 0 ndk) (zan (zal 1 ndk) zaG)))) (fun C s H fp=>zaC) (fun C s H fp=>(za1 (zab 0) (zab 1))))))
abbrev zjk:Stmt:=top 33
def zg7:ME:=
 (eTup (zad (mC zmu (zad (zrT (eVar 0) (zbx (eVar 3)) pNo (zbx (eVar 1))) aNil)) (zad (mC zlT (zad (zrT (eVar 2) (zbx (eVar 3)) pNo (zbx (eVar 1))) aNil)) aNil)))
def zgS:MO:=
 oLC [0,2,1] 1 (iR1 (zad (eVar 2) aNil)) (gN 3) zbp zg7
def zg1:MS:=
 (zio zgS)
def zbE:List D->Option Sl:=fP 3 zg1
theorem zmH (h:FnAt K "head_spans" zjk):FD P w K mg base 1 "head_spans" (spP K 3 zbE):=
 fdP (N:=["lows","highs","many"]) (k:=0) (m:=zg1) X G h fun _ _ _ _ _ _ _ hr nd=>(zaj (zcS (zcE [0,2,1] 1 ["lows","many","highs","j"] rfl (zaB bn.range' (zaa (zab 2) zae)) (fun C s H fp=>(zal 3 ndk)) (fun C s H fp=>zaC) (fun C s H fp=>(zaO (zaa (zrm rfl bn.max' (zaa (zoh (zab 0) (zaE (zab 3)) zeY (zaE (zab 1))) zae)) (zaa (zsr rfl bn.min' (zaa (zoh (zab 2) (zaE (zab 3)) zeY (zaE (zab 1))) zae)) zae)))))))
abbrev zgT:Stmt:=top 34
def zeA:ME:=
 (m2 dAdd (eIxV 0 (m2 dMod (eVar 2) (eVar 1))) (eVar 3))
def zet:MO:=
 oLC [0,2] 2 (iEn (zad (eVar 1) aNil)) (gT 2 (zaq (gN 2) (zaq (gN 3) zbH))) zbp zeA
def zd8:MS:=
 (sSeq (sSet 2 (zdf 0))
  (sRet (mC zck (zad (eFz zet) aNil))))
def zb5:List D->Option Sl:=fP 3 zd8
theorem zla (h:FnAt K "row_by_heads" zgT):FD P w K mg base 1 "row_by_heads" (spP K 2 zb5):=
 fdP (N:=["heads","mores","many"]) (k:=0) (m:=zd8) X G h fun _ _ _ _ _ _ _ hr nd=>(zaf (zap 2 (za2 0 bn.len') nd)
  (zaj (zat (zb9 bn.tuple' (zaa (SO.se (zcE [0,2] 2 ["heads","many","place","more"] rfl (zdq bn.enumerate' (zaa (zab 1) zae)) (fun C s H fp=>(zaX rfl (zan (zal 2 ndk) (zan (zal 3 ndk) zaG)))) (fun C s H fp=>zaC) (fun C s H fp=>(zav (zai 0 (zj7 (zab 2) (zab 1))) (zab 3))))) zae)))))
abbrev zfJ:Stmt:=top 35
def zdV:ME:=
 (m2 dAdd (eVar 3) (m2 dMul (eVar 0) (m2 znv (zrT (eVar 1) (zbx (eVar 3)) pNo (zbx (eVar 0))) (eIxV 2 (eVar 3)))))
def zd2:MO:=
 oLC [2,0,1] 1 (iR1 (zad (eVar 2) aNil)) (gN 3) zbp zdV
def zdU:MS:=
 (sSeq (sSet 2 (zdf 1))
  (sRet (mC zck (zad (eFz zd2) aNil))))
def zbg:List D->Option Sl:=fP 3 zdU
theorem zkc (h:FnAt K "places_asking" zfJ):FD P w K mg base 1 "places_asking" (spP K 2 zbg):=
 fdP (N:=["asks","ends","many"]) (k:=0) (m:=zdU) X G h fun _ _ _ _ _ _ _ hr nd=>(zaf (zap 2 (za2 1 bn.len') nd)
  (zaj (zat (zb9 bn.tuple' (zaa (SO.se (zcE [2,0,1] 1 ["many","asks","ends","j"] rfl (zaB bn.range' (zaa (zab 2) zae)) (fun C s H fp=>(zal 3 ndk)) (fun C s H fp=>zaC) (fun C s H fp=>(zav (zab 3) (zcz (zab 0) (se_index (zoh (zab 1) (zaE (zab 3)) zeY (zaE (zab 0))) (zai 2 (zab 3)))))))) zae)))))
abbrev zhI:Stmt:=top 36
def zfU:ME:=
 (eVar 0)
def zfL:MO:=
 oLC [] 2 (iSeq (eVar 4)) (gT 2 (zaq (gN 0) (zaq (gN 1) zbH))) zbp zfU
def zfD:ME:=
 (eVar 1)
def zfE:MO:=
 oLC [] 2 (iSeq (eVar 4)) (gT 2 (zaq (gN 0) (zaq (gN 1) zbH))) zbp zfD
def zfu:MS:=
 (sIf (tTru (m2 dGt (eIxV 5 (eVar 9)) (eIxV 6 (eVar 9))))
  (sRet (eTup (zad (eC (.str "clash")) (zad (eIxV 7 (eVar 9)) (zad (eIxV 8 (eVar 9)) aNil)))))
  zb0)
def zfH:MS:=
 sFor (iR1 (zad (eVar 2) aNil)) (gN 9) zfu
def zfv:MS:=
 (sRet (eC .non))
def zfs:MS:=
 (sSeq (sIf (tTru (m2 dLt (mC dSum (zad (eVar 6) aNil)) (eVar 3)))
  (sRet (eTup (zad (eC (.str "high")) (zad (eVar 8) aNil))))
  zb0)
  zfv)
def ze9:MS:=
 (sSeq (sSet 4 (zas zbE (zad (eVar 0) (zad (eVar 1) (zad (eVar 2) aNil)))))
  (sSeq (sSet 5 (eFz zfL))
  (sSeq (sSet 6 (eFz zfE))
  (sSeq (sSet 7 (zas zbg (zad (eVar 0) (zad (eVar 5) aNil))))
  (sSeq (sSet 8 (zas zbg (zad (eVar 1) (zad (eVar 6) aNil))))
  (sSeq zfH
  (sSeq (sIf (tTru (m2 dGt (mC dSum (zad (eVar 5) aNil)) (eVar 3)))
  (sRet (eTup (zad (eC (.str "low")) (zad (eVar 7) aNil))))
  zb0)
  zfs)))))))
def zcI:List D->Option Sl:=fP 10 ze9
theorem zlq (zbT:FD P w K mg base 1 "head_spans" (spP K 3 zbE))(zb8:FD P w K mg base 1 "places_asking" (spP K 2 zbg))(h:FnAt K "heads_paper" zhI):FD P w K mg base 2 "heads_paper" (spP K 4 zcI):=
 fdP (N:=["lows","highs","many","total","spans","low_ends","high_ends","low_places","high_places","j"]) (k:=1) (m:=ze9) X G h fun _ _ _ _ _ _ _ hr nd=>(zaf (zap 4 (zam zbT hr (zaa (zab 0) (zaa (zab 1) (zaa (zab 2) zae))) (hlen:=(zac (zac (zac zah))))) nd)
  (zaf (zhb 5 [] 2 ["low", "high"] rfl (zbA (zab 4)) (fun C s H fp => (zaX rfl (zan (zal 0 ndk) (zan (zal 1 ndk) zaG)))) (fun C s H fp => zaC) (fun C s H fp => (zab 0)) nd)
  (zaf (zhb 6 [] 2 ["low", "high"] rfl (zbA (zab 4)) (fun C s H fp => (zaX rfl (zan (zal 0 ndk) (zan (zal 1 ndk) zaG)))) (fun C s H fp => zaC) (fun C s H fp => (zab 1)) nd)
  (zaf (zap 7 (zam zb8 hr (zaa (zab 0) (zaa (zab 5) zae)) (hlen := (zac (zac zah)))) nd)
  (zaf (zap 8 (zam zb8 hr (zaa (zab 1) (zaa (zab 6) zae)) (hlen := (zac (zac zah)))) nd)
  (zaf (zbj qcH rfl (zaB bn.range' (zaa (zab 2) zae)) (zal 9 nd)
  (zaj (zcd (zoR (zai 5 (zab 9)) (zai 6 (zab 9)))
  (zaj (zat (zaO (zaa zdJ (zaa (zai 7 (zab 9)) (zaa (zai 8 (zab 9)) zae))))))
  zaM)))
  (zaf (zcd (zoR (zdy rfl bn.sum' (zaa (zab 5) zae)) (zab 3))
  (zaj (zat (zaO (zaa zdJ (zaa (zab 7) zae)))))
  zaM)
  (zaf (zcd (zn7 (zdy rfl bn.sum' (zaa (zab 6) zae)) (zab 3))
  (zaj (zat (zaO (zaa zdJ (zaa (zab 8) zae)))))
  zaM)
  (zaj (zat zeN))))))))))
abbrev zhN:Stmt:=top 37
def zft:ME:=
 (eVar 1)
def zfB:MO:=
 oLC [] 2 (iSeq (eVar 0)) (gT 2 (zaq (gN 0) (zaq (gN 1) zbH))) zbp zft
def zfG:MS:=
 (sSeq (zk6 4 (fun i j => i - j) (eVar 6))
  (sSeq (sSet 7 (mC (d2I max2) (zad (eVar 5) (zad (m2 dSub (eVar 3) (eVar 4)) aNil))))
  (sSeq (sApp 2 (eVar 7))
  (zk6 3 (fun i j=>i-j) (eVar 7)))))
def zfS:MS:=
 sFor (iSeq (eVar 0)) (gT 2 (zaq (gN 5) (zaq (gN 6) zbH))) zfG
def zff:MS:=
 (sSeq (zhx 2 (oLst aNil))
  (sSeq (sSet 3 (eVar 1))
  (sSeq (sSet 4 (mC dSum (zad (eFz zfB) aNil)))
  (sSeq zfS
  (zgX 2)))))
def zbo:List D->Option Sl:=fP 8 zff
theorem zlk (h:FnAt K "least_heads" zhN):FD P w K mg base 1 "least_heads" (spP K 2 zbo):=
 fdP (N:=["spans","total","heads","left","room","low","high","head"]) (k:=0) (m:=zff) X G h fun _ _ _ _ _ _ _ hr nd=>(zaf (zcv 2 (zbr zae) nd)
  (zaf (zap 3 (zab 1) nd)
  (zaf (zap 4 (zdy rfl bn.sum' (zaa (SO.se (zcE [] 2 ["low", "high"] rfl (zbA (zab 0)) (fun C s H fp => (zaX rfl (zan (zal 0 ndk) (zan (zal 1 ndk) zaG)))) (fun C s H fp => zaC) (fun C s H fp => (zab 1)))) zae)) nd)
  (zaf (zbj qcH rfl (zbA (zab 0)) (zaX rfl (zan (zal 5 nd) (zan (zal 6 nd) zaG)))
  (zaf (zgZ 4 (zab 6) nd)
  (zaf (zap 7 (zlZ rfl bn.max' (zaa (zab 5) (zaa (za1 (zab 3) (zab 4)) zae))) nd)
  (zaf (zg9 2 (zab 7))
  (zaj (zgZ 3 (zab 7) nd))))))
  (zaj (zcL 2))))))
abbrev zhX:Stmt:=top 38
def zfP:ME:=
 (eVar 0)
def zfF:MO:=
 oLC [] 2 (iSeq (eVar 0)) (gT 2 (zaq (gN 0) (zaq (gN 1) zbH))) zbp zfP
def zfV:ME:=
 (eVar 1)
def zfw:MO:=
 oLC [] 2 (iSeq (eVar 0)) (gT 2 (zaq (gN 0) (zaq (gN 1) zbH))) zbp zfV
def zfz:ME:=
 (eTup (zad (mC (d2I max2) (zad (eVar 2) (zad (m2 dSub (eVar 3) (eVar 0)) aNil))) (zad (mC (d2I min2) (zad (eVar 3) (zad (m2 dAdd (eVar 2) (eVar 1)) aNil))) aNil)))
def zfN:MO:=
 oLC [3,2] 2 (iSeq (eVar 0)) (gT 2 (zaq (gN 2) (zaq (gN 3) zbH))) zbp zfz
def zfh:MS:=
 (sSeq (sSet 2 (m2 dSub (eVar 1) (mC dSum (zad (eFz zfF) aNil))))
  (sSeq (sSet 3 (m2 dSub (mC dSum (zad (eFz zfw) aNil)) (eVar 1)))
  (zio zfN)))
def zcy:List D->Option Sl:=fP 4 zfh
theorem zln (h:FnAt K "head_ranges" zhX):FD P w K mg base 1 "head_ranges" (spP K 2 zcy):=
 fdP (N:=["spans","total","over","under"]) (k:=0) (m:=zfh) X G h fun _ _ _ _ _ _ _ hr nd=>(zaf (zap 2 (za1 (zab 1) (zdy rfl bn.sum' (zaa (SO.se (zcE [] 2 ["low","high"] rfl (zbA (zab 0)) (fun C s H fp=>(zaX rfl (zan (zal 0 ndk) (zan (zal 1 ndk) zaG)))) (fun C s H fp=>zaC) (fun C s H fp=>(zab 0)))) zae))) nd)
  (zaf (zap 3 (za1 (zdy rfl bn.sum' (zaa (SO.se (zcE [] 2 ["low", "high"] rfl (zbA (zab 0)) (fun C s H fp => (zaX rfl (zan (zal 0 ndk) (zan (zal 1 ndk) zaG)))) (fun C s H fp => zaC) (fun C s H fp => (zab 1)))) zae)) (zab 1)) nd)
  (zaj (zcS (zcE [3,2] 2 ["under","over","low","high"] rfl (zbA (zab 0)) (fun C s H fp=>(zaX rfl (zan (zal 2 ndk) (zan (zal 3 ndk) zaG)))) (fun C s H fp=>zaC) (fun C s H fp=>(zaO (zaa (zlZ rfl bn.max' (zaa (zab 2) (zaa (za1 (zab 3) (zab 0)) zae))) (zaa (se_min2 rfl bn.min' (zaa (zab 3) (zaa (zav (zab 2) (zab 1)) zae))) zae)))))))))
abbrev zjY:Stmt:=top 39
def zhz:MS:=
 (sSet 2 (m2 dDiv (m2 dMul (eVar 2) (m2 dAdd (eVar 0) (eVar 3))) (eVar 3)))
def zhU:MS:=
 sFor (iR2 (zad (eC (.int 1)) (zad (eVar 1) aNil))) (gN 3) zhz
def zil:MS:=
 (sSeq (sSet 2 (eC (.int 1)))
  (sSeq zhU
  (zgX 2)))
def zdH:List D->Option Sl:=fP 4 zil
theorem znP (h:FnAt K "part_ways" zjY):FD P w K mg base 1 "part_ways" (spP K 2 zdH):=
 fdP (N:=["number","parts","ways","step"]) (k:=0) (m:=zil) X G h fun _ _ _ _ _ _ _ hr nd=>(zaf (zap 2 zag nd)
  (zaf (zbj qcH rfl (zsq bn.range' (zaa zag (zaa (zab 1) zae))) (zal 3 nd)
  (zaj (zap 2 (znr (zcz (zab 2) (zav (zab 0) (zab 3))) (zab 3)) nd)))
  (zaj (zcL 2))))
abbrev zi2:Stmt:=top 40
def zgb:ME:=
 (m2 dGt (eVar 0) (eVar 1))
def zgp:MO:=
 oLC [] 2 (iSeq (eVar 0)) (gT 2 (zaq (gN 0) (zaq (gN 1) zbH))) zbp zgb
def zgr:ME:=
 (eVar 0)
def zgR:MO:=
 oLC [] 2 (iSeq (eVar 0)) (gT 2 (zaq (gN 0) (zaq (gN 1) zbH))) zbp zgr
def zgc:ME:=
 (eTup (zad (m1 dNeg (eVar 1)) (zad (m2 dSub (eVar 2) (eVar 0)) aNil)))
def zgu:MT:=
 (tTru (m2 dGe (eVar 2) (eVar 0)))
def zgM:MO:=
 oLC [6] 2 (iSeq (eVar 3)) (gT 2 (zaq (gN 1) (zaq (gN 2) zbH))) zgu zgc
def zhe:MS:=
 (sSeq (sSet 6 (m2 dAdd (m2 dSub (eVar 5) (eVar 4)) (eC (.int 1))))
  (sSet 3 (m2 dAdd (eVar 3) (eFz zgM))))
def zgx:MS:=
 sFor (iSeq (eVar 0)) (gT 2 (zaq (gN 4) (zaq (gN 5) zbH))) zhe
def zgQ:ME:=
 (m2 dMul (eVar 1) (zas zdH (zad (eVar 2) (zad (zdf 0) aNil))))
def zgy:MO:=
 oLC [0] 2 (iSeq (eVar 3)) (gT 2 (zaq (gN 1) (zaq (gN 2) zbH))) zbp zgQ
def zdG:MS:=
 (sSeq (sSet 3 (eFz (oLst (zad (eTup (zad (eC (.int 1)) (zad (eVar 2) aNil))) aNil))))
  (sSeq zgx
  (sRet (mC dSum (zad (eFz zgy) aNil)))))
def zgf:MS:=
 (sSeq (sSet 2 (m2 dSub (eVar 1) (mC dSum (zad (eFz zgR) aNil))))
  (sSeq (sIf (tTru (m2 dLt (eVar 2) (eC (.int 0))))
  (sRet (eC (.int 0)))
  zb0)
  zdG))
def zgB:MS:=
 (sSeq (sIf (tTru (mC (dAll fun bs => bs.any id) (zad (eFz zgp) aNil)))
  (sRet (eC (.int 0)))
  zb0)
  zgf)
def zbN:List D->Option Sl:=fP 7 zgB
theorem zlY (zgE:FD P w K mg base 1 "part_ways" (spP K 2 zdH))(h:FnAt K "heads_many" zi2):FD P w K mg base 2 "heads_many" (spP K 2 zbN):=
 fdP (N:=["spans","total","left","terms","low","high","width"]) (k:=1) (m:=zgB) X G h fun _ _ _ _ _ _ _ hr nd=>(zaf (zcd (zc2 (se_any rfl bn.any' (zaa (SO.se (zcE [] 2 ["low","high"] rfl (zbA (zab 0)) (fun C s H fp=>(zaX rfl (zan (zal 0 ndk) (zan (zal 1 ndk) zaG)))) (fun C s H fp=>zaC) (fun C s H fp=>(se_gt (zab 0) (zab 1))))) zae)))
  (zaj (zat zag))
  zaM)
  (zaf (zap 2 (za1 (zab 1) (zdy rfl bn.sum' (zaa (SO.se (zcE [] 2 ["low", "high"] rfl (zbA (zab 0)) (fun C s H fp => (zaX rfl (zan (zal 0 ndk) (zan (zal 1 ndk) zaG)))) (fun C s H fp => zaC) (fun C s H fp => (zab 0)))) zae))) nd)
  (zaf (zcd (zn7 (zab 2) zag)
  (zaj (zat zag))
  zaM)
  (zaf (zap 3 (SO.se (zbr (zaa (zaO (zaa zag (zaa (zab 2) zae))) zae))) nd)
  (zaf (zbj qcH rfl (zbA (zab 0)) (zaX rfl (zan (zal 4 nd) (zan (zal 5 nd) zaG)))
  (zaf (zap 6 (zav (za1 (zab 5) (zab 4)) zag) nd)
  (zaj (zap 3 (zav (zab 3) (SO.se (zcE [6] 2 ["width","sign","rest"] rfl (zbA (zab 3)) (fun C s H fp=>(zaX rfl (zan (zal 1 ndk) (zan (zal 2 ndk) zaG)))) (fun C s H fp=>(zrI (st_ge (zab 2) (zab 0)))) (fun C s H fp=>(zaO (zaa (zex (zab 1)) (zaa (za1 (zab 2) (zab 0)) zae))))))) nd))))
  (zaj (zat (zdy rfl bn.sum' (zaa (SO.se (zcE [0] 2 ["spans","sign","rest"] rfl (zbA (zab 3)) (fun C s H fp=>(zaX rfl (zan (zal 1 ndk) (zan (zal 2 ndk) zaG)))) (fun C s H fp=>zaC) (fun C s H fp=>(zcz (zab 1) (zam zgE hr (zaa (zab 2) (zaa (za2 0 bn.len') zae)) (hlen:=(zac (zac zah)))))))) zae)))))))))
abbrev zhF:Stmt:=top 41
def ze3:MS:=
 (sRet (zas zbN (zad (m2 dAdd (eFz (oLst (zad (eTup (zad (m2 dIx (eIxV 0 (eC (.int 0))) (eC (.int 0))) (zad (m2 dSub (eVar 2) (eC (.int 1))) aNil))) aNil))) (eCut (eVar 0) (zbx (eC (.int 1))) pNo)) (zad (eVar 1) aNil))))
def za0:List D->Option Sl:=fP 3 ze3
theorem zlo (zbQ:FD P w K mg base 2 "heads_many" (spP K 2 zbN))(h:FnAt K "heads_below" zhF):FD P w K mg base 3 "heads_below" (spP K 3 za0):=
 fdP (N:=["spans","total","first"]) (k:=2) (m:=ze3) X G h fun _ _ _ _ _ _ _ hr nd=>(zaj (zat (zam zbQ hr (zaa (zav (SO.se (zbr (zaa (zaO (zaa (zaA (zai 0 zag) zag) (zaa (za1 (zab 2) zag) zae))) zae))) (zcr (zab 0) (zaE zag) zeY)) (zaa (zab 1) zae)) (hlen:=(zac (zac zah))))))
abbrev ziv:Stmt:=top 42
def zgO:MT:=
 (tTru (m2 dLt (eVar 3) (eVar 4)))
def zfZ:MS:=
 (sSeq (sSet 5 (m2 dDiv (m2 dAdd (m2 dAdd (eVar 3) (eVar 4)) (eC (.int 1))) (eC (.int 2))))
  (sIf (tTru (m2 dGt (zas za0 (zad (eVar 0) (zad (eVar 1) (zad (eVar 5) aNil)))) (eVar 2)))
  (sSet 4 (m2 dSub (eVar 5) (eC (.int 1))))
  (sSet 3 (eVar 5))))
def zgI:MS:=
 ziZ zgO zfZ 400
def zgV:MS:=
 (sSeq (sSet 3 (m2 dIx (eIxV 0 (eC (.int 0))) (eC (.int 0))))
  (sSeq (sSet 4 (m2 dIx (eIxV 0 (eC (.int 0))) (eC (.int 1))))
  (sSeq zgI
  (zgX 3))))
def zc9:List D->Option Sl:=fP 6 zgV
theorem zmg (zaQ:FD P w K mg base 3 "heads_below" (spP K 3 za0))(h:FnAt K "first_head" ziv):FD P w K mg base 4 "first_head" (spP K 3 zc9):=
 fdP (N:=["spans","total","number","low","high","middle"]) (k:=3) (m:=zgV) X G h fun _ _ _ _ _ _ _ hr nd=>(zaf (zap 3 (zaA (zai 0 zag) zag) nd)
  (zaf (zap 4 (zaA (zai 0 zag) zag) nd)
  (zaf (zpZ 400 qcH (zn7 (zab 3) (zab 4))
  (zaf (zap 5 (znr (zav (zav (zab 3) (zab 4)) zag) zag) nd)
  (zaj (zcd (zoR (zam zaQ hr (zaa (zab 0) (zaa (zab 1) (zaa (zab 5) zae))) (hlen := (zac (zac (zac zah))))) (zab 2))
  (zaj (zap 4 (za1 (zab 5) zag) nd))
  (zaj (zap 3 (zab 5) nd))))))
  (zaj (zcL 3)))))
abbrev zkU:Stmt:=top 43
def zit:MS:=
 (sSeq (sSet 7 (zas zc9 (zad (eCut (eVar 0) (zbx (eVar 6)) pNo) (zad (eVar 4) (zad (eVar 5) aNil)))))
  (sSeq (zk6 5 (fun i j => i - j) (zas za0 (zad (eCut (eVar 0) (zbx (eVar 6)) pNo) (zad (eVar 4) (zad (eVar 7) aNil)))))
  (sSeq (sApp 3 (eVar 7))
  (zk6 4 (fun i j=>i-j) (eVar 7)))))
def ziH:MS:=
 sFor (iR1 (zad (zdf 0) aNil)) (gN 6) zit
def zjE:MS:=
 (sSeq (zhx 3 (oLst aNil))
  (sSeq (sSet 4 (eVar 1))
  (sSeq (sSet 5 (eVar 2))
  (sSeq ziH
  (zgX 3)))))
def zeF:List D->Option Sl:=fP 8 zjE
theorem zoG (ze7:FD P w K mg base 4 "first_head" (spP K 3 zc9))(zaQ:FD P w K mg base 3 "heads_below" (spP K 3 za0))(h:FnAt K "heads_at" zkU):FD P w K mg base 5 "heads_at" (spP K 3 zeF):=
 fdP (N:=["spans","total","number","heads","left","ahead","j","head"]) (k:=4) (m:=zjE) X G h fun _ _ _ _ _ _ _ hr nd=>(zaf (zcv 3 (zbr zae) nd)
  (zaf (zap 4 (zab 1) nd)
  (zaf (zap 5 (zab 2) nd)
  (zaf (zbj qcH rfl (zaB bn.range' (zaa (za2 0 bn.len') zae)) (zal 6 nd)
  (zaf (zap 7 (zam ze7 hr (zaa (zcr (zab 0) (zaE (zab 6)) zeY) (zaa (zab 4) (zaa (zab 5) zae))) (hlen := (zac (zac (zac zah))))) nd)
  (zaf (zgZ 5 (zam zaQ hr (zaa (zcr (zab 0) (zaE (zab 6)) zeY) (zaa (zab 4) (zaa (zab 7) zae))) (hlen := (zac (zac (zac zah))))) nd)
  (zaf (zg9 3 (zab 7))
  (zaj (zgZ 4 (zab 7) nd))))))
  (zaj (zcL 3))))))
abbrev zgg:Stmt:=top 44
def zeB:MS:=
 (sSeq (zk6 4 (fun i j => i + j) (zas za0 (zad (eCut (eVar 0) (zbx (eVar 5)) pNo) (zad (eVar 3) (zad (eIxV 2 (eVar 5)) aNil)))))
  (zk6 3 (fun i j=>i-j) (eIxV 2 (eVar 5))))
def zeE:MS:=
 sFor (iR1 (zad (zdf 0) aNil)) (gN 5) zeB
def zec:MS:=
 (sSeq (sSet 3 (eVar 1))
  (sSeq (sSet 4 (eC (.int 0)))
  (sSeq zeE
  (zgX 4))))
def zb2:List D->Option Sl:=fP 6 zec
theorem zk5 (zaQ:FD P w K mg base 3 "heads_below" (spP K 3 za0))(h:FnAt K "heads_number" zgg):FD P w K mg base 4 "heads_number" (spP K 3 zb2):=
 fdP (N:=["spans","total","heads","left","number","j"]) (k:=3) (m:=zec) X G h fun _ _ _ _ _ _ _ hr nd=>(zaf (zap 3 (zab 1) nd)
  (zaf (zap 4 zag nd)
  (zaf (zbj qcH rfl (zaB bn.range' (zaa (za2 0 bn.len') zae)) (zal 5 nd)
  (zaf (zqZ 4 (zam zaQ hr (zaa (zcr (zab 0) (zaE (zab 5)) zeY) (zaa (zab 3) (zaa (zai 2 (zab 5)) zae))) (hlen := (zac (zac (zac zah))))) nd)
  (zaj (zgZ 3 (zai 2 (zab 5)) nd))))
  (zaj (zcL 4)))))
abbrev zkT:Stmt:=top 46
def zjn:MS:=
 (sRet (zg6 dLe dLt (eC (.int 0)) (eVar 1) (mC dLen (zad (eIxV 0 (eC (.int 2))) aNil))))
def zeT:List D->Option Sl:=fP 2 zjn
theorem zoq (h:FnAt K "is_place" zkT):FD P w K mg base 1 "is_place" (spP K 2 zeT):=
 fdP (N:=["line","number"]) (k:=0) (m:=zjn) X G h fun _ _ _ _ _ _ _ hr nd=>(zaj (zat (zme zk9 op_lt zcM zcM zag (zab 1) (zdQ bn.len' (zaa (zai 0 zag) zae)))))
abbrev zkM:Stmt:=top 47
def ziO:MS:=
 (sApp 2 (m2 dSub (m2 dAdd (eIxV 2 (eVar 3)) (eIxV 1 (m2 dAdd (eVar 3) (eC (.int 1))))) (eIxV 1 (eVar 3))))
def zjm:MS:=
 sFor (iR1 (zad (m2 dSub (zdf 1) (eC (.int 1))) aNil)) (gN 3) ziO
def zjv:MS:=
 (sSeq (sSet 1 (eIxV 0 (eC (.int 1))))
  (sSeq (zhx 2 (oRep (eFz (oLst (zad (eC (.int 0)) aNil))) (eIxV 0 (eC (.int 0)))))
  (sSeq zjm
  (zgX 2))))
def zbU:List D->Option Sl:=fP 4 zjv
theorem zot (h:FnAt K "mores_of" zkM):FD P w K mg base 1 "mores_of" (spP K 1 zbU):=
 fdP (N:=["line","sums","mores","i"]) (k:=0) (m:=zjv) X G h fun _ _ _ _ _ _ _ hr nd=>(zaf (zap 1 (zai 0 zag) nd)
  (zaf (zcv 2 (zpW (SO.se (zbr (zaa zag zae))) (zai 0 zag)) nd)
  (zaf (zbj qcH rfl (zaB bn.range' (zaa (za1 (za2 1 bn.len') zag) zae)) (zal 3 nd)
  (zaj (zg9 2 (za1 (zav (zai 2 (zab 3)) (zai 1 (zav (zab 3) zag))) (zai 1 (zab 3))))))
  (zaj (zcL 2)))))
abbrev zkD:Stmt:=top 48
def zjI:MS:=
 (zio (znR zbK (zad (eIxV 0 (eC (.int 2))) (zad (zas zbU (zad (eVar 0) aNil)) aNil))))
def zcV:List D->Option Sl:=fP 1 zjI
theorem zn6 (zbX:FD P w K mg base 1 "less_mores" (spP K 2 zbK))(zbk:FD P w K mg base 1 "mores_of" (spP K 1 zbU))(h:FnAt K "low_asks" zkD):FD P w K mg base 2 "low_asks" (spP K 1 zcV):=
 fdP (N:=["line"]) (k:=1) (m:=zjI) X G h fun _ _ _ _ _ _ _ hr nd=>(zaj (zcS (zjs zbX hr (zaa (zai 0 zag) (zaa (zam zbk hr (zaa (zab 0) zae) (hlen:=(zac zah))) zae)) (hlen:=(zac (zac zah))))))
abbrev zjW:Stmt:=top 49
def zic:MS:=
 (zio (znR zbK (zad (eIxV 0 (eC (.int 3))) (zad (zas zbU (zad (eVar 0) aNil)) aNil))))
def zci:List D->Option Sl:=fP 1 zic
theorem zm8 (zbX:FD P w K mg base 1 "less_mores" (spP K 2 zbK))(zbk:FD P w K mg base 1 "mores_of" (spP K 1 zbU))(h:FnAt K "high_asks" zjW):FD P w K mg base 2 "high_asks" (spP K 1 zci):=
 fdP (N:=["line"]) (k:=1) (m:=zic) X G h fun _ _ _ _ _ _ _ hr nd=>(zaj (zcS (zjs zbX hr (zaa (zai 0 zag) (zaa (zam zbk hr (zaa (zab 0) zae) (hlen:=(zac zah))) zae)) (hlen:=(zac (zac zah))))))
abbrev ziF:Stmt:=top 50
def zgU:MS:=
 (zio (znR zbE (zad (zas zcV (zad (eVar 0) aNil)) (zad (zas zci (zad (eVar 0) aNil)) (zad (eIxV 0 (eC (.int 0))) aNil)))))
def zaL:List D->Option Sl:=fP 1 zgU
theorem zmo (zbT:FD P w K mg base 1 "head_spans" (spP K 3 zbE))(zcs:FD P w K mg base 2 "high_asks" (spP K 1 zci))(zcU:FD P w K mg base 2 "low_asks" (spP K 1 zcV))(h:FnAt K "rest_spans" ziF):FD P w K mg base 3 "rest_spans" (spP K 1 zaL):=
 fdP (N:=["line"]) (k:=2) (m:=zgU) X G h fun _ _ _ _ _ _ _ hr nd=>(zaj (zcS (zjs zbT hr (zaa (zam zcU hr (zaa (zab 0) zae) (hlen:=(zac zah))) (zaa (zam zcs hr (zaa (zab 0) zae) (hlen:=(zac zah))) (zaa (zai 0 zag) zae))) (hlen:=(zac (zac (zac zah)))))))
abbrev znV:Stmt:=top 51
def zlW:MS:=
 (sRet (zas zb5 (zad (eVar 1) (zad (zas zbU (zad (eVar 0) aNil)) aNil))))
def zdr:List D->Option Sl:=fP 2 zlW
theorem zri (zbk:FD P w K mg base 1 "mores_of" (spP K 1 zbU))(zdS:FD P w K mg base 1 "row_by_heads" (spP K 2 zb5))(h:FnAt K "row_of" znV):FD P w K mg base 2 "row_of" (spP K 2 zdr):=
 fdP (N:=["line","heads"]) (k:=1) (m:=zlW) X G h fun _ _ _ _ _ _ _ hr nd=>(zaj (zat (zam zdS hr (zaa (zab 1) (zaa (zam zbk hr (zaa (zab 0) zae) (hlen:=(zac zah))) zae)) (hlen:=(zac (zac zah))))))
abbrev ziE:Stmt:=top 52
def zdb:MS:=
 (sRet (zas zcI (zad (zas zcV (zad (eVar 0) aNil)) (zad (zas zci (zad (eVar 0) aNil)) (zad (eIxV 0 (eC (.int 0))) (zad (m2 dIx (eIxV 0 (eC (.int 1))) (eC (.int 0))) aNil))))))
def zaK:List D->Option Sl:=fP 1 zdb
theorem zmR (zef:FD P w K mg base 2 "heads_paper" (spP K 4 zcI))(zcs:FD P w K mg base 2 "high_asks" (spP K 1 zci))(zcU:FD P w K mg base 2 "low_asks" (spP K 1 zcV))(h:FnAt K "line_paper" ziE):FD P w K mg base 3 "line_paper" (spP K 1 zaK):=
 fdP (N:=["line"]) (k:=2) (m:=zdb) X G h fun _ _ _ _ _ _ _ hr nd=>(zaj (zat (zam zef hr (zaa (zam zcU hr (zaa (zab 0) zae) (hlen:=(zac zah))) (zaa (zam zcs hr (zaa (zab 0) zae) (hlen:=(zac zah))) (zaa (zai 0 zag) (zaa (zaA (zai 0 zag) zag) zae)))) (hlen:=(zac (zac (zac (zac zah))))))))
abbrev zhO:Stmt:=top 53
def zfK:MS:=
 (sRet (eTup (zad (eC (.str "row")) (zad (zas zdr (zad (eVar 0) (zad (zas zbo (zad (zas zaL (zad (eVar 0) aNil)) (zad (m2 dIx (eIxV 0 (eC (.int 1))) (eC (.int 0))) aNil))) aNil))) aNil))))
def zfc:MS:=
 (sSeq (sSet 1 (zas zaK (zad (eVar 0) aNil)))
  (sSeq (sIf (tTru (m2 zmq (eVar 1) (eC .non)))
  (zgX 1)
  zb0)
  zfK))
def zbl:List D->Option Sl:=fP 2 zfc
theorem zle (zbv:FD P w K mg base 1 "least_heads" (spP K 2 zbo))(zaZ:FD P w K mg base 3 "line_paper" (spP K 1 zaK))(zaz:FD P w K mg base 3 "rest_spans" (spP K 1 zaL))(zcx:FD P w K mg base 2 "row_of" (spP K 2 zdr))(h:FnAt K "fitted_line" zhO):FD P w K mg base 4 "fitted_line" (spP K 1 zbl):=
 fdP (N:=["line","paper"]) (k:=3) (m:=zfc) X G h fun _ _ _ _ _ _ _ hr nd=>(zaf (zap 1 (zam zaZ hr (zaa (zab 0) zae) (hlen:=(zac zah))) nd)
  (zaf (zcd (zmk (zab 1) zeN)
  (zaj (zcL 1))
  zaM)
  (zaj (zat (zaO (zaa zdJ (zaa (zam zcx hr (zaa (zab 0) (zaa (zam zbv hr (zaa (zam zaz hr (zaa (zab 0) zae) (hlen:=(zac zah))) (zaa (zaA (zai 0 zag) zag) zae)) (hlen:=(zac (zac zah)))) zae)) (hlen:=(zac (zac zah)))) zae)))))))
abbrev zfy:Stmt:=top 54
def zdW:MS:=
 (zio (znR zaL (zad (eVar 0) aNil)))
def zdC:MS:=
 (sSeq (sIf (tTru (m2 zmq (zas zaK (zad (eVar 0) aNil)) (eC .non)))
  (fun _=>none)
  zb0)
  zdW)
def zbG:List D->Option Sl:=fP 1 zdC
theorem zj9 (zaZ:FD P w K mg base 3 "line_paper" (spP K 1 zaK))(zaz:FD P w K mg base 3 "rest_spans" (spP K 1 zaL))(h:FnAt K "fitting_spans" zfy):FD P w K mg base 4 "fitting_spans" (spP K 1 zbG):=
 fdP (N:=["line"]) (k:=3) (m:=zdC) X G h fun _ _ _ _ _ _ _ hr nd=>(zaf (zcd (zmk (zam zaZ hr (zaa (zab 0) zae) (hlen:=(zac zah))) zeN)
  (zaj zhq)
  zaM)
  (zaj (zcS (zjs zaz hr (zaa (zab 0) zae) (hlen:=(zac zah))))))
abbrev zjX:Stmt:=top 56
def zie:MS:=
 (sRet (zas zbN (zad (zas zaL (zad (eVar 0) aNil)) (zad (m2 dIx (eIxV 0 (eC (.int 1))) (eC (.int 0))) aNil))))
def zcg:List D->Option Sl:=fP 1 zie
theorem znY (zbQ:FD P w K mg base 2 "heads_many" (spP K 2 zbN))(zaz:FD P w K mg base 3 "rest_spans" (spP K 1 zaL))(h:FnAt K "line_many" zjX):FD P w K mg base 4 "line_many" (spP K 1 zcg):=
 fdP (N:=["line"]) (k:=3) (m:=zie) X G h fun _ _ _ _ _ _ _ hr nd=>(zaj (zat (zam zbQ hr (zaa (zam zaz hr (zaa (zab 0) zae) (hlen:=(zac zah))) (zaa (zaA (zai 0 zag) zag) zae)) (hlen:=(zac (zac zah))))))
abbrev zlP:Stmt:=top 57
def zjP:MS:=
 (sRet (zas zdr (zad (eVar 0) (zad (zas zeF (zad (zas zaL (zad (eVar 0) aNil)) (zad (m2 dIx (eIxV 0 (eC (.int 1))) (eC (.int 0))) (zad (eVar 1) aNil)))) aNil))))
def zkY:MS:=
 (sSeq (sIf (zjq (tTru (zg6 dLe dLt (eC (.int 0)) (eVar 1) (zas zcg (zad (eVar 0) aNil)))))
  (fun _=>none)
  zb0)
  zjP)
def zeU:List D->Option Sl:=fP 2 zkY
theorem zqk (ziq:FD P w K mg base 5 "heads_at" (spP K 3 zeF))(zcm:FD P w K mg base 4 "line_many" (spP K 1 zcg))(zaz:FD P w K mg base 3 "rest_spans" (spP K 1 zaL))(zcx:FD P w K mg base 2 "row_of" (spP K 2 zdr))(h:FnAt K "line_at" zlP):FD P w K mg base 6 "line_at" (spP K 2 zeU):=
 fdP (N:=["line","number"]) (k:=5) (m:=zkY) X G h fun _ _ _ _ _ _ _ hr nd=>(zaf (zcd (zgh (zmK zk9 op_lt zcM zcM zks zag (zab 1) (zam zcm hr (zaa (zab 0) zae) (hlen:=(zac zah)))))
  (zaj zhq)
  zaM)
  (zaj (zat (zam zcx hr (zaa (zab 0) (zaa (zam ziq hr (zaa (zam zaz hr (zaa (zab 0) zae) (hlen:=(zac zah))) (zaa (zaA (zai 0 zag) zag) (zaa (zab 1) zae))) (hlen:=(zac (zac (zac zah))))) zae)) (hlen:=(zac (zac zah)))))))
abbrev zh2:Stmt:=top 58
def zfX:MS:=
 (sRet (zas zb2 (zad (zas zaL (zad (eVar 0) aNil)) (zad (m2 dIx (eIxV 0 (eC (.int 1))) (eC (.int 0))) (zad (eVar 1) aNil)))))
def ze1:MS:=
 (sSeq (sIf (zjq (tTru (zas zbF (zad (eVar 0) (zad (eVar 1) aNil)))))
  (fun _=>none)
  zb0)
  zfX)
def zcA:List D->Option Sl:=fP 2 ze1
theorem zlm (zdx:FD P w K mg base 4 "heads_number" (spP K 3 zb2))(zbV:FD P w K mg base 2 "line_holds" (spP K 2 zbF))(zaz:FD P w K mg base 3 "rest_spans" (spP K 1 zaL))(h:FnAt K "line_number" zh2):FD P w K mg base 5 "line_number" (spP K 2 zcA):=
 fdP (N:=["line","row"]) (k:=4) (m:=ze1) X G h fun _ _ _ _ _ _ _ hr nd=>(zaf (zcd (zgh (zc2 (zam zbV hr (zaa (zab 0) (zaa (zab 1) zae)) (hlen:=(zac (zac zah))))))
  (zaj zhq)
  zaM)
  (zaj (zat (zam zdx hr (zaa (zam zaz hr (zaa (zab 0) zae) (hlen:=(zac zah))) (zaa (zaA (zai 0 zag) zag) (zaa (zab 1) zae))) (hlen:=(zac (zac (zac zah))))))))
abbrev zfx:Stmt:=top 60
def zdF:MS:=
 (sRet (zas zdr (zad (eVar 0) (zad (zas zbo (zad (m2 dAdd (m2 dAdd (eCut (eVar 1) pNo (zbx (eVar 2))) (eFz (oLst (zad (eTup (zad (eVar 3) (zad (eVar 3) aNil))) aNil)))) (eCut (eVar 1) (zbx (m2 dAdd (eVar 2) (eC (.int 1)))) pNo)) (zad (m2 dIx (eIxV 0 (eC (.int 1))) (eC (.int 0))) aNil))) aNil))))
def zbi:List D->Option Sl:=fP 4 zdF
theorem zka (zbv:FD P w K mg base 1 "least_heads" (spP K 2 zbo))(zcx:FD P w K mg base 2 "row_of" (spP K 2 zdr))(h:FnAt K "row_with_head" zfx):FD P w K mg base 3 "row_with_head" (spP K 4 zbi):=
 fdP (N:=["line","spans","j","head"]) (k:=2) (m:=zdF) X G h fun _ _ _ _ _ _ _ hr nd=>(zaj (zat (zam zcx hr (zaa (zab 0) (zaa (zam zbv hr (zaa (zav (zav (zcr (zab 1) zeY (zaE (zab 2))) (SO.se (zbr (zaa (zaO (zaa (zab 3) (zaa (zab 3) zae))) zae)))) (zcr (zab 1) (zaE (zav (zab 2) zag)) zeY)) (zaa (zaA (zai 0 zag) zag) zae)) (hlen:=(zac (zac zah)))) zae)) (hlen:=(zac (zac zah))))))
abbrev zi3:Stmt:=top 61
def zgd:MS:=
 (sSeq (sSet 2 (zas zbG (zad (eVar 0) aNil)))
  (sSeq (sSet 3 (m2 dMod (eVar 1) (eIxV 0 (eC (.int 0)))))
  (sSeq (sSet 4 (m2 dIx (zas zcy (zad (eVar 2) (zad (m2 dIx (eIxV 0 (eC (.int 1))) (eC (.int 0))) aNil))) (eVar 3)))
  (sRet (eTup (zad (zas zbi (zad (eVar 0) (zad (eVar 2) (zad (eVar 3) (zad (eIxV 4 (eC (.int 0))) aNil))))) (zad (zas zbi (zad (eVar 0) (zad (eVar 2) (zad (eVar 3) (zad (eIxV 4 (eC (.int 1))) aNil))))) aNil)))))))
def zhd:MS:=
 (sSeq (sIf (zjq (tTru (zas zeT (zad (eVar 0) (zad (eVar 1) aNil)))))
  (fun _=>none)
  zb0)
  zgd)
def zc6:List D->Option Sl:=fP 5 zhd
theorem zmf (zdg:FD P w K mg base 4 "fitting_spans" (spP K 1 zbG))(zel:FD P w K mg base 1 "head_ranges" (spP K 2 zcy))(zid:FD P w K mg base 1 "is_place" (spP K 2 zeT))(zca:FD P w K mg base 3 "row_with_head" (spP K 4 zbi))(h:FnAt K "line_range" zi3):FD P w K mg base 5 "line_range" (spP K 2 zc6):=
 fdP (N:=["line","place","spans","j","ends"]) (k:=4) (m:=zhd) X G h fun _ _ _ _ _ _ _ hr nd=>(zaf (zcd (zgh (zc2 (zam zid hr (zaa (zab 0) (zaa (zab 1) zae)) (hlen:=(zac (zac zah))))))
  (zaj zhq)
  zaM)
  (zaf (zap 2 (zam zdg hr (zaa (zab 0) zae) (hlen := (zac zah))) nd)
  (zaf (zap 3 (zj7 (zab 1) (zai 0 zag)) nd)
  (zaf (zap 4 (zaA (zam zel hr (zaa (zab 2) (zaa (zaA (zai 0 zag) zag) zae)) (hlen := (zac (zac zah)))) (zab 3)) nd)
  (zaj (zat (zaO (zaa (zam zca hr (zaa (zab 0) (zaa (zab 2) (zaa (zab 3) (zaa (zai 4 zag) zae)))) (hlen:=(zac (zac (zac (zac zah)))))) (zaa (zam zca hr (zaa (zab 0) (zaa (zab 2) (zaa (zab 3) (zaa (zai 4 zag) zae)))) (hlen:=(zac (zac (zac (zac zah)))))) zae)))))))))
abbrev zf0:Stmt:=top 63
def zeb:MS:=
 (sRet (eIf (tTru (m2 dEq (eVar 1) (eC (.str "sum")))) (mC dLen (zad (eIxV 0 (eC (.int 1))) aNil)) (mC dLen (zad (eIxV 0 (eC (.int 2))) aNil))))
def zb3:List D->Option Sl:=fP 2 zeb
theorem zk1 (h:FnAt K "numbers_many" zf0):FD P w K mg base 1 "numbers_many" (spP K 2 zb3):=
 fdP (N:=["line","kind"]) (k:=0) (m:=zeb) X G h fun _ _ _ _ _ _ _ hr nd=>(zaj (zat (zc4 (zns hr.units (zab 1) zdJ) (zdQ bn.len' (zaa (zai 0 zag) zae)) (zdQ bn.len' (zaa (zai 0 zag) zae)))))
abbrev zjV:Stmt:=top 64
def zh1:MS:=
 (sRet (eTup (zad (eVar 4) (zad (eVar 3) (zad (eIf (tTru (m2 dEq (eVar 2) (eC (.str "sum")))) (m1 dNeg (m2 dIx (eIxV 0 (eC (.int 1))) (eVar 3))) (m1 dNeg (m2 dIx (eIxV 0 (eC (.int 3))) (eVar 3)))) aNil)))))
def zig:MS:=
 (sSeq (sSet 2 (eIxV 1 (eC (.int 0))))
  (sSeq (sSet 3 (eIxV 1 (eC (.int 1))))
  (sSeq (sSet 4 (m2 dAdd (eVar 3) (eIf (tTru (m2 dEq (eVar 2) (eC (.str "sum")))) (eIxV 0 (eC (.int 0))) (eC (.int 1)))))
  (sSeq (sIf (tTru (eIxV 1 (eC (.int 2))))
  (sRet (eTup (zad (eVar 3) (zad (eVar 4) (zad (eIf (tTru (m2 dEq (eVar 2) (eC (.str "sum")))) (m2 dIx (eIxV 0 (eC (.int 1))) (eVar 3)) (m2 dIx (eIxV 0 (eC (.int 2))) (eVar 3))) aNil)))))
  zb0)
  zh1))))
def zch:List D->Option Sl:=fP 5 zig
theorem znT (h:FnAt K "step_walk" zjV):FD P w K mg base 1 "step_walk" (spP K 2 zch):=
 fdP (N:=["line","step","kind","i","over"]) (k:=0) (m:=zig) X G h fun _ _ _ _ _ _ _ hr nd=>(zaf (zap 2 (zai 1 zag) nd)
  (zaf (zap 3 (zai 1 zag) nd)
  (zaf (zap 4 (zav (zab 3) (zc4 (zns hr.units (zab 2) zdJ) (zai 0 zag) zag)) nd)
  (zaf (zcd (zc2 (zai 1 zag))
  (zaj (zat (zaO (zaa (zab 3) (zaa (zab 4) (zaa (zc4 (zns hr.units (zab 2) zdJ) (zaA (zai 0 zag) (zab 3)) (zaA (zai 0 zag) (zab 3))) zae))))))
  zaM)
  (zaj (zat (zaO (zaa (zab 4) (zaa (zab 3) (zaa (zc4 (zns hr.units (zab 2) zdJ) (zex (zaA (zai 0 zag) (zab 3))) (zex (zaA (zai 0 zag) (zab 3)))) zae))))))))))
abbrev zkC:Stmt:=top 65
def ziN:ME:=
 (eTup (zad (eVar 0) (zad (eVar 1) (zad (eC (.bl true)) aNil))))
def zi9:MO:=
 oLC [1] 1 (iR1 (zad (eVar 2) aNil)) (gN 1) zbp ziN
def ziT:ME:=
 (eTup (zad (eVar 0) (zad (eVar 1) (zad (eC (.bl false)) aNil))))
def ziB:MO:=
 oLC [1] 1 (iR3N (zad (m2 dSub (eVar 2) (eC (.int 1))) (zad (m1 dNeg (eC (.int 1))) (zad (m1 dNeg (eC (.int 1))) aNil)))) (gN 1) zbp ziT
def zjA:MS:=
 (sSeq (sSet 2 (zas zb3 (zad (eVar 0) (zad (eVar 1) aNil))))
  (sRet (m2 dAdd (eFz zi9) (eFz ziB))))
def zco:List D->Option Sl:=fP 3 zjA
theorem zox (zdI:FD P w K mg base 1 "numbers_many" (spP K 2 zb3))(h:FnAt K "steps_of" zkC):FD P w K mg base 2 "steps_of" (spP K 2 zco):=
 fdP (N:=["line","kind","many"]) (k:=1) (m:=zjA) X G h fun _ _ _ _ _ _ _ hr nd=>(zaf (zap 2 (zam zdI hr (zaa (zab 0) (zaa (zab 1) zae)) (hlen:=(zac (zac zah)))) nd)
  (zaj (zat (zav (SO.se (zcE [1] 1 ["kind","i"] rfl (zaB bn.range' (zaa (zab 2) zae)) (fun C s H fp=>(zal 1 ndk)) (fun C s H fp=>zaC) (fun C s H fp=>(zaO (zaa (zab 0) (zaa (zab 1) (zaa zk0 zae))))))) (SO.se (zcE [1] 1 ["kind","i"] rfl (zp8 bn.range' (zaa (za1 (zab 2) zag) (zaa (zex zag) (zaa (zex zag) zae)))) (fun C s H fp=>(zal 1 ndk)) (fun C s H fp=>zaC) (fun C s H fp=>(zaO (zaa (zab 0) (zaa (zab 1) (zaa zk0 zae)))))))))))
abbrev zkF:Stmt:=top 66
def zi6:ME:=
 (zas zch (zad (eVar 0) (zad (eVar 1) aNil)))
def ziG:MO:=
 oLC [0] 1 (iSeq (zas zco (zad (eVar 0) (zad (eVar 1) aNil)))) (gN 1) zbp zi6
def zjG:MS:=
 (zio ziG)
def zbP:List D->Option Sl:=fP 2 zjG
theorem zoc (zcl:FD P w K mg base 1 "step_walk" (spP K 2 zch))(zcb:FD P w K mg base 2 "steps_of" (spP K 2 zco))(h:FnAt K "walks_of" zkF):FD P w K mg base 3 "walks_of" (spP K 2 zbP):=
 fdP (N:=["line","kind"]) (k:=2) (m:=zjG) X G h fun _ _ _ _ _ _ _ hr nd=>(zaj (zcS (zcE [0] 1 ["line","step"] rfl (zbA (zam zcb hr (zaa (zab 0) (zaa (zab 1) zae)) (hlen:=(zac (zac zah))))) (fun C s H fp=>(zal 1 ndk)) (fun C s H fp=>zaC) (fun C s H fp=>(zam zcl hr (zaa (zab 0) (zaa (zab 1) zae)) (hlen:=(zac (zac zah))))))))
abbrev zlL:Stmt:=top 67
def zkJ:MS:=
 (sRet (eIf (tTru (m2 dIsN (eVar 0) (eC .non))) (eVar 1) (mC (d2I max2) (zad (eVar 0) (zad (eVar 1) aNil)))))
def zeH:List D->Option Sl:=fP 2 zkJ
theorem zqb (h:FnAt K "more_of" zlL):FD P w K mg base 1 "more_of" (spP K 2 zeH):=
 fdP (N:=["asks","other"]) (k:=0) (m:=zkJ) X G h fun _ _ _ _ _ _ _ hr nd=>(zaj (zat (zc4 (st_is (zab 0) zeN) (zab 1) (zlZ rfl bn.max' (zaa (zab 0) (zaa (zab 1) zae))))))
abbrev ziW:Stmt:=top 68
def zhh:MS:=
 (sPut 3 (eVar 5) (zas zeH (zad (eIxV 3 (eVar 5)) (zad (m2 dAdd (eIxV 2 (eVar 4)) (eVar 6)) aNil))))
def zdO:MS:=
 sFor (iSeq (eVar 0)) (gT 3 (zaq (gN 4) (zaq (gN 5) (zaq (gN 6) zbH)))) zhh
def zdR:MS:=
 (sPut 3 (eVar 5) (zas zeH (zad (eIxV 3 (eVar 5)) (zad (m2 dAdd (eIxV 3 (eVar 4)) (eVar 6)) aNil))))
def zdD:MS:=
 sFor (iSeq (eVar 1)) (gT 3 (zaq (gN 4) (zaq (gN 5) (zaq (gN 6) zbH)))) zdR
def zge:MS:=
 (sSeq (zhx 3 (oRep (eFz (oLst (zad (eC .non) aNil))) (zdf 2)))
  (sSeq zdO
  (sSeq zdD
  (zgX 3))))
def zc5:List D->Option Sl:=fP 7 zge
theorem zmB (zhv:FD P w K mg base 1 "more_of" (spP K 2 zeH))(h:FnAt K "one_sum_on" ziW):FD P w K mg base 2 "one_sum_on" (spP K 3 zc5):=
 fdP (N:=["sum_walks","place_walks","asks","grown","start","end","ask"]) (k:=1) (m:=zge) X G h fun _ _ _ _ _ _ _ hr nd=>(zaf (zcv 3 (zpW (SO.se (zbr (zaa zeN zae))) (za2 2 bn.len')) nd)
  (zaf (zbj qcH rfl (zbA (zab 0)) (zaX rfl (zan (zal 4 nd) (zan (zal 5 nd) (zan (zal 6 nd) zaG))))
  (zaj (zkR 3 (zam zhv hr (zaa (zai 3 (zab 5)) (zaa (zav (zai 2 (zab 4)) (zab 6)) zae)) (hlen:=(zac (zac zah)))) (zab 5))))
  (zaf (zbj qcH rfl (zbA (zab 1)) (zaX rfl (zan (zal 4 nd) (zan (zal 5 nd) (zan (zal 6 nd) zaG))))
  (zaj (zkR 3 (zam zhv hr (zaa (zai 3 (zab 5)) (zaa (zav (zai 3 (zab 4)) (zab 6)) zae)) (hlen:=(zac (zac zah)))) (zab 5))))
  (zaj (zcL 3)))))
abbrev zjc:Stmt:=top 69
def zgH:ME:=
 (m1 dNeg (m2 dDiv (m2 dSub (m2 dIx (eIxV 0 (eVar 3)) (eVar 1)) (m2 dIx (eIxV 0 (m1 dNeg (eC (.int 1)))) (eVar 1))) (m2 dSub (eVar 2) (eVar 3))))
def zgL:MO:=
 oLC [0,1,2] 1 (iR1 (zad (eVar 2) aNil)) (gN 3) zbp zgH
def zgj:MS:=
 (sSeq (sSet 2 (m2 dSub (zdf 0) (eC (.int 1))))
  (sRet (mC zlT (zad (eFz zgL) aNil))))
def zbD:List D->Option Sl:=fP 3 zgj
theorem zl5 (h:FnAt K "least_mean" zjc):FD P w K mg base 1 "least_mean" (spP K 2 zbD):=
 fdP (N:=["layers","cut","longest"]) (k:=0) (m:=zgj) X G h fun _ _ _ _ _ _ _ hr nd=>(zaf (zap 2 (za1 (za2 0 bn.len') zag) nd)
  (zaj (zat (zsr rfl bn.min' (zaa (SO.se (zcE [0,1,2] 1 ["layers","cut","longest","j"] rfl (zaB bn.range' (zaa (zab 2) zae)) (fun C s H fp=>(zal 3 ndk)) (fun C s H fp=>zaC) (fun C s H fp=>(zex (znr (za1 (zaA (zai 0 (zab 3)) (zab 1)) (zaA (zai 0 (zex zag)) (zab 1))) (za1 (zab 2) (zab 3))))))) zae)))))
abbrev zjU:Stmt:=top 70
def zhD:MS:=
 (sApp 4 (zas zc5 (zad (eVar 1) (zad (eVar 2) (zad (eIxV 4 (m1 dNeg (eC (.int 1)))) aNil)))))
def zh7:MS:=
 sFor (iR1 (zad (eVar 3) aNil)) (gN 5) zhD
def zhQ:ME:=
 (zas zbD (zad (eVar 0) (zad (eVar 1) aNil)))
def zhS:MO:=
 oLC [4] 1 (iR1 (zad (eVar 3) aNil)) (gN 1) zbp zhQ
def zh9:MS:=
 (sSeq (sSet 1 (zas zbP (zad (eVar 0) (zad (eC (.str "sum")) aNil))))
  (sSeq (sSet 2 (zas zbP (zad (eVar 0) (zad (eC (.str "place")) aNil))))
  (sSeq (sSet 3 (m2 dAdd (mC dLen (zad (eIxV 0 (eC (.int 2))) aNil)) (eC (.int 1))))
  (sSeq (zhx 4 (oLst (zad (m2 dMul (eFz (oLst (zad (eC (.int 0)) aNil))) (eVar 3)) aNil)))
  (sSeq zh7
  (sRet (mC zmu (zad (eFz zhS) aNil))))))))
def zdB:List D->Option Sl:=fP 6 zh9
theorem zne (zfg:FD P w K mg base 1 "least_mean" (spP K 2 zbD))(ze6:FD P w K mg base 2 "one_sum_on" (spP K 3 zc5))(zbJ:FD P w K mg base 3 "walks_of" (spP K 2 zbP))(h:FnAt K "least_far" zjU):FD P w K mg base 4 "least_far" (spP K 1 zdB):=
 fdP (N:=["line","sum_walks","place_walks","cuts","layers","turn"]) (k:=3) (m:=zh9) X G h fun _ _ _ _ _ _ _ hr nd=>(zaf (zap 1 (zam zbJ hr (zaa (zab 0) (zaa zdJ zae)) (hlen:=(zac (zac zah)))) nd)
  (zaf (zap 2 (zam zbJ hr (zaa (zab 0) (zaa zdJ zae)) (hlen := (zac (zac zah)))) nd)
  (zaf (zap 3 (zav (zdQ bn.len' (zaa (zai 0 zag) zae)) zag) nd)
  (zaf (zcv 4 (zbr (zaa (zcz (SO.se (zbr (zaa zag zae))) (zab 3)) zae)) nd)
  (zaf (zbj qcH rfl (zaB bn.range' (zaa (zab 3) zae)) (zal 5 nd)
  (zaj (zg9 4 (zam ze6 hr (zaa (zab 1) (zaa (zab 2) (zaa (zai 4 (zex zag)) zae))) (hlen:=(zac (zac (zac zah))))))))
  (zaj (zat (zrm rfl bn.max' (zaa (SO.se (zcE [4] 1 ["layers","cut"] rfl (zaB bn.range' (zaa (zab 3) zae)) (fun C s H fp=>(zal 1 ndk)) (fun C s H fp=>zaC) (fun C s H fp=>(zam zfg hr (zaa (zab 0) (zaa (zab 1) zae)) (hlen:=(zac (zac zah))))))) zae)))))))))
abbrev zkH:Stmt:=top 71
def zi0:ME:=
 (eTup (zad (eVar 0) (zad (eVar 1) (zad (m1 dNeg (eVar 2)) aNil))))
def ziR:MO:=
 oLC [] 3 (iSeq (zas zbP (zad (eVar 0) (zad (eC (.str "place")) aNil)))) (gT 3 (zaq (gN 0) (zaq (gN 1) (zaq (gN 2) zbH)))) zbp zi0
def zi4:ME:=
 (eTup (zad (eVar 1) (zad (eVar 2) (zad (m2 dSub (eVar 0) (eVar 3)) aNil))))
def zi8:MO:=
 oLC [1] 3 (iSeq (zas zbP (zad (eVar 0) (zad (eC (.str "sum")) aNil)))) (gT 3 (zaq (gN 1) (zaq (gN 2) (zaq (gN 3) zbH)))) zbp zi4
def zjx:MS:=
 (sSeq (sSet 2 (eFz ziR))
  (sRet (m2 dAdd (eVar 2) (eFz zi8))))
def zcT:List D->Option Sl:=fP 3 zjx
theorem zoy (zbJ:FD P w K mg base 3 "walks_of" (spP K 2 zbP))(h:FnAt K "far_ties" zkH):FD P w K mg base 4 "far_ties" (spP K 2 zcT):=
 fdP (N:=["line","far","ties"]) (k:=3) (m:=zjx) X G h fun _ _ _ _ _ _ _ hr nd=>(zaf (zhb 2 [] 3 ["start","end","ask"] rfl (zbA (zam zbJ hr (zaa (zab 0) (zaa zdJ zae)) (hlen:=(zac (zac zah))))) (fun C s H fp=>(zaX rfl (zan (zal 0 ndk) (zan (zal 1 ndk) (zan (zal 2 ndk) zaG))))) (fun C s H fp=>zaC) (fun C s H fp=>(zaO (zaa (zab 0) (zaa (zab 1) (zaa (zex (zab 2)) zae))))) nd)
  (zaj (zat (zav (zab 2) (SO.se (zcE [1] 3 ["far","start","end","ask"] rfl (zbA (zam zbJ hr (zaa (zab 0) (zaa zdJ zae)) (hlen:=(zac (zac zah))))) (fun C s H fp=>(zaX rfl (zan (zal 1 ndk) (zan (zal 2 ndk) (zan (zal 3 ndk) zaG))))) (fun C s H fp=>zaC) (fun C s H fp=>(zaO (zaa (zab 1) (zaa (zab 2) (zaa (za1 (zab 0) (zab 3)) zae)))))))))))
abbrev ziy:Stmt:=top 72
def zgG:MS:=
 (sDPT 4 (eCut (zas zch (zad (eVar 0) (zad (eVar 5) aNil))) pNo (zbx (eC (.int 2)))) (eVar 5))
def zdu:MS:=
 sFor (iSeq (m2 dAdd (zas zco (zad (eVar 0) (zad (eC (.str "place")) aNil))) (zas zco (zad (eVar 0) (zad (eC (.str "sum")) aNil))))) (gN 5) zgG
def zf8:ME:=
 (eDGT 0 (eVar 1))
def zgn:MO:=
 oLC [4] 1 (iZ2 (zad (eVar 3) (zad (m2 dAdd (eCut (eVar 3) (zbx (eC (.int 1))) pNo) (eCut (eVar 3) pNo (zbx (eC (.int 1))))) aNil))) (gN 1) zbp zf8
def zgN:MS:=
 (sSeq (sSet 2 (zas zaP (zad (zas zcT (zad (eVar 0) (zad (eVar 1) aNil))) (zad (m2 dAdd (mC dLen (zad (eIxV 0 (eC (.int 2))) aNil)) (eC (.int 1))) (zad (eC (.int 0)) aNil)))))
  (sSeq (sSet 3 (zas zb1 (zad (eIxV 2 (eC (.int 1))) (zad (eIxV 2 (eC (.int 2))) aNil))))
  (sSeq (sDNT 4)
  (sSeq zdu
  (sFzDT 4 (zio zgn))))))
def zda:List D->Option Sl:=fP 6 zgN
theorem zl9 (zdA:FD P w K mg base 1 "falling_loop" (spP K 2 zb1))(zcO:FD P w K mg base 4 "far_ties" (spP K 2 zcT))(zaS:FD P w K mg base 1 "greatest_shifts" (spP K 3 zaP))(zcl:FD P w K mg base 1 "step_walk" (spP K 2 zch))(zcb:FD P w K mg base 2 "steps_of" (spP K 2 zco))(h:FnAt K "way_beyond" ziy):FD P w K mg base 5 "way_beyond" (spP K 2 zda):=
 fdP (N:=["line","far","found","cuts","steps","step"]) (k:=4) (m:=zgN) X G h fun _ _ _ _ _ _ _ hr nd=>(zaf (zap 2 (zam zaS hr (zaa (zam zcO hr (zaa (zab 0) (zaa (zab 1) zae)) (hlen:=(zac (zac zah)))) (zaa (zav (zdQ bn.len' (zaa (zai 0 zag) zae)) zag) (zaa zag zae))) (hlen:=(zac (zac (zac zah))))) nd)
  (zaf (zap 3 (zam zdA hr (zaa (zai 2 zag) (zaa (zai 2 zag) zae)) (hlen := (zac (zac zah)))) nd)
  (zaf (zpD 4 nd)
  (zaf (zbj qcH rfl (zbA (zav (zam zcb hr (zaa (zab 0) (zaa zdJ zae)) (hlen := (zac (zac zah)))) (zam zcb hr (zaa (zab 0) (zaa zdJ zae)) (hlen := (zac (zac zah)))))) (zal 5 nd)
  (zaj (zo1 4 hr.units (zab 5) (zcr (zam zcl hr (zaa (zab 0) (zaa (zab 5) zae)) (hlen:=(zac (zac zah)))) zeY (zaE zag)))))
  (zaj (ss_fzDT 4 (zcS (zcE [4] 1 ["steps","pair"] rfl (ziw bn.zip' (zaa (zab 3) (zaa (zav (zcr (zab 3) (zaE zag) zeY) (zcr (zab 3) zeY (zaE zag))) zae))) (fun C s H fp=>(zal 1 ndk)) (fun C s H fp=>zaC) (fun C s H fp=>(zi7 0 hr.units (zab 1)))))))))))
abbrev zkZ:Stmt:=top 73
def zjp:MS:=
 (sSeq (sSet 1 (zas zdB (zad (eVar 0) aNil)))
  (sSeq (sSet 2 (zas za9 (zad (zas zcT (zad (eVar 0) (zad (eVar 1) aNil))) (zad (mC dLen (zad (eIxV 0 (eC (.int 2))) aNil)) aNil))))
  (sRet (eTup (zad (eVar 1) (zad (eVar 2) (zad (eIf (tTru (m2 dEq (eVar 1) (eC (.int 0)))) (eC .non) (zas zda (zad (eVar 0) (zad (m2 dSub (eVar 1) (eC (.int 1))) aNil)))) aNil)))))))
def zct:List D->Option Sl:=fP 3 zjp
theorem zn8 (zcO:FD P w K mg base 4 "far_ties" (spP K 2 zcT))(zgt:FD P w K mg base 4 "least_far" (spP K 1 zdB))(zbu:FD P w K mg base 2 "row_by_cuts" (spP K 2 za9))(ze8:FD P w K mg base 5 "way_beyond" (spP K 2 zda))(h:FnAt K "line_off" zkZ):FD P w K mg base 6 "line_off" (spP K 1 zct):=
 fdP (N:=["line","far","row"]) (k:=5) (m:=zjp) X G h fun _ _ _ _ _ _ _ hr nd=>(zaf (zap 1 (zam zgt hr (zaa (zab 0) zae) (hlen:=(zac zah))) nd)
  (zaf (zap 2 (zam zbu hr (zaa (zam zcO hr (zaa (zab 0) (zaa (zab 1) zae)) (hlen := (zac (zac zah)))) (zaa (zdQ bn.len' (zaa (zai 0 zag) zae)) zae)) (hlen := (zac (zac zah)))) nd)
  (zaj (zat (zaO (zaa (zab 1) (zaa (zab 2) (zaa (zc4 (zns hr.units (zab 1) zag) zeN (zam ze8 hr (zaa (zab 0) (zaa (za1 (zab 1) zag) zae)) (hlen:=(zac (zac zah))))) zae))))))))
abbrev zhc:Stmt:=top 75
def zeg:MS:=
 (sRet (eTup (zad (eC (.int 2)) (zad (eCut (eIxV 0 (eC (.int 1))) (zbx (eVar 1)) (zbx (m2 dAdd (eVar 2) (eC (.int 1))))) (zad (eCut (eIxV 0 (eC (.int 2))) (zbx (eVar 1)) (zbx (m2 dAdd (eVar 2) (eC (.int 2))))) (zad (eCut (eIxV 0 (eC (.int 3))) (zbx (eVar 1)) (zbx (m2 dAdd (eVar 2) (eC (.int 2))))) aNil))))))
def zba:List D->Option Sl:=fP 3 zeg
theorem zkv (h:FnAt K "stretch_line" zhc):FD P w K mg base 1 "stretch_line" (spP K 3 zba):=
 fdP (N:=["line","a","b"]) (k:=0) (m:=zeg) X G h fun _ _ _ _ _ _ _ hr nd=>(zaj (zat (zaO (zaa zag (zaa (zcr (zai 0 zag) (zaE (zab 1)) (zaE (zav (zab 2) zag))) (zaa (zcr (zai 0 zag) (zaE (zab 1)) (zaE (zav (zab 2) zag))) (zaa (zcr (zai 0 zag) (zaE (zab 1)) (zaE (zav (zab 2) zag))) zae)))))))
abbrev zgz:Stmt:=top 76
def zd9:MS:=
 (sRet (m2 dIsN (zas zaK (zad (zas zba (zad (eVar 0) (zad (eVar 1) (zad (eVar 2) aNil)))) aNil)) (eC .non)))
def zb7:List D->Option Sl:=fP 3 zd9
theorem zkQ (zaZ:FD P w K mg base 3 "line_paper" (spP K 1 zaK))(zbf:FD P w K mg base 1 "stretch_line" (spP K 3 zba))(h:FnAt K "stretch_fits" zgz):FD P w K mg base 4 "stretch_fits" (spP K 3 zb7):=
 fdP (N:=["line","a","b"]) (k:=3) (m:=zd9) X G h fun _ _ _ _ _ _ _ hr nd=>(zaj (zat (se_is (zam zaZ hr (zaa (zam zbf hr (zaa (zab 0) (zaa (zab 1) (zaa (zab 2) zae))) (hlen:=(zac (zac (zac zah))))) zae) (hlen:=(zac zah))) zeN)))
abbrev zd1:Stmt:=top 77
def zdp:MS:=
 (sIf (zjq (tTru (zas zb7 (zad (eVar 0) (zad (eVar 2) (zad (eVar 3) aNil))))))
  (sSeq (sApp 1 (eTup (zad (eVar 2) (zad (eVar 3) aNil))))
  (sSet 2 (m2 dAdd (eVar 3) (eC (.int 1)))))
  zb0)
def zdk:MS:=
 sFor (iR1 (zad (mC dLen (zad (eIxV 0 (eC (.int 1))) aNil)) aNil)) (gN 3) zdp
def zcZ:MS:=
 (sSeq (zhx 1 (oLst aNil))
  (sSeq (sSet 2 (eC (.int 0)))
  (sSeq zdk
  (zgX 1))))
def zbc:List D->Option Sl:=fP 4 zcZ
theorem ziJ (zdv:FD P w K mg base 4 "stretch_fits" (spP K 3 zb7))(h:FnAt K "short_stretches" zd1):FD P w K mg base 5 "short_stretches" (spP K 1 zbc):=
 fdP (N:=["line","stretches","a","b"]) (k:=4) (m:=zcZ) X G h fun _ _ _ _ _ _ _ hr nd=>(zaf (zcv 1 (zbr zae) nd)
  (zaf (zap 2 zag nd)
  (zaf (zbj qcH rfl (zaB bn.range' (zaa (zdQ bn.len' (zaa (zai 0 zag) zae)) zae)) (zal 3 nd)
  (zaj (zcd (zgh (zc2 (zam zdv hr (zaa (zab 0) (zaa (zab 2) (zaa (zab 3) zae))) (hlen := (zac (zac (zac zah)))))))
  (zaf (zg9 1 (zaO (zaa (zab 2) (zaa (zab 3) zae))))
  (zaj (zap 2 (zav (zab 3) zag) nd)))
  zaM)))
  (zaj (zcL 1)))))
abbrev zkt:Stmt:=top 78
def ziP:MS:=
 (sRet (m2 dIx (zas zbl (zad (zas zba (zad (eVar 0) (zad (eVar 1) (zad (m2 dSub (eVar 2) (eC (.int 1))) aNil)))) aNil)) (eC (.int 1))))
def zjz:MS:=
 (sSeq (sIf (tTru (m2 dEq (eVar 1) (eVar 2)))
  (sRet (eCut (eIxV 0 (eC (.int 2))) (zbx (eVar 1)) (zbx (m2 dAdd (eVar 1) (eC (.int 1))))))
  zb0)
  ziP)
def zeZ:List D->Option Sl:=fP 3 zjz
theorem zoB (zbt:FD P w K mg base 4 "fitted_line" (spP K 1 zbl))(zbf:FD P w K mg base 1 "stretch_line" (spP K 3 zba))(h:FnAt K "part_row" zkt):FD P w K mg base 5 "part_row" (spP K 3 zeZ):=
 fdP (N:=["line","a","b"]) (k:=4) (m:=zjz) X G h fun _ _ _ _ _ _ _ hr nd=>(zaf (zcd (zns hr.units (zab 1) (zab 2))
  (zaj (zat (zcr (zai 0 zag) (zaE (zab 1)) (zaE (zav (zab 1) zag)))))
  zaM)
  (zaj (zat (zaA (zam zbt hr (zaa (zam zbf hr (zaa (zab 0) (zaa (zab 1) (zaa (za1 (zab 2) zag) zae))) (hlen:=(zac (zac (zac zah))))) zae) (hlen:=(zac zah))) zag))))
abbrev zhR:Stmt:=top 79
def zfW:MS:=
 (sSeq (sSet 2 (m2 dAdd (eVar 2) (zas zeZ (zad (eVar 0) (zad (eVar 3) (zad (eVar 4) aNil))))))
  (sSet 3 (m2 dAdd (eVar 4) (eC (.int 1)))))
def zfI:MS:=
 sFor (iSeq (m2 dAdd (eVar 1) (eTup (zad (mC dLen (zad (eIxV 0 (eC (.int 1))) aNil)) aNil)))) (gN 4) zfW
def zfj:MS:=
 (sSeq (sSet 2 (eTup aNil))
  (sSeq (sSet 3 (eC (.int 0)))
  (sSeq zfI
  (zgX 2))))
def zcu:List D->Option Sl:=fP 5 zfj
theorem zlc (zik:FD P w K mg base 5 "part_row" (spP K 3 zeZ))(h:FnAt K "row_without" zhR):FD P w K mg base 6 "row_without" (spP K 2 zcu):=
 fdP (N:=["line","wrong","row","a","b"]) (k:=5) (m:=zfj) X G h fun _ _ _ _ _ _ _ hr nd=>(zaf (zap 2 (zaO zae) nd)
  (zaf (zap 3 zag nd)
  (zaf (zbj qcH rfl (zbA (zav (zab 1) (zaO (zaa (zdQ bn.len' (zaa (zai 0 zag) zae)) zae)))) (zal 4 nd)
  (zaf (zap 2 (zav (zab 2) (zam zik hr (zaa (zab 0) (zaa (zab 3) (zaa (zab 4) zae))) (hlen := (zac (zac (zac zah)))))) nd)
  (zaj (zap 3 (zav (zab 4) zag) nd))))
  (zaj (zcL 2)))))
abbrev zi1:Stmt:=top 80
def zgK:ME:=
 (eVar 1)
def zhk:MO:=
 oLC [] 2 (iSeq (eVar 1)) (gT 2 (zaq (gN 0) (zaq (gN 1) zbH))) zbp zgK
def zgD:MS:=
 (sSeq (sSet 1 (zas zbc (zad (eVar 0) aNil)))
  (sSeq (sSet 2 (mC zck (zad (eFz zhk) aNil)))
  (sRet (eTup (zad (eVar 2) (zad (zas zcu (zad (eVar 0) (zad (eVar 2) aNil))) (zad (eVar 1) aNil)))))))
def zf4:MS:=
 (sSeq (sIf (tTru (m2 dNe (eIxV 0 (eC (.int 0))) (eC (.int 2))))
  (fun _=>none)
  zb0)
  zgD)
def zcn:List D->Option Sl:=fP 3 zf4
theorem zmU (zd4:FD P w K mg base 6 "row_without" (spP K 2 zcu))(zcH:FD P w K mg base 5 "short_stretches" (spP K 1 zbc))(h:FnAt K "twos_wrong" zi1):FD P w K mg base 7 "twos_wrong" (spP K 1 zcn):=
 fdP (N:=["line","stretches","wrong"]) (k:=6) (m:=zf4) X G h fun _ _ _ _ _ _ _ hr nd=>(zaf (zcd (znz hr.units (zai 0 zag) zag)
  (zaj zhq)
  zaM)
  (zaf (zap 1 (zam zcH hr (zaa (zab 0) zae) (hlen := (zac zah))) nd)
  (zaf (zap 2 (zb9 bn.tuple' (zaa (SO.se (zcE [] 2 ["a", "b"] rfl (zbA (zab 1)) (fun C s H fp => (zaX rfl (zan (zal 0 ndk) (zan (zal 1 ndk) zaG)))) (fun C s H fp => zaC) (fun C s H fp => (zab 1)))) zae)) nd)
  (zaj (zat (zaO (zaa (zab 2) (zaa (zam zd4 hr (zaa (zab 0) (zaa (zab 2) zae)) (hlen:=(zac (zac zah)))) (zaa (zab 1) zae)))))))))
abbrev zj4:Stmt:=top 82
def zhE:MS:=
 (sSeq (sSet 3 (m2 dMod (m2 dAdd (m2 dMul (eVar 3) (eC (.int 48271))) (eC (.int 12345))) (eC (.int 2147483647))))
  (sSet 4 (m2 dAdd (m2 dMul (eVar 4) (eC (.int 16777216))) (m2 dMod (m2 dDiv (m2 dMod (m2 dMul (eVar 3) (eVar 3)) (eC (.int 2147483629))) (eC (.int 64))) (eC (.int 16777216))))))
def zej:MS:=
 sFor (iR1 (zad (eC (.int 40)) aNil)) (gN 5) zhE
def zhL:MS:=
 (sSeq (sSet 3 (m2 dAdd (m2 dAdd (m2 dMod (eVar 2) (eC (.int 2147483629))) (m2 dMul (eC (.int 7919)) (eVar 1))) (eC (.int 1))))
  (sSeq (sSet 4 (eC (.int 0)))
  (sSeq zej
  (zio (oLst (zad (eVar 4) aNil))))))
def zd7:MS:=
 (sSeq (sIf (tTru (m2 dGe (eVar 2) (m2 dPow (eC (.int 10)) (eC (.int 18)))))
  (zio (oLst (zad (m2 dSub (eVar 2) (m2 dPow (eC (.int 10)) (eC (.int 18)))) aNil)))
  zb0)
  zhL)
def zih:MS:=
 (sSeq (sSet 2 (eC (.int 0)))
  (sSeq (sIf (tTru (m2 dLt (eVar 1) (zdf 0)))
  (sSet 2 (m2 dMod (eIxV 0 (eVar 1)) (m2 dMul (m2 dMul (m2 dMul (m2 dPow (eC (.int 10)) (eC (.int 60))) (m2 dPow (eC (.int 10)) (eC (.int 60)))) (m2 dPow (eC (.int 10)) (eC (.int 60)))) (m2 dPow (eC (.int 10)) (eC (.int 60))))))
  zb0)
  zd7))
def zdw:List D->Option Sl:=fP 6 zih
theorem znX (h:FnAt K "_law_deal" zj4):FD P w K mg base 1 "_law_deal" (spP K 2 zdw):=
 fdP (N:=["script","k","cell","seed","number","turn"]) (k:=0) (m:=zih) X G h fun _ _ _ _ _ _ _ hr nd=>(zaf (zap 2 zag nd)
  (zaf (zcd (zn7 (zab 1) (za2 0 bn.len'))
  (zaj (zap 2 (zj7 (zai 0 (zab 1)) (zcz (zcz (zcz (zj1 zag zag) (zj1 zag zag)) (zj1 zag zag)) (zj1 zag zag))) nd))
  zaM)
  (zaf (zcd (st_ge (zab 2) (zj1 zag zag))
  (zaj (zcS (zbr (zaa (za1 (zab 2) (zj1 zag zag)) zae))))
  zaM)
  (zaf (zap 3 (zav (zav (zj7 (zab 2) zag) (zcz zag (zab 1))) zag) nd)
  (zaf (zap 4 zag nd)
  (zaf (zbj qcH rfl (zaB bn.range' (zaa zag zae)) (zal 5 nd)
  (zaf (zap 3 (zj7 (zav (zcz (zab 3) zag) zag) zag) nd)
  (zaj (zap 4 (zav (zcz (zab 4) zag) (zj7 (znr (zj7 (zcz (zab 3) (zab 3)) zag) zag) zag)) nd))))
  (zaj (zcS (zbr (zaa (zab 4) zae))))))))))
abbrev zjT:Stmt:=top 83
def zin:MS:=
 (sSeq (sSet 2 (m2 dMod (eIxV 0 (eC (.int 0))) (eVar 1)))
  (sSeq (sPut 0 (eC (.int 0)) (m2 dDiv (eIxV 0 (eC (.int 0))) (eVar 1)))
  (zgX 2)))
def zau:List D->List D->Option (Sl×List D):=fM 3 zin
theorem znl (h:FnAt K "_law_take" zjT):FD P w K mg base 1 "_law_take" (spM K 2 zau):=
 fdM (N:=["pot","many","digit"]) (k:=0) (m:=zin) X G h fun _ _ _ _ _ _ _ hr nd=>(zaf (zap 2 (zj7 (zai 0 zag) (zab 1)) nd)
  (zaf (zkR 0 (znr (zai 0 zag) (zab 1)) zag)
  (zaj (zcL 2))))
abbrev zjO:Stmt:=top 84
def zhM:ME:=
 (eIxV 0 (m2 dAdd (eVar 1) (eVar 2)))
def zh4:MO:=
 oLC [0,3] 1 (iR1 (zad (eVar 1) aNil)) (gN 2) zbp zhM
def zee:MS:=
 (sApp 2 (mC dSum (zad (eFz zh4) aNil)))
def zhG:MS:=
 sFor (iR1 (zad (m2 dAdd (m2 dSub (zdf 0) (eVar 1)) (eC (.int 1))) aNil)) (gN 3) zee
def zii:MS:=
 (sSeq (zhx 2 (oLst aNil))
  (sSeq zhG
  (sRet (mC zck (zad (eVar 2) aNil)))))
def zcQ:List D->Option Sl:=fP 4 zii
theorem zmW (h:FnAt K "_law_sums" zjO):FD P w K mg base 1 "_law_sums" (spP K 2 zcQ):=
 fdP (N:=["row","k","told","at"]) (k:=0) (m:=zii) X G h fun _ _ _ _ _ _ _ hr nd=>(zaf (zcv 2 (zbr zae) nd)
  (zaf (zbj qcH rfl (zaB bn.range' (zaa (zav (za1 (za2 0 bn.len') (zab 1)) zag) zae)) (zal 3 nd)
  (zaj (zg9 2 (zdy rfl bn.sum' (zaa (SO.se (zcE [0,3] 1 ["row","at","j"] rfl (zaB bn.range' (zaa (zab 1) zae)) (fun C s H fp=>(zal 2 ndk)) (fun C s H fp=>zaC) (fun C s H fp=>(zai 0 (zav (zab 1) (zab 2)))))) zae)))))
  (zaj (zat (zb9 bn.tuple' (zaa (zab 2) zae))))))
abbrev zj2:Stmt:=top 85
def zhy:ME:=
 (m2 dIx (eFz (oLst (zad (eC (.int 1)) (zad (eC (.int 1000)) (zad (m2 dPow (eC (.int 10)) (eC (.int 30))) (zad (eVar 0) aNil)))))) (zbB zau 1 (zad (eC (.int 4)) aNil)))
def zhB:MO:=
 oLCM [5,0] 1 1 0 (iR1 (zad (eVar 4) aNil)) (gN 2) zbp zhy
def zhA:ME:=
 (m2 dMul (eVar 1) (m2 dSub (zbB zau 0 (zad (eC (.int 9)) aNil)) (eC (.int 4))))
def zhW:MO:=
 oLCM [0] 1 0 0 (iSeq (eVar 6)) (gN 1) zbp zhA
def zhH:ME:=
 (m2 dSub (eVar 2) (m2 dMul (zbB zau 0 (zad (eVar 1) aNil)) (eVar 3)))
def zhV:MO:=
 oLCM [0,3] 2 0 0 (iZ2 (zad (eVar 7) (zad (eVar 6) aNil))) (gT 2 (zaq (gN 2) (zaq (gN 3) zbH))) zbp zhH
def zhY:ME:=
 (m2 dAdd (eVar 2) (m2 dMul (zbB zau 0 (zad (eVar 1) aNil)) (eVar 3)))
def zh3:MO:=
 oLCM [0,3] 2 0 0 (iZ2 (zad (eVar 7) (zad (eVar 6) aNil))) (gT 2 (zaq (gN 2) (zaq (gN 3) zbH))) zbp zhY
def zek:MS:=
 (sSeq (sSet 12 (zbB zau 0 (zad (zdf 10) aNil)))
  (sPut 10 (eVar 12) (m2 dAdd (eIxV 10 (eVar 12)) (m2 dMul (m2 dSub (zbB zau 0 (zad (eC (.int 9)) aNil)) (eC (.int 4))) (m2 dIx (eFz (oLst (zad (eC (.int 1)) (zad (eIxV 6 (eVar 12)) aNil)))) (zbB zau 0 (zad (eC (.int 2)) aNil)))))))
def zhT:MS:=
 sFor (iR1 (zad (m2 dIx (eFz (oLst (zad (eC (.int 0)) (zad (eC (.int 1)) (zad (eC (.int 3)) (zad (zdf 10) aNil)))))) (zbB zau 0 (zad (eC (.int 4)) aNil))) aNil)) (gN 11) zek
def zep:MS:=
 (sSeq (sSet 7 (eFz zhW))
  (sSeq (sSet 8 (eFz zhV))
  (sSeq (sSet 9 (eFz zh3))
  (sSeq (zhx 10 (oC zaV (zad (zas zcQ (zad (eVar 7) (zad (eVar 1) aNil))) aNil)))
  (sSeq zhT
  (sRet (eTup (zad (eVar 1) (zad (mC zck (zad (eVar 10) aNil)) (zad (mC zck (zad (eVar 8) aNil)) (zad (mC zck (zad (eVar 9) aNil)) aNil)))))))))))
def zim:MS:=
 (sSeq (sSet 4 (m2 dAdd (eVar 1) (zbB zau 0 (zad (m2 dAdd (m2 dSub (eVar 2) (eVar 1)) (eC (.int 1))) aNil))))
  (sSeq (sSet 5 (m2 dIx (eFz (oLst (zad (eC (.int 1)) (zad (eC (.int 1)) (zad (eC (.int 1)) (zad (m2 dPow (eC (.int 10)) (eC (.int 57))) aNil)))))) (zbB zau 0 (zad (eC (.int 4)) aNil))))
  (sSeq (sSet 6 (m2 dMul (eFz (oLst (zad (eVar 5) aNil))) (eVar 4)))
  (sSeq (sIf (tTru (m2 dEq (zbB zau 0 (zad (eC (.int 4)) aNil)) (eC (.int 0))))
  (sSet 6 (eFz zhB))
  zb0)
  zep))))
def zcc:List D->List D->Option (Sl×List D):=fM 13 zim
theorem znF (zgC:FD P w K mg base 1 "_law_sums" (spP K 2 zcQ))(zar:FD P w K mg base 1 "_law_take" (spM K 2 zau))(h:FnAt K "_law_line" zj2):FD P w K mg base 2 "_law_line" (spM K 4 zcc):=
 fdM (N:=["pot","k","most","wide","many","great","scales","row","least","greatest","sums","turn","at"]) (k:=1) (m:=zim) X G h fun _ _ _ _ _ _ _ hr nd=>(zaf (zap 4 (zav (zab 1) (zaU 0 zar hr (zaa (zav (za1 (zab 2) (zab 1)) zag) zae) (zez (zac zah)))) nd)
  (zaf (zap 5 (zaA (SO.se (zbr (zaa zag (zaa zag (zaa zag (zaa (zj1 zag zag) zae)))))) (zaU 0 zar hr (zaa zag zae) (zez (zac zah)))) nd)
  (zaf (zap 6 (zcz (SO.se (zbr (zaa (zab 5) zae))) (zab 4)) nd)
  (zaf (zcd (zns hr.units (zaU 0 zar hr (zaa zag zae) (zez (zac zah))) zag)
  (zaj (zhs 6 [5,0] 1 1 0 ["great","pot","place"] rfl (zaB bn.range' (zaa (zab 4) zae)) (fun C s H fp=>(zal 2 ndk)) (fun C s H fp=>zaC) (fun C s H fp=>(zaA (SO.se (zbr (zaa zag (zaa zag (zaa (zj1 zag zag) (zaa (zab 0) zae)))))) (zaU 1 zar hr (zaa zag zae) (zez (zac zah))))) nd))
  zaM)
  (zaf (zhs 7 [0] 1 0 0 ["pot", "scale"] rfl (zbA (zab 6)) (fun C s H fp => (zal 1 ndk)) (fun C s H fp => zaC) (fun C s H fp => (zcz (zab 1) (za1 (zaU 0 zar hr (zaa zag zae) (zez (zac zah))) zag))) nd)
  (zaf (zhs 8 [0, 3] 2 0 0 ["pot", "wide", "number", "scale"] rfl (ziw bn.zip' (zaa (zab 7) (zaa (zab 6) zae))) (fun C s H fp => (zaX rfl (zan (zal 2 ndk) (zan (zal 3 ndk) zaG)))) (fun C s H fp => zaC) (fun C s H fp => (za1 (zab 2) (zcz (zaU 0 zar hr (zaa (zab 1) zae) (zez (zac zah))) (zab 3)))) nd)
  (zaf (zhs 9 [0, 3] 2 0 0 ["pot", "wide", "number", "scale"] rfl (ziw bn.zip' (zaa (zab 7) (zaa (zab 6) zae))) (fun C s H fp => (zaX rfl (zan (zal 2 ndk) (zan (zal 3 ndk) zaG)))) (fun C s H fp => zaC) (fun C s H fp => (zav (zab 2) (zcz (zaU 0 zar hr (zaa (zab 1) zae) (zez (zac zah))) (zab 3)))) nd)
  (zaf (zcv 10 (so_list bn.list' (zaa (zam zgC hr (zaa (zab 7) (zaa (zab 1) zae)) (hlen := (zac (zac zah)))) zae)) nd)
  (zaf (zbj qcH rfl (zaB bn.range' (zaa (zaA (SO.se (zbr (zaa zag (zaa zag (zaa zag (zaa (za2 10 bn.len') zae)))))) (zaU 0 zar hr (zaa zag zae) (zez (zac zah)))) zae)) (zal 11 nd)
  (zaf (zap 12 (zaU 0 zar hr (zaa (za2 10 bn.len') zae) (zez (zac zah))) nd)
  (zaj (zkR 10 (zav (zai 10 (zab 12)) (zcz (za1 (zaU 0 zar hr (zaa zag zae) (zez (zac zah))) zag) (zaA (SO.se (zbr (zaa zag (zaa (zai 6 (zab 12)) zae)))) (zaU 0 zar hr (zaa zag zae) (zez (zac zah)))))) (zab 12)))))
  (zaj (zat (zaO (zaa (zab 1) (zaa (zb9 bn.tuple' (zaa (zab 10) zae)) (zaa (zb9 bn.tuple' (zaa (zab 8) zae)) (zaa (zb9 bn.tuple' (zaa (zab 9) zae)) zae))))))))))))))))
abbrev zkP:Stmt:=top 86
def zjH:MS:=
 (zio (oLst (zad (mC dSum (zad (eCutZ (eVar 0) pNo pNo (zbx (eC (.int 2)))) aNil)) (zad (mC dSum (zad (eCutZ (eVar 0) (zbx (eC (.int 1))) pNo (zbx (eC (.int 2)))) aNil)) aNil))))
def zeW:List D->Option Sl:=fP 1 zjH
theorem zor (h:FnAt K "_law_two" zkP):FD P w K mg base 1 "_law_two" (spP K 1 zeW):=
 fdP (N:=["script"]) (k:=0) (m:=zjH) X G h fun _ _ _ _ _ _ _ hr nd=>(zaj (zcS (zbr (zaa (zdy rfl bn.sum' (zaa (zrx (zab 0) zeY zeY (zaE zag)) zae)) (zaa (zdy rfl bn.sum' (zaa (zrx (zab 0) (zaE zag) zeY (zaE zag)) zae)) zae)))))
abbrev zdZ:Stmt:=top 87
def zcR:MS:=
 (sRet (zbB zcc 0 (zad (m2 dAdd (eC (.int 2)) (zbB zau 0 (zad (eC (.int 4)) aNil))) (zad (eC (.int 12)) (zad (m2 dAdd (eC (.int 1)) (zbB zau 0 (zad (eC (.int 5)) aNil))) aNil)))))
def zbe:List D->List D->Option (Sl×List D):=fM 1 zcR
theorem zji (zcq:FD P w K mg base 2 "_law_line" (spM K 4 zcc))(zar:FD P w K mg base 1 "_law_take" (spM K 2 zau))(h:FnAt K "_law_short_line" zdZ):FD P w K mg base 3 "_law_short_line" (spM K 1 zbe):=
 fdM (N:=["pot"]) (k:=2) (m:=zcR) X G h fun _ _ _ _ _ _ _ hr nd=>(zaj (zat (zaU 0 zcq hr (zaa (zav zag (zaU 0 zar hr (zaa zag zae) (zez (zac zah)))) (zaa zag (zaa (zav zag (zaU 0 zar hr (zaa zag zae) (zez (zac zah)))) zae))) (zez (zac (zac (zac zah)))))))
abbrev zh8:Stmt:=top 88
def zfb:MS:=
 (sRet (zas zdN (zad (eIxV 0 (eC (.int 0))) (zad (zas zce (zad (eVar 1) (zad (eIxV 0 (eC (.int 0))) aNil))) (zad (eIxV 0 (eC (.int 2))) (zad (eIxV 0 (eC (.int 3))) aNil))))))
def zbO:List D->Option Sl:=fP 2 zfb
theorem zlf (zcp:FD P w K mg base 1 "line_sums" (spP K 2 zce))(zgl:FD P w K mg base 4 "made_line" (spP K 4 zdN))(h:FnAt K "_law_mended" zh8):FD P w K mg base 5 "_law_mended" (spP K 2 zbO):=
 fdP (N:=["line","row"]) (k:=4) (m:=zfb) X G h fun _ _ _ _ _ _ _ hr nd=>(zaj (zat (zam zgl hr (zaa (zai 0 zag) (zaa (zam zcp hr (zaa (zab 1) (zaa (zai 0 zag) zae)) (hlen:=(zac (zac zah)))) (zaa (zai 0 zag) (zaa (zai 0 zag) zae)))) (hlen:=(zac (zac (zac (zac zah))))))))
abbrev zeu:Stmt:=top 89
def zdT:MS:=
 (sRet (eAnd (m2 dEq (m2 dIx (zas za5 (zad (eVar 1) aNil)) (eC (.int 0))) (eC (.int 0))) (m2 dEq (m2 dIx (zas zct (zad (eVar 1) aNil)) (eC (.int 0))) (eC (.int 0)))))
def zdz:MS:=
 (sSeq (sSet 6 (zbB zau 0 (zad (zdf 2) aNil)))
  (sSeq (sAsg (zas zc6 (zad (eVar 1) (zad (eVar 6) aNil))) (gT 2 (zaq (gN 7) (zaq (gN 8) zbH))))
  (sSeq (sIf (zjq (tTru (zg6 dLe dLe (eIxV 7 (eVar 6)) (eIxV 2 (eVar 6)) (eIxV 8 (eVar 6)))))
  (sRet (eC (.bl false)))
  zb0)
  zdT)))
def zdP:MS:=
 (sSeq (sSet 5 (zas zcA (zad (eVar 1) (zad (eVar 2) aNil))))
  (sSeq (sIf (tOrM (zjq (tTru (zg6 dLe dLt (eC (.int 0)) (eVar 5) (zas zcg (zad (eVar 1) aNil))))) (tOrM (tTru (m2 dNe (zas zeU (zad (eVar 1) (zad (eVar 5) aNil))) (eVar 2))) (tTru (m2 dNe (zas zeU (zad (eVar 1) (zad (eC (.int 0)) aNil))) (eVar 4)))))
  (sRet (eC (.bl false)))
  zb0)
  zdz))
def zdh:MS:=
 (sSeq (sAsg (eCut (zas zbl (zad (eVar 1) aNil)) pNo (zbx (eC (.int 2)))) (gT 2 (zaq (gN 3) (zaq (gN 4) zbH))))
  (sSeq (sIf (tOrM (tTru (m2 dNe (eVar 3) (eC (.str "row")))) (tOrM (tTru (m2 dGtT (eVar 4) (eVar 2))) (zjq (tTru (zas zbF (zad (eVar 1) (zad (eVar 2) aNil)))))))
  (sRet (eC (.bl false)))
  zb0)
  zdP))
def za4:List D->List D->Option (Sl×List D):=fM 9 zdh
theorem zjw (zar:FD P w K mg base 1 "_law_take" (spM K 2 zau))(zbt:FD P w K mg base 4 "fitted_line" (spP K 1 zbl))(zhu:FD P w K mg base 6 "line_at" (spP K 2 zeU))(zbw:FD P w K mg base 4 "line_change" (spP K 1 za5))(zbV:FD P w K mg base 2 "line_holds" (spP K 2 zbF))(zcm:FD P w K mg base 4 "line_many" (spP K 1 zcg))(zem:FD P w K mg base 5 "line_number" (spP K 2 zcA))(zc0:FD P w K mg base 6 "line_off" (spP K 1 zct))(ze0:FD P w K mg base 5 "line_range" (spP K 2 zc6))(h:FnAt K "_law_fits_well" zeu):FD P w K mg base 7 "_law_fits_well" (spM K 3 za4):=
 fdM (N:=["pot","line","row","word","least","number","place","low","high"]) (k:=6) (m:=zdh) X G h fun _ _ _ _ _ _ _ hr nd=>(zaf (zsc (zcr (zam zbt hr (zaa (zab 1) zae) (hlen:=(zac zah))) zeY (zaE zag)) (zaX rfl (zan (zal 3 nd) (zan (zal 4 nd) zaG))))
  (zaf (zcd (STw.st (znA (znz hr.units (zab 3) zdJ) (znA (st_gtT hr.units (zab 4) (zab 2)) (zlD (zgh (zc2 (zam zbV hr (zaa (zab 1) (zaa (zab 2) zae)) (hlen := (zac (zac zah))))))))))
  (zaj (zat zk0))
  zaM)
  (zaf (zap 5 (zam zem hr (zaa (zab 1) (zaa (zab 2) zae)) (hlen := (zac (zac zah)))) nd)
  (zaf (zcd (STw.st (znA (zgh (zmK zk9 op_lt zcM zcM zks zag (zab 5) (zam zcm hr (zaa (zab 1) zae) (hlen := (zac zah))))) (znA (znz hr.units (zam zhu hr (zaa (zab 1) (zaa (zab 5) zae)) (hlen := (zac (zac zah)))) (zab 2)) (zlD (znz hr.units (zam zhu hr (zaa (zab 1) (zaa zag zae)) (hlen := (zac (zac zah)))) (zab 4))))))
  (zaj (zat zk0))
  zaM)
  (zaf (zap 6 (zaU 0 zar hr (zaa (za2 2 bn.len') zae) (zez (zac zah))) nd)
  (zaf (zsc (zam ze0 hr (zaa (zab 1) (zaa (zab 6) zae)) (hlen := (zac (zac zah)))) (zaX rfl (zan (zal 7 nd) (zan (zal 8 nd) zaG))))
  (zaf (zcd (zgh (zmK zk9 zk9 zcM zcM zks (zai 7 (zab 6)) (zai 2 (zab 6)) (zai 8 (zab 6))))
  (zaj (zat zk0))
  zaM)
  (zaj (zat (zn0 (zsU hr.units (zaA (zam zbw hr (zaa (zab 1) zae) (hlen:=(zac zah))) zag) zag) (zp1 (zsU hr.units (zaA (zam zc0 hr (zaa (zab 1) zae) (hlen:=(zac zah))) zag) zag))))))))))))
abbrev znI:Stmt:=top 90
def zpE:MS:=
 (sIf (zjq (tTru (zbB za4 2 (zad (zas zbO (zad (eVar 3) (zad (eVar 5) aNil))) (zad (eVar 5) aNil)))))
  (sRet (eC (.bl false)))
  zb0)
def zpT:MS:=
 sFor (iSeq (eVar 4)) (gN 5) zpE
def zpp:ME:=
 (eVar 2)
def zo8:MT:=
 (tTru (m2 dNe (m2 dIx (eIxV 0 (eC (.int 1))) (eVar 2)) (m2 dIx (eIxV 1 (eC (.int 1))) (eVar 2))))
def zpq:MO:=
 oLC [9,6] 1 (iR1 (zad (mC dLen (zad (eIxV 6 (eC (.int 1))) aNil)) aNil)) (gN 2) zo8 zpp
def zo4:MS:=
 (sIf (tTru (m2 dGt (mC dLen (zad (eFz zpq) aNil)) (zdf 7)))
  (sRet (eC (.bl false)))
  zb0)
def zpB:MS:=
 (sSeq (zhx 2 (znR zdw (zad (zas zeW (zad (eVar 0) aNil)) (zad (eVar 1) aNil))))
  (sSeq (sSet 3 (zbB zbe 2 aNil))
  (sSeq (sSet 4 (eFz (oLst (zad (m2 dIx (zas za5 (zad (eVar 3) aNil)) (eC (.int 1))) (zad (m2 dIx (zas zct (zad (eVar 3) aNil)) (eC (.int 1))) aNil)))))
  (sSeq zpT
  (sSeq (sSet 6 (zbB zcc 2 (zad (eC (.int 2)) (zad (eC (.int 12)) (zad (m2 dAdd (eC (.int 1)) (zbB zau 2 (zad (eC (.int 4)) aNil))) aNil)))))
  (sSeq (sAsg (zas zcn (zad (eVar 6) aNil)) (gT 3 (zaq (gN 7) (zaq (gN 5) (zaq (gN 8) zbH)))))
  (sSeq (sSet 9 (zas zbO (zad (eVar 6) (zad (eVar 5) aNil))))
  (sSeq (sIf (tOrM (zjq (tTru (zbB za4 2 (zad (eVar 9) (zad (eVar 5) aNil))))) (tTru (m2 dNe (m2 dIx (zas zcn (zad (eVar 9) aNil)) (eC (.int 0))) (eTup aNil))))
  (sRet (eC (.bl false)))
  zb0)
  zo4))))))))
def zp3:MS:=
 sFor (iR1 (zad (eC (.int 2)) aNil)) (gN 1) zpB
def m_law:MS:=
 (sSeq zp3
  (sRet (eC (.bl true))))
def zmY:List D->Option Sl:=fP 10 m_law
theorem ok_law (zgk:FD P w K mg base 1 "_law_deal" (spP K 2 zdw))(zbW:FD P w K mg base 7 "_law_fits_well" (spM K 3 za4))(zcq:FD P w K mg base 2 "_law_line" (spM K 4 zcc))(zc1:FD P w K mg base 5 "_law_mended" (spP K 2 zbO))(zcJ:FD P w K mg base 3 "_law_short_line" (spM K 1 zbe))(zar:FD P w K mg base 1 "_law_take" (spM K 2 zau))(zif:FD P w K mg base 1 "_law_two" (spP K 1 zeW))(zbw:FD P w K mg base 4 "line_change" (spP K 1 za5))(zc0:FD P w K mg base 6 "line_off" (spP K 1 zct))(zds:FD P w K mg base 7 "twos_wrong" (spP K 1 zcn))(F:Fun K "law" "law" znI f fd):FnOk P w K mg base CX0 8 f fd ["script"] (spP K 1 zmY):=
 lawP (N:=["script","k","pot","line","rows","row","two","wrong","stretches","mended"]) (k:=7) (n:=1) (m:=m_law) F fun _ _ _ _ _ _ _ hr nd=>(zaf (zbj qcH rfl (zaB bn.range' (zaa zag zae)) (zal 1 nd)
  (zaf (zcv 2 (zjs zgk hr (zaa (zam zif hr (zaa (zab 0) zae) (hlen := (zac zah))) (zaa (zab 1) zae)) (hlen := (zac (zac zah)))) nd)
  (zaf (zap 3 (zaU 2 zcJ hr zae (zez zah)) nd)
  (zaf (zap 4 (SO.se (zbr (zaa (zaA (zam zbw hr (zaa (zab 3) zae) (hlen := (zac zah))) zag) (zaa (zaA (zam zc0 hr (zaa (zab 3) zae) (hlen := (zac zah))) zag) zae)))) nd)
  (zaf (zbj qcH rfl (zbA (zab 4)) (zal 5 nd)
  (zaj (zcd (zgh (zc2 (zaU 2 zbW hr (zaa (zam zc1 hr (zaa (zab 3) (zaa (zab 5) zae)) (hlen := (zac (zac zah)))) (zaa (zab 5) zae)) (zez (zac (zac zah))))))
  (zaj (zat zk0))
  zaM)))
  (zaf (zap 6 (zaU 2 zcq hr (zaa zag (zaa zag (zaa (zav zag (zaU 2 zar hr (zaa zag zae) (zez (zac zah)))) zae))) (zez (zac (zac (zac zah))))) nd)
  (zaf (zsc (zam zds hr (zaa (zab 6) zae) (hlen := (zac zah))) (zaX rfl (zan (zal 7 nd) (zan (zal 5 nd) (zan (zal 8 nd) zaG)))))
  (zaf (zap 9 (zam zc1 hr (zaa (zab 6) (zaa (zab 5) zae)) (hlen := (zac (zac zah)))) nd)
  (zaf (zcd (STw.st (znA (zgh (zc2 (zaU 2 zbW hr (zaa (zab 9) (zaa (zab 5) zae)) (zez (zac (zac zah)))))) (zlD (znz hr.units (zaA (zam zds hr (zaa (zab 9) zae) (hlen := (zac zah))) zag) (zaO zae)))))
  (zaj (zat zk0))
  zaM)
  (zaj (zcd (zoR (zdQ bn.len' (zaa (SO.se (zcE [9, 6] 1 ["mended", "two", "at"] rfl (zaB bn.range' (zaa (zdQ bn.len' (zaa (zai 6 zag) zae)) zae)) (fun C s H fp => (zal 2 ndk)) (fun C s H fp => (zrI (znz hr.units (zaA (zai 0 zag) (zab 2)) (zaA (zai 1 zag) (zab 2))))) (fun C s H fp => (zab 2)))) zae)) (za2 7 bn.len'))
  (zaj (zat zk0))
  zaM)))))))))))
  (zaj (zat zk0)))
end
set_option maxHeartbeats 0 in
theorem all_mk {l:W.OpenLaw}{w:World}{K:W.Frag}{h:Heap}{mg:Str->Option Value}{fa:Addr}(X:K.In h)(G:h.Ns mainGlobals mg)(hfa:mg "law"=some (.ref fa))
  (h1:FnAt K "line_sums" zjQ)
  (h2:FnAt K "row_within" zi5)
  (h3:FnAt K "bounds_right" zga)
  (h4:FnAt K "k_right" zlH)
  (h5:FnAt K "line_parts_right" zdL)
  (h6:FnAt K "made_line" zjM)
  (h7:FnAt K "line_holds" zix)
  (h8:FnAt K "greatest_shifts" zdY)
  (h9:FnAt K "falling_loop" zhl)
  (h10:FnAt K "place_counts" zgv)
  (h11:FnAt K "place_most" ziL)
  (h12:FnAt K "signs_worth" zh5)
  (h13:FnAt K "grown_worths" zhi)
  (h14:FnAt K "worthiest_signs" zd0)
  (h15:FnAt K "place_ties" ziK)
  (h16:FnAt K "row_by_cuts" zhC)
  (h17:FnAt K "signs_ties" zjh)
  (h18:FnAt K "line_change" zh6)
  (h19:FnAt K "less_mores" ziM)
  (h20:FnAt K "head_spans" zjk)
  (h21:FnAt K "row_by_heads" zgT)
  (h22:FnAt K "places_asking" zfJ)
  (h23:FnAt K "heads_paper" zhI)
  (h24:FnAt K "least_heads" zhN)
  (h25:FnAt K "head_ranges" zhX)
  (h26:FnAt K "part_ways" zjY)
  (h27:FnAt K "heads_many" zi2)
  (h28:FnAt K "heads_below" zhF)
  (h29:FnAt K "first_head" ziv)
  (h30:FnAt K "heads_at" zkU)
  (h31:FnAt K "heads_number" zgg)
  (h32:FnAt K "is_place" zkT)
  (h33:FnAt K "mores_of" zkM)
  (h34:FnAt K "low_asks" zkD)
  (h35:FnAt K "high_asks" zjW)
  (h36:FnAt K "rest_spans" ziF)
  (h37:FnAt K "row_of" znV)
  (h38:FnAt K "line_paper" ziE)
  (h39:FnAt K "fitted_line" zhO)
  (h40:FnAt K "fitting_spans" zfy)
  (h41:FnAt K "line_many" zjX)
  (h42:FnAt K "line_at" zlP)
  (h43:FnAt K "line_number" zh2)
  (h44:FnAt K "row_with_head" zfx)
  (h45:FnAt K "line_range" zi3)
  (h46:FnAt K "numbers_many" zf0)
  (h47:FnAt K "step_walk" zjV)
  (h48:FnAt K "steps_of" zkC)
  (h49:FnAt K "walks_of" zkF)
  (h50:FnAt K "more_of" zlL)
  (h51:FnAt K "one_sum_on" ziW)
  (h52:FnAt K "least_mean" zjc)
  (h53:FnAt K "least_far" zjU)
  (h54:FnAt K "far_ties" zkH)
  (h55:FnAt K "way_beyond" ziy)
  (h56:FnAt K "line_off" zkZ)
  (h57:FnAt K "stretch_line" zhc)
  (h58:FnAt K "stretch_fits" zgz)
  (h59:FnAt K "short_stretches" zd1)
  (h60:FnAt K "part_row" zkt)
  (h61:FnAt K "row_without" zhR)
  (h62:FnAt K "twos_wrong" zi1)
  (h63:FnAt K "_law_deal" zj4)
  (h64:FnAt K "_law_take" zjT)
  (h65:FnAt K "_law_sums" zjO)
  (h66:FnAt K "_law_line" zj2)
  (h67:FnAt K "_law_two" zkP)
  (h68:FnAt K "_law_short_line" zdZ)
  (h69:FnAt K "_law_mended" zh8)
  (h70:FnAt K "_law_fits_well" zeu)
  (h71:FnAt K "law" znI)
  {ty0:Tok}
  (z0:W.nsIn K mainGlobals "all"=some none) (z1:W.nsIn K mainGlobals "any"=some none) (z2:W.nsIn K mainGlobals "enumerate"=some none) (z3:W.nsIn K mainGlobals "len"=some none) (z4:W.nsIn K mainGlobals "list"=some none) (z5:W.nsIn K mainGlobals "max"=some none) (z6:W.nsIn K mainGlobals "min"=some none) (z7:W.nsIn K mainGlobals "range"=some none) (z8:W.nsIn K mainGlobals "sum"=some none) (z9:W.nsIn K mainGlobals "tuple"=some none) (z10:W.nsIn K mainGlobals "zip"=some none) (y0:W.nsIn K mainGlobals "MOST_PLACES"=some (some (.int 24 ty0))) {zn9:Addr} (zou:W.nsIn K mainGlobals "SIGNS"=some (some (.ref zn9))) {od_SIGNS:Option Addr} {sl_SIGNS:Array (Option Value)} {m_SIGNS:Nat} {tk0_SIGNS tk1_SIGNS tk2_SIGNS:Tok} (zl3:K.lookup zn9=some ⟨.type "tuple",od_SIGNS,.seq #[.int (-1) tk0_SIGNS,.int (0) tk1_SIGNS,.int (1) tk2_SIGNS] m_SIGNS,sl_SIGNS⟩):
  ∃fd:FuncData,(∀(s:Shared) (v:Value),BindsTo s fd ⟨[v],[]⟩ [("script",v)])/\∀base:Heap,K.In base->base.Ns mainGlobals mg->FnOk l.prog w K mg base CX0 8 fa fd ["script"] (spP K 1 zmY):=by
 have bn:BN K mg:=⟨qcI X G z0,qcI X G z1,qcI X G z2,qcI X G z3,qcI X G z4,qcI X G z5,qcI X G z6,qcI X G z7,qcI X G z8,qcI X G z9,qcI X G z10,⟨_,W.mg_of X G y0⟩,⟨zn9,W.mg_of X G zou,fun _=> .inr ⟨_,_,_,zl3,rfl,rfl,show 3<=sizeLine by decide,(.cons ⟨_,rfl⟩ (.cons ⟨_,rfl⟩ (.cons ⟨_,rfl⟩ .nil)))⟩⟩⟩;obtain⟨a,b,c,d,e,f,T⟩:=h71.law X G hfa;refine⟨W.fnOf "law" "law" (zgP znI) (zde znI) (zaT znI) .none a b c d e f,fun s v=> .of_eq rfl,fun base _ _=>?_⟩;have zcp:=zm6 (P:=l.prog) (w:=w) (base:=base) X G bn h1;have zbY:=zmv (P:=l.prog) (w:=w) (base:=base) X G bn h2;have zdK:=zku (P:=l.prog) (w:=w) (base:=base) X G bn zbY h3;have zju:=zqq (P:=l.prog) (w:=w) (base:=base) X G bn h4;have zcf:=zis (P:=l.prog) (w:=w) (base:=base) X G bn zdK zju h5;have zgl:=zmV (P:=l.prog) (w:=w) (base:=base) X G bn zcf h6;have zbV:=zmS (P:=l.prog) (w:=w) (base:=base) X G bn zcp zbY h7;have zaS:=zjg (P:=l.prog) (w:=w) (base:=base) X G bn h8;have zdA:=zkS (P:=l.prog) (w:=w) (base:=base) X G bn h9;have zbd:=zkB (P:=l.prog) (w:=w) (base:=base) X G bn h10;have zbR:=zmL (P:=l.prog) (w:=w) (base:=base) X G bn h11;have zeo:=zli (P:=l.prog) (w:=w) (base:=base) X G bn zbd zbR h12;have zdE:=zkA (P:=l.prog) (w:=w) (base:=base) X G bn zbR h13;have zcB:=ziI (P:=l.prog) (w:=w) (base:=base) X G bn zdE h14;have ze4:=zmC (P:=l.prog) (w:=w) (base:=base) X G bn h15;have zbu:=zll (P:=l.prog) (w:=w) (base:=base) X G bn zaS h16;have zfm:=zmD (P:=l.prog) (w:=w) (base:=base) X G bn zbd ze4 h17;have zbw:=zlg (P:=l.prog) (w:=w) (base:=base) X G bn zbu zfm zeo zcB h18;have zbX:=zl7 (P:=l.prog) (w:=w) (base:=base) X G bn h19;have zbT:=zmH (P:=l.prog) (w:=w) (base:=base) X G bn h20;have zdS:=zla (P:=l.prog) (w:=w) (base:=base) X G bn h21;have zb8:=zkc (P:=l.prog) (w:=w) (base:=base) X G bn h22;have zef:=zlq (P:=l.prog) (w:=w) (base:=base) X G bn zbT zb8 h23;have zbv:=zlk (P:=l.prog) (w:=w) (base:=base) X G bn h24;have zel:=zln (P:=l.prog) (w:=w) (base:=base) X G bn h25;have zgE:=znP (P:=l.prog) (w:=w) (base:=base) X G bn h26;have zbQ:=zlY (P:=l.prog) (w:=w) (base:=base) X G bn zgE h27;have zaQ:=zlo (P:=l.prog) (w:=w) (base:=base) X G bn zbQ h28;have ze7:=zmg (P:=l.prog) (w:=w) (base:=base) X G bn zaQ h29;have ziq:=zoG (P:=l.prog) (w:=w) (base:=base) X G bn ze7 zaQ h30;have zdx:=zk5 (P:=l.prog) (w:=w) (base:=base) X G bn zaQ h31;have zid:=zoq (P:=l.prog) (w:=w) (base:=base) X G bn h32;have zbk:=zot (P:=l.prog) (w:=w) (base:=base) X G bn h33;have zcU:=zn6 (P:=l.prog) (w:=w) (base:=base) X G bn zbX zbk h34;have zcs:=zm8 (P:=l.prog) (w:=w) (base:=base) X G bn zbX zbk h35;have zaz:=zmo (P:=l.prog) (w:=w) (base:=base) X G bn zbT zcs zcU h36;have zcx:=zri (P:=l.prog) (w:=w) (base:=base) X G bn zbk zdS h37;have zaZ:=zmR (P:=l.prog) (w:=w) (base:=base) X G bn zef zcs zcU h38;have zbt:=zle (P:=l.prog) (w:=w) (base:=base) X G bn zbv zaZ zaz zcx h39;have zdg:=zj9 (P:=l.prog) (w:=w) (base:=base) X G bn zaZ zaz h40;have zcm:=znY (P:=l.prog) (w:=w) (base:=base) X G bn zbQ zaz h41
 have zhu:=zqk (P:=l.prog) (w:=w) (base:=base) X G bn ziq zcm zaz zcx h42;have zem:=zlm (P:=l.prog) (w:=w) (base:=base) X G bn zdx zbV zaz h43;have zca:=zka (P:=l.prog) (w:=w) (base:=base) X G bn zbv zcx h44;have ze0:=zmf (P:=l.prog) (w:=w) (base:=base) X G bn zdg zel zid zca h45;have zdI:=zk1 (P:=l.prog) (w:=w) (base:=base) X G bn h46;have zcl:=znT (P:=l.prog) (w:=w) (base:=base) X G bn h47;have zcb:=zox (P:=l.prog) (w:=w) (base:=base) X G bn zdI h48;have zbJ:=zoc (P:=l.prog) (w:=w) (base:=base) X G bn zcl zcb h49;have zhv:=zqb (P:=l.prog) (w:=w) (base:=base) X G bn h50;have ze6:=zmB (P:=l.prog) (w:=w) (base:=base) X G bn zhv h51;have zfg:=zl5 (P:=l.prog) (w:=w) (base:=base) X G bn h52;have zgt:=zne (P:=l.prog) (w:=w) (base:=base) X G bn zfg ze6 zbJ h53;have zcO:=zoy (P:=l.prog) (w:=w) (base:=base) X G bn zbJ h54;have ze8:=zl9 (P:=l.prog) (w:=w) (base:=base) X G bn zdA zcO zaS zcl zcb h55;have zc0:=zn8 (P:=l.prog) (w:=w) (base:=base) X G bn zcO zgt zbu ze8 h56;have zbf:=zkv (P:=l.prog) (w:=w) (base:=base) X G bn h57;have zdv:=zkQ (P:=l.prog) (w:=w) (base:=base) X G bn zaZ zbf h58;have zcH:=ziJ (P:=l.prog) (w:=w) (base:=base) X G bn zdv h59;have zik:=zoB (P:=l.prog) (w:=w) (base:=base) X G bn zbt zbf h60;have zd4:=zlc (P:=l.prog) (w:=w) (base:=base) X G bn zik h61;have zds:=zmU (P:=l.prog) (w:=w) (base:=base) X G bn zd4 zcH h62;have zgk:=znX (P:=l.prog) (w:=w) (base:=base) X G bn h63;have zar:=znl (P:=l.prog) (w:=w) (base:=base) X G bn h64;have zgC:=zmW (P:=l.prog) (w:=w) (base:=base) X G bn h65;have zcq:=znF (P:=l.prog) (w:=w) (base:=base) X G bn zgC zar h66;have zif:=zor (P:=l.prog) (w:=w) (base:=base) X G bn h67;have zcJ:=zji (P:=l.prog) (w:=w) (base:=base) X G bn zcq zar h68;have zc1:=zlf (P:=l.prog) (w:=w) (base:=base) X G bn zcp zgl h69;have zbW:=zjw (P:=l.prog) (w:=w) (base:=base) X G bn zar zbt zhu zbw zbV zcm zem zc0 ze0 h70;exact ok_law X G bn zgk zbW zcq zc1 zcJ zar zif zbw zc0 zds T
theorem walk {l:W.OpenLaw}{q:Program}{loose:List Str}{XP:(Str->Option Value)->Heap->Prop}{YP:World->Heap->Prop}{d:DefRec}{K:Params->W.Frag}(hn:l.most=some 63)(hdf:d.params.defaults=[])
  (hm:∀ns:List Int,ns.length<=63->zmY [.scr ns]=some (.val (.bl true)))
  (hY:∀(w:World) (h:Heap),YP w h->(K w.params).In h)
  (F : ∀ (w : World) (mg : Str -> Option Value) (fa : Addr) (h : Heap), (K w.params).In h -> h.Ns mainGlobals mg -> mg d.name = some (.ref fa) ->
   ∃fd:FuncData,(∀(s:Shared) (u:Value),BindsTo s fd ⟨[u],[]⟩ [("script",u)])/\∀base:Heap,(K w.params).In base->base.Ns mainGlobals mg->FnOk l.prog w (K w.params) mg base CX0 8 fa fd ["script"] (spP (K w.params) 1 zmY)):
  W.WalkO q loose XP YP l.row.toRowW d [] (fun f vs=>PySem.call f vs):=
 L2.walk_of (n:=63) (k:=8) (x:="script") (CX:=fun _=>CX0) (sp:=fun w=>spP (K w.params) 1 zmY) hn (by decide) hdf ⟨rfl,by decide,by decide,rfl⟩ hY F
  (fun w H a ns hl _ hS=>⟨H,[.scr ns],.val (.bl true),hm ns hl,rfl,Fz.refl H,.cons ⟨a,rfl,hS⟩ .nil,fun _ _ _ _ _ _ _ rr=>rr⟩) fun _ _ _ _ _ z=>z
end Prf
set_option exponentiation.threshold 5000
namespace Prf
open L2 M PySem
variable {i j q s n v a c b N p k m e:Nat} {t y x number:Int} {d:Nat->Option Int} {u:Nat->Option Nat} {ts qs us:Nat->Nat} {o:Option Int} {S X L G g lo hi lo' hi' r h r':Nat->Int} {Q:Fl×R->Prop} {ds:List D} {w:List Int} {ks:List (List Int)} {F:Int->Int} {dr:D}
def ckf (m t j q:Nat):Nat:=if q<j then t*m+q+1 else t*m+q+1-m
def upf {α:Type}(f:Nat->α)(i:Nat)(x:α):Nat->α:=fun j=>if j=i then x else f j
theorem za8 {α:Type}(f:Nat->α)(i:Nat)(x:α):upf f i x i=x:=if_pos rfl
theorem zaI {α:Type}(f:Nat->α)(x:α)(h:j≠i):upf f i x j=f j:=if_neg h
section
variable {m n:Nat} {tl tu:Nat->Nat} {ta:Nat->Int}
def Kept (tl tu:Nat->Nat)(ta:Nat->Int)(d:Nat->Option Int)(q:Nat):Prop:=∀y,d (tu q)=some y->∃x,d (tl q)=some x/\x<=y+ta q
structure BI (m:Nat) (tl tu:Nat->Nat) (ta:Nat->Int) (s t j:Nat) (d:Nat->Option Int) (u:Nat->Option Nat) (ts:Nat->Nat):Prop where
 le:∀v,ts v<=t*m+j
 st:∃x,d s=some x
 inj:∀v w,0<ts v->ts v=ts w->v=w
 un:∀l,0<ts l->∃q,q<m/\tl q=l/\u l=some (tu q)/\∃x y,d l=some x/\d (tu q)=some y/\y+ta q<=x/\(ts l<ts (tu q)->y+ta q<x)/\(m<ts l->ts l+1<=ts (tu q)+m)
 ck:∀q,q<m->0<ckf m t j q->ckf m t j q<ts (tu q)\/Kept tl tu ta d q
theorem zmQ {t j q:Nat}(h:q≠j):ckf m t (j+1) q=ckf m t j q:=by
 unfold ckf
 by_cases z:q<j
 ·rw[if_pos z,if_pos (by lia)]
 ·rw[if_neg z,if_neg (by lia)]
theorem ckf_le {t j q:Nat}(hq:q<m):ckf m t j q<=t*m+j:=by
 unfold ckf
 split<;>lia
theorem BI.keep {s t j:Nat}(b:BI m tl tu ta s t j d u ts)(k:Kept tl tu ta d j):BI m tl tu ta s t (j+1) d u ts where
 le:=fun v=>by have:=b.le v;lia
 st:=b.st
 inj:=b.inj
 un:=b.un
 ck:=fun q hq h=>by
  by_cases e:q=j
  ·subst e;exact .inr k
  ·rw[zmQ e]at h ⊢;exact b.ck q hq h
theorem BI.change {s t j:Nat}(b:BI m tl tu ta s t j d u ts)(hj:j<m)(ne:tl j≠tu j)(hy:d (tu j)=some y)(hx:∀x,d (tl j)=some x->y+ta j<x):
  BI m tl tu ta s t (j+1) (upf d (tl j) (some (y+ta j))) (upf u (tl j) (some (tu j))) (upf ts (tl j) (t*m+j+1)) where
 le:=fun v=>by
  by_cases e:v=tl j
  ·rw[e,za8];lia
  ·rw[zaI _ _ e];have:=b.le v;lia
 st:=by
  obtain⟨x,h⟩:=b.st
  by_cases e:s=tl j
  ·exact⟨_,by rw[e,za8]⟩
  ·exact⟨x,by rw[zaI _ _ e];exact h⟩
 inj:=fun v w h e=>by
  have lv:=b.le v;have lw:=b.le w
  by_cases ev:v=tl j
  ·by_cases ew:w=tl j
   ·rw[ev,ew]
   ·rw[ev,za8,zaI _ _ ew]at e;lia
  ·by_cases ew:w=tl j
   ·rw[ew,za8,zaI _ _ ev]at e;lia
   ·rw[zaI _ _ ev]at h e;rw[zaI _ _ ew]at e;exact b.inj v w h e
 un:=fun l h=>by
  by_cases e:l=tl j
  ·subst e;refine⟨j,hj,rfl,za8 _ _ _,y+ta j,y,za8 _ _ _,by rw[zaI _ _ ne.symm];exact hy,qcB _,fun z=>?_,fun z=>?_⟩
   ·rw[za8,zaI _ _ ne.symm]at z;have:=b.le (tu j);lia
   ·rw[za8]at z ⊢;rw[zaI _ _ ne.symm];have e1:ckf m t j j=t*m+j+1-m:=by unfold ckf;rw[if_neg (by lia)]
    rcases b.ck j hj (by rw[e1];lia)with c|c
    ·rw[e1]at c;lia
    ·obtain⟨x,h1,h2⟩:=c y hy;have:=hx x h1;lia
  ·rw[zaI _ _ e]at h;obtain⟨q,hq,eq,eu,x,y',h1,h2,h3,h4,h5⟩:=b.un l h;refine⟨q,hq,eq,by rw[zaI _ _ e];exact eu,?_⟩
   by_cases z:tu q=tl j
   ·have lt:=hx y' (by rw[<-z];exact h2);refine⟨x,y+ta j,by rw[zaI _ _ e];exact h1,by rw[z,za8],by lia,fun _=>by lia,fun g=>?_⟩;rw[zaI _ _ e]at g ⊢;have:=h5 g;have:=b.le (tu q);rw[z,za8];lia
   ·refine⟨x,y',by rw[zaI _ _ e];exact h1,by rw[zaI _ _ z];exact h2,h3,fun g=>?_,fun g=>?_⟩
    ·rw[zaI _ _ e,zaI _ _ z]at g;exact h4 g
    ·rw[zaI _ _ e]at g ⊢;rw[zaI _ _ z];exact h5 g
 ck:=fun q hq h=>by
  by_cases z:tu q=tl j
  ·by_cases e:q=j
   ·subst e;exact absurd z.symm ne
   ·left
    rw[zmQ e,z,za8];have:=ckf_le (t:=t) (j:=j) hq;lia
  ·have sat:Kept tl tu ta d q->Kept tl tu ta (upf d (tl j) (some (y+ta j))) q:=fun k y' hy'=>by
    rw[zaI _ _ z]at hy';obtain⟨x,h1,h2⟩:=k y' hy'
    by_cases g:tl q=tl j
    ·refine⟨y+ta j,by rw[g,za8],?_⟩;have:=hx x (by rw[<-g];exact h1);lia
    ·exact⟨x,by rw[zaI _ _ g];exact h1,h2⟩
   by_cases e:q=j
   ·subst e
    right
    intro y' hy';rw[zaI _ _ z,hy]at hy';cases hy';exact⟨_,za8 _ _ _,qcB _⟩
   ·rw[zmQ e]at h ⊢;rw[zaI _ _ z];exact(b.ck q hq h).imp id sat
theorem BI.turn {s t:Nat}(b:BI m tl tu ta s t m d u ts):BI m tl tu ta s (t+1) 0 d u ts where
 le:=fun v=>by have:=b.le v;rw[qcJ];lia
 st:=b.st
 inj:=b.inj
 un:=b.un
 ck:=fun q hq h=>by
  have e:ckf m (t+1) 0 q=ckf m t m q:=by
   unfold ckf;rw[if_neg (by lia),if_pos hq,qcJ];lia
  rw[e]at h ⊢;exact b.ck q hq h
theorem BI.start:BI m tl tu ta s 0 0 (fun v=>if v=s then some 0 else none) (fun _=>none) (fun _=>0) where
 le:=fun v=>by lia
 st:=⟨0,if_pos rfl⟩
 inj:=fun v w h=>by lia
 un:=fun l h=>by lia
 ck:=fun q hq h=>by
  unfold ckf at h;rw[if_neg (by lia)]at h;lia
theorem BI.kept {s t:Nat}(b:BI m tl tu ta s (t+1) 0 d u ts)(h:∀v,ts v<=t*m)(hq:q<m):Kept tl tu ta d q:=by
 have e:ckf m (t+1) 0 q=t*m+q+1:=by unfold ckf;rw[if_neg (by lia),qcJ];lia
 rcases b.ck q hq (by lia)with c|c
 ·have:=h (tu q);lia
 ·exact c
end
def back (u:Nat->Option Nat)(l:Nat):Nat->Nat
 |0=>l
 |i+1=>(u (back u l i)).getD 0
theorem zc3 (u:Nat->Option Nat)(l i:Nat):∀j,back u (back u l i) j=back u l (i+j)
 |0=>rfl
 |j+1=>by
  show(u (back u (back u l i) j)).getD 0=(u (back u l (i+j))).getD 0;rw[zc3 u l i j]
theorem fewN:∀(c:Nat) (ks:List Nat),ks.Nodup->(∀x,x∈ks->x<c)->ks.length<=c
 |0,[],_,_=>by simp
 |0,x::ks,_,h=>by have:=h x (by simp);lia
 |c+1,ks,nd,h=>by
  by_cases q:c∈ks
  ·have ih:=fewN c (ks.erase c) (nd.erase _) fun x hx=>by
    have hm:=(nd.mem_erase_iff).mp hx;have:=h x hm.2;have:=hm.1;lia
   rw[List.length_erase_of_mem q]at ih;lia
  ·have:=fewN c ks nd fun x hx=>by
    have:=h x hx;have:x≠c:=fun z=>q (z ▸ hx)
    lia
   lia
theorem pigeon {f:Nat->Nat}(h:∀i,i<=n->f i<n):∃i j,i<j/\j<=n/\f i=f j:=by
 apply qcK;intro no;have nd:((List.range (n+1)).map f).Nodup:=by
  rw[List.nodup_iff_pairwise_ne,List.pairwise_map];refine(List.Pairwise.and_mem.mp List.pairwise_lt_range).imp fun{a b} hh e=>no ⟨a,b,hh.2.2,?_,e⟩
  have:=qah.mp hh.2.1;lia
 have:=fewN n _ nd fun x hx=>by
  obtain⟨i,hi,rfl⟩:=qbS.mp hx;exact h i (by have:=qah.mp hi;lia)
 rw[qaX,qcD]at this;lia
section
variable {m n:Nat} {tl tu:Nat->Nat} {ta:Nat->Int} {s:Nat} {d:Nat->Option Int} {u:Nat->Option Nat} {ts:Nat->Nat} {l:Nat}
theorem BI.next (b:BI m tl tu ta s n 0 d u ts)(h:0<ts v):∃q,q<m/\tl q=v/\tu q=(u v).getD 0:=by
 obtain⟨q,hq,e,eu,_⟩:=b.un v h;exact⟨q,hq,e,by rw[eu];rfl⟩
theorem BI.live (b:BI m tl tu ta s (n+1) 0 d u ts)(h:n*m<ts l):∀i,i<=n->n*m+1<=ts (back u l i)+i*(m-1)
 |0,_=>by show n*m+1<=ts l+0*(m-1);lia
 |i+1,hi=>by
  have ih:=BI.live b h i (by lia);have m1:1<=m:=by
   obtain⟨q,hq,_⟩:=b.un l (by lia);lia
  obtain⟨m',rfl⟩:∃m',m=m'+1:=⟨m-1,by lia⟩;obtain⟨n',rfl⟩:∃n',n=n'+1:=⟨n-1,by lia⟩;rw[qcL]at ih ⊢;have le:i*m'<=n'*m':=qcM _ (by lia);have e1:(n'+1)*(m'+1)=n'*m'+m'+n'+1:=by rw[qcJ,qcN];lia
  obtain⟨q,hq,e,eu,x,y,_,_,_,_,h5⟩:=b.un (back u l i) (by lia);have h6:=h5 (by lia);have e2:back u l (i+1)=tu q:=by show(u (back u l i)).getD 0=_;rw[eu];rfl
  have e3:(i+1)*m'=i*m'+m':=Nat.succ_mul i m';rw[e2];lia
theorem BI.all (b:BI m tl tu ta s (n+1) 0 d u ts)(h:n*m<ts l)(hl:∀q,q<m->tl q<n+1)(hu:∀q,q<m->tu q<n+1):
  (∀t,0<ts (back u l t))/\∃p,1<=p/\p<=n+1/\back u l (n+1+p)=back u l (n+1):=by
 have pos:∀i,i<=n->0<ts (back u l i):=fun i hi=>by
  have:=b.live h i hi;have m1:1<=m:=by
   obtain⟨q,hq,_⟩:=b.un l (by lia);lia
  obtain⟨m',rfl⟩:∃m',m=m'+1:=⟨m-1,by lia⟩;rw[qcL]at this;have le:i*m'<=n*m':=qcM _ hi;rw[qcN]at this;lia
 have lt:∀i,i<=n+1->back u l i<n+1:=fun i hi=>by
  cases i with
  |zero=>
   obtain⟨q,hq,e,_⟩:=b.next (pos 0 (by lia));have:=hl q hq;rw[e]at this;exact this
  |succ i=>
   obtain⟨q,hq,_,e⟩:=b.next (pos i (by lia));have:=hu q hq;rw[e]at this;exact this
 obtain⟨i,j,hij,hj,e⟩:=pigeon lt;have per:∀t,back u l (i+t)=back u l (j+t):=fun t=>by rw[<-zc3,<-zc3,e]
 refine⟨fun t=>?_,j-i,by lia,by lia,?_⟩
 ·induction t using Nat.strongRecOn with
  |_ t ih=>
   by_cases z:t<j
   ·exact pos t (by lia)
   ·have:=per (t-j);rw[show j+(t-j)=t by lia]at this;rw[<-this];exact ih _ (by lia)
 ·have:=per (n+1-i);rw[show i+(n+1-i)=n+1 by lia,show j+(n+1-i)=n+1+(j-i) by lia]at this;exact this.symm
theorem least_p {P:Nat->Prop}:∀p,P p->∃c,P c/\c<=p/\∀i,i<c->¬P i:=by
 intro p
 induction p using Nat.strongRecOn with
 |_ p ih=>
  intro h
  by_cases z:∃i,i<p/\P i
  ·obtain⟨i,hi,hP⟩:=z;obtain⟨c,h1,h2,h3⟩:=ih i hi hP;exact⟨c,h1,by lia,h3⟩
  ·exact⟨p,h,qaE p,fun i hi hP=>z ⟨i,hi,hP⟩⟩
structure Round (m:Nat) (tl tu:Nat->Nat) (ta:Nat->Int) (u:Nat->Option Nat) (a c:Nat) (qs:Nat->Nat):Prop where
 pos:1<=c
 home:back u a c=a
 first:∀i,1<=i->i<c->back u a i≠a
 tie:∀i,i<c->qs i<m/\tl (qs i)=back u a i/\tu (qs i)=back u a (i+1)
 neg:sumR c (fun i=>ta (qs i))<0
theorem Round.apart (r:Round m tl tu ta u a c qs)(hij:i<j)(hj:j<c):back u a i≠back u a j:=fun e=>by
 have h1:=zc3 u a i (c-j);have h2:=zc3 u a j (c-j);rw[show j+(c-j)=c by lia,r.home]at h2;rw[e,h2]at h1;exact r.first (i+(c-j)) (by lia) (by lia) h1.symm
theorem BI.round (b:BI m tl tu ta s (n+1) 0 d u ts)(h:n*m<ts l)(hl:∀q,q<m->tl q<n+1)(hu:∀q,q<m->tu q<n+1)(ne:∀q,q<m->tl q≠tu q):
  ∃c qs,c<=n+1/\Round m tl tu ta u (back u l (n+1)) c qs:=by
 obtain⟨pos,p,p1,p2,ep⟩:=b.all h hl hu;obtain⟨c,⟨c1,ec⟩,cp,cm⟩:=least_p (P:=fun c=>1<=c/\back u l (n+1+c)=back u l (n+1)) p ⟨p1,ep⟩;have pos':∀i,0<ts (back u (back u l (n+1)) i):=fun i=>by rw[zc3];exact pos _
 have un:∀i,∃q,q<m/\tl q=back u (back u l (n+1)) i/\tu q=back u (back u l (n+1)) (i+1)/\∃x y,d (back u (back u l (n+1)) i)=some x/\d (back u (back u l (n+1)) (i+1))=some y/\y+ta q<=x/\(ts (back u (back u l (n+1)) i)<ts (back u (back u l (n+1)) (i+1))->y+ta q<x):=fun i=>by
  obtain⟨q,hq,e,eu,x,y,h1,h2,h3,h4,_⟩:=b.un _ (pos' i);have e2:back u (back u l (n+1)) (i+1)=tu q:=by show(u (back u (back u l (n+1)) i)).getD 0=_;rw[eu];rfl
  rw[e2];exact⟨q,hq,e,rfl,x,y,h1,h2,h3,h4⟩
 let a:=back u l (n+1)
 let qs:Nat->Nat:=fun i=>(un i).choose
 have sp:=fun i=>(un i).choose_spec
 have home:back u a c=a:=by show back u (back u l (n+1)) c=_;rw[zc3];exact ec
 refine⟨c,qs,by lia,c1,home,fun i i1 ic e=>cm i ic ⟨i1,by rw[<-zc3];exact e⟩,fun i _=>⟨(sp i).1,(sp i).2.1,(sp i).2.2.1⟩,?_⟩
 let x:Nat->Int:=fun i=>(d (back u a i)).getD 0
 have step:∀i,x (i+1)+ta (qs i)<=x i/\(ts (back u a i)<ts (back u a (i+1))->x (i+1)+ta (qs i)<x i):=fun i=>by
  obtain⟨_,_,_,X,Y,h1,h2,h3,h4⟩:=sp i;have e1:x i=X:=by show(d (back u (back u l (n+1)) i)).getD 0=X;rw[h1];rfl
  have e2:x (i+1)=Y:=by show(d (back u (back u l (n+1)) (i+1))).getD 0=Y;rw[h2];rfl
  rw[e1,e2];exact⟨h3,h4⟩
 obtain⟨i0,hi0,lt⟩:∃i,i<c/\ts (back u a i)<ts (back u a (i+1)):=by
  apply qcK;intro no;have dec:∀i,i<=c->ts (back u a i)<=ts a:=by
   intro i
   induction i with
   |zero=>intro _;exact qaE _
   |succ i ih=>
    intro hi;have:=ih (by lia);have:¬ts (back u a i)<ts (back u a (i+1)):=fun z=>no ⟨i,by lia,z⟩
    lia
  have inc:∀i,i<=c->ts a<=ts (back u a (c-i)):=by
   intro i
   induction i with
   |zero=>intro _;rw[qbW,home];exact qaE _
   |succ i ih=>
    intro hi;have h1:=ih (by lia);have h2:¬ts (back u a (c-(i+1)))<ts (back u a (c-(i+1)+1)):=fun z=>no ⟨_,by lia,z⟩
    rw[show c-(i+1)+1=c-i by lia]at h2;lia
  have h1:=inc (c-1) (by lia);rw[show c-(c-1)=1 by lia]at h1;have h2:=dec 1 c1;have e:=b.inj (back u a 1) a (pos' 1) (by lia);obtain⟨q1,q2,q3,_⟩:=sp 0;exact ne (qs 0) q1 (by rw[show tl (qs 0)=a from q2,show tu (qs 0)=back u a 1 from q3,e])
 have tele:∀i,sumR i (fun j=>ta (qs j))<=x 0-x i/\(i0<i->sumR i (fun j=>ta (qs j))<x 0-x i):=by
  intro i
  induction i with
  |zero=>exact⟨by show(0:Int)<=_;lia,fun z=>by lia⟩
  |succ i ih=>
   have st:=step i;have e:sumR (i+1) (fun j=>ta (qs j))=sumR i (fun j=>ta (qs j))+ta (qs i):=rfl;rw[e];refine⟨by lia,fun z=>?_⟩
   by_cases g:i0<i
   ·have:=ih.2 g;lia
   ·have:i=i0:=by lia
    subst this;have:=st.2 lt;lia
 have:=(tele c).2 hi0;have e0:x c=x 0:=by show(d (back u a c)).getD 0=(d a).getD 0;rw[home]
 lia
end
def dO:Option Int->D
 |none=> .non
 |some x=> .int x
def uO:Option Nat->D
 |none=> .non
 |some v=> .int (v:Nat)
theorem dO_n:dO none= .non:=rfl
theorem dO_s (x:Int):dO (some x)= .int x:=rfl
def tieL (m:Nat)(tl tu:Nat->Nat)(ta:Nat->Int):List D:=wL m fun q=> .tup [.int (tl q:Nat),.int (tu q:Nat),.int (ta q)]
theorem zlG (f:Nat->D)(x:D)(h:i<n):(wL n f).set i x=wL n (upf f i x):=by
 apply qcv;intro j;rw[qbu]
 by_cases e:i=j
 ·subst e;rw[if_pos rfl,if_pos (by rw[zaF];exact h),zao _ h,za8]
 ·rw[if_neg e]
  by_cases hj:j<n
  ·rw[zao _ hj,zao _ hj,zaI _ _ (Ne.symm e)]
  ·rw[qbU (by rw[zaF];lia),qbU (by rw[zaF];lia)]
theorem zpb (d:Nat->Option Int)(i:Nat)(x:Int):upf (fun v=>dO (d v)) i (.int x)=fun v=>dO (upf d i (some x) v):=by
 funext v
 unfold upf
 split<;>rfl
theorem uO_put (d:Nat->Option Nat)(i x:Nat):upf (fun v=>uO (d v)) i (.int (x:Nat))=fun v=>uO (upf d i (some x) v):=by
 funext v
 unfold upf
 split<;>rfl
theorem zqH (n:Nat)(x:D):(List.replicate n [x]).flatten=wL n fun _=>x:=by
 induction n with
 |zero=>rfl
 |succ n ih=>rw[List.replicate_succ',List.flatten_append,ih,zea];rfl
section
variable {m n:Nat} {tl tu:Nat->Nat} {ta:Nat->Int} {s:Nat}
def Shifts (m n:Nat)(tl tu:Nat->Nat)(ta:Nat->Int)(s:Nat)(d:Nat->Option Int)(u:Nat->Option Nat)(f:Option Nat):Prop:=
 ∃ts,BI m tl tu ta s n 0 d u ts/\((f=none/\∀v,ts v<=(n-1)*m)\/∃l,f=some l/\(n-1)*m<ts l)
theorem zn1 (n1:1<=n)(n9:n<=1000)(hs:s<n)(hl:∀q,q<m->tl q<n)(hu:∀q,q<m->tu q<n)(ne:∀q,q<m->tl q≠tu q):
  Ok (zaP [.lst (tieL m tl tu ta),.int n,.int s]) fun x=>∃d u f,Shifts m n tl tu ta s d u f/\x= .val (.tup [.lst (wL n fun v=>dO (d v)),.lst (wL n fun v=>uO (u v)),uO f]):=by
 have e0:upf (fun _=>D.non) s (.int 0)=fun v=>dO ((fun v=>if v=s then some 0 else none) v):=by
  funext v
  unfold upf
  (try dsimp only)
  split<;>rfl
 simp! only[↓zaP,↓zcX,zqH,↓zdl];rw[zlG _ _ hs,e0];have sm:zbL (n:Int)=true:=zay (by lia) (by lia);refine⟨⟨sm,by lia⟩,hs,⟨sm,by lia⟩,sm,zbm (fun t ρ=>∃(d:Nat->Option Int) (u:Nat->Option Nat) (f:Option Nat) (ts:Nat->Nat) (s6 s7 s8 s9:Sl),BI m tl tu ta s t 0 d u ts/\((f=none/\∀v,ts v<=(t-1)*m)\/∃l,f=some l/\(t-1)*m<ts l)/\ρ=[.val (.lst (tieL m tl tu ta)),.val (.int n),.val (.int s),.own (wL n fun v=>dO (d v)),.own (wL n fun v=>uO (u v)),.val (uO f),s6,s7,s8,s9]) ⟨_,fun _=>none,none,fun _=>0,_,_,_,_,BI.start,.inl ⟨rfl,fun v=>qbB _⟩,rfl⟩ ?_ ?_⟩
 ·rintro t _ ht ⟨d,u,f,ts,s6,s7,s8,s9,b,-,rfl⟩;simp! only[↓zdj,↓zdm,tieL];refine zbm (fun j ρ=>∃(d:Nat->Option Int) (u:Nat->Option Nat) (f:Option Nat) (ts:Nat->Nat) (s7 s8 s9:Sl),BI m tl tu ta s t j d u ts/\((f=none/\∀v,ts v<=t*m)\/∃l,f=some l/\t*m<ts l)/\ρ=[.val (.lst (tieL m tl tu ta)),.val (.int n),.val (.int s),.own (wL n fun v=>dO (d v)),.own (wL n fun v=>uO (u v)),.val (uO f),.val (.int t),s7,s8,s9]) ⟨d,u,none,ts,_,_,_,b,.inl ⟨rfl,fun v=>by have:=b.le v;lia⟩,rfl⟩ ?_ ?_
  ·rintro j _ hj ⟨d,u,f,ts,s7,s8,s9,b,hf,rfl⟩;have a1:=hl j hj;have a2:=hu j hj;simp! only[↓zdn,zao _ a1,zao _ a2];cases hy:d (tu j)with
   |none=>
    have k:Kept tl tu ta d j:=fun y e=>by rw[hy]at e;cases e
    simp! only[dO_n];exact⟨d,u,f,ts,_,_,_,b.keep k,hf,rfl⟩
   |some y=>
    have chg:(∀x,d (tl j)=some x->y+ta j<x)->∃(d':Nat->Option Int) (u':Nat->Option Nat) (f':Option Nat) (ts':Nat->Nat) (s7 s8 s9:Sl),BI m tl tu ta s t (j+1) d' u' ts'/\((f'=none/\∀v,ts' v<=t*m)\/∃l,f'=some l/\t*m<ts' l)/\[Sl.val (.lst (wL m fun q=> .tup [.int (tl q:Nat),.int (tu q:Nat),.int (ta q)])),.val (.int n),.val (.int s),.own ((wL n fun v=>dO (d v)).set (tl j) (.int (y+ta j))),.own ((wL n fun v=>uO (u v)).set (tl j) (.int (tu j:Nat))),.val (.int (tl j:Nat)),.val (.int t),.val (.int (tl j:Nat)),.val (.int (tu j:Nat)),.val (.int (ta j))]=[.val (.lst (tieL m tl tu ta)),.val (.int n),.val (.int s),.own (wL n fun v=>dO (d' v)),.own (wL n fun v=>uO (u' v)),.val (uO f'),.val (.int t),s7,s8,s9]:=fun hx=>by
     rw[zlG _ _ a1,zlG _ _ a1,zpb,uO_put];exact⟨_,_,some (tl j),_,.val (.int (tl j:Nat)),.val (.int (tu j:Nat)),.val (.int (ta j)),b.change hj (ne j hj) hy hx,.inr ⟨tl j,rfl,by rw[za8];lia⟩,rfl⟩
    cases hx:d (tl j)with
    |none=>
     simp! only[dO_n,dO_s,zao _ a2,hy,a1,if_true];exact chg fun x e=>by rw[hx]at e;cases e
    |some x=>
     simp! only[dO_s,zao _ a2,zao _ a1,hy,hx,a1,if_true];exact⟨fun z=>chg fun x' e=>by rw[hx]at e;cases e;exact z,fun z=>⟨d,u,f,ts,_,_,_,b.keep fun y' e=>by rw[hy]at e;cases e;exact⟨x,hx,z⟩,hf,rfl⟩⟩
  ·rintro _ ⟨d,u,f,ts,s7,s8,s9,b,hf,rfl⟩;simp! only[];exact⟨d,u,f,ts,_,_,_,_,b.turn,by simpa using hf,rfl⟩
 ·rintro _ ⟨d,u,f,ts,s6,s7,s8,s9,b,hf,rfl⟩;simp! only[];cases f with
  |none=>simp! only[uO];exact⟨d,u,none,⟨ts,b,hf⟩,rfl⟩
  |some l=>simp! only[uO];exact⟨d,u,some l,⟨ts,b,hf⟩,rfl⟩
end
theorem zsC (i:Nat)(f:Nat->D):atI (wL (i+1) f) (-1)=some (f i):=by
 unfold atI ixN;rw[if_neg (by lia),zaF,if_pos (by lia)];show(wL (i+1) f)[(((i+1:Nat):Int)+ -1).toNat]? =_;rw[show(((i+1:Nat):Int)+ -1).toNat=i by lia,zao _ (by lia)]
section
variable {m n:Nat} {tl tu:Nat->Nat} {ta:Nat->Int} {s:Nat} {d:Nat->Option Int} {u:Nat->Option Nat} {ts:Nat->Nat} {l:Nat}
theorem loop_ok (b:BI m tl tu ta s (n+1) 0 d u ts)(h:n*m<ts l)(n9:n<=300)(hl:∀q,q<m->tl q<n+1)(hu:∀q,q<m->tu q<n+1)(ne:∀q,q<m->tl q≠tu q):
  Ok (zb1 [.lst (wL (n+1) fun v=>uO (u v)),.int l]) fun x=>∃c qs,c<=n+1/\Round m tl tu ta u (back u l (n+1)) c qs/\x= .own (wI c fun i=>((back u (back u l (n+1)) i:Nat):Int)):=by
 obtain⟨c,qs,cn,R⟩:=b.round h hl hu ne;obtain⟨pos,-⟩:=b.all h hl hu;have nx:∀t,back u l t<n+1/\uO (u (back u l t))= .int ((back u l (t+1):Nat):Int):=fun t=>by
  obtain⟨q,hq,e,eu,_⟩:=b.un _ (pos t);refine⟨by rw[<-e];exact hl q hq,?_⟩;show uO (u (back u l t))= .int (((u (back u l t)).getD 0:Nat):Int);rw[eu]
  rfl
 have sm:zbL ((n+1:Nat):Int)=true:=zay (by lia) (by lia);simp! only[↓zb1,↓zei,↓zev];refine⟨sm,zbm (fun t ρ=>∃s3,ρ=[.val (.lst (wL (n+1) fun v=>uO (u v))),.val (.int l),.val (.int (back u l t:Nat)),s3,.emp]) ⟨_,rfl⟩ ?_ ?_⟩
 ·rintro t _ ht ⟨s3,rfl⟩;simp! only[↓zes,zao _ (nx t).1,(nx t).2];exact⟨_,rfl⟩
 ·rintro _ ⟨s3,rfl⟩;simp! only[↓zeJ];have nx':∀i,back u (back u l (n+1)) i<n+1/\uO (u (back u (back u l (n+1)) i))= .int ((back u (back u l (n+1)) (i+1):Nat):Int):=fun i=>by
   rw[zc3,zc3];exact nx _
  generalize back u l (n+1)=a at R nx'
  have last:∀i,atI (wI (i+1) fun i=>((back u a i:Nat):Int)) (-1)=some (.int (back u a i:Nat)):=fun i=>by
   rw[zsC i]
  refine zmm (fun k ρ=>∃i,i<c/\k=c-1-i/\ρ=[.val (.lst (wL (n+1) fun v=>uO (u v))),.val (.int l),.val (.int (a:Nat)),s3,.own (wI (i+1) fun i=>((back u a i:Nat):Int))]) ?_ 400 (c-1) _ (by lia) ⟨0,R.pos,by lia,rfl⟩;rintro k _ ⟨i,hi,rfl,rfl⟩;simp! only[↓zeQ,last,zao _ (nx' i).1,(nx' i).2];refine⟨fun z=>⟨c-1-(i+1),?_,?_⟩,fun z=>⟨c,qs,cn,R,?_⟩⟩
  ·have:i+1≠c:=fun e=>z (by rw[e,R.home])
   lia
  ·have:i+1≠c:=fun e=>z (by rw[e,R.home])
   have ew:(wI (i+1) fun i=>((back u a i:Nat):Int))++[D.int (back u a (i+1):Nat)]=wI (i+1+1) fun i=>((back u a i:Nat):Int):=(zea _ _).symm
   simp! only[↓zeS,last,zao _ (nx' i).1,(nx' i).2,ew];exact⟨by lia,i+1,by lia,rfl,rfl⟩
  ·have:i+1=c:=by
    by_cases e:i+1=c
    ·exact e
    ·exact absurd (by lia) (R.first (i+1) (by lia) (by lia))
   rw[this]
end
abbrev zax (k m n:Nat)(T L G:Nat->Int):D:= .tup [.int k,.tup (wI m T),.tup (wI n L),.tup (wI n G)]
def absI (x:Int):Int:=if x<0 then-x else x
def win (k:Nat)(r:Nat->Int)(i:Nat):Int:=sumR k fun j=>r (i+j)
theorem zke (X:Nat->Int)(i:Nat):∀k,win k (fun p=>X (p+1)-X p) i=X (i+k)-X i
 |0=>by show(0:Int)=_;rw[qcO];lia
 |k+1=>by
  show win k (fun p=>X (p+1)-X p) i+(X (i+k+1)-X (i+k))=_;rw[zke X i k,show i+(k+1)=i+k+1 by lia];lia
abbrev Tt:=Nat×Nat×Int
def tD (t:Tt):D:= .tup [.int (t.1:Nat),.int (t.2.1:Nat),.int t.2.2]
section
variable {k m n:Nat} {T L G s:Nat->Int} {ts:List Tt}
def tAt (ts:List Tt)(q:Nat):Tt:=ts.getD q (0,0,0)
theorem zsh (h:q<ts.length):tAt ts q∈ts:=by
 unfold tAt;rw[qcy,qbF h];exact List.getElem_mem h
theorem ties_w (ts:List Tt):ts.map tD=tieL ts.length (fun q=>(tAt ts q).1) (fun q=>(tAt ts q).2.1) (fun q=>(tAt ts q).2.2):=by
 unfold tieL;apply qcv;intro q
 by_cases h:q<ts.length
 ·rw[zao _ h,qaT,qbF h];have e:tAt ts q=ts[q]:=by unfold tAt;rw[qcy,qbF h];rfl
  (try dsimp only)
  rw[e]
  rfl
 ·rw[qbU (by rw[qaX];lia),qbU (by rw[zaF];lia)]
theorem zso (n9:n<=900)(hb:∀t,t∈ts->t.1<n+1/\t.2.1<n+1/\t.1≠t.2.1)(nr:∀(c:Nat) (v:Nat->Nat) (w:Nat->Int),v c=v 0->(∀i j,i<j->j<c->v i≠v j)->(∀i,i<c->(v i,v (i+1),w i)∈ts)->0<=sumR c w)
  (ch:∀p,p<n->∃a,(p+1,p,a)∈ts):Ok (za9 [.lst (ts.map tD),.int n]) fun x=>∃X:Nat->Int,(∀t,t∈ts->X t.1<=X t.2.1+t.2.2)/\x= .val (.tup (wI n fun p=>X (p+1)-X p)):=by
 have e1:(n:Int)+1=((n+1:Nat):Int):=by lia
 have at_:∀q,q<ts.length->tAt ts q∈ts:=fun q h=>zsh h
 simp! only[↓za9,↓zfk,ties_w,e1];refine(zn1 (s:=0) (by lia) (by lia) (by lia) (fun q hq=>(hb _ (at_ q hq)).1) (fun q hq=>(hb _ (at_ q hq)).2.1) (fun q hq=>(hb _ (at_ q hq)).2.2)).mono ?_;rintro _ ⟨d,u,f,⟨us,b,hf⟩,rfl⟩;have kept:∀q,q<ts.length->Kept (fun q=>(tAt ts q).1) (fun q=>(tAt ts q).2.1) (fun q=>(tAt ts q).2.2) d q:=fun q hq=>by
  rcases hf with⟨_,h⟩|⟨l,_,h⟩
  ·exact b.kept (t:=n) h hq
  ·exfalso;obtain⟨c,qs,_,R⟩:=b.round h (fun q hq=>(hb _ (at_ q hq)).1) (fun q hq=>(hb _ (at_ q hq)).2.1) (fun q hq=>(hb _ (at_ q hq)).2.2);have:=nr c (fun i=>back u (back u l (n+1)) i) (fun i=>(tAt ts (qs i)).2.2) R.home (fun i j hij hj=>R.apart hij hj) fun i hi=>by
    obtain⟨h1,h2,h3⟩:=R.tie i hi
    (try dsimp only)
    rw[<-h2,<-h3];exact at_ _ h1
   have:=R.neg;lia
 have kt:∀t,t∈ts->∀y,d t.2.1=some y->∃x,d t.1=some x/\x<=y+t.2.2:=fun t ht=>by
  obtain⟨q,hq,rfl⟩:=qcP ht;have:=kept q hq;unfold Kept at this;have e:tAt ts q=ts[q]:=by unfold tAt;rw[qcy,qbF hq];rfl
  (try dsimp only at this)
  rw[e]at this;exact this
 have dv:∀v,v<=n->∃x,d v=some x:=fun v=>by
  induction v with
  |zero=>exact fun _=>b.st
  |succ v ih=>
   intro hv;obtain⟨x,hx⟩:=ih (by lia);obtain⟨a,ha⟩:=ch v (by lia);obtain⟨y,hy,_⟩:=kt _ ha x hx;exact⟨y,hy⟩
 have dX:∀v,v<=n->d v=some ((d v).getD 0):=fun v hv=>by
  obtain⟨x,hx⟩:=dv v hv;rw[hx];rfl
 have sm:zbL (n:Int)=true:=zay (by lia) (by lia);simp! only[↓zfR];refine⟨sm,by lia,zaH (fun ρ=>∃a,ρ=[.val (.lst (wL (n+1) fun v=>dO (d v))),a]) (fun p=> .int ((d (p+1)).getD 0-(d p).getD 0)) ⟨_,rfl⟩ ?_ ?_⟩
 ·rintro p _ hp ⟨a,rfl⟩;have e2:(p:Int)+1=((p+1:Nat):Int):=by lia
  have h1:=dX p (by lia);have h2:=dX (p+1) (by lia);simp! only[↓zfA,e2,zao _ (show p<n+1 by lia),zao _ (show p+1<n+1 by lia)];rw[h1,h2];simp! only[dO_s];exact⟨by simp,_,rfl⟩
 ·rintro _ ⟨a,rfl⟩;simp! only[];refine⟨fun v=>(d v).getD 0,fun t ht=>?_,rfl⟩;obtain⟨h1,h2,_⟩:=hb t ht;have e:=dX t.2.1 (by lia);obtain⟨x,hx,hl⟩:=kt t ht _ e
  (try dsimp only)
  rw[hx];exact hl
end
def kS:Bool->Str
 |true=>"sum"
 |false=>"place"
theorem kS_sum (b:Bool):(kS b==("sum":Str))=b:=by cases b<;>decide+kernel
abbrev Sp:=Bool×Nat×Bool
def sD (s:Sp):D:= .tup [.str (kS s.1),.int (s.2.1:Nat),.bl s.2.2]
abbrev cnt (m n:Nat)(b:Bool):Nat:=if b then m else n
def spw (k:Nat)(T L G:Nat->Int):Sp->Tt
 |(true,i,true)=>(i,i+k,T i)
 |(true,i,false)=>(i+k,i,-T i)
 |(false,i,true)=>(i,i+1,L i)
 |(false,i,false)=>(i+1,i,-G i)
def stL (b:Bool)(c:Nat):List Sp:=(List.range c).map (fun i=>(b,i,true))++(List.range c).map (fun i=>(b,c-1-i,false))
theorem zjK (b:Bool)(c:Nat):(stL b c).length=2*c:=by simp[stL];lia
theorem mem_stL {b:Bool}{s:Sp}:s∈stL b c↔s.1=b/\s.2.1<c:=by
 obtain⟨b',i,u⟩:=s;simp only[stL,qan,qbS,qah,qbz]
 constructor
 ·rintro(⟨a,ha,rfl,rfl,rfl⟩|⟨a,ha,rfl,rfl,rfl⟩)
  ·exact⟨rfl,ha⟩
  ·exact⟨rfl,by lia⟩
 ·rintro⟨rfl,hi⟩;cases u
  ·exact .inr ⟨c-1-i,by lia,rfl,by lia,rfl⟩
  ·exact .inl ⟨i,hi,rfl,rfl,rfl⟩
theorem stepD_w (c:Nat):znH ((c:Int)-1) (-1) ((c:Int)-1- -1).toNat=wL c fun i=> .int ((c-1-i:Nat):Int):=by
 rw[show((c:Int)-1- -1).toNat=c by lia];unfold znH wL;refine qci fun i hi=>?_
 have:=qah.mp hi;congr 1;lia
section
variable {k m n:Nat} {T L G:Nat->Int}
theorem many_ok (b:Bool):Ok (zb3 [zax k m n T L G,.str (kS b)]) fun x=>x= .val (.int (cnt m n b:Nat)):=by
 simp! only[↓zb3,↓zeb,kS_sum];cases b
 ·exact⟨fun h=>(by cases h),fun _=>rfl⟩
 ·exact⟨fun _=>rfl,fun h=>(by cases h)⟩
theorem zst (s:Sp)(h:s.2.1<cnt m n s.1):Ok (zch [zax k m n T L G,sD s]) fun x=>x= .val (tD (spw k T L G s)):=by
 obtain⟨b,i,u⟩:=s;cases b<;>cases u<;>
 ·simp only[cnt,if_true,qbQ,qa3]at h;simp! only[↓zch,↓zig,sD,kS_sum,zao _ h,↓zh1,spw,tD];simp
theorem zlS (b:Bool)(m9:m<=1000)(n9:n<=1000):Ok (zco [zax k m n T L G,.str (kS b)]) fun x=>x= .val (.lst ((stL b (cnt m n b)).map sD)):=by
 simp! only[↓zco,↓zjA];refine(many_ok b).mono ?_;rintro _ rfl;have c9:cnt m n b<=1000:=by unfold cnt;split<;>lia
 generalize cnt m n b=c at*
 simp! only[↓zi9];refine⟨zay (by lia) (by lia),by lia,zaH (fun ρ=>∃z,ρ=[.val (.str (kS b)),z]) (fun i=>sD (b,i,true)) ⟨_,rfl⟩ ?_ ?_⟩
 ·rintro i _ hi ⟨z,rfl⟩;simp! only[↓ziN];exact⟨rfl,_,rfl⟩
 rintro _ ⟨z,rfl⟩;simp! only[↓ziB,stepD_w];refine⟨⟨zay (by lia) (by lia),rfl⟩,by lia,zaH (fun ρ=>∃z,ρ=[.val (.str (kS b)),z]) (fun i=>sD (b,c-1-i,false)) ⟨_,rfl⟩ ?_ ?_⟩
 ·rintro i _ hi ⟨z,rfl⟩;simp! only[↓ziT];exact⟨rfl,_,rfl⟩
 rintro _ ⟨z,rfl⟩;simp! only[];refine⟨by lia,?_⟩;unfold stL wL;rw[qcj,qch,qch]
 rfl
theorem zkh (b:Bool)(m9:m<=1000)(n9:n<=1000):Ok (zbP [zax k m n T L G,.str (kS b)]) fun x=>x= .own (((stL b (cnt m n b)).map (spw k T L G)).map tD):=by
 simp! only[↓zbP,↓zjG,↓ziG];refine(zlS b m9 n9).mono ?_;rintro _ rfl;have c9:cnt m n b<=1000:=by unfold cnt;split<;>lia
 have l9:=zjK b (cnt m n b);simp! only[];refine⟨by lia,zir (enc:=sD) (l:=stL b (cnt m n b)) (fun ρ=>∃z,ρ=[.val (zax k m n T L G),z]) (fun s=>tD (spw k T L G s)) ⟨_,rfl⟩ ?_ ?_⟩
 ·rintro s _ hs ⟨z,rfl⟩;obtain⟨e,h⟩:=mem_stL.mp hs;simp! only[↓zi6];refine(zst s (by rw[e];exact h)).mono ?_;rintro _ rfl;simp! only[];exact⟨_,rfl⟩
 ·rintro _ ⟨z,rfl⟩;simp! only[qch]
  rfl
end
def mx (o:Option Int)(x:Int):Int:=match o with
 |none=>x
 |some y=>max2 y x
theorem mx_ge (o:Option Int)(x:Int):x<=mx o x:=by unfold mx;split<;>(try unfold max2)<;>(try split)<;>lia
theorem zpj (x:Int)(h:o=some y):y<=mx o x:=by subst h;unfold mx max2;(try dsimp only);split<;>lia
theorem mx_is (o:Option Int)(x:Int):mx o x=x\/o=some (mx o x):=by
 cases o with
 |none=>exact .inl rfl
 |some y=>unfold mx max2;(try dsimp only);split<;>simp
theorem zoK (o:Option Int)(x:Int):Ok (zeH [dO o,.int x]) fun r=>r= .val (.int (mx o x)):=by
 cases o<;>simp! only[↓zeH,↓zkJ,dO,mx]
inductive Rc (S P:List Tt) (d:Nat->Int):Nat->Int->Prop
 |sum {t:Tt}:t∈S->Rc S P d t.2.1 (d t.1+t.2.2)
 |place {t:Tt} {x:Int}:Rc S P d t.1 x->t∈P->Rc S P d t.2.1 (x+t.2.2)
abbrev gL (N:Nat)(g:Nat->Option Int):List D:=wL N fun v=>dO (g v)
theorem zng {α:Type}{l:List α}{a:α}(h:l[i]? =some a):l.take (i+1)=l.take i++[a]:=by
 rw[List.take_succ,h];rfl
theorem zra {S P:List Tt}{d:Nat->Int}(hb:∀t,t∈S->t.1<N/\t.2.1<N)(a1 a4 a5 a6:Sl)
  (hQ:∀g a4 a5 a6,(∀t,t∈S->∃x,g t.2.1=some x/\d t.1+t.2.2<=x)->(∀v x,g v=some x->Rc S P d v x)->Q (.next,[.val (.lst (S.map tD)),a1,.val (.lst (wI N d)),.own (gL N g),a4,a5,a6])):
  Ok (zdO [.val (.lst (S.map tD)),a1,.val (.lst (wI N d)),.own (gL N fun _=>none),a4,a5,a6]) Q:=by
 simp! only[↓zdO];refine zjS (enc:=tD) (l:=S) (fun i ρ=>∃g a4 a5 a6,(∀t,t∈S.take i->∃x,g t.2.1=some x/\d t.1+t.2.2<=x)/\(∀v x,g v=some x->Rc S P d v x)/\ρ=[.val (.lst (S.map tD)),a1,.val (.lst (wI N d)),.own (gL N g),a4,a5,a6]) ⟨_,_,_,_,by simp,fun v x h=>(by cases h),rfl⟩ ?_ ?_
 ·rintro i t _ hi ⟨g,a4,a5,a6,lb,ub,rfl⟩;have mem:=qaV hi;obtain⟨h1,h2⟩:=hb t mem;simp! only[tD,↓zhh,zao _ h1,zao _ h2];refine(zoK (g t.2.1) (d t.1+t.2.2)).mono ?_;rintro _ rfl;simp! only[h2,zlG _ _ h2,zpb];refine⟨upf g t.2.1 (some (mx (g t.2.1) (d t.1+t.2.2))),_,_,_,fun t' ht'=>?_,fun v x hx=>?_,rfl⟩
  ·rw[zng hi,qan,qcg]at ht'
   by_cases e:t'.2.1=t.2.1
   ·rw[e,za8];refine⟨_,rfl,?_⟩;rcases ht' with h|rfl
    ·obtain⟨x,hx,hx'⟩:=lb t' h;rw[e]at hx;exact qcQ hx' (zpj _ hx)
    ·exact mx_ge _ _
   ·rw[zaI _ _ e];rcases ht' with h|rfl
    ·exact lb t' h
    ·exact absurd rfl e
  ·by_cases e:v=t.2.1
   ·subst e;rw[za8]at hx;cases hx;rcases mx_is (g t.2.1) (d t.1+t.2.2)with h|h
    ·rw[h];exact .sum mem
    ·exact ub _ _ h
   ·rw[zaI _ _ e]at hx;exact ub v x hx
 ·rintro _ ⟨g,a4,a5,a6,lb,ub,rfl⟩;rw[qbT (qaE _)]at lb;exact hQ g a4 a5 a6 lb ub
theorem stL_get {b:Bool}{s:Sp}(h:(stL b c)[i]? =some s):(i<c/\s=(b,i,true))\/(c<=i/\i<2*c/\s=(b,2*c-1-i,false)):=by
 unfold stL at h
 by_cases z:i<c
 ·rw[qaS (by simp;lia),qaT,qcf z]at h;exact .inl ⟨z,(Option.some.inj h).symm⟩
 ·rw[qaQ (by simp;lia),qaT]at h;simp only[qaX,qcD]at h
  by_cases y:i-c<c
  ·rw[qcf y]at h;have:=(Option.some.inj h).symm;exact .inr ⟨by lia,by lia,by rw[this];show(b,c-1-(i-c),false)=_;rw[show c-1-(i-c)=2*c-1-i by lia]⟩
  ·rw[qbU (by simp;lia)]at h;cases h
structure Pg (n:Nat) (L G:Nat->Int) (S P:List Tt) (d:Nat->Int) (g0:Nat->Option Int) (i:Nat) (g:Nat->Option Int):Prop where
 so:∀v,v<=n->v<=i->∃x,g v=some x
 old:∀v x,g0 v=some x->∃y,g v=some y/\x<=y
 up:∀p x,p<n->p<i->g p=some x->∃y,g (p+1)=some y/\x+L p<=y
 dn:∀q x,q<n->2*n<=i+q->g (q+1)=some x->∃y,g q=some y/\x-G q<=y
 rc:∀v x,g v=some x->Rc S P d v x
section
variable {k m n:Nat} {T L G d:Nat->Int} {S:List Tt} {g0 g:Nat->Option Int} {i:Nat}
abbrev plP (k n:Nat)(T L G:Nat->Int):List Tt:=(stL false n).map (spw k T L G)
theorem mem_pl {t:Tt}:t∈plP k n T L G↔∃p,p<n/\(t=(p,p+1,L p)\/t=(p+1,p,-G p)):=by
 unfold plP;rw[qbS]
 constructor
 ·rintro⟨⟨b,i,u⟩,hs,rfl⟩;obtain⟨rfl,h⟩:=mem_stL.mp hs;refine⟨i,h,?_⟩;cases u
  ·exact .inr rfl
  ·exact .inl rfl
 ·rintro⟨p,hp,rfl|rfl⟩
  ·exact⟨(false,p,true),mem_stL.mpr ⟨rfl,hp⟩,rfl⟩
  ·exact⟨(false,p,false),mem_stL.mpr ⟨rfl,hp⟩,rfl⟩
theorem Pg.goUp (b:Pg n L G S (plP k n T L G) d g0 i g)(hi:i<n){x0:Int}(h0:g i=some x0):Pg n L G S (plP k n T L G) d g0 (i+1) (upf g (i+1) (some (mx (g (i+1)) (x0+L i)))) where
 so:=fun v h1 h2=>by
  by_cases e:v=i+1
  ·exact⟨_,by rw[e,za8]⟩
  ·rw[zaI _ _ e];exact b.so v h1 (by lia)
 old:=fun v x h=>by
  obtain⟨y,h1,h2⟩:=b.old v x h
  by_cases e:v=i+1
  ·subst e;exact⟨_,za8 _ _ _,qcQ h2 (zpj _ h1)⟩
  ·rw[zaI _ _ e];exact⟨y,h1,h2⟩
 up:=fun p x h1 h2 h3=>by
  rw[zaI _ _ (show p≠i+1 by lia)]at h3
  by_cases e:p=i
  ·subst e;rw[h0]at h3;cases h3;exact⟨_,za8 _ _ _,mx_ge _ _⟩
  ·rw[zaI _ _ (by lia)];exact b.up p x h1 (by lia) h3
 dn:=fun q x h1 h2=>by lia
 rc:=fun v x h=>by
  by_cases e:v=i+1
  ·subst e;rw[za8]at h;cases h;rcases mx_is (g (i+1)) (x0+L i)with h|h
   ·rw[h];exact Rc.place (t:=(i,i+1,L i)) (b.rc i x0 h0) (mem_pl.mpr ⟨i,hi,.inl rfl⟩)
   ·exact b.rc _ _ h
  ·rw[zaI _ _ e]at h;exact b.rc v x h
theorem Pg.goDn (le:∀p,p<n->L p<=G p)(b:Pg n L G S (plP k n T L G) d g0 i g)(h1:n<=i)(h2:i<2*n){x0:Int}(h0:g (2*n-1-i+1)=some x0):Pg n L G S (plP k n T L G) d g0 (i+1) (upf g (2*n-1-i) (some (mx (g (2*n-1-i)) (x0+ -G (2*n-1-i))))):=by
 obtain⟨q,hq⟩:∃q,2*n-1-i=q:=⟨_,rfl⟩;rw[hq]at h0 ⊢;have qn:q<n:=by lia
 exact{
  so:=fun v h1 h2=>by
   by_cases e:v=q
   ·exact⟨_,by rw[e,za8]⟩
   ·rw[zaI _ _ e];exact b.so v h1 (by lia)
  old:=fun v x h=>by
   obtain⟨y,h1,h2⟩:=b.old v x h
   by_cases e:v=q
   ·subst e;exact⟨_,za8 _ _ _,qcQ h2 (zpj _ h1)⟩
   ·rw[zaI _ _ e];exact⟨y,h1,h2⟩
  up:=fun p x h1 h2 h3=>by
   by_cases e:p=q
   ·subst e;rw[za8]at h3;cases h3;rw[zaI _ _ (by lia)];refine⟨x0,h0,?_⟩;rcases mx_is (g p) (x0+ -G p)with h|h
    ·rw[h];have:=le p qn;lia
    ·obtain⟨y,h4,h5⟩:=b.up p _ h1 (by lia) h;rw[h0]at h4;cases h4;exact h5
   ·rw[zaI _ _ e]at h3;obtain⟨y,h4,h5⟩:=b.up p x h1 (by lia) h3
    by_cases e2:p+1=q
    ·rw[e2,za8];rw[e2]at h4;exact⟨_,rfl,qcQ h5 (zpj _ h4)⟩
    ·rw[zaI _ _ e2];exact⟨y,h4,h5⟩
  dn:=fun p x h1 h2 h3=>by
   rw[zaI _ _ (show p+1≠q by lia)]at h3
   by_cases e:p=q
   ·subst e;rw[h0]at h3;cases h3;refine⟨_,za8 _ _ _,?_⟩;have:=mx_ge (g p) (x0+ -G p);lia
   ·rw[zaI _ _ e];exact b.dn p x h1 (by lia) h3
  rc:=fun v x h=>by
   by_cases e:v=q
   ·subst e;rw[za8]at h;cases h;rcases mx_is (g v) (x0+ -G v)with h|h
    ·rw[h];exact Rc.place (t:=(v+1,v,-G v)) (b.rc _ x0 h0) (mem_pl.mpr ⟨v,qn,.inr rfl⟩)
    ·exact b.rc _ _ h
   ·rw[zaI _ _ e]at h;exact b.rc v x h}
theorem zoI (le:∀p,p<n->L p<=G p)(b0:Pg n L G S (plP k n T L G) d g0 0 g0)(a0 a2 a4 a5 a6:Sl)
  (hQ:∀g a4 a5 a6,Pg n L G S (plP k n T L G) d g0 (2*n) g->Q (.next,[a0,.val (.lst ((plP k n T L G).map tD)),a2,.own (gL (n+1) g),a4,a5,a6])):
  Ok (zdD [a0,.val (.lst ((plP k n T L G).map tD)),a2,.own (gL (n+1) g0),a4,a5,a6]) Q:=by
 simp! only[↓zdD];refine zjS (enc:=tD) (l:=plP k n T L G) (fun i ρ=>∃g a4 a5 a6,Pg n L G S (plP k n T L G) d g0 i g/\ρ=[a0,.val (.lst ((plP k n T L G).map tD)),a2,.own (gL (n+1) g),a4,a5,a6]) ⟨g0,_,_,_,b0,rfl⟩ ?_ ?_
 ·rintro i t _ hi ⟨g,a4,a5,a6,b,rfl⟩;unfold plP at hi;rw[qaT]at hi;obtain⟨s,hs,rfl⟩:=Option.map_eq_some_iff.mp hi;rcases stL_get hs with⟨h1,rfl⟩|⟨h1,h2,rfl⟩
  ·obtain⟨x0,h0⟩:=b.so i (by lia) (qaE _);simp! only[spw,tD,↓zdR,zao _ (show i<n+1 by lia),zao _ (show i+1<n+1 by lia),h0,dO_s];refine(zoK (g (i+1)) (x0+L i)).mono ?_;rintro _ rfl;simp! only[show i+1<n+1 by lia,zlG _ _ (show i+1<n+1 by lia),zpb];exact⟨_,_,_,_,b.goUp h1 h0,rfl⟩
  ·have e1:2*n-1-i+1<n+1:=by lia
   have e2:2*n-1-i<n+1:=by lia
   obtain⟨x0,h0⟩:=b.so (2*n-1-i+1) (by lia) (by lia);simp! only[spw,tD,↓zdR,zao _ e1,zao _ e2,h0,dO_s];refine(zoK (g (2*n-1-i)) (x0+ -G (2*n-1-i))).mono ?_;rintro _ rfl;simp! only[e2,zlG _ _ e2,zpb];exact⟨_,_,_,_,b.goDn le h1 h2 h0,rfl⟩
 ·rintro _ ⟨g,a4,a5,a6,b,rfl⟩;have e:(plP k n T L G).length=2*n:=by unfold plP;rw[qaX,zjK]
  rw[e]at b;exact hQ g a4 a5 a6 b
abbrev suP (k m:Nat)(T L G:Nat->Int):List Tt:=(stL true m).map (spw k T L G)
theorem mem_su {t:Tt}:t∈suP k m T L G↔∃i,i<m/\(t=(i,i+k,T i)\/t=(i+k,i,-T i)):=by
 unfold suP;rw[qbS]
 constructor
 ·rintro⟨⟨b,i,u⟩,hs,rfl⟩;obtain⟨rfl,h⟩:=mem_stL.mp hs;refine⟨i,h,?_⟩;cases u
  ·exact .inr rfl
  ·exact .inl rfl
 ·rintro⟨p,hp,rfl|rfl⟩
  ·exact⟨(true,p,true),mem_stL.mpr ⟨rfl,hp⟩,rfl⟩
  ·exact⟨(true,p,false),mem_stL.mpr ⟨rfl,hp⟩,rfl⟩
structure Lay (k m n:Nat) (T L G d g:Nat->Int):Prop where
 up:∀i,i<m->d i+T i<=g (i+k)
 dn:∀i,i<m->d (i+k)-T i<=g i
 lo:∀p,p<n->g p+L p<=g (p+1)
 hi:∀p,p<n->g (p+1)-G p<=g p
 rc:∀v,v<=n->Rc (suP k m T L G) (plP k n T L G) d v (g v)
theorem zqy (hn:n+1=m+k)(m1:1<=m)(n9:n<=900)(le:∀p,p<n->L p<=G p):
  Ok (zc5 [.lst ((suP k m T L G).map tD),.lst ((plP k n T L G).map tD),.lst (wI (n+1) d)]) fun x=>∃g,Lay k m n T L G d g/\x= .own (wI (n+1) g):=by
 obtain⟨N,hN⟩:∃N,N=n+1:=⟨_,rfl⟩;rw[<-hN];simp! only[↓zc5,↓zge,zqH];rw[hN];refine⟨⟨zay (by lia) (by lia),by lia⟩,?_⟩;refine zra (P:=plP k n T L G) (fun t ht=>?_) _ _ _ _ fun g0 a4 a5 a6 lb ub=>?_
 ·obtain⟨i,hi,rfl|rfl⟩:=mem_su.mp ht<;>exact⟨by(try dsimp only);lia,by(try dsimp only);lia⟩
 ·simp! only[];refine zoI le ⟨fun v _ h2=>?_,fun v x h=>⟨x,h,qcB _⟩,fun p x _ h=>by lia,fun q x h1 h2=>by lia,ub⟩ _ _ _ _ _ fun g a4 a5 a6 b=>?_
  ·obtain⟨x,hx,_⟩:=lb (0+k,0,-T 0) (mem_su.mpr ⟨0,by lia,.inr rfl⟩);exact⟨x,by rw[show v=0 by lia];exact hx⟩
  ·have dX:∀v,v<=n->g v=some ((g v).getD 0):=fun v hv=>by
    obtain⟨x,hx⟩:=b.so v hv (by lia);rw[hx];rfl
   simp! only[];refine⟨fun v=>(g v).getD 0,⟨fun i hi=>?_,fun i hi=>?_,fun p hp=>?_,fun p hp=>?_,fun v hv=>?_⟩,?_⟩
   ·obtain⟨x,h1,h2⟩:=lb (i,i+k,T i) (mem_su.mpr ⟨i,hi,.inl rfl⟩);obtain⟨y,h3,h4⟩:=b.old _ x h1
    (try dsimp only at h2 h3)
    rw[h3];show _<=y;lia
   ·obtain⟨x,h1,h2⟩:=lb (i+k,i,-T i) (mem_su.mpr ⟨i,hi,.inr rfl⟩);obtain⟨y,h3,h4⟩:=b.old _ x h1
    (try dsimp only at h2 h3)
    rw[h3];show _<=y;lia
   ·obtain⟨y,h1,h2⟩:=b.up p _ hp (by lia) (dX p (by lia));rw[h1];exact h2
   ·obtain⟨y,h1,h2⟩:=b.dn p _ hp (by lia) (dX (p+1) (by lia));rw[h1];exact h2
   ·exact b.rc v _ (dX v hv)
   ·congr 1;exact zcG fun v hv=>by rw[dX v (by lia)];rfl
end
structure Feas (k m n:Nat) (T L G:Nat->Int) (F:Int) (X:Nat->Int):Prop where
 up:∀i,i<m->X i+T i-F<=X (i+k)
 dn:∀i,i<m->X (i+k)-T i-F<=X i
 lo:∀p,p<n->X p+L p<=X (p+1)
 hi:∀p,p<n->X (p+1)-G p<=X p
theorem max_ex (f:Nat->Int):∀N,1<=N->∃j,1<=j/\j<=N/\∀i,1<=i->i<=N->f i<=f j
 |0,h=>by lia
 |1,_=>⟨1,by lia,by lia,fun i h1 h2=>by rw[show i=1 by lia];exact qcB _⟩
 |N+2,_=>by
  obtain⟨j,h1,h2,h3⟩:=max_ex f (N+1) (by lia)
  by_cases e:f j<=f (N+2)
  ·exact⟨N+2,by lia,by lia,fun i h4 h5=>by
    by_cases z:i=N+2
    ·rw[z];exact qcB _
    ·exact qcQ (h3 i h4 (by lia)) e⟩
  ·exact⟨j,h1,by lia,fun i h4 h5=>by
    by_cases z:i=N+2
    ·rw[z];lia
    ·exact h3 i h4 (by lia)⟩
section
variable {k m n N:Nat} {T L G:Nat->Int} {D:Nat->Nat->Int} {F:Int}
theorem feas_ex (N1:1<=N)(ly:∀t,t<N->Lay k m n T L G (D t) (D (t+1)))(hn:n+1=m+k)(h:∀v,v<=n->∃j,j<N/\D N v-D j v<=F*((N:Int)-j)):∃X,Feas k m n T L G F X:=by
 have ex:∀v,∃x:Int,(∃j:Nat,1<=j/\j<=N/\x=D j v-F*j)/\∀j:Nat,1<=j->j<=N->D j v-F*j<=x:=fun v=>by
  obtain⟨j,h1,h2,h3⟩:=max_ex (fun j=>D j v-F*j) N N1;exact⟨_,⟨j,h1,h2,rfl⟩,h3⟩
 refine⟨fun v=>Classical.choose (ex v),?_⟩;have is:=fun v=>(qcR (ex v)).1
 have ge:=fun v=>(qcR (ex v)).2
 have eq1:∀j:Nat,F*((j+1:Nat):Int)=F*j+F:=fun j=>by push_cast;rw[Int.mul_add,qaA]
 have lt:∀v,v<=n->∃j:Nat,j<N/\Classical.choose (ex v)<=D j v-F*j:=fun v hv=>by
  obtain⟨j,h1,h2,h3⟩:=is v
  by_cases e:j<N
  ·exact⟨j,e,by lia⟩
  ·have:j=N:=by lia
   subst this;obtain⟨i,h4,h5⟩:=h v hv;rw[Int.mul_sub]at h5;exact⟨i,h4,by lia⟩
 refine⟨fun i hi=>?_,fun i hi=>?_,fun p hp=>?_,fun p hp=>?_⟩
 ·obtain⟨j,h1,h2⟩:=lt i (by lia);have h3:=(ly j h1).up i hi;have h4:=ge (i+k) (j+1) (by lia) (by lia);rw[eq1]at h4
  (try dsimp only)
  lia
 ·obtain⟨j,h1,h2⟩:=lt (i+k) (by lia);have h3:=(ly j h1).dn i hi;have h4:=ge i (j+1) (by lia) (by lia);rw[eq1]at h4
  (try dsimp only)
  lia
 ·obtain⟨j,h1,h2,h3⟩:=is p;obtain⟨j',rfl⟩:∃j',j=j'+1:=⟨j-1,by lia⟩;have h4:=(ly j' (by lia)).lo p hp;have h5:=ge (p+1) (j'+1) (by lia) h2
  (try dsimp only)
  lia
 ·obtain⟨j,h1,h2,h3⟩:=is (p+1);obtain⟨j',rfl⟩:∃j',j=j'+1:=⟨j-1,by lia⟩;have h4:=(ly j' (by lia)).hi p hp;have h5:=ge p (j'+1) (by lia) h2
  (try dsimp only)
  lia
theorem rc_edge {X d:Nat->Int}(hn:n+1=m+k)(ly:∀t,t<N->Lay k m n T L G (D t) (D (t+1)))(f:Feas k m n T L G F X)(r:Rc (suP k m T L G) (plP k n T L G) d v x):
  ∃(a:Nat) (w:Int),a<=n/\x=d a+w/\X a+w-F<=X v/\∀s,s<N->D s a+w<=D (s+1) v:=by
 induction r with
 |sum ht=>
  obtain⟨i,hi,rfl|rfl⟩:=mem_su.mp ht
  ·exact⟨i,T i,by lia,rfl,f.up i hi,fun s hs=>(ly s hs).up i hi⟩
  ·exact⟨i+k,-T i,by lia,rfl,by have:=f.dn i hi;(try dsimp only);lia,fun s hs=>by have:=(ly s hs).dn i hi;(try dsimp only);lia⟩
 |place _ ht ih=>
  obtain⟨a,w,h1,h2,h3,h4⟩:=ih;obtain⟨p,hp,rfl|rfl⟩:=mem_pl.mp ht
  ·refine⟨a,w+L p,h1,by(try dsimp only);lia,?_,fun s hs=>?_⟩
   ·have:=f.lo p hp;(try dsimp only at h3 ⊢);lia
   ·have:=(ly s hs).lo p hp;have:=h4 s hs;(try dsimp only at this ⊢);lia
  ·refine⟨a,w+ -G p,h1,by(try dsimp only);lia,?_,fun s hs=>?_⟩
   ·have:=f.hi p hp;(try dsimp only at h3 ⊢);lia
   ·have:=(ly s hs).hi p hp;have:=h4 s hs;(try dsimp only at this ⊢);lia
theorem no_feas (hn:n+1=m+k)(hN:N=n+1)(ly:∀t,t<N->Lay k m n T L G (D t) (D (t+1)))(hv:v<=n)(h:∀j,j<N->F*((N:Int)-j)<D N v-D j v):¬Feas k m n T L G F X:=fun f=>by
 have ex:∀(t u:Nat),∃(a:Nat) (w:Int),t<N->u<=n->a<=n/\D (t+1) u=D t a+w/\X a+w-F<=X u/\∀s,s<N->D s a+w<=D (s+1) u:=fun t u=>by
  by_cases h1:t<N/\u<=n
  ·obtain⟨a,w,h2⟩:=rc_edge hn ly f ((ly t h1.1).rc u h1.2);exact⟨a,w,fun _ _=>h2⟩
  ·exact⟨0,0,fun h2 h3=>absurd ⟨h2,h3⟩ h1⟩
 let A:Nat->Nat->Nat:=fun t u=>Classical.choose (ex t u)
 have exA:∀t u,∃w:Int,t<N->u<=n->A t u<=n/\D (t+1) u=D t (A t u)+w/\X (A t u)+w-F<=X u/\∀s,s<N->D s (A t u)+w<=D (s+1) u:=fun t u=>qcR (ex t u)
 let W:Nat->Nat->Int:=fun t u=>Classical.choose (exA t u)
 have sp:∀t u,t<N->u<=n->A t u<=n/\D (t+1) u=D t (A t u)+W t u/\X (A t u)+W t u-F<=X u/\∀s,s<N->D s (A t u)+W t u<=D (s+1) u:=fun t u=>qcR (exA t u)
 let U:Nat->Nat:=fun j=>Nat.rec v (fun j u=>A (N-1-j) u) j
 have U0:U 0=v:=rfl;have U1:∀j,U (j+1)=A (N-1-j) (U j):=fun j=>rfl
 have Un:∀j,j<=N->U j<=n:=fun j=>by
  induction j with
  |zero=>exact fun _=>hv
  |succ j ih=>exact fun hj=>by rw[U1];exact(sp (N-1-j) (U j) (by omega) (ih (by omega))).1
 have st:∀j,j<N->D (N-j) (U j)=D (N-(j+1)) (U (j+1))+W (N-1-j) (U j)/\X (U (j+1))+W (N-1-j) (U j)-F<=X (U j)/\∀s,s<N->D s (U (j+1))+W (N-1-j) (U j)<=D (s+1) (U j):=fun j hj=>by
  have:=sp (N-1-j) (U j) (by omega) (Un j (by omega));rw[show N-1-j+1=N-j by omega]at this;rw[U1,show N-(j+1)=N-1-j by omega];exact this.2
 obtain⟨i,j,hij,hj,e⟩:=pigeon (n:=N) (f:=U) fun i hi=>by have:=Un i hi;omega
 have c1:∀c,i+c<=N->D (N-i) (U i)-D (N-(i+c)) (U (i+c))-F*(c:Nat)<=X (U i)-X (U (i+c)):=fun c=>by
  induction c with
  |zero=>intro _;simp
  |succ c ih=>
   intro hc;have h1:=ih (by omega);have h2:=st (i+c) (by omega);have h3:F*((c+1:Nat):Int)=F*(c:Nat)+F:=by push_cast;rw[Int.mul_add,qaA]
   rw[h3,show i+(c+1)=i+c+1 by omega];omega
 have h1:=c1 (j-i) (by omega);rw[show i+(j-i)=j by omega,<-e]at h1;have c2:∀c,c<=i->D (N-j) (U j)+D (N-(i-c)) (U (i-c))-D (N-i) (U i)<=D (N-j+c) (U (i-c)):=fun c=>by
  induction c with
  |zero=>intro _;rw[qbW,qcO,e];omega
  |succ c ih=>
   intro hc;have h1:=ih (by omega);have h2:=st (i-(c+1)) (by omega);rw[show i-(c+1)+1=i-c by omega]at h2;have h3:=h2.2.2 (N-j+c) (by omega);rw[show N-j+(c+1)=N-j+c+1 by omega];omega
 have h2:=c2 i (qaE _);rw[qcS,U0,qbW,<-e]at h2;have h3:=h (N-j+i) (by omega);have h4:((N:Int)-((N-j+i:Nat):Int))=((j-i:Nat):Int):=by omega
 rw[h4]at h3;omega
end
theorem zrp {a b:Int}(h:0<b):(-(a/b))*b>= -a/\(-(a/b)-1)*b< -a:=by
 have h1:=Int.mul_ediv_add_emod a b;have h2:=Int.emod_nonneg a (show b≠0 by lia);have h3:=qcT a h;have h4:(-(a/b))*b= -(b*(a/b)):=by rw[Int.neg_mul,qcA]
 have h5:(-(a/b)-1)*b= -(b*(a/b))-b:=by rw[Int.sub_mul,h4,qcU]
 lia
section
variable {k m n N:Nat} {T L G:Nat->Int} {E:Nat->Nat->Int} {F:Int}
abbrev layD (c N:Nat)(E:Nat->Nat->Int):List D:=wL c fun t=> .lst (wI N (E t))
theorem mean_ok (N1:1<=N)(N9:N<=900)(hv:v<N):Ok (zbD [.lst (layD (N+1) N E),.int v]) fun x=>∃y:Int,(∃j,j<N/\E N v-E j v<=y*((N:Int)-j))/\(∀j,j<N->(y-1)*((N:Int)-j)<E N v-E j v)/\x= .val (.int y):=by
 have e1:((N+1:Nat):Int)-1=(N:Int):=by lia
 simp! only[↓zbD,↓zgj,e1,↓zgL];refine⟨zay (by lia) (by lia),by lia,zaH (fun ρ=>∃z,ρ=[.val (.lst (layD (N+1) N E)),.val (.int v),.val (.int N),z]) (fun j=> .int (-((E j v-E N v)/((N:Int)-j)))) ⟨_,rfl⟩ ?_ ?_⟩
 ·rintro j _ hj ⟨z,rfl⟩;simp! only[↓zgH,zao _ (show j<N+1 by lia),zao _ hv,atI_w1];exact⟨zkN (by lia) (by lia),_,rfl⟩
 ·rintro _ ⟨z,rfl⟩;obtain⟨y,e,⟨i,hi,h1⟩,h2⟩:=min_w (fun j=> -((E j v-E N v)/((N:Int)-j))) (c:=N) (by lia);have e:zoM (fun i j=>decide (i<j)) _=_:=e;simp! only[e];refine⟨y,⟨i,hi,?_⟩,fun j hj=>?_,rfl⟩
  ·have:=(zrp (a:=E i v-E N v) (b:=(N:Int)-i) (by lia)).1;rw[h1]at this;lia
  ·have h3:=h2 j hj;have h4:=(zrp (a:=E j v-E N v) (b:=(N:Int)-j) (by lia)).2;have h5:(y-1)*((N:Int)-j)<=(-((E j v-E N v)/((N:Int)-j))-1)*((N:Int)-j):=Int.mul_le_mul_of_nonneg_right (by lia) (by lia);lia
theorem far_ok (hn:n+1=m+k)(m1:1<=m)(n9:n<=800)(le:∀p,p<n->L p<=G p):
  Ok (zdB [zax k m n T L G]) fun x=>∃F:Int,(∃X,Feas k m n T L G F X)/\(∀X,¬Feas k m n T L G (F-1) X)/\x= .val (.int F):=by
 obtain⟨N,hN⟩:∃N,N=n+1:=⟨_,rfl⟩;have e1:(n:Int)+1=(N:Int):=by lia
 simp! only[↓zdB,↓zh9];refine(zkh true (by lia) (by lia)).mono ?_;rintro _ rfl;simp! only[];refine(zkh false (by lia) (by lia)).mono ?_;rintro _ rfl;simp! only[e1,zqH,cnt,if_true,qbQ,qa3,↓zh7];refine⟨⟨⟨by lia,by lia⟩,by lia⟩,zay (by lia) (by lia),zbm (fun i ρ=>∃(E:Nat->Nat->Int) (z:Sl),(∀t,t<i->Lay k m n T L G (E t) (E (t+1)))/\ρ=[.val (zax k m n T L G),.val (.lst ((suP k m T L G).map tD)),.val (.lst ((plP k n T L G).map tD)),.val (.int N),.own (layD (i+1) N E),z]) ⟨fun _ _=>0,_,fun t h=>by lia,rfl⟩ ?_ ?_⟩
 ·rintro i _ hi ⟨E,z,ly,rfl⟩;simp! only[↓zhD,atI_w1];rw[hN];refine(zqy hn m1 (by lia) le).mono ?_;rintro _ ⟨g,lg,rfl⟩;simp! only[];refine⟨by lia,upf E (i+1) g,.val (.int i),fun t ht=>?_,?_⟩
  ·by_cases e:t=i
   ·subst e;rw[zaI _ _ (by lia),za8];exact lg
   ·rw[zaI _ _ (by lia),zaI _ _ (by lia)];exact ly t (by lia)
  ·have e:layD (i+1+1) (n+1) (upf E (i+1) g)=layD (i+1) (n+1) E++[.lst (wI (n+1) g)]:=by
    rw[show layD (i+1+1) (n+1) (upf E (i+1) g)=_ from zea _ _,za8];congr 1;exact zcG fun t ht=>by rw[zaI _ _ (by lia)]
   rw[e]
 ·rintro _ ⟨E,z,ly,rfl⟩;simp! only[↓zhS];have ex:∀v,∃y:Int,v<N->(∃j,j<N/\E N v-E j v<=y*((N:Int)-j))/\(∀j,j<N->(y-1)*((N:Int)-j)<E N v-E j v)/\zbD [.lst (layD (N+1) N E),.int v]=some (.val (.int y)):=fun v=>by
   by_cases hv:v<N
   ·obtain⟨_,e,y,h1,h2,rfl⟩:=mean_ok (E:=E) (by lia) (by lia) hv;exact⟨y,fun _=>⟨h1,h2,e⟩⟩
   ·exact⟨0,fun h=>absurd h hv⟩
  let Y:Nat->Int:=fun v=>Classical.choose (ex v)
  have hY:∀v,v<N->(∃j,j<N/\E N v-E j v<=Y v*((N:Int)-j))/\(∀j,j<N->(Y v-1)*((N:Int)-j)<E N v-E j v)/\zbD [.lst (layD (N+1) N E),.int v]=some (.val (.int (Y v))):=fun v=>qcR (ex v)
  refine⟨zay (by lia) (by lia),by lia,zaH (fun ρ=>∃z,ρ=[.val (.lst (layD (N+1) N E)),z]) (fun v=> .int (Y v)) ⟨_,rfl⟩ ?_ ?_⟩
  ·rintro v _ hv ⟨z,rfl⟩;simp! only[↓zhQ,(hY v hv).2.2];exact⟨_,rfl⟩
  ·rintro _ ⟨z,rfl⟩;obtain⟨F,e,⟨i,hi,h1⟩,h2⟩:=max_w Y (c:=N) (by lia);have e:zoM (fun i j=>decide (i>j)) _=_:=e;simp! only[e];refine⟨F,feas_ex (N:=N) (D:=E) (by lia) ly hn fun v hv=>?_,fun X=>no_feas (N:=N) (D:=E) hn hN ly (v:=i) (by lia) fun j hj=>?_,rfl⟩
   ·obtain⟨j,hj,h3⟩:=(hY v (by lia)).1;refine⟨j,hj,qcQ h3 (Int.mul_le_mul_of_nonneg_right (h2 v (by lia)) (by lia))⟩
   ·have:=(hY i hi).2.1 j hj;rw[h1]at this;exact this
end
section
variable {J:Type} [DecidableEq J]
theorem zlK (g:J->D)(x:J):∀ks:List J,lkD ks (ks.map g) x=if x∈ks then some (g x)else none
 |[]=>rfl
 |q::ks=>by
  rw[qbc,lkD,zlK g x ks]
  by_cases e:q=x
  ·subst e;simp
  ·have e2:x≠q:=fun z=>e z.symm
   simp[e,e2]
def pkJ (x:J)(ks:List J):List J:=if x∈ks then ks else ks++[x]
theorem zsM (g:J->D)(x:J)(d:D)(ks:List J):ptD ks (ks.map g) x d=(pkJ x ks,(pkJ x ks).map fun y=>if y=x then d else g y):=by
 unfold ptD pkJ
 by_cases h:x∈ks
 ·rw[if_pos (List.contains_iff_mem.mpr h),if_pos h];congr 1;clear h
  induction ks with
  |nil=>rfl
  |cons q ks ih=>
   rw[qbc,qbc,List.zipWith_cons_cons,ih]
 ·rw[if_neg (fun c=>h (List.contains_iff_mem.mp c)),if_neg h];congr 1;rw[qcj];congr 1
  ·apply qci;intro y hy;have:y≠x:=fun z=>h (z ▸ hy)
   simp[this]
  ·simp
theorem pk_mem {x y:J}{ks:List J}:y∈pkJ x ks↔y∈ks\/y=x:=by
 unfold pkJ
 by_cases q:x∈ks
 ·rw[if_pos q];exact⟨.inl,fun h=>h.elim id fun e=>e ▸ q⟩
 ·rw[if_neg q];simp
end
section
variable {k m n:Nat} {T L G:Nat->Int} {F:Int}
def tie (k:Nat)(T L G:Nat->Int)(F:Int)(s:Sp):Tt:=((spw k T L G s).1,(spw k T L G s).2.1,if s.1 then F-(spw k T L G s).2.2 else-(spw k T L G s).2.2)
abbrev allS (m n:Nat):List Sp:=stL false n++stL true m
abbrev farT (k m n:Nat)(T L G:Nat->Int)(F:Int):List Tt:=(allS m n).map (tie k T L G F)
theorem mem_all {s:Sp}:s∈allS m n↔s.2.1<cnt m n s.1:=by
 rw[qan,mem_stL,mem_stL];obtain⟨b,i,u⟩:=s;cases b<;>simp[cnt]
theorem zq0 (m9:m<=1000)(n9:n<=1000):Ok (zcT [zax k m n T L G,.int F]) fun x=>x= .val (.lst ((farT k m n T L G F).map tD)):=by
 simp! only[↓zcT,↓zjx,↓ziR];refine(zkh false m9 n9).mono ?_;rintro _ rfl;have l1:=zjK false n;have l2:=zjK true m;simp! only[cnt,qbQ,qa3];refine⟨by lia,?_⟩;rw[qch (l:=stL false n)];refine zir (enc:=tD ∘ spw k T L G) (l:=stL false n) (fun ρ=>∃a b c,ρ=[a,b,c]) (fun s=>tD (tie k T L G F s)) ⟨_,_,_,rfl⟩ ?_ ?_
 ·rintro s _ hs ⟨a,b,c,rfl⟩;obtain⟨e,h⟩:=mem_stL.mp hs;simp! only[Function.comp,tD,↓zi0,tie,e,qbQ,qa3];exact⟨_,_,_,rfl⟩
 rintro _ ⟨a,b,c,rfl⟩;simp! only[↓zi8];refine(zkh true m9 n9).mono ?_;rintro _ rfl;simp! only[cnt,if_true];refine⟨by lia,?_⟩;rw[qch (l:=stL true m)];refine zir (enc:=tD ∘ spw k T L G) (l:=stL true m) (fun ρ=>∃a b c,ρ=[.val (.int F),a,b,c]) (fun s=>tD (tie k T L G F s)) ⟨_,_,_,rfl⟩ ?_ ?_
 ·rintro s _ hs ⟨a,b,c,rfl⟩;obtain⟨e,h⟩:=mem_stL.mp hs;simp! only[Function.comp,tD,↓zi4,tie,e,if_true];exact⟨_,_,_,rfl⟩
 rintro _ ⟨a,b,c,rfl⟩;simp! only[];refine⟨by lia,?_⟩;unfold farT allS;rw[qcj,qcj,qch,qch]
 rfl
theorem feas_tie (f:Feas k m n T L G F X){s:Sp}(h:s.2.1<cnt m n s.1):X (tie k T L G F s).1<=X (tie k T L G F s).2.1+(tie k T L G F s).2.2:=by
 obtain⟨b,i,u⟩:=s;cases b<;>cases u<;>simp only[cnt,if_true,qbQ,qa3]at h<;>simp only[tie,spw,if_true,qbQ,qa3]
 ·have:=f.hi i h;lia
 ·have:=f.lo i h;lia
 ·have:=f.dn i h;lia
 ·have:=f.up i h;lia
theorem zpY (h:∀t,t∈farT k m n T L G F->X t.1<=X t.2.1+t.2.2):Feas k m n T L G F X:=by
 have h2:∀s:Sp,s.2.1<cnt m n s.1->X (tie k T L G F s).1<=X (tie k T L G F s).2.1+(tie k T L G F s).2.2:=fun s hs=>h _ (List.mem_map_of_mem (mem_all.mpr hs))
 refine⟨fun i hi=>?_,fun i hi=>?_,fun p hp=>?_,fun p hp=>?_⟩
 ·have:=h2 (true,i,true) hi;simp only[tie,spw,if_true]at this;lia
 ·have:=h2 (true,i,false) hi;simp only[tie,spw,if_true]at this;lia
 ·have:=h2 (false,p,true) hp;simp only[tie,spw,qbQ,qa3]at this;lia
 ·have:=h2 (false,p,false) hp;simp only[tie,spw,qbQ,qa3]at this;lia
theorem far_bd (hn:n+1=m+k)(k1:1<=k){t:Tt}(ht:t∈farT k m n T L G F):t.1<n+1/\t.2.1<n+1/\t.1≠t.2.1:=by
 obtain⟨s,hs,rfl⟩:=qbS.mp ht;have h:=mem_all.mp hs;obtain⟨b,i,u⟩:=s;cases b<;>cases u<;>simp only[cnt,if_true,qbQ,qa3]at h<;>simp only[tie,spw]<;>lia
theorem far_ch (hp:p<n):∃a,(p+1,p,a)∈farT k m n T L G F:=⟨_,qbS.mpr ⟨(false,p,false),mem_all.mpr hp,rfl⟩⟩
theorem row_ok (hn:n+1=m+k)(k1:1<=k)(n9:n<=800)(f:∃X,Feas k m n T L G F X):Ok (za9 [.lst ((farT k m n T L G F).map tD),.int n]) fun x=>∃X,Feas k m n T L G F X/\x= .val (.tup (wI n fun p=>X (p+1)-X p)):=by
 obtain⟨X,f⟩:=f;refine(zso (n:=n) (ts:=farT k m n T L G F) (by lia) (fun t ht=>far_bd hn k1 ht) (fun c v w home _ tt=>?_) (fun p hp=>far_ch hp)).mono ?_
 ·have key:∀c,(∀i,i<c->(v i,v (i+1),w i)∈farT k m n T L G F)->X (v 0)-X (v c)<=sumR c w:=fun c=>by
   induction c with
   |zero=>intro _;show X (v 0)-X (v 0)<=0;lia
   |succ c ih=>
    intro h;have h1:=ih fun i hi=>h i (by lia)
    obtain⟨s,hs,e⟩:=qbS.mp (h c (by lia));have h2:=feas_tie (F:=F) f (mem_all.mp hs);rw[e]at h2;show _<=sumR c w+w c
    (try dsimp only at h2)
    lia
  have:=key c tt;rw[home]at this;lia
 ·rintro _ ⟨X,h,rfl⟩;exact⟨X,zpY h,rfl⟩
end
structure Way (k m n:Nat) (T L G:Nat->Int) (F:Int) (c:Nat) (st:Nat->Sp):Prop where
 pos:1<=c
 c9:c<=1000
 ok:∀i,i<c->(st i).2.1<cnt m n (st i).1
 nx:∀i,i<c->(spw k T L G (st i)).2.1=(spw k T L G (st (if i+1=c then 0 else i+1))).1
 neg:F*sumR c (fun i=>if(st i).1 then 1 else 0)<sumR c fun i=>(spw k T L G (st i)).2.2
def dec (k:Nat)(a b:Nat):Sp:=if b=a+1 then(false,a,true)else if a=b+1 then(false,b,false)else if b=a+k then(true,a,true)else(true,b,false)
theorem zqQ {T L G:Nat->Int}(k2:2<=k)(s:Sp):dec k (spw k T L G s).1 (spw k T L G s).2.1=s:=by
 obtain⟨b,i,u⟩:=s;cases b<;>cases u
 ·show dec k (i+1) i=_;unfold dec;rw[if_neg (by lia),if_pos rfl]
 ·show dec k i (i+1)=_;unfold dec;rw[if_pos rfl]
 ·show dec k (i+k) i=_;unfold dec;rw[if_neg (by lia),if_neg (by lia),if_neg (by lia)]
 ·show dec k i (i+k)=_;unfold dec;rw[if_neg (by lia),if_neg (by lia),if_pos rfl]
def kyG (k:Nat)(r:List Int):D:=sD (dec k (r.getD 0 0).toNat (r.getD 1 0).toNat)
abbrev kyS (k:Nat)(T L G:Nat->Int)(s:Sp):List Int:=[((spw k T L G s).1:Int),((spw k T L G s).2.1:Int)]
theorem kyG_s {T L G:Nat->Int}(k2:2<=k)(s:Sp):kyG k (kyS k T L G s)=sD s:=by
 show sD (dec k (spw k T L G s).1 (spw k T L G s).2.1)=sD s;rw[zqQ k2]
section
variable {k m n:Nat} {T L G:Nat->Int} {F:Int}
theorem key2 (a b:Int):keyT (.tup [.int a,.int b])=some [a,b]:=rfl
theorem cut2 (a b c:D):cutD [a,b,c] none (some 2)=[a,b]:=zhn [a,b,c] 2
theorem zsO (k2:2<=k)(m9:m<=1000)(n9:n<=1000)(a1 a2 a3:Sl)
  (hQ:∀ks a5,(∀s,s∈allS m n->kyS k T L G s∈ks)->Q (.next,[.val (zax k m n T L G),a1,a2,a3,.tre (.dit ks (ks.map (kyG k))),a5])):
  Ok (zdu [.val (zax k m n T L G),a1,a2,a3,.tre (.dit [] []),.emp]) Q:=by
 simp! only[↓zdu];refine(zlS false m9 n9).mono ?_;rintro _ rfl;simp! only[];refine(zlS true m9 n9).mono ?_;rintro _ rfl;have l1:=zjK false n;have l2:=zjK true m;simp! only[cnt,qbQ,qa3,if_true];refine⟨by lia,?_⟩;rw[<-qcj];refine zjS (enc:=sD) (l:=allS m n) (fun i ρ=>∃ks a5,ks.length<=i/\(∀s,s∈(allS m n).take i->kyS k T L G s∈ks)/\ρ=[.val (zax k m n T L G),a1,a2,a3,.tre (.dit ks (ks.map (kyG k))),a5]) ⟨[],_,by simp,by simp,rfl⟩ ?_ ?_
 ·rintro i s _ hi ⟨ks,a5,kl,hk,rfl⟩;have mem:=qaV hi;have il:i<(allS m n).length:=by
   rcases Nat.lt_or_ge i (allS m n).length with h|h
   ·exact h
   ·rw[qbU h]at hi;cases hi
  rw[qaW,l1,l2]at il;simp! only[↓zgG];refine(zst s (mem_all.mp mem)).mono ?_;rintro _ rfl;have e1:=zsM (kyG k) (kyS k T L G s) (sD s) ks;have e2:(fun y=>if y=kyS k T L G s then sD s else kyG k y)=kyG k:=by
   funext y
   by_cases e:y=kyS k T L G s
   ·rw[if_pos e,e,kyG_s k2]
   ·rw[if_neg e]
  rw[e2]at e1;simp! only[tD,cut2,key2,e1];refine⟨by lia,pkJ (kyS k T L G s) ks,_,?_,fun s' hs'=>?_,rfl⟩
  ·unfold pkJ;split
   ·lia
   ·simp;lia
  ·rw[zng hi,qan,qcg]at hs';rw[pk_mem];rcases hs' with h|rfl
   ·exact .inl (hk s' h)
   ·exact .inr rfl
 ·rintro _ ⟨ks,a5,kl,hk,rfl⟩;rw[qbT (qaE _)]at hk;exact hQ ks a5 hk
end
section
variable {k m n:Nat} {T L G:Nat->Int} {F:Int} {ts:List Tt}
theorem pot_ex (hb:∀t,t∈ts->t.1<n+1/\t.2.1<n+1/\t.1≠t.2.1)(ch:∀p,p<n->∃a,(p+1,p,a)∈ts)
  (b:BI ts.length (fun q=>(tAt ts q).1) (fun q=>(tAt ts q).2.1) (fun q=>(tAt ts q).2.2) 0 (n+1) 0 d u us) (h:∀v,us v<=n*ts.length):∃X:Nat->Int,∀t,t∈ts->X t.1<=X t.2.1+t.2.2:=by
 have kt:∀t,t∈ts->∀y,d t.2.1=some y->∃x,d t.1=some x/\x<=y+t.2.2:=fun t ht=>by
  obtain⟨q,hq,rfl⟩:=qcP ht;have:=b.kept (t:=n) h hq;unfold Kept at this;have e:tAt ts q=ts[q]:=by unfold tAt;rw[qcy,qbF hq];rfl
  (try dsimp only at this)
  rw[e]at this;exact this
 have dv:∀v,v<=n->∃x,d v=some x:=fun v=>by
  induction v with
  |zero=>exact fun _=>b.st
  |succ v ih=>
   intro hv;obtain⟨x,hx⟩:=ih (by lia);obtain⟨a,ha⟩:=ch v (by lia);obtain⟨y,hy,_⟩:=kt _ ha x hx;exact⟨y,hy⟩
 refine⟨fun v=>(d v).getD 0,fun t ht=>?_⟩;obtain⟨h1,h2,_⟩:=hb t ht;obtain⟨y,hy⟩:=dv t.2.1 (by lia);obtain⟨x,hx,hxy⟩:=kt t ht y hy
 (try dsimp only)
 rw[hx,hy];exact hxy
theorem turn_w (c1:1<=c)(f:Nat->Int)(h:f c=f 0):cutD (wI c f) (some 1) none++cutD (wI c f) none (some 1)=wI c fun i=>f (i+1):=by
 obtain⟨e,rfl⟩:∃e,c=e+1:=⟨c-1,by lia⟩;rw[show cutD (wI (e+1) f) (some 1) none=(wI (e+1) f).drop 1 from zhp _ 1,show cutD (wI (e+1) f) none (some 1)=(wI (e+1) f).take 1 from zhn _ 1];rw[show wI (e+1) (fun i=>f (i+1))=(wI e fun i=>f (i+1))++[.int (f (e+1))]from zea _ _,h];have s:wI (e+1) f= .int (f 0)::wI e fun i=>f (i+1):=by simp[wL,List.range_succ_eq_map,qct]
 rw[s]
 rfl
theorem zq6 (hn:n+1=m+k)(k2:2<=k)(n9:n<=300)(nf:∀X,¬Feas k m n T L G F X):Ok (zda [zax k m n T L G,.int F]) fun x=>∃c st,Way k m n T L G F c st/\x= .own (wL c fun i=>sD (st i)):=by
 have e1:(n:Int)+1=((n+1:Nat):Int):=by lia
 have hb:∀t,t∈farT k m n T L G F->t.1<n+1/\t.2.1<n+1/\t.1≠t.2.1:=fun t ht=>far_bd hn (by lia) ht
 have at_:∀q,q<(farT k m n T L G F).length->tAt (farT k m n T L G F) q∈farT k m n T L G F:=fun q h=>zsh h
 simp! only[↓zda,↓zgN];refine(zq0 (by lia) (by lia)).mono ?_;rintro _ rfl;obtain⟨ts,hts⟩:∃ts,ts=farT k m n T L G F:=⟨_,rfl⟩;rw[<-hts]at hb at_ ⊢;simp! only[ties_w,e1];refine(zn1 (s:=0) (by lia) (by lia) (by lia) (fun q hq=>(hb _ (at_ q hq)).1) (fun q hq=>(hb _ (at_ q hq)).2.1) (fun q hq=>(hb _ (at_ q hq)).2.2)).mono ?_;rintro _ ⟨d,u,f,⟨us,b,hf⟩,rfl⟩;rcases hf with⟨_,h⟩|⟨l,rfl,h⟩
 ·obtain⟨X,hX⟩:=pot_ex hb (fun p hp=>by rw[hts];exact far_ch hp) b h;rw[hts]at hX;exact absurd (zpY hX) (nf X)
 simp! only[uO];refine(loop_ok b h n9 (fun q hq=>(hb _ (at_ q hq)).1) (fun q hq=>(hb _ (at_ q hq)).2.1) (fun q hq=>(hb _ (at_ q hq)).2.2)).mono ?_;rintro _ ⟨c,qs,cn,R,rfl⟩;simp! only[];refine zsO k2 (by lia) (by lia) _ _ _ fun ks a5 hk=>?_
 have c1:=R.pos;obtain⟨V,hV⟩:∃V:Nat->Nat,V=fun i=>back u (back u l (n+1)) i:=⟨_,rfl⟩
 have home:V c=V 0:=by rw[hV];exact R.home
 have tie_:∀i,i<c->∃s:Sp,s∈allS m n/\(spw k T L G s).1=V i/\(spw k T L G s).2.1=V (i+1)/\(tAt ts (qs i)).2.2=(tie k T L G F s).2.2:=fun i hi=>by
  obtain⟨h1,h2,h3⟩:=R.tie i hi;have h4:=at_ _ h1;rw[hts]at h4;obtain⟨s,hs,e⟩:=qbS.mp h4;rw[<-hts]at e
  (try dsimp only at h2 h3)
  rw[<-e]at h2 h3 ⊢;exact⟨s,hs,by rw[hV];exact h2,by rw[hV];exact h3,rfl⟩
 have st_:∀i,i<c->dec k (V i) (V (i+1))∈allS m n/\(spw k T L G (dec k (V i) (V (i+1)))).1=V i/\(spw k T L G (dec k (V i) (V (i+1)))).2.1=V (i+1)/\(tAt ts (qs i)).2.2=(tie k T L G F (dec k (V i) (V (i+1)))).2.2:=fun i hi=>by
  obtain⟨s,h1,h2,h3,h4⟩:=tie_ i hi;have:dec k (V i) (V (i+1))=s:=by rw[<-h2,<-h3,zqQ k2]
  rw[this];exact⟨h1,h2,h3,h4⟩
 have ew:(wI c fun i=>((back u (back u l (n+1)) i:Nat):Int))=wI c fun i=>(V i:Int):=by rw[hV]
 rw[ew];have et:=turn_w c1 (fun i=>(V i:Int)) (by rw[home]);simp! only[et,↓zgn,zkI];refine⟨by rw[<-qaW,et,zaF];lia,by lia,zaH (fun ρ=>∃z,ρ=[.val (.dit ks (ks.map (kyG k))),z]) (fun i=>sD (dec k (V i) (V (i+1)))) ⟨_,rfl⟩ ?_ ?_⟩
 ·rintro i _ hi ⟨z,rfl⟩;obtain⟨h1,h2,h3,_⟩:=st_ i hi;have mem:=hk _ h1;rw[show kyS k T L G (dec k (V i) (V (i+1)))=[(V i:Int),(V (i+1):Int)] by unfold kyS;rw[h2,h3]]at mem;simp! only[↓zf8,key2,zlK,if_pos mem];exact⟨rfl,_,rfl⟩
 ·rintro _ ⟨z,rfl⟩;simp! only[];refine⟨c,fun i=>dec k (V i) (V (i+1)),⟨c1,by lia,fun i hi=>mem_all.mp (st_ i hi).1,fun i hi=>?_,?_⟩,rfl⟩
  ·(try dsimp only)
   rw[(st_ i hi).2.2.1]
   by_cases e:i+1=c
   ·rw[if_pos e,e,home];exact(st_ 0 (by lia)).2.1.symm
   ·rw[if_neg e];exact(st_ (i+1) (by lia)).2.1.symm
  ·have h1:=R.neg;have h2:(sumR c fun i=>(tAt ts (qs i)).2.2)=F*(sumR c fun i=>if(dec k (V i) (V (i+1))).1 then 1 else 0)-sumR c fun i=>(spw k T L G (dec k (V i) (V (i+1)))).2.2:=by
    rw[<-zpU,<-zmd];refine zak fun i hi=>?_
    rw[(st_ i hi).2.2.2];unfold tie
    (try dsimp only)
    split
    ·rw[qaA]
    ·rw[Int.mul_zero];lia
   (try dsimp only at h1 ⊢)
   lia
inductive OffW (k m n:Nat) (T L G:Nat->Int) (F:Int):D->Prop
 |no:F=0->OffW k m n T L G F .non
 |way {c:Nat} {st:Nat->Sp}:F≠0->Way k m n T L G (F-1) c st->OffW k m n T L G F (.lst (wL c fun i=>sD (st i)))
theorem off_ok (hn:n+1=m+k)(k2:2<=k)(m1:1<=m)(n9:n<=300)(le:∀p,p<n->L p<=G p):
  Ok (zct [zax k m n T L G]) fun x=>∃F X w,Feas k m n T L G F X/\(∀X,¬Feas k m n T L G (F-1) X)/\OffW k m n T L G F w/\x= .val (.tup [.int F,.tup (wI n fun p=>X (p+1)-X p),w]):=by
 simp! only[↓zct,↓zjp];refine(far_ok hn m1 (by lia) le).mono ?_;rintro _ ⟨F,f,nf,rfl⟩;simp! only[];refine(zq0 (by lia) (by lia)).mono ?_;rintro _ rfl;simp! only[];refine(row_ok hn (by lia) (by lia) f).mono ?_;rintro _ ⟨X,fX,rfl⟩;simp! only[];refine⟨fun z=>⟨F,X,_,fX,nf,.no z,rfl⟩,fun z=>?_⟩;refine(zq6 hn k2 n9 nf).mono ?_;rintro _ ⟨c,st,w,rfl⟩;simp! only[];exact⟨F,X,_,fX,nf,.way z w,rfl⟩
end
theorem rep_w (n:Nat)(x:D):(List.replicate n [x]).flatten=wL n fun _=>x:=by
 induction n with
 |zero=>rfl
 |succ n ih=>rw[List.replicate_succ',List.flatten_append,ih,zea];rfl
theorem zrs (a b:Nat->Int)(hn:n<=1000):Ok (zbK [.tup (wI n a),.lst (wI n b)]) fun x=>x= .own (wI n fun p=>a p-b p):=by
 simp! only[↓zbK,↓zg4,↓zgq,zkI];refine⟨by lia,zaH (fun ρ=>∃s s',ρ=[s,s']) (fun p=> .int (a p-b p)) ⟨_,_,rfl⟩ ?_ ?_⟩
 ·rintro i _ hi ⟨s,s',rfl⟩;simp! only[↓zgw];exact⟨_,_,rfl⟩
 ·rintro _ ⟨_,_,rfl⟩;simp! only[]
structure Span (f g:Nat->Int) (n m:Nat) (lo hi:Nat->Int):Prop where
 lm:∀j,j<m->∃p,p<n/\p%m=j/\f p=lo j
 lg:∀p,p<n->f p<=lo (p%m)
 hm:∀j,j<m->∃p,p<n/\p%m=j/\g p=hi j
 hg:∀p,p<n->hi (p%m)<=g p
def zaY (m:Nat)(lo hi:Nat->Int):List D:=wL m fun j=> .tup [.int (lo j),.int (hi j)]
theorem zmx (f g:Nat->Int){n m:Nat}(hm:0<m)(hn:m<=n):∃lo hi:Nat->Int,Span f g n m lo hi/\∀j,j<m->zmu [.lst (zcF (wI n f) (some (j:Int)) none (some (m:Int)))]=some (.int (lo j))/\zlT [.lst (zcF (wI n g) (some (j:Int)) none (some (m:Int)))]=some (.int (hi j)):=by
 have h1:∀j,∃v,j<m->zmu [.lst (zcF (wI n f) (some (j:Int)) none (some (m:Int)))]=some (.int v)/\(∃p,p<n/\p%m=j/\f p=v)/\∀p,p<n->p%m=j->f p<=v:=fun j=>by
  by_cases hj:j<m
  ·obtain⟨v,h⟩:=max_pick f hm hj hn;exact⟨v,fun _=>h⟩
  ·exact⟨0,fun h=>absurd h hj⟩
 have h2:∀j,∃v,j<m->zlT [.lst (zcF (wI n g) (some (j:Int)) none (some (m:Int)))]=some (.int v)/\(∃p,p<n/\p%m=j/\g p=v)/\∀p,p<n->p%m=j->v<=g p:=fun j=>by
  by_cases hj:j<m
  ·obtain⟨v,h⟩:=min_pick g hm hj hn;exact⟨v,fun _=>h⟩
  ·exact⟨0,fun h=>absurd h hj⟩
 refine⟨fun j=>(h1 j).choose,fun j=>(h2 j).choose,⟨fun j hj=>((h1 j).choose_spec hj).2.1,fun p hp=>((h1 (p%m)).choose_spec (qcV _ hm)).2.2 p hp rfl,fun j hj=>((h2 j).choose_spec hj).2.1,fun p hp=>((h2 (p%m)).choose_spec (qcV _ hm)).2.2 p hp rfl⟩,fun j hj=>⟨((h1 j).choose_spec hj).1,((h2 j).choose_spec hj).1⟩⟩
theorem zno {f g:Nat->Int}(s:Span f g n m lo hi)(t:Span f g n m lo' hi')(hj:j<m):lo j=lo' j/\hi j=hi' j:=by
 obtain⟨p,h1,h2,h3⟩:=s.lm j hj;obtain⟨p',h1',h2',h3'⟩:=t.lm j hj;obtain⟨q,k1,k2,k3⟩:=s.hm j hj;obtain⟨q',k1',k2',k3'⟩:=t.hm j hj;have a1:=s.lg p' h1';have a2:=t.lg p h1;have a3:=s.hg q' k1';have a4:=t.hg q k1;rw[h2']at a1;rw[h2]at a2;rw[k2']at a3;rw[k2]at a4;lia
theorem zpt {f g:Nat->Int}(hm:0<m)(hn:m<=n)(h24:n<=1000)(sp:Span f g n m lo hi):Ok (zbE [.lst (wI n f),.lst (wI n g),.int m]) fun x=>x= .own (zaY m lo hi):=by
 obtain⟨lo',hi',sp',e⟩:=zmx f g hm hn;have el:zaY m lo' hi'=zaY m lo hi:=zcG fun j hj=>by rw[(zno sp' sp hj).1,(zno sp' sp hj).2]
 rw[<-el];simp! only[↓zbE,↓zg1,↓zgS];refine⟨zay (by lia) (by lia),by lia,zaH (fun ρ=>∃s,ρ=[.val (.lst (wI n f)),.val (.int m),.val (.lst (wI n g)),s]) (fun j=> .tup [.int (lo' j),.int (hi' j)]) ⟨_,rfl⟩ ?_ ?_⟩
 ·rintro j _ hj ⟨s,rfl⟩;have hk0:¬(some (m:Int)=some 0):=by intro h;have:=Option.some.inj h;lia
  obtain⟨e1,e2⟩:=e j hj;unfold zmu at e1;unfold zlT at e2;simp! only[↓zg7,zr0,hk0,e1,e2];exact⟨_,rfl⟩
 ·rintro _ ⟨s,rfl⟩;simp! only[]
  rfl
theorem znx {f:Nat->Int}(hm:0<m)(hmn:m<=n)(h24:n<=1000){e:Nat->Int}(he:∀j,j<m->∃p,p<n/\p%m=j/\f p=e j):
  Ok (zbg [.lst (wI n f),.lst (wI m e)]) fun x=>∃pl:Nat->Nat,(∀j,j<m->pl j<n/\pl j%m=j/\f (pl j)=e j)/\x= .val (.tup (wI m fun j=>(pl j:Nat))):=by
 have h1:∀j,∃i:Nat,j<m->znv (.lst (zcF (wI n f) (some (j:Int)) none (some (m:Int)))) (.int (e j))=some (.int i)/\j+i*m<n/\f (j+i*m)=e j:=fun j=>by
  by_cases hj:j<m
  ·obtain⟨i,h⟩:=zqo f hm hj (he j hj);exact⟨i,fun _=>h⟩
  ·exact⟨0,fun h=>absurd h hj⟩
 have hk0:¬(some (m:Int)=some 0):=by intro h;have:=Option.some.inj h;lia
 simp! only[↓zbg,↓zdU,↓zd2];refine⟨zay (by lia) (by lia),by lia,zaH (fun ρ=>∃s,ρ=[.val (.int m),.val (.lst (wI n f)),.val (.lst (wI m e)),s]) (fun j=> .int ((j+(h1 j).choose*m:Nat):Int)) ⟨_,rfl⟩ ?_ ?_⟩
 ·rintro j _ hj ⟨s,rfl⟩;obtain⟨e1,-,-⟩:=(h1 j).choose_spec hj
  generalize (h1 j).choose=i at*
  have ee:(j:Int)+(m:Int)*(i:Int)=((j+i*m:Nat):Int):=by push_cast;rw[qcA]
  simp! only[↓zdV,zr0,hk0,e1,zao _ hj,ee];exact⟨zdi (by lia),_,rfl⟩
 ·rintro _ ⟨s,rfl⟩;simp! only[];exact⟨_,fun j hj=>⟨((h1 j).choose_spec hj).2.1,by rw[qcE,qcF hj],((h1 j).choose_spec hj).2.2⟩,rfl⟩
structure Room' (m:Nat) (lo hi:Nat->Int) (t:Int):Prop where
 le:∀j,j<m->lo j<=hi j
 low:sumR m lo<=t
 high:t<=sumR m hi
def Paper (f g:Nat->Int)(n m:Nat)(t:Int)(d:D):Prop:=
 (∃a b:Nat,a<n/\b<n/\a%m=b%m/\f a>g b/\d= .tup [.str "clash",.int a,.int b])\/
 (∃pl:Nat->Nat,(∀j,j<m->pl j<n/\pl j%m=j)/\sumR m (fun j=>f (pl j))>t/\d= .tup [.str "low",.tup (wI m fun j=>(pl j:Nat))])\/
 (∃pl:Nat->Nat,(∀j,j<m->pl j<n/\pl j%m=j)/\sumR m (fun j=>g (pl j))<t/\d= .tup [.str "high",.tup (wI m fun j=>(pl j:Nat))])
theorem zmn {f g:Nat->Int}(hm:0<m)(hn:m<=n)(h24:n<=1000)(t:Int)(sp:Span f g n m lo hi):
  Ok (zcI [.lst (wI n f),.lst (wI n g),.int m,.int t]) fun x=>(Room' m lo hi t/\x= .val .non)\/(¬Room' m lo hi t/\∃d,Paper f g n m t d/\x= .val d):=by
 simp! only[↓zcI,↓ze9];refine(zpt hm hn h24 sp).mono ?_;rintro _ rfl;simp! only[↓zfL,zaY];refine⟨by lia,zaH (fun ρ=>∃s s',ρ=[s,s']) (fun j=> .int (lo j)) ⟨_,_,rfl⟩ ?_ ?_⟩
 ·rintro j _ hj ⟨s,s',rfl⟩;simp! only[↓zfU];exact⟨_,_,rfl⟩
 rintro _ ⟨_,_,rfl⟩;simp! only[↓zfE];refine⟨by lia,zaH (fun ρ=>∃s s',ρ=[s,s']) (fun j=> .int (hi j)) ⟨_,_,rfl⟩ ?_ ?_⟩
 ·rintro j _ hj ⟨s,s',rfl⟩;simp! only[↓zfD];exact⟨_,_,rfl⟩
 rintro _ ⟨_,_,rfl⟩;simp! only[];refine(znx hm hn h24 sp.lm).mono ?_;rintro _ ⟨pl,hpl,rfl⟩;simp! only[];refine(znx hm hn h24 sp.hm).mono ?_;rintro _ ⟨ph,hph,rfl⟩;simp! only[↓zfH];refine⟨zay (by lia) (by lia),zbm (fun i ρ=>(∀j,j<i->lo j<=hi j)/\∃s,ρ=[.val (.lst (wI n f)),.val (.lst (wI n g)),.val (.int m),.val (.int t),.val (.lst (zaY m lo hi)),.val (.lst (wI m lo)),.val (.lst (wI m hi)),.val (.tup (wI m fun j=>(pl j:Nat))),.val (.tup (wI m fun j=>(ph j:Nat))),s]) ⟨fun _ h=>by lia,_,rfl⟩ ?_ ?_⟩
 ·rintro j _ hj ⟨hb,s,rfl⟩;simp! only[↓zfu,zao _ hj];refine⟨fun h=> .inr ⟨fun r=>by have:=r.le j hj;lia,_,.inl ⟨pl j,ph j,(hpl j hj).1,(hph j hj).1,by rw[(hpl j hj).2.1,(hph j hj).2.1],by rw[(hpl j hj).2.2,(hph j hj).2.2];exact h,rfl⟩,rfl⟩,fun h=>⟨fun j' hj'=>?_,_,rfl⟩⟩
  by_cases e:j'=j
  ·subst e;lia
  ·exact hb j' (by lia)
 rintro _ ⟨hb,s,rfl⟩;have el:sumR m (fun j=>f (pl j))=sumR m lo:=zak fun j hj=>(hpl j hj).2.2
 have eh:sumR m (fun j=>g (ph j))=sumR m hi:=zak fun j hj=>(hph j hj).2.2
 simp! only[zbz,zbq];refine⟨fun h=> .inr ⟨fun r=>by have:=r.low;lia,_,.inr (.inl ⟨pl,fun j hj=>⟨(hpl j hj).1,(hpl j hj).2.1⟩,by lia,rfl⟩),rfl⟩,fun h1=>?_⟩;simp! only[↓zfs,zbz,zbq];refine⟨fun h=> .inr ⟨fun r=>by have:=r.high;lia,_,.inr (.inr ⟨ph,fun j hj=>⟨(hph j hj).1,(hph j hj).2.1⟩,by lia,rfl⟩),rfl⟩,fun h2=>?_⟩;simp! only[↓zfv];exact .inl ⟨hb,by lia,by lia⟩
def left (lo hi:Nat->Int)(m:Nat)(t:Int):Nat->Int
 |0=>t
 |j+1=>left lo hi m t j-max2 (lo j) (left lo hi m t j-(sumR m hi-sumR (j+1) hi))
def hd (lo hi:Nat->Int)(m:Nat)(t:Int)(j:Nat):Int:=max2 (lo j) (left lo hi m t j-(sumR m hi-sumR (j+1) hi))
theorem zhK (lo hi:Nat->Int)(t:Int)(hm:m<=1000):Ok (zbo [.lst (zaY m lo hi),.int t]) fun x=>x= .own (wI m (hd lo hi m t)):=by
 simp! only[↓zbo,↓zff,↓zfB,zaY];refine⟨by lia,zaH (fun ρ=>∃s s',ρ=[s,s']) (fun j=> .int (hi j)) ⟨_,_,rfl⟩ ?_ ?_⟩
 ·rintro j _ hj ⟨s,s',rfl⟩;simp! only[↓zft];exact⟨_,_,rfl⟩
 rintro _ ⟨_,_,rfl⟩;simp! only[zbz,zbq,↓zfS];refine zbm (fun i ρ=>∃s5 s6 s7,ρ=[.val (.lst (zaY m lo hi)),.val (.int t),.own (wI i (hd lo hi m t)),.val (.int (left lo hi m t i)),.val (.int (sumR m hi-sumR i hi)),s5,s6,s7]) ⟨_,_,_,by rw[show sumR 0 hi=0 from rfl,qcp];rfl⟩ ?_ ?_
 ·rintro j _ hj ⟨s5,s6,s7,rfl⟩;simp! only[↓zfG];have e:sumR m hi-sumR j hi-hi j=sumR m hi-sumR (j+1) hi:=by simp only[sumR];lia
  rw[e];exact⟨by lia,_,_,_,by rw[show wI (j+1) (hd lo hi m t)=_ from zea _ _];rfl⟩
 ·rintro _ ⟨s5,s6,s7,rfl⟩;simp! only[]
theorem zmy (lo hi:Nat->Int)(m:Nat)(t:Int):∀j,left lo hi m t j=t-sumR j (hd lo hi m t)
 |0=>by simp[left,sumR]
 |j+1=>by rw[sumR,left,zmy lo hi m t j,hd,zmy lo hi m t j];lia
theorem zkq (a b:Int):(max2 a b=a\/max2 a b=b)/\a<=max2 a b/\b<=max2 a b:=by unfold max2;split<;>lia
theorem zoo (r:Room' m lo hi t):∀j,j<=m->sumR m lo-sumR j lo<=left lo hi m t j/\left lo hi m t j<=sumR m hi-sumR j hi
 |0,_=>by have:=r.low;have:=r.high;simp[left,sumR];lia
 |j+1,h=>by
  have ih:=zoo r j (by lia);have hj:=r.le j (by lia);obtain⟨c,c1,c2⟩:=zkq (lo j) (left lo hi m t j-(sumR m hi-sumR (j+1) hi));have e:left lo hi m t (j+1)=left lo hi m t j-max2 (lo j) (left lo hi m t j-(sumR m hi-sumR (j+1) hi)):=rfl;rw[e];have key:sumR m lo-sumR (j+1) lo<=sumR m hi-sumR (j+1) hi:=by
   obtain⟨b,rfl⟩:∃b,m=j+1+b:=⟨m-(j+1),by lia⟩;rw[zaR lo (j+1) b,zaR hi (j+1) b];have:=zfo (f:=fun i=>lo (j+1+i)) (g:=fun i=>hi (j+1+i)) (n:=b) fun i hi'=>r.le _ (by lia)
   lia
  simp only[sumR]at*;rcases c with c|c<;>rw[c]at c1 c2 ⊢ <;>lia
theorem zrF (r:Room' m lo hi t)(hj:j<m):lo j<=hd lo hi m t j/\hd lo hi m t j<=hi j:=by
 have h:=zoo r j (by lia);have hjj:=r.le j hj;obtain⟨c,c1,c2⟩:=zkq (lo j) (left lo hi m t j-(sumR m hi-sumR (j+1) hi));unfold hd;simp only[sumR]at*;rcases c with c|c<;>rw[c]at c1 c2 ⊢ <;>lia
theorem zpf (r:Room' m lo hi t):sumR m (hd lo hi m t)=t:=by
 have h:=zoo r m (qaE _);have e:=zmy lo hi m t m;lia
theorem hd_least {lo hi h':Nat->Int}(hh:∀j,j<m->lo j<=h' j/\h' j<=hi j)(hs:sumR m h'=t)(hj:j<m)(he:∀i,i<j->hd lo hi m t i=h' i):hd lo hi m t j<=h' j:=by
 have e:=zmy lo hi m t j;have e1:sumR j (hd lo hi m t)=sumR j h':=zak he;obtain⟨b,rfl⟩:∃b,m=j+1+b:=⟨m-(j+1),by lia⟩;have e2:=zaR h' (j+1) b;have e3:=zaR hi (j+1) b;have e4:=zfo (f:=fun i=>h' (j+1+i)) (g:=fun i=>hi (j+1+i)) (n:=b) fun i hi'=>(hh _ (by lia)).2
 have h1:=(hh j hj).1;unfold hd;obtain⟨c,c1,c2⟩:=zkq (lo j) (left lo hi (j+1+b) t j-(sumR (j+1+b) hi-sumR (j+1) hi));simp only[sumR]at*;rcases c with c|c<;>rw[c]<;>lia
theorem zoV (hm:0<m)(h24:n<=1000)(h mo:Nat->Int):Ok (zb5 [.lst (wI m h),.lst (wI n mo)]) fun x=>x= .val (.tup (wI n fun p=>h (p%m)+mo p)):=by
 simp! only[↓zb5,↓zd8,↓zet,zma];refine⟨by lia,zaH (fun ρ=>∃s s',ρ=[.val (.lst (wI m h)),.val (.int m),s,s']) (fun p=> .int (h (p%m)+mo p)) ⟨_,_,rfl⟩ ?_ ?_⟩
 ·rintro p _ hp ⟨s,s',rfl⟩;have e:(p:Int)%(m:Int)=((p%m:Nat):Int):=by push_cast;rfl
  simp! only[↓zeA,e,zao _ (qcV p hm)];exact⟨by lia,_,_,rfl⟩
 ·rintro _ ⟨_,_,rfl⟩;simp! only[]
structure Dim (k s n:Nat):Prop where
 k2:2<=k
 k5:k<=5
 kn:k<=n
 n24:n<=24
 s:n+1=s+k
def mo (k:Nat)(S:Nat->Int)(p:Nat):Int:=sumR (p/k) fun i=>S (p%k+i*k+1)-S (p%k+i*k)
theorem zk4 (S:Nat->Int)(h:p<k):mo k S p=0:=by unfold mo;rw[Nat.div_eq_of_lt h];rfl
theorem zod (hk:0<k)(S:Nat->Int)(p:Nat):mo k S (p+k)=mo k S p+S (p+1)-S p:=by
 unfold mo;rw[Nat.add_div_right _ hk,Nat.add_mod_right,sumR];have e:p%k+p/k*k=p:=by have:=qcG p k;rw[qbo];lia
 rw[e];lia
theorem zlQ (d:Dim k s n)(S L G:Nat->Int):Ok (zbU [zax k s n S L G]) fun x=>x= .own (wI n (mo k S)):=by
 obtain⟨k2,k5,kn,n24,hs⟩:=d;simp! only[↓zbU,↓zjv,↓zjm,zax,rep_w];rw[show((s:Int)-1).toNat=s-1 by lia];refine⟨⟨zay (by lia) (by lia),by lia⟩,zay (by lia) (by lia),zbm (fun i ρ=>∃s3,ρ=[.val (zax k s n S L G),.val (.tup (wI s S)),.own (wI (k+i) (mo k S)),s3]) ⟨.emp,?_⟩ ?_ ?_⟩
 ·rw[qcO,show wI k (mo k S)=wL k (fun _=> .int 0)from zcG fun p hp=>by rw[zk4 S hp]]
 ·rintro i _ hi ⟨s3,rfl⟩;simp! only[↓ziO,zao _ (show i<k+i by lia),zao _ (show i+1<s by lia),zao _ (show i<s by lia)];exact⟨by lia,_,by rw[show k+(i+1)=k+i+1 by lia,show wI (k+i+1) (mo k S)=_ from zea _ _,show mo k S (k+i)=mo k S i+S (i+1)-S i by rw[qbl k i];exact zod (by lia) S i]⟩
 ·rintro _ ⟨s3,rfl⟩;rw[show k+(s-1)=n by lia];simp! only[]
abbrev ask (k:Nat)(S B:Nat->Int)(p:Nat):Int:=B p-mo k S p
theorem zo9 (d:Dim k s n)(S L G:Nat->Int):Ok (zcV [zax k s n S L G]) fun x=>x= .own (wI n (ask k S L)):=by
 have n24:=d.n24;simp! only[↓zcV,↓zjI,zax];refine(zlQ d S L G).mono ?_;rintro _ rfl;simp! only[];refine(zrs L (mo k S) (by lia)).mono ?_;rintro _ rfl;simp! only[]
theorem zmz (d:Dim k s n)(S L G:Nat->Int):Ok (zci [zax k s n S L G]) fun x=>x= .own (wI n (ask k S G)):=by
 have n24:=d.n24;simp! only[↓zci,↓zic,zax];refine(zlQ d S L G).mono ?_;rintro _ rfl;simp! only[];refine(zrs G (mo k S) (by lia)).mono ?_;rintro _ rfl;simp! only[]
abbrev ziC (k n:Nat)(S L G lo hi:Nat->Int):Prop:=Span (ask k S L) (ask k S G) n k lo hi
theorem zcw (d:Dim k s n)(sp:ziC k n S L G lo hi):Ok (zaL [zax k s n S L G]) fun x=>x= .own (zaY k lo hi):=by
 have n24:=d.n24;have k2:=d.k2;simp! only[↓zaL,↓zgU];refine(zo9 d S L G).mono ?_;rintro _ rfl;simp! only[];refine(zmz d S L G).mono ?_;rintro _ rfl;simp! only[zax];refine(zpt (by lia) d.kn (by lia) sp).mono ?_;rintro _ rfl;simp! only[]
theorem zkp (d:Dim k s n)(S L G h:Nat->Int):Ok (zdr [zax k s n S L G,.lst (wI k h)]) fun x=>x= .val (.tup (wI n fun p=>h (p%k)+mo k S p)):=by
 have n24:=d.n24;have k2:=d.k2;simp! only[↓zdr,↓zlW];refine(zlQ d S L G).mono ?_;rintro _ rfl;simp! only[];refine(zoV (by lia) (by lia) h (mo k S)).mono ?_;rintro _ rfl;simp! only[]
structure Fits (k s n:Nat) (S L G r:Nat->Int):Prop where
 low:∀p,p<n->L p<=r p
 high:∀p,p<n->r p<=G p
 sum:∀i,i<s->win k r i=S i
theorem zo7 (k:Nat)(r:Nat->Int)(i:Nat):win k r (i+1)=win k r i+r (i+k)-r i:=by
 unfold win;have h1:sumR (k+1) (fun j=>r (i+j))=sumR k (fun j=>r (i+j))+r (i+k):=rfl;have h2:sumR (k+1) (fun j=>r (i+j))=r i+sumR k (fun j=>r (i+1+j)):=by
  rw[show k+1=1+k by lia,zaR];simp only[sumR,qcO,qcz];congr 1;exact zak fun j _=>by rw[Nat.add_assoc]
 lia
theorem zeO (d:Dim k s n)(f:Fits k s n S L G r):∀p,p<n->r p=r (p%k)+mo k S p:=by
 intro p
 induction p using Nat.strongRecOn with
 |_ p ih=>
  intro hp
  by_cases h:p<k
  ·rw[zk4 S h,qcF h];lia
  ·obtain⟨q,rfl⟩:∃q,p=q+k:=⟨p-k,by lia⟩;have h1:=ih q (by have:=d.k2;lia) (by lia);have h2:=f.sum q (by have:=d.s;lia);have h3:=f.sum (q+1) (by have:=d.s;lia);rw[zo7]at h3;rw[zod (by have:=d.k2;lia),Nat.add_mod_right];lia
theorem zr2 (hk:0<k)(hs:n+1=s+k)(S h:Nat->Int)(h0:sumR k h=S 0):∀i,i<s->win k (fun p=>h (p%k)+mo k S p) i=S i
 |0,_=>by
  unfold win;rw[<-h0];exact zak fun j hj=>by dsimp only;rw[qcs,qcF hj,zk4 S hj];lia
 |i+1,hi=>by
  have ih:=zr2 hk hs S h h0 i (by lia);rw[zo7,ih,zod hk,Nat.add_mod_right];lia
theorem zfl (d:Dim k s n)(sp:ziC k n S L G lo hi)(f:Fits k s n S L G r):(∀j,j<k->lo j<=r j/\r j<=hi j)/\sumR k r=S 0:=by
 have k2:=d.k2;have kn:=d.kn;have hs:=d.s;refine⟨fun j hj=>?_,?_⟩
 ·obtain⟨p,h1,h2,h3⟩:=sp.lm j hj;obtain⟨q,g1,g2,g3⟩:=sp.hm j hj;have e1:=zeO d f p h1;have e2:=zeO d f q g1;have b1:=f.low p h1;have b2:=f.high q g1;rw[h2]at e1;rw[g2]at e2;unfold ask at h3 g3;lia
 ·have:=f.sum 0 (by lia);rw[<-this];exact zak fun j _=>by rw[qcs]
theorem zl1 (d:Dim k s n)(sp:ziC k n S L G lo hi)(hh:∀j,j<k->lo j<=h j/\h j<=hi j)(h0:sumR k h=S 0):Fits k s n S L G fun p=>h (p%k)+mo k S p:=by
 have k2:=d.k2;refine⟨fun p hp=>?_,fun p hp=>?_,zr2 (by lia) d.s S h h0⟩
 ·have h1:=sp.lg p hp;have h2:=(hh (p%k) (qcV _ (by lia))).1;unfold ask at h1;lia
 ·have h1:=sp.hg p hp;have h2:=(hh (p%k) (qcV _ (by lia))).2;unfold ask at h1;lia
theorem ziz (d:Dim k s n)(sp:ziC k n S L G lo hi):Room' k lo hi (S 0)↔∃r,Fits k s n S L G r:=by
 constructor
 ·intro rm;exact⟨_,zl1 d sp (fun j hj=>zrF rm hj) (zpf rm)⟩
 ·rintro⟨r,f⟩;obtain⟨h1,h2⟩:=zfl d sp f;refine⟨fun j hj=>qcQ (h1 j hj).1 (h1 j hj).2,?_,?_⟩
  ·rw[<-h2];exact zfo fun j hj=>(h1 j hj).1
  ·rw[<-h2];exact zfo fun j hj=>(h1 j hj).2
def LeR (n:Nat)(a b:Nat->Int):Prop:=∀q,q<n->(∀p,p<q->a p=b p)->a q<=b q
def zrw (k n:Nat)(S L G:Nat->Int)(d:D):Prop:=Paper (ask k S L) (ask k S G) n k (S 0) d
theorem znp (d:Dim k s n)(S L G:Nat->Int):Ok (zbl [zax k s n S L G]) fun x=>
  (∃r,Fits k s n S L G r/\(∀r',Fits k s n S L G r'->LeR n r r')/\x= .val (.tup [.str "row",.tup (wI n r)]))\/
  ((∀r,¬Fits k s n S L G r)/\∃pd,zrw k n S L G pd/\x= .val pd):=by
 have k2:=d.k2;have kn:=d.kn;have n24:=d.n24;have hs:=d.s;obtain⟨lo,hi,sp,-⟩:=zmx (ask k S L) (ask k S G) (show 0<k by lia) kn;have lp:Ok (zaK [zax k s n S L G]) fun x=>(Room' k lo hi (S 0)/\x= .val .non)\/(¬Room' k lo hi (S 0)/\∃pd,zrw k n S L G pd/\x= .val pd):=by
  simp! only[↓zaK,↓zdb];refine(zo9 d S L G).mono ?_;rintro _ rfl;simp! only[];refine(zmz d S L G).mono ?_;rintro _ rfl;simp! only[zax,zao _ (show 0<s by lia)];refine(zmn (by lia) kn (by lia) (S 0) sp).mono ?_;rintro _ (⟨h,rfl⟩|⟨h,pd,hp,rfl⟩)
  ·simp! only[];exact .inl h
  ·simp! only[];exact .inr ⟨h,pd,hp,rfl⟩
 simp! only[↓zbl,↓zfc];refine lp.mono ?_;rintro _ (⟨rm,rfl⟩|⟨rm,pd,hp,rfl⟩)
 ·simp! only[↓zfK];refine(zcw d sp).mono ?_;rintro _ rfl;simp! only[zax,zao _ (show 0<s by lia)];refine(zhK lo hi (S 0) (by lia)).mono ?_;rintro _ rfl;simp! only[];refine(zkp d S L G (hd lo hi k (S 0))).mono ?_;rintro _ rfl;simp! only[];refine .inl ⟨_,zl1 d sp (fun j hj=>zrF rm hj) (zpf rm),fun r' f' q hq he=>?_,rfl⟩;obtain⟨h1,h2⟩:=zfl d sp f'
  by_cases hqk:q<k
  ·have:=hd_least h1 h2 hqk fun i hi=>by
    have:=he i hi;dsimp only at this;rw[qcF (by lia),zk4 S (by lia)]at this;lia
   dsimp only;rw[qcF hqk,zk4 S hqk];lia
  ·have e:=zeO d f' q hq;have:=he (q%k) (qae (qcV _ (by lia)) (by lia));dsimp only at this ⊢;rw[Nat.mod_mod,zk4 S (qcV _ (by lia))]at this;lia
 ·have hpn:isN pd=false:=by
   rcases hp with⟨_,_,_,_,_,_,rfl⟩|⟨_,_,_,rfl⟩|⟨_,_,_,rfl⟩<;>rfl
  simp! only[hpn];exact .inr ⟨fun r f=>rm ((ziz d sp).mpr ⟨r,f⟩),pd,hp,rfl⟩
abbrev sh (a:Nat)(f:Nat->Int)(i:Nat):Int:=f (a+i)
theorem cutAB {n a c:Nat}(f:Nat->Int)(h:a+c<=n)(b:Int)(hb:b=((a+c:Nat):Int)):cutD (wI n f) (some (a:Int)) (some b)=wI c (sh a f):=by
 subst hb;have:=cut_w (n:=n) (a:=a) (b:=c) (fun i=> .int (f i)) h;rw[show((a:Int)+(c:Int))=((a+c:Nat):Int) by lia]at this;exact this
section
variable {m n:Nat} {T L G:Nat->Int}
def Fit (T L G:Nat->Int)(a c:Nat):Prop:=∃r,Fits 2 (c+1) (c+2) (sh a T) (sh a L) (sh a G) r
theorem dim2 (h:c<=22):Dim 2 (c+1) (c+2):=⟨by lia,by lia,by lia,by lia,by lia⟩
theorem zlt (hn:n=m+1){a c:Nat}(h:a+c<m)(b:Int)(hb:b=((a+c:Nat):Int)):Ok (zba [zax 2 m n T L G,.int a,.int b]) fun x=>x= .val (zax 2 (c+1) (c+2) (sh a T) (sh a L) (sh a G)):=by
 have e1:=cutAB (n:=m) (a:=a) (c:=c+1) T (by lia) (b+1) (by lia);have e2:=cutAB (n:=n) (a:=a) (c:=c+2) L (by lia) (b+2) (by lia);have e3:=cutAB (n:=n) (a:=a) (c:=c+2) G (by lia) (b+2) (by lia);simp! only[↓zba,↓zeg,e1,e2,e3]
 rfl
theorem zrQ (d:Dim k s n)(S L G:Nat->Int):Ok (zaK [zax k s n S L G]) fun x=>((∃r,Fits k s n S L G r)/\x= .val .non)\/((¬ ∃r,Fits k s n S L G r)/\∃l,x= .val (.tup l)):=by
 have k2:=d.k2;have kn:=d.kn;have n24:=d.n24;have hs:=d.s;obtain⟨lo,hi,sp,-⟩:=zmx (ask k S L) (ask k S G) (show 0<k by lia) kn;simp! only[↓zaK,↓zdb];refine(zo9 d S L G).mono ?_;rintro _ rfl;simp! only[];refine(zmz d S L G).mono ?_;rintro _ rfl;simp! only[zax,zao _ (show 0<s by lia)];refine(zmn (by lia) kn (by lia) (S 0) sp).mono ?_;rintro _ (⟨h,rfl⟩|⟨h,pd,hp,rfl⟩)
 ·simp! only[];exact .inl ((ziz d sp).mp h)
 ·simp! only[];refine .inr ⟨fun z=>h ((ziz d sp).mpr z),?_⟩;rcases hp with⟨a,b,_,_,_,_,rfl⟩|⟨pl,_,_,rfl⟩|⟨pl,_,_,rfl⟩<;>exact⟨_,rfl⟩
theorem fits_ok (hn:n=m+1)(m9:m<=23){a c:Nat}(h:a+c<m)(b:Int)(hb:b=((a+c:Nat):Int)):Ok (zb7 [zax 2 m n T L G,.int a,.int b]) fun x=>∃z,x= .val (.bl z)/\(z=true↔Fit T L G a c):=by
 simp! only[↓zb7,↓zd9];refine(zlt hn h b hb).mono ?_;rintro _ rfl;simp! only[];refine(zrQ (dim2 (c:=c) (by lia)) (sh a T) (sh a L) (sh a G)).mono ?_;rintro _ (⟨f,rfl⟩|⟨f,l,rfl⟩)
 ·simp! only[];exact⟨true,rfl,⟨fun _=>f,fun _=>rfl⟩⟩
 ·simp! only[];exact⟨false,rfl,⟨fun z=>(by cases z),fun z=>absurd z f⟩⟩
def cw (T r:Nat->Int)(x:Nat):Int:=sumR x fun i=>if r i+r (i+1)=T i then 0 else 1
theorem zfd (T r:Nat->Int)(x:Nat):cw T r (x+1)=cw T r x+if r x+r (x+1)=T x then 0 else 1:=rfl
theorem zok {T r:Nat->Int}(x:Nat):∀c,cw T r x<=cw T r (x+c)
 |0=>qcB _
 |c+1=>by
  have:=zok (T:=T) (r:=r) x c;rw[show x+(c+1)=x+c+1 by lia,zfd]
  split<;>lia
theorem zmi {T r r':Nat->Int}:∀x,(∀p,p<=x->r p=r' p)->cw T r x=cw T r' x
 |0,_=>rfl
 |x+1,h=>by
  rw[zfd,zfd,zmi x fun p hp=>h p (by lia),h x (by lia),h (x+1) (by lia)]
theorem zrU {r:Nat->Int}(bx:∀p,p<n->L p<=r p/\r p<=G p)(h:a+c+1<n)(e:cw T r (a+(c+1))<=cw T r a):Fit T L G a c:=by
 have key:∀i,i<=c+1->cw T r (a+i)=cw T r a/\∀j,j<i->r (a+j)+r (a+j+1)=T (a+j):=fun i=>by
  induction i with
  |zero=>exact fun _=>⟨rfl,fun j hj=>by lia⟩
  |succ i ih=>
   intro hi;obtain⟨h1,h2⟩:=ih (by lia);have h3:=zok (T:=T) (r:=r) (a+(i+1)) (c+1-(i+1));rw[show a+(i+1)+(c+1-(i+1))=a+(c+1) by lia]at h3;have h4:=zfd T r (a+i);have h5:r (a+i)+r (a+i+1)=T (a+i):=by
    by_cases z:r (a+i)+r (a+i+1)=T (a+i)
    ·exact z
    ·rw[if_neg z]at h4;rw[show a+(i+1)=a+i+1 by lia]at h3;lia
   rw[if_pos h5]at h4;refine⟨by rw[show a+(i+1)=a+i+1 by lia];lia,fun j hj=>?_⟩
   by_cases z:j=i
   ·rw[z];exact h5
   ·exact h2 j (by lia)
 have k2:=(key (c+1) (qaE _)).2;refine⟨fun p=>r (a+p),fun p hp=>(bx (a+p) (by lia)).1,fun p hp=>(bx (a+p) (by lia)).2,fun i hi=>?_⟩;show(0+r (a+(i+0)))+r (a+(i+1))=T (a+i);have:=k2 i (by lia);rw[show a+(i+1)=a+i+1 by lia,qcO];lia
structure Gd (m n:Nat) (T L G:Nat->Int) (b a:Nat) (c:Nat):Prop where
 ab:a<=b
 low:∀r,(∀p,p<n->L p<=r p/\r p<=G p)->(c:Int)<=cw T r a
 up:(a=0/\c=0)\/(1<=a/\1<=c/\∃r,(∀p,p<a->L p<=r p/\r p<=G p)/\cw T r (a-1)+1<=c)
 fit:∀e,a+e<b->Fit T L G a e
theorem Gd.start:Gd m n T L G 0 0 0:=⟨qaE _,fun r _=>qcB _,.inl ⟨rfl,rfl⟩,fun e h=>by lia⟩
theorem Gd.stay (g:Gd m n T L G b a c)(he:a+e=b)(f:Fit T L G a e):Gd m n T L G (b+1) a c:=
  ⟨by have:=g.ab;lia,g.low,g.up,fun e' h=>by
    by_cases z:e'=e
    . rw[z];exact f
    . exact g.fit e' (by lia)⟩
theorem Gd.row (le:∀p,p<n->L p<=G p)(g:Gd m n T L G b a c)(hb:b<n):∃r,(∀p,p<b+1->L p<=r p/\r p<=G p)/\cw T r b<=c:=by
 have seg:∃r':Nat->Int,(∀p,a<=p->p<=b->L p<=r' p/\r' p<=G p)/\∀i,a<=i->i<b->r' i+r' (i+1)=T i:=by
  by_cases z:a=b
  ·exact⟨L,fun p h1 h2=>⟨qcB _,le p (by lia)⟩,fun i h1 h2=>by lia⟩
  ·have ab:=g.ab;obtain⟨r,f⟩:=g.fit (b-1-a) (by lia);refine⟨fun p=>r (p-a),fun p h1 h2=>?_,fun i h1 h2=>?_⟩
   ·have l1:=f.low (p-a) (by lia);have l2:=f.high (p-a) (by lia);rw[show sh a L (p-a)=L p from congrArg L (by lia)]at l1;rw[show sh a G (p-a)=G p from congrArg G (by lia)]at l2;exact⟨l1,l2⟩
   ·have l3:=f.sum (i-a) (by lia);rw[show sh a T (i-a)=T i from congrArg T (by lia)]at l3;rw[<-l3];show r (i-a)+r (i+1-a)=(0+r (i-a))+r (i-a+1);rw[show i+1-a=i-a+1 by lia];lia
 obtain⟨r',b',s'⟩:=seg;have ab:=g.ab;have more:∀(r:Nat->Int) (x:Int),cw T r a<=x->(∀i,a<=i->i<b->r i+r (i+1)=T i)->cw T r b<=x:=fun r x h1 h2=>by
  have key:∀i,a+i<=b->cw T r (a+i)<=x:=fun i=>by
   induction i with
   |zero=>exact fun _=>h1
   |succ i ih=>
    intro hi;have:=ih (by lia);rw[show a+(i+1)=a+i+1 by lia,zfd,if_pos (h2 (a+i) (by lia) (by lia))];lia
  have:=key (b-a) (by lia);rw[show a+(b-a)=b by lia]at this;exact this
 rcases g.up with⟨h1,h2⟩|⟨h1,h2,r,h3,h4⟩
 ·subst h1 h2;exact⟨r',fun p hp=>b' p (by lia) (by lia),more r' _ (qcB _) s'⟩
 ·refine⟨fun p=>if p<a then r p else r' p,fun p hp=>?_,more _ _ ?_ fun i h5 h6=>?_⟩
  ·(try dsimp only)
   by_cases z:p<a
   ·rw[if_pos z];exact h3 p z
   ·rw[if_neg z];exact b' p (by lia) (by lia)
  ·obtain⟨a',rfl⟩:∃a',a=a'+1:=⟨a-1,by lia⟩;rw[zfd,zmi (r':=r) a' fun p hp=>by(try dsimp only);rw[if_pos (by lia)]];rw[qcL]at h4
   split<;>lia
  ·(try dsimp only)
   rw[if_neg (by lia),if_neg (by lia)];exact s' i h5 h6
theorem Gd.next (le:∀p,p<n->L p<=G p)(hn:n=m+1)(g:Gd m n T L G b a c)(hb:b<m)(he:a+e=b)(f:¬Fit T L G a e):Gd m n T L G (b+1) (b+1) (c+1):=by
 refine⟨qaE _,fun r bx=>?_,.inr ⟨by lia,by lia,?_⟩,fun e h=>by lia⟩
 ·have h1:=g.low r bx;rcases Int.lt_or_le (cw T r a) (cw T r (b+1))with h|h
  ·push_cast;lia
  ·exact absurd (zrU bx (by lia) (by rw[show a+(e+1)=b+1 by lia];exact h)) f
 ·obtain⟨r,h1,h2⟩:=g.row le (by lia);exact⟨r,h1,by rw[qcL];push_cast;lia⟩
abbrev pD2 (s:Nat×Nat):D:= .tup [.int (s.1:Nat),.int (s.2:Nat)]
def Ch (T L G:Nat->Int):Nat->List (Nat×Nat)->Nat->Prop
 |a,[],e=>e=a
 |a,s::l,e=>s.1=a/\a<=s.2/\(∀x,a+x<s.2->Fit T L G a x)/\Ch T L G (s.2+1) l e
theorem Ch.snoc {T L G:Nat->Int}:∀{l:List (Nat×Nat)} {a e b:Nat},Ch T L G a l e->e<=b->(∀x,e+x<b->Fit T L G e x)->Ch T L G a (l++[(e,b)]) (b+1)
 |[],a,e,b,h,hb,hf=>by
  cases(show e=a from h);exact⟨rfl,hb,hf,rfl⟩
 |s::l,a,e,b,⟨h1,h2,h3,h4⟩,hb,hf=>⟨h1,h2,h3,Ch.snoc h4 hb hf⟩
theorem short_ok (hn:n=m+1)(m9:m<=23)(le:∀p,p<n->L p<=G p):Ok (zbc [zax 2 m n T L G]) fun x=>∃l a,l.length<=m/\Gd m n T L G m a l.length/\Ch T L G 0 l a/\x= .own (l.map pD2):=by
 simp! only[↓zbc,↓zcZ,↓zdk];refine⟨zay (by lia) (by lia),zbm (fun b ρ=>∃(l:List (Nat×Nat)) (a:Nat) (z:Sl),l.length<=b/\Gd m n T L G b a l.length/\Ch T L G 0 l a/\ρ=[.val (zax 2 m n T L G),.own (l.map pD2),.val (.int a),z]) ⟨[],0,_,qaE _,Gd.start,rfl,rfl⟩ ?_ ?_⟩
 ·rintro b _ hb ⟨l,a,z,ll,g,ch,rfl⟩;have ab:=g.ab;obtain⟨e,he⟩:∃e,a+e=b:=⟨b-a,by lia⟩;simp! only[↓zdp];refine(fits_ok hn m9 (a:=a) (c:=e) (by lia) (b:Int) (by lia)).mono ?_;rintro _ ⟨z,rfl,hz⟩;cases z with
  |true=>
   simp! only[];exact⟨l,a,_,by lia,g.stay he (hz.mp rfl),ch,rfl⟩
  |false=>
   have nf:¬Fit T L G a e:=fun f=>by have:=hz.mpr f;cases this
   simp! only[];refine⟨by lia,l++[(a,b)],b+1,.val (.int b),by simp;lia,?_,ch.snoc (by lia) fun x hx=>g.fit x hx,?_⟩
   ·rw[qaW];exact g.next le hn hb he nf
   ·rw[qcj];rfl
 ·rintro _ ⟨l,a,z,ll,g,ch,rfl⟩;simp! only[];exact⟨l,a,ll,g,ch,rfl⟩
theorem part_ok (hn:n=m+1)(m9:m<=23){a b:Nat}(ab:a<=b)(hb:b<=m)(le:∀p,p<n->L p<=G p)(f:∀x,a+x<b->Fit T L G a x):Ok (zeZ [zax 2 m n T L G,.int a,.int b]) fun x=>∃r:Nat->Int,(∀i,i<b+1-a->L (a+i)<=r i/\r i<=G (a+i))/\(∀i,a+i<b->r i+r (i+1)=T (a+i))/\x= .val (.tup (wI (b+1-a) r)):=by
 simp! only[↓zeZ,↓zjz];refine⟨fun z=>?_,fun z=>?_⟩
 ·have e1:=cutAB (n:=n) (a:=a) (c:=1) L (by lia) ((a:Int)+1) (by lia);simp! only[e1];refine⟨sh a L,fun i hi=>⟨qcB _,le _ (by lia)⟩,fun i hi=>by lia,?_⟩;rw[show b+1-a=1 by lia]
 ·simp! only[↓ziP];refine(zlt hn (a:=a) (c:=b-1-a) (by lia) ((b:Int)-1) (by lia)).mono ?_;rintro _ rfl;simp! only[];refine(znp (dim2 (c:=b-1-a) (by lia)) (sh a T) (sh a L) (sh a G)).mono ?_;rintro _ (⟨r,fr,_,rfl⟩|⟨nf,_⟩)
  ·simp! only[];refine⟨r,fun i hi=>⟨fr.low i (by lia),fr.high i (by lia)⟩,fun i hi=>?_,?_⟩
   ·have:=fr.sum i (by lia);rw[<-show win 2 r i=r i+r (i+1)from by show 0+r (i+0)+r (i+1)=_;rw[qcz];rfl];exact this
   ·rw[show b+1-a=b-1-a+2 by lia]
  ·obtain⟨r,fr⟩:=f (b-1-a) (by lia);exact absurd fr (nf r)
theorem app_w (a c:Nat)(f g:Nat->Int):wI a f++wI c g=wI (a+c) fun p=>if p<a then f p else g (p-a):=by
 apply qcv;intro j
 by_cases hj:j<a
 ·rw[qaS (by rw[zaF];exact hj),zao _ hj,zao _ (by lia)];show _=some (D.int (if j<a then f j else g (j-a)));rw[if_pos hj]
 ·rw[qaQ (by rw[zaF];lia),zaF]
  by_cases h2:j<a+c
  ·rw[zao _ (by lia),zao _ h2];show _=some (D.int (if j<a then f j else g (j-a)));rw[if_neg hj]
  ·rw[qbU (by rw[zaF];lia),qbU (by rw[zaF];lia)]
theorem zsH {T r:Nat->Int}:∀c,(∀x,a<=x->x<a+c->r x+r (x+1)=T x)->cw T r (a+c)=cw T r a
 |0,_=>rfl
 |c+1,h=>by
  rw[show a+(c+1)=a+c+1 from rfl,zfd,zsH c fun x h1 h2=>h x h1 (by lia),if_pos (h (a+c) (by lia) (by lia))];lia
def stA (a:Nat)(l:List (Nat×Nat)):Nat->Nat
 |0=>a
 |i+1=>(l.getD i (0,0)).2+1
theorem zpS (a:Nat)(s:Nat×Nat)(l:List (Nat×Nat))(i:Nat):stA a (s::l) (i+1)=stA (s.2+1) l i:=by cases i<;>rfl
theorem Ch.get {T L G:Nat->Int}:∀{l:List (Nat×Nat)} {a e:Nat},Ch T L G a l e->e=stA a l l.length/\∀i,i<l.length->stA a l i<=(l.getD i (0,0)).2/\∀x,stA a l i+x<(l.getD i (0,0)).2->Fit T L G (stA a l i) x
 |[],a,e,h=>⟨h,fun i hi=>by simp at hi⟩
 |s::l,a,e,⟨h1,h2,h3,h4⟩=>by
  obtain⟨e1,e2⟩:=Ch.get h4;refine⟨by rw[qbr,zpS];exact e1,fun i hi=>?_⟩;cases i with
  |zero=>exact⟨h2,h3⟩
  |succ i=>rw[zpS];exact e2 i (by simpa using hi)
theorem zqw (hn:n=m+1)(m9:m<=23)(le:∀p,p<n->L p<=G p){l:List (Nat×Nat)}{a:Nat}(ll:l.length<=m)(ch:Ch T L G 0 l a)(am:a<=m)(bm:∀i,i<l.length->(l.getD i (0,0)).2<=m)(ft:∀x,a+x<m->Fit T L G a x):Ok (zcu [zax 2 m n T L G,.tup (l.map fun s=> .int (s.2:Nat))]) fun x=>∃r,(∀p,p<n->L p<=r p/\r p<=G p)/\cw T r m<=l.length/\x= .val (.tup (wI n r)):=by
 obtain⟨ea,hc⟩:=ch.get;simp! only[↓zcu,↓zfj,↓zfI];refine⟨by lia,?_⟩;rw[show(l.map fun s=>D.int (s.2:Nat))++[.int (m:Nat)]=(l.map (·.2)++[m]).map fun b:Nat=>D.int (b:Nat) by rw[qcj,qch];rfl];refine zjS (enc:=fun b:Nat=>D.int (b:Nat)) (l:=l.map (·.2)++[m]) (fun i ρ=>∃(r:Nat->Int) (a':Nat) (z:Sl),a'<=m+1/\(∀p,p<a'->L p<=r p/\r p<=G p)/\(∀x,x+1=a'->cw T r x+1<=(i:Nat))/\(i<=l.length->a'=stA 0 l i)/\(i=l.length+1->a'=m+1)/\ρ=[.val (zax 2 m n T L G),.val (.tup (l.map fun s=> .int (s.2:Nat))),.val (.tup (wI a' r)),.val (.int a'),z]) ⟨fun _=>0,0,_,by lia,fun p h=>by lia,fun x h=>by lia,fun _=>rfl,fun h=>by lia,rfl⟩ ?_ ?_
 ·rintro i b _ hi ⟨r,a',z,a9,hr,hcw,ha,-,rfl⟩;have il:i<l.length+1:=by
   have:=(qap.mp hi).1;simpa using this
  have ha:=ha (by lia);have hb:a'<=b/\b<=m/\(∀x,a'+x<b->Fit T L G a' x)/\(i<l.length->b=(l.getD i (0,0)).2)/\(i=l.length->b=m):=by
   by_cases z:i<l.length
   ·have eb:b=(l.getD i (0,0)).2:=by
     rw[qaS (by simpa using z),qaT,qbF z]at hi;rw[qcy,qbF z];exact(Option.some.inj hi).symm
    obtain⟨h1,h2⟩:=hc i z;rw[ha,eb];exact⟨h1,bm i z,h2,fun _=>rfl,fun h=>by lia⟩
   ·have ei:i=l.length:=by lia
    have eb:b=m:=by
     rw[qaQ (by simp;lia)]at hi;simp only[qaX,ei,qcS]at hi;exact(Option.some.inj hi).symm
    rw[ei,<-ea]at ha;rw[ha,eb];exact⟨am,qaE _,ft,fun h=>absurd h z,fun _=>rfl⟩
  obtain⟨h1,h2,h3,h4,h5⟩:=hb;simp! only[↓zfW];refine(part_ok hn m9 h1 h2 le h3).mono ?_;rintro _ ⟨r',hr',hs',rfl⟩;simp! only[];rw[app_w,show a'+(b+1-a')=b+1 by lia];refine⟨by lia,_,b+1,.val (.int (b:Nat)),by lia,fun p hp=>?_,fun x hx=>?_,fun h6=>?_,fun h6=>by rw[h5 (by lia)],rfl⟩
  ·(try dsimp only)
   by_cases q:p<a'
   ·rw[if_pos q];exact hr p q
   ·rw[if_neg q];have:=hr' (p-a') (by lia);rwa[show a'+(p-a')=p by lia]at this
  ·obtain rfl:x=b:=by lia
   have e1:=zsH (T:=T) (r:=fun p=>if p<a' then r p else r' (p-a')) (a:=a') (x-a') fun y y1 y2=>by
    (try dsimp only)
    rw[if_neg (by lia),if_neg (by lia)];have:=hs' (y-a') (by lia);rwa[show y-a'+1=y+1-a' by lia,show a'+(y-a')=y by lia]at this
   rw[show a'+(x-a')=x by lia]at e1;rw[e1];cases a' with
   |zero=>show(0:Int)+1<=_;lia
   |succ a''=>
    have e2:=zmi (T:=T) (r:=fun p=>if p<a''+1 then r p else r' (p-(a''+1))) (r':=r) a'' fun p hp=>by(try dsimp only);rw[if_pos (by lia)]
    have e3:=hcw a'' rfl;rw[zfd,e2]
    split<;>lia
  ·rw[h4 (by lia)];rfl
 ·rintro _ ⟨r,a',z,a9,hr,hcw,ha,he,rfl⟩;simp! only[];have he:=he (by simp);subst he;have:=hcw m rfl;rw[<-hn];refine⟨r,fun p hp=>hr p (by lia),?_,rfl⟩;simp at this;lia
theorem Ch.le {T L G:Nat->Int}:∀{l:List (Nat×Nat)} {a e:Nat},Ch T L G a l e->a<=e/\∀i,i<l.length->(l.getD i (0,0)).2<e
 |[],a,e,h=>⟨Nat.le_of_eq (show e=a from h).symm,fun i hi=>by simp at hi⟩
 |s::l,a,e,⟨h1,h2,h3,h4⟩=>by
  obtain⟨e1,e2⟩:=Ch.le h4;refine⟨by lia,fun i hi=>?_⟩;cases i with
  |zero=>show s.2<e;lia
  |succ i=>exact e2 i (by simpa using hi)
structure Few (m n:Nat) (T L G:Nat->Int) (c:Nat):Prop where
 low:∀r,(∀p,p<n->L p<=r p/\r p<=G p)->(c:Int)<=cw T r m
 up:∃r,(∀p,p<n->L p<=r p/\r p<=G p)/\cw T r m<=c
theorem zrd (hn:n=m+1)(m9:m<=23)(le:∀p,p<n->L p<=G p):Ok (zcn [zax 2 m n T L G]) fun x=>∃(l:List (Nat×Nat)) (r:Nat->Int) (d2:D),Few m n T L G l.length/\(∀p,p<n->L p<=r p/\r p<=G p)/\cw T r m<=l.length/\x= .val (.tup [.tup (l.map fun s=> .int (s.2:Nat)),.tup (wI n r),d2]):=by
 simp! only[↓zcn,↓zf4,↓zgD];refine⟨fun z=>absurd rfl z,fun _=>?_⟩;refine(short_ok hn m9 le).mono ?_;rintro _ ⟨l,a,ll,g,ch,rfl⟩;have am:=g.ab;have chl:=ch.le;simp! only[↓zhk];refine⟨by lia,zir (enc:=pD2) (l:=l) (fun ρ=>∃a b,ρ=[a,b]) (fun s=> .int (s.2:Nat)) ⟨_,_,rfl⟩ ?_ ?_⟩
 ·rintro s _ hs ⟨a,b,rfl⟩;simp! only[↓zgK,pD2];exact⟨_,_,rfl⟩
 rintro _ ⟨a1,b1,rfl⟩;simp! only[];refine(zqw hn m9 le ll ch am (fun i hi=>by have:=chl.2 i hi;lia) fun x hx=>g.fit x hx).mono ?_;rintro _ ⟨r0,br,cr,rfl⟩;simp! only[];refine⟨l,r0,_,⟨fun r bx=>?_,?_⟩,br,cr,rfl⟩
 ·have h1:=g.low r bx;have h2:=zok (T:=T) (r:=r) a (m-a);rw[show a+(m-a)=m by lia]at h2;lia
 ·obtain⟨r,h1,h2⟩:=g.row le (by lia);exact⟨r,fun p hp=>h1 p (by lia),h2⟩
end
abbrev sqD (t:Bool)(n:Nat)(r:Nat->Int):D:=if t then .tup (wI n r)else .lst (wI n r)
section
variable {k m n:Nat} {T L G s r:Nat->Int}
theorem zoW (t:Bool)(hk:k<=n)(hn:n<=900):Ok (zcQ [sqD t n r,.int k]) fun x=>x= .val (.tup (wI (n+1-k) (win k r))):=by
 have hl:((n:Int)-(k:Int)+1).toNat=n+1-k:=by lia
 have main:∀d,(d= .lst (wI n r)\/d= .tup (wI n r))->Ok (zcQ [d,.int k]) fun x=>x= .val (.tup (wI (n+1-k) (win k r))):=fun d hd=>by
  have loop:∀(Q:Fl×R->Prop),(∀s,Q (.next,[.val d,.val (.int k),.own (wI (n+1-k) (win k r)),s]))->Ok (forM (fun d ρ=>(gN 3 d ρ).bind fun ρ'=>zee ρ') (wL (n+1-k) fun i=> .int (i:Nat)) [.val d,.val (.int k),.own [],.emp]) Q:=fun Q hQ=>by
   refine zbm (fun i ρ=>∃s,ρ=[.val d,.val (.int k),.own (wI i (win k r)),s]) ⟨_,rfl⟩ ?_ ?_
   ·rintro i _ hi ⟨s,rfl⟩;simp! only[↓zee,↓zh4];refine⟨zay (by lia) (by lia),by lia,zaH (fun ρ=>∃s,ρ=[.val d,.val (.int i),s]) (fun j=> .int (r (i+j))) ⟨_,rfl⟩ ?_ ?_⟩
    ·rintro j _ hj ⟨s,rfl⟩;have e:((i:Int)+(j:Int))=((i+j:Nat):Int):=by lia
     rcases hd with rfl|rfl<;>
     ·simp! only[↓zhM,e,zao _ (show i+j<n by lia)];exact⟨_,rfl⟩
    ·rintro _ ⟨s,rfl⟩;simp! only[zbz,zbq];exact⟨by lia,_,by rw[show wI (i+1) (win k r)=_ from zea _ _];rfl⟩
   ·rintro _ ⟨s,rfl⟩;exact hQ s
  rcases hd with rfl|rfl<;>
  ·simp! only[↓zcQ,↓zii,↓zhG,hl];refine⟨zay (by lia) (by lia),loop _ fun s=>?_⟩;simp! only[]
 cases t
 ·exact main _ (.inl rfl)
 ·exact main _ (.inr rfl)
end
def Pot (ds:List D):Prop:=∃p:Int,ds=[.int p]
theorem zcj (h:Pot ds){m:Int}(h0:0<m)(h1:m<2^250):Ok (zau ds [.int m]) fun r=>∃(i:Nat) (ds':List D),(i:Int)<m/\Pot ds'/\r=(.val (.int i),ds'):=by
 obtain⟨p,rfl⟩:=h;simp! only[↓zau,↓zin];have m0:=Int.emod_nonneg p (Int.ne_of_gt h0);refine⟨h0,zrH h0 h1,(p%m).toNat,[.int (p/m)],?_,⟨_,rfl⟩,?_⟩
 ·have:=qcT p h0;lia
 ·rw[show(((p%m).toNat:Nat):Int)=p%m by lia]
structure LineOk (k s n:Nat) (L G:Nat->Int):Prop where
 k2:2<=k
 k5:k<=5
 kn:k<=n
 n24:n<=24
 s:n+1=s+k
 le:∀p,p<n->L p<=G p
 far:∀p,p<n->G p-L p<2^240
theorem znG {t c a b:Int}(h0:0<=t)(h1:t<=a)(g0:0<=c)(g1:c<=b)(ha:0<=a):0<=t*c/\t*c<=a*b:=
 ⟨Int.mul_nonneg h0 g0,Int.mul_le_mul h1 g1 g0 ha⟩
def Sc (n:Nat)(c:Nat->Int):Prop:=∀p,p<n->0<=c p/\c p<=1000000000000000000000000000000000000000000000000000000000
theorem lp_bend (h:Pot ds)(s n t:Nat)(hs:0<s)(hsn:s<=n)(hn:n<=24)(ht:t<=24)(S sc:Nat->Int)(a1 a2 a3 a4 a5 a7 a8 a9 a11 a12:Sl)
  (hQ:∀(ds':List D) (S:Nat->Int) (a11 a12:Sl),Pot ds'->Q (.next,[.par ds',a1,a2,a3,a4,a5,.val (.lst (wI n sc)),a7,a8,a9,.own (wI s S),a11,a12])):
  Ok (forM (fun d ρ=>(gN 11 d ρ).bind fun ρ'=>zek ρ') (wL t fun i=> .int (i:Nat)) [.par ds,a1,a2,a3,a4,a5,.val (.lst (wI n sc)),a7,a8,a9,.own (wI s S),a11,a12]) Q:=by
 refine zbm (fun i ρ=>∃(ds':List D) (S:Nat->Int) (a11 a12:Sl),Pot ds'/\ρ=[.par ds',a1,a2,a3,a4,a5,.val (.lst (wI n sc)),a7,a8,a9,.own (wI s S),a11,a12]) ⟨ds,S,_,_,h,rfl⟩ ?_ ?_
 ·rintro i _ hi ⟨d1,S,a11,a12,h1,rfl⟩;simp! only[↓zek];refine(zcj h1 (m:=(s:Int)) (by lia) (by lia)).mono ?_;rintro _ ⟨at',d2,hat,h2,rfl⟩;simp! only[zao _ (show at'<s by lia)];refine(zcj h2 (m:=9) (by lia) (by lia)).mono ?_;rintro _ ⟨x,d3,hx,h3,rfl⟩;simp! only[zao _ (show at'<n by lia)];refine(zcj h3 (m:=2) (by lia) (by lia)).mono ?_;rintro _ ⟨y,d4,hy,h4,rfl⟩;have hy':∃z:Int,[D.int 1,D.int (sc at')][y]? =some (.int z):=by
   have:y=0\/y=1:=by lia
   rcases this with rfl|rfl<;>exact⟨_,rfl⟩
  obtain⟨z,ez⟩:=hy';simp! only[ez,wI_set _ _ (show at'<s by lia),show at'<s by lia];exact⟨zdi (by lia),d4,_,_,_,h4,rfl⟩
 ·rintro _ ⟨d1,S,a11,a12,h1,rfl⟩;exact hQ d1 S a11 a12 h1
theorem znL (h:Pot ds)(k most wide n:Nat)(k2:2<=k)(k5:k<=5)(kn:k<=n)(n24:n<=24)(w1:1<=wide)(w2:wide<=5)(great:Int)(sc:Nat->Int)(hsc:Sc n sc)(hQ:∀(s:Nat) (S L G:Nat->Int) (ds':List D) (a:List Sl),Pot ds'->LineOk k s n L G->Q (.ret (.val (zax k s n S L G)),.par ds'::a)):
  Ok (zep [.par ds,.val (.int k),.val (.int most),.val (.int wide),.val (.int n),.val (.int great),.val (.lst (wI n sc)),.emp,.emp,.emp,.emp,.emp,.emp]) Q:=by
 simp! only[↓zep,↓zhW];refine⟨by lia,zjb (fun i acc ρ=>∃(f:Nat->Int) (ds':List D) (s:Sl),Pot ds'/\acc=wI i f/\ρ=[.par ds',s]) ⟨fun _=>0,ds,.emp,h,rfl,rfl⟩ ?_ ?_⟩
 ·rintro i _ _ hi ⟨f,d1,s,h1,rfl,rfl⟩;simp! only[↓zhA];refine(zcj h1 (m:=9) (by lia) (by lia)).mono ?_;rintro _ ⟨t,d2,ht,h2,rfl⟩;simp! only[];exact⟨zrh (by lia),_,d2,_,h2,zkm i f _,rfl⟩
 rintro _ _ ⟨R,d1,s,h1,rfl,rfl⟩;simp! only[↓zhV,zkI];refine⟨by lia,zjb (fun i acc ρ=>∃(f:Nat->Int) (ds':List D) (s s':Sl),Pot ds'/\(∀j,j<i->f j<=R j/\R j-f j<=4*1000000000000000000000000000000000000000000000000000000000)/\acc=wI i f/\ρ=[.par ds',.val (.int wide),s,s']) ⟨fun _=>0,d1,.emp,.emp,h1,fun _ h=>by lia,rfl,rfl⟩ ?_ ?_⟩
 ·rintro i _ _ hi ⟨f,d2,s,s',h2,b,rfl,rfl⟩;simp! only[↓zhH];refine(zcj h2 (m:=(wide:Int)) (by lia) (by lia)).mono ?_;rintro _ ⟨t,d3,ht,h3,rfl⟩;simp! only[];refine⟨zdi (by lia),_,d3,_,_,h3,?_,zkm i f _,rfl⟩;intro j hj
  split
  ·rename_i hji;exact b j hji
  ·have e:j=i:=by lia
   subst e;have:=znG (t:=(t:Int)) (a:=4) (by lia) (by lia) (hsc j (by lia)).1 (hsc j (by lia)).2 (by lia);lia
 rintro _ _ ⟨L,d2,s,s',h2,bL,rfl,rfl⟩;simp! only[↓zh3,zkI];refine⟨by lia,zjb (fun i acc ρ=>∃(f:Nat->Int) (ds':List D) (s s':Sl),Pot ds'/\(∀j,j<i->R j<=f j/\f j-R j<=4*1000000000000000000000000000000000000000000000000000000000)/\acc=wI i f/\ρ=[.par ds',.val (.int wide),s,s']) ⟨fun _=>0,d2,.emp,.emp,h2,fun _ h=>by lia,rfl,rfl⟩ ?_ ?_⟩
 ·rintro i _ _ hi ⟨f,d3,s,s',h3,b,rfl,rfl⟩;simp! only[↓zhY];refine(zcj h3 (m:=(wide:Int)) (by lia) (by lia)).mono ?_;rintro _ ⟨t,d4,ht,h4,rfl⟩;simp! only[];refine⟨zdi (by lia),_,d4,_,_,h4,?_,zkm i f _,rfl⟩;intro j hj
  split
  ·rename_i hji;exact b j hji
  ·have e:j=i:=by lia
   subst e;have:=znG (t:=(t:Int)) (a:=4) (by lia) (by lia) (hsc j (by lia)).1 (hsc j (by lia)).2 (by lia);lia
 rintro _ _ ⟨G,d3,s,s',h3,bG,rfl,rfl⟩;simp! only[];refine(zoW false (r:=R) (by lia) (by lia)).mono ?_;rintro _ rfl;simp! only[↓zhT];refine(zcj h3 (m:=4) (by lia) (by lia)).mono ?_;rintro _ ⟨w,d4,hw,h4,rfl⟩;have hw':∃t:Nat,t<=24/\[D.int 0,D.int 1,D.int 3,D.int ((n+1-k:Nat):Int)][w]? =some (.int t):=by
  have:w=0\/w=1\/w=2\/w=3:=by lia
  rcases this with rfl|rfl|rfl|rfl
  ·exact⟨0,by lia,rfl⟩
  ·exact⟨1,by lia,rfl⟩
  ·exact⟨3,by lia,rfl⟩
  ·exact⟨n+1-k,by lia,rfl⟩
 obtain⟨t,ht,et⟩:=hw';simp! only[et];refine⟨zay (by lia) (by lia),lp_bend h4 (n+1-k) n t (by lia) (by lia) (by lia) ht _ _ _ _ _ _ _ _ _ _ _ _ ?_⟩;intro d5 S a11 a12 h5;simp! only[];refine hQ (n+1-k) S L G d5 _ h5 ⟨k2,k5,by lia,by lia,by lia,fun p hp=>?_,fun p hp=>?_⟩
 ·have:=bL p hp;have:=bG p hp;lia
 ·have:=bL p hp;have:=bG p hp;lia
theorem zsZ (h:Pot ds)(k most wide:Nat)(k2:2<=k)(k5:k<=5)(q1:k<=most)(q2:most<=24)(w1:1<=wide)(w2:wide<=5):
  Ok (zcc ds [.int k,.int most,.int wide]) fun r=>∃(s n:Nat) (S L G:Nat->Int) (ds':List D),Pot ds'/\LineOk k s n L G/\r=(.val (zax k s n S L G),ds'):=by
 simp! only[↓zcc,↓zim];refine(zcj h (m:=(most:Int)-k+1) (by lia) (by lia)).mono ?_;rintro _ ⟨x,d1,hx,h1,rfl⟩;simp! only[];refine(zcj h1 (m:=4) (by lia) (by lia)).mono ?_;rintro _ ⟨y,d2,hy,h2,rfl⟩;have hy':∃z:Int,(0<=z/\z<=1000000000000000000000000000000000000000000000000000000000)/\[D.int 1,D.int 1,D.int 1,D.int 1000000000000000000000000000000000000000000000000000000000][y]? =some (.int z):=by
  have:y=0\/y=1\/y=2\/y=3:=by lia
  rcases this with rfl|rfl|rfl|rfl<;>exact⟨_,by decide,rfl⟩
 obtain⟨great,hg,eg⟩:=hy';rw[show(k:Int)+(x:Int)=((k+x:Nat):Int) by lia]
 generalize hnn:k+x=n
 simp! only[eg,rep_w];refine⟨by lia,?_⟩;refine(zcj h2 (m:=4) (by lia) (by lia)).mono ?_;rintro _ ⟨c,d3,hc,h3,rfl⟩;simp! only[];refine⟨fun hz=>?_,fun hz=>?_⟩
 ·simp! only[↓zhB];refine⟨zay (by lia) (by lia),by lia,zjb (fun i acc ρ=>∃(f:Nat->Int) (ds':List D) (s:Sl),Pot ds'/\Sc i f/\acc=wI i f/\ρ=[.val (.int great),.par ds',s]) ⟨fun _=>0,d3,.emp,h3,fun _ h=>by lia,rfl,rfl⟩ ?_ ?_⟩
  ·rintro i _ _ hi ⟨f,d4,s,h4,b,rfl,rfl⟩;simp! only[↓zhy];refine(zcj h4 (m:=4) (by lia) (by lia)).mono ?_;rintro _ ⟨t,d5,ht,h5,rfl⟩;have ht':∃z:Int,(0<=z/\z<=1000000000000000000000000000000000000000000000000000000000)/\[D.int 1,D.int 1000,D.int 1000000000000000000000000000000,D.int great][t]? =some (.int z):=by
    have:t=0\/t=1\/t=2\/t=3:=by lia
    rcases this with rfl|rfl|rfl|rfl
    ·exact⟨_,by decide,rfl⟩
    ·exact⟨_,by decide,rfl⟩
    ·exact⟨_,by decide,rfl⟩
    ·exact⟨_,hg,rfl⟩
   obtain⟨z,hz,ez⟩:=ht';simp! only[ez];refine⟨_,d5,_,h5,fun j hj=>?_,zkm i f _,rfl⟩
   split
   ·rename_i hji;exact b j hji
   ·exact hz
  rintro _ _ ⟨sc,d4,s,h4,b,rfl,rfl⟩;simp! only[];refine znL h4 k most wide n k2 k5 (by lia) (by lia) w1 w2 great sc b fun s S L G d5 a h5 ok=>?_
  simp! only[];exact⟨s,n,S,L,G,d5,h5,ok,rfl⟩
 ·refine znL h3 k most wide n k2 k5 (by lia) (by lia) w1 w2 great (fun _=>great) (fun _ _=>hg) fun s S L G d5 a h5 ok=>?_
  simp! only[];exact⟨s,n,S,L,G,d5,h5,ok,rfl⟩
abbrev sg (w:List Int)(i:Nat):Int:=w.getD i 0
def cnP (k:Nat)(s:Nat->Int)(p:Nat):Int:=sumR k fun j=>if j<=p then s (p-j)else 0
def most (L G:Nat->Int)(p:Nat)(c:Int):Int:=c*(if 0<c then G p else L p)
def zcW (k m:Nat)(T L G:Nat->Int)(s:Nat->Int)(n:Nat):Int:=sumR n fun p=>(if p<m then s p*T p else 0)-most L G p (cnP k s p)
structure Sgn (m n:Nat) (w:List Int):Prop where
 len:w.length=n
 rng:∀i,i<n->sg w i= -1\/sg w i=0\/sg w i=1
 out:∀i,m<=i->sg w i=0
theorem zls (w:List Int)(x:Int)(h:i<w.length):sg (w++[x]) i=sg w i:=by
 unfold sg;rw[qcy,qcy,qaS h]
theorem zn2 (w:List Int)(x:Int):sg (w++[x]) w.length=x:=by
 unfold sg;rw[qcy,qaQ (qaE _)];simp
theorem znn (w:List Int)(h:w.length<=i):sg w i=0:=by
 unfold sg;rw[qcy,qbU h]
 rfl
theorem zrf {s t:Nat->Int}(h:∀i,i<=p->p<i+k->s i=t i):cnP k s p=cnP k t p:=zak fun j hj=>by
 split
 ·rename_i z;exact h _ (by lia) (by lia)
 ·rfl
theorem zkz {T L G s t:Nat->Int}(h:∀i,i<n->s i=t i):zcW k m T L G s n=zcW k m T L G t n:=zak fun p hp=>by
 rw[h p hp,zrf fun i hi _=>h i (by lia)]
theorem zlw {T L G:Nat->Int}(w:List Int)(x:Int):zcW k m T L G (sg (w++[x])) (w.length+1)=zcW k m T L G (sg w) w.length+((if w.length<m then x*T w.length else 0)-most L G w.length (cnP k (sg (w++[x])) w.length)):=by
 show zcW k m T L G (sg (w++[x])) w.length+_=_;rw[zkz (s:=sg (w++[x])) (t:=sg w) fun i hi=>zls w x hi]
 (try dsimp only)
 rw[zn2]
def zfY (k:Nat)(w:List Int):List Int:=(List.replicate (k-1) 0++w).drop w.length
theorem zg3 (k:Nat)(w:List Int):(zfY k w).length=k-1:=by
 unfold zfY;rw[qa5,qaW,qaY];lia
theorem zkK (w:List Int)(hj:j<k-1):sg (zfY k w) j=if k-1<=w.length+j then sg w (w.length+j-(k-1))else 0:=by
 unfold zfY sg;rw[qcy,qcC]
 by_cases z:k-1<=w.length+j
 ·rw[if_pos z,qaQ (by rw[qaY];exact z),qaY,qcy]
 ·rw[if_neg z,qaS (by rw[qaY];lia),qaR,if_pos (by lia)]
  rfl
theorem zlr (k1:1<=k)(w:List Int)(x:Int):zfY k (w++[x])=(zfY k w++[x]).drop 1:=by
 unfold zfY;rw[qaW,qbk,<-qbh,<-List.drop_append_of_le_length (l₂:=[x]) (by rw[qaW];lia),List.drop_drop]
theorem zjL (f:Nat->Int)(m:Nat):sumR (m+1) f=f 0+sumR m fun i=>f (i+1):=by
 have:=zaR f 1 m;rw[qbl 1 m]at this;rw[this,zak (f:=fun i=>f (1+i)) (g:=fun i=>f (i+1)) fun i _=>by rw[qbl]];show 0+f 0+_=_;lia
theorem zo5:∀(l:List Int),l.sum=sumR l.length fun i=>sg l i
 |[]=>rfl
 |a::l=>by
  rw[List.sum_cons,zo5 l,qbr];have:=zjL (fun i=>sg (a::l) i) l.length;rw[this]
  rfl
theorem zl6 (f:Nat->Int):∀n,sumR n f=sumR n fun i=>f (n-1-i)
 |0=>rfl
 |n+1=>by
  rw[zjL (fun i=>f (n+1-1-i)) n];show sumR n f+f n=_;rw[zl6 f n,zak (f:=fun i=>f (n+1-1-(i+1))) (g:=fun i=>f (n-1-i)) fun i hi=>by rw[show n+1-1-(i+1)=n-1-i by lia]];rw[show n+1-1-0=n by lia];lia
theorem zmG (k1:1<=k)(w:List Int)(x:Int):(zfY k w++[x]).sum=cnP k (sg (w++[x])) w.length:=by
 obtain⟨k',rfl⟩:∃k',k=k'+1:=⟨k-1,by lia⟩;unfold cnP;rw[List.sum_append,zo5,zg3,zjL _ k',if_pos (qbB _),qbW,zn2,qcL,zl6 _ k'];rw[zak (f:=fun i=>sg (zfY (k'+1) w) (k'-1-i)) (g:=fun i=>if i+1<=w.length then sg (w++[x]) (w.length-(i+1))else 0) fun i hi=>by
  rw[zkK w (show k'-1-i<k'+1-1 by lia)]
  by_cases z:i+1<=w.length
  ·rw[if_pos z,if_pos (by lia),zls _ _ (by lia)];congr 1;lia
  ·rw[if_neg z,if_neg (by lia)]]
 simp;lia
structure Dp (k m:Nat) (T L G:Nat->Int) (p:Nat) (ks:List (List Int)) (f:List Int->Int×List Int):Prop where
 nd:ks.Nodup
 ok:∀r,r∈ks->Sgn m p (f r).2/\zfY k (f r).2=r/\zcW k m T L G (sg (f r).2) p=(f r).1
 all:∀w,Sgn m p w->zfY k w∈ks/\zcW k m T L G (sg w) p<=(f (zfY k w)).1
theorem Dp.start {T L G:Nat->Int}:Dp k m T L G 0 [List.replicate (k-1) 0] (fun _=>(0,[])) where
 nd:=by simp
 ok:=fun r hr=>by
  have:r=List.replicate (k-1) 0:=by simpa using hr
  subst this;exact⟨⟨rfl,fun i hi=>by lia,fun i _=>rfl⟩,by unfold zfY;simp,rfl⟩
 all:=fun w hw=>by
  have:w=[]:=qcW.mp hw.len;subst this;exact⟨by unfold zfY;simp,qcB _⟩
section
variable {J:Type} [DecidableEq J]
theorem pk_nd {x:J}{ks:List J}(h:ks.Nodup):(pkJ x ks).Nodup:=by
 unfold pkJ
 by_cases q:x∈ks
 ·rw[if_pos q];exact h
 ·rw[if_neg q,List.nodup_append];refine⟨h,by simp,fun y hy z hz=>?_⟩;have:z=x:=by simpa using hz
  subst this;exact fun e=>q (e ▸ hy)
end
section
variable {k m:Nat} {T L G:Nat->Int} {p:Nat} {ks:List (List Int)} {f:List Int->Int×List Int}
def vl (m:Nat)(T L G:Nat->Int)(p:Nat)(f:List Int->Int×List Int)(r:List Int)(x:Int):Int:=(f r).1+(if p<m then x*T p else 0)-most L G p (r++[x]).sum
structure Dq (k m:Nat) (T L G:Nat->Int) (p:Nat) (f:List Int->Int×List Int) (P:List (List Int×Int)) (ks':List (List Int)) (f':List Int->Int×List Int):Prop where
 nd:ks'.Nodup
 ok:∀r,r∈ks'->Sgn m (p+1) (f' r).2/\zfY k (f' r).2=r/\zcW k m T L G (sg (f' r).2) (p+1)=(f' r).1
 cov:∀r x,(r,x)∈P->(r++[x]).drop 1∈ks'/\vl m T L G p f r x<=(f' ((r++[x]).drop 1)).1
theorem Dq.start:Dq k m T L G p f [] [] f where
 nd:=by simp
 ok:=fun r h=>by cases h
 cov:=fun r x h=>by cases h
theorem Sgn.snoc (h:Sgn m p w)(hx:x= -1\/x=0\/x=1)(hm:m<=p->x=0):Sgn m (p+1) (w++[x]):=by
 have hl:=h.len;refine⟨by simp[hl],fun i hi=>?_,fun i hi=>?_⟩
 ·by_cases z:i<p
  ·rw[zls _ _ (by lia)];exact h.rng i z
  ·have:i=w.length:=by lia
   subst this;rw[zn2];exact hx
 ·by_cases z:i<p
  ·rw[zls _ _ (by lia)];exact h.out i hi
  ·by_cases e:i=w.length
   ·subst e;rw[zn2];exact hm (by lia)
   ·exact znn _ (by rw[qaW,qbk];lia)
theorem vl_worth (k1:1<=k)(b:Dp k m T L G p ks f){r:List Int}(hr:r∈ks)(x:Int):zcW k m T L G (sg ((f r).2++[x])) (p+1)=vl m T L G p f r x/\zfY k ((f r).2++[x])=(r++[x]).drop 1:=by
 obtain⟨h1,h2,h3⟩:=b.ok r hr;have e:=zlw (k:=k) (m:=m) (T:=T) (L:=L) (G:=G) (f r).2 x;rw[h1.len]at e;rw[zlr k1,h2];refine⟨?_,rfl⟩;rw[e,h3];unfold vl;have hs:=zmG k1 (f r).2 x;rw[h2,h1.len]at hs;rw[hs];lia
theorem Dq.stay (q:Dq k m T L G p f P ks' f'){r:List Int}(h:(r++[x]).drop 1∈ks')(l:vl m T L G p f r x<=(f' ((r++[x]).drop 1)).1):Dq k m T L G p f (P++[(r,x)]) ks' f' where
 nd:=q.nd
 ok:=q.ok
 cov:=fun r' x' hm=>by
  rcases qan.mp hm with z|z
  ·exact q.cov r' x' z
  ·have:(r',x')=(r,x):=by simpa using z
   cases this;exact⟨h,l⟩
theorem Dq.put (k1:1<=k)(b:Dp k m T L G p ks f)(q:Dq k m T L G p f P ks' f'){r:List Int}(hr:r∈ks)(hx:x= -1\/x=0\/x=1)(hm:m<=p->x=0)(h:(r++[x]).drop 1∈ks'->(f' ((r++[x]).drop 1)).1<vl m T L G p f r x):
  Dq k m T L G p f (P++[(r,x)]) (pkJ ((r++[x]).drop 1) ks') (fun y=>if y=(r++[x]).drop 1 then(vl m T L G p f r x,(f r).2++[x])else f' y) where
 nd:=pk_nd q.nd
 ok:=fun y hy=>by
  by_cases e:y=(r++[x]).drop 1
  ·rw[if_pos e];obtain⟨a,c⟩:=vl_worth k1 b hr x;exact⟨(b.ok r hr).1.snoc hx hm,by rw[c,e],a⟩
  ·rw[if_neg e];exact q.ok y ((pk_mem.mp hy).elim id fun z=>absurd z e)
 cov:=fun r' x' hmm=>by
  rcases qan.mp hmm with z|z
  ·obtain⟨a,c⟩:=q.cov r' x' z;refine⟨pk_mem.mpr (.inl a),?_⟩
   by_cases e:(r'++[x']).drop 1=(r++[x]).drop 1
   ·rw[if_pos e];have:=h (e ▸ a);rw[e]at c;lia
   ·rw[if_neg e];exact c
  ·have:(r',x')=(r,x):=by simpa using z
   cases this;exact⟨pk_mem.mpr (.inr rfl),by rw[if_pos rfl];exact qcB _⟩
theorem Dq.done (k1:1<=k)(b:Dp k m T L G p ks f)(q:Dq k m T L G p f P ks' f')(all:∀r x,r∈ks->(x= -1\/x=0\/x=1)->(m<=p->x=0)->(r,x)∈P):Dp k m T L G (p+1) ks' f' where
 nd:=q.nd
 ok:=q.ok
 all:=fun w hw=>by
  have hn:w≠[]:=fun z=>by have:=hw.len;rw[z]at this;simp at this
  have ew:w=w.dropLast++[w.getLast hn]:=(List.dropLast_concat_getLast hn).symm;have el:w.dropLast.length=p:=by rw[List.length_dropLast,hw.len];lia
  generalize w.dropLast=v at ew el
  generalize w.getLast hn=x at ew
  subst ew;have hv:Sgn m p v:=⟨el,fun i hi=>by
   have:=hw.rng i (by lia);rwa[zls _ _ (by lia)]at this,fun i hi=>by
   by_cases z:i<p
   ·have:=hw.out i hi;rwa[zls _ _ (by lia)]at this
   ·exact znn _ (by lia)⟩
  have hx:=hw.rng p (by lia);have hm:=hw.out p;rw[<-el,zn2]at hx hm;obtain⟨a1,a2⟩:=b.all v hv;obtain⟨c1,c2⟩:=q.cov _ _ (all _ x a1 hx (by rw[el]at hm;exact hm));rw[zlr k1];refine⟨c1,?_⟩;have e:=zlw (k:=k) (m:=m) (T:=T) (L:=L) (G:=G) v x;rw[el]at e;rw[e];unfold vl at c2;have hs:=zmG k1 v x;rw[el]at hs;rw[hs]at c2;lia
end
theorem zaW:∀n,sumR n (fun _=>(0:Int))=0
 |0=>rfl
 |n+1=>by show sumR n (fun _=>(0:Int))+0=0;rw[zaW n];rfl
theorem za7 (f g:Nat->Int):∀n,sumR n (fun i=>f i+g i)=sumR n f+sumR n g
 |0=>rfl
 |n+1=>by
  have:=za7 f g n;show sumR n (fun i=>f i+g i)+(f n+g n)=sumR n f+f n+(sumR n g+g n);lia
theorem zc8 (f:Nat->Nat->Int)(b:Nat):∀a,(sumR a fun i=>sumR b fun j=>f i j)=sumR b fun j=>sumR a fun i=>f i j
 |0=>by show(0:Int)=_;rw[show(fun j:Nat=>sumR 0 fun i=>f i j)=fun _=>(0:Int)from rfl,zaW]
 |a+1=>by
  show(sumR a fun i=>sumR b fun j=>f i j)+(sumR b fun j=>f a j)=sumR b fun j=>(sumR a fun i=>f i j)+f a j
  rw[zc8 f b a,<-za7]
theorem zdt (f:Nat->Int)(c:Int):∀n,sumR n (fun i=>f i*c)=sumR n f*c
 |0=>by show(0:Int)=0*c;rw[qcX]
 |n+1=>by
  show sumR n (fun i=>f i*c)+f n*c=(sumR n f+f n)*c;rw[zdt f c n,Int.add_mul]
theorem zht:∀n,(sumR n fun j=>if j=e then x else 0)=if e<n then x else 0
 |0=>rfl
 |n+1=>by
  show(sumR n fun j=>if j=e then x else 0)+(if n=e then x else 0)=_;rw[zht n]
  by_cases a:e<n
  ·rw[if_pos a,if_neg (by lia),if_pos (by lia)];lia
  ·by_cases c:n=e
   ·rw[if_neg a,if_pos c,if_pos (by lia)];lia
   ·rw[if_neg a,if_neg c,if_neg (by lia)];rfl
theorem zmF:cnP k (fun i=>if i=e then x else 0) p=if e<=p/\p<e+k then x else 0:=by
 unfold cnP
 by_cases h:e<=p
 ·rw[zak (f:=fun j=>if j<=p then(if p-j=e then x else 0)else 0) (g:=fun j=>if j=p-e then x else 0) fun j _=>?_,zht]
  ·by_cases z:p<e+k
   ·rw[if_pos (by lia),if_pos ⟨h,z⟩]
   ·rw[if_neg (by lia),if_neg fun q=>z q.2]
  ·by_cases a:j=p-e
   ·rw[if_pos (by lia),if_pos (by lia),if_pos a]
   ·rw[if_neg a]
    split
    ·rw[if_neg (by lia)]
    ·rfl
 ·rw[if_neg fun q=>h q.1,zak (g:=fun _=>0) fun j _=>?_,zaW]
  (try dsimp only)
  split
  ·rw[if_neg (by lia)]
  ·rfl
theorem cnP_sum (c:Nat)(f:Nat->Nat->Int):cnP k (fun e=>sumR c fun i=>f i e) p=sumR c fun i=>cnP k (f i) p:=by
 unfold cnP;rw[zc8];refine zak fun j _=>?_
 split
 ·rfl
 ·rw[zaW]
theorem cnP_sub (s g:Nat->Int):cnP k (fun e=>s e-g e) p=cnP k s p-cnP k g p:=by
 have h:cnP k s p=cnP k (fun e=>s e-g e) p+cnP k g p:=by
  unfold cnP;rw[<-za7];refine zak fun j _=>?_
  (try dsimp only)
  split<;>lia
 lia
theorem zkl {P:Nat->Prop}[DecidablePred P](one:∀i j,i<j->j<c->P i->P j->False):((sumR c fun i=>if P i then(1:Int)else 0)=0/\∀i,i<c->¬P i)\/((sumR c fun i=>if P i then(1:Int)else 0)=1/\∃i,i<c/\P i):=by
 induction c with
 |zero=>exact .inl ⟨rfl,fun i hi=>by lia⟩
 |succ c ih=>
  have e:(sumR (c+1) fun i=>if P i then(1:Int)else 0)=(sumR c fun i=>if P i then(1:Int)else 0)+if P c then 1 else 0:=rfl
  rw[e];rcases ih fun i j a b=>one i j a (by lia)with⟨z,no⟩|⟨z,i,hi,hP⟩
  ·by_cases hc:P c
   ·exact .inr ⟨by rw[z,if_pos hc];rfl,c,by lia,hc⟩
   ·refine .inl ⟨by rw[z,if_neg hc];rfl,fun i hi=>?_⟩
    by_cases q:i<c
    ·exact no i q
    ·have:i=c:=by lia
     subst this;exact hc
  ·have hc:¬P c:=fun hc=>one i c hi (by lia) hP hc
   exact .inr ⟨by rw[z,if_neg hc];rfl,i,by lia,hP⟩
section
variable {k m n:Nat} {T L G s:Nat->Int}
def gtP (k:Nat)(L G s:Nat->Int)(p:Nat):Int:=if cnP k s p<0 then L p else G p
def ltP (k:Nat)(L G s:Nat->Int)(p:Nat):Int:=if 0<cnP k s p then G p else L p
def Tie (k m n:Nat)(T L G s:Nat->Int)(a b:Nat)(w:Int):Prop:=
 (∃p,p<n/\a=p+1/\b=p/\w=gtP k L G s p)\/(∃p,p<n/\a=p/\b=p+1/\w= -ltP k L G s p)\/
 (∃i,i<m/\0<=s i/\a=i+k/\b=i/\w=T i)\/(∃i,i<m/\s i<=0/\a=i/\b=i+k/\w= -T i)
theorem zsg (hLG:∀p,p<n->L p<=G p)(hp:p<n){a b:Int}(ha:a=0\/a=1)(hb:b=0\/b=1):most L G p (cnP k s p+a-b)-most L G p (cnP k s p)<=a*gtP k L G s p-b*ltP k L G s p:=by
 have lg:=hLG p hp;unfold most gtP ltP
 generalize cnP k s p=c
 rcases ha with rfl|rfl<;>rcases hb with rfl|rfl
 ·simp
 ·rw[show c+0-1=c-1 by lia,qcX,qcU]
  by_cases h1:0<c
  ·by_cases h2:c=1
   ·subst h2;simp
   ·rw[if_pos (show 0<c-1 by lia),if_pos h1,Int.sub_mul];lia
  ·rw[if_neg (show ¬0<c-1 by lia),if_neg h1,Int.sub_mul];lia
 ·rw[show c+1-0=c+1 by lia,qcX,qcU]
  by_cases h1:c<0
  ·rw[if_neg (show ¬0<c+1 by lia),if_neg (show ¬0<c by lia),if_pos h1,Int.add_mul];lia
  ·by_cases h2:c=0
   ·subst h2;simp
   ·rw[if_pos (show 0<c+1 by lia),if_pos (show 0<c by lia),if_neg h1,Int.add_mul];lia
 ·rw[show c+1-1=c by lia,qcU,qcU]
  by_cases h1:c<0
  ·rw[if_pos h1,if_neg (by lia)];lia
  ·by_cases h2:0<c
   ·rw[if_neg h1,if_pos h2];lia
   ·rw[if_neg h1,if_neg h2];lia
end
theorem zeL (f:Nat->Int):∀n,m<=n->(sumR n fun p=>if p<m then f p else 0)=sumR m f
  | 0, h => by have : m = 0 := by lia
               subst this;rfl
  |n+1,h=>by
    show(sumR n fun p=>if p<m then f p else 0)+(if n<m then f n else 0)=_
    by_cases z:m<=n
    . rw[zeL f n z,if_neg (by lia)];lia
    . have:m=n+1:=by lia
      subst this;rw[if_pos (by lia)];show _=sumR n f+f n;rw[zak (f:=fun p=>if p<n+1 then f p else 0) (g:=f) fun p hp=>if_pos (by lia)]
theorem znM (f:Nat->Int):∀c,(sumR c fun i=>f i-f (i+1))=f 0-f c
 |0=>by show(0:Int)=_;lia
 |c+1=>by
  show(sumR c fun i=>f i-f (i+1))+(f c-f (c+1))=_;rw[znM f c];lia
theorem ziu {f g:Nat->Int}:∀n,(∀i,i<n->f i<=g i)->sumR n f<=sumR n g
 |0,_=>qcB _
 |n+1,h=>by
  have:=ziu n fun i hi=>h i (by lia)
  have:=h n (by lia);show sumR n f+f n<=sumR n g+g n;lia
section
variable {k m n:Nat} {T L G s:Nat->Int} {v:Nat->Nat}
def Aa (v:Nat->Nat)(i p:Nat):Int:=if v i=p+1/\v (i+1)=p then 1 else 0
def Ba (v:Nat->Nat)(i p:Nat):Int:=if v i=p/\v (i+1)=p+1 then 1 else 0
def Ua (k:Nat)(v:Nat->Nat)(i e:Nat):Int:=if v i=e+k/\v (i+1)=e then 1 else 0
def Da (k:Nat)(v:Nat->Nat)(i e:Nat):Int:=if v i=e/\v (i+1)=e+k then 1 else 0
def dl (k m:Nat)(v:Nat->Nat)(i e:Nat):Int:=if e<m then Ua k v i e-Da k v i e else 0
theorem arc (k2:2<=k){w:Int}(t:Tie k m n T L G s (v i) (v (i+1)) w):
  w=(sumR n fun p=>Aa v i p*gtP k L G s p-Ba v i p*ltP k L G s p)+(sumR m fun e=>dl k m v i e*T e)/\
  ∀p,p<n->((if p<v i then(1:Int)else 0)-(if p<v (i+1)then 1 else 0))=Aa v i p-Ba v i p+cnP k (dl k m v i) p:=by
 rcases t with⟨q,hq,ea,eb,rfl⟩|⟨q,hq,ea,eb,rfl⟩|⟨q,hq,_,ea,eb,rfl⟩|⟨q,hq,_,ea,eb,rfl⟩
 ·have eA:∀p,Aa v i p=if p=q then 1 else 0:=fun p=>by unfold Aa;rw[ea,eb];split<;>split<;>first|rfl|lia
  have eB:∀p,Ba v i p=0:=fun p=>by unfold Ba;rw[ea,eb,if_neg (by lia)]
  have eD:∀e,dl k m v i e=0:=fun e=>by unfold dl Ua Da;rw[ea,eb,if_neg (show ¬(q+1=e+k/\q=e) by lia),if_neg (show ¬(q+1=e/\q=e+k) by lia)];split<;>rfl
  constructor
  ·rw[zak (g:=fun p=>if p=q then gtP k L G s q else 0) fun p _=>by rw[eA,eB];by_cases z:p=q<;>simp[z],zht,if_pos hq,zak (f:=fun e=>dl k m v i e*T e) (g:=fun _=>0) fun e _=>by rw[eD,qcX],zaW]
   lia
  ·intro p hp;rw[eA,eB,ea,eb,show dl k m v i=fun e=>if e=0 then 0 else 0 from by funext e;rw[eD];split<;>rfl,zmF]
   split<;>split<;>split<;>split<;>lia
 ·have eA:∀p,Aa v i p=0:=fun p=>by unfold Aa;rw[ea,eb,if_neg (by lia)]
  have eB:∀p,Ba v i p=if p=q then 1 else 0:=fun p=>by unfold Ba;rw[ea,eb];split<;>split<;>first|rfl|lia
  have eD:∀e,dl k m v i e=0:=fun e=>by unfold dl Ua Da;rw[ea,eb,if_neg (show ¬(q=e+k/\q+1=e) by lia),if_neg (show ¬(q=e/\q+1=e+k) by lia)];split<;>rfl
  constructor
  ·rw[zak (g:=fun p=>if p=q then-ltP k L G s q else 0) fun p _=>by rw[eA,eB];by_cases z:p=q<;>simp[z],zht,if_pos hq,zak (f:=fun e=>dl k m v i e*T e) (g:=fun _=>0) fun e _=>by rw[eD,qcX],zaW]
   lia
  ·intro p hp;rw[eA,eB,ea,eb,show dl k m v i=fun e=>if e=0 then 0 else 0 from by funext e;rw[eD];split<;>rfl,zmF]
   split<;>split<;>split<;>split<;>lia
 ·have eA:∀p,Aa v i p=0:=fun p=>by unfold Aa;rw[ea,eb,if_neg (by lia)]
  have eB:∀p,Ba v i p=0:=fun p=>by unfold Ba;rw[ea,eb,if_neg (by lia)]
  have eD:∀e,dl k m v i e=if e=q then 1 else 0:=fun e=>by
   unfold dl Ua Da;rw[ea,eb,if_neg (show ¬(q+k=e/\q=e+k) by lia)]
   by_cases z:e=q
   ·rw[if_pos z,if_pos (by lia),if_pos (by lia)];rfl
   ·rw[if_neg z,if_neg (show ¬(q+k=e+k/\q=e) by lia)];split<;>rfl
  constructor
  ·rw[zak (g:=fun _=>0) fun p _=>by rw[eA,eB,qcX,qcX];rfl,zaW,zak (f:=fun e=>dl k m v i e*T e) (g:=fun e=>if e=q then T q else 0) fun e _=>by rw[eD];by_cases z:e=q<;>simp[z],zht,if_pos hq]
   lia
  ·intro p hp;rw[eA,eB,ea,eb,show dl k m v i=fun e=>if e=q then 1 else 0 from funext eD,zmF]
   split<;>split<;>split<;>lia
 ·have eA:∀p,Aa v i p=0:=fun p=>by unfold Aa;rw[ea,eb,if_neg (by lia)]
  have eB:∀p,Ba v i p=0:=fun p=>by unfold Ba;rw[ea,eb,if_neg (by lia)]
  have eD:∀e,dl k m v i e=if e=q then-1 else 0:=fun e=>by
   unfold dl Ua Da;rw[ea,eb,if_neg (show ¬(q=e+k/\q+k=e) by lia)]
   by_cases z:e=q
   ·rw[if_pos z,if_pos (by lia),if_pos (by lia)];rfl
   ·rw[if_neg z,if_neg (show ¬(q=e/\q+k=e+k) by lia)];split<;>rfl
  constructor
  ·rw[zak (g:=fun _=>0) fun p _=>by rw[eA,eB,qcX,qcX];rfl,zaW,zak (f:=fun e=>dl k m v i e*T e) (g:=fun e=>if e=q then-T q else 0) fun e _=>by rw[eD];by_cases z:e=q<;>simp[z],zht,if_pos hq]
   lia
  ·intro p hp;rw[eA,eB,ea,eb,show dl k m v i=fun e=>if e=q then-1 else 0 from funext eD,zmF]
   split<;>split<;>split<;>lia
end
section
variable {k m n:Nat} {T L G s:Nat->Int}
structure SgF (m:Nat) (s:Nat->Int):Prop where
 rng:∀i,i<m->s i= -1\/s i=0\/s i=1
 out:∀i,m<=i->s i=0
theorem no_round (k2:2<=k)(hn:n+1=m+k)(lg:∀p,p<n->L p<=G p)(sf:SgF m s)(opt:∀s',SgF m s'->zcW k m T L G s' n<=zcW k m T L G s n)
  {c:Nat} {v:Nat->Nat} {w:Nat->Int} (home:v c=v 0) (apart:∀i j,i<j->j<c->v i≠v j) (tie:∀i,i<c->Tie k m n T L G s (v i) (v (i+1)) (w i)):0<=sumR c w:=by
 let FA:Nat->Int:=fun p=>sumR c fun i=>Aa v i p
 let FB:Nat->Int:=fun p=>sumR c fun i=>Ba v i p
 let g:Nat->Int:=fun e=>sumR c fun i=>dl k m v i e
 have hA:∀p,FA p=0\/FA p=1:=fun p=>by
  rcases zkl (c:=c) (P:=fun i=>v i=p+1/\v (i+1)=p) (fun i j a b x y=>apart i j a b (x.1.trans y.1.symm))with h|h
  ·exact .inl h.1
  ·exact .inr h.1
 have hB:∀p,FB p=0\/FB p=1:=fun p=>by
  rcases zkl (c:=c) (P:=fun i=>v i=p/\v (i+1)=p+1) (fun i j a b x y=>apart i j a b (x.1.trans y.1.symm))with h|h
  ·exact .inl h.1
  ·exact .inr h.1
 have gout:∀e,m<=e->g e=0:=fun e he=>by
  show(sumR c fun i=>dl k m v i e)=0;rw[zak (g:=fun _=>0) fun i _=>by unfold dl;rw[if_neg (by lia)],zaW]
 have hg:∀e,e<m->(g e=0\/(g e=1/\0<=s e)\/(g e= -1/\s e<=0)):=fun e he=>by
  have eg:g e=(sumR c fun i=>Ua k v i e)-(sumR c fun i=>Da k v i e):=by
   have:(sumR c fun i=>Ua k v i e)=g e+(sumR c fun i=>Da k v i e):=by
    show _=(sumR c fun i=>dl k m v i e)+_;rw[<-za7];exact zak fun i _=>by unfold dl;rw[if_pos he];lia
   lia
  rcases zkl (c:=c) (P:=fun i=>v i=e+k/\v (i+1)=e) (fun i j a b x y=>apart i j a b (x.1.trans y.1.symm))with⟨h1,_⟩|⟨h1,i,hi,x1,x2⟩<;>
   rcases zkl (c:=c) (P:=fun i=>v i=e/\v (i+1)=e+k) (fun i j a b x y=>apart i j a b (x.1.trans y.1.symm))with⟨h2,_⟩|⟨h2,j,hj,y1,y2⟩
  ·left
   rw[eg];show(sumR c fun i=>Ua k v i e)-(sumR c fun i=>Da k v i e)=0;unfold Ua Da;rw[h1,h2];rfl
  ·right;right
   refine⟨by rw[eg];show(sumR c fun i=>Ua k v i e)-(sumR c fun i=>Da k v i e)= -1;unfold Ua Da;rw[h1,h2];rfl,?_⟩;rcases tie j hj with⟨q,_,a,b,_⟩|⟨q,_,a,b,_⟩|⟨q,_,_,a,b,_⟩|⟨q,_,z,a,b,_⟩
   ·lia
   ·lia
   ·lia
   ·rw[show e=q by lia];exact z
  ·right;left
   refine⟨by rw[eg];show(sumR c fun i=>Ua k v i e)-(sumR c fun i=>Da k v i e)=1;unfold Ua Da;rw[h1,h2];rfl,?_⟩;rcases tie i hi with⟨q,_,a,b,_⟩|⟨q,_,a,b,_⟩|⟨q,_,z,a,b,_⟩|⟨q,_,_,a,b,_⟩
   ·lia
   ·lia
   ·rw[show e=q by lia];exact z
   ·lia
  ·left
   rw[eg];show(sumR c fun i=>Ua k v i e)-(sumR c fun i=>Da k v i e)=0;unfold Ua Da;rw[h1,h2];rfl
 have cons:∀p,p<n->cnP k g p=FB p-FA p:=fun p hp=>by
  have h1:(sumR c fun i=>(if p<v i then(1:Int)else 0)-(if p<v (i+1)then 1 else 0))=0:=by
   rw[znM (fun i=>if p<v i then(1:Int)else 0),home];lia
  rw[zak (g:=fun i=>(Aa v i p-Ba v i p)+cnP k (dl k m v i) p) fun i hi=>(arc k2 (tie i hi)).2 p hp,za7,<-cnP_sum]at h1;have h2:FA p=(sumR c fun i=>Aa v i p-Ba v i p)+FB p:=by
   show(sumR c fun i=>Aa v i p)=_+(sumR c fun i=>Ba v i p);rw[<-za7];exact zak fun i _=>by lia
  have h3:cnP k g p=cnP k (fun e=>sumR c fun i=>dl k m v i e) p:=rfl;lia
 have sw:sumR c w=(sumR n fun p=>FA p*gtP k L G s p-FB p*ltP k L G s p)+(sumR m fun e=>g e*T e):=by
  rw[zak fun i hi=>(arc k2 (tie i hi)).1,za7];congr 1
  ·rw[zc8];refine zak fun p _=>?_
   have h1:=zdt (fun i=>Aa v i p) (gtP k L G s p) c;have h2:=zdt (fun i=>Ba v i p) (ltP k L G s p) c;have h3:(sumR c fun i=>Aa v i p*gtP k L G s p)=(sumR c fun i=>Aa v i p*gtP k L G s p-Ba v i p*ltP k L G s p)+sumR c fun i=>Ba v i p*ltP k L G s p:=by
    rw[<-za7];exact zak fun i _=>by lia
   show _=(sumR c fun i=>Aa v i p)*gtP k L G s p-(sumR c fun i=>Ba v i p)*ltP k L G s p;lia
  ·rw[zc8];exact zak fun e _=>zdt (fun i=>dl k m v i e) (T e) c
 have sf':SgF m fun e=>s e-g e:=⟨fun e he=>by
  have:=sf.rng e he;have:=hg e he
  (try dsimp only)
  lia,fun e he=>by
  have h1:=sf.out e he;have h2:=gout e he
  (try dsimp only)
  lia⟩
 have up:=opt _ sf';have lo:zcW k m T L G s n-((sumR n fun p=>FA p*gtP k L G s p-FB p*ltP k L G s p)+(sumR m fun e=>g e*T e))<=zcW k m T L G (fun e=>s e-g e) n:=by
  have e1:=zeL (m:=m) (fun e=>g e*T e) n (by lia);have e2:zcW k m T L G s n<=(sumR n fun p=>(if p<m then(s p-g p)*T p else 0)-most L G p (cnP k (fun e=>s e-g e) p))+((sumR n fun p=>FA p*gtP k L G s p-FB p*ltP k L G s p)+(sumR n fun p=>if p<m then g p*T p else 0)):=by
   rw[<-za7,<-za7];refine ziu n fun p hp=>?_
   have ms:=zsg (k:=k) (s:=s) lg hp (hA p) (hB p);rw[cnP_sub,cons p hp,show cnP k s p-(FB p-FA p)=cnP k s p+FA p-FB p by lia]
   (try dsimp only)
   by_cases z:p<m
   ·rw[if_pos z,if_pos z,if_pos z,Int.sub_mul];lia
   ·rw[if_neg z,if_neg z,if_neg z];lia
  show _<=sumR n fun p=>(if p<m then(s p-g p)*T p else 0)-most L G p (cnP k (fun e=>s e-g e) p)
  lia
 lia
end
def chg (k m:Nat)(T r:Nat->Int):Int:=sumR m fun i=>absI (win k r i-T i)
theorem zob {f:Nat->Int}(j:Nat):∀n,(∀i,m<=i->f i=0)->j+m<=n->(sumR n fun p=>if j<=p then f (p-j)else 0)=sumR m f:=by
 intro n h hn;have e:=zaR (fun p=>if j<=p then f (p-j)else 0) j (n-j);rw[show j+(n-j)=n by lia]at e;rw[e,zak (n:=j) (g:=fun _=>0) fun p hp=>if_neg (by lia),zaW,zak (n:=n-j) (g:=fun i=>if i<m then f i else 0) fun i hi=>?_,zeL f (n-j) (by lia)]
 ·lia
 ·rw[if_pos (by lia),show j+i-j=i by lia]
  by_cases z:i<m
  ·rw[if_pos z]
  ·rw[if_neg z,h i (by lia)]
section
variable {k m n:Nat} {T L G s r:Nat->Int}
theorem zjd (hn:n+1=m+k)(out:∀i,m<=i->s i=0):(sumR m fun i=>s i*win k r i)=sumR n fun p=>cnP k s p*r p:=by
 have e1:(sumR n fun p=>cnP k s p*r p)=sumR n fun p=>sumR k fun j=>(if j<=p then s (p-j)*r ((p-j)+j)else 0):=zak fun p _=>by
  unfold cnP;rw[<-zdt];refine zak fun j _=>?_
  split
  ·rename_i z;rw[show p-j+j=p by lia]
  ·rw[qcX]
 have e2:(sumR m fun i=>s i*win k r i)=sumR m fun i=>sumR k fun j=>s i*r (i+j):=zak fun i _=>by
  unfold win;rw[qcA,<-zdt];exact zak fun j _=>qcA _ _
 rw[e1,e2,zc8 (fun i j=>s i*r (i+j)) k m,zc8 (fun p j=>if j<=p then s (p-j)*r ((p-j)+j)else 0) k n];refine zak fun j hj=>?_
 exact(zob (m:=m) (f:=fun i=>s i*r (i+j)) j n (fun i hi=>by(try dsimp only);rw[out i hi,qcX]) (by lia)).symm
theorem zmw (hn:n+1=m+k)(k1:1<=k):zcW k m T L G s n=(sumR m fun i=>s i*T i)-sumR n fun p=>most L G p (cnP k s p):=by
 have h:(sumR n fun p=>if p<m then s p*T p else 0)=zcW k m T L G s n+sumR n fun p=>most L G p (cnP k s p):=by
  unfold zcW;rw[<-za7];exact zak fun p _=>by lia
 rw[zeL (fun p=>s p*T p) n (by lia)]at h;lia
theorem weak (hn:n+1=m+k)(k1:1<=k)(sf:SgF m s)(hr:∀p,p<n->L p<=r p/\r p<=G p):zcW k m T L G s n<=chg k m T r:=by
 rw[zmw hn k1];have h1:(sumR n fun p=>cnP k s p*r p)<=sumR n fun p=>most L G p (cnP k s p):=ziu n fun p hp=>by
  have b:=hr p hp;unfold most
  by_cases z:0<cnP k s p
  ·rw[if_pos z];exact Int.mul_le_mul_of_nonneg_left b.2 (by lia)
  ·rw[if_neg z];exact Int.mul_le_mul_of_nonpos_left (by lia) b.1
 have h2:(sumR m fun i=>s i*T i)<=chg k m T r+sumR m fun i=>s i*win k r i:=by
  unfold chg;rw[<-za7];refine ziu m fun i hi=>?_
  unfold absI;rcases sf.rng i hi with e|e|e<;>rw[e]<;>split<;>lia
 rw[zjd hn sf.out]at h2;lia
structure RowOf (k m n:Nat) (T L G s r:Nat->Int):Prop where
 lo:∀p,p<n->ltP k L G s p<=r p
 hi:∀p,p<n->r p<=gtP k L G s p
 up:∀i,i<m->0<=s i->win k r i<=T i
 dn:∀i,i<m->s i<=0->T i<=win k r i
theorem RowOf.box (h:RowOf k m n T L G s r)(lg:∀p,p<n->L p<=G p)(hp:p<n):L p<=r p/\r p<=G p:=by
 have a:=h.lo p hp;have b:=h.hi p hp;have c:=lg p hp;unfold ltP at a;unfold gtP at b
 constructor
 ·split at a<;>lia
 ·split at b<;>lia
theorem RowOf.eq (h:RowOf k m n T L G s r)(hn:n+1=m+k)(k1:1<=k)(sf:SgF m s):chg k m T r=zcW k m T L G s n:=by
 rw[zmw hn k1];have h1:(sumR n fun p=>cnP k s p*r p)=sumR n fun p=>most L G p (cnP k s p):=zak fun p hp=>by
  have a:=h.lo p hp;have b:=h.hi p hp;unfold ltP at a;unfold gtP at b;unfold most
  by_cases z:0<cnP k s p
  ·rw[if_pos z]at a;rw[if_neg (by lia)]at b;rw[if_pos z,show r p=G p by lia]
  ·rw[if_neg z]at a
   by_cases y:cnP k s p<0
   ·rw[if_pos y]at b;rw[if_neg z,show r p=L p by lia]
   ·rw[if_neg z,show cnP k s p=0 by lia,qcX,qcX]
 have h2:(sumR m fun i=>s i*T i)=chg k m T r+sumR m fun i=>s i*win k r i:=by
  unfold chg;rw[<-za7];refine zak fun i hi=>?_
  have a:=h.up i hi;have b:=h.dn i hi;unfold absI;rcases sf.rng i hi with e|e|e<;>rw[e]at a b ⊢ <;>split<;>lia
 rw[zjd hn sf.out]at h2;lia
theorem zn5 (h:∀a b w,Tie k m n T L G s a b w->X a<=X b+w):RowOf k m n T L G s fun p=>X (p+1)-X p where
 lo:=fun p hp=>by have:=h p (p+1) _ (.inr (.inl ⟨p,hp,rfl,rfl,rfl⟩));(try dsimp only);lia
 hi:=fun p hp=>by have:=h (p+1) p _ (.inl ⟨p,hp,rfl,rfl,rfl⟩);(try dsimp only);lia
 up:=fun i hi z=>by have:=h (i+k) i _ (.inr (.inr (.inl ⟨i,hi,z,rfl,rfl,rfl⟩)));rw[zke];lia
 dn:=fun i hi z=>by have:=h i (i+k) _ (.inr (.inr (.inr ⟨i,hi,z,rfl,rfl,rfl⟩)));rw[zke];lia
end
theorem cut_clip {m a b:Nat}(f:Nat->D)(h:a<=b):cutD (wL m f) (some (a:Int)) (some (b:Int))=wL (min b m-a) fun i=>f (a+i):=by
 unfold cutD;rw[HT.zjt,HT.zjt,zaF]
 by_cases z:a<=m
 ·rw[qcw z];apply qcv;intro i
  by_cases hi:i<min b m-a
  ·rw[qaU hi,qcC,zao _ (by lia),zao _ hi]
  ·rw[qbU (by rw[qaO];lia),qbU (by rw[zaF];lia)]
 ·rw[qcx (by rw[zaF];lia),show min b m-a=0 by lia,List.take_nil]
  rfl
theorem cnP_cut {k m p:Nat}{s:Nat->Int}(out:∀i,m<=i->s i=0):(sumR (min (p+1) m-(p+1-k)) fun i=>s (p+1-k+i))=cnP k s p:=by
 unfold cnP;have e1:(sumR k fun j=>if j<=p then s (p-j)else 0)=sumR (min (p+1) k) fun j=>s (p-j):=by
  rw[<-zeL (m:=min (p+1) k) (fun j=>s (p-j)) k (by lia)];refine zak fun j hj=>?_
  (try dsimp only)
  by_cases z:j<=p
  ·rw[if_pos z,if_pos (by lia)]
  ·rw[if_neg z,if_neg (by lia)]
 rw[e1,zl6 _ (min (p+1) k),zak (f:=fun i=>s (p-(min (p+1) k-1-i))) (g:=fun i=>s (p+1-k+i)) fun i hi=>by rw[show p-(min (p+1) k-1-i)=p+1-k+i by lia]];rw[<-zeL (m:=min (p+1) m-(p+1-k)) (fun i=>s (p+1-k+i)) (min (p+1) k) (by lia)];refine zak fun i hi=>?_
 (try dsimp only)
 by_cases z:i<min (p+1) m-(p+1-k)
 ·rw[if_pos z]
 ·rw[if_neg z,out _ (by lia)]
section
variable {k m n:Nat} {T L G s:Nat->Int}
theorem znt (out:∀i,m<=i->s i=0)(n9:n<=1000)(k9:k<=1000):Ok (zbb [zax k m n T L G,.tup (wI m s)]) fun x=>x= .own (wI n (cnP k s)):=by
 have sm:zbL (n:Int)=true:=zay (by lia) (by lia);simp! only[↓zbb,↓zeh,↓zeK];refine⟨sm,by lia,zaH (fun ρ=>∃z,ρ=[.val (.tup (wI m s)),.val (.int k),z]) (fun p=> .int (cnP k s p)) ⟨_,rfl⟩ ?_ ?_⟩
 ·rintro p _ hp ⟨z,rfl⟩;have e1:max2 0 ((p:Int)-(k:Int)+1)=((p+1-k:Nat):Int):=by unfold max2;split<;>lia
  have e2:(p:Int)+1=((p+1:Nat):Int):=by lia
  have hc:=cut_clip (m:=m) (a:=p+1-k) (b:=p+1) (fun j=> .int (s j)) (by lia);simp! only[↓zeG,e1,e2,hc,zbz,zbq,cnP_cut out];exact⟨_,rfl⟩
 ·rintro _ ⟨z,rfl⟩;simp! only[]
theorem zqR (hp:p<n)(c:Int)(hc: -1000<=c/\c<=1000):Ok (zbM [zax k m n T L G,.int p,.int c]) fun x=>x= .val (.int (most L G p c)):=by
 simp! only[↓zbM,↓zhj,zao _ hp];unfold most;refine⟨fun h=>⟨zdi (by lia),?_⟩,fun h=>⟨zdi (by lia),?_⟩⟩
 ·rw[if_pos h]
 ·rw[if_neg (by lia)]
end
section
variable {k m n:Nat} {T L G s:Nat->Int}
theorem SgF.bd (sf:SgF m s)(i:Nat): -1<=s i/\s i<=1:=by
 by_cases h:i<m
 ·have:=sf.rng i h;lia
 ·have:=sf.out i (by lia);lia
theorem cnP_bd (sf:SgF m s)(p:Nat): -(k:Int)<=cnP k s p/\cnP k s p<=(k:Int):=by
 unfold cnP
 generalize hf:(fun j=>if j<=p then s (p-j)else 0)=f
 have b:∀j,-1<=f j/\f j<=1:=fun j=>by
  subst hf
  (try dsimp only)
  split
  ·exact sf.bd _
  ·lia
 clear hf
 induction k with
 |zero=>exact⟨by simp[sumR],by simp[sumR]⟩
 |succ k ih=>
  have:=b k;show-((k+1:Nat):Int)<=sumR k f+f k/\sumR k f+f k<=((k+1:Nat):Int);lia
theorem worth_ok (hn:n+1=m+k)(k1:1<=k)(n9:n<=900)(sf:SgF m s):Ok (zcC [zax k m n T L G,.tup (wI m s)]) fun x=>x= .val (.int (zcW k m T L G s n)):=by
 simp! only[↓zcC,↓ze2,↓zfq,zkI];refine⟨by lia,zaH (fun ρ=>∃a b,ρ=[a,b]) (fun i=> .int (s i*T i)) ⟨_,_,rfl⟩ ?_ ?_⟩
 ·rintro i _ hi ⟨a,b,rfl⟩;have:=sf.bd i;simp! only[↓zfQ];exact⟨zdi (by lia),_,_,rfl⟩
 ·rintro _ ⟨a,b,rfl⟩;simp! only[zbz,zbq,↓zfr];refine(znt sf.out (by lia) (by lia)).mono ?_;rintro _ rfl;simp! only[zma];refine⟨by lia,zaH (fun ρ=>∃a b,ρ=[.val (zax k m n T L G),a,b]) (fun p=> .int (most L G p (cnP k s p))) ⟨_,_,rfl⟩ ?_ ?_⟩
  ·rintro p _ hp ⟨a,b,rfl⟩;have:=cnP_bd (k:=k) sf p;simp! only[↓zfC];refine(zqR hp _ (by lia)).mono ?_;rintro _ rfl;simp! only[];exact⟨_,_,rfl⟩
  ·rintro _ ⟨a,b,rfl⟩;simp! only[zbz,zbq];rw[zmw hn k1]
end
def wd (f:List Int->Int×List Int)(r:List Int):D:= .tup [.int (f r).1,.tup ((f r).2.map .int)]
theorem Sgn.f (h:Sgn m n w):SgF m (sg w):=⟨fun i _=>by
 by_cases z:i<n
 ·exact h.rng i z
 ·have:=znn w (i:=i) (by have:=h.len;lia);lia,h.out⟩
def allC:Nat->List (List Int)
 |0=>[[]]
 |j+1=>(allC j).flatMap fun r=>[(-1)::r,0::r,1::r]
theorem zpM:∀j,(allC j).length=3^j
 |0=>rfl
 |j+1=>by
  unfold allC;have h:∀l:List (List Int),(l.flatMap fun r=>[(-1)::r,0::r,1::r]).length=l.length*3:=fun l=>by
   induction l with
   |nil=>rfl
   |cons r l ih=>rw[List.flatMap_cons,qaW,ih,qbr];simp;lia
  rw[h,zpM j,Nat.pow_succ]
theorem zpO:∀(j:Nat) (r:List Int),r.length=j->(∀x,x∈r->x= -1\/x=0\/x=1)->r∈allC j
 |0,r,e,_=>by rw[qcW.mp e];exact qcg.mpr rfl
 |j+1,[],e,_=>by simp at e
 |j+1,x::r,e,h=>by
  unfold allC;refine qcY.mpr ⟨r,zpO j r (by simpa using e) fun y hy=>h y (qal _ hy),?_⟩;rcases h x (qak)with rfl|rfl|rfl<;>simp
theorem zpP {α:Type}[DecidableEq α]:∀{l l':List α},l.Nodup->(∀x,x∈l->x∈l')->l.length<=l'.length
 |[],_,_,_=>qbB _
 |x::l,l',nd,h=>by
  have nd':=qaM.mp nd;have hx:=h x qak;have:=zpP (l:=l) (l':=l'.erase x) nd'.2 fun y hy=>(List.mem_erase_of_ne (fun e:y=x=>nd'.1 (by rw[<-e];exact hy))).mpr (h y (qal _ hy))
  rw[List.length_erase_of_mem hx]at this;have:0<l'.length:=List.length_pos_of_mem hx;rw[qbr];lia
theorem keys_few {k m p:Nat}(k5:k<=5)(nd:ks.Nodup)(h:∀r,r∈ks->∃w,Sgn m p w/\zfY k w=r):ks.length<=81:=by
 have a:=zpP (l':=allC (k-1)) nd fun r hr=>by
  obtain⟨w,hw,e⟩:=h r hr;refine zpO _ _ (by rw[<-e];exact zg3 _ _) fun x hx=>?_
  obtain⟨j,hj,ej⟩:=qcP hx;have l1:r.length=k-1:=by rw[<-e];exact zg3 _ _
  have g:=zkK (k:=k) w (j:=j) (by lia);unfold sg at g;rw[e,qcy,qbF hj,ej]at g;have g':x=if k-1<=w.length+j then sg w (w.length+j-(k-1))else 0:=g
  rw[g']
  split
  ·have hl:=hw.len
   by_cases z:w.length+j-(k-1)<p
   ·exact hw.rng _ z
   ·have:=znn w (i:=w.length+j-(k-1)) (by lia);lia
  ·lia
 rw[zpM]at a;have:3^(k-1)<=3^4:=qcZ (by decide) (by lia);have:(3:Nat)^4=81:=by decide
 lia
section
variable {k m n p:Nat} {T L G:Nat->Int} {ks:List (List Int)} {f:List Int->Int×List Int}
def ad (m p:Nat)(T:Nat->Int)(x:Int):Int:=if p<m then x*T p else 0
def chD (m p:Nat)(T:Nat->Int)(x:Int):D:= .tup [.int x,.int (ad m p T x)]
theorem cut1 (r:List Int):cutD (r.map D.int) (some 1) none=(r.drop 1).map .int:=by
 rw[show(some (1:Int))=some ((1:Nat):Int)from rfl,zhp,List.map_drop]
theorem zqs (r:List Int):keyT (.tup (r.map .int))=some r:=zbI r
theorem wd_put (f':List Int->Int×List Int)(y:List Int)(v:Int)(w:List Int)(l:List (List Int)):(l.map fun z=>if z=y then D.tup [.int v,.tup (w.map .int)]else wd f' z)=l.map (wd fun z=>if z=y then(v,w)else f' z):=by
 apply qci;intro z _;unfold wd
 (try dsimp only)
 by_cases e:z=y
 ·rw[if_pos e,if_pos e]
 ·rw[if_neg e,if_neg e]
theorem here_bd (k1:1<=k)(b:Dp k m T L G p ks f){r:List Int}(hr:r∈ks)(hx:x= -1\/x=0\/x=1)(hm:m<=p->x=0): -(k:Int)<=(r++[x]).sum/\(r++[x]).sum<=(k:Int):=by
 obtain⟨h1,h2,h3⟩:=b.ok r hr;have hs:=zmG k1 (f r).2 x;rw[h2]at hs;rw[hs];exact cnP_bd (h1.snoc hx hm).f _
theorem zqL (k1:1<=k)(k9:k<=5)(n9:n<=900)(hp:p<n)(b:Dp k m T L G p ks f)(ch:List Int)(hc:∀x,x∈ch↔(x= -1\/x=0\/x=1)/\(m<=p->x=0)):
  Ok (zcN [.val (zax k m n T L G),.val (.int p),.val (.dit ks (ks.map (wd f))),.val (.lst (ch.map (chD m p T))),.tre (.dit [] []),.emp,.emp,.emp,.emp,.emp]) fun r=>∃ks' f' s5 s6 s7 s8 s9,Dp k m T L G (p+1) ks' f'/\r=(.next,[.val (zax k m n T L G),.val (.int p),.val (.dit ks (ks.map (wd f))),.val (.lst (ch.map (chD m p T))),.tre (.dit ks' (ks'.map (wd f'))),s5,s6,s7,s8,s9]):=by
 simp! only[↓zcN];refine zjS (enc:=fun r=> .tup (r.map .int)) (l:=ks) (fun i ρ=>∃ks' f' s5 s6 s7 s8 s9,Dq k m T L G p f ((ks.take i).flatMap fun r=>ch.map fun x=>(r,x)) ks' f'/\ρ=[.val (zax k m n T L G),.val (.int p),.val (.dit ks (ks.map (wd f))),.val (.lst (ch.map (chD m p T))),.tre (.dit ks' (ks'.map (wd f'))),s5,s6,s7,s8,s9]) ⟨[],f,_,_,_,_,_,Dq.start,rfl⟩ ?_ ?_
 ·rintro i r _ hi ⟨ks',f',s5,s6,s7,s8,s9,q,rfl⟩;have hr:=qaV hi;have il:i<ks.length:=(qap.mp hi).1;simp! only[↓zew,↓zeR];refine zjS (enc:=chD m p T) (l:=ch) (fun j ρ=>∃ks' f' s6 s7 s8 s9,Dq k m T L G p f (((ks.take i).flatMap fun r=>ch.map fun x=>(r,x))++(ch.take j).map fun x=>(r,x)) ks' f'/\ρ=[.val (zax k m n T L G),.val (.int p),.val (.dit ks (ks.map (wd f))),.val (.lst (ch.map (chD m p T))),.tre (.dit ks' (ks'.map (wd f'))),.val (.tup (r.map .int)),s6,s7,s8,s9]) ⟨ks',f',_,_,_,_,by simpa using q,rfl⟩ ?_ ?_
  ·rintro j x _ hj ⟨ks',f',s6,s7,s8,s9,q,rfl⟩;obtain⟨hx,hm⟩:=(hc x).mp (qaV hj);have jl:j<ch.length:=(qap.mp hj).1;have eP:(((ks.take i).flatMap fun r=>ch.map fun x=>(r,x))++(ch.take j).map fun x=>(r,x))++[(r,x)]=((ks.take i).flatMap fun r=>ch.map fun x=>(r,x))++(ch.take (j+1)).map fun x=>(r,x):=by
    rw[List.take_add_one,hj];simp
   have hb:=here_bd k1 b hr hx hm;have lr:lkD ks (ks.map (wd f)) r=some (wd f r):=by rw[zlK,if_pos hr]
   have eh:∀(r:List Int) (x:Int),List.map D.int r++[D.int x]=(r++[x]).map .int:=fun r x=>by rw[qcj];rfl
   obtain⟨g1,g2,g3⟩:=b.ok r hr;have rl:r.length=k-1:=by rw[<-g2];exact zg3 _ _
   have wl:(f r).2.length=p:=g1.len;simp! only[↓zeV,chD,zqs,lr,wd,eh,zbI];refine⟨by lia,(zqR hp _ (by lia)).mono ?_⟩;rintro _ rfl;have ev:(f r).1+ad m p T x-most L G p (r++[x]).sum=vl m T L G p f r x:=rfl;have wr:wd f r= .tup [.int (f r).1,.tup ((f r).2.map .int)]:=rfl;have wy:wd f' ((r++[x]).drop 1)= .tup [.int (f' ((r++[x]).drop 1)).1,.tup ((f' ((r++[x]).drop 1)).2.map .int)]:=rfl;have few:=keys_few k9 q.nd fun r hr=>⟨_,(q.ok r hr).1,(q.ok r hr).2.1⟩
   by_cases hy:(r++[x]).drop 1∈ks'
   ·have ly:lkD ks' (ks'.map (wd f')) ((r++[x]).drop 1)=some (wd f' ((r++[x]).drop 1)):=by rw[zlK,if_pos hy]
    simp! only[cut1,zqs,ev,ly,lr,wr,wy,eh,zsM,wd_put];refine⟨fun lt=>⟨by lia,by lia,_,_,_,_,_,_,eP ▸ q.put k1 b hr hx hm fun _=>lt,rfl⟩,fun le=>⟨ks',f',_,_,_,_,eP ▸ q.stay hy le,rfl⟩⟩
   ·have ly:lkD ks' (ks'.map (wd f')) ((r++[x]).drop 1)=none:=by rw[zlK,if_neg hy]
    simp! only[cut1,zqs,ev,ly,lr,wr,eh,zsM,wd_put];refine⟨fun _=>⟨by lia,by lia,_,_,_,_,_,_,eP ▸ q.put k1 b hr hx hm fun z=>absurd z hy,rfl⟩,fun z=>by simp at z⟩
  ·rintro _ ⟨ks',f',s6,s7,s8,s9,q,rfl⟩;refine⟨ks',f',_,_,_,_,_,?_,rfl⟩;rw[List.take_length]at q;rw[List.take_add_one,hi,qc0];simpa using q
 ·rintro _ ⟨ks',f',s5,s6,s7,s8,s9,q,rfl⟩;refine⟨ks',f',_,_,_,_,_,q.done k1 b fun r x hr hx hm=>?_,rfl⟩;rw[List.take_length];exact qcY.mpr ⟨r,hr,qbS.mpr ⟨x,(hc x).mpr ⟨hx,hm⟩,rfl⟩⟩
end
section
variable {k m n p:Nat} {T L G:Nat->Int} {ks:List (List Int)} {f:List Int->Int×List Int}
theorem grown_ok (k1:1<=k)(k9:k<=5)(n9:n<=900)(m9:m<=900)(hp:p<n)(b:Dp k m T L G p ks f):
  Ok (zb6 [zax k m n T L G,.int p,.dit ks (ks.map (wd f))]) fun x=>∃ks' f',Dp k m T L G (p+1) ks' f'/\x= .val (.dit ks' (ks'.map (wd f'))):=by
 simp! only[↓zb6,↓zen];refine⟨fun h=>?_,fun h=>?_⟩
 ·have hpm:p<m:=by lia
  simp! only[↓zeC];refine zir (enc:=D.int) (l:=[-1,0,1]) (fun ρ=>∃z,ρ=[.val (zax k m n T L G),.val (.int p),z]) (chD m p T) ⟨_,rfl⟩ ?_ ?_
  ·rintro x _ hx ⟨z,rfl⟩;have hx':x= -1\/x=0\/x=1:=by simpa using hx
   simp! only[↓zeI,zao _ hpm];refine⟨zdi (by lia),by unfold chD ad;rw[if_pos hpm],_,rfl⟩
  ·rintro _ ⟨z,rfl⟩;simp! only[];refine(zqL k1 k9 n9 hp b [-1,0,1] (fun x=>⟨fun hx=>⟨by simpa using hx,fun z=>by lia⟩,fun hx=>by simpa using hx.1⟩)).mono ?_;rintro _ ⟨ks',f',s5,s6,s7,s8,s9,d,rfl⟩;simp! only[];exact⟨ks',f',d,rfl⟩
 ·have hpm:¬p<m:=by lia
  have e0:[D.tup [.int 0,.int 0]]=[0].map (chD m p T):=by simp[chD,ad,hpm]
  rw[e0];have c0:∀x:Int,x∈[(0:Int)]↔(x= -1\/x=0\/x=1)/\(m<=p->x=0):=fun x=>by
   rw[qcg];exact⟨fun e=>⟨.inr (.inl e),fun _=>e⟩,fun h=>h.2 (by lia)⟩
  refine(zqL k1 k9 n9 hp b [0] c0).mono ?_;rintro _ ⟨ks',f',s5,s6,s7,s8,s9,d,rfl⟩;simp! only[];exact⟨ks',f',d,rfl⟩
theorem take_w (h:m<=w.length):(w.map D.int).take m=wI m (sg w):=by
 apply qcv;intro i
 by_cases hi:i<m
 ·rw[qaU hi,qaT,qbF (by lia),zao _ hi];unfold sg;rw[qcy,qbF (by lia)]
  rfl
 ·rw[qbU (by rw[qaO];lia),qbU (by rw[zaF];lia)]
theorem zpy (hn:n+1=m+k)(k1:1<=k)(kn:k<=n)(h:Sgn m n w):zfY k w=List.replicate (k-1) 0:=by
 apply List.ext_getElem
 ·rw[zg3,qaY]
 ·intro j h1 h2;have hj:j<k-1:=by rw[qaY]at h2;exact h2
  have e:=zkK w hj;unfold sg at e;rw[qcy,qbF h1]at e;rw[List.getElem_replicate];have hl:=h.len;rw[if_pos (by lia)]at e;exact e.trans (h.out _ (by lia))
theorem sg_fn (s:Nat->Int)(h:i<n):sg ((List.range n).map s) i=s i:=by
 unfold sg;rw[qcy,qaT,qcf h]
 rfl
theorem znU (hn:n+1=m+k)(k2:2<=k)(m1:1<=m)(k5:k<=5)(n9:n<=900):
    Ok (zbh [zax k m n T L G]) fun x=>∃s,SgF m s/\(∀s',SgF m s'->zcW k m T L G s' n<=zcW k m T L G s n)/\x= .val (.tup (wI m s)):=by
  have sm:zbL (n:Int)=true:=zay (by lia) (by lia);have er:(List.replicate ((k:Int)-1).toNat [D.int 0]).flatten=(List.replicate (k-1) (0:Int)).map .int:=by
    rw[show((k:Int)-1).toNat=k-1 by lia]
    induction (k-1)with
    |zero=>rfl
    |succ j ih=>rw[qbf,qbg,ih,qbf];rfl
  simp! only[↓zbh,↓zcY,er,zqs,↓zdo];refine⟨⟨⟨⟨rfl,by lia⟩,by lia⟩,by lia⟩,sm,zbm (fun p ρ=>∃ks f s z,Dp k m T L G p ks f/\(s= .tre (.dit ks (ks.map (wd f)))\/s= .val (.dit ks (ks.map (wd f))))/\ρ=[.val (zax k m n T L G),.val (.tup ((List.replicate (k-1) (0:Int)).map .int)),s,z]) ⟨_,_,_,_,Dp.start,.inl rfl,rfl⟩ ?_ ?_⟩
  . rintro p _ hp ⟨ks,f,s,z,b,hs,rfl⟩
    have g:=grown_ok (T:=T) (L:=L) (G:=G) (n:=n) (by lia) (by lia) (by lia) (by lia) hp b;have fin:∀x,(∃ks' f',Dp k m T L G (p+1) ks' f'/\x=Sl.val (.dit ks' (ks'.map (wd f'))))->∃ks f s z,Dp k m T L G (p+1) ks f/\(s= .tre (.dit ks (ks.map (wd f)))\/s= .val (.dit ks (ks.map (wd f))))/\[Sl.val (zax k m n T L G),.val (.tup ((List.replicate (k-1) (0:Int)).map .int)),x,.val (.int p)]=[.val (zax k m n T L G),.val (.tup ((List.replicate (k-1) (0:Int)).map .int)),s,z]:=fun x ⟨ks',f',d,e⟩=>⟨ks',f',x,_,d,.inr e,rfl⟩
    rcases hs with rfl|rfl
    . simp! only[↓zbZ]
      refine g.mono ?_;rintro _ ⟨ks',f',d,rfl⟩;simp! only[];exact fin _ ⟨ks',f',d,rfl⟩
    . simp! only[↓zbZ]
      refine g.mono ?_;rintro _ ⟨ks',f',d,rfl⟩;simp! only[];exact fin _ ⟨ks',f',d,rfl⟩
  . rintro _ ⟨ks,f,s,z,b,hs,rfl⟩
    have z0:Sgn m n (List.replicate n 0):=⟨qaY,fun i hi=>by right;left;unfold sg;rw[qcy,qaR,if_pos hi];rfl,fun i hi=>by
      unfold sg;rw[qcy,qaR]
      split<;>rfl⟩
    have mem:=(b.all _ z0).1;rw[zpy hn (by lia) (by lia) z0]at mem;obtain⟨h1,h2,h3⟩:=b.ok _ mem;have lr:lkD ks (ks.map (wd f)) (List.replicate (k-1) 0)=some (wd f (List.replicate (k-1) 0)):=by rw[zlK,if_pos mem]
    have fin:∃s,SgF m s/\(∀s',SgF m s'->zcW k m T L G s' n<=zcW k m T L G s n)/\Sl.val (D.tup (((f (List.replicate (k-1) 0)).2.map .int).take m))= .val (.tup (wI m s)):=by
      refine⟨_,h1.f,fun s' h'=>?_,by rw[take_w (by have:=h1.len;lia)]⟩;have w':Sgn m n ((List.range n).map s'):=⟨by simp,fun i hi=>by
        rw[sg_fn s' hi]
        by_cases q:i<m
        . exact h'.rng i q
        . have:=h'.out i (by lia);lia,fun i hi=>by
        by_cases q:i<n
        . rw[sg_fn s' q];exact h'.out i hi
        . exact znn _ (by simp;lia)⟩
      have:=(b.all _ w').2;rw[zpy hn (by lia) (by lia) w',<-h3,zkz (s:=sg ((List.range n).map s')) (t:=s') fun i hi=>sg_fn s' hi]at this;exact this
    have wr:wd f (List.replicate (k-1) 0)= .tup [.int (f (List.replicate (k-1) 0)).1,.tup ((f (List.replicate (k-1) 0)).2.map .int)]:=rfl;rcases hs with rfl|rfl
    . simp! only[zqs,lr,wr,zhn]
      exact fin
    . simp! only[zqs,lr,wr,zhn]
      exact fin
end
def zeM (lo hi:Nat->Int)(n:Nat):List Tt:=(List.range n).flatMap fun p=>[(p+1,p,hi p),(p,p+1,-lo p)]
def zk7 (k:Nat)(s T:Nat->Int)(m:Nat):List Tt:=(List.range m).flatMap fun i=>(if 0<=s i then[(i+k,i,T i)]else[])++(if s i<=0 then[(i,i+k,-T i)]else[])
theorem zjo (lo hi:Nat->Int):∀n,(zeM lo hi n).length=2*n
 |0=>rfl
 |n+1=>by
  have:=zjo lo hi n;unfold zeM at this ⊢;rw[qcu,qc0,qaW,this];simp;lia
theorem znJ (k:Nat)(s T:Nat->Int):∀m,(zk7 k s T m).length<=2*m
 |0=>by simp[zk7]
 |m+1=>by
  have:=znJ k s T m;unfold zk7 at this ⊢;rw[qcu,qc0,qaW];have h:(List.flatMap (fun i=>(if 0<=s i then[(i+k,i,T i)]else[])++(if s i<=0 then[(i,i+k,-T i)]else[])) [m]).length<=2:=by
   simp only[List.flatMap_cons,List.flatMap_nil,qaK,qaW]
   split<;>split<;>simp
  lia
section
variable {k m n:Nat} {T L G s lo hi:Nat->Int}
theorem zqO (n9:n<=900):Ok (zdc [.lst (wI n lo),.lst (wI n hi)]) fun x=>x= .own ((zeM lo hi n).map tD):=by
 simp! only[↓zdc,↓zgY,zma,↓zgF];refine zbm (fun p ρ=>∃s3 s4,ρ=[.val (.lst (wI n lo)),.val (.lst (wI n hi)),.own ((zeM lo hi p).map tD),s3,s4]) ⟨_,_,rfl⟩ ?_ ?_
 ·rintro p _ hp ⟨s3,s4,rfl⟩;have hl:=zjo lo hi p;have e:(zeM lo hi p).map tD++[.tup [.int ((p:Int)+1),.int p,.int (hi p)]]++[.tup [.int p,.int ((p:Int)+1),.int (-lo p)]]=(zeM lo hi (p+1)).map tD:=by
   unfold zeM;rw[qcu,qc0,qcj,qbh]
   rfl
  simp! only[↓zhm,zao _ hp,e,qaX,qaW];exact⟨by lia,by lia,_,_,rfl⟩
 ·rintro _ ⟨s3,s4,rfl⟩;simp! only[]
theorem cties_ok (hn:n+1=m+k)(n9:n<=900)(sf:SgF m s):Ok (zdd [zax k m n T L G,.tup (wI m s)]) fun x=>x= .own ((zeM (ltP k L G s) (gtP k L G s) n++zk7 k s T m).map tD):=by
 simp! only[↓zdd,↓zf7];refine(znt sf.out (by lia) (by lia)).mono ?_;rintro _ rfl;simp! only[↓zhg,zn4];refine⟨by lia,zaH (fun ρ=>∃a b c,ρ=[a,b,c]) (fun p=> .int (ltP k L G s p)) ⟨_,_,_,rfl⟩ ?_ ?_⟩
 ·rintro p _ hp ⟨a,b,c,rfl⟩;simp! only[↓zgW];unfold ltP;exact⟨fun h=>⟨by rw[if_pos h],_,_,_,rfl⟩,fun h=>⟨by rw[if_neg (by lia)],_,_,_,rfl⟩⟩
 ·rintro _ ⟨a,b,c,rfl⟩;simp! only[↓zgA,zn4];refine⟨by lia,zaH (fun ρ=>∃a b c,ρ=[a,b,c]) (fun p=> .int (gtP k L G s p)) ⟨_,_,_,rfl⟩ ?_ ?_⟩
  ·rintro p _ hp ⟨a,b,c,rfl⟩;simp! only[↓zgi];unfold gtP;exact⟨fun h=>⟨by rw[if_pos h],_,_,_,rfl⟩,fun h=>⟨by rw[if_neg (by lia)],_,_,_,rfl⟩⟩
  ·rintro _ ⟨a,b,c,rfl⟩;simp! only[];refine(zqO n9).mono ?_;rintro _ rfl;simp! only[↓zgm,zma];refine zbm (fun i ρ=>∃s6 s7,ρ=[.val (zax k m n T L G),.val (.tup (wI m s)),.val (.lst (wI n (cnP k s))),.val (.lst (wI n (ltP k L G s))),.val (.lst (wI n (gtP k L G s))),.own ((zeM (ltP k L G s) (gtP k L G s) n++zk7 k s T i).map tD),s6,s7]) ⟨_,_,by rw[show zk7 k s T 0=[]from rfl,qaK]⟩ ?_ ?_
   ·rintro i _ hi ⟨s6,s7,rfl⟩;have h1:=zjo (ltP k L G s) (gtP k L G s) n;have h2:=znJ k s T i;have e:∀l:List Tt,(l=(if 0<=s i then[(i+k,i,T i)]else[])++(if s i<=0 then[(i,i+k,-T i)]else[]))->(zeM (ltP k L G s) (gtP k L G s) n++zk7 k s T i).map tD++l.map tD=(zeM (ltP k L G s) (gtP k L G s) n++zk7 k s T (i+1)).map tD:=fun l hl=>by
     subst hl;unfold zk7;rw[qcu,qc0,<-qcj,qbh];simp
    simp! only[↓zf5,↓zgs,zao _ hi];refine⟨fun a=>⟨by lia,fun b=>⟨by lia,.val (.int i),.val (.int (T i)),?_⟩,fun b=>⟨.val (.int i),.val (.int (T i)),?_⟩⟩,fun a=>⟨fun b=>⟨by lia,.val (.int i),.val (.int (T i)),?_⟩,fun b=>by lia⟩⟩
    ·rw[<-e [(i+k,i,T i),(i,i+k,-T i)] (by rw[if_pos a,if_pos b];rfl),qbh];rfl
    ·rw[<-e [(i+k,i,T i)] (by rw[if_pos a,if_neg (by lia)];rfl)];rfl
    ·rw[<-e [(i,i+k,-T i)] (by rw[if_neg (by lia),if_pos b];rfl)];rfl
   ·rintro _ ⟨s6,s7,rfl⟩;simp! only[]
end
section
variable {k m n:Nat} {T L G s:Nat->Int}
theorem mem_ties {t:Tt}:t∈zeM (ltP k L G s) (gtP k L G s) n++zk7 k s T m↔Tie k m n T L G s t.1 t.2.1 t.2.2:=by
 obtain⟨a,b,w⟩:=t;unfold zeM zk7 Tie;rw[qan,qcY,qcY]
 constructor
 ·rintro(⟨p,hp,h⟩|⟨i,hi,h⟩)
  ·rw[qah]at hp;simp only[qam,qb9,or_false,qbz]at h;rcases h with⟨rfl,rfl,rfl⟩|⟨rfl,rfl,rfl⟩
   ·exact .inl ⟨_,hp,rfl,rfl,rfl⟩
   ·exact .inr (.inl ⟨_,hp,rfl,rfl,rfl⟩)
  ·rw[qah]at hi;rcases qan.mp h with h|h
   ·by_cases z:0<=s i
    ·rw[if_pos z]at h;simp only[qam,qb9,or_false,qbz]at h;obtain⟨rfl,rfl,rfl⟩:=h;exact .inr (.inr (.inl ⟨_,hi,z,rfl,rfl,rfl⟩))
    ·rw[if_neg z]at h;cases h
   ·by_cases z:s i<=0
    ·rw[if_pos z]at h;simp only[qam,qb9,or_false,qbz]at h;obtain⟨rfl,rfl,rfl⟩:=h;exact .inr (.inr (.inr ⟨_,hi,z,rfl,rfl,rfl⟩))
    ·rw[if_neg z]at h;cases h
 ·(try dsimp only)
  rintro(⟨p,hp,rfl,rfl,rfl⟩|⟨p,hp,rfl,rfl,rfl⟩|⟨i,hi,z,rfl,rfl,rfl⟩|⟨i,hi,z,rfl,rfl,rfl⟩)
  ·exact .inl ⟨_,qah.mpr hp,by simp⟩
  ·exact .inl ⟨_,qah.mpr hp,by simp⟩
  ·exact .inr ⟨_,qah.mpr hi,by simp[z]⟩
  ·exact .inr ⟨_,qah.mpr hi,by simp[z]⟩
theorem zr4 (hn:n+1=m+k)(k2:2<=k)(m1:1<=m)(k5:k<=5)(n9:n<=900)(lg:∀p,p<n->L p<=G p):
  Ok (za5 [zax k m n T L G]) fun x=>∃s r,SgF m s/\(∀s',SgF m s'->zcW k m T L G s' n<=zcW k m T L G s n)/\RowOf k m n T L G s r/\x= .val (.tup [.int (zcW k m T L G s n),.tup (wI n r),.tup (wI m s)]):=by
 simp! only[↓za5,↓zfi];refine(znU hn k2 m1 k5 n9).mono ?_;rintro _ ⟨s,sf,opt,rfl⟩;simp! only[];refine(worth_ok hn (by lia) (by lia) sf).mono ?_;rintro _ rfl;simp! only[];refine(cties_ok hn (by lia) sf).mono ?_;rintro _ rfl;simp! only[];refine(zso (n:=n) (by lia) (fun t ht=>?_) (fun c v w home apart tie=>no_round k2 hn lg sf opt home apart fun i hi=>mem_ties.mp (tie i hi)) (fun p hp=>⟨gtP k L G s p,mem_ties.mpr (.inl ⟨p,hp,rfl,rfl,rfl⟩)⟩)).mono ?_
 ·rcases mem_ties.mp ht with⟨p,hp,e1,e2,_⟩|⟨p,hp,e1,e2,_⟩|⟨i,hi,_,e1,e2,_⟩|⟨i,hi,_,e1,e2,_⟩<;>lia
 ·rintro _ ⟨X,hX,rfl⟩;simp! only[];exact⟨s,_,sf,opt,zn5 fun a b w t=>hX (a,b,w) (mem_ties.mpr t),rfl⟩
end
theorem zjR {d:D}{n k:Nat}(h:Sq d n r)(hk:k<=n)(hn:n<=1000):Ok (zce [d,.int k]) fun x=>x= .val (.tup (wI (n+1-k) (win k r))):=by
 have hl:((n:Int)-(k:Int)+1).toNat=n+1-k:=by lia
 simp! only[↓zce,↓zij,↓zhP,hl,h.ln];refine⟨zay (by lia) (by lia),by lia,zaH (fun ρ=>∃s,ρ=[.val d,.val (.int k),s]) (fun i=> .int (win k r i)) ⟨_,rfl⟩ ?_ ?_⟩
 ·rintro i _ hi ⟨s,rfl⟩;have hc:=cut_w (n:=n) (a:=i) (b:=k) (fun j=> .int (r j)) (by lia);obtain⟨d',e1,e2⟩:=h.ct (some (i:Int)) (some ((i:Int)+(k:Int)));rw[hc]at e2;simp! only[↓zhJ,e1,e2,zbz,zbq];exact⟨rfl,_,rfl⟩
 ·rintro _ ⟨s,rfl⟩;simp! only[]
theorem zog (x:Int):0<=absI x:=by unfold absI;split<;>lia
theorem zl4 {f:Nat->Int}:∀n,(∀i,i<n->0<=f i)->0<=sumR n f
 |0,_=>qcB _
 |n+1,h=>by
  have:=zl4 n fun i hi=>h i (by lia)
  have:=h n (by lia);show 0<=sumR n f+f n;lia
theorem zmt {f:Nat->Int}:∀n,(∀i,i<n->0<=f i)->sumR n f<=0->∀i,i<n->f i=0
 |0,_,_,i,hi=>by lia
 |n+1,h,z,i,hi=>by
  have z:sumR n f+f n<=0:=z;have a:=zl4 n fun i hi=>h i (by lia)
  have b:=h n (by lia)
  by_cases e:i=n
  ·subst e;lia
  ·exact zmt n (fun i hi=>h i (by lia)) (by lia) i (by lia)
section
variable {k m n:Nat} {T L G s r:Nat->Int}
theorem chg_nn:0<=chg k m T r:=zl4 m fun i _=>zog _
theorem chg_zero:chg k m T r=0↔∀i,i<m->win k r i=T i:=by
 constructor
 ·intro h i hi;have:=zmt (f:=fun i=>absI (win k r i-T i)) m (fun i _=>zog _) (by unfold chg at h;lia) i hi;unfold absI at this
  split at this<;>lia
 ·intro h;unfold chg;rw[zak (g:=fun _=>0) fun i hi=>by rw[h i hi,Int.sub_self];rfl,zaW]
structure Least (k m n:Nat) (T L G:Nat->Int) (v:Int) (r:Nat->Int):Prop where
 box:∀p,p<n->L p<=r p/\r p<=G p
 eq:chg k m T r=v
 all:∀r',(∀p,p<n->L p<=r' p/\r' p<=G p)->v<=chg k m T r'
def DimOf (ok:LineOk k m n L G):Dim k m n:=⟨ok.k2,ok.k5,ok.kn,ok.n24,ok.s⟩
theorem zpI (d:Dim k m n)(le:∀p,p<n->L p<=G p):Ok (za5 [zax k m n T L G]) fun x=>∃v r d,Least k m n T L G v r/\x= .val (.tup [.int v,.tup (wI n r),d]):=by
 have n24:=d.n24;have k2:=d.k2;have kn:=d.kn;have hn:=d.s;refine(zr4 (T:=T) hn k2 (by lia) d.k5 (by lia) le).mono ?_;rintro _ ⟨s,r,sf,opt,ro,rfl⟩;exact⟨_,r,_,⟨fun p hp=>ro.box le hp,ro.eq hn (by lia) sf,fun r' h=>weak hn (by lia) sf h⟩,rfl⟩
theorem Least.fits {v:Int}(h:Least k m n T L G v r):v=0↔∃r,Fits k m n T L G r:=by
 constructor
 ·intro z;exact⟨r,fun p hp=>(h.box p hp).1,fun p hp=>(h.box p hp).2,chg_zero.mp (h.eq.trans z)⟩
 ·rintro⟨r',f⟩;have:=h.all r' fun p hp=>⟨f.low p hp,f.high p hp⟩
  rw[chg_zero.mpr f.sum]at this;have:=h.eq;have:=chg_nn (k:=k) (m:=m) (T:=T) (r:=r);lia
structure MinF (k m n:Nat) (T L G:Nat->Int) (F:Int):Prop where
 ex:∃X,Feas k m n T L G F X
 no:∀X,¬Feas k m n T L G (F-1) X
theorem Feas.more {F F':Int}(f:Feas k m n T L G F X)(h:F<=F'):Feas k m n T L G F' X:=⟨fun i hi=>by have:=f.up i hi;lia,fun i hi=>by have:=f.dn i hi;lia,f.lo,f.hi⟩
theorem MinF.le {F F':Int}(m1:MinF k m n T L G F)(f:Feas k m n T L G F' X):F<=F':=by
 rcases Int.lt_or_le F' F with h|h
 ·exact absurd (f.more (by lia)) (m1.no X)
 ·exact h
end
theorem two_ok (ns:List Int):Ok (zeW [.scr ns]) fun x=>∃a b:Int,x= .own [.int a,.int b]:=by
 simp! only[↓zeW,↓zjH,qby];exact⟨_,_,rfl⟩
theorem deal2_ok (A B:Int)(k:Nat)(hk:k<2):Ok (zdw [.lst [.int A,.int B],.int k]) fun r=>∃ds,Pot ds/\r= .own ds:=by
 have tail:∀(c b:Int),0<=b->b<4294967296->Ok (zej [.val (.lst [.int A,.int B]),.val (.int k),.val (.int c),.val (.int b),.val (.int 0),.emp]) fun p=>∃(a:Int) (s3 s5:Sl),p=(.next,[.val (.lst [.int A,.int B]),.val (.int k),.val (.int c),s3,.val (.int a),s5]):=fun c b h0 h1=>by
  simp! only[↓zej];refine⟨rfl,zbm (fun _ ρ=>∃(a b:Int) (s5:Sl),0<=b/\b<4294967296/\ρ=[.val (.lst [.int A,.int B]),.val (.int k),.val (.int c),.val (.int b),.val (.int a),s5]) ⟨0,_,.emp,h0,h1,rfl⟩ ?_ ?_⟩
  ·rintro i _ hi ⟨a,b,s5,b0,b1,rfl⟩;simp! only[↓zhE];have e1:0<=(b*48271+12345)%2147483647:=Int.emod_nonneg _ (by decide);have e2:(b*48271+12345)%2147483647<2147483647:=qcT _ (by decide);exact⟨zdi (by lia),zrh (by decide),zdi (by lia),by decide+kernel,_,_,_,e1,by lia,rfl⟩
  ·rintro _ ⟨a,b,s5,_,_,rfl⟩;exact⟨_,_,_,rfl⟩
 have last:∀c:Int,Ok (zd7 [.val (.lst [.int A,.int B]),.val (.int k),.val (.int c),.emp,.emp,.emp]) fun p=>∃ds a,Pot ds/\p=(.ret (.own ds),a):=fun c=>by
  simp! only[↓zd7,↓zhL];refine⟨fun _=>⟨_,_,⟨_,rfl⟩,rfl⟩,fun _=>⟨zdi (by decide),?_⟩⟩;refine(tail c _ (by lia) (by lia)).mono ?_;rintro _ ⟨a,s3,s5,rfl⟩;simp! only[];exact⟨_,_,⟨_,rfl⟩,rfl⟩
 have:k=0\/k=1:=by lia
 simp! only[↓zdw,↓zih];refine⟨fun h=>?_,fun h=>by lia⟩;obtain⟨w,ew⟩:∃w:Int,[D.int A,.int B][k]? =some (.int w):=by
  rcases this with rfl|rfl<;>exact⟨_,rfl⟩
 simp! only[ew];refine⟨by decide+kernel,by decide+kernel,by decide+kernel,(last _).mono ?_⟩;rintro _ ⟨d,a,h,rfl⟩;simp! only[];exact⟨_,h,rfl⟩
def bin:Nat->Nat->Nat
 |_,0=>1
 |0,_+1=>0
 |n+1,m+1=>bin n m+bin n (m+1)
theorem ziU (n:Nat):bin n 0=1:=by cases n<;>rfl
theorem zfn (n m:Nat):bin (n+1) (m+1)=bin n m+bin n (m+1):=rfl
theorem zpH:∀n s,bin (n+1) (s+1)*(s+1)=bin n s*(n+1)
 |0,0=>rfl
 |0,s+1=>by
  have h1:bin 1 (s+2)=0:=rfl;have h2:bin 0 (s+1)=0:=rfl;rw[h1,h2,Nat.zero_mul,Nat.zero_mul]
 |n+1,0=>by
  have h:=zpH n 0;rw[zfn (n+1) 0,ziU,qcs,qc1,Nat.one_mul];rw[ziU,qcs,qc1,Nat.one_mul]at h;lia
 |n+1,t+1=>by
  have h1:=zpH n (t+1);have h2:=zpH n t;rw[zfn (n+1) (t+1),qcJ,h1,show t+1+1=(t+1)+1 from rfl,qcN (bin (n+1) (t+1)) (t+1) 1,h2,qc1,qcN (bin (n+1) (t+1)) (n+1) 1,qc1];have h3:bin (n+1) (t+1)*(n+1)=bin n t*(n+1)+bin n (t+1)*(n+1):=by rw[zfn,qcJ]
  lia
theorem zsa:∀n m,bin n m<=(n+1)^m
 |n,0=>by rw[ziU];exact qaE _
 |0,m+1=>qbB _
 |n+1,m+1=>by
  have h1:=zsa n m;have h2:=zsa n (m+1);have h3:(n+1)^m<=(n+2)^m:=Nat.pow_le_pow_left (by lia) m;rw[zfn]
  calc bin n m+bin n (m+1)<=(n+1)^m+(n+1)^(m+1):=Nat.add_le_add h1 h2
   _=(n+1)^m*(n+2):=by
    have e:(n+1)^m*(n+2)=(n+1)^m*1+(n+1)^m*(n+1):=by rw[<-qcN,show 1+(n+1)=n+2 by lia]
    rw[e,Nat.pow_succ,qc1]
   _<=(n+2)^m*(n+2):=qcM _ h3
   _=(n+1+1)^(m+1):=(Nat.pow_succ ..).symm
theorem bin_far {r i:Nat}(hr:r<2^250)(hi:i<=5):bin (r+i) i<2^4000:=by
 have h1:bin (r+i) i<=(2^251)^i:=qai (zsa _ _) (Nat.pow_le_pow_left (by lia) i);have h2:(2^251)^i<=(2^251)^5:=qcZ (by decide) hi;have h3:(2^251)^5<2^4000:=by rw[<-Nat.pow_mul];exact Nat.pow_lt_pow_right (by decide) (by decide)
 lia
theorem zrk {i j:Int}(h1:i.natAbs<2^4000)(h2:j.natAbs<2^4000):zmc i j=true:=by
 unfold zmc;rw[qbp h1,qbp h2];simp
theorem znq {r k:Nat}(hr:r<2^250)(k1:1<=k)(k5:k<=5):Ok (zdH [.int r,.int k]) fun x=>x= .val (.int (bin (r+(k-1)) (k-1):Nat)):=by
 have e0:((k:Int)-1).toNat=k-1:=by lia
 simp! only[↓zdH,↓zil,↓zhU,e0,zrY];refine⟨⟨rfl,zay (by lia) (by lia)⟩,zbm (fun i ρ=>∃s3,ρ=[.val (.int r),.val (.int k),.val (.int (bin (r+i) i:Nat)),s3]) ⟨_,by rw[ziU];rfl⟩ ?_ ?_⟩
 ·rintro i _ hi ⟨s3,rfl⟩;have hb:=bin_far hr (show i<=5 by lia);have e1:(bin (r+i) i:Int)*((r:Int)+(1+(i:Int)))/(1+(i:Int))=(bin (r+(i+1)) (i+1):Nat):=by
   have h:=zpH (r+i) i;have h':(bin (r+i) i:Int)*((r:Int)+(1+(i:Int)))=(bin (r+(i+1)) (i+1):Nat)*(1+(i:Int)):=by
    have:((bin (r+i) i*(r+i+1):Nat):Int)=((bin (r+i+1) (i+1)*(i+1):Nat):Int):=by rw[h]
    push_cast at this;rw[show r+(i+1)=r+i+1 by lia,show(r:Int)+(1+(i:Int))=(r:Int)+(i:Int)+1 by lia,this,show(1+(i:Int))=(i:Int)+1 by lia]
   rw[h',Int.mul_ediv_cancel _ (by lia)]
  simp! only[↓zhz,e1];exact⟨zrk (by simpa using hb) (by lia),zkN (by lia) (by lia),_,rfl⟩
 ·rintro _ ⟨s3,rfl⟩;simp! only[]
def sub (w:Nat->Int)(c:Int->Int):Nat->Nat->Int->Int
 |0,_,t=>c t
 |m+1,j,t=>sub w c m (j+1) t-sub w c m (j+1) (t-w j)
theorem zms {w:Nat->Int}{c:Int->Int}(hw:∀j,0<=w j)(hc:∀t,t<0->c t=0):∀m j t,t<0->sub w c m j t=0
 |0,_,t,h=>hc t h
 |m+1,j,t,h=>by
  show sub w c m (j+1) t-sub w c m (j+1) (t-w j)=0;rw[zms hw hc m (j+1) t h,zms hw hc m (j+1) (t-w j) (by have:=hw j;lia)]
  rfl
def tsum (F:Int->Int):List (Int×Nat)->Int
 |[]=>0
 |p::ps=>p.1*F p.2+tsum F ps
theorem zo2 (F:Int->Int):∀a b:List (Int×Nat),tsum F (a++b)=tsum F a+tsum F b
 |[],b=>(qcz _).symm
 |p::a,b=>by
  show p.1*F p.2+tsum F (a++b)=p.1*F p.2+tsum F a+tsum F b;rw[zo2 F a b];lia
def more (w:Nat)(ps:List (Int×Nat)):List (Int×Nat):=ps.filterMap fun p=>if w<=p.2 then some (-p.1,p.2-w)else none
theorem zm1 (w:Nat)(h0:∀t,t<0->F t=0):∀ps:List (Int×Nat),tsum F ps+tsum F (more w ps)=tsum (fun t=>F t-F (t-w)) ps
 |[]=>rfl
 |p::ps=>by
  have ih:=zm1 w h0 ps;show p.1*F p.2+tsum F ps+tsum F (more w (p::ps))=p.1*(F p.2-F ((p.2:Int)-w))+tsum (fun t=>F t-F (t-w)) ps;rw[Int.mul_sub]
  by_cases h:w<=p.2
  ·have e:more w (p::ps)=(-p.1,p.2-w)::more w ps:=by unfold more;rw[qaj,if_pos h]
   have e2:tsum F ((-p.1,p.2-w)::more w ps)= -p.1*F (((p.2-w:Nat)):Int)+tsum F (more w ps):=rfl;rw[e,e2,show((p.2-w:Nat):Int)=(p.2:Int)-(w:Int) by lia,Int.neg_mul];lia
  ·have e:more w (p::ps)=more w ps:=by unfold more;rw[qaj,if_neg h]
   rw[e,h0 ((p.2:Int)-w) (by lia),Int.mul_zero];lia
def ways (k:Nat)(t:Int):Int:=if 0<=t then(bin (t.toNat+(k-1)) (k-1):Nat)else 0
theorem zhr (k:Nat)(t:Int)(h:t<0):ways k t=0:=if_neg (by lia)
theorem zkf (k r:Nat):ways k (r:Int)=(bin (r+(k-1)) (k-1):Nat):=by
 unfold ways;rw[if_pos (by lia),qa2]
abbrev tmD (ps:List (Int×Nat)):List D:=ps.map fun p=> .tup [.int p.1,.int p.2]
abbrev spanD (m:Nat)(lo hi:Nat->Int):List D:=wL m fun j=> .tup [.int (lo j),.int (hi j)]
theorem zo6 (F:Int->Int):∀ps:List (Int×Nat),(ps.map fun p=>p.1*F p.2).sum=tsum F ps
 |[]=>rfl
 |p::ps=>by
  rw[qbc,List.sum_cons,zo6 F ps];rfl
theorem more_len (w:Nat)(ps:List (Int×Nat)):(more w ps).length<=ps.length:=List.length_filterMap_le _ _
theorem heads6 (k1:1<=k)(k5:k<=5)(le:∀j,j<k->lo j<=hi j){left:Nat}(hl:left<2^250)(a1 a3 a4 a5 a6:Sl):
  Ok (zdG [.val (.lst (spanD k lo hi)),a1,.val (.int left),a3,a4,a5,a6]) fun x=>∃a,x=(.ret (.val (.int (sub (fun j=>if j<k then hi j-lo j+1 else 0) (ways k) k 0 left))),a):=by
 have hw:∀j,0<=(if j<k then hi j-lo j+1 else 0):=fun j=>by
  split
  ·rename_i h;have:=le j h;lia
  ·exact qcB _
 have hw':∀j,0<=(fun j=>if j<k then hi j-lo j+1 else 0) j:=hw;clear hw
 generalize hW:(fun j=>if j<k then hi j-lo j+1 else 0)=W at hw'
 simp! only[↓zdG,↓zgx];refine zbm (fun j ρ=>∃ps s4 s5 s6,ps.length<=2^j/\(∀p∈ps,p.1.natAbs=1/\p.2<=left)/\tsum (sub W (ways k) (k-j) j) ps=sub W (ways k) k 0 left/\ρ=[.val (.lst (spanD k lo hi)),a1,.val (.int left),.val (.lst (tmD ps)),s4,s5,s6]) ⟨[(1,left)],_,_,_,by simp,fun p hp=>by rw[qcg.mp hp];exact⟨rfl,qaE _⟩,?_,rfl⟩ ?_ ?_
 ·show(1:Int)*sub W (ways k) (k-0) 0 left+0=_;rw[qcU,Int.add_zero];rfl
 ·rintro j _ hj ⟨ps,s4,s5,s6,hn,hs,ht,rfl⟩;have hp:2^j<=16:=qcZ (n:=2) (by decide) (show j<=4 by lia);have hl:=le j hj;obtain⟨w,ew⟩:∃w:Nat,hi j-lo j+1=(w:Int):=⟨(hi j-lo j+1).toNat,by lia⟩;have eW:W j=(w:Int):=by rw[<-hW];simp only[hj,if_true];exact ew
  simp! only[↓zhe,ew,↓zgM];refine⟨by lia,zlU (enc:=fun p:Int×Nat=>D.tup [.int p.1,.int p.2]) (l:=ps) (fun ρ=>∃x y,ρ=[.val (.int w),x,y]) (fun p=>if w<=p.2 then some (.tup [.int (-p.1),.int ((p.2:Int)-w)])else none) ⟨_,_,rfl⟩ ?_ ?_⟩
  ·rintro⟨s,r⟩ _ _ ⟨x,y,rfl⟩;simp! only[↓zgu,↓zgc];refine⟨fun h=>?_,fun h=>?_⟩
   ·rw[if_pos (by lia)];exact⟨rfl,_,_,rfl⟩
   ·rw[if_neg (by lia)];exact⟨rfl,_,_,rfl⟩
  ·rintro _ ⟨x,y,rfl⟩;have e:(ps.filterMap fun p=>if w<=p.2 then some (D.tup [.int (-p.1),.int ((p.2:Int)-w)])else none)=tmD (more w ps):=by
    unfold tmD more;rw[List.map_filterMap];refine zfM _ fun p hp=>?_
    split
    ·rename_i h;rw[qbx,show((p.2-w:Nat):Int)=(p.2:Int)-(w:Int) by lia]
    ·rfl
   have e2:tmD ps++tmD (more w ps)=tmD (ps++more w ps):=(qcj ..).symm;have hm:=more_len w ps;simp! only[e,e2];refine⟨by lia,ps++more w ps,_,_,_,by rw[qaW,Nat.pow_succ];lia,fun p hp=>?_,?_,rfl⟩
   ·rcases qan.mp hp with h|h
    ·exact hs p h
    ·obtain⟨q,hq,e⟩:=qaG.mp h;have:=hs q hq
     split at e
     ·cases e;exact⟨by rw[Int.natAbs_neg];exact this.1,by have:=this.2;show q.2-w<=left;lia⟩
     ·cases e
   ·rw[zo2,zm1 w (fun t h=>zms hw' (zhr k) _ _ t h),<-ht,show k-j=(k-(j+1))+1 by lia,<-eW]
    rfl
 ·rintro _ ⟨ps,s4,s5,s6,hn,hs,ht,rfl⟩;have hp:2^k<=32:=qcZ (n:=2) (by decide) k5;simp! only[↓zgy];refine⟨by lia,zir (enc:=fun p:Int×Nat=>D.tup [.int p.1,.int p.2]) (l:=ps) (fun ρ=>∃x y,ρ=[.val (.lst (spanD k lo hi)),x,y]) (fun p=> .int (p.1*ways k p.2)) ⟨_,_,rfl⟩ ?_ ?_⟩
  ·rintro⟨s,r⟩ _ hm ⟨x,y,rfl⟩;have:=hs _ hm;simp! only[↓zgQ];refine(znq (r:=r) (by have:=this.2;simp only at this;lia) k1 k5).mono ?_;rintro _ rfl;simp! only[zkf];exact⟨zdi (by have:=this.1;simp only at this;lia),_,_,rfl⟩
  ·rintro _ ⟨x,y,rfl⟩;have e:(ps.map fun p=>D.int (p.1*ways k p.2))=(ps.map fun p=>p.1*ways k p.2).map D.int:=by rw[qch];rfl
   simp! only[e,zbI,zo6];rw[qcS]at ht;have:tsum (ways k) ps=sub W (ways k) k 0 left:=ht;rw[this];exact⟨_,rfl⟩
def wid (k:Nat)(lo hi:Nat->Int):Nat->Int:=fun j=>if j<k then hi j-lo j+1 else 0
def cntH (k:Nat)(lo hi:Nat->Int)(T:Int):Int:=if(List.range k).all (fun j=>decide (lo j<=hi j))then sub (wid k lo hi) (ways k) k 0 (T-sumR k lo)else 0
theorem all_le:(List.range k).all (fun j=>decide (lo j<=hi j))=true↔∀j,j<k->lo j<=hi j:=by simp
theorem wid_pos (le:∀j,j<k->lo j<=hi j)(j:Nat):0<=wid k lo hi j:=by
 unfold wid
 split
 ·rename_i h;have:=le j h;lia
 ·exact qcB _
theorem ziY (k1:1<=k)(k5:k<=5)(lo hi:Nat->Int)(T:Int)(far:T-sumR k lo<2^250):Ok (zbN [.lst (spanD k lo hi),.int T]) fun x=>x= .val (.int (cntH k lo hi T)):=by
 simp! only[↓zbN,↓zgB,↓zgp];refine⟨by lia,zaH (fun ρ=>∃x y,ρ=[x,y]) (fun j=> .bl (decide (hi j<lo j))) ⟨_,_,rfl⟩ ?_ ?_⟩
 ·rintro j _ hj ⟨x,y,rfl⟩;simp! only[↓zgb];exact⟨_,_,rfl⟩
 ·rintro _ ⟨x,y,rfl⟩;simp! only[znw];refine⟨fun h=>?_,fun h=>?_⟩
  ·obtain⟨j,hj,e⟩:=(any_w _ _).mp h;have:¬(List.range k).all (fun j=>decide (lo j<=hi j))=true:=fun z=>by
    have:=all_le.mp z j hj;have:=qbD e;lia
   unfold cntH;rw[if_neg this]
  ·have le:∀j,j<k->lo j<=hi j:=fun j hj=>by
    by_cases q:lo j<=hi j
    ·exact q
    ·have:=(any_w k fun j=>decide (hi j<lo j)).mpr ⟨j,hj,qbp (by lia)⟩;rw[h]at this;cases this
   have ec:cntH k lo hi T=sub (wid k lo hi) (ways k) k 0 (T-sumR k lo):=if_pos (all_le.mpr le);simp! only[↓zgf,↓zgR];refine⟨by lia,zaH (fun ρ=>∃x y,ρ=[x,y]) (fun j=> .int (lo j)) ⟨_,_,rfl⟩ ?_ ?_⟩
   ·rintro j _ hj ⟨x,y,rfl⟩;simp! only[↓zgr];exact⟨_,_,rfl⟩
   ·rintro _ ⟨x,y,rfl⟩;simp! only[zbz,zbq];refine⟨fun h=>?_,fun h=>?_⟩
    ·rw[ec,zms (wid_pos le) (zhr k) _ _ _ (by lia)]
    ·obtain⟨left,el⟩:∃left:Nat,T-sumR k lo=(left:Int):=⟨(T-sumR k lo).toNat,by lia⟩;rw[el]at ec far ⊢;refine(heads6 k1 k5 le (left:=left) (by lia) _ _ _ _ _).mono ?_;rintro _ ⟨a,rfl⟩;simp! only[ec]
     rfl
def hc (lo hi:Nat->Int):Nat->Nat->Int->Int
 |0,_,t=>if t=0 then 1 else 0
 |m+1,j,t=>sumR (hi j-lo j+1).toNat fun v=>hc lo hi m (j+1) (t-(lo j+(v:Nat)))
theorem sub_sub (w:Nat->Int)(F G:Int->Int):∀m j t,sub w (fun t=>F t-G t) m j t=sub w F m j t-sub w G m j t
 |0,_,_=>rfl
 |m+1,j,t=>by
  show sub w _ m (j+1) t-sub w _ m (j+1) (t-w j)=(sub w F m (j+1) t-sub w F m (j+1) (t-w j))-(sub w G m (j+1) t-sub w G m (j+1) (t-w j));rw[sub_sub w F G m,sub_sub w F G m];lia
theorem ziA (w:Nat->Int)(F:Int->Int)(a:Int):∀m j t,sub w (fun t=>F (t-a)) m j t=sub w F m j (t-a)
 |0,_,_=>rfl
 |m+1,j,t=>by
  show sub w _ m (j+1) t-sub w _ m (j+1) (t-w j)=sub w F m (j+1) (t-a)-sub w F m (j+1) (t-a-w j);rw[ziA w F a m,ziA w F a m,show t-w j-a=t-a-w j by lia]
theorem zmM (w:Nat->Int)(F:Nat->Int->Int)(n:Nat):∀m j t,sub w (fun t=>sumR n fun v=>F v t) m j t=sumR n fun v=>sub w (F v) m j t
 |0,_,_=>rfl
 |m+1,j,t=>by
  show sub w _ m (j+1) t-sub w _ m (j+1) (t-w j)=sumR n fun v=>sub w (F v) m (j+1) t-sub w (F v) m (j+1) (t-w j)
  rw[zmM w F n m,zmM w F n m,zmd]
theorem zrO {w:Nat->Int}{F G:Int->Int}(h:∀t,F t=G t)(m j:Nat)(t:Int):sub w F m j t=sub w G m j t:=by
 rw[show F=G from funext h]
theorem zlX:∀n m,n<m->bin n m=0
 |0,m+1,_=>rfl
 |n+1,m+1,h=>by rw[zfn,zlX n m (by lia),zlX n (m+1) (by lia)]
theorem zl2:∀n,bin n n=1
 |0=>rfl
 |n+1=>by rw[zfn,zl2 n,zlX n (n+1) (by lia)]
theorem zsI (hm:1<=m)(t:Int):ways (m+1) t-ways (m+1) (t-1)=ways m t:=by
 obtain⟨m,rfl⟩:∃q,m=q+1:=⟨m-1,by lia⟩
 by_cases h:t<0
 ·rw[zhr _ _ h,zhr _ _ (by lia),zhr _ _ h];rfl
 ·obtain⟨r,rfl⟩:∃r:Nat,t=r:=⟨t.toNat,by lia⟩;rw[zkf,zkf];simp only[qcL];cases r with
  |zero=>
   rw[zhr _ _ (by lia),qcs,qcs,zl2,zl2];rfl
  |succ r=>
   rw[show((r+1:Nat):Int)-1=(r:Nat) by lia,zkf];simp only[qcL];rw[show r+1+(m+1)=(r+(m+1))+1 by lia,zfn,show r+1+m=r+(m+1) by lia];push_cast;lia
theorem zoZ (hm:1<=m)(t:Int):∀n:Nat,(sumR n fun v=>ways m (t-(v:Nat)))=ways (m+1) t-ways (m+1) (t-n)
 |0=>by show(0:Int)=_;rw[show t-((0:Nat):Int)=t by lia];lia
 |n+1=>by
  show(sumR n fun v=>ways m (t-(v:Nat)))+ways m (t-n)=_;rw[zoZ hm t n,<-zsI hm (t-n),show t-(n:Int)-1=t-((n+1:Nat):Int) by lia];lia
theorem hc_sub (le:∀j,j<k->lo j<=hi j):∀(m j:Nat) (t:Int),j+(m+1)<=k->hc lo hi (m+1) j t=sub (wid k lo hi) (ways (m+1)) (m+1) j (t-sumR (m+1) fun i=>lo (j+i))
 |0,j,t,h=>by
  have l:=le j (by lia);have ew:wid k lo hi j=hi j-lo j+1:=if_pos (by lia);show(sumR (hi j-lo j+1).toNat fun v=>if t-(lo j+(v:Nat))=0 then 1 else 0)=ways 1 (t-(0+lo (j+0)))-ways 1 (t-(0+lo (j+0))-wid k lo hi j);rw[ew,qcz,qcO];have w1:∀x,ways 1 x=if 0<=x then 1 else 0:=fun x=>by
   unfold ways
   split
   ·rw[show 1-1=0 from rfl,ziU];rfl
   ·rfl
  have key:∀n:Nat,(sumR n fun v=>if t-(lo j+(v:Nat))=0 then 1 else 0)=(if 0<=t-lo j then 1 else 0)-(if 0<=t-lo j-n then 1 else 0):=fun n=>by
   induction n with
   |zero=>show(0:Int)=_;rw[show t-lo j-((0:Nat):Int)=t-lo j by lia];lia
   |succ n ih=>
    show(sumR n fun v=>if t-(lo j+(v:Nat))=0 then 1 else 0)+(if t-(lo j+(n:Nat))=0 then 1 else 0)=_;rw[ih];push_cast
    split<;>split<;>split<;>split<;>lia
  rw[key,w1,w1,show(((hi j-lo j+1).toNat:Nat):Int)=hi j-lo j+1 by lia]
 |m+1,j,t,h=>by
  have l:=le j (by lia);have ew:wid k lo hi j=hi j-lo j+1:=if_pos (by lia);have split:(sumR (m+1+1) fun i=>lo (j+i))=lo j+sumR (m+1) fun i=>lo (j+1+i):=by
   have:=zaR (fun i=>lo (j+i)) 1 (m+1);rw[show 1+(m+1)=m+1+1 by lia]at this;rw[this];congr 1
   ·show(0:Int)+lo (j+0)=_;rw[qcz];rfl
   ·exact zak fun i _=>by rw[Nat.add_assoc]
  show(sumR (hi j-lo j+1).toNat fun v=>hc lo hi (m+1) (j+1) (t-(lo j+(v:Nat))))=_;rw[zak fun v _=>hc_sub le m (j+1) (t-(lo j+(v:Nat))) (by lia)]
  generalize hT:(t-sumR (m+1+1) fun i=>lo (j+i))=T
  rw[zak (g:=fun v:Nat=>sub (wid k lo hi) (fun t=>ways (m+1) (t-(v:Nat))) (m+1) (j+1) T) fun v _=>by
   rw[ziA];congr 1;lia]
  rw[<-zmM,zrO (fun t=>zoZ (show 1<=m+1 by lia) t _),sub_sub,ziA];show _=sub (wid k lo hi) (ways (m+1+1)) (m+1) (j+1) T-sub (wid k lo hi) (ways (m+1+1)) (m+1) (j+1) (T-wid k lo hi j);rw[ew,show(((hi j-lo j+1).toNat:Nat):Int)=hi j-lo j+1 by lia]
theorem zol:∀(m j:Nat) (t:Int),(∃i,i<m/\hi (j+i)<lo (j+i))->hc lo hi m j t=0
 |0,_,_,⟨i,h,_⟩=>by lia
 |m+1,j,t,⟨i,h,l⟩=>by
  show(sumR (hi j-lo j+1).toNat fun v=>hc lo hi m (j+1) (t-(lo j+(v:Nat))))=0
  match i,h,l with
  |0,_,l=>rw[qcO]at l;rw[show(hi j-lo j+1).toNat=0 by lia];rfl
  |i+1,h,l=>
   rw[zak (g:=fun _=>0) fun v _=>zol m (j+1) _ ⟨i,by lia,by rw[show j+1+i=j+(i+1) by lia];exact l⟩,zaW]
theorem hc_cnt (k1:1<=k)(lo hi:Nat->Int)(T:Int):hc lo hi k 0 T=cntH k lo hi T:=by
 unfold cntH
 by_cases c:(List.range k).all (fun j=>decide (lo j<=hi j))=true
 ·rw[if_pos c];obtain⟨m,rfl⟩:∃m,k=m+1:=⟨k-1,by lia⟩;rw[hc_sub (all_le.mp c) m 0 T (by lia)];congr 2;exact zak fun i _=>by rw[qcs]
 ·rw[if_neg c];refine zol k 0 T ?_
  by_cases z:∃i,i<k/\hi (0+i)<lo (0+i)
  ·exact z
  ·refine absurd (all_le.mpr fun j hj=>?_) c
   by_cases y:lo j<=hi j
   ·exact y
   ·exact absurd ⟨j,hj,by rw[qcs];lia⟩ z
theorem zpG (lo hi:Nat->Int)(j:Nat):∀(m i:Nat) (t:Int),hc (fun i=>lo (j+i)) (fun i=>hi (j+i)) m i t=hc lo hi m (j+i) t
 |0,_,_=>rfl
 |m+1,i,t=>zak fun v _=>by rw[zpG lo hi j m (i+1)];rfl
theorem zrA:∀(m j:Nat) (t:Int),(∀i,i<m->lo (j+i)=lo' (j+i)/\hi (j+i)=hi' (j+i))->hc lo hi m j t=hc lo' hi' m j t
 |0,_,_,_=>rfl
 |m+1,j,t,h=>by
  have h0:=h 0 (by lia);rw[qcO]at h0;show sumR (hi j-lo j+1).toNat _=sumR (hi' j-lo' j+1).toNat _;rw[h0.1,h0.2];exact zak fun v _=>zrA m (j+1) _ fun i hi=>by
   have:=h (i+1) (by lia);rw[show j+(i+1)=j+1+i by lia]at this;exact this
theorem zl0 {f:Nat->Int}(h:∀i,i<n->0<=f i):0<=sumR n f:=by
 have:=zfo (f:=fun _=>0) (g:=f) h;rw[zaW]at this;exact this
theorem zrz (lo hi:Nat->Int):∀(m j:Nat) (t:Int),0<=hc lo hi m j t
 |0,_,t=>by show 0<=if t=0 then(1:Int)else 0;split<;>decide
 |m+1,j,t=>zl0 fun v _=>zrz lo hi m (j+1) _
def zbS (lo hi:Nat->Int)(m j:Nat)(t f:Int):Int:=sumR (f-lo j).toNat fun v=>hc lo hi m (j+1) (t-(lo j+(v:Nat)))
theorem zna (lo hi:Nat->Int)(m j:Nat)(t:Int):zbS lo hi m j t (hi j+1)=hc lo hi (m+1) j t:=by
 unfold zbS;show _=sumR (hi j-lo j+1).toNat _;rw[show hi j+1-lo j=hi j-lo j+1 by lia]
theorem zsD (lo hi:Nat->Int)(m j:Nat)(t:Int):zbS lo hi m j t (lo j)=0:=by
 unfold zbS;rw[Int.sub_self];rfl
theorem zjr (lo hi:Nat->Int)(m j:Nat)(t:Int){f:Int}(h:lo j<=f):zbS lo hi m j t (f+1)=zbS lo hi m j t f+hc lo hi m (j+1) (t-f):=by
 unfold zbS;rw[show(f+1-lo j).toNat=(f-lo j).toNat+1 by lia];show _+hc lo hi m (j+1) (t-(lo j+((f-lo j).toNat:Nat)))=_;rw[show lo j+((f-lo j).toNat:Nat)=f by lia]
theorem cons_w (a:D)(m:Nat)(f:Nat->D):[a]++wL m f=wL (m+1) fun i=>if i=0 then a else f (i-1):=by
 apply qcv;intro i;cases i with
 |zero=>rw[zao _ (by lia)];rfl
 |succ i=>
  show(wL m f)[i]? =_
  by_cases h:i<m
  ·rw[zao _ h,zao _ (by lia),if_neg (by lia)];rfl
  ·rw[qbU (by rw[zaF];lia),qbU (by rw[zaF];lia)]
theorem zqU (f:Nat->D):(wL n f).drop i=wL (n-i) fun j=>f (i+j):=by
 apply qcv;intro j;rw[qcC]
 by_cases hj:i+j<n
 ·rw[zao _ hj,zao _ (by lia)]
 ·rw[qbU (by rw[zaF];lia),qbU (by rw[zaF];lia)]
theorem zop (lo hi:Nat->Int)(m j:Nat)(f:Int):[D.tup [.int (lo j),.int (f-1)]]++zaY m (fun i=>lo (j+1+i)) (fun i=>hi (j+1+i))=zaY (m+1) (fun i=>lo (j+i)) (fun i=>if i=0 then f-1 else hi (j+i)):=by
 unfold zaY;rw[cons_w];refine zcG fun i hi'=>?_
 by_cases h:i=0
 ·subst h;simp
 ·rw[if_neg h];dsimp only;rw[if_neg h,show j+1+(i-1)=j+i by lia]
theorem zr9 (lo hi:Nat->Int)(m j:Nat)(t f:Int):cntH (m+1) (fun i=>lo (j+i)) (fun i=>if i=0 then f-1 else hi (j+i)) t=zbS lo hi m j t f:=by
 rw[<-hc_cnt (by lia)];show sumR ((if(0:Nat)=0 then f-1 else hi (j+0))-lo (j+0)+1).toNat _=_;unfold zbS;rw[if_pos rfl,qcO,show f-1-lo j+1=f-lo j by lia];refine zak fun v _=>?_
 rw[<-zpG lo hi j m 1];exact zrA m 1 _ fun i _=>⟨rfl,if_neg (by lia)⟩
section
variable {lo hi:Nat->Int} {m j:Nat} {t:Int}
theorem zeq (m5:m+1<=5)(far:t-(sumR (m+1) fun i=>lo (j+i))<2^250)(f:Int):Ok (za0 [.lst (zaY (m+1) (fun i=>lo (j+i)) fun i=>hi (j+i)),.int t,.int f]) fun x=>x= .val (.int (zbS lo hi m j t f)):=by
 have c1:cutD (zaY (m+1) (fun i=>lo (j+i)) fun i=>hi (j+i)) (some 1) none=zaY m (fun i=>lo (j+1+i)) fun i=>hi (j+1+i):=by
  rw[show(some (1:Int))=some ((1:Nat):Int)from rfl,zhp];unfold zaY;rw[zqU];exact zcG fun i _=>by dsimp only;rw[show j+(1+i)=j+1+i by lia]
 have g0:(zaY (m+1) (fun i=>lo (j+i)) fun i=>hi (j+i))[0]? =some (.tup [.int (lo j),.int (hi j)]):=by
  unfold zaY;rw[zao _ (by lia)];rfl
 have sl:(zaY m (fun i=>lo (j+1+i)) fun i=>hi (j+1+i)).length=m:=zaF _ _;simp! only[↓za0,↓ze3,c1,g0,sl];refine⟨by lia,?_⟩;have e:=zop lo hi m j f;simp only[List.cons_append,qbm]at e;rw[e];refine(ziY (by lia) m5 _ _ t far).mono ?_;rintro _ rfl;simp! only[zr9]
theorem zmT (m5:m+1<=5)(far:t-(sumR (m+1) fun i=>lo (j+i))<2^250)(wide:hi j-lo j<2^399)(h0:0<=number)(h1:number<hc lo hi (m+1) j t):
  Ok (zc9 [.lst (zaY (m+1) (fun i=>lo (j+i)) fun i=>hi (j+i)),.int t,.int number]) fun x=>∃h:Int,lo j<=h/\h<=hi j/\zbS lo hi m j t h<=number/\number<zbS lo hi m j t (h+1)/\x= .val (.int h):=by
 have le:lo j<=hi j:=by
  by_cases c:lo j<=hi j
  ·exact c
  ·rw[zol (m+1) j t ⟨0,by lia,by rw[qcO];lia⟩]at h1;lia
 have g0:(zaY (m+1) (fun i=>lo (j+i)) fun i=>hi (j+i))[0]? =some (.tup [.int (lo j),.int (hi j)]):=by
  unfold zaY;rw[zao _ (by lia)];rfl
 simp! only[↓zc9,↓zgV,g0,↓zgI];refine zmm (fun q ρ=>∃(low high:Int) (z:Sl),lo j<=low/\low<=high/\high<=hi j/\high-low<2^q/\zbS lo hi m j t low<=number/\number<zbS lo hi m j t (high+1)/\ρ=[.val (.lst (zaY (m+1) (fun i=>lo (j+i)) fun i=>hi (j+i))),.val (.int t),.val (.int number),.val (.int low),.val (.int high),z]) ?_ 400 399 _ (by lia) ⟨lo j,hi j,_,by lia,le,by lia,wide,by rw[zsD];exact h0,by rw[zna];exact h1,rfl⟩;rintro q _ ⟨low,high,z,b1,b2,b3,b4,b5,b6,rfl⟩;simp! only[↓zgO];refine⟨fun c=>?_,fun c=>?_⟩
 ·have c:low<high:=by simpa using c
  obtain⟨q,rfl⟩:∃q',q=q'+1:=⟨q-1,by
   cases q with
   |zero=>rw[Int.pow_zero]at b4;lia
   |succ q=>rfl⟩
  rw[Int.pow_succ]at b4;have d0:∀P:Int,high-low<P*2->(low+high+1)/2-1-low<P/\high-(low+high+1)/2<P:=fun P hP=>by lia
  obtain⟨d3,d4⟩:=d0 _ b4;clear d0;have d1:low<(low+high+1)/2:=by lia
  have d2:(low+high+1)/2<=high:=by lia
  refine⟨q,rfl,?_⟩;simp! only[↓zfZ];refine⟨by decide+kernel,?_⟩
  generalize (low+high+1)/2=mid at d1 d2 d3 d4
  refine(zeq m5 far mid).mono ?_;rintro _ rfl;simp! only[];refine⟨fun c=>⟨low,mid-1,_,b1,by lia,by lia,d3,b5,by rw[show mid-1+1=mid by lia];exact c,rfl⟩,fun c=>⟨mid,high,_,by lia,by lia,b3,d4,by lia,b6,rfl⟩⟩
 ·have c:low=high:=by
   have:¬low<high:=by simpa using c
   lia
  subst c;exact⟨low,b1,b3,b5,b6,rfl⟩
end
section
variable {k:Nat} {lo hi:Nat->Int} {T:Int}
def rank (k:Nat)(lo hi:Nat->Int)(T:Int)(h:Nat->Int)(j:Nat):Int:=sumR j fun i=>zbS lo hi (k-i-1) i (T-sumR i h) (h i)
theorem far_at {T:Int}(far:T-sumR k lo<2^250)(hj:j<=k)(hh:∀i,i<j->lo i<=h i):(T-sumR j h)-(sumR (k-j) fun i=>lo (j+i))<2^250:=by
 have h1:=zaR lo j (k-j);rw[show j+(k-j)=k by lia]at h1;have h2:=zfo (f:=lo) (g:=h) hh;lia
theorem znm (lo hi:Nat->Int)(k j:Nat):(zaY k lo hi).drop j=zaY (k-j) (fun i=>lo (j+i)) fun i=>hi (j+i):=by
 unfold zaY;rw[zqU]
theorem zoS (k5:k<=5)(far:T-sumR k lo<2^250)(wide:∀j,j<k->hi j-lo j<2^399)(h0:0<=number)(h1:number<hc lo hi k 0 T):
  Ok (zeF [.lst (zaY k lo hi),.int T,.int number]) fun x=>∃h:Nat->Int,(∀i,i<k->lo i<=h i/\h i<=hi i)/\sumR k h=T/\rank k lo hi T h k=number/\x= .own (wI k h):=by
 have sl:(zaY k lo hi).length=k:=zaF _ _;simp! only[↓zeF,↓zjE,↓ziH,sl];refine⟨zay (by lia) (by lia),zbm (fun j ρ=>∃(h:Nat->Int) (ah:Int) (y z:Sl),(∀i,i<j->lo i<=h i/\h i<=hi i)/\0<=ah/\ah<hc lo hi (k-j) j (T-sumR j h)/\rank k lo hi T h j+ah=number/\ρ=[.val (.lst (zaY k lo hi)),.val (.int T),.val (.int number),.own (wI j h),.val (.int (T-sumR j h)),.val (.int ah),y,z]) ⟨fun _=>0,number,_,_,fun i hi=>by lia,h0,by rw[show sumR 0 (fun _:Nat=>(0:Int))=0 from rfl,qcp];exact h1,by show(0:Int)+number=number;lia,by rw[show sumR 0 (fun _:Nat=>(0:Int))=0 from rfl,qcp];rfl⟩ ?_ ?_⟩
 ·rintro j _ hj ⟨h,ah,y,z,hh,a0,a1,er,rfl⟩;obtain⟨m,em⟩:∃m,k-j=m+1:=⟨k-j-1,by lia⟩;have farj:=far_at far (show j<=k by lia) fun i hi=>(hh i hi).1
  rw[em]at a1 farj;have cd:cutD (zaY k lo hi) (some (j:Int)) none=zaY (m+1) (fun i=>lo (j+i)) fun i=>hi (j+i):=by
   rw[zhp,znm,em]
  simp! only[↓zit,cd];refine(zmT (by lia) farj (wide j hj) a0 a1).mono ?_;rintro _ ⟨v,v1,v2,v3,v4,rfl⟩;simp! only[cd];refine(zeq (by lia) farj v).mono ?_;rintro _ rfl;have bn:=zjr lo hi m j (T-sumR j h) v1
  let h':Nat->Int:=fun i=>if i<j then h i else v
  have e1:sumR j h'=sumR j h:=zak fun i hi=>if_pos hi
  have e2:h' j=v:=if_neg (by lia);have e3:∀i,i<=j->sumR i h'=sumR i h:=fun i hi=>zak fun q hq=>if_pos (by lia)
  have e4:rank k lo hi T h' j=rank k lo hi T h j:=zak fun i hi=>by rw[e3 i (by lia),show h' i=h i from if_pos hi]
  have e5:wI j h++[D.int v]=wI (j+1) h':=by
   rw[zkm]
  have e6:T-sumR (j+1) h'=T-sumR j h-v:=by
   show T-(sumR j h'+h' j)=_;rw[e1,e2];lia
  have e7:rank k lo hi T h' (j+1)=rank k lo hi T h j+zbS lo hi m j (T-sumR j h) v:=by
   show rank k lo hi T h' j+zbS lo hi (k-j-1) j (T-sumR j h') (h' j)=_;rw[e4,e1,e2,show k-j-1=m by lia]
  simp! only[e5];refine⟨by lia,h',ah-zbS lo hi m j (T-sumR j h) v,.val (.int j),.val (.int v),fun i hi'=>?_,by lia,?_,by rw[e7];lia,by rw[e6]⟩
  ·by_cases c:i<j
   ·rw[show h' i=h i from if_pos c];exact hh i c
   ·have:i=j:=by lia
    subst this;rw[e2];exact⟨v1,v2⟩
  ·rw[e6,show k-(j+1)=m by lia];lia
 ·rintro _ ⟨h,ah,y,z,hh,a0,a1,er,rfl⟩;rw[qcS]at a1;have a1:ah<if T-sumR k h=0 then(1:Int)else 0:=a1
  simp! only[]
  split at a1
  ·exact⟨h,hh,by lia,by lia,rfl⟩
  ·lia
end
theorem zsE (f:Nat->Int)(m:Nat):sumR (m+1) f=f 0+sumR m fun i=>f (1+i):=by
 have:=zaR f 1 m;rw[qbl 1 m]at this;rw[this];show(0+f 0)+_=_;lia
theorem zkn (h:Nat->Int)(m j:Nat):(sumR (m+1) fun i=>h (j+i))=h j+sumR m fun i=>h (j+1+i):=by
 rw[zsE];show h (j+0)+_=_;rw[qcO];congr 1;exact zak fun i _=>by rw[show j+(1+i)=j+1+i by lia]
section
variable {lo hi:Nat->Int}
def pt (lo:Nat->Int)(j:Nat)(v:Int)(i:Nat):Int:=if i=j then v else lo i
theorem zlF (m j:Nat)(t:Int){f f':Int}(h:f<=f'):zbS lo hi m j t f<=zbS lo hi m j t f':=by
 unfold zbS;have:=zaR (fun v=>hc lo hi m (j+1) (t-(lo j+(v:Nat)))) (f-lo j).toNat ((f'-lo j).toNat-(f-lo j).toNat);rw[show(f-lo j).toNat+((f'-lo j).toNat-(f-lo j).toNat)=(f'-lo j).toNat by lia]at this;rw[this];have:=zl0 (f:=fun i=>hc lo hi m (j+1) (t-(lo j+(((f-lo j).toNat+i:Nat):Int)))) (n:=(f'-lo j).toNat-(f-lo j).toNat) fun i _=>zrz lo hi m (j+1) _
 lia
theorem zrP (m j:Nat)(t f:Int):0<=zbS lo hi m j t f:=zl0 fun i _=>zrz lo hi m (j+1) _
def tl (lo hi h:Nat->Int):Nat->Nat->Int->Int
 |0,_,_=>0
 |m+1,j,t=>zbS lo hi m j t (h j)+tl lo hi h m (j+1) (t-h j)
theorem zmj {T:Int}:∀m j,j+m=k->rank k lo hi T h k=rank k lo hi T h j+tl lo hi h m j (T-sumR j h)
 |0,j,e=>by
  rw[qcO]at e;subst e;show _=_+0;lia
 |m+1,j,e=>by
  rw[zmj m (j+1) (by lia)];show rank k lo hi T h j+zbS lo hi (k-j-1) j (T-sumR j h) (h j)+tl lo hi h m (j+1) (T-(sumR j h+h j))=rank k lo hi T h j+(zbS lo hi m j (T-sumR j h) (h j)+tl lo hi h m (j+1) (T-sumR j h-h j));rw[show k-j-1=m by lia,show T-(sumR j h+h j)=T-sumR j h-h j by lia];lia
theorem tl_lt:∀(m j:Nat) (t:Int),(∀i,i<m->lo (j+i)<=h (j+i)/\h (j+i)<=hi (j+i))->(sumR m fun i=>h (j+i))=t->0<=tl lo hi h m j t/\tl lo hi h m j t<hc lo hi m j t
 |0,j,t,_,e=>by
  have e:(0:Int)=t:=e;subst e;exact⟨qcB _,show(0:Int)<1 by decide⟩
 |m+1,j,t,hh,e=>by
  rw[zkn]at e;have h0:=hh 0 (by lia);rw[qcO]at h0;obtain⟨i1,i2⟩:=tl_lt m (j+1) (t-h j) (fun i hi'=>by have:=hh (i+1) (by lia);rw[show j+(i+1)=j+1+i by lia]at this;exact this) (by lia);have b0:=zrP (lo:=lo) (hi:=hi) m j t (h j);have b1:=zjr lo hi m j t h0.1;have b2:=zlF (lo:=lo) (hi:=hi) m j t (show h j+1<=hi j+1 by lia);have b3:=zna lo hi m j t;show 0<=zbS lo hi m j t (h j)+tl lo hi h m (j+1) (t-h j)/\zbS lo hi m j t (h j)+tl lo hi h m (j+1) (t-h j)<_;lia
theorem zoa {h g:Nat->Int}(hh:∀i,i<m+1->lo (j+i)<=h (j+i)/\h (j+i)<=hi (j+i))(eh:(sumR (m+1) fun i=>h (j+i))=t)(gg:∀i,i<m+1->lo (j+i)<=g (j+i)/\g (j+i)<=hi (j+i))(eg:(sumR (m+1) fun i=>g (j+i))=t)(l:h j<g j):tl lo hi h (m+1) j t<tl lo hi g (m+1) j t:=by
 rw[zkn]at eh eg;have h0:=hh 0 (by lia);rw[qcO]at h0;obtain⟨i1,i2⟩:=tl_lt (lo:=lo) (hi:=hi) (h:=h) m (j+1) (t-h j) (fun i hi'=>by have:=hh (i+1) (by lia);rw[show j+(i+1)=j+1+i by lia]at this;exact this) (by lia);obtain⟨g1,_⟩:=tl_lt (lo:=lo) (hi:=hi) (h:=g) m (j+1) (t-g j) (fun i hi'=>by have:=gg (i+1) (by lia);rw[show j+(i+1)=j+1+i by lia]at this;exact this) (by lia);have b1:=zjr lo hi m j t h0.1;have b2:=zlF (lo:=lo) (hi:=hi) m j t (show h j+1<=g j by lia);show zbS lo hi m j t (h j)+tl lo hi h m (j+1) (t-h j)<zbS lo hi m j t (g j)+tl lo hi g m (j+1) (t-g j);lia
theorem tl_inj:∀(m j:Nat) (t:Int),(∀i,i<m->lo (j+i)<=h (j+i)/\h (j+i)<=hi (j+i))->(sumR m fun i=>h (j+i))=t->(∀i,i<m->lo (j+i)<=g (j+i)/\g (j+i)<=hi (j+i))->(sumR m fun i=>g (j+i))=t->tl lo hi h m j t=tl lo hi g m j t->∀i,i<m->h (j+i)=g (j+i)
 |0,_,_,_,_,_,_,_,i,hi'=>by lia
 |m+1,j,t,hh,eh,gg,eg,e,i,hi'=>by
  have ej:h j=g j:=by
   rcases Int.lt_trichotomy (h j) (g j)with l|l|l
   ·exact absurd e (Int.ne_of_lt (zoa hh eh gg eg l))
   ·exact l
   ·exact absurd e.symm (Int.ne_of_lt (zoa gg eg hh eh l))
  match i,hi' with
  |0,_=>exact ej
  |i+1,hi'=>
   rw[zkn]at eh eg;have e:zbS lo hi m j t (h j)+tl lo hi h m (j+1) (t-h j)=zbS lo hi m j t (g j)+tl lo hi g m (j+1) (t-g j):=e;rw[ej]at e eh;have:=tl_inj m (j+1) (t-g j) (fun i hi'=>by have:=hh (i+1) (by lia);rw[show j+(i+1)=j+1+i by lia]at this;exact this) (by lia) (fun i hi'=>by have:=gg (i+1) (by lia);rw[show j+(i+1)=j+1+i by lia]at this;exact this) (by lia) (by lia) i (by lia);rw[show j+(i+1)=j+1+i by lia];exact this
end
section
variable {k:Nat} {lo hi:Nat->Int} {T:Int} {h g:Nat->Int}
structure Hd (k:Nat) (lo hi:Nat->Int) (T:Int) (h:Nat->Int):Prop where
 inn:∀j,j<k->lo j<=h j/\h j<=hi j
 sum:sumR k h=T
theorem Hd.tail (a:Hd k lo hi T h)(hp:p<=k):(sumR (k-p) fun i=>h (p+i))=T-sumR p h:=by
 have:=zaR h p (k-p);rw[show p+(k-p)=k by lia,a.sum]at this;lia
theorem Hd.lt (a:Hd k lo hi T h)(b:Hd k lo hi T g)(hp:p<k)(e:∀i,i<p->h i=g i)(l:h p<g p):rank k lo hi T h k<rank k lo hi T g k:=by
 obtain⟨m,em⟩:∃m,k-p=m+1:=⟨k-p-1,by lia⟩;rw[zmj (h:=h) (m+1) p (by lia),zmj (h:=g) (m+1) p (by lia)];have e1:∀i,i<=p->sumR i h=sumR i g:=fun i hi'=>zak fun j hj=>e j (by lia)
 have e2:rank k lo hi T h p=rank k lo hi T g p:=zak fun i hi'=>by rw[e1 i (by lia),e i hi']
 have ta:=a.tail (show p<=k by lia);have tb:=b.tail (show p<=k by lia);rw[em]at ta tb;rw[<-e1 p (qaE p)]at tb ⊢;have:=zoa (lo:=lo) (hi:=hi) (h:=h) (g:=g) (m:=m) (j:=p) (t:=T-sumR p h) (fun i hi'=>a.inn _ (by lia)) ta (fun i hi'=>b.inn _ (by lia)) tb l;lia
theorem Hd.zero (a:Hd k lo hi T h):(sumR k fun i=>h (0+i))=T:=by
 rw[<-a.sum];exact zak fun i _=>by rw[qcs]
theorem zrc:rank k lo hi T h k=tl lo hi h k 0 T:=by
 rw[zmj (h:=h) k 0 (by lia)];show(0:Int)+tl lo hi h k 0 (T-0)=_;rw[qcp,qcz]
theorem Hd.inj (a:Hd k lo hi T h)(b:Hd k lo hi T g)(e:rank k lo hi T h k=rank k lo hi T g k):∀i,i<k->h i=g i:=fun i hi'=>by
 rw[zrc,zrc]at e;have:=tl_inj (lo:=lo) (hi:=hi) k 0 T (fun i hi'=>by rw[qcs];exact a.inn i hi') a.zero (fun i hi'=>by rw[qcs];exact b.inn i hi') b.zero e i hi';rwa[qcs]at this
theorem Hd.rg (a:Hd k lo hi T h):0<=rank k lo hi T h k/\rank k lo hi T h k<hc lo hi k 0 T:=by
 rw[zrc];exact tl_lt k 0 T (fun i hi'=>by rw[qcs];exact a.inn i hi') a.zero
end
theorem ziD {d1 d2 d3:D}(h1:Sq d1 m r)(h2:Sq d2 n L)(h3:Sq d3 n G)(hn:n<=1000):
  Ok (zbC [d1,d2,d3]) fun x=>∃b,x= .val (.bl b)/\(b=true↔m=n/\∀p,p<n->L p<=r p/\r p<=G p):=by
 simp! only[↓zbC,↓zhf,h1.ln,h2.ln];refine⟨fun h=>⟨false,rfl,by simp;lia⟩,fun h=>?_⟩;have e:m=n:=by lia
 subst e;simp! only[↓zg5,↓zf3,h1.it,h2.it,h3.it];refine⟨by lia,zaH (fun ρ=>∃a b c,ρ=[a,b,c]) (fun p=> .bl (decide (L p<=r p)&&decide (r p<=G p))) ⟨_,_,_,rfl⟩ ?_ ?_⟩
 ·rintro p _ hp ⟨a,b,c,rfl⟩;simp! only[↓zf6];refine⟨fun h=>⟨by simp[h],_,_,_,rfl⟩,fun h=>⟨?_,_,_,_,rfl⟩⟩;rw[qaa (by lia)];rfl
 ·rintro _ ⟨a,b,c,rfl⟩;simp! only[znw];refine⟨_,rfl,?_⟩;rw[all_w];simp
theorem zoY (d:Dim k s n)(h:Sq dr m r):
  Ok (zbF [zax k s n S L G,dr]) fun x=>∃b,x= .val (.bl b)/\(b=true↔m=n/\Fits k s n S L G r):=by
 have n24:=d.n24;have hs:=d.s;simp! only[↓zbF,↓zf9,zax];refine(ziD h (Sq.tup n L) (Sq.tup n G) (by lia)).mono ?_;rintro _ ⟨b,rfl,hb⟩;simp! only[];refine⟨fun hbt=>?_,fun hbf=>⟨false,rfl,?_⟩⟩
 ·obtain⟨e,hin⟩:=hb.mp hbt;subst e;refine(zjR h d.kn (by lia)).mono ?_;rintro _ rfl;rw[show m+1-k=s by lia];simp! only[dEq_wt];refine⟨_,rfl,?_⟩;rw[eqW_iff];exact⟨fun h=>⟨fun p hp=>(hin p hp).1,fun p hp=>(hin p hp).2,h⟩,fun h=>h.sum⟩
 ·constructor
  ·intro h;cases h
  ·rintro⟨e,f⟩;subst e;rw[hb.mpr ⟨rfl,fun p hp=>⟨f.low p hp,f.high p hp⟩⟩]at hbf;exact absurd hbf (by decide)
theorem made_ok (d:Dim k s n)(hle:∀p,p<n->L p<=G p){d1 d2 d3:D}(h1:Sq d1 s S)(h2:Sq d2 n L)(h3:Sq d3 n G):
  Ok (zdN [.int k,d1,d2,d3]) fun x=>x= .val (zax k s n S L G):=by
 have k2:=d.k2;have k5:=d.k5;have kn:=d.kn;have n24:=d.n24;have hs:=d.s;have kr:Ok (zg2 [.int k]) fun x=>x= .val (.bl true):=by
  simp! only[↓zg2,↓zkL,show(2:Int)<=(k:Int) by lia,show(k:Int)<=5 by lia]
 have br:Ok (zb4 [d2,d3,.int n]) fun x=>x= .val (.bl true):=by
  simp! only[↓zb4,↓zd5,h2.ln,h3.ln,qbL];refine(ziD h2 h2 h3 (by lia)).mono ?_;rintro _ ⟨b,rfl,hb⟩;rw[hb.mpr ⟨rfl,fun p hp=>⟨qcB _,hle p hp⟩⟩];simp! only[]
 have lp:Ok (za6 [.int k,d1,d2,d3]) fun x=>x= .val (.bl true):=by
  simp! only[↓za6,↓zcD];refine kr.mono ?_;rintro _ rfl;simp! only[h1.ln];refine⟨fun h=>by lia,fun _=>?_⟩;simp! only[↓zc7,h1.ln,show(s:Int)+(k:Int)-1=(n:Int) by lia,show(n:Int)<=24 by lia];refine br.mono ?_;rintro _ rfl;simp! only[]
 simp! only[↓zdN,↓zib];refine lp.mono ?_;rintro _ rfl;simp! only[↓zhZ,h1.tp,h2.tp,h3.tp]
theorem dGtT_w (n:Nat)(a b:Nat->Int):dGtT (.tup (wI n a)) (.tup (wI n b))=some (.bl (!leB n a b)):=by
 show((zby (wI n a)).bind fun ns=>(zby (wI n b)).map fun ms=>D.bl (HT.zfa ns ms))=_;rw[zbz,zbz];simp only[qbw,qbx];rw[zpx _ _ (by simp)];rfl
section
variable {k s n:Nat} {S L G lo hi:Nat->Int}
theorem zj5 (d:Dim k s n)(sp:ziC k n S L G lo hi)(far:S 0-sumR k lo<2^250):Ok (zcg [zax k s n S L G]) fun x=>x= .val (.int (hc lo hi k 0 (S 0))):=by
 have k2:=d.k2;have k5:=d.k5;have s1:0<s:=by have:=d.s;have:=d.kn;lia
 simp! only[↓zcg,↓zie];refine(zcw d sp).mono ?_;rintro _ rfl;simp! only[zax,zao _ s1];refine(ziY (by lia) k5 lo hi (S 0) far).mono ?_;rintro _ rfl;simp! only[hc_cnt (show 1<=k by lia)]
theorem zly (d:Dim k s n)(sp:ziC k n S L G lo hi)(far:S 0-sumR k lo<2^250)(wide:∀j,j<k->hi j-lo j<2^399)(h0:0<=number)(h1:number<hc lo hi k 0 (S 0)):
  Ok (zeU [zax k s n S L G,.int number]) fun x=>∃h:Nat->Int,Fits k s n S L G (fun p=>h (p%k)+mo k S p)/\sumR k h=S 0/\rank k lo hi (S 0) h k=number/\(∀i,i<k->lo i<=h i)/\x= .val (.tup (wI n fun p=>h (p%k)+mo k S p)):=by
 have k2:=d.k2;have k5:=d.k5;have s1:0<s:=by have:=d.s;have:=d.kn;lia
 simp! only[↓zeU,↓zkY];refine⟨fun _=>?_,fun z=>absurd h0 (by lia)⟩;refine(zj5 d sp far).mono ?_;rintro _ rfl;simp! only[];refine⟨fun z=>absurd h1 (by simpa using z),fun _=>?_⟩;simp! only[↓zjP];refine(zcw d sp).mono ?_;rintro _ rfl;simp! only[zax,zao _ s1];refine(zoS k5 far wide h0 h1).mono ?_;rintro _ ⟨h,hh,hs,hr,rfl⟩;simp! only[];refine(zkp d S L G h).mono ?_;rintro _ rfl;simp! only[];exact⟨h,zl1 d sp hh hs,hs,hr,fun i hi=>(hh i hi).1,rfl⟩
end
section
variable {k s n:Nat} {S L G lo hi:Nat->Int}
theorem zsy (k1:1<=k)(k5:k<=5)(kn:k<=n){T:Int}(far:T-sumR k lo<2^250)(hh:∀i,i<k->lo i<=r i)(h:dr= .lst (wI n r)\/dr= .tup (wI n r)):
  Ok (zb2 [.lst (zaY k lo hi),.int T,dr]) fun x=>x= .val (.int (rank k lo hi T r k)):=by
 have sl:(zaY k lo hi).length=k:=zaF _ _;rcases h with rfl|rfl<;>
 ·simp! only[↓zb2,↓zec,↓zeE,sl];refine⟨zay (by lia) (by lia),zbm (fun j ρ=>∃z,ρ=[.val (.lst (zaY k lo hi)),.val (.int T),.val _,.val (.int (T-sumR j r)),.val (.int (rank k lo hi T r j)),z]) ⟨_,by rw[show sumR 0 r=0 from rfl,qcp];rfl⟩ ?_ ?_⟩
  ·rintro j _ hj ⟨z,rfl⟩;obtain⟨m,em⟩:∃m,k-j=m+1:=⟨k-j-1,by lia⟩;have farj:=far_at (h:=r) far (show j<=k by lia) fun i hi=>hh i (by lia)
   rw[em]at farj;have cd:cutD (zaY k lo hi) (some (j:Int)) none=zaY (m+1) (fun i=>lo (j+i)) fun i=>hi (j+i):=by
    rw[zhp,znm,em]
   simp! only[↓zeB,cd,zao _ (show j<n by lia)];refine(zeq (by lia) farj (r j)).mono ?_;rintro _ rfl;simp! only[zao _ (show j<n by lia)];refine⟨.val (.int j),?_⟩;have e7:rank k lo hi T r (j+1)=rank k lo hi T r j+zbS lo hi m j (T-sumR j r) (r j):=by
    show rank k lo hi T r j+zbS lo hi (k-j-1) j (T-sumR j r) (r j)=_;rw[show k-j-1=m by lia]
   rw[e7,show sumR (j+1) r=sumR j r+r j from rfl,show T-(sumR j r+r j)=T-sumR j r-r j by lia]
  ·rintro _ ⟨z,rfl⟩;simp! only[]
theorem zlp (d:Dim k s n)(sp:ziC k n S L G lo hi)(far:S 0-sumR k lo<2^250)(f:Fits k s n S L G r)(h:dr= .lst (wI n r)\/dr= .tup (wI n r)):
  Ok (zcA [zax k s n S L G,dr]) fun x=>x= .val (.int (rank k lo hi (S 0) r k)):=by
 have k2:=d.k2;have s1:0<s:=by have:=d.s;have:=d.kn;lia
 have sq:Sq dr n r:=by rcases h with rfl|rfl;exact Sq.lst n r;exact Sq.tup n r
 have hin:=(zfl d sp f).1;simp! only[↓zcA,↓ze1];refine(zoY d (S:=S) (L:=L) (G:=G) sq).mono ?_;rintro _ ⟨b,rfl,hb⟩;have:=hb.mpr ⟨rfl,f⟩;subst this;simp! only[↓zfX];refine(zcw d sp).mono ?_;rintro _ rfl;simp! only[zax,zao _ s1];refine(zsy (by lia) d.k5 d.kn far (fun i hi=>(hin i hi).1) h).mono ?_;rintro _ rfl;simp! only[]
end
theorem zmI (d:Dim k s n)(sp:ziC k n S L G lo hi):Ok (zaK [zax k s n S L G]) fun x=>(Room' k lo hi (S 0)/\x= .val .non)\/(¬Room' k lo hi (S 0)/\∃pd,zrw k n S L G pd/\x= .val pd):=by
 have k2:=d.k2;have kn:=d.kn;have n24:=d.n24;have hs:=d.s;simp! only[↓zaK,↓zdb];refine(zo9 d S L G).mono ?_;rintro _ rfl;simp! only[];refine(zmz d S L G).mono ?_;rintro _ rfl;simp! only[zao _ (show 0<s by lia)];refine(zmn (by lia) kn (by lia) (S 0) sp).mono ?_;rintro _ (⟨h,rfl⟩|⟨h,pd,hp,rfl⟩)
 ·simp! only[];exact .inl h
 ·simp! only[];exact .inr ⟨h,pd,hp,rfl⟩
def rl (k:Nat)(lo hi:Nat->Int)(T:Int)(j:Nat):Int:=max2 (lo j) (hi j-(sumR k hi-T))
def rh (k:Nat)(lo hi:Nat->Int)(T:Int)(j:Nat):Int:=min2 (hi j) (lo j+(T-sumR k lo))
theorem zsV (a b:Int):(min2 a b=a\/min2 a b=b)/\min2 a b<=a/\min2 a b<=b:=by unfold min2;split<;>lia
theorem zkj (hj:j<k){f g:Nat->Int}(h:∀i,i<k->i≠j->f i<=g i):sumR k f-f j<=sumR k g-g j:=by
 have h1:=zfo (n:=k) (f:=fun i=>if i=j then 0 else f i) (g:=fun i=>if i=j then 0 else g i) fun i hi=>by
  split
  ·exact qcB _
  ·exact h i hi (by assumption)
 have h2:∀F:Nat->Int,∀m,j<m->sumR m (fun i=>if i=j then 0 else F i)=sumR m F-F j:=fun F m=>by
  have lowz:∀q,q<=j->sumR q (fun i=>if i=j then 0 else F i)=sumR q F:=fun q hq=>zak fun i hi=>if_neg (by lia)
  induction m with
  |zero=>intro h;lia
  |succ m ih=>
   intro hm;show sumR m (fun i=>if i=j then 0 else F i)+(if m=j then 0 else F m)=sumR m F+F m-F j
   by_cases e:m=j
   ·subst e;rw[if_pos rfl,lowz m (qaE _)];lia
   ·rw[if_neg e,ih (by lia)];lia
 rw[h2 f k hj,h2 g k hj]at h1;exact h1
theorem zpa {T:Int}(hh:∀j,j<k->lo j<=h j/\h j<=hi j)(hs:sumR k h=T)(hj:j<k):rl k lo hi T j<=h j/\h j<=rh k lo hi T j:=by
 have h1:=zkj hj (f:=h) (g:=hi) fun i hi' _=>(hh i hi').2
 have h2:=zkj hj (f:=lo) (g:=h) fun i hi' _=>(hh i hi').1
 have h3:=hh j hj;have m1:=zkq (lo j) (hi j-(sumR k hi-T));have m2:=zsV (hi j) (lo j+(T-sumR k lo));unfold rl rh;lia
theorem zpK (hj:j<k)(f:Nat->Int)(v:Int):sumR k (fun i=>if i=j then v else f i)=sumR k f-f j+v:=by
 have h1:=zkj hj (f:=fun i=>if i=j then v else f i) (g:=f) fun i _ ne=>by rw[if_neg ne];exact qcB _
 have h2:=zkj hj (g:=fun i=>if i=j then v else f i) (f:=f) fun i _ ne=>by rw[if_neg ne];exact qcB _
 simp only[if_true]at h1 h2;lia
theorem range_le {lo hi:Nat->Int}{T:Int}(r:Room' k lo hi T)(hj:j<k):rl k lo hi T j<=rh k lo hi T j:=by
 have h:=zpa (lo:=lo) (hi:=hi) (h:=hd lo hi k T) (fun i hi'=>zrF r hi') (zpf r) hj;exact qcQ h.1 h.2
theorem zlj (k5:k<=5)(lo hi:Nat->Int)(T:Int):Ok (zcy [.lst (zaY k lo hi),.int T]) fun x=>x= .own (zaY k (rl k lo hi T) (rh k lo hi T)):=by
 simp! only[↓zcy,↓zfh,↓zfF,zaY];refine⟨by lia,zaH (fun ρ=>∃s s',ρ=[s,s']) (fun j=> .int (lo j)) ⟨_,_,rfl⟩ ?_ ?_⟩
 ·rintro j _ hj ⟨s,s',rfl⟩;simp! only[↓zfP];exact⟨_,_,rfl⟩
 rintro _ ⟨_,_,rfl⟩;simp! only[zbz,zbq,↓zfw];refine⟨by lia,zaH (fun ρ=>∃s s',ρ=[s,s']) (fun j=> .int (hi j)) ⟨_,_,rfl⟩ ?_ ?_⟩
 ·rintro j _ hj ⟨s,s',rfl⟩;simp! only[↓zfV];exact⟨_,_,rfl⟩
 rintro _ ⟨_,_,rfl⟩;simp! only[zbz,zbq,↓zfN];refine⟨by lia,zaH (fun ρ=>∃s s',ρ=[.val (.int (sumR k hi-T)),.val (.int (T-sumR k lo)),s,s']) (fun j=> .tup [.int (rl k lo hi T j),.int (rh k lo hi T j)]) ⟨_,_,rfl⟩ ?_ ?_⟩
 ·rintro j _ hj ⟨s,s',rfl⟩;simp! only[↓zfz];exact⟨rfl,_,_,rfl⟩
 rintro _ ⟨_,_,rfl⟩;simp! only[]
section
variable {k s n:Nat} {S L G lo hi:Nat->Int}
theorem zqE (d:Dim k s n)(sp:ziC k n S L G lo hi)(r:Room' k lo hi (S 0)):Ok (zbG [zax k s n S L G]) fun x=>x= .own (zaY k lo hi):=by
 simp! only[↓zbG,↓zdC];refine(zmI d sp).mono ?_;rintro _ (⟨_,rfl⟩|⟨nr,_⟩)
 ·simp! only[↓zdW];refine(zcw d sp).mono ?_;rintro _ rfl;simp! only[]
 ·exact absurd r nr
theorem put_wD (f:Nat->D)(x:D)(h:i<n):(wL n f).take i++[x]++(wL n f).drop (i+1)=wL n fun j=>if j=i then x else f j:=by
 apply qcv;intro j
 by_cases hj:j<i
 ·rw[qbh,qaS (by rw[qaO,zaF];lia),qaU hj,zao _ (by lia),zao _ (by lia),if_neg (by lia)]
 ·rw[qbh,qaQ (by rw[qaO,zaF];lia),qaO,zaF,qcw (by lia)]
  by_cases e:j=i
  ·subst e;rw[qcS,zao _ h];simp
  ·obtain⟨q,eq⟩:∃q,j-i=q+1:=⟨j-i-1,by lia⟩;rw[eq];show((wL n f).drop (i+1))[q]? =_;rw[qcC]
   by_cases hn:j<n
   ·rw[show i+1+q=j by lia,zao _ hn,zao _ hn,if_neg e]
   ·rw[qbU (by rw[zaF];lia),qbU (by rw[zaF];lia)]
def rowW (k:Nat)(S lo hi:Nat->Int)(j:Nat)(v:Int)(q:Nat):Int:=hd (fun i=>if i=j then v else lo i) (fun i=>if i=j then v else hi i) k (S 0) (q%k)+mo k S q
theorem zjN (d:Dim k s n)(hj:j<k)(v:Int):Ok (zbi [zax k s n S L G,.lst (zaY k lo hi),.int j,.int v]) fun x=>x= .val (.tup (wI n (rowW k S lo hi j v))):=by
 have k5:=d.k5;have s1:0<s:=by have:=d.s;have:=d.kn;lia
 have c1:cutD (zaY k lo hi) (some ((j:Int)+1)) none=(zaY k lo hi).drop (j+1):=zhp _ (j+1);have e:(zaY k lo hi).take j++[D.tup [.int v,.int v]]++(zaY k lo hi).drop (j+1)=zaY k (fun i=>if i=j then v else lo i) (fun i=>if i=j then v else hi i):=by
  unfold zaY;rw[put_wD _ _ hj];exact zcG fun i _=>by by_cases z:i=j<;>simp[z]
 have sl:(zaY k lo hi).length=k:=zaF _ _;simp! only[↓zbi,↓zdF,zhn,c1,e,qaO,qa5,zax,zao _ s1];rw[sl];refine⟨by lia,by lia,?_⟩;refine(zhK _ _ (S 0) (by lia)).mono ?_;rintro _ rfl;simp! only[];refine(zkp d S L G _).mono ?_;rintro _ rfl;simp! only[]
 rfl
theorem zm4 (d:Dim k s n)(sp:ziC k n S L G lo hi)(r:Room' k lo hi (S 0))(hj:j<k){v:Int}(h1:rl k lo hi (S 0) j<=v)(h2:v<=rh k lo hi (S 0) j):Fits k s n S L G (rowW k S lo hi j v)/\∀p,p%k=j->rowW k S lo hi j v p=v+mo k S p:=by
 have m1:=zkq (lo j) (hi j-(sumR k hi-S 0));have m2:=zsV (hi j) (lo j+(S 0-sumR k lo));unfold rl at h1;unfold rh at h2;have r':Room' k (fun i=>if i=j then v else lo i) (fun i=>if i=j then v else hi i) (S 0):=⟨fun i hi'=>by
   split
   ·exact qcB _
   ·exact r.le i hi',by rw[zpK hj];lia,by rw[zpK hj];lia⟩
 refine⟨zl1 d sp (fun i hi'=>?_) (zpf r'),fun p hp=>?_⟩
 ·have:=zrF r' hi'
  by_cases e:i=j
  ·subst e;rw[if_pos rfl,if_pos rfl]at this;lia
  ·rw[if_neg e,if_neg e]at this;exact this
 ·have:=zrF r' hj;rw[if_pos rfl,if_pos rfl]at this;unfold rowW;rw[hp];lia
theorem zoA (d:Dim k s n)(v:Int):Ok (zeT [zax k s n S L G,.int v]) fun x=>∃b,(b=true↔0<=v/\v<n)/\x= .val (.bl b):=by
 simp! only[↓zeT,↓zjn];refine⟨fun h=>⟨_,?_,rfl⟩,fun h=>⟨_,?_,rfl⟩⟩
 ·rw[qbA];lia
 ·constructor
  ·intro z;cases z
  ·rintro⟨h1,_⟩;lia
theorem zmb (d:Dim k s n)(sp:ziC k n S L G lo hi)(r:Room' k lo hi (S 0))(hp:p<n):Ok (zc6 [zax k s n S L G,.int p]) fun x=>x= .val (.tup [.tup (wI n (rowW k S lo hi (p%k) (rl k lo hi (S 0) (p%k)))),.tup (wI n (rowW k S lo hi (p%k) (rh k lo hi (S 0) (p%k))))]):=by
 have k2:=d.k2;have k5:=d.k5;have s1:0<s:=by have:=d.s;have:=d.kn;lia
 have hj:p%k<k:=qcV _ (by lia);have em:(p:Int)%(k:Int)=((p%k:Nat):Int):=by push_cast;rfl
 simp! only[↓zc6,↓zhd];refine(zoA d p).mono ?_;rintro _ ⟨b,hb,rfl⟩;have hb:=hb.mpr (by lia);subst hb;simp! only[↓zgd];refine(zqE d sp r).mono ?_;rintro _ rfl;simp! only[em,zao _ s1];refine⟨by lia,?_⟩;refine(zlj k5 lo hi (S 0)).mono ?_;rintro _ rfl;simp! only[zaY,zao _ hj];refine(zjN d hj _).mono ?_;rintro _ rfl;simp! only[];refine(zjN d hj _).mono ?_;rintro _ rfl;simp! only[]
end
theorem zlN {a b:Nat->Int}:∀m,(∃j,j<m/\a j≠b j)->∃j,j<m/\(∀i,i<j->a i=b i)/\a j≠b j
 |0,⟨j,h,_⟩=>by lia
 |m+1,⟨j,h,hne⟩=>by
  by_cases c:∃j,j<m/\a j≠b j
  ·obtain⟨i,h1,h2,h3⟩:=zlN m c;exact⟨i,by lia,h2,h3⟩
  ·have e:∀i,i<m->a i=b i:=fun i hi=>qcK fun z=>c ⟨i,hi,z⟩
   have:j=m:=by
    by_cases z:j<m
    ·exact absurd (e j z) hne
    ·lia
   subst this;exact⟨j,by lia,e,hne⟩
theorem zos (d:Dim k s n)(sp:ziC k n S L G lo hi)(f:Fits k s n S L G r)(hp:p<n):
  rowW k S lo hi (p%k) (rl k lo hi (S 0) (p%k)) p<=r p/\r p<=rowW k S lo hi (p%k) (rh k lo hi (S 0) (p%k)) p:=by
 have k2:=d.k2;have hj:p%k<k:=qcV _ (by lia);have rm:Room' k lo hi (S 0):=(ziz d sp).mpr ⟨_,f⟩;have w:=range_le rm hj;have e:=zeO d f p hp;obtain⟨h1,h2⟩:=zfl d sp f;have i:=zpa h1 h2 hj;have a:=(zm4 d sp rm hj (qcB _) w).2 p rfl;have b:=(zm4 d sp rm hj w (qcB _)).2 p rfl;rw[a,b];lia
section
variable {k m n:Nat} {T L G r:Nat->Int} {F v:Int}
theorem win2 (r:Nat->Int)(i:Nat):win 2 r i=r i+r (i+1):=by
 show 0+r (i+0)+r (i+1)=_;rw[qcz];rfl
theorem zr7 (T r:Nat->Int):∀m:Nat,((((List.range m).filterMap fun i=>if r i+r (i+1)=T i then none else some (D.int (i:Nat))).length:Nat):Int)=cw T r m
 |0=>rfl
 |m+1=>by
  rw[qcu,List.filterMap_append,qaW,zfd,<-zr7 T r m]
  by_cases e:r m+r (m+1)=T m<;>simp[e]
theorem zsk (r:Nat->Int)(i k:Nat):sumR (i+k) r=sumR i r+win k r i:=zaR r i k
theorem zsX (hn:n+1=m+k)(bx:∀p,p<n->L p<=r p/\r p<=G p)(h:∀i,i<m->absI (win k r i-T i)<=F):Feas k m n T L G F fun v=>sumR v r:=
  ⟨fun i hi=>by have:=h i hi;have:=zsk r i k;unfold absI at*;(try dsimp only);split at* <;>lia,
   fun i hi=>by have:=h i hi;have:=zsk r i k;unfold absI at*;(try dsimp only);split at* <;>lia,
   fun p hp=>by have:=bx p hp;show sumR p r+L p<=sumR p r+r p;lia,
   fun p hp=>by have:=bx p hp;show sumR p r+r p-G p<=sumR p r;lia⟩
theorem Feas.row (f:Feas k m n T L G F X):(∀p,p<n->L p<=X (p+1)-X p/\X (p+1)-X p<=G p)/\∀i,i<m->absI (win k (fun p=>X (p+1)-X p) i-T i)<=F:=
  ⟨fun p hp=>by have:=f.lo p hp;have:=f.hi p hp;lia,fun i hi=>by
    have a:=f.up i hi;have b:=f.dn i hi;rw[zke];unfold absI
    split<;>lia⟩
theorem MinF.nn (f:MinF k m n T L G F)(m1:1<=m):0<=F:=by
 obtain⟨X,fX⟩:=f.ex;have:=fX.up 0 (by lia);have:=fX.dn 0 (by lia);lia
theorem one_le {f:Nat->Int}:∀{m:Nat},(∀i,i<m->0<=f i)->∀i,i<m->f i<=sumR m f
 |0,_,i,hi=>by lia
 |m+1,h,i,hi=>by
  have a:=zl4 m fun i hi=>h i (by lia)
  have b:=h m (by lia);show f i<=sumR m f+f m
  by_cases e:i=m
  ·subst e;lia
  ·have:=one_le (fun i hi=>h i (by lia)) i (show i<m by lia);lia
theorem zkV {f:Nat->Int}{c:Int}:∀m:Nat,(∀i,i<m->f i<=c)->sumR m f<=c*(m:Int)
 |0,_=>by show(0:Int)<=c*((0:Nat):Int);simp
 |m+1,h=>by
  have a:=zkV m fun i hi=>h i (by lia)
  have b:=h m (by lia);show sumR m f+f m<=c*((m+1:Nat):Int);push_cast;rw[Int.mul_add,qaA];lia
theorem both (hn:n+1=m+k)(m1:1<=m)(ls:Least k m n T L G v r)(mf:MinF k m n T L G F):F<=v/\v<=F*(m:Int)/\(F=0↔∃r,Fits k m n T L G r):=by
 have nn:=mf.nn m1;refine⟨mf.le (zsX hn ls.box fun i hi=>by rw[<-ls.eq];exact one_le (f:=fun i=>absI (win k r i-T i)) (fun i _=>zog _) i hi),?_,?_⟩
 ·obtain⟨X,fX⟩:=mf.ex;exact qcQ (ls.all _ fX.row.1) (zkV m fX.row.2)
 ·constructor
  ·intro z;subst z;obtain⟨X,fX⟩:=mf.ex;exact⟨_,fun p hp=>(fX.row.1 p hp).1,fun p hp=>(fX.row.1 p hp).2,fun i hi=>by have:=fX.row.2 i hi;unfold absI at this;split at this<;>lia⟩
  ·rintro⟨r',f⟩;have:=mf.le (zsX (F:=0) (r:=r') hn (fun p hp=>⟨f.low p hp,f.high p hp⟩) fun i hi=>by rw[f.sum i hi,Int.sub_self];decide);lia
theorem zss (hn:n+1=m+k)(k2:2<=k)(m1:1<=m)(n9:n<=300)(le:∀p,p<n->L p<=G p):Ok (zct [zax k m n T L G]) fun x=>∃F r d2,MinF k m n T L G F/\(∀p,p<n->L p<=r p/\r p<=G p)/\x= .val (.tup [.int F,.tup (wI n r),d2]):=by
 refine(off_ok hn k2 m1 n9 le).mono ?_;rintro _ ⟨F,X,w,fX,nf,_,rfl⟩;exact⟨F,_,_,⟨⟨X,fX⟩,nf⟩,fX.row.1,rfl⟩
theorem cw_zero:cw T r m<=0↔∀i,i<m->r i+r (i+1)=T i:=by
 constructor
 ·intro z i hi;have:=zmt (f:=fun i=>if r i+r (i+1)=T i then 0 else 1) m (fun i _=>by split<;>lia) z i hi
  by_cases e:r i+r (i+1)=T i
  ·exact e
  ·rw[if_neg e]at this;lia
 ·intro h;have:=zsH (T:=T) (r:=r) (a:=0) m fun x _ hx=>h x (by lia)
  rw[qcs]at this;rw[this];exact qcB _
theorem zl8 (h:Pot ds):
  Ok (zbe ds []) fun r=>∃(k s n:Nat) (S L G:Nat->Int) (ds':List D),Pot ds'/\LineOk k s n L G/\r=(.val (zax k s n S L G),ds'):=by
 simp! only[↓zbe,↓zcR];refine(zcj h (m:=4) (by lia) (by lia)).mono ?_;rintro _ ⟨a,d1,ha,h1,rfl⟩;simp! only[];refine(zcj h1 (m:=5) (by lia) (by lia)).mono ?_;rintro _ ⟨b,d2,hb,h2,rfl⟩;have e1:(2:Int)+(a:Int)=((2+a:Nat):Int):=by lia
 have e2:(1:Int)+(b:Int)=((1+b:Nat):Int):=by lia
 simp! only[e1,e2];refine(zsZ h2 (2+a) 12 (1+b) (by lia) (by lia) (by lia) (by lia) (by lia) (by lia)).mono ?_;rintro _ ⟨s,n,S,L,G,d3,h3,ok,rfl⟩;simp! only[];exact⟨_,s,n,S,L,G,d3,h3,ok,rfl⟩
end
section
variable {k s n:Nat} {S L G lo hi r:Nat->Int}
theorem cut22 (a b:D):cutD [a,b] none (some 2)=[a,b]:=zhn [a,b] 2
theorem pl_t1 (m:Nat)(f:Nat->Int):Pl 1 (.tup (wI m f)):=zq4 (pl_w fun _=>zrS 0 _)
theorem zrL (d:Dim k s n)(sp:ziC k n S L G lo hi)(f:Fits k s n S L G r):Hd k lo hi (S 0) r:=⟨(zfl d sp f).1,(zfl d sp f).2⟩
theorem far_l (ok:LineOk k s n L G)(sp:ziC k n S L G lo hi)(f:Fits k s n S L G r):S 0-sumR k lo<2^250/\∀j,j<k->hi j-lo j<2^399:=by
 have k5:=ok.k5;have k2:=ok.k2;have kn:=ok.kn;have d:=DimOf ok;obtain⟨h1,h2⟩:=zfl d sp f;have w:∀j,j<k->hi j-lo j<2^240:=fun j hj=>by
  obtain⟨p,p1,p2,p3⟩:=sp.lm j hj;have g:=sp.hg p p1;have q:=ok.far p p1;rw[p2]at g;unfold ask at p3 g;lia
 refine⟨?_,fun j hj=>by have:=w j hj;lia⟩;have a:=zfo (n:=k) (f:=r) (g:=fun j=>lo j+2^240) fun j hj=>by
  have:=w j hj;have:=h1 j hj
  (try dsimp only)
  lia
 rw[za7]at a;have b:=zkV (f:=fun _=>(2:Int)^240) (c:=2^240) k fun i _=>qcB _
 have kk:(k:Int)<=5:=by lia
 rw[<-h2];lia
theorem ne_rr:dNe (.str "row") (.str "row")=some (.bl false):=rfl
theorem zpA (d:Dim k s n)(f:Fits k s n S L G r)(f':Fits k s n S L G r')(h:∀i,i<k->r i=r' i):wI n r=wI n r':=zcG fun p hp=>by
 (try dsimp only)
 rw[zeO d f p hp,zeO d f' p hp,h _ (qcV _ (by have:=d.k2;lia))]
theorem zpV (hj:j<k):h (j%k)+mo k S j=h j:=by rw[qcF hj,zk4 S hj,Int.add_zero]
theorem zp5 (T:Int)(h:Nat->Int):rank k lo hi T (fun p=>h (p%k)+mo k S p) k=rank k lo hi T h k:=
 zak fun q hq=>by
  (try dsimp only)
  rw[zpV hq,zak (f:=fun p=>h (p%k)+mo k S p) (g:=h) (n:=q) fun t ht=>zpV (by lia)]
theorem zjZ (hp:Pot ds)(ok:LineOk k s n L G)(f:Fits k s n S L G r):Ok (za4 ds [zax k s n S L G,.tup (wI n r)]) fun x=>∃ds',Pot ds'/\x=(.val (.bl true),ds'):=by
 have d:=DimOf ok;have k2:=ok.k2;have kn:=ok.kn;have hn:=ok.s;have n24:=ok.n24;obtain⟨lo,hi,sp,-⟩:=zmx (ask k S L) (ask k S G) (show 0<k by lia) kn;obtain⟨far,wide⟩:=far_l ok sp f;have H:=zrL d sp f;have rg:=H.rg;simp! only[↓za4,↓zdh];refine(znp d S L G).mono ?_;rintro _ (⟨l,fl,ll,rfl⟩|⟨nf,_⟩)
 case inr=>exact absurd f (nf r)
 simp! only[cut22,ne_rr,dGtT_w,leB_iff.mpr (ll r f)];refine(zoY d (Sq.tup n r)).mono ?_;rintro _ ⟨b,rfl,hb⟩;have hb:=hb.mpr ⟨rfl,f⟩;subst hb;simp! only[↓zdP];refine(zlp d sp far f (.inr rfl)).mono ?_;rintro _ rfl;simp! only[];refine⟨fun _=>?_,fun z=>absurd z (by lia)⟩;refine(zj5 d sp far).mono ?_;rintro _ rfl;simp! only[qbp rg.2];refine(zly d sp far wide rg.1 rg.2).mono ?_;rintro _ ⟨h,fh,-,hr,-,rfl⟩;have e1:=zpA d fh f ((zrL d sp fh).inj H (by rw[zp5,hr]));simp! only[e1,(pl_t1 n r).ne (show 1<=50 by decide)];refine(zly d sp far wide (qcB _) (by lia)).mono ?_;rintro _ ⟨g,fg,-,gr,-,rfl⟩;have e2:wI n (fun p=>g (p%k)+mo k S p)=wI n l:=zpA d fg fl fun i hi'=>qcK fun ne=>by
  obtain⟨j,hj,he,hne⟩:=zlN (a:=fun p=>g (p%k)+mo k S p) (b:=l) k ⟨i,hi',ne⟩;have lt:=ll _ fg j (by lia) fun p hp=>(he p hp).symm
  have hne':(fun p=>g (p%k)+mo k S p) j≠l j:=hne;have:=(zrL d sp fl).lt (zrL d sp fg) hj (fun p hp=>(he p hp).symm) (by(try dsimp only at hne' lt ⊢);lia);have z:=(zrL d sp fl).rg;rw[zp5,gr]at this;lia
 simp! only[e2,(pl_t1 n l).ne (show 1<=50 by decide),↓zdz];refine(zcj hp (m:=(n:Int)) (by lia) (by lia)).mono ?_;rintro _ ⟨q,d2,hq,hp2,rfl⟩;have hq:q<n:=by lia
 have rm:=(ziz d sp).mpr ⟨_,f⟩;simp! only[];refine(zmb d sp rm hq).mono ?_;rintro _ rfl;obtain⟨b1,b2⟩:=zos d sp f hq;simp! only[zao _ hq];refine⟨fun _=>⟨fun z=>(by rw[qbp b2]at z;cases z),fun _=>?_⟩,fun z=>absurd z (by lia)⟩;simp! only[↓zdT];refine(zpI d ok.le).mono ?_;rintro _ ⟨v,r1,d1,ls,rfl⟩;have v0:v=0:=ls.fits.mpr ⟨_,f⟩;subst v0;simp! only[];refine(zss hn k2 (by lia) (by lia) ok.le).mono ?_;rintro _ ⟨F,r2,d3,mf,-,rfl⟩;have F0:F=0:=(both hn (by lia) ls mf).2.2.mpr ⟨_,f⟩;subst F0;simp! only[qbL];exact⟨_,hp2,rfl⟩
theorem znS (ok:LineOk k s n L G):Ok (zbO [zax k s n S L G,.tup (wI n r)]) fun x=>x= .val (zax k s n (win k r) L G):=by
 have kn:=ok.kn;have hn:=ok.s;have n24:=ok.n24;simp! only[↓zbO,↓zfb];refine(zjR (Sq.tup n r) kn (by lia)).mono ?_;rintro _ rfl;rw[show n+1-k=s by lia];simp! only[];refine(made_ok (DimOf ok) ok.le (Sq.tup s _) (Sq.tup n _) (Sq.tup n _)).mono ?_;rintro _ rfl;simp! only[]
theorem zpw (bx:∀p,p<n->L p<=r p/\r p<=G p):Fits k s n (win k r) L G r:=⟨fun p hp=>(bx p hp).1,fun p hp=>(bx p hp).2,fun _ _=>rfl⟩
theorem nil_ne (l:List (Nat×Nat))(h:l.length=0):dNe (.tup (l.map fun s=> .int (s.2:Nat))) (.tup [])=some (.bl false):=by
 rw[qcW.mp h];rfl
theorem math (ns:List Int)(hl:ns.length<=63):zmY [.scr ns]=some (.val (.bl true)):=by
 have:Ok (zmY [.scr ns]) fun x=>x= .val (.bl true):=by
  simp! only[↓zmY,↓m_law,↓zp3];refine⟨rfl,zbm (fun i ρ=>∃s1 s2 s3 s4 s5 s6 s7 s8 s9,ρ=[.val (.scr ns),s1,s2,s3,s4,s5,s6,s7,s8,s9]) ⟨_,_,_,_,_,_,_,_,_,rfl⟩ ?_ ?_⟩
  ·rintro i _ hi ⟨s1,s2,s3,s4,s5,s6,s7,s8,s9,rfl⟩;simp! only[↓zpB];refine(two_ok ns).mono ?_;rintro _ ⟨a,b,rfl⟩;simp! only[];refine(deal2_ok a b i (by lia)).mono ?_;rintro _ ⟨d1,h1,rfl⟩;simp! only[];refine(zl8 h1).mono ?_;rintro _ ⟨k,m,n,T,L,G,d2,h2,ok,rfl⟩;have n24:=ok.n24;have kn:=ok.kn;have hn:=ok.s;simp! only[];refine(zpI (DimOf ok) ok.le).mono ?_;rintro _ ⟨v,r1,e1,ls,rfl⟩;simp! only[];refine(zss hn ok.k2 (by lia) (by lia) ok.le).mono ?_;rintro _ ⟨F,r2,e2,mf,bx2,rfl⟩;simp! only[↓zpT];refine zjS (enc:=fun r:Nat->Int=>D.tup (wI n r)) (l:=[r1,r2]) (fun _ ρ=>∃(ds:List D) (s5 s6 s7 s8 s9:Sl),Pot ds/\ρ=[.val (.scr ns),.val (.int (i:Nat)),.own ds,.val (zax k m n T L G),.val (.lst [.tup (wI n r1),.tup (wI n r2)]),s5,s6,s7,s8,s9]) ⟨_,_,_,_,_,_,h2,rfl⟩ ?_ ?_
   ·rintro j r _ hr ⟨ds,s5,s6,s7,s8,s9,hp,rfl⟩;have bx:∀p,p<n->L p<=r p/\r p<=G p:=by
     have:r∈[r1,r2]:=qaV hr;rcases qam.mp this with rfl|this
     ·exact ls.box
     ·rw[qcg.mp this];exact bx2
    simp! only[↓zpE];refine(znS ok).mono ?_;rintro _ rfl;simp! only[];refine(zjZ hp ok (zpw bx)).mono ?_;rintro _ ⟨ds',hp',rfl⟩;simp! only[];exact⟨_,_,_,_,_,_,hp',rfl⟩
   rintro _ ⟨ds,s5,s6,s7,s8,s9,hp,rfl⟩;simp! only[];refine(zcj hp (m:=4) (by lia) (by lia)).mono ?_;rintro _ ⟨t,d3,ht,h3,rfl⟩;have et:(1:Int)+(t:Int)=((1+t:Nat):Int):=by lia
   simp! only[et];refine(zsZ h3 2 12 (1+t) (by lia) (by lia) (by lia) (by lia) (by lia) (by lia)).mono ?_;rintro _ ⟨m',n',T',L',G',d4,h4,ok',rfl⟩;have n24':=ok'.n24;have kn':=ok'.kn;have hn':=ok'.s;have en:n'=m'+1:=by lia
   simp! only[];refine(zrd en (by lia) ok'.le).mono ?_;rintro _ ⟨l,r,e3,few,bx,cr,rfl⟩;simp! only[];refine(znS ok').mono ?_;rintro _ rfl;simp! only[];refine(zjZ h4 ok' (zpw bx)).mono ?_;rintro _ ⟨d5,h5,rfl⟩;simp! only[];refine(zrd en (by lia) ok'.le).mono ?_;rintro _ ⟨l',r',e4,few',bx',cr',rfl⟩;have l0:l'.length=0:=by
    have:=few'.low r bx;have:=cw_zero (T:=win 2 r) (r:=r) (m:=m').mpr fun i hi=>(win2 r i).symm
    lia
   simp! only[nil_ne l' l0,↓zo4,↓zpq];refine⟨zay (by lia) (by lia),by lia,zrE (fun ρ=>∃a,ρ=[.val (zax 2 m' n' (win 2 r) L' G'),.val (zax 2 m' n' T' L' G'),a]) (fun i=>if r i+r (i+1)=T' i then none else some (.int (i:Nat))) ⟨_,rfl⟩ ?_ ?_⟩
   ·rintro j _ hj ⟨a,rfl⟩;simp! only[↓zo8,↓zpp,zao _ hj,win2];exact⟨fun z=>⟨by rw[if_neg z],_,rfl⟩,fun z=>⟨by rw[if_pos z],_,rfl⟩⟩
   rintro _ ⟨a,rfl⟩;simp! only[zr7,qaX];exact⟨fun z=>absurd z (by lia),fun _=>⟨_,_,_,_,_,_,_,_,_,rfl⟩⟩
  ·rintro _ ⟨s1,s2,s3,s4,s5,s6,s7,s8,s9,rfl⟩;simp! only[]
 obtain⟨_,e,rfl⟩:=this;exact e
end
end Prf
def PySem.W.Fast.tw13215958581359798944:Nat:=0
def PySem.W.Fast.tw6178306890867254816:Nat:=0
def PySem.W.Fast.tw13292718316350993740:Nat:=0
def PySem.W.Fast.tw1443908532283913285:Nat:=0
def PySem.W.Fast.tw7935932948038054433:Nat:=0
def PySem.W.Fast.tw7748814122530234856:Nat:=0
def PySem.W.Fast.tw12722643418840525199:Nat:=0
def PySem.W.Fast.tw8785195655651285625:Nat:=0
def PySem.W.Fast.tw2764337722017726872:Nat:=0
def PySem.W.Fast.tw17838601782639928468:Nat:=0
def PySem.W.Fast.tw16602757312453185474:Nat:=0
def PySem.W.Fast.tw2905540424947722424:Nat:=0
def PySem.W.Fast.tw1356832210083151027:Nat:=0
def PySem.W.Fast.tw8242910423119216349:Nat:=0
def PySem.W.Fast.tw17142649272508524859:Nat:=0
def PySem.W.Fast.tw15276288543012714486:Nat:=0
def PySem.W.Fast.tw16546957483828319813:Nat:=0
def PySem.W.Fast.tw13246394734623352395:Nat:=0
def PySem.W.Fast.tw13074647652138342518:Nat:=0
def PySem.W.Fast.tw18211280948406516073:Nat:=0
def PySem.W.Fast.tw12816460862855845820:Nat:=0
def PySem.W.Fast.tw9569357244985986332:Nat:=0
def PySem.W.Fast.tw12701379496368623532:Nat:=0
def PySem.W.Fast.tw6955951774404035641:Nat:=0
def PySem.W.Fast.tw2935930885130428345:Nat:=0
def PySem.W.Fast.tw9874954875234729925:Nat:=0
def PySem.W.Fast.tw13913981744232701243:Nat:=0
def PySem.W.Fast.tw11130093698973790091:Nat:=0
def PySem.W.Fast.tw7945427393125239546:Nat:=0
def PySem.W.Fast.tw4103970531950280995:Nat:=0
def PySem.W.Fast.tw6791972891856620717:Nat:=0
def PySem.W.Fast.tw2266473362536084319:Nat:=0
def PySem.W.Fast.tw5215402302610826506:Nat:=0
def PySem.W.Fast.tw3554963939910399465:Nat:=0
def PySem.W.Fast.tw17714489179766114369:Nat:=0
def PySem.W.Fast.tw6864035041832007164:Nat:=0
def PySem.W.Fast.tw9460210577113370132:Nat:=0
def PySem.W.Fast.tw17247694083534490867:Nat:=0
def PySem.W.Fast.tw343487564991810637:Nat:=0
def PySem.W.Fast.tw14879960541185472238:Nat:=0
def PySem.W.Fast.tw16782239351824422685:Nat:=0
def PySem.W.Fast.tw14176285956087324619:Nat:=0
def PySem.W.Fast.tw4163146989791558940:Nat:=0
def PySem.W.Fast.tw2870692054395029087:Nat:=0
def PySem.W.Fast.tw12300544439588863591:Nat:=0
def PySem.W.Fast.tw1274002486876039129:Nat:=0
def PySem.W.Fast.tw17365235082087890269:Nat:=0
def PySem.W.Fast.tw607668898615585433:Nat:=0
def PySem.W.Fast.tw17267569399371563404:Nat:=0
def PySem.W.Fast.tw4273252603474350708:Nat:=0
def PySem.W.Fast.tw14314842541869492972:Nat:=0
def PySem.W.Fast.tw14004935014920593300:Nat:=0
def PySem.W.Fast.tw6926386641213249780:Nat:=0
def PySem.W.Fast.tw1100588888147185383:Nat:=0
def PySem.W.Fast.tw15161167774892962291:Nat:=0
def PySem.W.Fast.tw5896058747434371467:Nat:=0
def PySem.W.Fast.tw17693029167823765879:Nat:=0
def PySem.W.Fast.tw4977446296269087589:Nat:=0
def PySem.W.Fast.tw8473292086775183761:Nat:=0
def PySem.W.Fast.tw10952892029386952826:Nat:=0
def PySem.W.Fast.tw6723171619676774229:Nat:=0
def PySem.W.Fast.tw2047468660012340932:Nat:=0
def PySem.W.Fast.tw3465546438329359646:Nat:=0
def PySem.W.Fast.tw11039961992588374175:Nat:=0
def PySem.W.Fast.tw16877904799419544401:Nat:=0
def PySem.W.Fast.tw11422234385670568541:Nat:=0
def PySem.W.Fast.tw11837593812859490765:Nat:=0
def PySem.W.Fast.tw16038773637413759821:Nat:=0
def PySem.W.Fast.tw8266100972950028080:Nat:=0
def PySem.W.Fast.tw1011413940073536102:Nat:=0
def PySem.W.Fast.tw3356604728209524878:Nat:=0
def PySem.W.Fast.tw12040328788498912137:Nat:=0
def PySem.W.Fast.tw8593125133680517657:Nat:=0
def PySem.W.Fast.tw10629511833154237446:Nat:=0
def PySem.W.Fast.tw12039757246320815242:Nat:=0
def PySem.W.Fast.tw6272358621182667902:Nat:=0
def PySem.W.Fast.tw2654139138063738108:Nat:=0
def PySem.W.Fast.tw1024552354337964310:Nat:=0
def PySem.W.Fast.tw10514083135724978458:Nat:=0
def PySem.W.Fast.tw6628584579049036762:Nat:=0
def PySem.W.Fast.tw17123395555799264939:Nat:=0
def PySem.W.Fast.tw17279164105239208246:Nat:=0
def PySem.W.Fast.tw10850537223553582887:Nat:=0
def PySem.W.Fast.tw14352108216529226977:Nat:=0
def PySem.W.Fast.tw5145081053642051451:Nat:=0
def PySem.W.Fast.tw14433805720116950378:Nat:=0
def PySem.W.Fast.tw11129686772374207028:Nat:=0
def PySem.W.Fast.tw11589120736519343703:Nat:=0
def PySem.W.Fast.tw10458568089676769352:Nat:=0
def PySem.W.Fast.tw3979894442657002837:Nat:=0
def PySem.W.Fast.tw10551975715723617781:Nat:=0
def PySem.W.Fast.tw13215184682716041421:Nat:=0
def PySem.W.Fast.tw2663831391031846789:Nat:=0
def PySem.W.Fast.tw8321091254111610715:Nat:=0
def PySem.W.Fast.tw2865100859868392277:Nat:=0
def PySem.W.Fast.tw640404984379495617:Nat:=0
def PySem.W.Fast.tw4739683153001407592:Nat:=0
def PySem.W.Fast.tw5435945102107205125:Nat:=0
def PySem.W.Fast.tw6037547556348117439:Nat:=0
def PySem.W.Fast.tw5004414889398441501:Nat:=0
def PySem.W.Fast.tw1441913512357229966:Nat:=0
def PySem.W.Fast.tw11855631619538841726:Nat:=0
def PySem.W.Fast.tw1390986541274315868:Nat:=0
def PySem.W.Fast.tw3729776242407266566:Nat:=0
def PySem.W.Fast.tw17594030126214947709:Nat:=0
def PySem.W.Fast.tw17209230265788803409:Nat:=0
def PySem.W.Fast.tw17359827666949446232:Nat:=0
def PySem.W.Fast.tw1924069606358441652:Nat:=0
def PySem.W.Fast.tw2546727078998391115:Nat:=0
def PySem.W.Fast.tw683388949963276122:Nat:=0
def PySem.W.Fast.tw4039706400429176155:Nat:=0
def PySem.W.Fast.tw6960240135056220:Nat:=0
def PySem.W.Fast.tw253948389132835921:Nat:=0
def PySem.W.Fast.tw2219335744903309561:Nat:=0
def PySem.W.Fast.tw7092259096511185463:Nat:=0
def PySem.W.Fast.tw4628630178220242097:Nat:=0
def PySem.W.Fast.tw9347799545429533142:Nat:=0
def PySem.W.Fast.tw10163524570493795189:Nat:=0
def PySem.W.Fast.tw6625915869413575413:Nat:=0
def PySem.W.Fast.tw8686824446264255485:Nat:=0
def PySem.W.Fast.tw4763686383330776244:Nat:=0
def PySem.W.Fast.tw9015286299777839256:Nat:=0
def PySem.W.Fast.tw16525168620735285299:Nat:=0
def PySem.W.Fast.tw2385200674307755950:Nat:=0
def PySem.W.Fast.tw11620244664624538835:Nat:=0
def PySem.W.Fast.tw9663931269915122541:Nat:=0
def PySem.W.Fast.tw11177010543465929123:Nat:=0
def PySem.W.Fast.tw15428775546983900881:Nat:=0
def PySem.W.Fast.tw16949147838846050974:Nat:=0
def PySem.W.Fast.tw7179741099551215059:Nat:=0
def PySem.W.Fast.tw13211486001906461964:Nat:=0
def PySem.W.Fast.tw427394732119304030:Nat:=0
def PySem.W.Fast.tw4826377024945639171:Nat:=0
def PySem.W.Fast.tw1798716660193739449:Nat:=0
def PySem.W.Fast.tw3480761653979853978:Nat:=0
def PySem.W.Fast.tw1069308334726845236:Nat:=0
def PySem.W.Fast.tw16457031154366416528:Nat:=0
def PySem.W.Fast.tw9278452550915940548:Nat:=0
def PySem.W.Fast.tw7808492043229797722:Nat:=0
def PySem.W.Fast.tw17400382254900388918:Nat:=0
def PySem.W.Fast.tw14799089177612363850:Nat:=0
def PySem.W.Fast.tw15147019626243000601:Nat:=0
def PySem.W.Fast.tw1921554323784721559:Nat:=0
def PySem.W.Fast.tw12821646961677770192:Nat:=0
def PySem.W.Fast.tw11418149222714896056:Nat:=0
def PySem.W.Fast.tw7914940895929823765:Nat:=0
def PySem.W.Fast.tw4633435662885061719:Nat:=0
def PySem.W.Fast.tw4928751210892292415:Nat:=0
def PySem.W.Fast.tw4295561556783498732:Nat:=0
def PySem.W.Fast.tw10441886621858166066:Nat:=0
def PySem.W.Fast.tw12647718034836479677:Nat:=0
def PySem.W.Fast.tw6823420697350808498:Nat:=0
def PySem.W.Fast.tw906858853041124777:Nat:=0
def PySem.W.Fast.tw11553520974505391235:Nat:=0
def PySem.W.Fast.tw4756277777444582083:Nat:=0
def PySem.W.Fast.tw14493377187711368103:Nat:=0
def PySem.W.Fast.tw5952977365613206883:Nat:=0
def PySem.W.Fast.tw246746369763808690:Nat:=0
def PySem.W.Fast.tw14507887095514687542:Nat:=0
def PySem.W.Fast.tw17804107240630200004:Nat:=0
def PySem.W.Fast.tw4426744746448172989:Nat:=0
def PySem.W.Fast.tw8387145562684919354:Nat:=0
def PySem.W.Fast.tw7450894131695479894:Nat:=0
def PySem.W.Fast.tw11814436833560995452:Nat:=0
def PySem.W.Fast.tw2558746428426068687:Nat:=0
def PySem.W.Fast.tw17809092451309631024:Nat:=0
def PySem.W.Fast.tw3683346081352527261:Nat:=0
def PySem.W.Fast.tw16775468860423042499:Nat:=0
def PySem.W.Fast.tw9384130107455661705:Nat:=0
def PySem.W.Fast.tw10283711451416965420:Nat:=0
def PySem.W.Fast.tw6002194532520229436:Nat:=0
def PySem.W.Fast.tw4159203239729647894:Nat:=0
def PySem.W.Fast.tw12791885805343371475:Nat:=0
def PySem.W.Fast.tw12684484029107228242:Nat:=0
def PySem.W.Fast.tw14862575140097172937:Nat:=0
def PySem.W.Fast.tw11854665413966631289:Nat:=0
def PySem.W.Fast.tw7250246262236961252:Nat:=0
def PySem.W.Fast.tw11683350162145145741:Nat:=0
def PySem.W.Fast.tw5621472046203362561:Nat:=0
def PySem.W.Fast.tw6611593607106819279:Nat:=0
def PySem.W.Fast.tw5460574225569013925:Nat:=0
def PySem.W.Fast.tw17025576654290569987:Nat:=0
def PySem.W.Fast.tw7836092717777730136:Nat:=0
def PySem.W.Fast.tw16819887351688939930:Nat:=0
def PySem.W.Fast.tw13588003243610693300:Nat:=0
def PySem.W.Fast.tw10297091251270563997:Nat:=0
def PySem.W.Fast.tw13878048500794539248:Nat:=0
def PySem.W.Fast.tw4196316280163706610:Nat:=0
def PySem.W.Fast.tw17112800706781643203:Nat:=0
def PySem.W.Fast.tw18158561099780355594:Nat:=0
def PySem.W.Fast.tw7669916817870984429:Nat:=0
def PySem.W.Fast.tw12950543443358892975:Nat:=0
def PySem.W.Fast.tw4834035535844465635:Nat:=0
def PySem.W.Fast.tw15623922938068909792:Nat:=0
def PySem.W.Fast.tw828454357629370534:Nat:=0
def PySem.W.Fast.tw3529514171368881217:Nat:=0
def PySem.W.Fast.tw15670140994122632420:Nat:=0
def PySem.W.Fast.tw7136583690153817675:Nat:=0
def PySem.W.Fast.tw14716835141338490953:Nat:=0
def PySem.W.Fast.tw1500203248833277061:Nat:=0
def PySem.W.Fast.tw17457103784521380817:Nat:=0
def PySem.W.Fast.tw4289372482962259428:Nat:=0
def PySem.W.Fast.tw14111665821301782773:Nat:=0
def PySem.W.Fast.tw7168843548199996233:Nat:=0
def PySem.W.Fast.tw62943639344011391:Nat:=0
def PySem.W.Fast.tw8835798440140190122:Nat:=0
def PySem.W.Fast.tw9392115384117806413:Nat:=0
def PySem.W.Fast.tw406315863644522473:Nat:=0
def PySem.W.Fast.tw15618772457482977240:Nat:=0
def PySem.W.Fast.tw6267152055689241750:Nat:=0
def PySem.W.Fast.tw13524653840559184866:Nat:=0
def PySem.W.Fast.tw15728039958475340907:Nat:=0
def PySem.W.Fast.tw11224071649775615060:Nat:=0
def PySem.W.Fast.tw10618270694095013548:Nat:=0
def PySem.W.Fast.tw342666378403276444:Nat:=0
def PySem.W.Fast.tw1978780001549349343:Nat:=0
def PySem.W.Fast.tw12938668032749723912:Nat:=0
def PySem.W.Fast.tw9938931261123930358:Nat:=0
def PySem.W.Fast.tw16697060261310276430:Nat:=0
def PySem.W.Fast.tw13397061883999835385:Nat:=0
def PySem.W.Fast.tw18223015676617715006:Nat:=0
def PySem.W.Fast.tw9345352132791739181:Nat:=0
def PySem.W.Fast.tw12034665672163673294:Nat:=0
def PySem.W.Fast.tw5312723882241295613:Nat:=0
def PySem.W.Fast.tw14722611440473136497:Nat:=0
def PySem.W.Fast.tw5743643169401445066:Nat:=0
def PySem.W.Fast.tw9599770688525714884:Nat:=0
def PySem.W.Fast.tw10255004511623524355:Nat:=0
def PySem.W.Fast.tw4523586424082507140:Nat:=0
def PySem.W.Fast.tw3367611645906110174:Nat:=0
def PySem.W.Fast.tw7886681757995839448:Nat:=0
def PySem.W.Fast.tw4496352671353344297:Nat:=0
def PySem.W.Fast.tw17705100857872536992:Nat:=0
def PySem.W.Fast.tw5278305320396468061:Nat:=0
def PySem.W.Fast.tw3633206151381020898:Nat:=0
def PySem.W.Fast.tw15413956101851664233:Nat:=0
def PySem.W.Fast.tw9611039649100400099:Nat:=0
def PySem.W.Fast.tw7957121439284768312:Nat:=0
def PySem.W.Fast.tw9706627702747239170:Nat:=0
def PySem.W.Fast.tw7445356992693567380:Nat:=0
def PySem.W.Fast.tw18444479095612961879:Nat:=0
def PySem.W.Fast.tw7016065348404899424:Nat:=0
def PySem.W.Fast.tw545131247952175141:Nat:=0
def PySem.W.Fast.tw17516340419912643742:Nat:=0
def PySem.W.Fast.tw13208106989490725849:Nat:=0
def PySem.W.Fast.tw77659490949867898:Nat:=0
def PySem.W.Fast.tw7596062106947000130:Nat:=0
def PySem.W.Fast.tw12075025464451369754:Nat:=0
def PySem.W.Fast.tw7157096904531134870:Nat:=0
def PySem.W.Fast.tw5304692437664473754:Nat:=0
def PySem.W.Fast.tw16390279812438806971:Nat:=0
def PySem.W.Fast.tw3535364191029634638:Nat:=0
def PySem.W.Fast.tw5758361164263719881:Nat:=0
def PySem.W.Fast.tw3417739072673631961:Nat:=0
def PySem.W.Fast.tw1525720613718009896:Nat:=0
def PySem.W.Fast.tw10707554010113122900:Nat:=0
def PySem.W.Fast.tw2308500868234738915:Nat:=0
def PySem.W.Fast.tw7672204812263938556:Nat:=0
def PySem.W.Fast.tw17192990156331866906:Nat:=0
def PySem.W.Fast.tw10190195299113060895:Nat:=0
def PySem.W.Fast.tw7636907063208675238:Nat:=0
def PySem.W.Fast.tw3193837105276641197:Nat:=0
def PySem.W.Fast.tw8723364664339371710:Nat:=0
def PySem.W.Fast.tw2045910239061743520:Nat:=0
def PySem.W.Fast.tw12846810577339825694:Nat:=0
def PySem.W.Fast.tw16676217651402221985:Nat:=0
def PySem.W.Fast.tw10318168372343690549:Nat:=0
def PySem.W.Fast.tw6721023801057813130:Nat:=0
def PySem.W.Fast.tw16986133943685677557:Nat:=0
def PySem.W.Fast.tw14017504671024365925:Nat:=0
def PySem.W.Fast.tw13887201875806507246:Nat:=0
def PySem.W.Fast.tw2743456660912337912:Nat:=0
def PySem.W.Fast.tw2762517931001273233:Nat:=0
def PySem.W.Fast.tw2506079250704641562:Nat:=0
def PySem.W.Fast.tw16214314399313570765:Nat:=0
def PySem.W.Fast.tw7837589215641762674:Nat:=0
def PySem.W.Fast.tw9629148851626269769:Nat:=0
def PySem.W.Fast.tw13000650899929952749:Nat:=0
def PySem.W.Fast.tw12541183280072623732:Nat:=0
def PySem.W.Fast.tw16437264325973978921:Nat:=0
def PySem.W.Fast.tw12863689052872866921:Nat:=0
def PySem.W.Fast.tw3955642423622920671:Nat:=0
def PySem.W.Fast.tw3818020863467759314:Nat:=0
def PySem.W.Fast.tw17076344141091097065:Nat:=0
def PySem.W.Fast.tw17927641593130598477:Nat:=0
def PySem.W.Fast.tw13694519438566195930:Nat:=0
def PySem.W.Fast.tw17959938359001050777:Nat:=0
def PySem.W.Fast.tw5129324608135432020:Nat:=0
def PySem.W.Fast.tw6758504359124345551:Nat:=0
def PySem.W.Fast.tw14981156403191560491:Nat:=0
def PySem.W.Fast.tw5042405831111405535:Nat:=0
def PySem.W.Fast.tw6138762330174749649:Nat:=0
def PySem.W.Fast.tw1420454783658051025:Nat:=0
def PySem.W.Fast.tw5570546699641117505:Nat:=0
def PySem.W.Fast.tw16225630313826434395:Nat:=0
def PySem.W.Fast.tw3934236134985764486:Nat:=0
def PySem.W.Fast.tw15759084068546660124:Nat:=0
def PySem.W.Fast.tw714691646901243190:Nat:=0
open PyProof.Rows PySem PySem.W
set_option maxRecDepth 100000 in
set_option maxHeartbeats 0 in
theorem PySem.Challenge.cw_tellsum_k99_whole_mended_lines_have_thei_holds : PySem.Challenge.rw_tellsum_k99_whole_mended_lines_have_thei.Holds := by
  w_on; o_law; k_head; (case hw => w_witness2)
  k_fill
  refine Prf.walk (l := PySem.Challenge.rw_tellsum_k99_whole_mended_lines_have_thei) rfl rfl Prf.math (fun w h Y => W.kIn_of Y) ?F
  case F =>
    intro w mg fa h KX G hmg
    refine' Prf.all_mk KX G hmg ?h1 ?h2 ?h3 ?h4 ?h5 ?h6 ?h7 ?h8 ?h9 ?h10 ?h11 ?h12 ?h13 ?h14 ?h15 ?h16 ?h17 ?h18 ?h19 ?h20 ?h21 ?h22 ?h23 ?h24 ?h25 ?h26 ?h27 ?h28 ?h29 ?h30 ?h31 ?h32 ?h33 ?h34 ?h35 ?h36 ?h37 ?h38 ?h39 ?h40 ?h41 ?h42 ?h43 ?h44 ?h45 ?h46 ?h47 ?h48 ?h49 ?h50 ?h51 ?h52 ?h53 ?h54 ?h55 ?h56 ?h57 ?h58 ?h59 ?h60 ?h61 ?h62 ?h63 ?h64 ?h65 ?h66 ?h67 ?h68 ?h69 ?h70 ?h71 ?z0 ?z1 ?z2 ?z3 ?z4 ?z5 ?z6 ?z7 ?z8 ?z9 ?z10 ?y0 ?zou ?zl3
    (case h1 | h2 | h3 | h4 | h5 | h6 | h7 | h8 | h9 | h10 | h11 | h12 | h13 | h14 | h15 | h16 | h17 | h18 | h19 | h20 | h21 | h22 | h23 | h24 | h25 | h26 | h27 | h28 | h29 | h30 | h31 | h32 | h33 | h34 | h35 | h36 | h37 | h38 | h39 | h40 | h41 | h42 | h43 | h44 | h45 | h46 | h47 | h48 | h49 | h50 | h51 | h52 | h53 | h54 | h55 | h56 | h57 | h58 | h59 | h60 | h61 | h62 | h63 | h64 | h65 | h66 | h67 | h68 | h69 | h70 | h71 =>
      refine' M.FnAt.mk ?a ?l ?c ?k
      (case a => k_is)
      (case l => k_is)
      (case c => k_is)
      (case k => k_is))
    (case z0 | z1 | z2 | z3 | z4 | z5 | z6 | z7 | z8 | z9 | z10 | y0 | zou | zl3 => k_is)
end
