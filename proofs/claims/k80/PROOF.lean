import PyProof.Rows.All
import Wide.All
import OpenK.AllK
import Wide.FinOn
import Lean
import PyProof.EqAt
import PyProof.EqKinds
import PyProof.TupleCall
import PyProof.Rows.Range3
import PyProof.ZipIter
import PyProof.Draws
import PyProof.EnumMake
import PyProof.Rows.FactsTup
import PyProof.LayNew
import PyProof.Rows.SeqMore2
import PyProof.Rows.RuleIs
import KE.KRevIter
import PyProof.P3In
import KE.KSortTup
import PyProof.Rows.SortWalk
import PyProof.Rows.SetFrom
import PySem.Challenge.RW_tellsum_k80_stretches_refused
set_option Elab.async false
set_option linter.all false
set_option bootstrap.genMatcherCode false
set_option compiler.extract_closed false
set_option maxRecDepth 100000
theorem zu0(h:True:=by first|exact .inl rfl|exact .inr rfl|assumption):True:=trivial
theorem zu1(h:True:=by decide):True:=trivial
theorem zu2(h:True:=by first|exact nobehind _ (by decide) (by decide)|rfl):True:=trivial
theorem zu3(h:True:=by rfl):True:=trivial
theorem zu4(h:True:=by intro _;rfl):True:=trivial
theorem zu5(h:True:=by with_unfolding_all rfl):True:=trivial
theorem zu6(h:True:=by first|exact Or.inl rfl|exact Or.inr (Or.inl rfl)|exact Or.inr (Or.inr rfl)):True:=trivial
theorem zu7(h:True:=by exact fun _ _=>rfl):True:=trivial
theorem zu8(h:True:=by exact fun _=>rfl):True:=trivial
theorem zu9(h:True:=by first|exact Or.inl rfl|exact Or.inr rfl):True:=trivial
theorem zu10(h:True:=by kernel_rfl):True:=trivial
theorem zu11(h:True:=by decide+kernel):True:=trivial
theorem zu12(h:True:=by first|exact .inl rfl|exact .inr rfl):True:=trivial
noncomputable section
abbrev qaa:=@decide_eq_false
abbrev qab:=@beq_eq_false_iff_ne
abbrev qac:=@PySem.Paired.length
abbrev qad:=@List.getElem?_eq_none_iff
abbrev qae:=@PySem.Heap.lt_size
abbrev qaf:=@Nat.lt_of_lt_of_le
abbrev qag:=@Nat.lt_irrefl
abbrev qah:=@Nat.ne_of_lt
abbrev qai:=@PySem.W.hideAll_get
abbrev qaj:=@List.mem_range
abbrev qak:=@PySem.W.hideAll_none
abbrev qal:=@Nat.le_trans
abbrev qam:=@Nat.le_of_lt
abbrev qan:=@List.filterMap_cons
abbrev qao:=@List.mem_cons_self
abbrev qap:=@List.mem_cons_of_mem
abbrev qaq:=@List.mem_cons
abbrev qar:=@List.mem_append
abbrev qas:=@List.mem_append_left
abbrev qat:=@List.getElem?_eq_some_iff
abbrev qau:=@List.getElem?_set_self
abbrev qav:=@List.getElem?_set_ne
abbrev qaw:=@PySem.wpAny_mono
abbrev qax:=@PySem.Calls.Name_function_global
abbrev qay:=@PySem.wpAny_truthy_bool
abbrev qaz:=@Array.length_toList
abbrev qaA:=@PySem.wpAny_execs_nil
abbrev qaB:=@PySem.wpAny_bind
abbrev qaC:=@PySem.wpAny_holding
abbrev qaD:=@Nat.ne_of_gt
abbrev qaE:=@PySem.wpAny_pure
abbrev qaF:=@PySem.Heap.get?_push_of_some
abbrev qaG:=@PySem.Heap.get?_push_size
abbrev qaH:=@Nat.le_refl
abbrev qaI:=@PyProof.Rows.callWith_type1
abbrev qaJ:=@List.mem_filterMap
abbrev qaK:=@List.mem_append_right
abbrev qaL:=@PySem.wpAny_passesOwn
abbrev qaM:=@PySem.sizeLine_eq
abbrev qaN:=@List.size_toArray
abbrev qaO:=@Bool.false_ne_true
abbrev qaP:=@beq_iff_eq
abbrev qaQ:=@List.length_cons
abbrev qaR:=@PySem.W.looks_findIn
abbrev qaS:=@List.map_cons
abbrev qaT:=@List.length_map
abbrev qaU:=@PySem.Heap.size_push
abbrev qaV:=@Nat.lt_succ_self
abbrev qaW:=@Nat.zero_le
abbrev qaX:=@PySem.W.kia_one
abbrev qaY:=@List.append_nil
abbrev qaZ:=@PySem.wpAny_call
abbrev qa0:=@PySem.codeAny_mono
abbrev qa1:=@PySem.wpAny_Call_Name_kw
abbrev qa2:=@PySem.W.methodCall_KW
abbrev qa3:=@List.nodup_cons
abbrev qa4:=@Option.isSome_iff_exists
abbrev qa5:=@List.length_take
abbrev qa6:=@PySem.mem_of_lookup
abbrev qa7:=@List.getElem?_append_right
abbrev qa8:=@List.getElem?_replicate
abbrev qa9:=@List.getElem?_append_left
abbrev qba:=@List.getElem?_map
abbrev qbb:=@List.mem_of_getElem?
abbrev qbc:=@List.length_append
abbrev qbd:=@List.length_replicate
abbrev qbe:=@PySem.F.slot_tuple_add
abbrev qbf:=@PySem.F.entry_tuple_add
abbrev qbg:=@PySem.F.args_tuple_add_2
abbrev qbh:=@Int.toNat_natCast
abbrev qbi:=@if_false
abbrev qbj:=@PySem.wpAny_field
abbrev qbk:=@PySem.wpAny_callSpecial?_slot
abbrev qbl:=@PyProof.Rows.slot_tuple_getitem
abbrev qbm:=@PySem.wpAny_call_entry
abbrev qbn:=@PySem.wpAny_typeOf
abbrev qbo:=@Bool.and_eq_true
abbrev qbp:=@PySem.wpAny_newObj_type
abbrev qbq:=@List.map_nil
abbrev qbr:=@PySem.Heap.get?_update_self
abbrev qbs:=@PySem.Heap.get?_update_other
abbrev qbt:=@List.length_set
abbrev qbu:=@List.all_cons
abbrev qbv:=@List.any_cons
abbrev qbw:=@List.replicate_succ
abbrev qbx:=@List.flatten_cons
abbrev qby:=@List.foldl_cons
abbrev qbz:=@Array.getElem?_toList
abbrev qbA:=@decide_eq_true
abbrev qbB:=@List.find?_cons
abbrev qbC:=@List.length_nil
abbrev qbD:=@Option.map_eq_some_iff
abbrev qbE:=@PySem.tupleKind_room_in1
abbrev qbF:=@List.getElem?_set
abbrev qbG:=@Option.ne_none_iff_exists'
abbrev qbH:=@Option.bind_some
abbrev qbI:=@Option.map_some
abbrev qbJ:=@Option.some.injEq
abbrev qbK:=@decide_eq_true_eq
abbrev qbL:=@Bool.or_eq_true
abbrev qbM:=@List.eq_nil_of_length_eq_zero
abbrev qbN:=@List.getElem?_eq_getElem
abbrev qbO:=@PySem.F.plainAttrs_list
abbrev qbP:=@List.drop_eq_getElem_cons
abbrev qbQ:=@PySem.wpAny_pyIter_list
abbrev qbR:=@PySem.wpAny_pyIter_tuple
abbrev qbS:=@List.getElem?_cons_succ
abbrev qbT:=@List.lookup_cons
abbrev qbU:=@beq_self_eq_true
abbrev qbV:=@Nat.lt_succ_of_lt
abbrev qbW:=@Bool.false_eq_true
abbrev qbX:=@List.all_eq_true
abbrev qbY:=@List.mem_map
abbrev qbZ:=@List.take_succ_eq_append_getElem
abbrev qb0:=@List.sum_append
abbrev qb1:=@List.take_of_length_le
abbrev qb2:=@List.getElem?_eq_none
abbrev qb3:=@PySem.wpAny_rule
abbrev qb4:=@List.length_range
abbrev qb5:=@List.map_append
abbrev qb6:=@List.map_map
abbrev qb7:=@Nat.add_left_cancel
abbrev qb8:=@PySem.Obj.cls_mapFields
abbrev qb9:=@PySem.Obj.data_mapFields
abbrev qca:=@PySem.wpAny_setField
abbrev qcb:=@PySem.Heap.SameBut.update
abbrev qcc:=@PySem.Obj.isFreed_of_fields
abbrev qcd:=@PySem.AutoSeq1.wpAny_loadPart'
abbrev qce:=@List.not_mem_nil
abbrev qcf:=@Nat.lt_of_le_of_lt
abbrev qcg:=@List.getElem?_zipWith
abbrev qch:=@PySem.wpAny_ite_false
abbrev qci:=@PySem.codeAny_call_builtin
abbrev qcj:=@PySem.codeAny_builtin
abbrev qck:=@PySem.wpAny_attempt
abbrev qcl:=@List.contains_cons
abbrev qcm:=@List.count_cons
abbrev qcn:=@List.map_congr_left
abbrev qco:=@Array.getD_eq_getD_getElem?
abbrev qcp:=@Nat.lt_or_eq_of_le
abbrev qcq:=@Nat.le_of_lt_succ
abbrev qcr:=@List.Perm.refl
abbrev qcs:=@List.getElem_map
abbrev qct:=@List.getD_eq_getElem?_getD
abbrev qcu:=@bne_self_eq_false
abbrev qcv:=@of_decide_eq_false
abbrev qcw:=@List.ext_getElem?
abbrev qcx:=@PySem.plainId_quiet
abbrev qcy:=@PySem.Around.under_plainId
abbrev qcz:=@List.pairwise_iff_getElem
abbrev qcA:=@List.pairwise_cons
abbrev qcB:=@List.any_eq_true
abbrev qcC:=@PySem.wpAny_setState_of
abbrev qcD:=@List.getElem_mem
abbrev qcE:=@PyProof.Rows.F.entry_set_update_loop
abbrev qcF:=@PyProof.Rows.F.plain_set_update_loop
abbrev qcG:=@PySem.wpAny_askSetting
abbrev qcH:=@List.mem_singleton
abbrev qcI:=@Array.getElem?_eq_getElem
abbrev qcJ:=@PySem.wpAny_fieldsOf
abbrev qcK:=@PySem.wpAny_setEntries_of
abbrev qcL:=@Bool.not_eq_true'
abbrev qcM:=@List.contains_eq_mem
abbrev qcN:=@decide_eq_false_iff_not
abbrev qcO:=@List.dropLast_eq_take
abbrev qcP:=@not_false_eq_true
abbrev qcQ:=@exists_eq_left'
abbrev qcR:=@false_implies
abbrev qcS:=@Function.comp_def
abbrev qcT:=@List.filter_cons
abbrev qcU:=@PySem.PassesOwn.never
abbrev qcV:=@PySem.W.mg_none_of
abbrev qcW:=@List.sum_cons
abbrev qcX:=@Option.isSome_none
abbrev qcY:=@Int.toNat_of_nonneg
namespace L2
open PyProof.Rows PySem PySem.Spec
variable {xs vs:List V} {us its:List Value} {x m qual:Str} {u cd:Value} {H:Hp} {a b it C dx:Addr} {o:HO} {w:World} {h:Heap} {g':Array GenState} {t' i j n:Nat} {d':Drawn} {ch fp:List Addr} {e c tg:Expr} {pins' pins:List (Addr×Obj)} {N ns ps:List Str} {A:Around} {E Q:Value->Shared->Prop} {v y:V} {s' s:Shared} {X:Cx} {t te:TE} {pos:Pos} {σ:St} {op op':CmpOp} {K:W.Frag} {f:Value->Value->Sem Value} {es:List Expr} {g:Int->Int->Int} {ta:TA} {p:Addr×Obj} {pl:Sem Bool} {body:List Stmt} {r:V->Hp->VK->Prop} {mA mg:Str->Option Value} {prog:Program} {outer:List Env} {fd:FuncData} {kindOf:Str->Option NameKind} {sc scope:Scope} {CX:CXT} {params:Arguments}
noncomputable abbrev Key:=Sum Int Str
noncomputable def zmp:Key->Value->Bool
 | .inl k,v=>Value.isInt k v
 | .inr x,v=>Value.isStrOf x v
noncomputable def keyH (w:World):Key->Int
 | .inl k=>hashInt k
 | .inr x=>hashStr w x
theorem za8:∀{k:Key} {v:Value},zmp k v=true->(∃i t,k=Sum.inl i/\v=Value.int i t)\/(∃x t,k=Sum.inr x/\v=Value.str x t)
 | .inl i,v,h=>by
  obtain⟨t,e⟩:=Value.isInt_shape (k:=i) (v:=v) h;exact .inl ⟨i,t,rfl,e⟩
 | .inr x,v,h=>by
  obtain⟨t,e⟩:=Value.isStrOf_shape (x:=x) (v:=v) h;exact .inr ⟨x,t,rfl,e⟩
theorem zoY (i:Int)(t:Tok):zmp (.inl i) (.int i t)=true:=by simp[zmp,Value.isInt]
theorem zph (x:Str)(t:Tok):zmp (.inr x) (.str x t)=true:=by simp[zmp,Value.isStrOf]
theorem key_ll (a b:Int):decide ((Sum.inl a:Key)=Sum.inl b)=(a==b):=by
 by_cases e:a=b
 ·subst e;simp
 ·have h:¬(Sum.inl a:Key)=Sum.inl b:=fun q=>e (Sum.inl.inj q)
  rw[qaa h];exact(qab.mpr e).symm
theorem key_rr (a b:Str):decide ((Sum.inr a:Key)=Sum.inr b)=decide (a=b):=by
 by_cases e:a=b
 ·subst e;simp
 ·have h:¬(Sum.inr a:Key)=Sum.inr b:=fun q=>e (Sum.inr.inj q)
  rw[qaa h,qaa e]
theorem key_lr (a:Int)(b:Str):decide ((Sum.inl a:Key)=Sum.inr b)=false:=qaa (fun q=>nomatch q)
theorem key_rl (a:Str)(b:Int):decide ((Sum.inr a:Key)=Sum.inl b)=false:=qaa (fun q=>nomatch q)
noncomputable def zbI (prog:Program)(w:World):PySem.KeyKind prog w Key where
 is:=zmp
 hash:=keyH w
 inj:=fun v a b ha hb=>by
  rcases za8 ha with⟨i,t,rfl,rfl⟩|⟨x,t,rfl,rfl⟩
  ·rcases za8 hb with⟨j,u,rfl,e⟩|⟨y,u,rfl,e⟩
   ·injection e with e1 _;rw[e1]
   ·exact nomatch e
  ·rcases za8 hb with⟨j,u,rfl,e⟩|⟨y,u,rfl,e⟩
   ·exact nomatch e
   ·injection e with e1 _;rw[e1]
 byValue:=fun k v h=>by
  rcases za8 h with⟨i,t,rfl,rfl⟩|⟨x,t,rfl,rfl⟩<;>rfl
 pyHash:=fun hv h=>by
  rcases za8 hv with⟨i,t,rfl,rfl⟩|⟨x,t,rfl,rfl⟩
  ·exact wpAny_pyHash_int h
  ·exact wpAny_pyHash_str h
 eqBool:=fun hu hv h=>by
  rcases za8 hu with⟨i,t,rfl,rfl⟩|⟨x,t,rfl,rfl⟩
  ·rcases za8 hv with⟨j,u,rfl,rfl⟩|⟨y,u,rfl,rfl⟩
   ·rw[key_ll]at h;exact wpAny_eqBool_int h
   ·rw[key_lr]at h;exact SeqAt.EqAt.int_str i t y u _ _ _ _ h
  ·rcases za8 hv with⟨j,u,rfl,rfl⟩|⟨y,u,rfl,rfl⟩
   ·rw[key_rl]at h;exact SeqAt.EqAt.str_int x t j u _ _ _ _ h
   ·rw[key_rr]at h;exact wpAny_eqBool_str h
 «strs»:=fun k x t v h=>by
  rcases za8 h with⟨i,u,rfl,e⟩|⟨y,u,rfl,e⟩
  ·exact nomatch e
  ·injection e with e1 _
   subst e1;cases v<;>rfl
theorem zkN (prog:Program)(w:World)(i:Int)(t:Tok):(zbI prog w).is (.inl i) (.int i t)=true:=zoY i t
theorem zkF (prog:Program)(w:World)(x:Str)(t:Tok):(zbI prog w).is (.inr x) (.str x t)=true:=zph x t
inductive V where
 |non|bl (b:Bool)|int (i:Int)|str (x:Str)|byt (b:Array UInt8)|flt (b:UInt64)|ref (a:Addr)|ty (n:String)
 deriving DecidableEq
noncomputable def RelV:V->Value->Prop
 | .non,u=>u=Value.none
 | .bl b,u=>u=Value.bool b
 | .int i,u=>∃t,u=Value.int i t
 | .str x,u=>∃t,u=Value.str x t
 | .byt b,u=>∃t,u=Value.bytes b t
 | .flt b,u=>∃t,u=Value.float b t
 | .ref a,u=>u=Value.ref a
 | .ty n,u=>u=Value.type n
noncomputable abbrev Vals:List V->List Value->Prop:=Paired RelV
theorem Vals.length (r:Vals xs us):xs.length=us.length:=qac r
theorem Vals.get:∀{xs:List V} {us:List Value} {i:Nat} {x:V},Vals xs us->xs[i]? =some x->∃u,us[i]? =some u/\RelV x u
 |_,_,_,_,.nil,e=>by simp at e
 |_,_,0,_,.cons r _,e=>by simp at e;subst e;exact⟨_,rfl,r⟩
 |_,_,i+1,x,.cons _ t,e=>by
  obtain⟨u,h1,h2⟩:=Vals.get (i:=i) (x:=x) t (by simpa using e);exact⟨u,by simpa using h1,h2⟩
theorem Vals.set {x:V}(r:RelV x u):∀{xs:List V} {us:List Value} (i:Nat),Vals xs us->Vals (xs.set i x) (us.set i u)
 |_,_,_,.nil=> .nil
 |_,_,0,.cons _ t=> .cons r t
 |_,_,i+1,.cons q t=> .cons q (Vals.set r i t)
theorem Vals.append:∀{xs ys:List V} {us ws:List Value},Vals xs us->Vals ys ws->Vals (xs++ys) (us++ws)
 |_,_,_,_,.nil,s=>s
 |_,_,_,_,.cons r t,s=> .cons r (Vals.append t s)
theorem Vals.take:∀{xs:List V} {us:List Value} (n:Nat),Vals xs us->Vals (xs.take n) (us.take n)
 |_,_,0,_=> .nil
 |_,_,_+1,.nil=> .nil
 |_,_,n+1,.cons r t=> .cons r (Vals.take n t)
theorem Vals.drop:∀{xs:List V} {us:List Value} (n:Nat),Vals xs us->Vals (xs.drop n) (us.drop n)
 |_,_,0,r=>r
 |_,_,_+1,.nil=> .nil
 |_,_,n+1,.cons _ t=>Vals.drop n t
theorem Vals.none_of:∀{xs:List V} {us:List Value} {i:Nat},Vals xs us->xs[i]? =none->us[i]? =none:=fun{xs us i} r e=>by
 have h1:=r.length;have h2:xs.length<=i:=qad.mp e;exact qad.mpr (by lia)
noncomputable def RelO:Option V->Option Value->Prop
 |some v,some u=>RelV v u
 |none,none=>True
 |_,_=>False
noncomputable def KV {κ:Type}:List (κ×V)->List (κ×Value)->Prop:=Paired fun(p:κ×V) (q:κ×Value)=>p.1=q.1/\RelV p.2 q.2
noncomputable def kV:Key->V
 | .inl i=> .int i
 | .inr x=> .str x
inductive HO where
 /-- a list -/
 |lst (xs:List V)
 /-- a tuple (never changes) -/
 |tup (xs:List V)
 /-- a dict whose keys are ints and texts; one whose keys are tuples of ints and texts (the empty one is both) -/
 |dK (kvs:List (Key×V))|dT (kvs:List (List Key×V))
 /-- a set of ints: its members, its size -/
 |set (S:Int->Bool) (n:Nat)
 /-- an instance of the class at C, its dict at dx, its attributes -/
 |ins (C dx:Addr) (fs:List (Str×V))
 /-- the dict of the instance at x -/
 |own (x:Addr)
 /-- the dict of an exception -/
 |xd (fs:List (Str×V))
 /-- a bound method, f of x -/
 |met (f x:Addr)
 /-- a range object lo, lo + 1, .. below hi -/
 |rng (lo hi:Int)
 /-- a thing that is known to the object (the script; a dict while a loop walks it): read, never written while it is so -/
 |frz (o:Obj) (u:HO)
 /-- a code object's table -/
 |tbl (ps:Array Value)
 /-- any other thing, by what is true of its one object (a def of one's own: SetO a S n := HO.ext fun h => ..) -/
 |ext (φ:Heap->Prop)
noncomputable abbrev Hp:=Addr->Option HO
noncomputable def upd (H:Hp)(a:Addr)(o:HO):Hp:=fun b=>if b=a then some o else H b
theorem zal:upd H a o a=some o:=by unfold upd;rw[if_pos rfl]
theorem zak (h:b≠a):upd H a o b=H b:=by unfold upd;rw[if_neg h]
theorem ne_of {o u:HO}(h:H a=some o)(h':H b=some u)(d:o≠u):a≠b:=by
 intro e;subst e;rw[h]at h';exact d (Option.some.inj h')
theorem zaH (h:H a=some o)(h':H b=none):a≠b:=by
 intro e;subst e;rw[h]at h';cases h'
section
variable (P:Program) (w:World)
noncomputable def ObjOk (H:Hp)(h:Heap)(a:Addr):HO->Prop
 | .lst xs=>xs.length<=sizeLine/\∃(its:List Value) (n:Nat),Vals xs its/\h.get? a=some {cls:= .type "list",data:= .seq its.toArray n}
 | .tup xs=>xs.length<=sizeLine/\∃its:List Value,Vals xs its/\IsTup h a its.toArray
 | .dK kvs=>kvs.length<=sizeLine/\(a==sysModules)=false/\∃vs,KV kvs vs/\h.DictOf (zbI P w) a vs
 | .dT kvs=>kvs.length<=sizeLine/\(a==sysModules)=false/\∃xs:List (List Key×Addr×Value),
   Paired (fun(p:List Key×V) (q:List Key×Addr×Value)=>p.1=q.1/\H q.2.1=some (.tup (p.1.map kV))/\RelV p.2 q.2.2) kvs xs/\
   ∃o es ep,h.get? a=some o/\o.ExactDict/\o.data= .dict es ep/\es.toList=xs.map (entryOfKey (tupleKind (zbI P w)))/\(xs.map (·.1)).Nodup
 | .set S n=>h.SetOf (intKind P w) a S n
 | .ins C dx fs=>H dx=some (.own a)/\fs.length<=1000/\dx≠a/\h.get? a=some (W.instObj C dx)/\
   ∃mA,h.Ns1 dx mA/\(∀f,RelO (fs.lookup f) (mA f))/\PySem.Within mA (fs.map (·.1))
 | .own _=>∃o,h.get? a=some o
 | .xd fs=>∃mA,h.Ns1 a mA/\∀f,RelO (fs.lookup f) (mA f)
 | .rng lo hi=>∃t u v,h.get? a=some {cls:= .type "range",data:= .fields #[.int lo t,.int hi u,.int 1 v]}
 | .frz o u=>h.get? a=some o/\ObjOk H h a u
 | .tbl ps=>h.get? a=some {cls:= .none,data:= .fields ps}
 | .met f x=>h.get? a=some (W.methodObj (.ref f) (.ref x))
 | .ext φ=>φ h/\(∃o,h.get? a=some o)/\∀h1 h2:Heap,φ h1->(∀o,h1.get? a=some o->h2.get? a=some o)->φ h2
noncomputable def HOk (H:Hp)(h:Heap):Prop:=∀a o,H a=some o->ObjOk P w H h a o
end
section
variable {P:Program} {w:World} {H H':Hp} {h h':Heap} {a:Addr} {o:HO}
theorem ObjOk.lt (x:ObjOk P w H h a o):a<h.objs.size:=by
 cases o with
 |lst xs=>obtain⟨_,_,_,_,e⟩:=x;exact qae e
 |tup xs=>obtain⟨_,_,_,p⟩:=x;exact p.lt
 |dK kvs=>obtain⟨_,_,_,_,o,_,_,e,_⟩:=x;exact qae e
 |dT kvs=>obtain⟨_,_,_,_,o,_,_,e,_⟩:=x;exact qae e
 |set S n=>obtain⟨o,_,_,_,e,_⟩:=x;exact qae e
 |ins C dx fs=>obtain⟨_,_,_,e,_⟩:=x;exact qae e
 |own y=>obtain⟨_,e⟩:=x;exact qae e
 |xd fs=>obtain⟨_,⟨_,_,_,e,_⟩,_⟩:=x;exact qae e
 |rng lo hi=>obtain⟨_,_,_,e⟩:=x;exact qae e
 |frz ob u=>obtain⟨e,_⟩:=x;exact qae e
 |tbl ps=>exact qae (show h.get? a=some _ from x)
 |met f y=>exact qae (show h.get? a=some _ from x)
 |ext φ=>obtain⟨_,⟨_,e⟩,_⟩:=x;exact qae e
theorem Paired.mapP {α β:Type}{F G:α->β->Prop}:∀{l₁:List α} {l₂:List β},Paired F l₁ l₂->(∀a b,F a b->G a b)->Paired G l₁ l₂
 |_,_,.nil,_=> .nil
 |_,_,.cons r t,f=> .cons (f _ _ r) (Paired.mapP t f)
theorem ObjOk.stay (x:ObjOk P w H h a o)(k:∀b u,(b=a\/H b=some (.own a))->h.get? b=some u->h'.get? b=some u)
  (ho:∀b,H b=some (.own a)->H' b=some (.own a)) (ht:∀b xs,H b=some (.tup xs)->H' b=some (.tup xs)):ObjOk P w H' h' a o:=by
 induction o with
 |lst xs=>obtain⟨z,its,n,r,e⟩:=x;exact⟨z,its,n,r,k _ _ (.inl rfl) e⟩
 |tup xs=>obtain⟨z,its,r,ob,e,c⟩:=x;exact⟨z,its,r,ob,k _ _ (.inl rfl) e,c⟩
 |dK kvs=>obtain⟨z,y,vs,r,ob,es,ep,e,c⟩:=x;exact⟨z,y,vs,r,ob,es,ep,k _ _ (.inl rfl) e,c⟩
 |dT kvs=>
  obtain⟨z,y,xs,r,ob,es,ep,e,c⟩:=x;exact⟨z,y,xs,Paired.mapP r fun p q z=>⟨z.1,ht _ _ z.2.1,z.2.2⟩,ob,es,ep,k _ _ (.inl rfl) e,c⟩
 |set S n=>obtain⟨ob,es,ep,t,e,c⟩:=x;exact⟨ob,es,ep,t,k _ _ (.inl rfl) e,c⟩
 |ins C dx fs=>
  obtain⟨d,z,ne,e,mA,⟨od,es,ep,e2,c⟩,r⟩:=x;exact⟨ho _ d,z,ne,k _ _ (.inl rfl) e,mA,⟨od,es,ep,k _ _ (.inr d) e2,c⟩,r⟩
 |own y=>obtain⟨ob,e⟩:=x;exact⟨ob,k _ _ (.inl rfl) e⟩
 |xd fs=>obtain⟨mA,⟨od,es,ep,e,c⟩,r⟩:=x;exact⟨mA,⟨od,es,ep,k _ _ (.inl rfl) e,c⟩,r⟩
 |rng lo hi=>obtain⟨t,u,v,e⟩:=x;exact⟨t,u,v,k _ _ (.inl rfl) e⟩
 |frz ob u ih=>obtain⟨e,q⟩:=x;exact⟨k _ _ (.inl rfl) e,ih q⟩
 |tbl ps=>
  have e:h.get? a=some {cls:= .none,data:= .fields ps}:=x;show h'.get? a=some {cls:= .none,data:= .fields ps};exact k a _ (.inl rfl) e
 |met f y=>
  have e:h.get? a=some (W.methodObj (.ref f) (.ref y)):=x;show h'.get? a=some (W.methodObj (.ref f) (.ref y));exact k a _ (.inl rfl) e
 |ext φ=>obtain⟨p,⟨o,e⟩,st⟩:=x;exact⟨st _ _ p fun o q=>k _ _ (.inl rfl) q,⟨o,k _ _ (.inl rfl) e⟩,st⟩
theorem HOk.lt (x:HOk P w H h)(e:H a=some o):a<h.objs.size:=(x a o e).lt
theorem HOk.fresh (x:HOk P w H h)(e:h.objs.size<=a):H a=none:=by
 cases q:H a with
 |none=>rfl
 |some u=>exact absurd (qaf (x.lt q) e) (qag _)
theorem HOk.kept (x:HOk P w H h)(k:∀b u,h.get? b=some u->h'.get? b=some u):HOk P w H h':=fun a o e=>
 (x a o e).stay (fun b u _ q=>k b u q) (fun _ q=>q) fun _ _ q=>q
theorem HOk.laid (x:HOk P w H h)(k:∀b u,h.get? b=some u->h'.get? b=some u)(hp:h.objs.size<=a)(new:ObjOk P w (upd H a o) h' a o):HOk P w (upd H a o) h':=fun b u e=>by
 have hn:=x.fresh hp
 by_cases hb:b=a
 ·subst hb;rw[zal]at e;cases e;exact new
 ·rw[zak hb]at e;exact(x b u e).stay (fun c v _ q=>k c v q) (fun c q=>by rw[zak (zaH q hn)];exact q) fun c xs q=>by rw[zak (zaH q hn)];exact q
end
noncomputable def Rd (H:Hp)(a:Addr)(u:HO):Prop:=H a=some u\/∃o,H a=some (.frz o u)
theorem Rd.ok {P:Program}{u:HO}(r:Rd H a u)(x:HOk P w H h):ObjOk P w H h a u:=by
 rcases r with r|⟨o,r⟩
 ·exact x a u r
 ·obtain⟨_,q⟩:=x a _ r;exact q
noncomputable def Mut:Option HO->Prop
 |some (.lst _)=>True
 |some (.dK _)=>True
 |some (.dT _)=>True
 |some (.set _ _)=>True
 |some (.ins _ _ _)=>True
 |some (.ext _)=>True
 |_=>False
section
variable {P:Program} {w:World} {H:Hp} {h h':Heap} {x e:Addr} {o':HO}
theorem HOk.write (ok:HOk P w H h)(mu:Mut (H x))(he:e=x\/H e=some (.own x))(k:∀b u,b≠e->h.get? b=some u->h'.get? b=some u)(heo:∃u,h'.get? e=some u)
  (new:ObjOk P w (upd H x o') h' x o'):HOk P w (upd H x o') h':=fun b u q=>by
 have nown:∀c y,H c=some (.own y)->c≠x:=fun c y r z=>by subst z;rw[r]at mu;exact mu
 have ntup:∀c xs,H c=some (.tup xs)->c≠x:=fun c xs r z=>by subst z;rw[r]at mu;exact mu
 by_cases hb:b=x
 ·subst hb;rw[zal]at q;cases q;exact new
 ·rw[zak hb]at q
  by_cases hbe:b=e
  ·have q':H b=some (.own x):=by
    rcases he with z|z
    ·exact absurd (hbe.trans z) hb
    ·rw[hbe];exact z
   rw[q]at q';cases q';obtain⟨v,hv⟩:=heo;exact⟨v,by rw[hbe];exact hv⟩
  ·refine(ok b u q).stay (fun c v hc r=>k c v ?_ r) (fun c r=>by rw[zak (nown c b r)];exact r) fun c xs r=>by rw[zak (ntup c xs r)];exact r
   rcases hc with rfl|hc
   ·exact hbe
   ·rintro rfl;rcases he with z|z
    ·exact nown c b hc z
    ·rw[hc]at z;cases z;exact hb rfl
end
structure Un (fs ex:List Addr) (H H':Hp) (h h':Heap):Prop where
 keep:∀b o,h.get? b=some o->H b=none->b∉fs->b∉ex->h'.get? b=some o
 slot:∀b o,h.get? b=some o->H b=none->b∈fs->b∉ex->∃sl,h'.get? b=some {o with slots:=sl}
 free:∀b o,h.get? b=some o->H b=none->b∉ex->H' b=none
 there:∀b o,h.get? b=some o->b∉ex->∃o',h'.get? b=some o'
 tups:∀b xs,H b=some (.tup xs)->H' b=some (.tup xs)
 frzs:∀b o u,H b=some (.frz o u)->H' b=some (.frz o u)
 tbls:∀b ps,H b=some (.tbl ps)->∃more,H' b=some (.tbl (ps++more))
section
variable {fs fs' ex ex':List Addr} {H H1 H2:Hp} {h h1 h2 h':Heap} {a x e:Addr} {o:HO}
theorem Un.any (u:Un fs ex H H1 h h1){ob:Obj}(q:h.get? b=some ob)(n:H b=none)(hx:b∉ex):∃sl,h1.get? b=some {ob with slots:=sl}:=by
 by_cases hb:b∈fs
 ·exact u.slot b ob q n hb hx
 ·exact⟨ob.slots,u.keep b ob q n hb hx⟩
theorem Un.kept (k:∀b u,h.get? b=some u->h'.get? b=some u):Un fs ex H H h h':=
 ⟨fun b ob q _ _ _=>k b ob q,fun b ob q _ _ _=>⟨ob.slots,k b ob q⟩,fun _ _ _ n _=>n,fun b ob q _=>⟨ob,k b ob q⟩,fun _ _ q=>q,fun _ _ _ q=>q,fun _ ps q=>⟨#[],by rw[q];simp⟩⟩
theorem Un.refl:Un fs ex H H h h:=Un.kept fun _ _ q=>q
theorem Un.laid (k:∀b u,h.get? b=some u->h'.get? b=some u)(hp:h.objs.size<=a)(hn:H a=none):Un fs ex H (upd H a o) h h' where
 keep:=fun b u q _ _ _=>k b u q
 slot:=fun b u q _ _ _=>⟨u.slots,k b u q⟩
 free:=fun b u q n _=>by rw[zak (qah (qaf (qae q) hp))];exact n
 there:=fun b u q _=>⟨u,k b u q⟩
 tups:=fun b xs q=>by rw[zak (zaH q hn)];exact q
 frzs:=fun b u xs q=>by rw[zak (zaH q hn)];exact q
 tbls:=fun b ps q=>⟨#[],by rw[zak (zaH q hn),q];simp⟩
theorem Un.write (mu:Mut (H x))(he:e=x\/H e=some (.own x))(k:∀b u,b≠e->h.get? b=some u->h'.get? b=some u)(heo:∃u,h'.get? e=some u):Un fs ex H (upd H x o) h h':=by
 have hx:∀b,H b=none->b≠x:=fun b n z=>by subst z;rw[n]at mu;exact mu
 have hb:∀b,H b=none->b≠e:=fun b n z=>by
  subst z;rcases he with r|r
  ·exact hx b n r
  ·rw[n]at r;cases r
 have hm:∀b u,H b=some u->¬Mut (some u)->b≠x:=fun b u q nm z=>by subst z;rw[q]at mu;exact nm mu
 refine⟨fun b u q n _ _=>k b u (hb b n) q,fun b u q n _ _=>⟨u.slots,k b u (hb b n) q⟩,fun b u q n _=>by rw[zak (hx b n)];exact n,fun b u q _=>?_,
  fun b xs q=>by rw[zak (hm b _ q fun z=>z)];exact q,fun b u xs q=>by rw[zak (hm b _ q fun z=>z)];exact q,fun b ps q=>⟨#[],by rw[zak (hm b _ q fun z=>z),q];simp⟩⟩
 by_cases hbe:b=e
 ·subst hbe;exact heo
 ·exact⟨u,k b u hbe q⟩
end
noncomputable def trk (h:Heap)(H:Hp):List Addr:=(List.range h.objs.size).filter fun a=>(H a).isSome
noncomputable def hidT (h:Heap)(H:Hp):Heap:=W.hideAll h (trk h H)
theorem znK (h:Heap)(H:Hp):(hidT h H).objs.size=h.objs.size:=W.hideAll_size _ _
theorem hidT_get {o:Obj}(e:h.get? b=some o)(n:H b=none):(hidT h H).get? b=some o:=
 qai _ e fun hm=>by
  have q:(H b).isSome=true:=(List.mem_filter.mp hm).2;rw[n]at q;simp at q
theorem of_hidT {o:Obj}(e:(hidT h H).get? b=some o):h.get? b=some o/\H b=none:=by
 have e':h.get? b=some o:=W.of_hideAll (trk h H) e;refine⟨e',?_⟩;cases q:H b with
 |none=>rfl
 |some x=>
  have hm:b∈trk h H:=List.mem_filter.mpr ⟨qaj.mpr (qae e'),by simp[q]⟩;have z:(hidT h H).get? b=none:=qak (trk h H) hm;rw[z]at e;cases e
noncomputable def allNews (g h:Heap)(L:Addr):List (Addr×Obj):=(List.range h.objs.size).filterMap fun a=>if a=L\/(g.get? a).isSome=true then none else(h.get? a).map fun o=>(a,o)
noncomputable def rest (g h:Heap)(L d:Addr):List (Addr×Obj):=(allNews g h L).filter fun p=>decide (p.1≠d)
structure Mod (K:W.Frag) (mg:Str->Option Value) (base:Heap):Prop where
 kin:K.In base
 glob:base.Ns mainGlobals mg
 blt:∃mb,base.Ns builtinsNs mb/\∀x:Str,x≠"__name__"->mb x=bootBuiltins x
 nolimit:base.NoLimit
structure Cx where
 prog:Program
 w:World
 K:W.Frag
 mg:Str->Option Value
 base:Heap
 A:Around
 N:List Str
 s₀:Shared
 H₀:Hp
 env:Env
 outer:List Env
 stack:List Env
 ex:List Addr
 fn:Str->Bool
 calm:Bool
 pn:List (Addr×Obj)
 xe:Value->Shared->Prop
noncomputable def frs (l:List Env):List Addr:=l.filterMap (·.frame)
noncomputable abbrev Cx.fs (X:Cx):List Addr:=frs X.outer
noncomputable def Vis (sc:Scope)(x:Str):Prop:=sc.names.lookup x=some .local\/sc.names.lookup x=some .cell\/sc.names.lookup x=some .free
noncomputable def Loc (sc:Scope)(x:Str):Prop:=sc.names.lookup x=some .local\/sc.names.lookup x=some .cell
noncomputable def Look (env:Env)(h:Heap)(m:Str->Option Value)(x:Str)(u:Value):Prop:=
 (env.kindOf x=some .local/\m x=some u)\/((env.kindOf x=some .cell\/env.kindOf x=some .free)/\∃c,env.cells.lookup x=some c/\h.IsCell c (some u))
structure Cx.Ok (X:Cx):Prop where
 mod:Mod X.K X.mg X.base
 kind:X.env.scope.kind= .function
 glob:X.env.globals=mainGlobals
 blt:X.env.builtins=builtinsNs
 above:X.s₀.heap.objs.size<=X.env.locals
 inj:∀x y c,X.env.cells.lookup x=some c->X.env.cells.lookup y=some c->x=y
 has:∀x,(X.env.kindOf x=some .cell\/X.env.kindOf x=some .free)->∃c,X.env.cells.lookup x=some c
 cab:∀x c,X.fn x=true->X.env.cells.lookup x=some c->X.s₀.heap.objs.size<=c
 hd:X.calm=true->X.A.handled=none
 frames:X.A.frames=some X.stack
 stk:X.stack=X.outer\/(X.stack=X.env::X.outer/\X.env.frame=some X.env.locals)
 exf:∀b∈X.ex,b≠X.env.locals/\∀x c,X.env.cells.lookup x=some c->c≠b
 bs:∀b o,X.base.get? b=some o->X.s₀.heap.get? b=some o/\X.H₀ b=none
 bsz:X.base.objs.size<=X.s₀.heap.objs.size
 noex:∀b o,X.base.get? b=some o->b∉X.ex
 exfs:∀b∈X.ex,b∉X.fs
 funs:X.s₀.heap.FunFrames X.base X.outer
 frf:∀b∈X.fs,X.H₀ b=none
structure Inv (X:Cx) (pins:List (Addr×Obj)) (σ:List (Option V)) (H:Hp) (s:Shared):Prop where
 ok:X.Ok
 os:s.os=X.s₀.os
 bare:AllBare s.gens
 base:Un X.fs X.ex X.H₀ H X.s₀.heap s.heap
 loc:∃m,s.heap.Ns X.env.locals m/\∀(i:Nat) (x:Str) (v:V),X.N[i]? =some x->σ[i]? =some (some v)->Vis X.env.scope x->∃u,RelV v u/\Look X.env s.heap m x u
 cell:∀x c,X.env.cells.lookup x=some c->∃v,s.heap.IsCell c v
 free:H X.env.locals=none
 freeC:∀x c,X.env.cells.lookup x=some c->H c=none
 pin:∀p∈X.pn++pins,s.heap.get? p.1=some p.2/\H p.1=none/\p.1≠X.env.locals/\p.1∉X.fs/\∀v,p.2.data≠ .cell v
 hok:HOk X.prog X.w H s.heap
 len:σ.length=X.N.length
section
variable {X:Cx} {pins:List (Addr×Obj)} {σ:List (Option V)} {H H':Hp} {s:Shared} {h':Heap}
theorem Cx.Ok.nofr (ok:X.Ok){o:Obj}(e:X.base.get? b=some o):b∉X.fs:=fun hb=>by
 have:=(ok.funs.mem hb).1;rw[e]at this;cases this
theorem Inv.bs (I:Inv X pins σ H s):∀b o,X.base.get? b=some o->s.heap.get? b=some o/\H b=none:=fun b o e=>
 ⟨I.base.keep b o (I.ok.bs b o e).1 (I.ok.bs b o e).2 (I.ok.nofr e) (I.ok.noex b o e),I.base.free b o (I.ok.bs b o e).1 (I.ok.bs b o e).2 (I.ok.noex b o e)⟩
theorem Inv.bk (I:Inv X pins σ H s):∀b o,X.base.get? b=some o->s.heap.get? b=some o:=fun b o e=>(I.bs b o e).1
theorem Inv.mod (I:Inv X pins σ H s):Mod X.K X.mg X.base:=I.ok.mod
theorem Inv.kIn (I:Inv X pins σ H s):X.K.In s.heap:=I.ok.mod.kin.keeps I.bk
theorem Inv.fr (I:Inv X pins σ H s):∃m,Fr X.base X.env.locals s.heap m:=
 let⟨m,hn,_⟩:=I.loc
 ⟨m,hn,I.bk,qal I.ok.bsz I.ok.above⟩
theorem Inv.lt (I:Inv X pins σ H s):X.env.locals<s.heap.objs.size:=let⟨_,hn,_⟩:=I.loc;hn.lt
theorem Inv.sz (I:Inv X pins σ H s):X.s₀.heap.objs.size<=s.heap.objs.size:=qal I.ok.above (qam I.lt)
theorem Inv.nofs (I:Inv X pins σ H s)(h:s.heap.objs.size<=a):a∉X.fs:=fun hb=>by
 obtain⟨_,o,ho,_⟩:=I.ok.funs.mem hb;exact absurd (qaf (qae ho) (qal I.sz h)) (qag _)
theorem Inv.cne (I:Inv X pins σ H s):∀x c,X.env.cells.lookup x=some c->c≠X.env.locals:=fun x c e z=>by
 obtain⟨v,o,ho,hd⟩:=I.cell x c e;obtain⟨m,⟨o',es,ep,ho',hd',_⟩,_⟩:=I.loc;rw[z,ho']at ho;cases ho;rw[hd']at hd;cases hd
theorem Inv.funs (I:Inv X pins σ H s):s.heap.FunFrames X.base X.outer:=by
 have all:∀(l:List Env),(∀b∈frs l,b∈X.fs)->X.s₀.heap.FunFrames X.base l->s.heap.FunFrames X.base l:=by
  intro l
  induction l with
  |nil=>intro _ _;trivial
  |cons env r ih=>
   intro hs hl;obtain⟨hk,⟨L,o,hf,hn,ho,hd⟩,hr⟩:=hl;have hL:L∈X.fs:=hs L (by unfold frs;rw[qan,hf];exact qao);obtain⟨sl,e⟩:=I.base.slot L o ho (I.ok.frf L hL) hL fun z=>I.ok.exfs L z hL
   exact⟨hk,⟨L,_,hf,hn,e,hd⟩,ih (fun b hb=>hs b (by unfold frs;rw[qan,hf];exact qap _ hb)) hr⟩
 exact all X.outer (fun _ hb=>hb) I.ok.funs
theorem Inv.stack (I:Inv X pins σ H s):s.heap.FunFrames X.base X.stack:=by
 rcases I.ok.stk with e|⟨e,hf⟩
 ·rw[e];exact I.funs
 ·rw[e];obtain⟨m,hn,_⟩:=I.loc;refine .cons (by rw[I.ok.kind];decide) hf hn ?_ I.funs;exact Heap.get?_none_of_le (qal I.ok.bsz I.ok.above)
theorem Inv.stkSub (I:Inv X pins σ H s):∀b∈frs X.stack,b∈X.env.locals::X.fs:=fun b hb=>by
 rcases I.ok.stk with e|⟨e,hf⟩
 ·rw[e]at hb;exact qap _ hb
 ·rw[e]at hb;unfold frs at hb;rw[qan,hf]at hb;exact hb
theorem Inv.stkFree (I:Inv X pins σ H s):∀b∈frs X.stack,H b=none:=fun b hb=>by
 rcases qaq.mp (I.stkSub b hb)with e|hb
 ·rw[e];exact I.free
 ·obtain⟨_,o,ho,_⟩:=I.ok.funs.mem hb;exact I.base.free b o ho (I.ok.frf b hb) fun z=>I.ok.exfs b z hb
theorem Inv.step (I:Inv X pins σ H s)
  (hch:∀b∈ch,(b∈X.ex\/X.s₀.heap.objs.size<=b)/\b≠X.env.locals/\(∀x c,X.env.cells.lookup x=some c->c≠b)/\∀p∈X.pn++pins,p.1≠b)
  (keep:∀b o,b≠X.env.locals->b∉X.fs->b∉ch->s.heap.get? b=some o->H b=none->h'.get? b=some o)
  (slot:∀b o,b≠X.env.locals->b∈X.fs->b∉ch->s.heap.get? b=some o->H b=none->∃sl,h'.get? b=some {o with slots:=sl}) (free:∀b o,b∉ch->s.heap.get? b=some o->H b=none->H' b=none)
  (there:∀b o,b∉ch->s.heap.get? b=some o->∃o',h'.get? b=some o')
  (tups:∀b xs,H b=some (.tup xs)->H' b=some (.tup xs)) (frzs:∀b o u,H b=some (.frz o u)->H' b=some (.frz o u)) (tbls:∀b ps,H b=some (.tbl ps)->∃more,H' b=some (.tbl (ps++more)))
  (ns:∀m,s.heap.Ns X.env.locals m->h'.Ns X.env.locals m) (hok:HOk X.prog X.w H' h') (hg:AllBare g'):
  Inv X pins σ H' {s with heap:=h',gens:=g',drawn:=d',toks:=t'}:=by
 have neL:∀b o,X.s₀.heap.get? b=some o->b≠X.env.locals:=fun b o e=>qah (qaf (qae e) I.ok.above)
 have neC:∀b o,X.s₀.heap.get? b=some o->b∉X.ex->b∉ch:=fun b o e hx hb=>by
  rcases(hch b hb).1 with z|z
  ·exact hx z
  ·exact absurd (qaf (qae e) z) (qag _)
 have cellK:∀x c,X.env.cells.lookup x=some c->∀v,s.heap.IsCell c v->h'.IsCell c v:=fun x c e v ⟨o,ho,hd⟩=>by
  have nch:c∉ch:=fun z=>(hch c z).2.2.1 x c e rfl
  by_cases hc:c∈X.fs
  ·obtain⟨sl,q⟩:=slot c o (I.cne x c e) hc nch ho (I.freeC x c e);exact⟨_,q,hd⟩
  ·exact⟨o,keep c o (I.cne x c e) hc nch ho (I.freeC x c e),hd⟩
 refine⟨I.ok,I.os,hg,⟨fun b o e n hb hx=>?_,fun b o e n hb hx=>?_,fun b o e n hx=>?_,fun b o e hx=>?_,fun b xs e=>tups b xs (I.base.tups b xs e),fun b o xs e=>frzs b o xs (I.base.frzs b o xs e),fun b ps e=>?_⟩,?_,fun x c e=>?_,?_,fun x c e=>?_,fun p hp=>?_,hok,I.len⟩
 ·exact keep b o (neL b o e) hb (neC b o e hx) (I.base.keep b o e n hb hx) (I.base.free b o e n hx)
 ·obtain⟨sl,e1⟩:=I.base.slot b o e n hb hx;obtain⟨sl',e2⟩:=slot b _ (neL b o e) hb (neC b o e hx) e1 (I.base.free b o e n hx);exact⟨sl',e2⟩
 ·obtain⟨o',e1⟩:=I.base.there b o e hx;exact free b o' (neC b o e hx) e1 (I.base.free b o e n hx)
 ·obtain⟨o',e1⟩:=I.base.there b o e hx;exact there b o' (neC b o e hx) e1
 ·obtain⟨m1,e1⟩:=I.base.tbls b ps e;obtain⟨m2,e2⟩:=tbls b _ e1;exact⟨m1++m2,by rw[e2,Array.append_assoc]⟩
 ·obtain⟨m,hn,hl⟩:=I.loc;refine⟨m,ns m hn,fun i x v e1 e2 e3=>?_⟩;obtain⟨u,r,l⟩:=hl i x v e1 e2 e3;refine⟨u,r,?_⟩;rcases l with l|⟨k,c,e,z⟩
  ·exact .inl l
  ·exact .inr ⟨k,c,e,cellK x c e _ z⟩
 ·obtain⟨v,z⟩:=I.cell x c e;exact⟨v,cellK x c e v z⟩
 ·obtain⟨m,⟨o,_,_,ho,_⟩,_⟩:=I.loc;exact free _ o (fun z=>(hch _ z).2.1 rfl) ho I.free
 ·obtain⟨v,o,ho,hd⟩:=I.cell x c e;exact free c o (fun z=>(hch c z).2.2.1 x c e rfl) ho (I.freeC x c e)
 ·obtain⟨e,n,ne,nf,d⟩:=I.pin p hp;have nch:p.1∉ch:=fun z=>(hch p.1 z).2.2.2 p hp rfl
  exact⟨keep p.1 p.2 ne nf nch e n,free p.1 p.2 nch e n,ne,nf,d⟩
theorem Inv.un (I:Inv X pins σ H s)(u:Un X.fs [] H H' s.heap h')(hok:HOk X.prog X.w H' h'):Inv X pins σ H' {s with heap:=h',toks:=t'}:=by
  obtain⟨m,⟨o,es,ep,ho,r⟩,_⟩:=id I.loc;obtain⟨sl,hL⟩:=u.any ho I.free (by simp);exact I.step (g':=s.gens) (d':=s.drawn) (ch:=[]) (fun _ z=>nomatch z) (fun b o _ hb _ e n=>u.keep b o e n hb (by simp)) (fun b o _ hb _ e n=>u.slot b o e n hb (by simp)) (fun b o _ e n=>u.free b o e n (by simp)) (fun b o _ e=>u.there b o e (by simp)) u.tups u.frzs u.tbls (fun m' hm=>by
    obtain⟨o',es',ep',ho',r'⟩:=hm;rw[ho]at ho';cases ho';exact⟨_,es',ep',hL,r'⟩) hok I.bare
theorem Inv.call {ch:List Addr}(I:Inv X pins σ H s)(u:Un (frs X.stack) ch H H' s.heap h')(hok:HOk X.prog X.w H' h')(hg:AllBare g')
  (hch:∀b∈ch,(b∈X.ex\/X.s₀.heap.objs.size<=b)/\b≠X.env.locals/\(∀x c,X.env.cells.lookup x=some c->c≠b)/\∀p∈X.pn++pins,p.1≠b):
  Inv X pins σ H' {s with heap:=h',gens:=g',drawn:=d',toks:=t'}:=by
 obtain⟨m,⟨o,es,ep,ho,r⟩,_⟩:=id I.loc;obtain⟨sl,hL⟩:=u.any ho I.free fun z=>(hch _ z).2.1 rfl
 exact I.step (ch:=ch) hch (fun b o hL hb hc e n=>u.keep b o e n (fun z=>(qaq.mp (I.stkSub b z)).elim hL hb) hc) (fun b o _ _ hc e n=>u.any e n hc) (fun b o hc e n=>u.free b o e n hc) (fun b o hc e=>u.there b o e hc) u.tups u.frzs u.tbls (fun m' hm=>by
  obtain⟨o',es',ep',ho',r'⟩:=hm;rw[ho]at ho';cases ho';exact⟨_,es',ep',hL,r'⟩) hok hg
theorem Inv.turned (I:Inv X pins σ H s)(k:∀b o,b≠it->s.heap.get? b=some o->h'.get? b=some o)(hn:H it=none)(hL:it≠X.env.locals)
  (h1:it∈X.ex\/X.s₀.heap.objs.size<=it) (h2:∀x c,X.env.cells.lookup x=some c->c≠it) (h3:∀p∈X.pn++pins,p.1≠it):Inv X pins σ H {s with heap:=h',toks:=t'}:=by
 have nit:∀b u,H b=some u->b≠it:=fun b u e z=>by rw[z,hn]at e;cases e
 refine I.step (g':=s.gens) (d':=s.drawn) (ch:=[it]) (fun b hb=>?_) (fun b o _ _ hc e _=>k b o (fun z=>hc (by simp[z])) e) (fun b o _ _ hc e _=>⟨o.slots,k b o (fun z=>hc (by simp[z])) e⟩) (fun _ _ _ _ n=>n)
  (fun b o hc e=>⟨o,k b o (fun z=>hc (by simp[z])) e⟩) (fun _ _ e=>e) (fun _ _ _ e=>e) (fun b ps e=>⟨#[],by rw[e];simp⟩) (fun m hm=>?_) (fun b u e=>?_) I.bare
 ·have e:b=it:=by simpa using hb
  subst e;exact⟨h1,hL,h2,h3⟩
 ·obtain⟨o,es,ep,ho,r⟩:=hm;exact⟨o,es,ep,k _ o (Ne.symm hL) ho,r⟩
 ·refine(I.hok b u e).stay (fun c v hc q=>k c v ?_ q) (fun _ q=>q) fun _ _ q=>q
  rcases hc with z|z
  ·rw[z];exact nit b u e
  ·exact nit c _ z
theorem Inv.tok (I:Inv X pins σ H s)(t:Nat):Inv X pins σ H {s with toks:=t}:=I.un (h':=s.heap) (t':=t) Un.refl I.hok
theorem Inv.kept (I:Inv X pins σ H s)(k:∀b u,s.heap.get? b=some u->h'.get? b=some u):Inv X pins σ H {s with heap:=h',toks:=t'}:=I.un (Un.kept k) (I.hok.kept k)
theorem Inv.laid (I:Inv X pins σ H s)(k:∀b u,s.heap.get? b=some u->h'.get? b=some u)(hp:s.heap.objs.size<=a)(new:ObjOk X.prog X.w (upd H a o) h' a o):
  Inv X pins σ (upd H a o) {s with heap:=h',toks:=t'}:=I.un (Un.laid k hp (I.hok.fresh hp)) (I.hok.laid k hp new)
theorem Inv.write {x e:Addr}(I:Inv X pins σ H s)(mu:Mut (H x))(he:e=x\/H e=some (.own x))(k:∀b u,b≠e->s.heap.get? b=some u->h'.get? b=some u)(heo:∃u,h'.get? e=some u)
  (new:ObjOk X.prog X.w (upd H x o) h' x o):Inv X pins σ (upd H x o) {s with heap:=h',toks:=t'}:=I.un (Un.write mu he k heo) (I.hok.write mu he k heo new)
theorem Inv.pins_of (I:Inv X pins σ H s)(h:∀p∈pins',s.heap.get? p.1=some p.2/\H p.1=none/\p.1≠X.env.locals/\p.1∉X.fs/\∀v,p.2.data≠ .cell v):Inv X pins' σ H s:=
 ⟨I.ok,I.os,I.bare,I.base,I.loc,I.cell,I.free,I.freeC,fun p hp=>(qar.mp hp).elim (fun z=>I.pin p (qas _ z)) (h p),I.hok,I.len⟩
theorem ziU (hN:N.Nodup)(a:N[i]? =some x)(b:N[j]? =some x):i=j:=by
 obtain⟨h1,e1⟩:=qat.mp a;obtain⟨h2,e2⟩:=qat.mp b;exact(List.getElem_inj hN).mp (e1.trans e2.symm)
theorem zoZ {M:Model}{Q:Unit->Shared->Prop}(I:Inv X pins σ H s)(hN:X.N.Nodup)(hi:X.N[i]? =some x)(hx:Loc X.env.scope x)(r:RelV v u)
    (h:∀s',Inv X pins (σ.set i (some v)) H s'->(∃a,Heap.SameBut a s.heap s'.heap/\(a=X.env.locals\/X.env.cells.lookup x=some a))->Q () s') (hf:autoParam (X.fn x=true\/X.env.scope.names.lookup x=some .local) zu0._auto_1):wpAny M A (storeName X.env x u) Q E s:=by
  obtain⟨m,hn,hl⟩:=id I.loc;have hcls:(X.env.scope.kind== .class||(X.env.scope.kind== .module&&X.env.locals !=X.env.globals))=false:=by rw[I.ok.kind];rfl
  have hiσ:i<σ.length:=by rw[I.len];exact(qat.mp hi).1
  have cne:=I.cne;have tracked:∀{a:Addr} {h':Heap},(∃o,s.heap.get? a=some o/\H a=none)->Heap.SameBut a s.heap h'->HOk X.prog X.w H h':=fun{a h'} ha hs b ob e=>by
    obtain⟨_,_,hfree⟩:=ha;refine(I.hok b ob e).stay (fun c w' hc q=>(hs.2 c ?_).trans q) (fun _ q=>q) fun _ _ q=>q
    rintro rfl;rcases hc with rfl|hc
    . rw[hfree]at e;cases e
    . rw[hfree]at hc;cases hc
  rcases hx with hk|hk
  . refine wpAny_storeName_local hk hn (fun h' hn' hs=>?_) hcls
    obtain⟨oL,_,_,hoL,_⟩:=id hn;refine h _ ⟨I.ok,I.os,I.bare,⟨fun b o e n hb hx=>?_,fun b o e n hb hx=>?_,I.base.free,fun b o e hx=>?_,I.base.tups,I.base.frzs,I.base.tbls⟩,⟨_,hn',fun j y v' e1 e2 e3=>?_⟩,fun y c e=>?_,I.free,I.freeC,fun p hp=>?_,tracked ⟨oL,hoL,I.free⟩ hs,by simpa using I.len⟩ ⟨_,hs,.inl rfl⟩
    . exact(hs.2 b (qah (qaf (qae e) I.ok.above))).trans (I.base.keep b o e n hb hx)
    . obtain⟨sl,e1⟩:=I.base.slot b o e n hb hx
      exact⟨sl,(hs.2 b (qah (qaf (qae e) I.ok.above))).trans e1⟩
    . obtain⟨o',e1⟩:=I.base.there b o e hx
      exact⟨o',(hs.2 b (qah (qaf (qae e) I.ok.above))).trans e1⟩
    . by_cases hj:j=i
      . subst hj
        rw[hi]at e1;cases e1;rw[qau hiσ]at e2;cases e2;exact⟨u,r,.inl ⟨hk,by simp⟩⟩
      . rw[qav (Ne.symm hj)]at e2
        obtain⟨u',r',q⟩:=hl j y v' e1 e2 e3;refine⟨u',r',?_⟩;rcases q with⟨k,e⟩|⟨k,c,e,z⟩
        . refine .inl ⟨k,?_⟩
          have:y≠x:=fun e=>hj (ziU hN e1 (e ▸ hi))
          simp[this,e]
        . exact .inr ⟨k,c,e,z.sameBut hs (cne y c e)⟩
    . obtain⟨w',z⟩:=I.cell y c e
      exact⟨w',z.sameBut hs (cne y c e)⟩
    . obtain⟨e,n,ne,nf,d⟩:=I.pin p hp
      exact⟨(hs.2 p.1 ne).trans e,n,ne,nf,d⟩
  . have hfn:X.fn x=true:=by
      rcases hf with z|z
      . exact z
      . rw[z]at hk;cases hk
    obtain⟨c,hc⟩:=I.ok.has x (.inl hk);obtain⟨w',z⟩:=I.cell x c hc;refine wpAny_storeName_cell I.ok.kind hk hc z (fun h' hc' hs=>?_);obtain⟨oc,hoc,hocd⟩:=id z;refine h {s with heap:=h'} ⟨I.ok,I.os,I.bare,⟨fun b o e n hb hx=>?_,fun b o e n hb hx=>?_,I.base.free,fun b o e hx=>?_,I.base.tups,I.base.frzs,I.base.tbls⟩,⟨m,hn.sameBut hs (Ne.symm (cne x c hc)),fun j y v' e1 e2 e3=>?_⟩,fun y c' e=>?_,I.free,I.freeC,fun p hp=>?_,tracked ⟨oc,hoc,I.freeC x c hc⟩ hs,by simpa using I.len⟩ ⟨c,hs,.inr hc⟩
    . exact(hs.2 b (qah (qaf (qae e) (I.ok.cab x c hfn hc)))).trans (I.base.keep b o e n hb hx)
    . obtain⟨sl,e1⟩:=I.base.slot b o e n hb hx
      exact⟨sl,(hs.2 b (qah (qaf (qae e) (I.ok.cab x c hfn hc)))).trans e1⟩
    . obtain⟨o',e1⟩:=I.base.there b o e hx
      exact⟨o',(hs.2 b (qah (qaf (qae e) (I.ok.cab x c hfn hc)))).trans e1⟩
    . by_cases hj:j=i
      . subst hj
        rw[hi]at e1;cases e1;rw[qau hiσ]at e2;cases e2;exact⟨u,r,.inr ⟨.inl hk,c,hc,hc'⟩⟩
      . rw[qav (Ne.symm hj)]at e2
        obtain⟨u',r',q⟩:=hl j y v' e1 e2 e3;refine⟨u',r',?_⟩;rcases q with q|⟨k,c',e,z'⟩
        . exact .inl q
        . refine .inr ⟨k,c',e,z'.sameBut hs ?_⟩
          rintro rfl;exact hj (ziU hN e1 (I.ok.inj _ _ _ e hc ▸ hi))
    . by_cases hcc:c'=c
      . subst hcc;exact⟨_,hc'⟩
      . obtain⟨w2,z2⟩:=I.cell y c' e
        exact⟨w2,z2.sameBut hs hcc⟩
    . obtain⟨e,n,ne,nf,d⟩:=I.pin p hp
      refine⟨(hs.2 p.1 ?_).trans e,n,ne,nf,d⟩;intro q;rw[q,hoc]at e;have q':oc=p.2:=Option.some.inj e;exact d w' (by rw[<-q'];exact hocd)
theorem zi6 {M:Model}{Q:Unit->Shared->Prop}(I:Inv X pins σ H s)(hN:X.N.Nodup)(hi:X.N[i]? =some x)(hx:Loc X.env.scope x)(r:RelV v u)
  (h:∀s',Inv X pins (σ.set i (some v)) H s'->Q () s') (hf:autoParam (X.fn x=true\/X.env.scope.names.lookup x=some .local) zu0._auto_1):wpAny M A (storeName X.env x u) Q E s:=
 zoZ I hN hi hx r (fun s' I' _=>h s' I') hf
theorem Inv.call' (I:Inv X pins σ H s)(ho:s'.os=s.os)(u:Un (frs X.stack) ch H H' s.heap s'.heap)(hok:HOk X.prog X.w H' s'.heap)(hg:AllBare s'.gens)
  (hch:∀b∈ch,(b∈X.ex\/X.s₀.heap.objs.size<=b)/\b≠X.env.locals/\(∀x c,X.env.cells.lookup x=some c->c≠b)/\∀p∈X.pn++pins,p.1≠b):Inv X pins σ H' s':=by
 obtain⟨h',g',d',t',o'⟩:=s';have e:o'=s.os:=ho;subst e;exact I.call (g':=g') (t':=t') (d':=d') u hok hg hch
end
noncomputable abbrev XK:=Value->Option Addr->Hp->Prop
noncomputable abbrev St:=List (Option V)
noncomputable abbrev VK:=V->Hp->Prop
noncomputable abbrev TE:=St->Hp->VK->Prop
noncomputable abbrev TT:=St->Hp->(Bool->Hp->Prop)->Prop
noncomputable abbrev TA:=St->Hp->(List V->Hp->Prop)->Prop
structure Ends where
 nx:St->Hp->Prop
 rt:VK
 bk:St->Hp->Prop:=fun _ _=>False
 ct:St->Hp->Prop:=fun _ _=>False
noncomputable abbrev TS:=Ends->St->Hp->Prop
noncomputable def EP (X:Cx)(pins:List (Addr×Obj))(σ:St)(Q:VK)(u:Value)(s':Shared):Prop:=∃v H',Inv X pins σ H' s'/\RelV v u/\Q v H'
noncomputable def TP (X:Cx)(pins:List (Addr×Obj))(σ:St)(Q:Bool->Hp->Prop)(b:Bool)(s':Shared):Prop:=∃H',Inv X pins σ H' s'/\Q b H'
noncomputable def AP (X:Cx)(pins:List (Addr×Obj))(σ:St)(Q:List V->Hp->Prop)(us:List Value)(s':Shared):Prop:=∃vs H',Inv X pins σ H' s'/\Vals vs us/\Q vs H'
noncomputable def SP (X:Cx)(pins:List (Addr×Obj))(D:Ends)(f:Flow)(s':Shared):Prop:=
 match f with
 | .next=>∃σ' H',Inv X pins σ' H' s'/\D.nx σ' H'
 | .brk=>∃σ' H',Inv X pins σ' H' s'/\D.bk σ' H'
 | .cont=>∃σ' H',Inv X pins σ' H' s'/\D.ct σ' H'
 | .ret u=>∃v σ' H',Inv X pins σ' H' s'/\RelV v u/\D.rt v H'
noncomputable def PE (X:Cx)(e:Expr)(t:TE):Prop:=
 ∀(pins:List (Addr×Obj)) (s:Shared) (σ:St) (H:Hp) (Q:VK),Inv X pins σ H s->t σ H Q->wpAny (model X.prog X.w) X.A (eval e X.env) (EP X pins σ Q) X.xe s
noncomputable def PT (X:Cx)(e:Expr)(t:TT):Prop:=
 ∀(pins:List (Addr×Obj)) (s:Shared) (σ:St) (H:Hp) (Q:Bool->Hp->Prop),Inv X pins σ H s->t σ H Q->wpAny (model X.prog X.w) X.A (isTrue e X.env (eval e X.env)) (TP X pins σ Q) X.xe s
noncomputable def PW (X:Cx)(e:Expr)(t:TT):Prop:=
 ∀(whole:Sem Value) (pins:List (Addr×Obj)) (s:Shared) (σ:St) (H:Hp) (Q:Bool->Hp->Prop),Inv X pins σ H s->t σ H Q->wpAny (model X.prog X.w) X.A (isTrue e X.env whole) (TP X pins σ Q) X.xe s
theorem PW.pt {t:TT}(h:PW X e t):PT X e t:=h _
noncomputable def PA (X:Cx)(es:List Expr)(t:TA):Prop:=
 ∀(pos:Pos) (pins:List (Addr×Obj)) (s:Shared) (σ:St) (H:Hp) (Q:List V->Hp->Prop),Inv X pins σ H s->t σ H Q->wpAny (model X.prog X.w) X.A (spliced (backTo pos (starEach es X.env))) (AP X pins σ Q) X.xe s
noncomputable def PS (X:Cx)(st:Stmt)(t:TS):Prop:=
 ∀(pins:List (Addr×Obj)) (s:Shared) (σ:St) (H:Hp) (D:Ends),Inv X pins σ H s->t D σ H->wpAny (model X.prog X.w) X.A (exec st X.env) (SP X pins D) X.xe s
noncomputable def PSs (X:Cx)(st:List Stmt)(t:TS):Prop:=
 ∀(pins:List (Addr×Obj)) (s:Shared) (σ:St) (H:Hp) (D:Ends),Inv X pins σ H s->t D σ H->wpAny (model X.prog X.w) X.A (execs st X.env) (SP X pins D) X.xe s
theorem thn {α:Type}{t:Sem α}{Q Q':α->Shared->Prop}{M:Model}(h:wpAny M A t Q E s)(hQ:∀a s,Q a s->Q' a s):wpAny M A t Q' E s:=qaw h hQ fun _ _ x=>x
section
variable {X:Cx}
noncomputable def tVar (i:Nat):TE:=fun σ H Q=>∃v,σ[i]? =some (some v)/\Q v H
noncomputable def tC (v:V):TE:=fun _ H Q=>Q v H
theorem zaX (hN:X.N[i]? =some x)(hv:Vis X.env.scope x)(hd:autoParam ((x==("__debug__":Str))=false) zu1._auto_1)(hcd:autoParam ((x==("__classdict__":Str))=false) zu1._auto_1):PE X (.Name x pos) (tVar i):=by
 intro pins s σ H Q I h;obtain⟨v,e,h⟩:=h;obtain⟨m,hn,hl⟩:=I.loc;obtain⟨u,r,l⟩:=hl i x v hN e hv;have fin:EP X pins σ Q u s:=⟨v,H,I,r,h⟩;rcases l with⟨hk,hm⟩|⟨hk,c,hc,hcell⟩
 ·exact wpAny_Name (wpAny_loadName_local I.ok.kind hk hn hm fin) hd
 ·rcases hk with hk|hk
  ·exact wpAny_Name (wpAny_loadName_cell I.ok.kind hk hc hcell fin) hd
  ·exact wpAny_Name (wpAny_loadName_free I.ok.kind hk hc hcell fin hcd) hd
theorem pe_int {i j pos}:PE X (.Constant (.int i) j pos) (tC (.int i)):=fun _ _ _ H _ I h=>wpAny_Constant_int ⟨.int i,H,I.tok _,⟨_,rfl⟩,h⟩
theorem pe_bl {b j pos}:PE X (.Constant (.bool b) j pos) (tC (.bl b)):=fun _ _ _ H _ I h=>Constant_bool ⟨.bl b,H,I,rfl,h⟩
theorem pe_non {j pos}:PE X (.Constant .none j pos) (tC .non):=fun _ _ _ H _ I h=>Constant_none ⟨.non,H,I,rfl,h⟩
theorem pe_str {x j pos}:PE X (.Constant (.str x) j pos) (tC (.str x)):=fun _ _ _ H _ I h=>Calls.Constant_str ⟨.str x,H,I.tok _,⟨_,rfl⟩,h⟩
noncomputable def Gl (X:Cx)(x:Str):Prop:=X.env.kindOf x=some .globalImplicit
theorem ziP (I:Inv X pins σ H s)(hg:Gl X x)(hm:X.mg x=some u)(h:Q u s)
  (hd:autoParam ((x==("__debug__":Str))=false) zu1._auto_1):wpAny (model X.prog X.w) X.A (eval (.Name x pos) X.env) Q E s:=
 qax I.ok.kind hg (Calls.loadGlobal_global (by rw[I.ok.glob];exact I.mod.glob.keeps I.bk) hm h) hd
theorem zij (I:Inv X pins σ H s)(hg:Gl X x)(hm:X.mg x=none)(hv:bootBuiltins x=some u)(h:Q u s)
  (hn:autoParam (x≠"__name__") zu1._auto_1) (hd:autoParam ((x==("__debug__":Str))=false) zu1._auto_1):wpAny (model X.prog X.w) X.A (eval (.Name x pos) X.env) Q E s:=by
 obtain⟨mb,h1,h2⟩:=I.mod.blt;exact qax I.ok.kind hg (Calls.loadGlobal_builtin (by rw[I.ok.glob];exact I.mod.glob.keeps I.bk) hm (by rw[I.ok.blt];exact h1.keeps I.bk) ((h2 x hn).trans hv) h) hd
theorem pe_glob (hg:Gl X x)(hm:X.mg x=some u)(r:RelV v u)(hd:autoParam ((x==("__debug__":Str))=false) zu1._auto_1):PE X (.Name x pos) (tC v):=
 fun _ _ _ H _ I h=>ziP I hg hm ⟨v,H,I,r,h⟩ hd
theorem zoP (hg:Gl X x)(hm:X.mg x=none)(hv:bootBuiltins x=some u)(r:RelV v u)(hn:autoParam (x≠"__name__") zu1._auto_1)(hd:autoParam ((x==("__debug__":Str))=false) zu1._auto_1):PE X (.Name x pos) (tC v):=
 fun _ _ _ H _ I h=>zij I hg hm hv ⟨v,H,I,r,h⟩ hn hd
variable {a b:Expr} {ta tb:TE} {pos:Pos}
noncomputable def PC (X:Cx)(op:CmpOp)(a b:Expr)(t:TE):Prop:=
 ∀(pins:List (Addr×Obj)) (s:Shared) (σ:St) (H:Hp) (Q:VK),Inv X pins σ H s->t σ H Q->
  wpAny (model X.prog X.w) X.A (eval a X.env) (fun v s₁=>wpAny (model X.prog X.w) X.A (eval b X.env) (fun u s₂=>wpAny (model X.prog X.w) X.A (compareOp op v u) (EP X pins σ Q) X.xe s₂) X.xe s₁) X.xe s
theorem nobehind (b:Expr)(h:op≠ .In)(h2:op≠ .NotIn):behindInMarks op b=false:=by
 have e1:(op==CmpOp.In)=false:=by cases op<;>first|rfl|exact absurd rfl h
 have e2:(op==CmpOp.NotIn)=false:=by cases op<;>first|rfl|exact absurd rfl h2
 cases b<;>simp[behindInMarks,e1,e2]
noncomputable def tIsN (ta:TE):TE:=fun σ H Q=>ta σ H fun x H1=>Q (.bl (decide (x= .non))) H1
noncomputable def tB (t:TE):TT:=fun σ H Q=>t σ H fun x H1=>∃c,x= .bl c/\Q c H1
theorem pt_cmp (h:PC X op a b t)(h1:autoParam (behindInMarks op b=false) zu2._auto_1):PT X (.Compare a [op] [b] pos) (tB t):=by
  intro pins s σ H Q I hw;refine wpAny_isTrue_Compare1 (thn (h pins s σ H _ I hw) fun v s1 h1=>thn h1 fun u s2 h2=>thn h2 fun c s3 ⟨x,H1,I1,r1,q1⟩=>?_) h1;obtain⟨d,rfl,q⟩:=q1;cases r1;exact qay ⟨H1,I1,q⟩
variable {tA tB':TT} {rest:List Expr}
noncomputable def tAnd (t u:TT):TT:=fun σ H Q=>t σ H fun c H1=>if c=true then u σ H1 Q else Q false H1
noncomputable def tOr (t u:TT):TT:=fun σ H Q=>t σ H fun c H1=>if c=true then Q true H1 else u σ H1 Q
noncomputable def tNot (t:TT):TT:=fun σ H Q=>t σ H fun c H1=>Q (!c) H1
theorem pw_and1 (ha:PT X a tA):PW X (.BoolOp .And [a] pos) tA:=by
 intro wh pins s σ H Q I h;refine isTrue_and (thn (ha pins s σ H Q I h) fun c s1 e=>?_);cases c with
 |true=>exact isTrue_and_nil e
 |false=>exact e
theorem pw_or1 (ha:PT X a tA):PW X (.BoolOp .Or [a] pos) tA:=by
 intro wh pins s σ H Q I h;refine isTrue_or (thn (ha pins s σ H Q I h) fun c s1 e=>?_);cases c with
 |false=>exact isTrue_or_nil e
 |true=>exact e
theorem pw_and (ha:PT X a tA)(hb:PW X (.BoolOp .And (b::rest) pos) tB'):PW X (.BoolOp .And (a::b::rest) pos) (tAnd tA tB'):=by
 intro wh pins s σ H Q I h;refine isTrue_and (thn (ha pins s σ H _ I h) fun c s1 ⟨H1,I1,q1⟩=>?_);cases c with
 |true=>exact hb wh pins s1 σ H1 Q I1 q1
 |false=>exact⟨H1,I1,q1⟩
theorem pw_or (ha:PT X a tA)(hb:PW X (.BoolOp .Or (b::rest) pos) tB'):PW X (.BoolOp .Or (a::b::rest) pos) (tOr tA tB'):=by
 intro wh pins s σ H Q I h;refine isTrue_or (thn (ha pins s σ H _ I h) fun c s1 ⟨H1,I1,q1⟩=>?_);cases c with
 |true=>exact⟨H1,I1,q1⟩
 |false=>exact hb wh pins s1 σ H1 Q I1 q1
theorem pt_not (ha:PT X a tA):PT X (.UnaryOp .Not a pos) (tNot tA):=by
 intro pins s σ H Q I h;exact isTrue_not (ha pins s σ H (fun c H1=>Q (!c) H1) I h)
noncomputable def tAndV (ta tb:TE):TE:=fun σ H Q=>ta σ H fun x H1=>∃c,x= .bl c/\if c=true then tb σ H1 Q else Q (.bl false) H1
noncomputable def tNotV (ta:TE):TE:=fun σ H Q=>ta σ H fun x H1=>∃c,x= .bl c/\Q (.bl (!c)) H1
theorem pe_one {op}(h:PE X a t):PE X (.BoolOp op [a] pos) t:=fun pins s σ H Q I hw=>BoolOp_one (h pins s σ H Q I hw)
theorem pe_and (ha:PE X a ta)(hb:PE X (.BoolOp .And (b::rest) pos) tb):PE X (.BoolOp .And (a::b::rest) pos) (tAndV ta tb):=by
 intro pins s σ H Q I h;refine BoolOp_and (thn (ha pins s σ H _ I h) fun v s1 ⟨x,H1,I1,r1,q1⟩=>?_);obtain⟨c,rfl,q1⟩:=q1;cases r1;refine qay ?_;cases c with
 |true=>exact hb pins s1 σ H1 Q I1 q1
 |false=>exact⟨.bl false,H1,I1,rfl,q1⟩
theorem pe_not (ha:PE X a ta):PE X (.UnaryOp .Not a pos) (tNotV ta):=by
 intro pins s σ H Q I h;refine UnaryOp_ (thn (ha pins s σ H _ I h) fun v s1 ⟨x,H1,I1,r1,q1⟩=>?_);obtain⟨c,rfl,q1⟩:=q1;cases r1;exact not_of (qay ⟨.bl (!c),H1,I1,rfl,q1⟩)
noncomputable def tIf (t:TT)(ta tb:TE):TE:=fun σ H Q=>t σ H fun c H1=>if c=true then ta σ H1 Q else tb σ H1 Q
theorem pe_ifExp (hc:PT X c tA)(ha:PE X a ta)(hb:PE X b tb):PE X (.IfExp c a b pos) (tIf tA ta tb):=by
 intro pins s σ H Q I h;refine wpAny_IfExp (thn (hc pins s σ H _ I h) fun d s1 ⟨H1,I1,q1⟩=>?_);cases d with
 |true=>exact ha pins s1 σ H1 Q I1 q1
 |false=>exact hb pins s1 σ H1 Q I1 q1
end
noncomputable def SqL (K:W.Frag)(H:Hp)(a:Addr)(xs:List V):Prop:=
 Rd H a (.lst xs)\/
  ∃(o:Obj) (its:Array Value) (n:Nat),K.lookup a=some o/\o.cls= .type "list"/\o.dict=none/\o.data= .seq its n/\its.size<=sizeLine/\Vals xs its.toList
noncomputable def SqT (K:W.Frag)(H:Hp)(a:Addr)(xs:List V):Prop:=
 Rd H a (.tup xs)\/
  ∃(o:Obj) (its:Array Value) (n:Nat),K.lookup a=some o/\o.cls= .type "tuple"/\o.data= .seq its n/\its.size<=sizeLine/\Vals xs its.toList
noncomputable def absV:Value->Option V
 | .none=>some .non
 | .bool b=>some (.bl b)
 | .int i _=>some (.int i)
 | .str x _=>some (.str x)
 | .bytes b _=>some (.byt b)
 | .float b _=>some (.flt b)
 | .ref a=>some (.ref a)
 | .type n=>some (.ty n)
 |_=>none
theorem RelV.abs {x:V}(r:RelV x u):absV u=some x:=by
 cases x with
 |non=>cases r;rfl
 |bl _=>cases r;rfl
 |int _=>obtain⟨t,rfl⟩:=r;rfl
 |str _=>obtain⟨t,rfl⟩:=r;rfl
 |byt _=>obtain⟨t,rfl⟩:=r;rfl
 |flt _=>obtain⟨t,rfl⟩:=r;rfl
 |ref _=>cases r;rfl
 |ty _=>cases r;rfl
theorem RelV.inj {x y:V}(r:RelV x u)(q:RelV y u):x=y:=Option.some.inj (r.abs.symm.trans q.abs)
theorem Vals.inj:∀{xs ys:List V} {us:List Value},Vals xs us->Vals ys us->xs=ys
 |_,_,_,.nil,.nil=>rfl
 |_,_,_,.cons r t,.cons r' t'=>by rw[r.inj r',Vals.inj t t']
section
variable {X:Cx} {pins:List (Addr×Obj)} {σ:St} {H:Hp} {s:Shared} {a:Addr} {xs ys:List V}
theorem SqL.of (h:H a=some (.lst xs)):SqL K H a xs:= .inl (.inl h)
theorem SqT.of (h:H a=some (.tup xs)):SqT K H a xs:= .inl (.inl h)
theorem Inv.list (I:Inv X pins σ H s)(h:SqL X.K H a xs):∃its:List Value,Vals xs its/\PlainL s.heap a its.toArray/\xs.length<=sizeLine:=by
 rcases h with h|⟨o,its,n,hk,hc,hd,hs,hz,r⟩
 ·obtain⟨z,its,n,r,e⟩:=h.ok I.hok;exact⟨its,r,⟨_,n,e,rfl,rfl,rfl⟩,z⟩
 ·refine⟨its.toList,r,⟨o,n,I.kIn a o hk,hc,hd,by simpa using hs⟩,?_⟩;have e:=r.length;simp only[qaz]at e;lia
theorem Inv.tuple (I:Inv X pins σ H s)(h:SqT X.K H a xs):∃its:List Value,Vals xs its/\IsTup s.heap a its.toArray/\xs.length<=sizeLine:=by
 rcases h with h|⟨o,its,n,hk,hc,hs,hz,r⟩
 ·obtain⟨z,its,r,p⟩:=h.ok I.hok;exact⟨its,r,p,z⟩
 ·refine⟨its.toList,r,⟨o,I.kIn a o hk,hc,n,by simpa using hs⟩,?_⟩;have e:=r.length;simp only[qaz]at e;lia
theorem Inv.list_inj (I:Inv X pins σ H s)(h:SqL X.K H a xs)(h':SqL X.K H a ys):xs=ys:=by
 obtain⟨its,r,⟨o,n,e,_,_,d⟩,_⟩:=I.list h;obtain⟨its',r',⟨o',n',e',_,_,d'⟩,_⟩:=I.list h';rw[e]at e';cases e';rw[d]at d';injection d' with d1 _
 have:its=its':=by simpa using congrArg Array.toList d1
 subst this;exact r.inj r'
theorem Inv.tuple_inj (I:Inv X pins σ H s)(h:SqT X.K H a xs)(h':SqT X.K H a ys):xs=ys:=by
 obtain⟨its,r,⟨o,e,_,n,d⟩,_⟩:=I.tuple h;obtain⟨its',r',⟨o',e',_,n',d'⟩,_⟩:=I.tuple h';rw[e]at e';cases e';rw[d]at d';injection d' with d1 _
 have:its=its':=by simpa using congrArg Array.toList d1
 subst this;exact r.inj r'
end
noncomputable abbrev Cx.wish (X:Cx)(E:Value->Shared->Prop):Cx:={X with xe:=E}
noncomputable abbrev Cx.nox (X:Cx):Cx:=X.wish fun _ _=>False
theorem Cx.Ok.wish (ok:X.Ok)(E:Value->Shared->Prop):(X.wish E).Ok:=
 ⟨ok.mod,ok.kind,ok.glob,ok.blt,ok.above,ok.inj,ok.has,ok.cab,ok.hd,ok.frames,ok.stk,ok.exf,ok.bs,ok.bsz,ok.noex,ok.exfs,ok.funs,ok.frf⟩
theorem Cx.Ok.unwish (ok:(X.wish E).Ok):X.Ok:=
 ⟨ok.mod,ok.kind,ok.glob,ok.blt,ok.above,ok.inj,ok.has,ok.cab,ok.hd,ok.frames,ok.stk,ok.exf,ok.bs,ok.bsz,ok.noex,ok.exfs,ok.funs,ok.frf⟩
section
variable {X:Cx} {pins:List (Addr×Obj)} {σ:St} {H:Hp} {s:Shared} {E:Value->Shared->Prop}
theorem Inv.wish (I:Inv X pins σ H s)(E:Value->Shared->Prop):Inv (X.wish E) pins σ H s:=⟨I.ok.wish E,I.os,I.bare,I.base,I.loc,I.cell,I.free,I.freeC,I.pin,I.hok,I.len⟩
theorem Inv.unwish (I:Inv (X.wish E) pins σ H s):Inv X pins σ H s:=⟨I.ok.unwish,I.os,I.bare,I.base,I.loc,I.cell,I.free,I.freeC,I.pin,I.hok,I.len⟩
theorem SP.unwish {D:Ends}{f:Flow}(h:SP (X.wish E) pins D f s'):SP X pins D f s':=by
 cases f with
 |next=>obtain⟨σ',H',I,q⟩:=h;exact⟨σ',H',I.unwish,q⟩
 |brk=>obtain⟨σ',H',I,q⟩:=h;exact⟨σ',H',I.unwish,q⟩
 |cont=>obtain⟨σ',H',I,q⟩:=h;exact⟨σ',H',I.unwish,q⟩
 |ret u=>obtain⟨v,σ',H',I,r,q⟩:=h;exact⟨v,σ',H',I.unwish,r,q⟩
theorem PSs.nox {st:List Stmt}{t:TS}(h:PSs X.nox st t):PSs X st t:=fun pins s σ H D I hw=>
 qaw (h pins s σ H D (I.wish _) hw) (fun _ _ q=>q.unwish) fun _ _ z=>False.elim z
end
section
variable {X:Cx} {st:Stmt} {rest:List Stmt} {t u:TS} {e:Expr} {te:TE} {pos:Pos}
noncomputable def tNext:TS:=fun D σ H=>D.nx σ H
noncomputable def tSeq (t u:TS):TS:=fun D σ H=>t {D with nx:=u D} σ H
theorem zoD:PSs X [] tNext:=fun _ _ σ H _ I h=>qaA ⟨σ,H,I,h⟩
theorem zgU (h1:PS X st t)(h2:PSs X rest u):PSs X (st::rest) (tSeq t u):=by
 intro pins s σ H D I h;refine wpAny_execs_cons (thn (h1 pins s σ H {D with nx:=u D} I h) fun f s1 q=>?_);cases f with
 |next=>
  obtain⟨σ',H',I',q⟩:=q;exact h2 pins s1 σ' H' D I' q
 |ret v=>exact q
 |brk=>exact q
 |cont=>exact q
theorem zkn (h1:PS X st t):PSs X [st] t:=by
 intro pins s σ H D I h;refine wpAny_execs_cons (thn (h1 pins s σ H D I h) fun f s1 q=>?_);cases f with
 |next=>exact qaA q
 |ret v=>exact q
 |brk=>exact q
 |cont=>exact q
theorem Inv.quiet (I:Inv X pins σ H s):interactive X.env=false:=by simp[interactive,I.ok.kind]
noncomputable def tDrop (te:TE):TS:=fun D σ H=>te σ H fun _ H1=>D.nx σ H1
theorem zhl (he:PE X e te)(hs:autoParam (swapsWith e none pos.line X.env=pure false) zu3._auto_1):PS X (.Expr e pos) (tDrop te):=by
 intro pins s σ H D I h;exact wpAny_Expr_any (thn (he pins s σ H _ I h) fun v s1 ⟨x,H1,I1,r1,q1⟩=>⟨σ,H1,I1,q1⟩) I.quiet hs
noncomputable def tRet (te:TE):TS:=fun D σ H=>te σ H D.rt
theorem zir (he:PE X e te):PS X (.Return (some e) pos) (tRet te):=by
 intro pins s σ H D I h;exact wpAny_Return_some (thn (he pins s σ H _ I h) fun v s1 ⟨x,H1,I1,r1,q1⟩=>⟨x,σ,H1,I1,r1,q1⟩)
noncomputable def tIfS (c:TT)(t u:TS):TS:=fun D σ H=>c σ H fun b H1=>if b=true then t D σ H1 else u D σ H1
theorem ps_if {a b:List Stmt}{tc:TT}(hc:PT X c tc)(ha:PSs X a t)(hb:PSs X b u):PS X (.If c a b pos) (tIfS tc t u):=by
 intro pins s σ H D I h;refine wpAny_If (thn (hc pins s σ H _ I h) fun d s1 ⟨H1,I1,q1⟩=>?_);cases d with
 |true=>exact ha pins s1 σ H1 D I1 q1
 |false=>exact hb pins s1 σ H1 D I1 q1
noncomputable def tNever:TS:=fun _ _ _=>False
theorem ps_never:PS X st tNever:=fun _ _ _ _ _ _ h=>h.elim
end
noncomputable abbrev TG:=V->St->Hp->(St->Hp->Prop)->Prop
noncomputable abbrev TGs:=List V->St->Hp->(St->Hp->Prop)->Prop
noncomputable def PG (X:Cx)(target:Expr)(t:TG):Prop:=
 ∀(pins:List (Addr×Obj)) (s:Shared) (σ:St) (H:Hp) (v:V) (u:Value) (Q:St->Hp->Prop),Inv X pins σ H s->RelV v u->t v σ H Q->
  wpAny (model X.prog X.w) X.A (assign target X.env u) (fun _ s'=>∃σ' H',Inv X pins σ' H' s'/\Q σ' H') X.xe s
noncomputable def PGs (X:Cx)(ts:List Expr)(t:TGs):Prop:=
 ∀(pins:List (Addr×Obj)) (s:Shared) (σ:St) (H:Hp) (vs:List V) (us:List Value) (Q:St->Hp->Prop),Inv X pins σ H s->Vals vs us->t vs σ H Q->
  wpAny (model X.prog X.w) X.A (assignInOrder ((assignEach ts X.env).map (·.2)) us) (fun _ s'=>∃σ' H',Inv X pins σ' H' s'/\Q σ' H') X.xe s
noncomputable abbrev TSet:=V->V->V->Hp->(Hp->Prop)->Prop
noncomputable def PSet (X:Cx)(t:TSet):Prop:=
 ∀(pins:List (Addr×Obj)) (s:Shared) (σ:St) (H:Hp) (o i v:V) (ov iv u:Value) (Q:Hp->Prop),Inv X pins σ H s->RelV o ov->RelV i iv->RelV v u->t o i v H Q->
  wpAny (model X.prog X.w) X.A (setItem ov iv u) (fun _ s'=>∃H',Inv X pins σ H' s'/\Q H') X.xe s
section
variable {X:Cx} {pos:Pos}
noncomputable def gName (i:Nat):TG:=fun v σ H Q=>Q (σ.set i (some v)) H
theorem zkx (hN:X.N.Nodup)(hi:X.N[i]? =some x)(hx:Loc X.env.scope x)(hf:autoParam (X.fn x=true\/X.env.scope.names.lookup x=some .local) zu0._auto_1):PG X (.Name x pos) (gName i):=by
  intro pins s σ H v u Q I r h;exact wpAny_assign_Name (zi6 I hN hi hx r (fun s' I'=>⟨_,H,I',h⟩) hf)
noncomputable def gNil:TGs:=fun vs σ H Q=>vs=[]/\Q σ H
noncomputable def gCons (t:TG)(u:TGs):TGs:=fun vs σ H Q=>∃v r,vs=v::r/\t v σ H fun σ' H'=>u r σ' H' Q
theorem pgs_nil:PGs X [] gNil:=by
 intro pins s σ H vs us Q I r h;obtain⟨e,h⟩:=h;subst e;cases r;exact assignInOrder_nil ⟨σ,H,I,h⟩
theorem pgs_cons {t:TG}{u:TGs}(h1:PG X e t)(h2:PGs X es u)
  (hs:autoParam ((assignEach (e::es) X.env).map (·.2)=assign e X.env::(assignEach es X.env).map (·.2)) zu3._auto_1):PGs X (e::es) (gCons t u):=by
 intro pins s σ H vs us Q I r h;obtain⟨v,vr,e1,h⟩:=h;subst e1;cases r with
 |cons r rr=>
  rw[hs];refine assignInOrder_cons (thn (h1 pins s σ H _ _ _ I r h) fun _ s1 ⟨σ1,H1,I1,q1⟩=>?_);exact h2 pins s1 σ1 H1 _ _ Q I1 rr q1
noncomputable def gTup (K:W.Frag)(n:Nat)(t:TGs):TG:=fun v σ H Q=>∃a xs,v= .ref a/\SqT K H a xs/\xs.length=n/\t xs σ H Q
theorem pg_tup {k:Nat}{t:TGs}(hc:X.calm=true)(h:PGs X es t)
  (hn:autoParam ((assignEach es X.env).length=n) zu3._auto_1) (hst:autoParam ((assignEach es X.env).findIdx? (·.1)=none) zu3._auto_1):PG X (.Tuple es k pos) (gTup X.K n t):=by
 intro pins s σ H v u Q I r hw;obtain⟨a,xs,e1,hq,hl,hw⟩:=hw;subst e1;cases r;obtain⟨its,rv,ht,hz⟩:=I.tuple hq;refine assign_Tuple_tuple (I.ok.hd hc) ht (by simp[hn,<-hl,rv.length]) hst fun h' hx=>?_
 have I1:Inv X pins σ H {s with heap:=h'}:=I.kept (t':=s.toks) fun b o e=>hx b o (qah (qae e)) e
 exact h pins _ σ H xs _ Q I1 (by simpa using rv) hw
noncomputable def gSub (to ti:TE)(t:TSet):TG:=fun v σ H Q=>to σ H fun o H1=>ti σ H1 fun i H2=>t o i v H2 fun H3=>Q σ H3
theorem pg_sub {o i:Expr}{to ti:TE}{t:TSet}(ho:PE X o to)(hi:PE X i ti)(hs:PSet X t)
    (ha :autoParam (∀ v, assign (.Subscript o i pos) X.env v = (do
      let ov<-holding [v] (eval o X.env)
      let iv<-holding [v,ov] (eval i X.env)
      standAt pos
      holding [v,ov,iv] (setItem ov iv v)
      release [v,ov,iv] [])) zu4._auto_1):PG X (.Subscript o i pos) (gSub to ti t):=by
  intro pins s σ H v u Q I r h;rw[ha];refine qaB (qaC (thn (ho pins s σ H _ I h) fun ov s1 ⟨x,H1,I1,r1,q1⟩=>?_));refine qaB (qaC (thn (hi pins s1 σ H1 _ I1 q1) fun iv s2 ⟨y,H2,I2,r2,q2⟩=>?_));refine qaB (wpAny_standAt (qaB (qaC (thn (hs pins s2 σ H2 x y v ov iv u _ I2 r1 r2 r q2) fun _ s3 ⟨H3,I3,q3⟩=>?_))));exact wpAny_release ⟨σ,H3,I3,q3⟩
noncomputable def tAsg (te:TE)(g:TG):TS:=fun D σ H=>te σ H fun x H1=>g x σ H1 D.nx
theorem ps_asg {g:TG}(he:PE X e te)(hg:PG X tg g)(hs:autoParam (swapsWithSole [tg] e pos.line X.env=pure false) zu3._auto_1)(hw:autoParam (swappedStores [tg] e X.env=pure none) zu3._auto_1)
  (h1:autoParam ((assignEach [tg] X.env).map (·.2)=[assign tg X.env]) zu3._auto_1):PS X (.Assign [tg] e pos) (tAsg te g):=by
 intro pins s σ H D I h;refine wpAny_Assign_stores (thn (he pins s σ H _ I h) fun v s1 ⟨x,H1,I1,r1,q1⟩=>?_) hs hw;rw[h1];exact thn (hg pins s1 σ H1 x v _ I1 r1 q1) fun _ s2 q=>q
theorem zgv {pos':Pos}(hN:X.N.Nodup)(hi:X.N[i]? =some x)(hx:Loc X.env.scope x)(he:PE X e te)(hs:autoParam (swapsWith e (some (.Name x pos')) pos.line X.env=pure false) zu3._auto_1)(hf:autoParam (X.fn x=true\/X.env.scope.names.lookup x=some .local) zu0._auto_1):
  PS X (.Assign [.Name x pos'] e pos) (tAsg te (gName i)):=by
 intro pins s σ H D I h;refine wpAny_Assign_Name (thn (he pins s σ H _ I h) fun v s1 ⟨y,H1,I1,r1,q1⟩=>?_) hs;exact zi6 I1 hN hi hx r1 (fun s2 I2=>⟨_,H1,I2,q1⟩) hf
end
structure It where
 go:Nat->Hp->Prop
 yld:Nat->Hp->V->Hp->Prop
 stop:Nat->Hp->Prop
noncomputable def FpOk (X:Cx)(pins:List (Addr×Obj))(H:Hp)(b:Addr):Prop:=
 H b=none/\b≠X.env.locals/\b∉X.fs/\(b∈X.ex\/X.s₀.heap.objs.size<=b)/\(∀x c,X.env.cells.lookup x=some c->c≠b)/\∀p∈X.pn++pins,p.1≠b
theorem Inv.fpOk {H H':Hp}(I:Inv X pins σ H s)(hb:s.heap.objs.size<=b)(hn:H' b=none):FpOk X pins H' b:=by
 refine⟨hn,qaD (qaf I.lt hb),I.nofs hb,.inr (qal I.sz hb),fun x c e z=>?_,fun p hp z=>?_⟩
 ·obtain⟨v,q⟩:=I.cell x c e;exact absurd (qaf q.lt (by rw[z];exact hb)) (qag _)
 ·exact absurd (qaf (qae (I.pin p hp).1) (by rw[z];exact hb)) (qag _)
structure Turn (P:Program) (w:World) (K:W.Frag) (tg:Expr) (J:It) (fp:List Addr) (it:Addr) (tn:Nat->Heap->Prop):Prop where
 mem:it∈fp
 obj:∀i h,tn i h->∀b∈fp,∃o,h.get? b=some o/\∀v,o.data≠ .cell v
 keep:∀i h h',tn i h->(∀b∈fp,∀o,h.get? b=some o->h'.get? b=some o)->tn i h'
 item:∀(X:Cx),X.prog=P->X.w=w->X.K=K->X.calm=true->∀(i:Nat) (pins:List (Addr×Obj)) (s:Shared) (σ:St) (H:Hp) (E:Value->Shared->Prop),Inv X pins σ H s->(∀b∈fp,FpOk X pins H b)->tn i s.heap->J.go i H->
  wpAny (model P w) X.A (pyNext (.ref it)) (fun r s1=>∃u,r=some u/\
   wpAny (model P w) X.A (letOwnedTupleGo tg (.ref it) u) (fun _ s2=>∃x H',Inv X pins σ H' s2/\RelV x u/\J.yld i H x H'/\tn (i+1) s2.heap/\∀b∈fp,H' b=none) E s1) E s
 done:∀(X:Cx),X.prog=P->X.w=w->X.K=K->X.calm=true->∀(i:Nat) (pins:List (Addr×Obj)) (s:Shared) (σ:St) (H:Hp) (E:Value->Shared->Prop),Inv X pins σ H s->(∀b∈fp,FpOk X pins H b)->tn i s.heap->J.stop i H->
  wpAny (model P w) X.A (pyNext (.ref it)) (fun r s1=>r=none/\Inv X pins σ H s1) E s
 self:∀(A:Around) (i:Nat) (s:Shared) (Q:Value->Shared->Prop) (E:Value->Shared->Prop),tn i s.heap->Q (.ref it) s->wpAny (model P w) A (pyIter (.ref it)) Q E s
noncomputable abbrev TI:=St->Hp->(It->Hp->Prop)->Prop
noncomputable def PIE (X:Cx)(pins:List (Addr×Obj))(σ:St)(tg:Expr)(R:It->Hp->Prop)(itv:Value)(s2:Shared):Prop:=
 ∃(it:Addr) (fp:List Addr) (tn:Nat->Heap->Prop) (J:It) (H':Hp),itv= .ref it/\Inv X pins σ H' s2/\Turn X.prog X.w X.K tg J fp it tn/\tn 0 s2.heap/\(∀b∈fp,FpOk X pins H' b)/\R J H'
noncomputable def PI (X:Cx)(tg iter:Expr)(wi:TI):Prop:=
 ∀(pins:List (Addr×Obj)) (s:Shared) (σ:St) (H:Hp) (R:It->Hp->Prop),Inv X pins σ H s->wi σ H R->
  wpAny (model X.prog X.w) X.A (eval iter X.env) (fun v s1=>wpAny (model X.prog X.w) X.A (pyIter v) (PIE X pins σ tg R) X.xe s1) X.xe s
theorem go_of {M:Model}{o:Obj}{n:String}{vs:Array Value}{Q:Unit->Shared->Prop}(ho:s.heap.get? it=some o)(hc:o.cls= .type n)(hd:o.data= .fields vs)
    (hn:["enumerate","zip","dict_itemiterator","dict_reverseitemiterator","odict_iterator","itertools.zip_longest","itertools.pairwise"].contains n=false) (hQ:Q () s):wpAny M A (letOwnedTupleGo tg (.ref it) u) Q E s:=by
  unfold letOwnedTupleGo;cases tg<;>first
    |exact qaE hQ
    | (cases u <;> first
        |exact qaE hQ
        | (refine qaB (wpAny_load ho ?_)
           rw[hc,hd];show wpAny M A (if(["enumerate","zip","dict_itemiterator","dict_reverseitemiterator","odict_iterator","itertools.zip_longest","itertools.pairwise"].contains n&&vs[0]? ==some (rawInt _))=true then _ else _) Q E s;rw[if_neg (by intro h;rw[hn,Bool.false_and]at h;cases h)];exact qaE hQ))
noncomputable def Itl (K:W.Frag)(a:Addr):It:=
 ⟨fun i H=>∃xs x,SqL K H a xs/\xs[i]? =some x,fun i H x H'=>H'=H/\∀xs,SqL K H a xs->xs[i]? =some x,fun i H=>∃xs,SqL K H a xs/\xs.length<=i⟩
noncomputable def Itt (K:W.Frag)(a:Addr):It:=
 ⟨fun i H=>∃xs x,SqT K H a xs/\xs[i]? =some x,fun i H x H'=>H'=H/\∀xs,SqT K H a xs->xs[i]? =some x,fun i H=>∃xs,SqT K H a xs/\xs.length<=i⟩
noncomputable def Itr (lo:Int)(n:Nat):It:=⟨fun i _=>i<n,fun i H x H'=>H'=H/\x= .int (lo+i),fun i _=>n<=i⟩
theorem znQ {P:Program}(a it:Addr):Turn P w K tg (Itl K a) [it] it (fun i h=>h.IsListIter it a i) where
 mem:=by simp
 obj:=fun i h st b hb=>by
  have e:b=it:=by simpa using hb
  subst e;obtain⟨o,e,c,d⟩:=st;exact⟨o,e,fun v z=>by rw[d]at z;cases z⟩
 keep:=fun i h h' st k=>st.at fun o e=>k it (by simp) o e
 item:=by
  intro X hP hw hK hc i pins s σ H E I hf st hg;subst hP hw hK;obtain⟨xs,x,hq,hx⟩:=hg;obtain⟨its,rv,p,hz⟩:=I.list hq;obtain⟨u,hu,ru⟩:=rv.get hx;obtain⟨f0,f1,f2,f3,f4,f5⟩:=hf it (by simp);refine wpAny_pyNext_list_item st p.isList (x:=u) (by simpa using hu) fun h' st' sb=>?_
  have I1:Inv X pins σ H {s with heap:=h'}:=I.turned (t':=s.toks) (fun b o hb e=>(sb.2 b hb).trans e) f0 f1 f3 f4 f5;obtain⟨o,e,c,d⟩:=id st';exact⟨u,rfl,go_of (s:={s with heap:=h'}) e c d (by decide) ⟨x,H,I1,ru,⟨rfl,fun ys hy=>by rw[I.list_inj hy hq];exact hx⟩,st',fun b hb=>(hf b hb).1⟩⟩
 done:=by
  intro X hP hw hK hc i pins s σ H E I hf st hg;subst hP hw hK;obtain⟨xs,hq,hx⟩:=hg;obtain⟨its,rv,p,hz⟩:=I.list hq;obtain⟨f0,f1,f2,f3,f4,f5⟩:=hf it (by simp);have hl:=rv.length;exact wpAny_pyNext_list_end (I.ok.hd hc) st p.isList (by simp;lia) fun h' eb=>⟨rfl,I.turned (t':=s.toks) (fun b o hb e=>eb b o hb e) f0 f1 f3 f4 f5⟩
 self:=fun _ _ _ _ _ st h=>wpAny_pyIter_listiter st h
theorem zmJ {P:Program}(a it:Addr):Turn P w K tg (Itt K a) [it] it (fun i h=>h.IsTupleIter it a i) where
 mem:=by simp
 obj:=fun i h st b hb=>by
  have e:b=it:=by simpa using hb
  subst e;obtain⟨o,e,c,d⟩:=st;exact⟨o,e,fun v z=>by rw[d]at z;cases z⟩
 keep:=fun i h h' st k=>st.at fun o e=>k it (by simp) o e
 item:=by
  intro X hP hw hK hc i pins s σ H E I hf st hg;subst hP hw hK;obtain⟨xs,x,hq,hx⟩:=hg;obtain⟨its,rv,p,hz⟩:=I.tuple hq;obtain⟨u,hu,ru⟩:=rv.get hx;obtain⟨f0,f1,f2,f3,f4,f5⟩:=hf it (by simp);refine wpAny_pyNext_tuple_item st (show s.heap.IsTuple a its.toArray from p) (x:=u) (by simpa using hu) fun h' st' sb=>?_
  have I1:Inv X pins σ H {s with heap:=h'}:=I.turned (t':=s.toks) (fun b o hb e=>(sb.2 b hb).trans e) f0 f1 f3 f4 f5;obtain⟨o,e,c,d⟩:=id st';exact⟨u,rfl,go_of (s:={s with heap:=h'}) e c d (by decide) ⟨x,H,I1,ru,⟨rfl,fun ys hy=>by rw[I.tuple_inj hy hq];exact hx⟩,st',fun b hb=>(hf b hb).1⟩⟩
 done:=by
  intro X hP hw hK hc i pins s σ H E I hf st hg;subst hP hw hK;obtain⟨xs,hq,hx⟩:=hg;obtain⟨its,rv,p,hz⟩:=I.tuple hq;obtain⟨f0,f1,f2,f3,f4,f5⟩:=hf it (by simp);have hl:=rv.length;exact wpAny_pyNext_tuple_end (I.ok.hd hc) st (show s.heap.IsTuple a its.toArray from p) (by simp;lia) fun h' eb=>⟨rfl,I.turned (t':=s.toks) (fun b o hb e=>eb b o hb e) f0 f1 f3 f4 f5⟩
 self:=fun _ _ _ _ _ st h=>wpAny_pyIter_tupleiter st h
theorem zml {P:Program}{w:World}(it:Addr)(lo:Int)(n:Nat):Turn P w K tg (Itr lo n) [it] it (fun i h=>IsRangeIter h it (lo+(i:Nat)*1) ((n:Int)-(i:Nat)) 1) where
 mem:=by simp
 obj:=fun i h st b hb=>by
  have e:b=it:=by simpa using hb
  subst e;exact⟨_,st,fun v z=>by
   have z':Data.fields _=Data.cell v:=z;cases z'⟩
 keep:=fun i h h' st k=>k it (by simp) _ st
 item:=by
  intro X hP hw hK hc i pins s σ H E I hf st hg;subst hP hw hK;obtain⟨f0,f1,f2,f3,f4,f5⟩:=hf it (by simp);have W:=Walks.range (prog:=X.prog) (w:=X.w) (I.ok.hd hc) it lo 1 n;refine W.item i s _ _ hg st fun v h' tk hv st' kk=>?_
  obtain⟨t,rfl⟩:=hv;have I1:Inv X pins σ H {s with heap:=h',toks:=tk}:=I.turned (fun b o hb e=>kk b o (by simpa using hb) e) f0 f1 f3 f4 f5;refine⟨_,rfl,go_of (s:={s with heap:=h',toks:=tk}) (n:="range_iterator") st' rfl rfl (by decide) ⟨.int (lo+i),H,I1,⟨t,?_⟩,⟨rfl,rfl⟩,st',fun b hb=>(hf b hb).1⟩⟩;rw[Int.mul_one]
 done:=by
  intro X hP hw hK hc i pins s σ H E I hf st hg;subst hP hw hK;obtain⟨f0,f1,f2,f3,f4,f5⟩:=hf it (by simp);exact wpAny_pyNext_range_end (I.ok.hd hc) st (by have:n<=i:=hg;lia) fun h' eb=>⟨rfl,I.turned (t':=s.toks) (fun b o hb e=>eb b o hb e) f0 f1 f3 f4 f5⟩
 self:=fun _ _ _ _ _ st h=>wpAny_pyIter_rangeiter st h
section
variable {X:Cx} {tg:Expr}
theorem zlE {R:It->Hp->Prop}{lo hi:Int}{t u v:Tok}{tk:Nat}(I:Inv X pins σ H s)(h1: -(2^62)<=lo)(h2:lo<2^62)(h3: -(2^62)<=hi)(h4:hi<2^62)
  (q:R (Itr lo (hi-lo).toNat) H):wpAny (model X.prog X.w) X.A (pyIter (.ref s.heap.objs.size)) (PIE X pins σ tg R) E {s with heap:=s.heap.push {cls:= .type "range",data:= .fields #[.int lo t,.int hi u,.int 1 v]},toks:=tk}:=by
 refine wpAny_pyIter_range (IsRange.new ..) (small_one h1 h2 h3 h4) ?_;have I1:Inv X pins σ H {s with heap:=s.heap.push {cls:= .type "range",data:= .fields #[.int lo t,.int hi u,.int 1 v]},toks:=tk}:=I.kept fun b o e=>qaF _ e
 refine⟨(s.heap.push {cls:= .type "range",data:= .fields #[.int lo t,.int hi u,.int 1 v]}).objs.size,[(s.heap.push {cls:= .type "range",data:= .fields #[.int lo t,.int hi u,.int 1 v]}).objs.size],_,_,H,rfl,
  I1.kept (t':=tk) fun b o e=>qaF _ e,zml _ lo (hi-lo).toNat,?_,fun b hb=>?_,q⟩
 ·have e1:lo+((0:Nat):Int)*1=lo:=by simp
  have e2:(((hi-lo).toNat:Nat):Int)-((0:Nat):Int)=Builtin.Range.rangeSize lo hi 1:=by rw[rangeSize_one];split<;>lia
  show IsRangeIter _ _ (lo+((0:Nat):Int)*1) ((((hi-lo).toNat:Nat):Int)-((0:Nat):Int)) 1;rw[e1,e2];exact qaG _ rfl
 ·have e:b=(s.heap.push {cls:= .type "range",data:= .fields #[.int lo t,.int hi u,.int 1 v]}).objs.size:=by simpa using hb
  subst e;exact I1.fpOk (qaH _) (I1.hok.fresh (qaH _))
noncomputable def iRng1 (ta:TA):TI:=fun σ H R=>ta σ H fun vs H1=>∃j:Int,vs=[.int j]/\ -(2^62)<=j/\j<2^62/\R (Itr 0 j.toNat) H1
noncomputable def iRng2 (ta:TA):TI:=fun σ H R=>ta σ H fun vs H1=>∃i j:Int,vs=[.int i,.int j]/\(-(2^62)<=i/\i<2^62/\ -(2^62)<=j/\j<2^62)/\R (Itr i (j-i).toNat) H1
theorem zoX {a:Expr}{p pos:Pos}(hg:Gl X "range")(hm:X.mg "range"=none)(ha:PA X [a] ta)(hs:autoParam (starEach [a] X.env=[(false,eval a X.env)]) zu3._auto_1):PI X tg (.Call (.Name "range" p) [a] [] pos) (iRng1 ta):=by
 intro pins s σ H R I h;refine Call_ (zij I hg hm boot_range (qaI (thn (ha pos pins s σ H _ I h) fun us s1 ⟨vs,H1,I1,r1,q1⟩=>?_) hs rfl));obtain⟨j,e,q1,q2,q⟩:=q1;subst e;cases r1 with
 |cons r rr=>
  cases rr;obtain⟨t,rfl⟩:=r;exact call_range_1 (zlE I1 (by lia) (by lia) q1 q2 (by simpa using q))
theorem zoq {a b:Expr}{p pos:Pos}(hg:Gl X "range")(hm:X.mg "range"=none)(ha:PA X [a,b] ta)(hs:autoParam (starEach [a,b] X.env=[(false,eval a X.env),(false,eval b X.env)]) zu3._auto_1)(hs2:autoParam (starEach [b] X.env=[(false,eval b X.env)]) zu3._auto_1):
  PI X tg (.Call (.Name "range" p) [a,b] [] pos) (iRng2 ta):=by
 intro pins s σ H R I h;refine Call_ (zij I hg hm boot_range (qaI (thn (ha pos pins s σ H _ I h) fun us s1 ⟨vs,H1,I1,r1,q1⟩=>?_) (by rw[hs,hs2]) (by rw[hs2];rfl)));obtain⟨i,j,e,⟨q1,q2,q3,q4⟩,q⟩:=q1;subst e;cases r1 with
 |cons r rr=>
  cases rr with
  |cons r' rr=>
   cases rr;obtain⟨t,rfl⟩:=r;obtain⟨t',rfl⟩:=r';exact call_range_2 (zlE I1 q1 q2 q3 q4 q)
noncomputable def tFor (wi:TI)(g:TG)(tb:TS):TS:=fun D σ H=>wi σ H fun J H1=>∃W:Nat->Nat->St->Hp->Prop,(∃m,W 0 m σ H1)/\∀i m σ H,W i m σ H->
 (J.stop i H/\D.nx σ H)\/(J.go i H/\∃N:St->Hp->Prop,(∀σ' H',N σ' H'->∃m',m'<m/\W (i+1) m' σ' H')/\∀x H',J.yld i H x H'->g x σ H' fun σ2 H2=>tb {D with nx:=N,ct:=N,bk:=D.nx} σ2 H2)
noncomputable def zjA (fp:List Addr)(h:Heap):List (Addr×Obj):=fp.filterMap fun b=>(h.get? b).map fun o=>(b,o)
theorem zeM {o:Obj}(hb:b∈fp)(e:h.get? b=some o):(b,o)∈zjA fp h:=qaJ.mpr ⟨b,hb,by rw[e];rfl⟩
theorem zoO (hp:p∈zjA fp h):p.1∈fp/\h.get? p.1=some p.2:=by
 obtain⟨b,hb,e⟩:=qaJ.mp hp;cases q:h.get? b with
 |none=>rw[q]at e;cases e
 |some o=>
  rw[q]at e;have e':(b,o)=p:=Option.some.inj e;subst e';exact⟨hb,q⟩
theorem Inv.pinned (I:Inv X pins σ H s)(hf:∀b∈fp,FpOk X pins H b)(ho:∀b∈fp,∃o,s.heap.get? b=some o/\∀v,o.data≠ .cell v):Inv X (pins++zjA fp s.heap) σ H s:=
 I.pins_of fun p hp=>(qar.mp hp).elim (fun z=>I.pin p (qaK _ z)) fun z=>by
  obtain⟨hb,e⟩:=zoO z;obtain⟨f0,f1,f2,_⟩:=hf p.1 hb;obtain⟨o,e',d⟩:=ho p.1 hb;rw[e]at e';cases e';exact⟨e,f0,f1,f2,d⟩
theorem Inv.unpinned {pins pl:List (Addr×Obj)}(I:Inv X (pins++pl) σ H s):Inv X pins σ H s:=I.pins_of fun p hp=>I.pin p (qaK _ (qas _ hp))
theorem ps_for {iter:Expr}{wi:TI}{g:TG}{tb:TS}(hp:PassesOwn (model X.prog X.w) X.A X.env X.xe)(hc:X.calm=true)(hi:PI X tg iter wi)(hg:PG X tg g)(hb:PSs X body tb)
    (hs:autoParam (∀x,foldedSetIterable iter X.env x=pure x) zu4._auto_1):PS X (.For tg iter body [] pos) (tFor wi g tb):=by
  intro pins s σ H D I h;refine wpAny_For (thn (hi pins s σ H _ I h) fun v s1 h1=>thn h1 fun itv s2 h2=>?_) hs;obtain⟨it,fp,tn,J,H2,e,I2,T,st2,f2,W,⟨m0,w0⟩,turn⟩:=h2;subst e;have stat:∀{H':Hp},(∀b∈fp,H' b=none)->∀b∈fp,FpOk X pins H' b:=fun hn b hb=>⟨hn b hb,(f2 b hb).2⟩
  refine codeAny_forLoop_any (fun n s'=>∃i σ' H',Inv X pins σ' H' s'/\tn i s'.heap/\(∀b∈fp,H' b=none)/\W i n σ' H') ?_ m0 ⟨0,σ,H2,I2,st2,fun b hb=>(f2 b hb).1,w0⟩;rintro n s3 ⟨i,σ3,H3,I3,st3,fr3,w3⟩;rcases turn i n σ3 H3 w3 with⟨stop,qn⟩|⟨go,N,hN,step⟩
  . refine qaL hp (thn (T.done X rfl rfl rfl hc i pins s3 σ3 H3 X.xe I3 (stat fr3) st3 stop) fun r s4 ⟨hr,I4⟩=>?_)
    subst hr;exact qaA ⟨σ3,H3,I4,qn⟩
  . refine qaL hp (thn (T.item X rfl rfl rfl hc i pins s3 σ3 H3 X.xe I3 (stat fr3) st3 go) fun r s4 ⟨u,hr,h4⟩=>?_)
    subst hr;refine qaL hp (thn h4 fun _ s5 ⟨x,H5,I5,r5,y5,st5,fr5⟩=>?_);have I5':=I5.pinned (stat fr5) (T.obj _ _ st5);refine qaL hp (thn (hg _ s5 σ3 H5 x u _ I5' r5 (step x H5 y5)) fun _ s6 ⟨σ6,H6,I6,q6⟩=>?_);refine qaL hp (thn (hb _ s6 σ6 H6 _ I6 q6) fun f s7 q7=>?_);have again:∀{σ7:St} {H7:Hp},Inv X (pins++zjA fp s5.heap) σ7 H7 s7->N σ7 H7->∃m,m<n/\∃i σ' H',Inv X pins σ' H' s7/\tn i s7.heap/\(∀b∈fp,H' b=none)/\W i m σ' H':=fun{σ7 H7} I7 n7=>by
      obtain⟨m',hm,w7⟩:=hN σ7 H7 n7;refine⟨m',hm,i+1,σ7,H7,I7.unpinned,T.keep _ _ _ st5 fun b hb o e=>(I7.pin (b,o) (qaK _ (qaK _ (zeM hb e)))).1,fun b hb=>?_,w7⟩;obtain⟨o,e,d⟩:=T.obj _ _ st5 b hb;exact(I7.pin (b,o) (qaK _ (qaK _ (zeM hb e)))).2.1
    cases f with
    |next=>obtain⟨σ7,H7,I7,n7⟩:=q7;exact again I7 n7
    |cont=>obtain⟨σ7,H7,I7,n7⟩:=q7;exact again I7 n7
    |brk=>obtain⟨σ7,H7,I7,q7⟩:=q7;exact⟨σ7,H7,I7.unpinned,q7⟩
    |ret v=>obtain⟨x7,σ7,H7,I7,r7,q7⟩:=q7;exact⟨x7,σ7,H7,I7.unpinned,r7,q7⟩
end
noncomputable abbrev R2:=V->V->Hp->VK->Prop
noncomputable def OpR (X:Cx)(f:Value->Value->Sem Value)(r:R2):Prop:=
 ∀(pins:List (Addr×Obj)) (s:Shared) (σ:St) (H:Hp) (x y:V) (v u:Value) (Q:VK),Inv X pins σ H s->RelV x v->RelV y u->r x y H Q->
  wpAny (model X.prog X.w) X.A (f v u) (EP X pins σ Q) X.xe s
noncomputable def UnR (X:Cx)(f:Value->Sem Value)(r:V->Hp->VK->Prop):Prop:=
 ∀(pins:List (Addr×Obj)) (s:Shared) (σ:St) (H:Hp) (x:V) (v:Value) (Q:VK),Inv X pins σ H s->RelV x v->r x H Q->
  wpAny (model X.prog X.w) X.A (f v) (EP X pins σ Q) X.xe s
noncomputable def zeV (X:Cx)(f:Value)(r:List V->Hp->VK->Prop):Prop:=
 ∀(pins:List (Addr×Obj)) (s:Shared) (σ:St) (H:Hp) (xs:List V) (us:List Value) (Q:VK),Inv X pins σ H s->Vals xs us->r xs H Q->
  wpAny (model X.prog X.w) X.A (call f us) (EP X pins σ Q) X.xe s
noncomputable def TruR (X:Cx)(r:V->Hp->(Bool->Hp->Prop)->Prop):Prop:=
 ∀(pins:List (Addr×Obj)) (s:Shared) (σ:St) (H:Hp) (x:V) (v:Value) (Q:Bool->Hp->Prop),Inv X pins σ H s->RelV x v->r x H Q->
  wpAny (model X.prog X.w) X.A (truthy v) (TP X pins σ Q) X.xe s
noncomputable def tOp (r:R2)(ta tb:TE):TE:=fun σ H Q=>ta σ H fun x H1=>tb σ H1 fun y H2=>r x y H2 Q
noncomputable def tUn (r:V->Hp->VK->Prop)(ta:TE):TE:=fun σ H Q=>ta σ H fun x H1=>r x H1 Q
noncomputable def rI (C:Int->Int->Prop)(g:Int->Int->V):R2:=fun x y H Q=>∃i j,x= .int i/\y= .int j/\C i j/\Q (g i j) H
noncomputable def rI0 (g:Int->Int->V):R2:=fun x y H Q=>∃i j,x= .int i/\y= .int j/\Q (g i j) H
noncomputable def rU (g:Int->V):V->Hp->VK->Prop:=fun x H Q=>∃i,x= .int i/\Q (g i) H
section
variable {X:Cx} {a b c:Expr} {ta tb tc:TE} {pos:Pos}
theorem binT (ha:PE X a ta)(hb:PE X b tb){R:V->V->Hp->Prop}(I:Inv X pins σ H s)
  (h:ta σ H fun x H1=>tb σ H1 fun y H2=>R x y H2) {Q:Value->Shared->Prop} {f:Value->Value->Sem Value}
  (hf:∀v u s2 x y H2,Inv X pins σ H2 s2->RelV x v->RelV y u->R x y H2->wpAny (model X.prog X.w) X.A (f v u) Q X.xe s2):
  wpAny (model X.prog X.w) X.A (eval a X.env) (fun v s₁=>wpAny (model X.prog X.w) X.A (eval b X.env) (fun u s₂=>wpAny (model X.prog X.w) X.A (f v u) Q X.xe s₂) X.xe s₁) X.xe s:=by
 refine thn (ha pins s σ H _ I h) fun v s1 ⟨x,H1,I1,r1,q1⟩=>?_
 refine thn (hb pins s1 σ H1 _ I1 q1) fun u s2 ⟨y,H2,I2,r2,q2⟩=>?_
 exact hf v u s2 x y H2 I2 r1 r2 q2
theorem pe_op {op:Operator}{r:R2}(ho:OpR X (binaryOp op) r)(ha:PE X a ta)(hb:PE X b tb):PE X (.BinOp a op b pos) (tOp r ta tb):=by
 intro pins s σ H Q I h;exact wpAny_BinOp (binT ha hb I h fun v u s2 x y H2 I2 rx ry q=>ho pins s2 σ H2 x y v u Q I2 rx ry q)
theorem pe_un {op:UnaryOp}(ho:UnR X (unaryOp op) r)(ha:PE X a ta):PE X (.UnaryOp op a pos) (tUn r ta):=by
 intro pins s σ H Q I h;exact UnaryOp_ (thn (ha pins s σ H _ I h) fun v s1 ⟨x,H1,I1,r1,q1⟩=>ho pins s1 σ H1 x v Q I1 r1 q1)
theorem opI {C:Int->Int->Prop}
  (rule:∀(i j:Int) (t u:Tok) (s:Shared) (Q:Value->Shared->Prop) (E:Value->Shared->Prop),C i j->Q (.int (g i j) s.toks) {s with toks:=s.toks+1}->wpAny (model X.prog X.w) X.A (f (.int i t) (.int j u)) Q E s):
  OpR X f (rI C fun i j=> .int (g i j)):=by
 intro pins s σ H x y v u Q I rx ry h;obtain⟨i,j,rfl,rfl,hc,q⟩:=h;obtain⟨t,rfl⟩:=rx;obtain⟨t',rfl⟩:=ry;exact rule i j t t' s _ _ hc ⟨.int (g i j),H,I.tok _,⟨_,rfl⟩,q⟩
theorem opI0
  (rule:∀(i j:Int) (t u:Tok) (s:Shared) (Q:Value->Shared->Prop) (E:Value->Shared->Prop),Q (.int (g i j) s.toks) {s with toks:=s.toks+1}->wpAny (model X.prog X.w) X.A (f (.int i t) (.int j u)) Q E s):
  OpR X f (rI0 fun i j=> .int (g i j)):=by
 intro pins s σ H x y v u Q I rx ry h;obtain⟨i,j,rfl,rfl,q⟩:=h;obtain⟨t,rfl⟩:=rx;obtain⟨t',rfl⟩:=ry;exact rule i j t t' s _ _ ⟨.int (g i j),H,I.tok _,⟨_,rfl⟩,q⟩
theorem opB0 {g:Int->Int->Bool}
  (rule:∀(i j:Int) (t u:Tok) (s:Shared) (Q:Value->Shared->Prop) (E:Value->Shared->Prop),Q (.bool (g i j)) s->wpAny (model X.prog X.w) X.A (f (.int i t) (.int j u)) Q E s):
  OpR X f (rI0 fun i j=> .bl (g i j)):=by
 intro pins s σ H x y v u Q I rx ry h;obtain⟨i,j,rfl,rfl,q⟩:=h;obtain⟨t,rfl⟩:=rx;obtain⟨t',rfl⟩:=ry;exact rule i j t t' s _ _ ⟨.bl (g i j),H,I,rfl,q⟩
noncomputable def CPow (i j:Int):Prop:=0<=j/\j<=1000000/\i.natAbs<2^64
theorem op_add:OpR X (binaryOp .Add) (rI0 fun i j=> .int (i+j)):=opI0 fun _ _ _ _ _ _ _ q=>add_int q
theorem op_sub:OpR X (binaryOp .Sub) (rI0 fun i j=> .int (i-j)):=opI0 fun _ _ _ _ _ _ _ q=>sub_int q
theorem op_mod:OpR X (binaryOp .Mod) (rI (fun _ j=>0<j) fun i j=> .int (i%j)):=opI fun i j _ _ _ _ _ hc q=>by
 have h1:(0:Int)<j:=hc;exact mod_int' (by lia) (by rw[Int.fmod_eq_emod_of_nonneg i (by lia)];exact q)
theorem op_pow:OpR X (binaryOp .Pow) (rI CPow fun i j=> .int (i^j.toNat)):=opI fun _ _ _ _ _ _ _ hc q=>pow_int_small hc.1 hc.2.1 hc.2.2 q
theorem unI {f:Value->Sem Value}{g:Int->Int}
  (rule:∀(i:Int) (t:Tok) (s:Shared) (Q:Value->Shared->Prop) (E:Value->Shared->Prop),Q (.int (g i) s.toks) {s with toks:=s.toks+1}->wpAny (model X.prog X.w) X.A (f (.int i t)) Q E s):
  UnR X f (rU fun i=> .int (g i)):=by
 intro pins s σ H x v Q I rx h;obtain⟨i,rfl,q⟩:=h;obtain⟨t,rfl⟩:=rx;exact rule i t s _ _ ⟨.int (g i),H,I.tok _,⟨_,rfl⟩,q⟩
theorem un_neg:UnR X (unaryOp .USub) (rU fun i=> .int (-i)):=unI fun _ _ _ _ _ q=>neg_int q
end
section
variable {X:Cx} {a b c:Expr} {ta tb tc:TE} {pos:Pos}
theorem fin_bl {Q:VK}{k k':Bool}(I:Inv X pins σ H s)(q:Q (.bl k) H)(e:k=k'):EP X pins σ Q (.bool k') s:=by
 subst e;exact⟨.bl k,H,I,rfl,q⟩
theorem op_lt:OpR X (compareOp .Lt) (rI0 fun i j=> .bl (decide (i<j))):=opB0 fun _ _ _ _ _ _ _ q=>lt_int q
theorem zkq:OpR X (compareOp .LtE) (rI0 fun i j=> .bl (decide (i<=j))):=opB0 fun _ _ _ _ _ _ _ q=>le_int q
theorem op_ge:OpR X (compareOp .GtE) (rI0 fun i j=> .bl (decide (j<=i))):=opB0 fun _ _ _ _ _ _ _ q=>ge_int q
theorem op_isN:OpR X (compareOp .Is) (fun x y H Q=>y= .non/\Q (.bl (decide (x= .non))) H):=by
 intro pins s σ H x y v u Q I rx ry h;obtain⟨rfl,q⟩:=h;cases ry;refine is_none_gen (fin_bl I q ?_);cases x<;>first
  |(cases rx;rfl)
  |(obtain⟨t,rfl⟩:=rx;rfl)
theorem op_notN:OpR X (compareOp .IsNot) (fun x y H Q=>y= .non/\Q (.bl (!decide (x= .non))) H):=by
 intro pins s σ H x y v u Q I rx ry h;obtain⟨rfl,q⟩:=h;cases ry;refine isnot_none_gen (fin_bl I q ?_);cases x<;>first
  |(cases rx;rfl)
  |(obtain⟨t,rfl⟩:=rx;rfl)
theorem OpR.or {r r':R2}(h:OpR X f r)(h':OpR X f r'):OpR X f (fun x y H Q=>r x y H Q\/r' x y H Q):=by
 intro pins s σ H x y v u Q I rx ry q;rcases q with q|q
 ·exact h pins s σ H x y v u Q I rx ry q
 ·exact h' pins s σ H x y v u Q I rx ry q
theorem zjL (b:Expr)(h:autoParam (op≠ .In) zu1._auto_1)(h2:autoParam (op≠ .NotIn) zu1._auto_1):behindInMarks op b=false:=by
 have e1:(op==CmpOp.In)=false:=by cases op<;>first|rfl|exact absurd rfl h
 have e2:(op==CmpOp.NotIn)=false:=by cases op<;>first|rfl|exact absurd rfl h2
 cases b<;>simp[behindInMarks,e1,e2]
theorem pe_cmpR {r:R2}(ho:OpR X (compareOp op) r)(ha:PE X a ta)(hb:PE X b tb)(hm:behindInMarks op b=false):PE X (.Compare a [op] [b] pos) (tOp r ta tb):=by
 intro pins s σ H Q I h;exact wpAny_Compare1 (binT ha hb I h fun v u s2 x y H2 I2 rx ry q=>ho pins s2 σ H2 x y v u Q I2 rx ry q) hm
noncomputable def tTest (t:TE):TT:=fun σ H Q=>t σ H fun x H'=>∃k,x= .bl k/\Q k H'
theorem znl {r:R2}(ho:OpR X (compareOp op) r)(ha:PE X a ta)(hb:PE X b tb)(hm:behindInMarks op b=false):PT X (.Compare a [op] [b] pos) (tTest (tOp r ta tb)):=by
 intro pins s σ H Q I h;refine wpAny_isTrue_Compare1 (thn (ha pins s σ H _ I h) fun v s1 ⟨x,H1,I1,r1,q1⟩=>thn (hb pins s1 σ H1 _ I1 q1) fun u s2 ⟨y,H2,I2,r2,q2⟩=>
  thn (ho pins s2 σ H2 x y v u _ I2 r1 r2 q2) fun c s3 ⟨z,H3,I3,r3,k,e,q3⟩=>?_) hm
 subst e;cases r3;exact qay ⟨H3,I3,q3⟩
noncomputable def zne (r r':R2)(ta tb tc:TE):TE:=fun σ H Q=>ta σ H fun x H1=>tb σ H1 fun y H2=>r x y H2 fun z H3=>∃k,z= .bl k/\
 (if k=true then tc σ H3 fun w' H4=>r' y w' H4 Q else Q (.bl false) H3)
theorem pe_chain {r r':R2}(ho:OpR X (compareOp op) r)(ho':OpR X (compareOp op') r')(ha:PE X a ta)(hb:PE X b tb)(hc:PE X c tc)
  (hm:autoParam (lastMarks [op,op'] [b,c]=false) zu5._auto_1):PE X (.Compare a [op,op'] [b,c] pos) (zne r r' ta tb tc):=by
 intro pins s σ H Q I h;refine Compare_chain (thn (ha pins s σ H _ I h) fun v s1 ⟨x,H1,I1,r1,q1⟩=>chain_link (thn (hb pins s1 σ H1 _ I1 q1) fun u s2 ⟨y,H2,I2,r2,q2⟩=>
  thn (ho pins s2 σ H2 x y v u _ I2 r1 r2 q2) fun d s3 ⟨z,H3,I3,r3,k,e,q3⟩=>?_)) hm
 subst e;cases r3;refine qay ?_;cases k with
 |false=>exact ite_ff ⟨.bl false,H3,I3,rfl,q3⟩
 |true=>exact ite_tt (chain_last (thn (hc pins s3 σ H3 _ I3 q3) fun w' s4 ⟨z',H4,I4,r4,q4⟩=>ho' pins s4 σ H4 y z' u w' Q I4 r2 r4 q4))
theorem pt_chain {r r':R2}(ho:OpR X (compareOp op) r)(ho':OpR X (compareOp op') r')(ha:PE X a ta)(hb:PE X b tb)(hc:PE X c tc)
  (hm:autoParam (lastMarks [op,op'] [b,c]=false) zu5._auto_1):PT X (.Compare a [op,op'] [b,c] pos) (tTest (zne r r' ta tb tc)):=by
 intro pins s σ H Q I h;refine isTrue_chain (thn (ha pins s σ H _ I h) fun v s1 ⟨x,H1,I1,r1,q1⟩=>test_link (thn (hb pins s1 σ H1 _ I1 q1) fun u s2 ⟨y,H2,I2,r2,q2⟩=>
  thn (ho pins s2 σ H2 x y v u _ I2 r1 r2 q2) fun d s3 ⟨z,H3,I3,r3,k,e,q3⟩=>?_)) hm
 subst e;cases r3;refine qay ?_;cases k with
 |false=>
  obtain⟨k',e',q'⟩:=q3;cases e';exact ite_ff ⟨H3,I3,q'⟩
 |true=>
  refine ite_tt (test_last (thn (hc pins s3 σ H3 _ I3 q3) fun w' s4 ⟨z',H4,I4,r4,q4⟩=>thn (ho' pins s4 σ H4 y z' u w' _ I4 r2 r4 q4) fun d' s5 ⟨z2,H5,I5,r5,k2,e2,q5⟩=>?_));subst e2;cases r5;exact qay ⟨H5,I5,q5⟩
noncomputable def TruV (K:W.Frag)(x:V)(H:Hp)(k:Bool):Prop:=
 match x with
 | .non=>k=false
 | .bl b=>k=b
 | .int i=>k=(i !=0)
 | .str y=>y.length<=sizeLine/\k=((y.length:Int) !=0)
 | .byt y=>y.size<=sizeLine/\k=((y.size:Int) !=0)
 | .ref p=>(∃xs,SqL K H p xs/\k=!xs.isEmpty)\/(∃xs,SqT K H p xs/\k=!xs.isEmpty)\/∃kvs,H p=some (.dK kvs)/\k=!kvs.isEmpty
 |_=>False
theorem zmG {κ:Type}{kvs:List (κ×V)}{vs:List (κ×Value)}(r:KV kvs vs):(!vs.isEmpty)=!kvs.isEmpty:=by
 cases r<;>rfl
theorem zim (r:Vals xs its):(!its.toArray.isEmpty)=!xs.isEmpty:=by
 cases r<;>simp
theorem ziq:(sizeLine:Nat)<2^63:=by rw[qaM];decide
theorem tru_ok:TruR X (fun x H Q=>∃k,TruV X.K x H k/\Q k H):=by
 intro pins s σ H x v Q I rx h;obtain⟨k,e,q⟩:=h;have hl:=ziq;have hs:sizeLine=16777216:=qaM;cases x with
 |non=>
  cases rx;have e':k=false:=e;subst e';exact truthy_none ⟨H,I,q⟩
 |bl b=>
  cases rx;have e':k=b:=e;subst e';exact qay ⟨H,I,q⟩
 |int i=>
  obtain⟨t,rfl⟩:=rx;have e':k=(i !=0):=e;subst e';exact PySem.P.truthy_int ⟨H,I,q⟩
 |str y=>
  obtain⟨t,rfl⟩:=rx;obtain⟨hy,e'⟩:y.length<=sizeLine/\k=((y.length:Int) !=0):=e;subst e';exact PySem.P.truthy_str (by lia) ⟨H,I.tok _,q⟩
 |byt y=>
  obtain⟨t,rfl⟩:=rx;obtain⟨hy,e'⟩:y.size<=sizeLine/\k=((y.size:Int) !=0):=e;subst e';exact W.truthy_bytes (by lia) ⟨H,I.tok _,q⟩
 |ref p=>
  cases rx;have e':(∃xs,SqL X.K H p xs/\k=!xs.isEmpty)\/(∃xs,SqT X.K H p xs/\k=!xs.isEmpty)\/∃kvs,H p=some (.dK kvs)/\k=!kvs.isEmpty:=e;rcases e' with⟨xs,hx,e'⟩|⟨xs,hx,e'⟩|⟨kvs,hx,e'⟩
  ·subst e';obtain⟨its,r,pl,hz⟩:=I.list hx;have hlen:=r.length;exact wpAny_truthy_list pl.isList (by simp only[qaN];lia) ⟨H,I.tok _,by rw[zim r];exact q⟩
  ·subst e';obtain⟨its,r,pl,hz⟩:=I.tuple hx;have hlen:=r.length;exact truthy_tuple pl (by simp only[qaN];lia) ⟨H,I.tok _,by rw[zim r];exact q⟩
  ·subst e';obtain⟨hz,hS,vs,r,m⟩:kvs.length<=sizeLine/\(p==sysModules)=false/\∃vs,KV kvs vs/\s.heap.DictOf (zbI X.prog X.w) p vs:=I.hok p _ hx;have hlen:kvs.length=vs.length:=qac r;exact wpAny_truthy_dict hS m (by lia) ⟨H,I.tok _,by rw[zmG r];exact q⟩
 |_=>exact(show False from e).elim
theorem pt_truth (ha:PE X a ta)(he:∀whole,isTrue a X.env whole=(do let v<-whole;standAt a.pos;holding [v] (truthy v))):
  PT X a (fun σ H Q=>ta σ H fun x H'=>∃k,TruV X.K x H' k/\Q k H'):=by
 intro pins s σ H Q I h;exact isTrue_plain (thn (ha pins s σ H _ I h) fun v s1 ⟨x,H1,I1,r1,q1⟩=>tru_ok pins s1 σ H1 x v Q I1 r1 q1) (he _)
theorem zmf:OpR X (binaryOp .Add) (fun x y H Q=>∃i j,x= .str i/\y= .str j/\i.length+j.length<=sizeLine/\Q (.str (i++j)) H):=by
 intro pins s σ H x y v u Q I rx ry h;obtain⟨i,j,rfl,rfl,hz,q⟩:=h;obtain⟨t,rfl⟩:=rx;obtain⟨t',rfl⟩:=ry;exact add_str (fun t' tk=>⟨.str (i++j),H,I.tok _,⟨_,rfl⟩,q⟩) hz
theorem zhZ {x:V}(r:Vals [x] us):∃u,us=[u]/\RelV x u:=by
 cases r with
 |cons r1 r2=>cases r2;exact⟨_,rfl,r1⟩
theorem vals2 {x y:V}(r:Vals [x,y] us):∃u w',us=[u,w']/\RelV x u/\RelV y w':=by
 cases r with
 |cons r1 r2=>
  cases r2 with
  |cons r3 r4=>cases r4;exact⟨_,_,rfl,r1,r3⟩
theorem zol (hc:X.calm=true):zeV X (.builtin "min") (fun xs H Q=>∃i j,xs=[.int i,.int j]/\Q (.int (if j<i then j else i)) H):=by
 intro pins s σ H xs us Q I r h;obtain⟨i,j,rfl,q⟩:=h;obtain⟨u,w',rfl,⟨t,rfl⟩,⟨t',rfl⟩⟩:=vals2 r;refine min_two_ints (I.ok.hd hc) fun h' tk k=>⟨_,H,I.kept k,?_,q⟩
 by_cases hj:j<i
 ·rw[if_pos hj,if_pos hj];exact⟨_,rfl⟩
 ·rw[if_neg hj,if_neg hj];exact⟨_,rfl⟩
theorem znA:zeV X (.type "int") (fun xs H Q=>(∃i,xs=[.int i]/\Q (.int i) H)\/∃k,xs=[.bl k]/\Q (.int (if k then 1 else 0)) H):=by
 intro pins s σ H xs us Q I r h;rcases h with⟨i,rfl,q⟩|⟨k,rfl,q⟩
 ·obtain⟨u,rfl,t,rfl⟩:=zhZ r;exact call_int_int ⟨.int i,H,I,⟨_,rfl⟩,q⟩
 ·obtain⟨u,rfl,r1⟩:=zhZ r;cases r1;exact call_int_bool ⟨.int (if k then 1 else 0),H,I.tok _,⟨_,rfl⟩,q⟩
end
structure ObjM (h:Heap) (x dx C:Addr) (mA:Str->Option Value):Prop where
 obj:h.get? x=some (W.instObj C dx)
 ns:h.Ns1 dx mA
 ne:dx≠x
theorem zoW (n:h.Ns1 dx mA):∃od,h.get? dx=some od/\∀name,W.lookIn name od=some (mA name):=by
 obtain⟨o,es,ep,ho,hd,hk,_,hm⟩:=n;refine⟨o,ho,fun name=>?_⟩;have e:=hm name;unfold nsFind findBy at e;rw[<-Array.find?_toList]at e;unfold W.lookIn;rw[hd];dsimp only
 split
 ·rename_i y q;rw[q]at e;exact congrArg some e
 ·rename_i q;rw[q]at e;have a:es.toList.any (·.refKey)=false:=by
   rw[List.any_eq_false];intro y hy;obtain⟨z,t,hkey⟩:=hk y (Array.mem_toList_iff.mp hy);simp[DictEntry.refKey,hkey]
  have a':¬es.toList.any (·.refKey)=true:=by rw[a];exact qaO
  rw[if_neg a'];exact congrArg some e
theorem ObjM.look {x dx C:Addr}(I:ObjM h x dx C mA):∃od,W.InstAt h x (W.instObj C dx) C (some od)/\∀name,W.lookIn name od=some (mA name):=
 let⟨od,ho,hl⟩:=zoW I.ns
 ⟨od,⟨I.obj,rfl,rfl,ho⟩,hl⟩
section
variable {prog:Program} {w:World} {A:Around} {E:Value->Shared->Prop} {s:Shared} {K:W.Frag} {x dx C f:Addr} {mA:Str->Option Value} {name:Str} {v:Value}
theorem get_map {expr:Bool}(X:K.In s.heap)(I:ObjM s.heap x dx C mA)(hg:W.plainGet K C name=true)(hh:W.hasDictIn K C=true)
  (ha:W.findIn K (.ref C) name=some none) (hv:mA name=some v) (hv':W.handedIn v=true) (h:Q v {s with toks:=s.toks+1}):
  wpAny (model prog w) A (getAttr (.ref x) name expr) Q E s:=by
 obtain⟨od,J,hl⟩:=I.look;exact W.get_value X J (W.plainGet_of hg).1 (W.findObj_own hh ha rfl (by rw[hl,hv])) hv' h
theorem get_meth {Q:Value×List Value->Shared->Prop}(X:K.In s.heap)(I:ObjM s.heap x dx C mA)(hg:W.plainGet K C name=true)
  (hf:W.findIn K (.ref C) name=some (some (.ref f))) (ht:W.isFn K (.ref f)=true) (hv:mA name=none) (h:Q (.ref f,[.ref x]) s):
  wpAny (model prog w) A (getMethod (.ref x) name pl) Q E s:=by
 obtain⟨od,J,hl⟩:=I.look;exact W.method_fn X J (W.plainGet_of hg).1 (W.plainGet_of hg).2 hf (qaP.mp ht) (by show(W.lookIn name od).map (·.isSome)=some false;rw[hl,hv];rfl) h
theorem set_map {Q:Unit->Shared->Prop}(X:K.In s.heap)(I:ObjM s.heap x dx C mA)
  (hs:W.findIn K (.ref C) "__setattr__"=some (some (.builtin "object.__setattr__"))) (hp:W.plainOver K C=true) (ht:W.takerIn K C name=some none) (hh:W.hasDictIn K C=true)
  (hw:PySem.Within mA ns) (hsz:ns.length<=sizeLine)
  (h:∀h',ObjM h' x dx C (fun y=>if y=name then some v else mA y)->Heap.SameBut dx s.heap h'->Q () {s with heap:=h',toks:=s.toks+2}):
  wpAny (model prog w) A (setAttr (.ref x) name v) Q E s:=by
 obtain⟨od,J,hl⟩:=I.look;refine W.set_plain X J hs (W.osa_open (s:={s with toks:=s.toks+1}) (r:=none) X J hp ht fun b=>?_);obtain⟨cd,hc,hd'⟩:=W.any_some hh;have hx:s.heap.get? x=some ⟨.ref C,some dx,.plain,#[]⟩:=I.obj;refine qaB (qaE (qaB (qaB (wpAny_loadPart hx (qaB (W.Looks.here (s:={s with toks:=s.toks+1}) (W.looks_clsIn X hc) ?_))))));rw[hd'];refine qaE (a:=some dx) (qaB (qaE (qaB ?_)));refine wpAny_nsSet1 (s:={s with toks:=s.toks+1}) I.ns fun h' hn2 hs2=>?_
 obtain⟨oD,esD,epD,hoD,hdD,hcD⟩:=hn2.count (PySem.Within.cons name v hw);refine qaB (wpAny_lookBehind hoD (by rw[hdD];exact pastItsLine_dict (qal hcD (by rw[qaQ];lia))) ?_);exact qaE (h _ ⟨(hs2.2 _ (Ne.symm I.ne)).trans I.obj,hn2,I.ne⟩ hs2)
theorem make_map {R:Result->Shared->Prop}{vs:List Value}{kw:List (Str×Value)}(X:K.In s.heap)(hm:W.makesIn K C=true)
  (hi:W.findIn K (.ref C) "__init__"=some (some (.ref f))) (hf:W.typeIn K (.ref f)=some (.type "function"))
  (h : codeAny (model prog w) (A.under (.builtin "type.__call__" ⟨.ref C :: vs, kw⟩)) (.call (.ref f) ⟨.ref (s.heap.objs.size + 1) :: vs, kw⟩) (W.InitBack (s.heap.objs.size + 1) R)
   {s with heap:=(s.heap.push W.emptyDict).push (W.instObj C s.heap.objs.size)}):
  codeAny (model prog w) A (.call (.ref C) ⟨vs,kw⟩) R s:=by
 obtain⟨hh,g,d,t,os⟩:=s;exact W.make_core (W.makes_of X hm) (qaR X hi) (fun self=>W.bind_fn X self hf) (.inl rfl) h
end
noncomputable def putF (f:Str)(v:V):List (Str×V)->List (Str×V)
 |[]=>[(f,v)]
 |(g,x)::r=>if g=f then(g,v)::r else(g,x)::putF f v r
theorem zhS (f g:Str)(v:V):∀fs:List (Str×V),(putF f v fs).lookup g=if g=f then some v else fs.lookup g
 |[]=>by
  show List.lookup g [(f,v)]=_
  by_cases h:g=f
  ·have hb:(g==f)=true:=qaP.mpr h;simp only[List.lookup,hb,if_pos h]
  ·have hb:(g==f)=false:=qab.mpr h;simp only[List.lookup,hb,if_neg h]
 |(k,x)::r=>by
  have ih:=zhS f g v r;rw[show putF f v ((k,x)::r)=(if k=f then(k,v)::r else(k,x)::putF f v r)from rfl]
  by_cases hk:k=f
  ·rw[if_pos hk]
   by_cases h:g=k
   ·have hb:(g==k)=true:=qaP.mpr h;simp only[List.lookup,hb,if_pos (h.trans hk)]
   ·have hb:(g==k)=false:=qab.mpr h;simp only[List.lookup,hb,if_neg (fun e:g=f=>h (e.trans hk.symm))]
  ·rw[if_neg hk]
   by_cases h:g=k
   ·have hb:(g==k)=true:=qaP.mpr h;simp only[List.lookup,hb,if_neg (fun e:g=f=>hk (h.symm.trans e))]
   ·have hb:(g==k)=false:=qab.mpr h;simp only[List.lookup,hb];exact ih
theorem zhH (f:Str)(v:V):∀fs:List (Str×V),f∈(putF f v fs).map (·.1)/\∀g,g∈fs.map (·.1)->g∈(putF f v fs).map (·.1)
 |[]=>⟨by simp[putF],fun g h=>by simp at h⟩
 |(k,x)::r=>by
  obtain⟨i1,i2⟩:=zhH f v r;rw[show putF f v ((k,x)::r)=(if k=f then(k,v)::r else(k,x)::putF f v r)from rfl]
  by_cases hk:k=f
  ·rw[if_pos hk];subst hk;exact⟨by simp,fun g h=>by simpa using h⟩
  ·rw[if_neg hk];refine⟨?_,fun g h=>?_⟩
   ·rw[qaS];exact qap _ i1
   ·rw[qaS]at h ⊢;rcases qaq.mp h with e|e
    ·exact qaq.mpr (.inl e)
    ·exact qap _ (i2 g e)
theorem zhF (f:Str)(v:V):∀fs:List (Str×V),(putF f v fs).length<=fs.length+1
 |[]=>by simp[putF]
 |(k,x)::r=>by
  have ih:=zhF f v r;rw[show putF f v ((k,x)::r)=(if k=f then(k,v)::r else(k,x)::putF f v r)from rfl]
  by_cases hk:k=f
  ·rw[if_pos hk,qaQ,qaQ];lia
  ·rw[if_neg hk,qaQ,qaQ];lia
theorem RelO.some_of {o:Option Value}(r:RelO (some v) o):∃u,o=some u/\RelV v u:=by
 cases o with
 |none=>exact(show False from r).elim
 |some u=>exact⟨u,rfl,r⟩
theorem RelO.none_of {o:Option Value}(r:RelO none o):o=none:=by
 cases o with
 |none=>rfl
 |some u=>exact(show False from r).elim
theorem znp (r:RelV v u):W.handedIn u=true:=by
 cases v with
 |non=>cases(show u=Value.none from r);rfl
 |bl b=>cases(show u=Value.bool b from r);rfl
 |int i=>obtain⟨t,e⟩:=(show ∃t,u=Value.int i t from r);cases e;rfl
 |str x=>obtain⟨t,e⟩:=(show ∃t,u=Value.str x t from r);cases e;rfl
 |byt b=>obtain⟨t,e⟩:=(show ∃t,u=Value.bytes b t from r);cases e;rfl
 |flt b=>obtain⟨t,e⟩:=(show ∃t,u=Value.float b t from r);cases e;rfl
 |ref a=>cases(show u=Value.ref a from r);rfl
 |ty n=>cases(show u=Value.type n from r);rfl
section
variable {P:Program} {w:World} {H H':Hp} {h h':Heap} {a C dx:Addr} {fs fs':List (Str×V)}
theorem ziM (hok:HOk P w H h)(e:H a=some (.ins C dx fs)):∃mA,ObjM h a dx C mA/\(∀f,RelO (fs.lookup f) (mA f))/\PySem.Within mA (fs.map (·.1))/\fs.length<=1000/\H dx=some (.own a):=by
 obtain⟨d,z,ne,ob,mA,n,r,q⟩:=(show ObjOk P w H h a (.ins C dx fs)from hok a _ e);exact⟨mA,⟨ob,n,ne⟩,r,q,z,d⟩
end
structure Cls (K:W.Frag) (C:Addr):Prop where
 pg:W.plainGet K C Str.empty=true
 hd:W.hasDictIn K C=true
 po:W.plainOver K C=true
 sa:W.findIn K (.ref C) "__setattr__"=some (some (.builtin "object.__setattr__"))
theorem Cls.get (c:Cls K C)(f:Str):W.plainGet K C f=true:=c.pg
noncomputable def NoAttr (K:W.Frag)(C:Addr)(f:Str):Prop:=W.findIn K (.ref C) f=some none
theorem NoAttr.taker {f:Str}(n:NoAttr K C f):W.takerIn K C f=some none:=by
 unfold W.takerIn;rw[show W.findIn K (.ref C) f=some none from n]
 rfl
structure Meth (K:W.Frag) (C:Addr) (m:Str) (f:Addr):Prop where
 at_:W.findIn K (.ref C) m=some (some (.ref f))
 fn:W.isFn K (.ref f)=true
 kp:W.keepIn K (.ref f)=true
section
variable {X:Cx} {pins:List (Addr×Obj)} {σ:St} {H:Hp} {s:Shared} {a C dx:Addr} {fs:List (Str×V)} {f:Str} {v:V} {A:Around} {E:Value->Shared->Prop}
theorem zmr {b:Bool}(I:Inv X pins σ H s)(e:H a=some (.ins C dx fs))(c:Cls X.K C)(n:NoAttr X.K C f)(l:fs.lookup f=some v)
  (h:∀u s',Inv X pins σ H s'->RelV v u->Q u s'):wpAny (model X.prog X.w) A (getAttr (.ref a) f b) Q E s:=by
 obtain⟨mA,O,r,_,_,_⟩:=ziM I.hok e;obtain⟨u,hu,ru⟩:=RelO.some_of (v:=v) (o:=mA f) (by rw[<-l];exact r f);exact get_map I.kIn O (c.get f) c.hd n hu (znp ru) (h u _ (I.tok _) ru)
theorem zeL {g:Addr}{Q:Value×List Value->Shared->Prop}(I:Inv X pins σ H s)(e:H a=some (.ins C dx fs))(c:Cls X.K C)(k:Meth X.K C m g)(l:fs.lookup m=none)
  (h:Q (.ref g,[.ref a]) s):wpAny (model X.prog X.w) A (getMethod (.ref a) m pl) Q E s:=by
 obtain⟨mA,O,r,_,_,_⟩:=ziM I.hok e;have hn:mA m=none:=RelO.none_of (by rw[<-l];exact r m);exact get_meth I.kIn O (c.get m) k.at_ k.fn hn h
theorem zmF {Q:Unit->Shared->Prop}(I:Inv X pins σ H s)(e:H a=some (.ins C dx fs))(c:Cls X.K C)(n:NoAttr X.K C f)(hl:fs.length<1000)(ry:RelV y u)
  (h:∀s',Inv X pins σ (upd H a (.ins C dx (putF f y fs))) s'->Q () s'):wpAny (model X.prog X.w) A (setAttr (.ref a) f u) Q E s:=by
 obtain⟨mA,O,r,wi,_,ho⟩:=ziM I.hok e;have hz:(fs.map (·.1)).length<=sizeLine:=by rw[qaT,qaM];lia
 refine set_map I.kIn O c.sa c.po n.taker c.hd wi hz fun h' O' sb=>h _ ?_
 have hd:∃o,h'.get? dx=some o:=let⟨o,_,_,e',_⟩:=O'.ns;⟨o,e'⟩;refine I.write (x:=a) (e:=dx) (by rw[e];exact True.intro) (.inr ho) (fun b q hb z=>(sb.2 b hb).trans z) hd ?_;refine⟨by rw[zak O.ne];exact ho,?_,O.ne,O'.obj,_,O'.ns,fun g=>?_,fun g hg=>?_⟩
 ·have:=zhF f y fs;lia
 ·show RelO ((putF f y fs).lookup g) (if g=f then some u else mA g);rw[zhS]
  by_cases q:g=f
  ·rw[if_pos q,if_pos q];exact ry
  ·rw[if_neg q,if_neg q];exact r g
 ·by_cases q:g=f
  ·rw[q];exact(zhH f y fs).1
  ·refine(zhH f y fs).2 g (wi g fun z=>hg ?_);show(if g=f then some u else mA g)=none;rw[if_neg q];exact z
theorem Inv.made (I:Inv X pins σ H s):Inv X pins σ (upd (upd H s.heap.objs.size (.own (s.heap.objs.size+1))) (s.heap.objs.size+1) (.ins C s.heap.objs.size []))
  {s with heap:=(s.heap.push W.emptyDict).push (W.instObj C s.heap.objs.size)}:=by
 have e1:(s.heap.push W.emptyDict).get? s.heap.objs.size=some W.emptyDict:=qaG s.heap rfl;have e2:((s.heap.push W.emptyDict).push (W.instObj C s.heap.objs.size)).get? (s.heap.objs.size+1)=some (W.instObj C s.heap.objs.size):=by
  have:=qaG (s.heap.push W.emptyDict) (o:=W.instObj C s.heap.objs.size) rfl;rwa[qaU]at this
 have e3:(s.heap.push W.emptyDict).Ns s.heap.objs.size (fun _=>none):=⟨W.emptyDict,#[],_,e1,rfl,(fun e he=>absurd he (by simp)),fun _=>rfl⟩;have I1:=I.laid (a:=s.heap.objs.size) (o:= .own (s.heap.objs.size+1)) (h':=s.heap.push W.emptyDict) (t':=s.toks) (fun b u q=>qaF _ q) (qaH _) ⟨_,e1⟩;refine I1.laid (a:=s.heap.objs.size+1) (o:= .ins C s.heap.objs.size []) (t':=s.toks) (fun b u q=>qaF _ q) (Nat.le_of_eq (qaU _ _)) ?_;have ne:s.heap.objs.size≠s.heap.objs.size+1:=qah (qaV _);refine⟨by rw[zak ne,zal],qaW _,ne,e2,fun _=>none,(Heap.Ns1.of_empty e3).at fun o q=>qaF _ q,fun _=>True.intro,fun y hy=>absurd rfl hy⟩
theorem attr_of {env:Env}{f:Str}(hb:attributeBase e f env (eval e env)=eval e env)
  (h:wpAny (model prog w) A (eval e env) (fun o s₁=>wpAny (model prog w) A (getAttr o f true) Q E s₁) E s):wpAny (model prog w) A (eval (.Attribute e f pos) env) Q E s:=
 Attribute_any_ h (by rw[arm_eval_Attribute,hb])
end
noncomputable def tFld (K:W.Frag)(ta:TE)(f:Str):TE:=fun σ H Q=>ta σ H fun x H1=>∃a C dx fs v,x= .ref a/\H1 a=some (.ins C dx fs)/\Cls K C/\NoAttr K C f/\fs.lookup f=some v/\Q v H1
noncomputable def sFld (K:W.Frag)(ta tv:TE)(f:Str):TS:=fun D σ H=>tv σ H fun y H1=>ta σ H1 fun x H2=>∃a C dx fs,x= .ref a/\H2 a=some (.ins C dx fs)/\Cls K C/\NoAttr K C f/\fs.length<1000/\
 D.nx σ (upd H2 a (.ins C dx (putF f y fs)))
section
variable {X:Cx} {o e value:Expr} {f:Str} {pos pos' tpos:Pos} {ta tv:TE}
theorem zit (he:PE X e ta)(hb:attributeBase e f X.env (eval e X.env)=eval e X.env):PE X (.Attribute e f pos) (tFld X.K ta f):=by
 intro pins s σ H Q I h;refine attr_of hb (thn (he pins s σ H _ I h) fun u s1 ⟨x,H1,I1,rx,a,C,dx,fs,v,ex,ea,c,n,l,q⟩=>?_);subst ex;obtain rfl:u=Value.ref a:=rx;exact zmr I1 ea c n l fun u' s2 I2 ru=>⟨v,H1,I2,ru,q⟩
theorem ps_fld (ha:PE X o ta)(hv:PE X value tv)(hs:swapsWith value (some (.Attribute o f pos')) pos.line X.env=pure false):PS X (.Assign [.Attribute o f pos'] value pos) (sFld X.K ta tv f):=by
 intro pins s σ H D I h;refine plainObj_wpAny_Assign_Attribute (thn (hv pins s σ H _ I h) fun u s1 ⟨y,H1,I1,ry,q⟩=>thn (ha pins s1 σ H1 _ I1 q) fun ov s2 ⟨x,H2,I2,rx,a,C,dx,fs,ex,ea,c,n,l,q2⟩=>?_) hs;subst ex;obtain rfl:ov=Value.ref a:=rx;exact zmF I2 ea c n l ry fun s3 I3=>⟨σ,_,I3,q2⟩
end
section
variable {X:Cx} {pins:List (Addr×Obj)} {σ:St} {H:Hp} {s:Shared} {A:Around} {E:Value->Shared->Prop} {Q:Value->Shared->Prop} {c:Value} {b:Bool}
inductive TyOf (K:W.Frag) (H:Hp):V->Value->Prop where
 |non:TyOf K H .non (.type "NoneType")
 |bl (x:Bool):TyOf K H (.bl x) (.type "bool")
 |int (i:Int):TyOf K H (.int i) (.type "int")
 |str (x:Str):TyOf K H (.str x) (.type "str")
 |flt (x:UInt64):TyOf K H (.flt x) (.type "float")
 |lst {a:Addr} {xs:List V} (e:H a=some (.lst xs)):TyOf K H (.ref a) (.type "list")
 |frz {a:Addr} {o:Obj} {xs:List V} (e:H a=some (.frz o (.lst xs))):TyOf K H (.ref a) (.type "list")
 |tup {a:Addr} {xs:List V} (e:H a=some (.tup xs)):TyOf K H (.ref a) (.type "tuple")
 |dK {a:Addr} {kvs:List (Key×V)} (e:H a=some (.dK kvs)):TyOf K H (.ref a) (.type "dict")
 |dT {a:Addr} {kvs:List (List Key×V)} (e:H a=some (.dT kvs)):TyOf K H (.ref a) (.type "dict")
 |ins {a C dx:Addr} {fs:List (Str×V)} (e:H a=some (.ins C dx fs)) (cl:Cls K C) (ha:W.findIn K (.ref C) "__class__"=some (some (.builtin "object.__class__")))
   (hn:W.specialIn K (.builtin "object.__class__") "__get__"=some (some (.builtin "getset_descriptor.__get__"))) (htk:W.takesIn K (.builtin "object.__class__")=some true)
   (hm:W.mroIn K C (.type "object")=some true):TyOf K H (.ref a) (.ref C)
theorem znx {x:V}{u t:Value}(I:Inv X pins σ H s)(rx:RelV x u)(ty:TyOf X.K H x t)(e:W.kitOne X.K t c=some b)(h:∀tk,Q (.bool b) {s with toks:=tk}):
  wpAny (model X.prog X.w) A (call (.builtin "isinstance") [u,c]) Q E s:=by
 cases ty with
 |non=>cases(show u=Value.none from rx);exact qaX W.kitx_none I.kIn True.intro e (fun z=>nomatch z) h
 |bl y=>cases(show u=Value.bool y from rx);exact qaX W.kitx_bool I.kIn True.intro e (fun z=>nomatch z) h
 |int i=>obtain⟨t,q⟩:=(show ∃t,u=Value.int i t from rx);cases q;exact qaX W.kitx_int I.kIn True.intro e (fun z=>nomatch z) h
 |str y=>obtain⟨t,q⟩:=(show ∃t,u=Value.str y t from rx);cases q;exact qaX W.kitx_str I.kIn True.intro e (fun z=>nomatch z) h
 |flt y=>obtain⟨t,q⟩:=(show ∃t,u=Value.float y t from rx);cases q;exact qaX W.kitx_float I.kIn True.intro e (fun z=>nomatch z) h
 | @lst a xs ea=>
  cases(show u=Value.ref a from rx);obtain⟨_,_,n,_,h1⟩:=(show ObjOk X.prog X.w H s.heap a (.lst xs)from I.hok a _ ea);exact qaX W.kitx_list I.kIn ⟨_,h1,rfl⟩ e (fun z=>nomatch z) h
 | @frz a ob xs ea=>
  cases(show u=Value.ref a from rx);obtain⟨_,_,_,n,_,h1⟩:=(show ObjOk X.prog X.w H s.heap a (.frz ob (.lst xs))from I.hok a _ ea);exact qaX W.kitx_list I.kIn ⟨_,h1,rfl⟩ e (fun z=>nomatch z) h
 | @tup a xs ea=>
  cases(show u=Value.ref a from rx);obtain⟨_,_,_,p⟩:=(show ObjOk X.prog X.w H s.heap a (.tup xs)from I.hok a _ ea);obtain⟨o,h1,h2,_⟩:=p;exact qaX W.kitx_tuple I.kIn ⟨o,h1,h2⟩ e (fun z=>nomatch z) h
 | @dK a kvs ea=>
  cases(show u=Value.ref a from rx);obtain⟨_,_,vs,_,p⟩:=(show ObjOk X.prog X.w H s.heap a (.dK kvs)from I.hok a _ ea);obtain⟨o,es,ep,h1,h2,_⟩:=p;exact qaX W.kitx_dict I.kIn ⟨o,h1,h2.1⟩ e (fun z=>nomatch z) h
 | @dT a kvs ea=>
  cases(show u=Value.ref a from rx);obtain⟨_,_,xs,_,o,es,ep,h1,h2,_⟩:=(show ObjOk X.prog X.w H s.heap a (.dT kvs)from I.hok a _ ea);exact qaX W.kitx_dict I.kIn ⟨o,h1,h2.1⟩ e (fun z=>nomatch z) h
 | @ins a C dx fs ea cl ha hn htk hm=>
  cases(show u=Value.ref a from rx);obtain⟨mA,O,_⟩:=ziM I.hok ea;obtain⟨od,J,_⟩:=O.look;exact qaX (W.kitx_own (cl.get _) cl.hd ha hn htk hm) I.kIn J e (fun z=>nomatch z) h
end
structure Room (k:Nat) (A:Around):Prop where
 hd:A.handled=none
 dp:A.depth+3*k+5<recursionLimit
 un:A.units+16*k+200<cLine
 gd:A.guards=some []
theorem Room.mono {j k:Nat}(r:Room k A)(h:j<=k):Room j A:=⟨r.hd,by have:=r.dp;lia,by have:=r.un;lia,r.gd⟩
theorem Room.deeper {k:Nat}(r:Room (k+1) A)(env:Env):Room k (A.deeper env):=
 ⟨r.hd,by have:=r.dp;show A.depth+1+3*k+5<_;lia,by have:=r.un;show A.units+3+16*k+200<_;lia,r.gd⟩
theorem zmK {C:Addr}{kw:List (Str×Value)}:(A.under (.builtin "type.__call__" ⟨.ref C::us,kw⟩)).depth=A.depth+1:=by
 first|rfl|simp[Around.under,Code.weight,Code.isCreation,Code.isGuard,Code.isCaller,Code.frames,Code.isFrame,guardIds]
theorem zmz {C:Addr}{kw:List (Str×Value)}:(A.under (.builtin "type.__call__" ⟨.ref C::us,kw⟩)).units=A.units+1:=by
 first|rfl|simp[Around.under,Code.cUnits,Code.frames,Code.isFrame]
theorem zkJ {C:Addr}{kw:List (Str×Value)}:(A.under (.builtin "type.__call__" ⟨.ref C::us,kw⟩)).guards=A.guards:=by
 first|rfl|simp[Around.under,Code.guards,Code.isGuard,guardIds,pushGuards]
theorem Room.make {k:Nat}(r:Room (k+1) A)(C:Addr)(us:List Value)(kw:List (Str×Value)):Room k (A.under (.builtin "type.__call__" ⟨.ref C::us,kw⟩)):=
 ⟨r.hd,by have:=r.dp;rw[zmK];lia,by have:=r.un;rw[zmz];lia,by rw[zkJ];exact r.gd⟩
theorem Room.depth {k:Nat}(r:Room k A):A.depth<recursionLimit:=by have:=r.dp;lia
theorem Room.units {k:Nat}(r:Room k A):A.units+64<cLine:=by have:=r.un;lia
noncomputable def tNil:TA:=fun _ H Q=>Q [] H
noncomputable def tCons (ta:TE)(tr:TA):TA:=fun σ H Q=>ta σ H fun x H1=>tr σ H1 fun xs H2=>Q (x::xs) H2
section
variable {X:Cx} {e:Expr} {es:List Expr} {te:TE} {t:TA} {pos:Pos}
theorem zbX:PA X [] tNil:=fun _ _ _ _ H Q I h=>Calls.spliced_nil ⟨[],H,I,.nil,h⟩
theorem zaG (ha:PE X e te)(hr:PA X es t)(hs:autoParam (starEach (e::es) X.env=(false,eval e X.env)::starEach es X.env) zu3._auto_1):PA X (e::es) (tCons te t):=by
 intro pos pins s σ H Q I h;rw[hs];show wpAny _ _ (spliced ((false,eval e X.env)::backTo pos (starEach es X.env))) _ _ s;refine Calls.spliced_cons (thn (ha pins s σ H _ I h) fun u s1 ⟨x,H1,I1,r1,q1⟩=>?_);exact thn (hr pos pins s1 σ H1 _ I1 q1) fun us s2 ⟨xs,H2,I2,r2,q2⟩=>⟨x::xs,H2,I2,.cons r1 r2,q2⟩
noncomputable def tTup (t:TA):TE:=fun σ H Q=>t σ H fun xs H1=>xs.length<=sizeLine/\∀p,H1 p=none->Q (.ref p) (upd H1 p (.tup xs))
noncomputable def tLst (t:TA):TE:=fun σ H Q=>t σ H fun xs H1=>xs.length<=sizeLine/\∀p,H1 p=none->Q (.ref p) (upd H1 p (.lst xs))
theorem zlP {x1}(h:PA X es t):PE X (.Tuple es x1 pos) (tTup t):=by
 intro pins s σ H Q I hq;refine wpAny_Tuple_spliced (thn (h pos pins s σ H _ I hq) fun us s1 ⟨xs,H1,I1,r,z,q⟩=>⟨by rw[<-r.length];exact z,?_⟩);have hf:H1 s1.heap.objs.size=none:=I1.hok.fresh (qaH _);refine⟨.ref s1.heap.objs.size,upd H1 s1.heap.objs.size (.tup xs),I1.laid (t':=s1.toks) (fun b u e=>qaF _ e) (qaH _) ?_,rfl,q _ hf⟩;exact⟨z,us,r,⟨_,qaG _ rfl,rfl,_,rfl⟩⟩
theorem pe_lst (h:PA X es t):PE X (.List es pos) (tLst t):=by
 intro pins s σ H Q I hq;refine wpAny_List_spliced (thn (h pos pins s σ H _ I hq) fun us s1 ⟨xs,H1,I1,r,z,q⟩=>⟨by rw[<-r.length];exact z,?_⟩);have hf:H1 s1.heap.objs.size=none:=I1.hok.fresh (qaH _);refine⟨.ref s1.heap.objs.size,upd H1 s1.heap.objs.size (.lst xs),I1.laid (t':=s1.toks) (fun b u e=>qaF _ e) (qaH _) ?_,rfl,q _ hf⟩;exact⟨z,us,0,r,qaG _ rfl⟩
end
noncomputable abbrev Sp:=List V->Hp->VK->XK->Prop
noncomputable abbrev CXT:=List Env->Hp->Shared->XK->Value->Shared->Prop
structure Env0 (P:Program) (w:World) (K:W.Frag) (mg:Str->Option Value) (base:Heap) (A:Around) (outer:List Env) (s:Shared) (H:Hp):Prop where
 frames:A.frames=some outer
 mod:Mod K mg base
 bs:∀b o,base.get? b=some o->s.heap.get? b=some o/\H b=none
 bsz:base.objs.size<=s.heap.objs.size
 funs:s.heap.FunFrames base outer
 frf:∀b∈frs outer,H b=none
 hok:HOk P w H s.heap
 bare:AllBare s.gens
noncomputable def CE (outer:List Env)(P:Program)(w:World)(H:Hp)(s:Shared)(Q:VK)(u:Value)(s':Shared):Prop:=
 ∃v H',s'.os=s.os/\AllBare s'.gens/\Un (frs outer) [] H H' s.heap s'.heap/\HOk P w H' s'.heap/\RelV v u/\Q v H'
noncomputable def CR (CX:CXT)(outer:List Env)(P:Program)(w:World)(H:Hp)(s:Shared)(Q:VK)(E:XK)(r:Result)(s':Shared):Prop:=
 match r with
 | .ok (.ret u)=>CE outer P w H s Q u s'
 | .ok _=>False
 | .error e=>CX outer H s E e s'
structure FnOk (P:Program) (w:World) (K:W.Frag) (mg:Str->Option Value) (base:Heap) (CX:CXT) (k:Nat) (f:Addr) (fd:FuncData) (ps:List Str) (sp:Sp):Prop where
 len:∀vs H Q E,sp vs H Q E->vs.length=ps.length
 run:∀(A:Around) (outer:List Env) (s:Shared) (H:Hp) (args:Args) (us:List Value) (vs:List V) (Q:VK) (E:XK),Room k A->Env0 P w K mg base A outer s H->BindsTo s fd args (ps.zip us)->Vals vs us->sp vs H Q E->
  codeAny (model P w) A (.call (.ref f) args) (CR CX outer P w H s Q E) s
theorem Env0.make {P:Program}{base:Heap}(e:Env0 P w K mg base A outer s H)(C:Addr)(us:List Value)(kw:List (Str×Value)):
  Env0 P w K mg base (A.under (.builtin "type.__call__" ⟨.ref C::us,kw⟩)) outer s H:=⟨by first|exact e.frames|(simpa[Around.under,Code.envs,Code.isFrame,pushEnvs]using e.frames),e.mod,e.bs,e.bsz,e.funs,e.frf,e.hok,e.bare⟩
section
variable {X:Cx} {pins:List (Addr×Obj)} {σ:St} {H:Hp} {s s':Shared}
theorem Inv.env0 (I:Inv X pins σ H s):Env0 X.prog X.w X.K X.mg X.base X.A X.stack s H:=
 ⟨I.ok.frames,I.ok.mod,I.bs,qal I.ok.bsz I.sz,I.stack,I.stkFree,I.hok,I.bare⟩
theorem Inv.after {Q:VK}(I:Inv X pins σ H s)(h:CE X.stack X.prog X.w H s Q u s'):EP X pins σ Q u s':=by
 obtain⟨v,H',os,bare,un,hok,r,q⟩:=h;obtain⟨hh,g,d,t,os'⟩:=s';obtain rfl:os'=s.os:=os;exact⟨v,H',I.call (h':=hh) (g':=g) (d':=d) (t':=t) (ch:=[]) un hok bare (fun b z=>absurd z (by simp)),r,q⟩
end
noncomputable def tCall (sp:Sp)(dvs:List V)(E:XK)(t:TA):TE:=fun σ H Q=>t σ H fun vs H1=>sp (vs++dvs) H1 Q E
noncomputable def tMeth (C:Addr)(m:Str)(sp:Sp)(dvs:List V)(E:XK)(ta:TE)(t:TA):TE:=fun σ H Q=>ta σ H fun x H1=>∃a dx fs,x= .ref a/\H1 a=some (.ins C dx fs)/\fs.lookup m=none/\
 t σ H1 fun vs H2=>sp (x::(vs++dvs)) H2 Q E
noncomputable def tMake (C:Addr)(sp:Sp)(dvs:List V)(E:XK)(t:TA):TE:=fun σ H Q=>t σ H fun vs H1=>∀x dx,H1 x=none->H1 dx=none->dx≠x->
 sp (.ref x::(vs++dvs)) (upd (upd H1 dx (.own x)) x (.ins C dx [])) (fun v H2=>v= .non/\Q (.ref x) H2) E
noncomputable def Binds (K:W.Frag)(fd:FuncData)(ps:List Str)(ds:List Value):Prop:=
 ∀(s:Shared) (us:List Value),K.In s.heap->(us++ds).length=ps.length->BindsTo s fd ⟨us,[]⟩ (ps.zip (us++ds))
theorem Binds.all (h:∀us:List Value,us.length=ps.length->bindArgs fd ⟨us,[]⟩=pure (ps.zip us)):Binds K fd ps []:=fun s us _ hl=>by
 rw[qaY]at hl ⊢;exact .of_eq (h us hl)
noncomputable def zgA (CX:CXT)(X:Cx)(E:XK):Prop:=∀(pins:List (Addr×Obj)) (σ:St) (H:Hp) (s:Shared) (e:Value) (s':Shared),Inv X pins σ H s->CX X.stack H s E e s'->X.xe e s'
section
variable {X:Cx} {CX:CXT} {k:Nat} {f C:Addr} {fd:FuncData} {ps:List Str} {sp:Sp} {dvs:List V} {ds:List Value} {E:XK} {x m:Str} {p pos apos:Pos} {e o:Expr} {es:List Expr} {ta:TE} {t:TA}
theorem zo6 {Q:VK}(F:FnOk X.prog X.w X.K X.mg X.base CX k f fd ps sp)(hr:Room k X.A)(hb:Binds X.K fd ps ds)(hd:Vals dvs ds)(hx:zgA CX X E)
  (I:Inv X pins σ H s) (r:Vals vs us) (h:sp (vs++dvs) H Q E):wpAny (model X.prog X.w) X.A (call (.ref f) us) (EP X pins σ Q) X.xe s:=by
 have r2:Vals (vs++dvs) (us++ds):=r.append hd;have hl:(us++ds).length=ps.length:=by rw[<-r2.length];exact F.len _ _ _ _ h
 refine qaZ (qa0 (F.run X.A X.stack s H ⟨us,[]⟩ (us++ds) (vs++dvs) Q E hr I.env0 (hb s us I.kIn hl) r2 h) fun r s' hq=>?_);cases r with
 |error e=>exact hx pins σ H s e s' I hq
 |ok fl=>
  cases fl with
  |ret u=>exact I.after hq
  |next=>exact False.elim hq
  |brk=>exact False.elim hq
  |cont=>exact False.elim hq
theorem zg0 (F:FnOk X.prog X.w X.K X.mg X.base CX k f fd ps sp)(hr:Room k X.A)(hg:Gl X x)(hm:X.mg x=some (.ref f))(hk:W.keepIn X.K (.ref f)=true)(hb:Binds X.K fd ps ds)(hd:Vals dvs ds)(hx:zgA CX X E)
  (ha:PA X (e::es) t) (hdb:autoParam ((x==("__debug__":Str))=false) zu1._auto_1) (he:autoParam (starEach (e::es) X.env=(false,eval e X.env)::starEach es X.env) zu3._auto_1) (hpl:autoParam ((backTo pos (starEach es X.env)).any (·.1)=false) zu3._auto_1):
  PE X (.Call (.Name x p) (e::es) [] pos) (tCall sp dvs E t):=by
 intro pins s σ H Q I h;refine qa1 (ziP I hg hm ?_ hdb);refine W.callWith_K (h₀:=X.base) I.ok.mod.kin hk (thn (ha pos pins s σ H _ I h) fun us s1 ⟨vs,H1,I1,r,q⟩=>⟨I1.kIn,?_⟩) he hpl;exact zo6 F hr hb hd hx I1 r q
theorem pe_meth {pl:Sem Bool}(he:PE X o ta)(c:Cls X.K C)(hm:Meth X.K C m f)(F:FnOk X.prog X.w X.K X.mg X.base CX k f fd ps sp)(hr:Room k X.A)(hb:Binds X.K fd ps ds)(hd:Vals dvs ds)(hx:zgA CX X E)(ha:PA X (e::es) t)
  (hst:autoParam (starEach (e::es) X.env=(false,eval e X.env)::starEach es X.env) zu3._auto_1) (hpl:autoParam ((backTo pos (starEach es X.env)).any (·.1)=false) zu3._auto_1)
  (ht :autoParam (eval (.Call (.Attribute o m apos) (e :: es) [] pos) X.env = (do
   let ov<-eval o X.env
   standAt apos.atName
   let(f,first)<-holding [ov] (getMethod ov m pl)
   callWith pos f first (backTo pos (starEach (e::es) X.env)) (backToKw pos (keywordEach [] X.env)))) zu3._auto_1):
  PE X (.Call (.Attribute o m apos) (e::es) [] pos) (tMeth C m sp dvs E ta t):=by
 intro pins s σ H Q I h;refine qa2 (pl:=pl) (thn (he pins s σ H _ I h) fun u s1 ⟨x,H1,I1,rx,a,dx,fs,ex,ea,l,q⟩=>?_) ht;subst ex;obtain rfl:u=Value.ref a:=rx;refine zeL I1 ea c hm l ?_;refine W.callWith_K (first:=[.ref a]) (h₀:=X.base) I.ok.mod.kin hm.kp (thn (ha pos pins s1 σ H1 _ I1 q) fun us s2 ⟨vs,H2,I2,r,q2⟩=>⟨I2.kIn,?_⟩) hst hpl;exact zo6 (us:= .ref a::us) (vs:= .ref a::vs) F hr hb hd hx I2 (.cons rfl r) q2
theorem pe_meth0 {pl:Sem Bool}(he:PE X o ta)(c:Cls X.K C)(hm:Meth X.K C m f)(F:FnOk X.prog X.w X.K X.mg X.base CX k f fd ps sp)(hr:Room k X.A)(hb:Binds X.K fd ps ds)(hd:Vals dvs ds)(hx:zgA CX X E)
  (ht :autoParam (eval (.Call (.Attribute o m apos) [] [] pos) X.env = (do
   let ov<-eval o X.env
   standAt apos.atName
   let(f,first)<-holding [ov] (getMethod ov m pl)
   callWith pos f first (backTo pos (starEach [] X.env)) (backToKw pos (keywordEach [] X.env)))) zu3._auto_1):
  PE X (.Call (.Attribute o m apos) [] [] pos) (tMeth C m sp dvs E ta tNil):=by
 intro pins s σ H Q I h;refine qa2 (pl:=pl) (thn (he pins s σ H _ I h) fun u s1 ⟨x,H1,I1,rx,a,dx,fs,ex,ea,l,q⟩=>?_) ht;subst ex;obtain rfl:u=Value.ref a:=rx;refine zeL I1 ea c hm l ?_;exact W.callWith_K0 (first:=[.ref a]) I1.kIn hm.kp (zo6 (us:=[.ref a]) (vs:=[.ref a]) F hr hb hd hx I1 (.cons rfl .nil) q)
structure Mk (K:W.Frag) (C f:Addr):Prop where
 makes:W.makesIn K C=true
 init:W.findIn K (.ref C) "__init__"=some (some (.ref f))
 fn:W.isFn K (.ref f)=true
 kp:W.keepIn K (.ref C)=true
theorem run_make {Q:VK}(M:Mk X.K C f)(F:FnOk X.prog X.w X.K X.mg X.base CX k f fd ps sp)(hr:Room (k+1) X.A)(hb:Binds X.K fd ps ds)(hd:Vals dvs ds)
  (hx:zgA CX X E) (I:Inv X pins σ H s) (r:Vals vs us)
  (h:∀x dx,H x=none->H dx=none->dx≠x->sp (.ref x::(vs++dvs)) (upd (upd H dx (.own x)) x (.ins C dx [])) (fun v H2=>v= .non/\Q (.ref x) H2) E):
  wpAny (model X.prog X.w) X.A (call (.ref C) us) (EP X pins σ Q) X.xe s:=by
 have hq:=h (s.heap.objs.size+1) s.heap.objs.size (I.hok.fresh (Nat.le_succ _)) (I.hok.fresh (qaH _)) (qah (qaV _));have I2:=Inv.made (C:=C) I;have r2:Vals (V.ref (s.heap.objs.size+1)::(vs++dvs)) (Value.ref (s.heap.objs.size+1)::(us++ds)):= .cons rfl (r.append hd);have hl:(Value.ref (s.heap.objs.size+1)::us++ds).length=ps.length:=by
  have e:=r2.length;rw[F.len _ _ _ _ hq]at e;exact e.symm
 refine qaZ (make_map (f:=f) I.kIn M.makes M.init (qaP.mp M.fn) (qa0 (F.run _ X.stack _ _ ⟨Value.ref (s.heap.objs.size+1)::us,[]⟩ (Value.ref (s.heap.objs.size+1)::(us++ds)) _ _ E (hr.make C us [])
  (I2.env0.make C us []) (hb _ (Value.ref (s.heap.objs.size+1)::us) I2.kIn hl) r2 hq) fun r s' hq'=>?_))
 cases r with
 |error e=>exact hx pins σ _ _ e s' I2 hq'
 |ok fl=>
  cases fl with
  |ret u=>
   obtain⟨v,H',I3,rv,ev,q3⟩:=I2.after hq';subst ev;exact⟨rv,⟨V.ref (s.heap.objs.size+1),H',I3,rfl,q3⟩⟩
  |next=>exact False.elim hq'
  |brk=>exact False.elim hq'
  |cont=>exact False.elim hq'
theorem pe_make (M:Mk X.K C f)(F:FnOk X.prog X.w X.K X.mg X.base CX k f fd ps sp)(hr:Room (k+1) X.A)(hg:Gl X x)(hm:X.mg x=some (.ref C))(hb:Binds X.K fd ps ds)(hd:Vals dvs ds)(hx:zgA CX X E)
  (ha:PA X (e::es) t) (hdb:autoParam ((x==("__debug__":Str))=false) zu1._auto_1) (he:autoParam (starEach (e::es) X.env=(false,eval e X.env)::starEach es X.env) zu3._auto_1) (hpl:autoParam ((backTo pos (starEach es X.env)).any (·.1)=false) zu3._auto_1):
  PE X (.Call (.Name x p) (e::es) [] pos) (tMake C sp dvs E t):=by
 intro pins s σ H Q I h;refine qa1 (ziP I hg hm ?_ hdb);refine W.callWith_K (h₀:=X.base) I.ok.mod.kin M.kp (thn (ha pos pins s σ H _ I h) fun us s1 ⟨vs,H1,I1,r,q⟩=>⟨I1.kIn,?_⟩) he hpl;exact run_make M F hr hb hd hx I1 r q
end
structure FnScope (N P:List Str) (sc:Scope):Prop where
 kind:sc.kind= .function
 co:sc.isCoroutine=false
 gen:sc.isGenerator=false
 nd:N.Nodup
 pre:N.take P.length=P
 par:∀x∈P,sc.names.lookup x=some .local\/sc.names.lookup x=some .cell
 nofree:∀y∈sc.names,y.2≠ .free
theorem zjH:∀{binds:List (Str×Value)} {m:Str->Option Value},(∀v,(x,v)∉binds)->bindL kindOf binds m x=m x
 |[],_,_=>rfl
 |(n,v)::r,m,h=>by
  unfold bindL;rw[zjH fun w hw=>h w (qap _ hw)]
  split
  ·have:x≠n:=by rintro rfl;exact h v qao
   simp[this]
  ·rfl
theorem zkb:∀{binds:List (Str×Value)} {m:Str->Option Value},(∀v,(x,v)∉binds)->bindC kindOf binds m x=m x
 |[],_,_=>rfl
 |(n,v)::r,m,h=>by
  unfold bindC;rw[zkb fun w hw=>h w (qap _ hw)]
  split
  ·rfl
  ·have:x≠n:=by rintro rfl;exact h v qao
   simp[this]
theorem zjP {v:Value}:∀{P:List Str} {vs:List Value} {i:Nat} {m:Str->Option Value},P.Nodup->P[i]? =some x->vs[i]? =some v->kindOf x=some .local->
  bindL kindOf (P.zip vs) m x=some v
 |[],_,_,_,_,h,_,_=>by simp at h
 |_::_,[],_,_,_,_,h,_=>by simp at h
 |p::P,w::vs,0,m,nd,h1,h2,hk=>by
  simp at h1 h2;subst h1;subst h2;show bindL kindOf ((p,w)::P.zip vs) m p=_;unfold bindL;rw[zjH fun v hv=>(qa3.mp nd).1 (List.of_mem_zip hv).1,if_pos hk];simp
 |p::P,w::vs,i+1,m,nd,h1,h2,hk=>by
  show bindL kindOf ((p,w)::P.zip vs) m x=_;unfold bindL;exact zjP (i:=i) (qa3.mp nd).2 (by simpa using h1) (by simpa using h2) hk
theorem zjp {v:Value}:∀{P:List Str} {vs:List Value} {i:Nat} {m:Str->Option Value},P.Nodup->P[i]? =some x->vs[i]? =some v->kindOf x≠some .local->
  bindC kindOf (P.zip vs) m x=some v
 |[],_,_,_,_,h,_,_=>by simp at h
 |_::_,[],_,_,_,_,h,_=>by simp at h
 |p::P,w::vs,0,m,nd,h1,h2,hk=>by
  simp at h1 h2;subst h1;subst h2;show bindC kindOf ((p,w)::P.zip vs) m p=_;unfold bindC;rw[zkb fun v hv=>(qa3.mp nd).1 (List.of_mem_zip hv).1,if_neg hk];simp
 |p::P,w::vs,i+1,m,nd,h1,h2,hk=>by
  show bindC kindOf ((p,w)::P.zip vs) m x=_;unfold bindC;exact zjp (i:=i) (qa3.mp nd).2 (by simpa using h1) (by simpa using h2) hk
noncomputable def start (N:List Str)(vs:List V):St:=vs.map some++List.replicate (N.length-vs.length) none
noncomputable def cxOf (CX:CXT)(P:Program)(w:World)(K:W.Frag)(mg:Str->Option Value)(base:Heap)(N:List Str)(qual:Str)(scope:Scope)(f:Addr)(cd:Value)(A:Around)(outer:List Env)(s:Shared)(H:Hp)(E:XK):Cx where
 prog:=P
 w:=w
 K:=K
 mg:=mg
 base:=base
 A:=A.deeper (envOfC qual scope s.heap.objs.size f cd)
 N:=N
 s₀:=s
 H₀:=H
 env:=envOfC qual scope s.heap.objs.size f cd
 outer:=outer
 stack:=envOfC qual scope s.heap.objs.size f cd::outer
 ex:=[]
 calm:=true
 fn:=fun _=>true
 pn:=[]
 xe:=fun e s'=>wpAny (model P w) (A.deeper (envOfC qual scope s.heap.objs.size f cd)) (leaving (envOfC qual scope s.heap.objs.size f cd) e) (fun _ s''=>CX outer H s E e s'') (fun e' s''=>CX outer H s E e' s'') s'
theorem zlR (h:sc.names.lookup x=some .cell):∃c,(cellsFrom n sc.names []).lookup x=some c:=by
 have q:=W.cellsFrom_some sc.names n [] (.inl h);exact qa4.mp q
theorem znY {P:Program}{base:Heap}{f:Addr}{s s1:Shared}{E:XK}
  (S:FnScope N ps scope) (hd:A.handled=none) (e0:Env0 P w K mg base A outer s H) (hl:vs.length=ps.length) (r:Vals vs us)
  (x:InCallC s s.heap.objs.size (bindL (envOfC qual scope s.heap.objs.size f cd).kindOf (ps.zip us) fun _=>none) (cellsFrom (s.heap.objs.size+1) scope.names []) (bindC (envOfC qual scope s.heap.objs.size f cd).kindOf (ps.zip us) fun _=>none) s1):
  Inv (cxOf CX P w K mg base N qual scope f cd A outer s H E) [] (start N vs) H s1:=by
 have hpl:ps.length<=N.length:=by have:=congrArg List.length S.pre;rw[qa5]at this;lia
 obtain⟨h1,tk,rfl,hk⟩:=x.done;have noA:∀b:Addr,b∉(cxOf CX P w K mg base N qual scope f cd A outer s H E).ex:=fun b z=>absurd (show b∈([]:List Addr)from z) (by simp)
 refine⟨⟨e0.mod,S.kind,rfl,rfl,qaH _,fun y z c h1 h2=>?_,fun y hy=>?_,fun y c _ h=>?_,fun _=>hd,Around.frames_deeper e0.frames,.inr ⟨rfl,rfl⟩,fun b z=>absurd z (noA b),e0.bs,e0.bsz,fun b _ _=>noA b,fun b z=>absurd z (noA b),e0.funs,e0.frf⟩,
  rfl,e0.bare,Un.kept hk,⟨_,x.toInCall.ns,fun i y v h1 h2 h3=>?_⟩,fun y c h=>⟨_,x.cell y c h⟩,e0.hok.fresh (qaH _),fun y c h=>?_,fun p hp=>absurd (show p∈([]:List (Addr×Obj))from hp) (by simp),e0.hok.kept hk,?_⟩
 ·exact name_of_addr x.apart (qa6 h1) (qa6 h2)
 ·have hy:scope.names.lookup y=some .cell\/scope.names.lookup y=some .free:=hy;rcases hy with hy|hy
  ·exact zlR hy
  ·exact absurd rfl (S.nofree _ (qa6 hy))
 ·exact qam (x.above y c (qa6 h))
 ·have hi:i<vs.length:=by
   unfold start at h2
   by_cases hi:i<vs.length
   ·exact hi
   ·rw[qa7 (by simpa using hi)]at h2;rw[qa8]at h2
    split at h2<;>cases h2
  have ha:vs[i]? =some v:=by
   unfold start at h2;rw[qa9 (by simpa using hi),qba]at h2;cases e:vs[i]? with
   |none=>rw[e]at h2;cases h2
   |some a=>rw[e]at h2;cases h2;rfl
  obtain⟨u,hu,rv⟩:=r.get ha;have hp:ps[i]? =some y:=by
   rw[<-S.pre,List.getElem?_take_of_lt (by lia)];exact h1
  have ndP:ps.Nodup:=by rw[<-S.pre];exact S.nd.sublist (List.take_sublist _ _)
  refine⟨u,rv,?_⟩;rcases S.par y (qbb hp)with k|k
  ·exact .inl ⟨k,zjP ndP hp hu k⟩
  ·obtain⟨c,e⟩:=zlR (n:=s.heap.objs.size+1) k;refine .inr ⟨.inl k,c,e,?_⟩;have q:=x.cell y c e;rw[zjp ndP hp hu (by show scope.names.lookup y≠_;rw[k];decide)]at q;exact q
 ·exact e0.hok.fresh (qam (x.above y c (qa6 h)))
 ·unfold start;show _=N.length;rw[qbc,qaT,qbd];lia
theorem fn_of {P:Program}{base:Heap}{k:Nat}{f:Addr}{name qual:Str}{dV kV doc pm cdv ct oc:Value}{an od:Option Addr}
  {osl:Array (Option Value)} {N ps:List Str} {sp:Sp} (lk:K.lookup f=some ⟨oc,od,.func (W.fnOf name qual params body scope dV kV doc pm an cdv ct),osl⟩) (hcd:W.codeIn K cdv qual=true) (S:FnScope N ps scope)
  (len:∀vs H Q E,sp vs H Q E->vs.length=ps.length)
  (hbody : ∀ (A : Around) (outer : List Env) (s : Shared) (H : Hp) (vs : List V) (Q : VK) (E : XK), Room k (A.deeper (envOfC qual scope s.heap.objs.size f cdv)) -> sp vs H Q E ->
   ∃t,PSs (cxOf CX P w K mg base N qual scope f cdv A outer s H E) body t/\t {nx:=fun _ H'=>Q .non H',rt:=Q} (start N vs) H):
  FnOk P w K mg base CX (k+1) f (W.fnOf name qual params body scope dV kV doc pm an cdv ct) ps sp:=by
 refine⟨len,fun A outer s H args us vs Q E hr e0 hb r hsp=>?_⟩;have hl:=len _ _ _ _ hsp;have KX:K.In s.heap:=e0.mod.kin.keeps fun b o e=>(e0.bs b o e).1
 have lim:s.heap.NoLimit:=e0.mod.nolimit.keeps fun b o e=>(e0.bs b o e).1
 have hkind:∀y∈ps.zip us,scope.names.lookup y.1=some .local\/(scope.names.lookup y.1=some .cell/\((cellsFrom (s.heap.objs.size+1) scope.names []).lookup y.1).isSome=true):=fun⟨n,v⟩ hy=>by
  rcases S.par n (List.of_mem_zip hy).1 with q|q
  ·exact .inl q
  ·exact .inr ⟨q,W.cellsFrom_some _ _ _ (.inl q)⟩
 refine codeAny_call_function hr.depth (KX _ _ lk) rfl S.co S.gen rfl (W.codeRec_of KX hcd) (hb _ _ _ _ ?_);refine wpAny_newFunctionEnv_cells S.kind hkind fun env he s1 x=>?_
 subst he;refine⟨lim.keeps x.toInCall.keep,codeAny_func ?_⟩;obtain⟨t,ht,hq⟩:=hbody A outer s H vs Q E (hr.deeper _) hsp;have I:Inv (cxOf CX P w K mg base N qual scope f cdv A outer s H E) [] (start N vs) H s1:=znY S hr.hd e0 hl r x;refine qaw (ht [] s1 (start N vs) H _ I hq) (fun fl s' hs=>?_) fun e s' hs=>hs
 have fin:∀{σ':St} {H':Hp} {v:V} {u:Value},Inv (cxOf CX P w K mg base N qual scope f cdv A outer s H E) [] σ' H' s'->RelV v u->Q v H'->CE outer P w H s Q u s':=
  fun{σ' H' v u} J rv q=>⟨v,H',J.os,J.bare,J.base,J.hok,rv,q⟩
 cases fl with
 |ret u=>
  obtain⟨v,σ',H',J,rv,q⟩:=hs;exact fin J rv q
 |next=>
  obtain⟨σ',H',J,q⟩:=hs;exact fin (v:=V.non) (u:=Value.none) J rfl q
 |brk=>
  obtain⟨_,_,_,q⟩:=hs;exact False.elim q
 |cont=>
  obtain⟨_,_,_,q⟩:=hs;exact False.elim q
section
variable {X:Cx} {x:Str} {p pos:Pos} {e:Expr} {es:List Expr} {t:TA} {id T:String} {r:List V->Hp->VK->Prop}
noncomputable def tCB (r:List V->Hp->VK->Prop)(t:TA):TE:=fun σ H Q=>t σ H fun vs H1=>r vs H1 Q
theorem zdM (hc:zeV X (.builtin id) r)(hg:Gl X x)(hm:X.mg x=none)(hv:bootBuiltins x=some (.builtin id))(ha:PA X (e::es) t)(hn:autoParam (x≠"__name__") zu1._auto_1)(hdb:autoParam ((x==("__debug__":Str))=false) zu1._auto_1)
  (he:autoParam (starEach (e::es) X.env=(false,eval e X.env)::starEach es X.env) zu3._auto_1) (hpl:autoParam ((backTo pos (starEach es X.env)).any (·.1)=false) zu3._auto_1):PE X (.Call (.Name x p) (e::es) [] pos) (tCB r t):=by
 intro pins s σ H Q I h;refine qa1 (zij I hg hm hv ?_ hn hdb);exact PyProof.Rows.callWith_builtin1 (thn (ha pos pins s σ H _ I h) fun us s1 ⟨vs,H1,I1,r1,q1⟩=>hc pins s1 σ H1 vs us Q I1 r1 q1) he hpl
theorem zfP (hc:zeV X (.type T) r)(hg:Gl X x)(hm:X.mg x=none)(hv:bootBuiltins x=some (.type T))(ha:PA X (e::es) t)(hn:autoParam (x≠"__name__") zu1._auto_1)(hdb:autoParam ((x==("__debug__":Str))=false) zu1._auto_1)
  (he:autoParam (starEach (e::es) X.env=(false,eval e X.env)::starEach es X.env) zu3._auto_1) (hpl:autoParam ((backTo pos (starEach es X.env)).any (·.1)=false) zu3._auto_1):PE X (.Call (.Name x p) (e::es) [] pos) (tCB r t):=by
 intro pins s σ H Q I h;refine qa1 (zij I hg hm hv ?_ hn hdb);exact qaI (thn (ha pos pins s σ H _ I h) fun us s1 ⟨vs,H1,I1,r1,q1⟩=>hc pins s1 σ H1 vs us Q I1 r1 q1) he hpl
end
end L2
namespace HT
open PyProof.Rows PySem
noncomputable def zhT:List Int->List Int->Bool
 |[],[]=>false
 |[],_::_=>true
 |_::_,[]=>false
 |x::xs,y::ys=>if x=y then zhT xs ys else decide (x<y)
theorem zdq (x y:Int)(xs ys:List Int):zhT (x::xs) (y::ys)=if x=y then zhT xs ys else decide (x<y):=rfl
section
variable {prog:Program} {w:World} {A:Around} {E:Value->Shared->Prop} {s:Shared}
theorem cat_tup {t b:Addr}{vs ws:List Value}{Q:Value->Shared->Prop}(ht:IsTup s.heap t vs.toArray)(hb:IsTup s.heap b ws.toArray)(hv:vs≠[])
  (h1:ws=[]->Q (.ref t) s) (h2:ws≠[]->Q (.ref s.heap.objs.size) {s with heap:=s.heap.push {cls:= .type "tuple",data:= .seq (vs++ws).toArray}})
  (hsz:vs.length+ws.length<=sizeLine):wpAny (model prog w) A (binaryOp .Add (.ref t) (.ref b)) Q E s:=by
 obtain⟨⟨cls,dd,data,sl⟩,ho,hc,n,hd⟩:=id ht;obtain⟨⟨cls2,dd2,data2,sl2⟩,ho2,hc2,n2,hd2⟩:=id hb;simp only at hc hd hc2 hd2;subst hc hd hc2 hd2;have e:vs.toArray++ws.toArray=(vs++ws).toArray:=by simp
 by_cases hw:ws=[]
 ·exact concat_meets ⟨_,ho,rfl⟩ ⟨_,ho2,rfl⟩ noFill_tuple_add seq_tuple_add qbe qbf (qbg _ _)
   (tuple_addW1 t b vs.toArray ws.toArray n n2 dd dd2 sl sl2 (by simpa using hv) (by simp[hw])) ⟨ho,ho2,h1 hw⟩
 ·refine concat_meets ⟨_,ho,rfl⟩ ⟨_,ho2,rfl⟩ noFill_tuple_add seq_tuple_add qbe qbf (qbg _ _)
   (tuple_addW2 t b vs.toArray ws.toArray n n2 dd dd2 sl sl2 (by simpa using hv) (by simpa using hw) (by rw[qaN,qaN];exact hsz)) ⟨ho,ho2,?_⟩
  rw[e];exact h2 hw
noncomputable def sIx (n d:Nat):Option Int->Nat
 |none=>d
 |some v=>if v<0 then(v+(n:Int)).toNat else min v.toNat n
theorem zld (n d:Nat):sIx n d none=d:=rfl
theorem zpi (n d k:Nat):sIx n d (some (k:Int))=min k n:=by
 show(if(k:Int)<0 then((k:Int)+(n:Int)).toNat else min (k:Int).toNat n)=min k n;rw[if_neg (by lia),qbh]
theorem sIx_le (n d:Nat)(hd:d<=n)(o:Option Int):sIx n d o<=n:=by
 cases o with
 |none=>exact hd
 |some v=>
  show(if v<0 then(v+(n:Int)).toNat else min v.toNat n)<=n
  by_cases hv:v<0
  ·rw[if_pos hv];lia
  ·rw[if_neg hv];exact Nat.min_le_right _ _
theorem znB (v:Int)(n d:Nat):(if v<0 then max (v+(n:Int)) 0 else min v (n:Int))=((sIx n d (some v):Nat):Int):=by
 show(if v<0 then max (v+(n:Int)) 0 else min v (n:Int))=(((if v<0 then(v+(n:Int)).toNat else min v.toNat n):Nat):Int)
 by_cases hv:v<0
 ·simp only[if_pos hv];lia
 ·simp only[if_neg hv];lia
theorem zmj (lo hi:Option Int)(n:Nat):Builtin.Slice.sliceAdjust lo hi 1 (n:Int)=(((sIx n 0 lo:Nat):Int),((sIx n n hi:Nat):Int)):=by
 have h1:¬((1:Int)<0):=by lia
 unfold Builtin.Slice.sliceAdjust;simp only[h1,qbi];refine Prod.ext ?_ ?_
 ·cases lo with
  |none=>rfl
  |some v=>exact znB v n 0
 ·cases hi with
  |none=>rfl
  |some v=>exact znB v n n
theorem zmw (i j:Nat):Builtin.Slice.slicePlaces (i:Int) (j:Int) 1=j-i:=by
 unfold Builtin.Slice.slicePlaces;have h1:(1:Int)>0:=by lia
 simp only[h1,if_true,Int.ediv_one]
 split<;>lia
theorem zig {v:Value}{o:Option Int}{Q:Option Int->Shared->Prop}(p:IsPart v o)(h:Q o s):wpAny (model prog w) A (Builtin.Slice.slicePartIndex v) Q E s:=by
 cases p with
 |none=>exact slicePart_none h
 |int i t=>exact slicePart_int h
theorem zd2 {sl:Addr}{vl vu:Value}{lo hi:Option Int}{n:Nat}{Q:Int×Int×Nat->Shared->Prop}(hs:s.heap.IsSliceOf sl vl vu .none)(pl:IsPart vl lo)(pu:IsPart vu hi)
  (h:Q (((sIx n 0 lo:Nat):Int),1,sIx n n hi-sIx n 0 lo) s):wpAny (model prog w) A (Builtin.Slice.sliceApplied (.ref sl) (pure (n:Int))) Q E s:=by
 obtain⟨os,hos,hcs,hds⟩:=id hs;unfold Builtin.Slice.sliceApplied Builtin.Slice.sliceFields;refine qaB (qaB (qbj hos hds (x:=vl) rfl (qaB (qbj hos hds (x:=vu) rfl (qaB (qbj hos hds (x:= .none) rfl (qaE ?_)))))));refine qaB (slicePart_none ?_);show wpAny _ _ (if((1:Int)==0)=true then _ else _) _ _ s;rw[if_neg (by decide)];refine qaB (zig pl (qaB (zig pu (qaB (qaE ?_)))));show wpAny _ _ (match Builtin.Slice.sliceAdjust lo hi 1 (n:Int)with|(lo,hi)=>pure (lo,(1:Int),Builtin.Slice.slicePlaces lo hi 1)) _ _ s;rw[zmj lo hi n];show wpAny _ _ (pure (((sIx n 0 lo:Nat):Int),(1:Int),Builtin.Slice.slicePlaces ((sIx n 0 lo:Nat):Int) ((sIx n n hi:Nat):Int) 1)) _ _ s;rw[zmw];exact qaE h
theorem pick_gen (xs:Array Value)(i k:Nat):((List.range k).filterMap fun(m:Nat)=>xs[((i:Int)+(m:Int)*1).toNat]?).toArray=((xs.toList.drop i).take k).toArray:=by
 have e:(fun(m:Nat)=>xs[((i:Int)+(m:Int)*1).toNat]?)=fun m=>xs[i+m]?:=by
  funext m
  have:((i:Int)+(m:Int)*1).toNat=i+m:=by lia
  rw[this]
 rw[e];have:=pick_run xs i k;rw[List.filterMap_map]at this;have e2:((fun x=>xs[x]?) ∘ fun x=>i+x)=fun m=>xs[i+m]?:=rfl
 rw[e2]at this;rw[this]
theorem zf9 {t sl:Addr}{items:Array Value}{vl vu:Value}{lo hi:Option Int}{Q:Value->Shared->Prop}(ht:IsTup s.heap t items)(hs:s.heap.IsSliceOf sl vl vu .none)(pl:IsPart vl lo)(pu:IsPart vu hi)
  (hw:¬(sIx items.size 0 lo=0/\sIx items.size items.size hi=items.size))
  (h:Q (.ref s.heap.objs.size) {s with heap:=s.heap.push {cls:= .type "tuple",data:= .seq ((items.toList.drop (sIx items.size 0 lo)).take (sIx items.size items.size hi-sIx items.size 0 lo)).toArray}})
  (hsz:items.size<=sizeLine):wpAny (model prog w) A (getItem (.ref t) (.ref sl)) Q E s:=by
 have htake:sizeOk (.seq ((items.toList.drop (sIx items.size 0 lo)).take (sIx items.size items.size hi-sIx items.size 0 lo)).toArray):=by
  show((items.toList.drop (sIx items.size 0 lo)).take (sIx items.size items.size hi-sIx items.size 0 lo)).toArray.size<=sizeLine;rw[qaN,qa5,List.length_drop,qaz];lia
 have hj:sIx items.size items.size hi<=items.size:=sIx_le _ _ (qaH _) hi;obtain⟨os,hos,hcs,hds⟩:=id hs;have hTs:s.TypeIs (.ref sl) "slice":=⟨os,hos,hcs⟩;unfold getItem
 try with_reducible refine qaC ?_
 first|refine qaB (qaE ?_)|skip
 refine qaB (wpAny_sequenceKey ht.typeIs (by decide) ?_);refine qaB (qbk (name:=Str.ofString "__getitem__") ht.typeIs qbl
  (qbm qbl ht.typeIs entry_tuple_getitem ?_ (args_tuple_getitem _ _)))
 show wpAny _ _ (Builtin.Tuple.tupleItemsOf (.ref t)>>=_) _ _ s;refine qaB (tupleItemsOf_ ht ?_);refine qaB (qbn hTs ?_);rw[if_pos (by decide)];refine qaB (zd2 hs pl pu ?_);have hno:¬((((sIx items.size 0 lo:Nat):Int)==0&&(1:Int)==1&&(sIx items.size items.size hi-sIx items.size 0 lo)==items.size)=true):=by
  intro q;rw[qbo,qbo]at q;have q1:((sIx items.size 0 lo:Nat):Int)=0:=eq_of_beq q.1.1;have q2:sIx items.size items.size hi-sIx items.size 0 lo=items.size:=eq_of_beq q.2;exact hw ⟨by lia,by lia⟩
 show wpAny _ _ (if(((sIx items.size 0 lo:Nat):Int)==0&&(1:Int)==1&&(sIx items.size items.size hi-sIx items.size 0 lo)==items.size)=true then _ else _) _ _ s;rw[if_neg hno,pick_gen]
 first
  |exact qaB (m:=Builtin.Tuple.tupleExact _) (qbp (qaE ⟨_,rfl,qaE h⟩) htake)
  |exact qaB (m:=Builtin.Tuple.tupleExact _) (qbp (qaB (qaE (qaE ⟨_,rfl,qaE h⟩))) htake)
  |exact qaB (qaB (m:=Builtin.Tuple.tupleExact _) (qbp (qaE (qaE ⟨_,rfl,qaE h⟩)) htake))
  |exact qaB (qaB (m:=Builtin.Tuple.tupleExact _) (qbp (qaE ⟨_,rfl,qaE h⟩) htake))
end
end HT
namespace L2
open PyProof.Rows PySem PySem.Spec
variable {ns:List Int} {r r':V->Option Int->Option Int->Hp->VK->Prop} {xs:List V} {us its its':List Value} {n j t':Nat} {i:Int} {pins:List (Addr×Obj)} {σ:St} {H:Hp} {s:Shared} {p:Addr} {f:Array Value->Array Value} {A:Around} {y x:V} {u v:Value}
noncomputable abbrev TO:=St->Hp->(Option Int->Hp->Prop)->Prop
noncomputable def PO (X:Cx)(e:Option Expr)(t:TO):Prop:=
 ∀(pins:List (Addr×Obj)) (s:Shared) (σ:St) (H:Hp) (Q:Option Int->Hp->Prop),Inv X pins σ H s->t σ H Q->
  wpAny (model X.prog X.w) X.A (evalPart e X.env) (fun u s'=>∃o H',Inv X pins σ H' s'/\IsPart u o/\Q o H') X.xe s
noncomputable def tNoPart:TO:=fun _ H Q=>Q none H
noncomputable def tPart (t:TE):TO:=fun σ H Q=>t σ H fun x H1=>∃i,x= .int i/\Q (some i) H1
theorem zdD:∀{us:List Value},Vals (ns.map V.int) us->IntsAre us ns:=by
 induction ns with
 |nil=>intro us r;rw[qbq]at r;cases r;exact .nil
 |cons n ns ih=>
  intro us r;rw[qaS]at r;cases r with
  |cons r1 r2=>
   obtain⟨t,e⟩:=r1;subst e;exact .cons n t (ih r2)
section
variable {X:Cx} {e:Expr} {te:TE} {lo hi:Option Expr} {tl th:TO} {pos p2:Pos}
theorem po_none:PO X none tNoPart:=by
 intro pins s σ H Q I h;rw[evalPart_none];exact qaE ⟨none,H,I,.none,h⟩
theorem po_some (h:PE X e te):PO X (some e) (tPart te):=by
 intro pins s σ H Q I hw;rw[evalPart_some];refine thn (h pins s σ H _ I hw) fun u s1 ⟨x,H1,I1,r1,q1⟩=>?_
 obtain⟨i,rfl,q⟩:=q1;obtain⟨t,rfl⟩:=r1;exact⟨some i,H1,I1,.int i t,q⟩
noncomputable def SlR (X:Cx)(r:V->Option Int->Option Int->Hp->VK->Prop):Prop:=
 ∀(pins:List (Addr×Obj)) (s:Shared) (σ:St) (H:Hp) (x:V) (v vl vu:Value) (lo hi:Option Int) (sl:Addr) (Q:VK),Inv X pins σ H s->RelV x v->s.heap.IsSliceOf sl vl vu .none->IsPart vl lo->IsPart vu hi->r x lo hi H Q->
  ∃T id,typeLookup (.type T) "__getitem__"=pure (some (.builtin id))/\s.TypeIs v T/\wpAny (model X.prog X.w) X.A (getItem v (.ref sl)) (EP X pins σ Q) X.xe s
theorem SlR.or (h:SlR X r)(h':SlR X r'):SlR X (fun x lo hi H Q=>r x lo hi H Q\/r' x lo hi H Q):=by
 intro pins s σ H x v vl vu lo hi sl Q I rx hs pl pu q;rcases q with q|q
 ·exact h pins s σ H x v vl vu lo hi sl Q I rx hs pl pu q
 ·exact h' pins s σ H x v vl vu lo hi sl Q I rx hs pl pu q
noncomputable def tSl (r:V->Option Int->Option Int->Hp->VK->Prop)(te:TE)(tl th:TO):TE:=fun σ H Q=>te σ H fun x H1=>tl σ H1 fun l H2=>th σ H2 fun u H3=>r x l u H3 Q
theorem pe_slice (hr:SlR X r)(he:PE X e te)(hl:PO X lo tl)(hu:PO X hi th):PE X (.Subscript e (.Slice lo hi none p2) pos) (tSl r te tl th):=by
 intro pins s σ H Q I h;refine Subscript_ (thn (he pins s σ H _ I h) fun v s1 ⟨x,H1,I1,r1,q1⟩=>?_);refine wpAny_Slice (thn (hl pins s1 σ H1 _ I1 q1) fun vl s2 ⟨l,H2,I2,pl,q2⟩=>thn (hu pins s2 σ H2 _ I2 q2) fun vu s3 ⟨u,H3,I3,pu,q3⟩=>?_);rw[evalPart_none];refine qaE ?_;have I4:Inv X pins σ H3 {s3 with heap:=s3.heap.push {cls:= .type "slice",data:= .fields #[vl,vu,.none]}}:=I3.kept (t':=s3.toks) fun b ob q=>qaF _ q
 obtain⟨T,id,hT,ht,hg⟩:=hr pins {s3 with heap:=s3.heap.push {cls:= .type "slice",data:= .fields #[vl,vu,.none]}} σ H3 x v vl vu l u s3.heap.objs.size Q I4 r1 (Heap.IsSliceOf.new ..) pl pu q3;show wpAny (model X.prog X.w) X.A (subscriptTail e (.Slice lo hi none p2) v (.ref s3.heap.objs.size)) (EP X pins σ Q) X.xe {s3 with heap:=s3.heap.push {cls:= .type "slice",data:= .fields #[vl,vu,.none]}};exact tail_any (ops:=[.ref s3.heap.objs.size,v]) ht hT hg (by with_unfolding_all rfl)
noncomputable def cutV (xs:List V)(lo hi:Option Int):List V:=(xs.drop (HT.sIx xs.length 0 lo)).take (HT.sIx xs.length xs.length hi-HT.sIx xs.length 0 lo)
theorem zg8 (xs:List V)(lo hi:Option Int):(cutV xs lo hi).length<=xs.length:=by
 unfold cutV;rw[qa5,List.length_drop];lia
noncomputable def rSlT (K:W.Frag):V->Option Int->Option Int->Hp->VK->Prop:=fun x lo hi H Q=>∃a xs,x= .ref a/\SqT K H a xs/\
 ¬(HT.sIx xs.length 0 lo=0/\HT.sIx xs.length xs.length hi=xs.length)/\∀p,H p=none->Q (.ref p) (upd H p (.tup (cutV xs lo hi)))
theorem sl_tup:SlR X (rSlT X.K):=by
 intro pins s σ H x v vl vu lo hi sl Q I rx hs pl pu h;obtain⟨a,xs,rfl,hx,hw,q⟩:=h;cases rx;obtain⟨its,r,ht,hz⟩:=I.tuple hx;have hlen:its.toArray.size=xs.length:=by rw[qaN];exact r.length.symm
 refine⟨"tuple",_,PyProof.Rows.slot_tuple_getitem.lookup,ht.typeIs,?_⟩;refine HT.zf9 ht hs pl pu (by rw[hlen];exact hw) ?_ (by rw[hlen];exact hz);rw[hlen];refine⟨.ref s.heap.objs.size,_,I.laid (t':=s.toks) (o:= .tup (cutV xs lo hi)) (fun b ob q=>qaF _ q) (qaH _) ?_,rfl,q _ (I.hok.fresh (qaH _))⟩;exact⟨qal (zg8 xs lo hi) hz,_,(r.drop (HT.sIx xs.length 0 lo)).take (HT.sIx xs.length xs.length hi-HT.sIx xs.length 0 lo),IsTup.new _ _⟩
noncomputable def rCatT (K:W.Frag):R2:=fun x y H Q=>∃a b xs ys,x= .ref a/\y= .ref b/\SqT K H a xs/\SqT K H b ys/\xs≠[]/\xs.length+ys.length<=sizeLine/\
 (ys=[]->Q (.ref a) H)/\(ys≠[]->∀p,H p=none->Q (.ref p) (upd H p (.tup (xs++ys))))
theorem Vals.nil_iff (r:Vals xs us):us=[]↔xs=[]:=by
 cases r with
 |nil=>simp
 |cons _ _=>simp
theorem op_catT:OpR X (binaryOp .Add) (rCatT X.K):=by
 intro pins s σ H x y v u Q I rx ry h;obtain⟨a,b,xs,ys,rfl,rfl,ha,hb,hx,hz,q1,q2⟩:=h;cases rx;cases ry;obtain⟨its,r1,p1,_⟩:=I.tuple ha;obtain⟨its2,r2,p2,_⟩:=I.tuple hb;refine HT.cat_tup p1 p2 (fun z=>hx (r1.nil_iff.mp z)) (fun z=>⟨.ref a,H,I,rfl,q1 (r2.nil_iff.mp z)⟩) (fun z=>?_) (by rw[<-r1.length,<-r2.length];exact hz);refine⟨.ref s.heap.objs.size,_,I.laid (t':=s.toks) (o:= .tup (xs++ys)) (fun b ob q=>qaF _ q) (qaH _) ?_,rfl,q2 (fun w=>z (r2.nil_iff.mpr w)) _ (I.hok.fresh (qaH _))⟩;exact⟨by rw[qbc];exact hz,_,r1.append r2,IsTup.new _ _⟩
end
noncomputable def ixN (n:Nat)(i:Int):Option Nat:=if 0<=i then(if i<n then some i.toNat else none)else if-(n:Int)<=i then some (i+n).toNat else none
noncomputable def atI {α:Type}(xs:List α)(i:Int):Option α:=(ixN xs.length i).bind fun j=>xs[j]?
theorem zoj {n:Nat}(h:ixN n i=some j):seqIndex? i n=some j/\j<n/\ -(n:Int)<=i/\i<n:=by
 unfold ixN at h
 by_cases h0:0<=i
 ·rw[if_pos h0]at h
  by_cases h1:i<n
  ·rw[if_pos h1]at h;have e:i.toNat=j:=Option.some.inj h;exact⟨by rw[seqIndex_of h0 h1,e],by lia,by lia,h1⟩
  ·rw[if_neg h1]at h;cases h
 ·rw[if_neg h0]at h
  by_cases h1: -(n:Int)<=i
  ·rw[if_pos h1]at h;have e:(i+n).toNat=j:=Option.some.inj h;exact⟨by rw[seqIndex_neg (by lia) h1,e],by lia,h1,by lia⟩
  ·rw[if_neg h1]at h;cases h
theorem zk0 {α:Type}{xs:List α}{v:α}(h:atI xs i=some v):∃j,seqIndex? i xs.length=some j/\xs[j]? =some v/\j<xs.length/\ -(xs.length:Int)<=i/\i<xs.length:=by
 unfold atI at h;cases e:ixN xs.length i with
 |none=>rw[e]at h;cases h
 |some j=>
  rw[e]at h;obtain⟨h1,h2,h3,h4⟩:=zoj e;exact⟨j,h1,h,h2,h3,h4⟩
noncomputable def ziC (b:Expr):Prop:=∀o i,subscripted b false o i=operate [o,i] (getItem o i)
noncomputable def IxR (X:Cx)(r:R2):Prop:=
 ∀(value slice:Expr) (pins:List (Addr×Obj)) (s:Shared) (σ:St) (H:Hp) (x y:V) (v u:Value) (Q:VK),Inv X pins σ H s->RelV x v->RelV y u->r x y H Q->
  subscripted slice false v u=operate [v,u] (getItem v u)->wpAny (model X.prog X.w) X.A (subscriptTail value slice v u) (EP X pins σ Q) X.xe s
noncomputable def MtR (X:Cx)(id:String)(r:V->List V->Hp->VK->Prop):Prop:=
 ∀(pins:List (Addr×Obj)) (s:Shared) (σ:St) (H:Hp) (x:V) (xs:List V) (v:Value) (us:List Value) (Q:VK),Inv X pins σ H s->RelV x v->Vals xs us->r x xs H Q->
  wpAny (model X.prog X.w) X.A (call (.builtin id) (v::us)) (EP X pins σ Q) X.xe s
section
variable {X:Cx} {a b:Expr} {ta tb:TE} {pos:Pos}
theorem IxR.or {r r':R2}(h:IxR X r)(h':IxR X r'):IxR X (fun x y H Q=>r x y H Q\/r' x y H Q):=by
 intro value slice pins s σ H x y v u Q I rx ry q hs;rcases q with q|q
 ·exact h value slice pins s σ H x y v u Q I rx ry q hs
 ·exact h' value slice pins s σ H x y v u Q I rx ry q hs
theorem pe_ix {r:R2}(hr:IxR X r)(ha:PE X a ta)(hb:PE X b tb)(hs:ziC b):PE X (.Subscript a b pos) (tOp r ta tb):=by
 intro pins s σ H Q I h;exact Subscript_ (binT ha hb I h fun v u s2 x y H2 I2 rx ry q=>hr a b pins s2 σ H2 x y v u Q I2 rx ry q (hs _ _))
noncomputable def rIxL (K:W.Frag):R2:=fun x y H Q=>∃p xs i v,x= .ref p/\y= .int i/\SqL K H p xs/\atI xs i=some v/\Q v H
noncomputable def rIxT (K:W.Frag):R2:=fun x y H Q=>∃p xs i v,x= .ref p/\y= .int i/\SqT K H p xs/\atI xs i=some v/\Q v H
noncomputable def rIxS:R2:=fun x y H Q=>∃z i c,x= .str z/\y= .int i/\z.length<=sizeLine/\atI z.cps.toList i=some c/\Q (.str ⟨#[c]⟩) H
theorem ix_list:IxR X (rIxL X.K):=by
 intro value slice pins s σ H x y v u Q I rx ry h hs;obtain⟨p,xs,i,z,rfl,rfl,hq,he,q⟩:=h;cases rx;obtain⟨t,rfl⟩:=ry;obtain⟨its,r,pl,hz⟩:=I.list hq;obtain⟨j,h1,h2,h3,h4,h5⟩:=zk0 he;obtain⟨w,ew,rw'⟩:=r.get h2;have hl:=r.length;have hn:=ziq;have fin:EP X pins σ Q w s:=⟨z,H,I,rw',q⟩
 by_cases h0:0<=i
 ·have hj:i.toNat=j:=by
   rw[seqIndex_of h0 h5]at h1;exact Option.some.inj h1
  exact item_listR pl.isList h0 (by lia) (by rw[hj];simpa using ew) fin hs
 ·have hj:(i+(its.toArray.size:Int)).toNat=j:=by
   rw[seqIndex_neg (by lia) h4]at h1;rw[qaN,<-hl];exact Option.some.inj h1
  exact subscriptTail_builtinR (x:=w) pl.isList.typeIs slot_list_getitem.lookup
   (wpAny_getItem_list_neg (Q:=fun r s'=>r=w/\EP X pins σ Q r s') pl.isList (by lia) (by rw[qaN]<;>lia) (by lia) (by rw[hj];simpa using ew) ⟨rfl,fin⟩) hs
theorem ix_tup:IxR X (rIxT X.K):=by
 intro value slice pins s σ H x y v u Q I rx ry h hs;obtain⟨p,xs,i,z,rfl,rfl,hq,he,q⟩:=h;cases rx;obtain⟨t,rfl⟩:=ry;obtain⟨its,r,pl,hz⟩:=I.tuple hq;obtain⟨j,h1,h2,h3,h4,h5⟩:=zk0 he;obtain⟨w,ew,rw'⟩:=r.get h2;have hl:=r.length;have hn:=ziq;have fin:EP X pins σ Q w s:=⟨z,H,I,rw',q⟩;exact subscriptTail_builtinR (x:=w) pl.typeIs slot_tuple_getitem.lookup
  (getItem_tuple (j:=j) (Q:=fun r s'=>r=w/\EP X pins σ Q r s') pl (by lia) (by lia) (by rw[qaN,<-hl];exact h1) (by simpa using ew) ⟨rfl,fin⟩) hs
theorem ix_str:IxR X rIxS:=by
 intro value slice pins s σ H x y v u Q I rx ry h hs;obtain⟨z,i,c,rfl,rfl,hz,he,q⟩:=h;obtain⟨t,rfl⟩:=rx;obtain⟨t',rfl⟩:=ry;obtain⟨j,h1,h2,h3,h4,h5⟩:=zk0 he;have hl:z.cps.toList.length=z.length:=by simp[Str.length]
 rw[hl]at h1 h4 h5;have hn:=ziq;exact tail_any (typeIs_str s z t) slot_str_getitem.lookup (getItem_str (c:=c) (by
  have e1:decide (i< -(2^63:Int))=false:=qaa (by lia);have e2:decide (i>=2^63)=false:=qaa (by lia);rw[e1,e2,Bool.or_false]) (by rw[h1];simpa using h2) ⟨.str ⟨#[c]⟩,H,I.tok _,⟨_,rfl⟩,q⟩) hs
noncomputable def rIx (K:W.Frag):R2:=fun x y H Q=>rIxL K x y H Q\/rIxT K x y H Q\/rIxS x y H Q
theorem ix_seq:IxR X (rIx X.K):=ix_list.or (ix_tup.or ix_str)
theorem zmh (its:List Value)(n j:Nat)(u:Value):Obj.mapSeq (·.setIfInBounds j u) {cls:= .type "list",data:= .seq its.toArray n}={cls:= .type "list",data:= .seq (its.set j u).toArray n}:=by
 simp[Obj.mapSeq]
theorem Inv.lst (I:Inv X pins σ H s)(h:H p=some (.lst xs)):
  ∃(its:List Value) (n:Nat),Vals xs its/\s.heap.get? p=some {cls:= .type "list",data:= .seq its.toArray n}/\xs.length<=sizeLine:=by
 obtain⟨z,its,n,r,e⟩:=I.hok p _ h;exact⟨its,n,r,e,z⟩
theorem Inv.lstUpd {xs ys:List V}{n n':Nat}{f:Obj->Obj}(I:Inv X pins σ H s)(h:H p=some (.lst xs))
  (ho:s.heap.get? p=some {cls:= .type "list",data:= .seq its.toArray n}) (hf:f {cls:= .type "list",data:= .seq its.toArray n}={cls:= .type "list",data:= .seq its'.toArray n'}) (r:Vals ys its') (hz:ys.length<=sizeLine) (t:Nat):
  Inv X pins σ (upd H p (.lst ys)) {s with heap:=s.heap.update p f,toks:=t}:=by
 have e:(s.heap.update p f).get? p=some {cls:= .type "list",data:= .seq its'.toArray n'}:=by
  rw[qbr f ho (by rw[hf]<;>rfl),hf]
 refine I.write (x:=p) (e:=p) (by rw[h];trivial) (.inl rfl) (fun b u hb q=>(qbs _ _ (Ne.symm hb)).trans q) ⟨_,e⟩ ?_;exact⟨hz,its',n',r,e⟩
noncomputable def rSetL:V->V->V->Hp->(Hp->Prop)->Prop:=fun o i v H Q=>∃p xs k j,o= .ref p/\i= .int k/\H p=some (.lst xs)/\ixN xs.length k=some j/\Q (upd H p (.lst (xs.set j v)))
theorem set_list:PSet X rSetL:=by
 intro pins s σ H o i v ov iv u Q I ro ri rv h;obtain⟨p,xs,k,j,rfl,rfl,hp,hj,q⟩:=h;cases ro;obtain⟨t,rfl⟩:=ri;obtain⟨its,n,r,ho,hz⟩:=I.lst hp;obtain⟨h1,h2,h3,h4⟩:=zoj hj;have hl:=r.length;have hn:=ziq;have I':Inv X pins σ (upd H p (.lst (xs.set j v))) {s with heap:=s.heap.update p (Obj.mapSeq (·.setIfInBounds j u))}:=
  I.lstUpd hp ho (zmh its n j u) (r.set rv j) (by rw[qbt];exact hz) s.toks
 by_cases h0:0<=k
 ·have hk:k.toNat=j:=by
   rw[seqIndex_of h0 h4]at h1;exact Option.some.inj h1
  exact W.ki_setAt ho h0 (by lia) (by rw[qaN,<-hl];exact h4) (by rw[hk];exact⟨_,I',q⟩)
 ·have hk:(k+(its.toArray.size:Int)).toNat=j:=by
   rw[seqIndex_neg (by lia) h3]at h1;rw[qaN,<-hl];exact Option.some.inj h1
  exact W.ki_setBack ho (by lia) (by rw[qaN,<-hl];exact h3) (by lia) (by rw[hk];exact⟨_,I',q⟩)
theorem zjR (lo hi:Option Int)(n:Nat):(sliceBounds lo hi none n).1=((HT.sIx n 0 lo:Nat):Int)/\(sliceBounds lo hi none n).2.1=((HT.sIx n n hi:Nat):Int)/\(sliceBounds lo hi none n).2.2=1:=by
 refine⟨?_,?_,rfl⟩
 ·cases lo with
  |none=>simp[sliceBounds,HT.sIx]
  |some i=>
   simp only[sliceBounds,HT.sIx,Option.getD_none,show(1:Int)>0 by decide,if_true]
   by_cases h:i<0
   ·simp only[h,if_true]<;>lia
   ·simp only[h,qbi]<;>lia
 ·cases hi with
  |none=>simp[sliceBounds,HT.sIx]
  |some i=>
   simp only[sliceBounds,HT.sIx,Option.getD_none,show(1:Int)>0 by decide,if_true]
   by_cases h:i<0
   ·simp only[h,if_true]<;>lia
   ·simp only[h,qbi]<;>lia
theorem zix (its:List Value)(lo hi:Option Int):slicePick its.toArray lo hi none=((its.drop (HT.sIx its.length 0 lo)).take (HT.sIx its.length its.length hi-HT.sIx its.length 0 lo)).toArray:=by
 obtain⟨h1,h2,h3⟩:=zjR lo hi its.toArray.size;unfold slicePick;rw[h1,h2,h3];simp only[sliceRange_one,pick_run,qaN]<;>rfl
noncomputable def rSlL (K:W.Frag):V->Option Int->Option Int->Hp->VK->Prop:=fun x lo hi H Q=>∃a xs,x= .ref a/\SqL K H a xs/\∀p,H p=none->Q (.ref p) (upd H p (.lst (cutV xs lo hi)))
theorem sl_list:SlR X (rSlL X.K):=by
 intro pins s σ H x v vl vu lo hi sl Q I rx hs pl pu h;obtain⟨a,xs,rfl,hx,q⟩:=h;cases rx;obtain⟨its,r,ht,hz⟩:=I.list hx;have hlen:=r.length;refine⟨"list",_,slot_list_getitem.lookup,ht.isList.typeIs,?_⟩;refine wpAny_getItem_list_slice ht.isList hs pl pu .none (by simp) ?_ (by rw[qaN]<;>lia)
 rw[zix,<-hlen];refine⟨.ref s.heap.objs.size,_,I.laid (t':=s.toks) (o:= .lst (cutV xs lo hi)) (fun b ob q=>qaF _ q) (qaH _) ?_,rfl,q _ (I.hok.fresh (qaH _))⟩;exact⟨qal (zg8 xs lo hi) hz,_,0,(r.drop (HT.sIx xs.length 0 lo)).take (HT.sIx xs.length xs.length hi-HT.sIx xs.length 0 lo),qaG _ rfl⟩
noncomputable def zhW:V->Bool
 | .non=>true
 | .bl _=>true
 | .int _=>true
 | .str _=>true
 |_=>false
noncomputable def eqV:V->V->Bool
 | .non,.non=>true
 | .bl a,.bl b=>a==b
 | .bl a,.int b=>(if a then 1 else 0)==b
 | .int a,.bl b=>a==(if b then 1 else 0)
 | .int a,.int b=>a==b
 | .str a,.str b=>a==b
 |_,_=>false
theorem eqAt_V (ry:RelV y u)(rx:RelV x v)(fy:zhW y=true)(fx:zhW x=true):SeqAt.EqAt A s u v (eqV y x):=by
 cases y with
 |non=>
  cases ry;cases x with
  |non=>cases rx;exact SeqAt.EqAt.same _
  |bl b=>cases rx;exact SeqAt.EqAt.none_bool b
  |int b=>obtain⟨t,rfl⟩:=rx;exact SeqAt.EqAt.none_int b t
  |str b=>obtain⟨t,rfl⟩:=rx;exact SeqAt.EqAt.none_str b t
  |_=>exact absurd (show false=true from fx) qaO
 |bl a=>
  cases ry;cases x with
  |non=>cases rx;exact SeqAt.EqAt.bool_none a
  |bl b=>cases rx;exact SeqAt.EqAt.bool_bool a b
  |int b=>obtain⟨t,rfl⟩:=rx;exact SeqAt.EqAt.bool_int a b t
  |str b=>obtain⟨t,rfl⟩:=rx;exact SeqAt.EqAt.bool_str a b t
  |_=>exact absurd (show false=true from fx) qaO
 |int a=>
  obtain⟨t',rfl⟩:=ry;cases x with
  |non=>cases rx;exact SeqAt.EqAt.int_none a t'
  |bl b=>cases rx;exact SeqAt.EqAt.int_bool a t' b
  |int b=>obtain⟨t,rfl⟩:=rx;exact SeqAt.EqAt.int_int a t' b t
  |str b=>obtain⟨t,rfl⟩:=rx;exact SeqAt.EqAt.int_str a t' b t
  |_=>exact absurd (show false=true from fx) qaO
 |str a=>
  obtain⟨t',rfl⟩:=ry;cases x with
  |non=>cases rx;exact SeqAt.EqAt.str_none a t'
  |bl b=>cases rx;exact SeqAt.EqAt.str_bool a t' b
  |int b=>obtain⟨t,rfl⟩:=rx;exact SeqAt.EqAt.str_int a t' b t
  |str b=>obtain⟨t,rfl⟩:=rx;exact SeqAt.EqAt.str_str a t' b t
  |_=>exact absurd (show false=true from fx) qaO
 |_=>exact absurd (show false=true from fy) qaO
noncomputable def eqU (x:V)(u:Value):Bool:=match u with
 | .none=>eqV .non x
 | .bool b=>eqV (.bl b) x
 | .int i _=>eqV (.int i) x
 | .str z _=>eqV (.str z) x
 |_=>false
theorem eqU_of (r:RelV y u)(f:zhW y=true):eqU x u=eqV y x:=by
 cases y with
 |non=>cases r;rfl
 |bl b=>cases r;rfl
 |int i=>obtain⟨t,rfl⟩:=r;rfl
 |str z=>obtain⟨t,rfl⟩:=r;rfl
 |_=>exact absurd (show false=true from f) qaO
theorem zhN:∀{xs:List V} {us:List Value},Vals xs us->xs.all zhW=true->us.any (eqU x)=xs.any fun y=>eqV y x
 |_,_,.nil,_=>rfl
 |y::xs,u::us,.cons r t,f=>by
  rw[qbu,qbo]at f;rw[qbv,qbv,eqU_of r f.1,zhN t f.2]
theorem zfN (rx:RelV x v)(fx:zhW x=true):∀{xs:List V} {us:List Value},Vals xs us->xs.all zhW=true->∀u∈us,SeqAt.EqAt A s u v (eqU x u)
 |_,_,.nil,_=>fun u hu=>by cases hu
 |y::xs,u::us,.cons r t,f=>fun u' hu=>by
  rw[qbu,qbo]at f;rcases qaq.mp hu with rfl|hu
  ·rw[eqU_of r f.1];exact eqAt_V r rx f.1 fx
  ·exact zfN rx fx t f.2 u' hu
noncomputable def inV (x:V)(xs:List V):Bool:=xs.any fun y=>eqV y x
noncomputable def rIn (K:W.Frag)(neg:Bool):R2:=fun x y H Q=>∃p xs,y= .ref p/\(SqL K H p xs\/SqT K H p xs)/\zhW x=true/\xs.all zhW=true/\Q (.bl (if neg then !inV x xs else inV x xs)) H
theorem znn:OpR X (compareOp .In) (rIn X.K false):=by
 intro pins s σ H x y v u Q I rx ry h;obtain⟨p,xs,rfl,hq,fx,fs,q⟩:=h;cases ry;rcases hq with hq|hq
 ·obtain⟨its,r,pl,hz⟩:=I.list hq;refine SeqAt.in_listAt (eqU x) pl.isList (fun w hw=>zfN rx fx r fs w (by simpa using hw)) ⟨.bl _,H,I,rfl,?_⟩;rw[show its.toArray.any (eqU x)=its.any (eqU x) by simp,zhN r fs];exact q
 ·obtain⟨its,r,pl,hz⟩:=I.tuple hq;refine SeqAt.in_tupleAt (eqU x) pl (fun w hw=>zfN rx fx r fs w (by simpa using hw)) ⟨.bl _,H,I,rfl,?_⟩;rw[show its.toArray.any (eqU x)=its.any (eqU x) by simp,zhN r fs];exact q
theorem zjy:OpR X (compareOp .NotIn) (rIn X.K true):=by
 intro pins s σ H x y v u Q I rx ry h;obtain⟨p,xs,rfl,hq,fx,fs,q⟩:=h;cases ry;rcases hq with hq|hq
 ·obtain⟨its,r,pl,hz⟩:=I.list hq;refine SeqAt.notIn_listAt (eqU x) pl.isList (fun w hw=>zfN rx fx r fs w (by simpa using hw)) ⟨.bl _,H,I,rfl,?_⟩;rw[show its.toArray.any (eqU x)=its.any (eqU x) by simp,zhN r fs];exact q
 ·obtain⟨its,r,pl,hz⟩:=I.tuple hq;refine SeqAt.notIn_tupleAt (eqU x) pl (fun w hw=>zfN rx fx r fs w (by simpa using hw)) ⟨.bl _,H,I,rfl,?_⟩;rw[show its.toArray.any (eqU x)=its.any (eqU x) by simp,zhN r fs];exact q
theorem zgy:zeV X (.builtin "len") (fun xs H Q=>∃p ys,xs=[.ref p]/\(SqL X.K H p ys\/SqT X.K H p ys)/\Q (.int ys.length) H):=by
 intro pins s σ H xs us Q I r h;obtain⟨p,ys,rfl,hq,q⟩:=h;obtain⟨u,rfl,rx⟩:=zhZ r;cases rx;have hn:=ziq;rcases hq with hq|hq
 ·obtain⟨its,r',pl,hz⟩:=I.list hq;have hlen:=r'.length;exact Calls.call_len_list pl.isList (by simp only[qaN]<;>lia) ⟨.int ys.length,H,I.tok _,⟨s.toks+1,by rw[qaN,hlen]⟩,q⟩
 ·obtain⟨its,r',pl,hz⟩:=I.tuple hq;have hlen:=r'.length;exact len_tuple pl (by simp only[qaN]<;>lia) ⟨.int ys.length,H,I.tok _,⟨s.toks+1,by rw[qaN,hlen]⟩,q⟩
noncomputable def tyV (K:W.Frag)(T:String)(x:V)(H:Hp):Prop:=match x with
 | .str _=>T="str"
 | .int _=>T="int"
 | .ref p=>(T="list"/\∃xs,SqL K H p xs)\/(T="tuple"/\∃o,K.lookup p=some o/\o.cls= .type "tuple"/\o.dict=none)\/
   (T="dict"/\((∃kvs,H p=some (.dK kvs))\/∃kvs,H p=some (.dT kvs)))\/(T="set"/\∃S n,H p=some (.set S n))
 |_=>False
theorem tyV_is {T:String}(I:Inv X pins σ H s)(r:RelV x v)(ty:tyV X.K T x H):
  s.TypeIs v T/\∀a,v= .ref a->∃ob,s.heap.get? a=some ob/\ob.dict=none:=by
 cases x with
 |str z=>
  obtain⟨t,rfl⟩:=r;cases(show T="str" from ty);exact⟨typeIs_str s z t,fun _ e=>nomatch e⟩
 |int i=>
  obtain⟨t,rfl⟩:=r;cases(show T="int" from ty);exact⟨typeIs_int s i t,fun _ e=>nomatch e⟩
 |ref p=>
  cases r;rcases ty with⟨rfl,xs,hq⟩|⟨rfl,o,hk,hc,hd⟩|⟨rfl,hk⟩|⟨rfl,S,n,hk⟩
  ·obtain⟨its,_,pl,_⟩:=I.list hq;refine⟨pl.isList.typeIs,fun a e=>?_⟩;cases e;obtain⟨o,n,e,c,hd,_⟩:=pl;exact⟨o,e,hd⟩
  ·refine⟨⟨o,I.kIn p o hk,hc⟩,fun a e=>?_⟩;cases e;exact⟨o,I.kIn _ o hk,hd⟩
  ·have z:∃o,s.heap.get? p=some o/\o.ExactDict:=by
    rcases hk with⟨kvs,hk⟩|⟨kvs,hk⟩
    ·obtain⟨_,_,_,_,o,_,_,e,ex,_⟩:=I.hok p _ hk;exact⟨o,e,ex⟩
    ·obtain⟨_,_,_,_,o,_,_,e,ex,_⟩:=I.hok p _ hk;exact⟨o,e,ex⟩
   obtain⟨o,e,ex⟩:=z;refine⟨⟨o,e,ex.1⟩,fun a e2=>?_⟩;cases e2;exact⟨o,e,ex.2.1⟩
  ·obtain⟨o,_,_,_,e,ex,_⟩:=I.hok p _ hk;refine⟨⟨o,e,ex.1⟩,fun a e2=>?_⟩;cases e2;exact⟨o,e,ex.2.1⟩
 |_=>exact False.elim ty
noncomputable def tBM0 (K:W.Frag)(T:String)(r:V->List V->Hp->VK->Prop)(to:TE):TE:=fun σ H Q=>to σ H fun x H1=>tyV K T x H1/\r x [] H1 Q
noncomputable def tBM (K:W.Frag)(T:String)(r:V->List V->Hp->VK->Prop)(to:TE)(t:TA):TE:=fun σ H Q=>to σ H fun x H1=>tyV K T x H1/\t σ H1 fun xs H2=>r x xs H2 Q
variable {o e:Expr} {es:List Expr} {to:TE} {t:TA} {name:Str} {apos cpos:Pos} {T id:String} {r:V->List V->Hp->VK->Prop}
theorem pe_bm0 (pa:PlainAttrs T)(slot:Slot T name id)(hty:typeOf (.builtin id)=pure (.type "method_descriptor"))(hm:MtR X id r)(ho:PE X o to)
  (hbase:autoParam (attributeBase o name X.env (eval o X.env)=eval o X.env) zu3._auto_1) (hline:autoParam ((apos.endLine==cpos.line)=true) zu3._auto_1):PE X (.Call (.Attribute o name apos) [] [] cpos) (tBM0 X.K T r to):=by
 intro pins s σ H Q I h;refine wpAny_Call_method0_late hbase hline (thn (ho pins s σ H _ I h) fun v s1 ⟨x,H1,I1,r1,ty,q1⟩=>?_);obtain⟨h1,h2⟩:=tyV_is I1 r1 ty;exact⟨T,id,pa,slot,hty,h1,h2,Calls.callWith_builtin rfl (PySem.evalArgs_none (hm pins s1 σ H1 x [] v [] Q I1 r1 .nil q1))⟩
theorem pe_bm (pa:PlainAttrs T)(slot:Slot T name id)(hty:typeOf (.builtin id)=pure (.type "method_descriptor"))(hm:MtR X id r)(ho:PE X o to)(ha:PA X (e::es) t)
  (hbase:autoParam (attributeBase o name X.env (eval o X.env)=eval o X.env) zu3._auto_1)
  (hfew :autoParam (((backTo cpos (starEach (e :: es) X.env)).all (fun x => !x.1) && (backToKw cpos (keywordEach [] X.env)).all (fun x => x.1.isSome)
   &&decide ((e::es).length+([]:List Keyword).length+(if([]:List Keyword).isEmpty then 0 else 1)<30))=true) zu3._auto_1)
  (hline:autoParam ((apos.endLine==cpos.line)=true) zu3._auto_1) (hs:autoParam (starEach (e::es) X.env=(false,eval e X.env)::starEach es X.env) zu3._auto_1) (hplain:autoParam ((backTo cpos (starEach es X.env)).any (·.1)=false) zu3._auto_1):
  PE X (.Call (.Attribute o name apos) (e::es) [] cpos) (tBM X.K T r to t):=by
 intro pins s σ H Q I h;refine wpAny_Call_method_late hbase hfew hline rfl (thn (ho pins s σ H _ I h) fun v s1 ⟨x,H1,I1,r1,ty,q1⟩=>?_);obtain⟨h1,h2⟩:=tyV_is I1 r1 ty;refine⟨T,id,pa,slot,hty,h1,h2,?_⟩;have hA:=ha cpos pins s1 σ H1 _ I1 q1;rw[hs]at hA ⊢;refine Calls.callWith_builtin (by show(false||(backTo cpos (starEach es X.env)).any (·.1))=false;rw[hplain]<;>rfl) (Calls.evalArgs_plain ?_)
 exact thn hA fun us s2 ⟨vs,H2,I2,r2,q2⟩=>hm pins s2 σ H2 x vs v us Q I2 r1 r2 q2
end
noncomputable def MtM (X:Cx)(id:String)(r:V->List V->Hp->VK->Prop):Prop:=
 ∀(pins:List (Addr×Obj)) (s:Shared) (σ:St) (H:Hp) (x:V) (xs:List V) (v:Value) (us:List Value) (Q:VK),Inv X pins σ H s->RelV x v->Vals xs us->r x xs H Q->
  wpAny (model X.prog X.w) X.A (call (.builtin id) (v::us)) (EP X pins σ Q) X.xe s
theorem Vals.one:∀{x:V} {us:List Value},Vals [x] us->∃u,us=[u]/\RelV x u
 |_,_,.cons r .nil=>⟨_,rfl,r⟩
theorem Vals.zero:∀{us:List Value},Vals [] us->us=[]
 |_,.nil=>rfl
theorem Vals.dropLast (h:Vals xs us):Vals xs.dropLast us.dropLast:=by
 induction h with
 |nil=>exact .nil
 |cons r t ih=>
  cases t with
  |nil=>exact .nil
  |cons q t'=>exact .cons r ih
theorem Vals.rep (h:Vals xs us):∀k:Nat,Vals (List.replicate k xs).flatten (List.replicate k us).flatten
 |0=> .nil
 |k+1=>by
  rw[qbw,qbw,qbx,qbx];exact Vals.append h (Vals.rep h k)
theorem zmy {α:Type}(l:List α):l.eraseIdx (l.length-1)=l.dropLast:=by
 induction l with
 |nil=>rfl
 |cons a r ih=>
  cases r with
  |nil=>rfl
  |cons b r=>
   have e:(a::b::r).length-1=((b::r).length-1)+1:=by
    have h1:(a::b::r).length=r.length+2:=rfl;have h2:(b::r).length=r.length+1:=rfl;lia
   rw[e,List.eraseIdx_cons_succ,ih]
   all_goals rfl
theorem zjW (its:List Value):∀(k:Nat) (acc:List Value),
  List.foldl (fun x1 x2=>x1++x2) acc.toArray (List.replicate k its.toArray)=(acc++(List.replicate k its).flatten).toArray
 |0,acc=>by simp
 |k+1,acc=>by
  have e:acc.toArray++its.toArray=(acc++its).toArray:=by simp
  have e2:(acc++its)++(List.replicate k its).flatten=acc++(List.replicate (k+1) its).flatten:=by
   rw[qbw,qbx,List.append_assoc]
  rw[<-e2,<-zjW its k (acc++its),<-e,qbw,qby]
section
variable {X:Cx} {pins:List (Addr×Obj)} {σ:St} {H:Hp} {s:Shared} {l b:Addr} {xs ys zs:List V}
theorem Inv.lset (I:Inv X pins σ H s)(hH:H l=some (.lst xs))
  (e:s.heap.get? l=some {cls:= .type "list",data:= .seq its.toArray n}) (hf:f its.toArray=its'.toArray) (hv:Vals ys its') (hz:ys.length<=sizeLine):
  Inv X pins σ (upd H l (.lst ys)) {s with heap:=s.heap.update l (Obj.mapSeq f),toks:=t'}:=by
 have q:=PySem.IsL.update e f;rw[hf]at q;refine I.write (x:=l) (e:=l) (by rw[hH];exact trivial) (.inl rfl) (fun b' u hb hu=>(qbs s.heap (Obj.mapSeq f) (Ne.symm hb)).trans hu) ⟨_,q⟩ ?_;exact⟨hz,its',_,hv,q⟩
theorem Inv.lnew (I:Inv X pins σ H s)(hv:Vals ys its)(hz:ys.length<=sizeLine):
  Inv X pins σ (upd H s.heap.objs.size (.lst ys)) {s with heap:=s.heap.push {cls:= .type "list",data:= .seq its.toArray},toks:=t'}:=
 I.laid (fun _ _ q=>qaF _ q) (qaH _) ⟨hz,its,0,hv,qaG _ rfl⟩
theorem Inv.fresh (I:Inv X pins σ H s):H s.heap.objs.size=none:=I.hok.fresh (qaH _)
theorem Inv.lstM (I:Inv X pins σ H s)(hH:H l=some (.lst xs)):xs.length<=sizeLine/\∃(its:List Value) (n:Nat),Vals xs its/\xs.length=its.length/\s.heap.get? l=some {cls:= .type "list",data:= .seq its.toArray n}:=by
 obtain⟨z,its,n,r,e⟩:=I.hok l _ hH;exact⟨z,its,n,r,r.length,e⟩
theorem notLongL (h:n<=sizeLine):Builtin.List.listTooLong n=false:=by
 unfold Builtin.List.listTooLong;exact qaa (by lia)
end
section
variable {X:Cx}
noncomputable def rAppend:V->List V->Hp->VK->Prop:=fun x vs H Q=>∃l xs y,x= .ref l/\vs=[y]/\H l=some (.lst xs)/\xs.length<sizeLine/\Q .non (upd H l (.lst (xs++[y])))
theorem zhD:MtM X "list.append" rAppend:=by
 intro pins s σ H x vs v us Q I rx rv h;obtain⟨l,xs,y,rfl,rfl,hH,hz,q⟩:=h;cases rx;obtain⟨u,rfl,ru⟩:=rv.one;obtain⟨z,its,n,r,hl,e⟩:=I.lstM hH;refine call_meets F.slot_list_append ⟨_,e,rfl⟩ F.entry_list_append (F.args_list_append_2 _ _) (PySem.list_append l its.toArray n u (by rw[qaN];lia)) ⟨e,?_⟩;refine⟨.non,_,I.lset (its':=its++[u]) hH e (by simp) (r.append (.cons ru .nil)) ?_,rfl,q⟩;rw[qbc,List.length_singleton];lia
noncomputable def rPop:V->List V->Hp->VK->Prop:=fun x vs H Q=>∃l xs y,x= .ref l/\vs=[]/\H l=some (.lst xs)/\xs[xs.length-1]? =some y/\Q y (upd H l (.lst xs.dropLast))
theorem mt_pop:MtM X "list.pop" rPop:=by
 intro pins s σ H x vs v us Q I rx rv h;obtain⟨l,xs,y,rfl,rfl,hH,hy,q⟩:=h;cases rx;have hus:=rv.zero;subst hus;obtain⟨z,its,n,r,hl,e⟩:=I.lstM hH;obtain⟨u,hu,ru⟩:=r.get hy;have hy':its.toArray[its.toArray.size-1]? =some u:=by
  show its.toArray[its.length-1]? =some u;rw[<-qbz,<-hl];exact hu
 refine call_meets F.slot_list_pop ⟨_,e,rfl⟩ F.entry_list_pop (F.args_list_pop_1 _) (MeetsSeq.list_pop_last l its.toArray n u hy' (by rw[qaN];lia)) ⟨e,?_⟩;refine⟨y,_,I.lset (its':=its.dropLast) hH e ?_ r.dropLast ?_,ru,q⟩
 ·show its.toArray.eraseIdxIfInBounds (its.toArray.size-1)=its.dropLast.toArray;rw[qaN,List.eraseIdxIfInBounds_toArray,zmy]
 ·rw[List.length_dropLast];lia
noncomputable def rCat:R2:=fun x y H Q=>∃l b xs zs,x= .ref l/\y= .ref b/\H l=some (.lst xs)/\H b=some (.lst zs)/\xs.length+zs.length<=sizeLine/\∀p,H p=none->Q (.ref p) (upd H p (.lst (xs++zs)))
theorem op_cat:OpR X (binaryOp .Add) rCat:=by
 intro pins s σ H x y v u Q I rx ry h;obtain⟨l,b,xs,zs,rfl,rfl,hH,hB,hz,q⟩:=h;cases rx;cases ry;obtain⟨z,its,n,r,hl,e⟩:=I.lstM hH;obtain⟨z2,its2,n2,r2,hl2,e2⟩:=I.lstM hB;refine PySem.P.add_list e e2 ?_ (by rw[qaN,qaN];lia);have ea:its.toArray++its2.toArray=(its++its2).toArray:=by simp
 rw[ea];exact⟨.ref _,_,I.lnew (t':=s.toks) (r.append r2) (by rw[qbc];lia),rfl,q _ I.fresh⟩
noncomputable def rRep:R2:=fun x y H Q=>∃l k xs,x= .ref l/\y= .int k/\H l=some (.lst xs)/\ -(2^63)<=k/\k<2^63/\xs.length*k.toNat<=sizeLine/\
 ∀p,H p=none->Q (.ref p) (upd H p (.lst (List.replicate k.toNat xs).flatten))
theorem len_rep {α:Type}(xs:List α)(k:Nat):(List.replicate k xs).flatten.length=k*xs.length:=by
 induction k with
 |zero=>simp
 |succ k ih=>rw[qbw,qbx,qbc,ih,Nat.succ_mul,Nat.add_comm]
theorem op_rep:OpR X (binaryOp .Mult) rRep:=by
 intro pins s σ H x y v u Q I rx ry h;obtain⟨l,k,xs,rfl,rfl,hH,h1,h2,hz,q⟩:=h;cases rx;obtain⟨t,rfl⟩:=ry;obtain⟨z,its,n,r,hl,e⟩:=I.lstM hH;have hlen:its.toArray.size*k.toNat<=sizeLine:=by rw[qaN,<-hl];exact hz
 have hcap:¬its.toArray.size*k.toNat>(2^63-1)/8:=by
  have:(sizeLine:Nat)<=(2^63-1)/8:=by decide
  lia
 have hfit:¬(!Builtin.List.listFitsIndex k)=true:=by
  rw[fitsIndex_both h1 h2];exact qaO
 have hlong:¬Builtin.List.listTooLong (its.toArray.size*k.toNat)=true:=by
  rw[notLongL hlen];exact qaO
 have hnew:List.foldl (fun x1 x2=>x1++x2) #[] (List.replicate (if its.toArray.isEmpty=true then 0 else k.toNat) its.toArray)=(List.replicate k.toNat its).flatten.toArray:=by
  have f0:∀m:Nat,List.foldl (fun x1 x2=>x1++x2) #[] (List.replicate m its.toArray)=(List.replicate m its).flatten.toArray:=fun m=>by
   have:=zjW its m [];rw[List.nil_append]at this;exact this
  rw[f0];cases its with
  |nil=>simp
  |cons a r'=>rw[if_neg (by simp)]
 refine wpAny_binaryOp_repeat_ref (T:="list") (U:="int") (by decide) ⟨_,e,rfl⟩ (fun s'=>typeIs_int s' k t) noFill_list_mul F.fills_int_mul F.slot_int_rmul repeat_list F.slot_int_index.lookup
  (call_meets F.slot_int_rmul (typeIs_int s k t) F.entry_int_rmul (F.args_int_rmul_2 _ _) (int___rmul___int_list k t l its.toArray n)
   ⟨e,rfl,⟨_,e,rfl⟩,call_meets F.slot_list_mul ⟨_,e,rfl⟩ F.entry_list_mul (F.args_list_mul_2 _ _) (AutoListH.list___mul___list_int_3 l its.toArray n k t hfit hcap hlong) ⟨e,?_⟩⟩)
 rw[hnew];exact⟨.ref _,_,I.lnew (t':=s.toks) (r.rep k.toNat) (by rw[len_rep,Nat.mul_comm];exact hz),rfl,q _ I.fresh⟩
end
end L2
namespace Att
open PyProof.Rows PySem PySem.Calls PySem.W
theorem zhz {P:Params}{h:Heap}:∀(ns:List Int) (vs:List Value),WellAll P h vs (ns.map WData.int)->IntsAre vs ns:=by
 intro ns
 induction ns with
 |nil=>
  intro vs w;rw[qbq]at w;cases w;exact .nil
 |cons n ns ih=>
  intro vs w;rw[qaS]at w;cases w with
  |cons a b=>
   cases a;exact .cons _ _ (ih _ b)
theorem zn2 {l:OpenLaw}{n:Nat}(hn:l.most=some n){P:Params}{h:Heap}{args:List WData}{vals:List Value}
  (hpre:l.row.toRowW.claim.pre args=true) (hwl:WellAll P h vals args):
  ∃a vs ns,vals=[Value.ref a]/\args=[WData.list (ns.map WData.int)]/\h.get? a=some {cls:= .type "list",data:= .seq vs.toArray}/\IntsAre vs ns/\ns.length<=n:=by
 have hsh:WShape.hasAll [] args [.list .int]=true:=(pre_splitW hpre).1;have hc:l.pre.holds [] {args:=args}=true:=(pre_splitW hpre).2;obtain⟨d,r,rfl,h1,h2⟩:=hasAllW_cons hsh;obtain rfl:=hasAllW_nil h2;obtain⟨xs,rfl,h3⟩:=hasW_list h1;obtain⟨ns,rfl⟩:=items_int h3;have hlen:ns.length<=n:=by
  unfold OpenLaw.pre at hc;have h4:(WTm.not (.lt (.lit (.int (n:Int))) (.len (.arg 0)))).holds [] {args:=[.list (ns.map .int)]}=true:=by
   have h4:=(holds_andW hc).1;rw[hn]at h4;exact h4
  have h5:=condW_of h4 (w_not (w_lt w_lit (w_len_list (w_arg rfl))));rw[qaT]at h5;refine Nat.le_of_not_lt fun q=>?_
  have q':(n:Int)<((ns.length:Nat):Int):=by lia
  first
   |(rw[qbA q']at h5;exact absurd h5 (by decide))
   |(simp at h5;lia)
 cases hwl with
 |cons w1 w2=>
  cases w2;cases w1 with
  |list ho hall=>exact⟨_,_,ns,rfl,rfl,ho,zhz ns _ hall,hlen⟩
theorem zoK (l:OpenLaw)(args:List WData):l.row.toRowW.claim.post args (.bool true) args=true:=
 postW_of (r:=l.row.toRowW) (X:=(true==true))
  (show WShape.has [] (.bool true) .bool=true by first|rfl|decide|simp[WShape.has,WShape.arms,WShape.armsAll])
  (show(WTm.eq .res (.lit (.bool true))).value [] {args:=args,res:=some (.bool true),after:=args}=some (.bool (true==true))from w_eq_bool (w_res rfl) w_lit) rfl
theorem attach_call {l:OpenLaw}{n:Nat}{q:Program}{loose:List Str}{XP:(Str->Option Value)->Heap->Prop}{YP:World->Heap->Prop}{d:DefRec}
  (hn:l.most=some n) (hdf:d.params.defaults=[])
  (call : ∀ (w : World) (s₀ s₁ : Shared) (mg mb : Str -> Option Value) (fa : Addr) (o : Obj) (pm cd doc : Value) (a : Addr) (vs : List Value) (ns : List Int),
   Ground q loose [] XP w s₀ mg mb s₁.heap->YP w s₁.heap->
   s₁.heap.get? fa=some o->o.data= .func (docDef d.name d.params d.body d.scope pm cd doc)->s₁.heap.CodeRec cd d.name->mg d.name=some (.ref fa)->
   s₁.heap.get? a=some {cls:= .type "list",data:= .seq vs.toArray}->IntsAre vs ns->ns.length<=n->s₁.gens= #[]->
   codeAny (model l.prog w) callerA (.call (.ref fa) ⟨[.ref a],[]⟩) (fun r s'=>r= .ok (.ret (.bool true))/\OldK s₁.heap s'.heap/\s'.os=s₁.os/\AllBare s'.gens) s₁):
  WalkO q loose XP YP l.row.toRowW d [] (fun f vs=>PySem.call f vs):=by
 intro w s₀ s₁ mg mb G Y fa o pm cd doc dV kV ho hd hcd hD hmg hg args vals as hpre hlay hrd hwl hlo;obtain rfl:dV= .none:=Dflts.none hD hdf;obtain rfl:kV= .none:=Dflts.noKw hD;obtain⟨a,vs,ns,rfl,rfl,hobj,hints,hlen⟩:=zn2 hn hpre hwl;refine enter_call (qa0 (call w s₀ s₁ mg mb fa o pm cd doc a vs ns G Y ho (fd_plain hd) hcd hmg hobj hints hlen hg) fun r s' hq=>?_);obtain⟨rfl,h2,h3,h4⟩:=hq;exact⟨.inl ⟨.bool true,.bool true,[],rfl,fun _=>rfl,.bool true,zoK l _,fun _=>⟨List.Pairwise.nil,fun _ hm=>(nomatch hm)⟩⟩,h2,h3,h4⟩
end Att
namespace L2
open PyProof.Rows PySem PySem.Spec
variable {w:World} {K:W.Frag} {mg mb:Str->Option Value} {CX:World->CXT} {a f b:Addr} {fd:FuncData} {x qual:Str} {sp:Sp} {vs:List (Key×Value)} {ns:List Int} {l:W.OpenLaw} {q prog:Program} {loose ps:List Str} {XP:(Str->Option Value)->Heap->Prop} {YP:World->Heap->Prop} {d:DefRec} {X:Cx} {oc u:Value} {osl:Array (Option Value)} {pos:Pos} {H H':Hp} {xs:List (List Key×Addr×Value)} {o:Option V} {y:V} {kvs:List (List Key×V)} {ks keys:List (Option Expr)} {Q E:Value->Shared->Prop} {h':Heap} {A:Around} {s:Shared} {pins:List (Addr×Obj)} {trs:List (TE×TE)} {values:List Expr}
theorem zet:∀{vs:List Value} {ns:List Int},IntsAre vs ns->Vals (ns.map V.int) vs
 |_,_,.nil=> .nil
 |_,_,.cons n t h=> .cons ⟨t,rfl⟩ (zet h)
noncomputable def Only (H:Hp):Prop:=∀b,H b=none\/∃o xs,H b=some (.frz o (.lst xs))
theorem law_call {P:Program}{CX:CXT}{k:Nat}{fa a:Addr}{s₁:Shared}{vs:List Value}
  (KX:K.In s₁.heap) (hns:s₁.heap.Ns mainGlobals mg) (hb:s₁.heap.Ns builtinsNs mb) (hbb:∀x:Str,x≠"__name__"->mb x=bootBuiltins x) (hlim:s₁.heap.NoLimit) (hg:s₁.gens= #[])
  (ha:s₁.heap.get? a=some {cls:= .type "list",data:= .seq vs.toArray}) (hi:IntsAre vs ns) (hl:ns.length<=sizeLine) (hr:Room k callerA)
  (F:∀base:Heap,K.In base->base.Ns mainGlobals mg->FnOk P w K mg base CX k fa fd [x] sp) (hbind:∀(s:Shared) (u:Value),BindsTo s fd ⟨[u],[]⟩ [(x,u)])
  (hsp:∀H:Hp,Only H->SqL K H a (ns.map V.int)->sp [.ref a] H (fun v _=>v= .bl true) fun _ _ _=>False)
  (hCX:∀H e s',CX [] H s₁ (fun _ _ _=>False) e s'->False):
  codeAny (model P w) callerA (.call (.ref fa) ⟨[.ref a],[]⟩) (fun r s'=>r= .ok (.ret (.bool true))/\OldK s₁.heap s'.heap/\s'.os=s₁.os/\AllBare s'.gens) s₁:=by
 have rv:=zet hi;have lenV:=hi.length;have core:∀H:Hp,Only H->SqL K H a (ns.map V.int)->HOk P w H s₁.heap->(∀b,H b≠none->b=a)->(H a≠none->K.lookup a=none)->
   codeAny (model P w) callerA (.call (.ref fa) ⟨[.ref a],[]⟩) (fun r s'=>r= .ok (.ret (.bool true))/\OldK s₁.heap s'.heap/\s'.os=s₁.os/\AllBare s'.gens) s₁:=by
  intro H hO hS hok hA hK;have base_of:∀{b:Addr} {o:Obj},s₁.heap.get? b=some o->H b=none->(hidT s₁.heap H).get? b=some o:=fun e n=>hidT_get e n
  have noA:∀{b:Addr} {o:Obj} {es:Array DictEntry} {ep:Nat},s₁.heap.get? b=some o->o.data= .dict es ep->H b=none:=fun{b o es ep} e d=>by
   cases q:H b with
   |none=>rfl
   |some u=>
    have e':b=a:=hA b (by rw[q];simp);subst e';rw[ha]at e;cases e;have d':Data.seq vs.toArray _=Data.dict es ep:=d;cases d'
  have nsK:∀{b:Addr} {m:Str->Option Value},s₁.heap.Ns b m->(hidT s₁.heap H).Ns b m:=fun{b m} ⟨o,es,ep,e,d,r⟩=>⟨o,es,ep,base_of e (noA e d),d,r⟩
  have hKb:K.In (hidT s₁.heap H):=fun b o e=>base_of (KX b o e) (by
   cases q:H b with
   |none=>rfl
   |some u=>
    have e':b=a:=hA b (by rw[q];simp);subst e';rw[hK (by rw[q];simp)]at e;cases e)
  have hM:Mod K mg (hidT s₁.heap H):=⟨hKb,nsK hns,⟨mb,nsK hb,hbb⟩,let⟨mc,h1,h2⟩:=hlim;⟨mc,nsK h1,h2⟩⟩;have e0:Env0 P w K mg (hidT s₁.heap H) callerA [] s₁ H:=⟨rfl,hM,fun b o e=>of_hidT e,Nat.le_of_eq (znK _ _),trivial,fun b hb=>absurd (show b∈([]:List Addr)from hb) (by simp),hok,.of_eq hg⟩;refine qa0 ((F _ hKb (nsK hns)).run callerA [] s₁ H ⟨[.ref a],[]⟩ [.ref a] [.ref a] _ _ hr e0 (hbind s₁ (.ref a)) (.cons rfl .nil) (hsp H hO hS)) fun r s' h=>?_
  cases r with
  |error e=>exact(hCX H e s' h).elim
  |ok fl=>
   cases fl with
   |next=>exact False.elim h
   |brk=>exact False.elim h
   |cont=>exact False.elim h
   |ret u=>
    obtain⟨v,H',os,bare,un,hok',r',q⟩:=h;have q':v= .bl true:=q;subst q';obtain rfl:u=Value.bool true:=r';refine⟨rfl,OldK.of_keep fun b o e=>?_,os,bare⟩;cases q:H b with
    |none=>exact un.keep b o e q (by intro z;exact absurd (show b∈([]:List Addr)from z) (by simp)) (by simp)
    |some u=>
     rcases hO b with z|⟨ob,xs,z⟩
     ·rw[q]at z;cases z
     ·have z2:=un.frzs b ob _ z;obtain⟨e1,_⟩:=hok b _ z;obtain⟨e2,_⟩:=hok' b _ z2;rw[e]at e1;cases e1;exact e2
 cases hk:K.lookup a with
 |some o=>
  have e:=KX a o hk;rw[ha]at e;cases e;refine core (fun _=>none) (fun _=> .inl rfl) (.inr ⟨_,vs.toArray,_,hk,rfl,rfl,rfl,by rw[qaN,lenV];exact hl,by simpa using rv⟩) (fun b u z=>by have z':(none:Option HO)=some u:=z;cases z') (fun b z=>absurd rfl z) fun z=>absurd rfl z
 |none=>
  refine core (fun b=>if b=a then some (.frz {cls:= .type "list",data:= .seq vs.toArray} (.lst (ns.map V.int)))else none) (fun b=>?_) (.inl (.inr ⟨{cls:= .type "list",data:= .seq vs.toArray},if_pos rfl⟩)) (fun b u z=>?_) (fun b z=>?_) fun _=>hk
  ·by_cases hb:b=a
   ·exact .inr ⟨_,_,if_pos hb⟩
   ·exact .inl (if_neg hb)
  ·by_cases hb:b=a
   ·have z':=(if_pos hb).symm.trans z;cases z';subst hb;exact⟨ha,by rw[qaT];exact hl,vs,_,rv,ha⟩
   ·have z':=(if_neg hb).symm.trans z;cases z'
  ·by_cases hb:b=a
   ·exact hb
   ·exact absurd (if_neg hb) z
theorem walk_of {n k:Nat}{K:Params->W.Frag}{sp:World->Sp}
  (hn:l.most=some n) (hn2:n<=sizeLine) (hdf:d.params.defaults=[]) (hr:Room k callerA)
  (hY:∀(w:World) (h:Heap),YP w h->(K w.params).In h)
  (F : ∀ (w : World) (mg : Str -> Option Value) (fa : Addr) (h : Heap), (K w.params).In h -> h.Ns mainGlobals mg -> mg d.name = some (.ref fa) ->
   ∃fd:FuncData,(∀(s:Shared) (u:Value),BindsTo s fd ⟨[u],[]⟩ [(x,u)])/\
    ∀base:Heap,(K w.params).In base->base.Ns mainGlobals mg->FnOk l.prog w (K w.params) mg base (CX w) k fa fd [x] (sp w))
  (hsp:∀(w:World) (H:Hp) (a:Addr) (ns:List Int),ns.length<=n->Only H->SqL (K w.params) H a (ns.map V.int)->sp w [.ref a] H (fun v _=>v= .bl true) fun _ _ _=>False)
  (hCX:∀(w:World) (H:Hp) (s:Shared) (e:Value) (s':Shared),CX w [] H s (fun _ _ _=>False) e s'->False):
  W.WalkO q loose XP YP l.row.toRowW d [] (fun f vs=>PySem.call f vs):=by
 refine Att.attach_call hn hdf fun w s₀ s₁ mg mb fa o pm cd doc a vs ns G Y ho hd hcd hmg hobj hints hlen hg=>?_
 have KX:=hY w _ Y;obtain⟨fd,hb,hF⟩:=F w mg fa _ KX G.T.g hmg;exact law_call KX G.T.g G.T.b G.T.builtins G.T.nolimit hg hobj hints (qal hlen hn2) hr hF hb (fun H hO hS=>hsp w H a ns hlen hO hS) fun H e s'=>hCX w H s₁ e s'
noncomputable def zdj (s:Stmt)(j:Nat):Stmt:=match s with
 | .ClassDef _ _ _ body _ _ _ _ _ _ _=>body.getD j (.Pass ⟨0,0,0,0⟩)
 |_=> .Pass ⟨0,0,0,0⟩
noncomputable def zbt (s:Stmt):Arguments:=match s with
 | .FunctionDef _ a _ _ _ _ _ _ _ _=>a
 |_=>{posonlyargs:=[],args:=[],vararg:=none,kwonlyargs:=[],kw_defaults:=[],kwarg:=none,defaults:=[]}
noncomputable def zaO (s:Stmt):List Stmt:=match s with
 | .FunctionDef _ _ b _ _ _ _ _ _ _=>b
 |_=>[]
noncomputable def zan (s:Stmt):Scope:=match s with
 | .FunctionDef _ _ _ _ _ _ sc _ _ _=>sc
 |_=>{kind:= .function,names:=[],isGenerator:=false,isCoroutine:=false}
noncomputable abbrev CX0:CXT:=fun _ _ _ _ _ _=>False
noncomputable abbrev E0:XK:=fun _ _ _=>False
theorem zjO:zgA CX0 X E0:=fun _ _ _ _ _ _ _ h=>h.elim
structure Fun (K:W.Frag) (x qual:Str) (st:Stmt) (f:Addr) (fd:FuncData):Prop where
 ex:∃(oc:Value) (od:Option Addr) (kV doc pm:Value) (an:Option Addr) (cdv ct:Value) (osl:Array (Option Value)),
  fd=W.fnOf x qual (zbt st) (zaO st) (zan st) .none kV doc pm an cdv ct/\K.lookup f=some ⟨oc,od,.func fd,osl⟩/\W.codeIn K cdv qual=true
 kp:W.keepIn K (.ref f)=true
section
variable {P:Program} {w:World} {K:W.Frag} {mg:Str->Option Value} {base:Heap}
theorem Fun.ok {st:Stmt}{N ps:List Str}{k:Nat}(F:Fun K x qual st f fd)(S:FnScope N ps (zan st))(len:∀vs H Q E,sp vs H Q E->vs.length=ps.length)
  (hbody : ∀ (cdv : Value) (A : Around) (outer : List Env) (s : Shared) (H : Hp) (vs : List V) (Q : VK) (E : XK), Room k (A.deeper (envOfC qual (zan st) s.heap.objs.size f cdv)) -> sp vs H Q E ->
   ∃t,PSs (cxOf CX0 P w K mg base N qual (zan st) f cdv A outer s H E).nox (zaO st) t/\t {nx:=fun _ H'=>Q .non H',rt:=Q} (start N vs) H):FnOk P w K mg base CX0 (k+1) f fd ps sp:=by
 obtain⟨oc,od,kV,doc,pm,an,cdv,ct,osl,rfl,lk,hcd⟩:=F.ex;refine fn_of lk hcd S len fun A outer s H vs Q E hr hsp=>?_
 obtain⟨t,h,q⟩:=hbody cdv A outer s H vs Q E hr hsp;exact⟨t,h.nox,q⟩
theorem Fun.binds {st:Stmt}(F:Fun K x qual st f fd)
  (h:∀(kV doc pm:Value) (an:Option Addr) (cdv ct:Value) (us:List Value),us.length=ps.length->bindArgs (W.fnOf x qual (zbt st) (zaO st) (zan st) .none kV doc pm an cdv ct) ⟨us,[]⟩=pure (ps.zip us)):Binds K fd ps []:=by
 obtain⟨oc,od,kV,doc,pm,an,cdv,ct,osl,rfl,lk,hcd⟩:=F.ex;exact .all (h kV doc pm an cdv ct)
theorem zpj {st:Stmt}{od an:Option Addr}{kV doc pm cdv ct:Value}(l:K.lookup f=some ⟨oc,od,.func (W.fnOf x qual (zbt st) (zaO st) (zan st) .none kV doc pm an cdv ct),osl⟩)
  (c:W.codeIn K cdv qual=true) (k:W.keepIn K (.ref f)=true):Fun K x qual st f (W.fnOf x qual (zbt st) (zaO st) (zan st) .none kV doc pm an cdv ct):=⟨⟨oc,od,kV,doc,pm,an,cdv,ct,osl,rfl,l,c⟩,k⟩
end
section
variable {X:Cx}
theorem pv (i:Nat)(hN:autoParam (X.N[i]? =some x) zu3._auto_1)(hv:autoParam (Vis X.env.scope x) zu6._auto_1)(hd:autoParam ((x==("__debug__":Str))=false) zu1._auto_1)
  (hcd:autoParam ((x==("__classdict__":Str))=false) zu1._auto_1):PE X (.Name x pos) (tVar i):=zaX hN hv hd hcd
end
noncomputable def Same (H H':Hp):Prop:=∀b o,H b=some o->H' b=some o
theorem Same.seq {xs:List V}(e:Same H H')(h:SqL K H a xs):SqL K H' a xs:=by
 rcases h with(h|⟨o,h⟩)|h
 ·exact .inl (.inl (e _ _ h))
 ·exact .inl (.inr ⟨o,e _ _ h⟩)
 ·exact .inr h
section
variable {κ:Type} [DecidableEq κ]
noncomputable def valV (kvs:List (κ×V))(k:κ):Option V:=(kvs.find? fun kv=>decide (kv.1=k)).map (·.2)
noncomputable def putK (kvs:List (κ×V))(k:κ)(v:V):List (κ×V):=
 if(kvs.any fun kv=>decide (kv.1=k))=true then kvs.map (fun kv=>if kv.1=k then(kv.1,v)else kv)else kvs++[(k,v)]
theorem zgO {p:κ×V}{r:List (κ×V)}{k:κ}(e:p.1=k):valV (p::r) k=some p.2:=by simp[valV,qbB,e]
theorem zfu {p:κ×V}{r:List (κ×V)}{k:κ}(e:¬p.1=k):valV (p::r) k=valV r k:=by simp[valV,qbB,e]
theorem zl4 (k:κ):∀kvs:List (κ×V),(kvs.any fun kv=>decide (kv.1=k))=(valV kvs k).isSome
 |[]=>rfl
 |p::r=>by
  rw[qbv]
  by_cases e:p.1=k
  ·simp only[zgO e,qbA e,Bool.true_or,Option.isSome_some]
  ·rw[zfu e,qaa e,Bool.false_or];exact zl4 k r
theorem zff (kvs:List (κ×V))(k:κ)(v:V):(putK kvs k v).length<=kvs.length+1:=by
 unfold putK
 split
 ·rw[qaT];lia
 ·rw[qbc,qaQ,qbC];lia
theorem RelO.isSome_eq {u:Option Value}(r:RelO o u):o.isSome=u.isSome:=by
 cases o with
 |none=>cases u with
  |none=>rfl
  |some _=>exact(show False from r).elim
 |some _=>cases u with
  |none=>exact(show False from r).elim
  |some _=>rfl
theorem KV.val {kvs:List (κ×V)}{vs:List (κ×Value)}(r:KV kvs vs)(k:κ):RelO (valV kvs k) (valueAt vs k):=by
 unfold KV at r
 induction r with
 |nil=>exact True.intro
 | @cons p q ps qs h t ih=>
  obtain⟨h1,h2⟩:=h
  by_cases e:p.1=k
  ·have e':q.1=k:=h1.symm.trans e;have b:valueAt (q::qs) k=some q.2:=by simp[valueAt,qbB,e']
   rw[zgO e,b];exact h2
  ·have e':¬q.1=k:=fun z=>e (h1.trans z)
   have b:valueAt (q::qs) k=valueAt qs k:=by simp[valueAt,qbB,e']
   rw[zfu e,b];exact ih
theorem KV.any {kvs:List (κ×V)}{vs:List (κ×Value)}(r:KV kvs vs)(k:κ):(kvs.any fun kv=>decide (kv.1=k))=vs.any fun kv=>decide (kv.1=k):=by
 unfold KV at r
 induction r with
 |nil=>rfl
 |cons h t ih=>rw[qbv,qbv,ih,h.1]
theorem KV.repl {kvs:List (κ×V)}{vs:List (κ×Value)}(r:KV kvs vs)(k:κ)(ry:RelV y u):
  KV (kvs.map fun kv=>if kv.1=k then(kv.1,y)else kv) (vs.map fun kv=>if kv.1=k then(kv.1,u)else kv):=by
 unfold KV at r ⊢
 induction r with
 |nil=>exact .nil
 | @cons p q ps qs h t ih=>
  rw[qaS,qaS];refine .cons ?_ ih;obtain⟨h1,h2⟩:=h
  by_cases e:p.1=k
  ·rw[if_pos e,if_pos (h1.symm.trans e)];exact⟨h1,ry⟩
  ·rw[if_neg e,if_neg (fun z=>e (h1.trans z))];exact⟨h1,h2⟩
theorem KV.put {kvs:List (κ×V)}{vs:List (κ×Value)}(r:KV kvs vs)(k:κ)(ry:RelV y u):KV (putK kvs k y) (stored vs k u):=by
 unfold putK stored;rw[r.any k]
 by_cases e:(vs.any fun kv=>decide (kv.1=k))=true
 ·rw[if_pos e,if_pos e];exact r.repl k ry
 ·rw[if_neg e,if_neg e];exact Paired.snoc r ⟨rfl,ry⟩
theorem KV.length {kvs:List (κ×V)}{vs:List (κ×Value)}(r:KV kvs vs):kvs.length=vs.length:=qac r
end
theorem zmT {P:Program}{k:Key}(r:RelV (kV k) u):(zbI P w).is k u=true:=by
 cases k with
 |inl i=>obtain⟨t,e⟩:=(show ∃t,u=Value.int i t from r);subst e;exact zkN P w i t
 |inr x=>obtain⟨t,e⟩:=(show ∃t,u=Value.str x t from r);subst e;exact zkF P w x t
theorem zkc {P:Program}:∀{ks:List Key} {us:List Value},Vals (ks.map kV) us->ItemsAre (zbI P w) ks us
 |[],_,r=>by rw[qbq]at r;cases r;exact .nil
 |k::ks,_,r=>by
  rw[qaS]at r;cases r with
  |cons h t=>exact .cons (zmT h) (zkc t)
noncomputable abbrev KT (H:Hp):List (List Key×V)->List (List Key×Addr×Value)->Prop:=Paired fun p q=>p.1=q.1/\H q.2.1=some (.tup (p.1.map kV))/\RelV p.2 q.2.2
theorem KT.val (r:KT H kvs xs)(k:List Key):RelO (valV kvs k) ((atKey xs k).map (·.2)):=by
 induction r with
 |nil=>exact True.intro
 | @cons p q ps qs h t ih=>
  obtain⟨h1,_,h2⟩:=h
  by_cases e:p.1=k
  ·have e':q.1=k:=h1.symm.trans e;have b:atKey (q::qs) k=some q.2:=by simp[atKey,qbB,e']
   rw[zgO e,b];exact h2
  ·have e':¬q.1=k:=fun z=>e (h1.trans z)
   have b:atKey (q::qs) k=atKey qs k:=by simp[atKey,qbB,e']
   rw[zfu e,b];exact ih
theorem KT.repl (r:KT H kvs xs)(k:List Key)(ry:RelV y u):
  KT H (kvs.map fun kv=>if kv.1=k then(kv.1,y)else kv) (xs.map (putAt k u)):=by
 induction r with
 |nil=>exact .nil
 | @cons p q ps qs h t ih=>
  rw[qaS,qaS];refine .cons ?_ ih;obtain⟨h1,h2,h3⟩:=h;unfold putAt
  by_cases e:p.1=k
  ·rw[if_pos e,if_pos (h1.symm.trans e)];exact⟨h1,h2,ry⟩
  ·rw[if_neg e,if_neg (fun z=>e (h1.trans z))];exact⟨h1,h2,h3⟩
theorem KT.put (r:KT H kvs xs)(k:List Key)(hb:H b=some (.tup (k.map kV)))(ry:RelV y u):
  KT H (putK kvs k y) (storedH xs k b u):=by
 have e:(kvs.any fun kv=>decide (kv.1=k))=(atKey xs k).isSome:=by
  rw[zl4,(r.val k).isSome_eq,Option.isSome_map]
 unfold putK storedH;rw[e]
 by_cases q:(atKey xs k).isSome=true
 ·rw[if_pos q,if_pos q];exact r.repl k ry
 ·rw[if_neg q,if_neg q];exact Paired.snoc r ⟨rfl,hb,ry⟩
theorem KT.keeps (r:KT H kvs xs)(ht:∀b ys,H b=some (.tup ys)->H' b=some (.tup ys)):KT H' kvs xs:=
 Paired.mapP r fun _ _ z=>⟨z.1,ht _ _ z.2.1,z.2.2⟩
section
variable {P:Program} {w:World} {H:Hp} {h:Heap} {a:Addr}
theorem rd_of {u:HO}(ok:HOk P w H h)(e:Rd H a u):ObjOk P w H h a u:=e.ok ok
theorem znW {kvs:List (Key×V)}(ok:HOk P w H h)(e:Rd H a (.dK kvs)):kvs.length<=sizeLine/\(a==sysModules)=false/\∃vs,KV kvs vs/\h.DictOf (zbI P w) a vs:=
 show ObjOk P w H h a (.dK kvs)from rd_of ok e
theorem dk_of {kvs:List (Key×V)}(ok:HOk P w H h)(e:H a=some (.dK kvs)):kvs.length<=sizeLine/\(a==sysModules)=false/\∃vs,KV kvs vs/\h.DictOf (zbI P w) a vs:=znW ok (.inl e)
theorem zjY {ks:List Key}(ok:HOk P w H h)(e:H a=some (.tup (ks.map kV))):(tupleKind (zbI P w)).is h ks a:=by
 obtain⟨_,its,r,o,h1,h2,n,h3⟩:=(show ObjOk P w H h a (.tup (ks.map kV))from ok a _ e);exact⟨o,its.toArray,n,h1,h2,h3,by simpa using zkc r⟩
theorem zno (ok:HOk P w H h)(e:Rd H a (.dT kvs)):kvs.length<=sizeLine/\(a==sysModules)=false/\
  ∃xs,KT H kvs xs/\h.DictOfH (tupleKind (zbI P w)) a xs:=by
 obtain⟨z,y,xs,r,o,es,ep,h1,h2,h3,h4,h5⟩:=(show ObjOk P w H h a (.dT kvs)from rd_of ok e);refine⟨z,y,xs,r,o,es,ep,h1,h2,h3,h4,fun x hx=>?_,h5⟩;have all:∀{l:List (List Key×V)} {m:List (List Key×Addr×Value)},KT H l m->∀x∈m,(tupleKind (zbI P w)).is h x.1 x.2.1:=by
  intro l m q
  induction q with
  |nil=>intro x hx;exact nomatch hx
  | @cons p q ps qs hq t ih=>
   intro x hx;rcases qaq.mp hx with e|hx
   ·subst e;exact zjY ok (by rw[<-hq.1];exact hq.2.1)
   ·exact ih x hx
 exact all r x hx
theorem dt_of (ok:HOk P w H h)(e:H a=some (.dT kvs)):kvs.length<=sizeLine/\(a==sysModules)=false/\
  ∃xs,KT H kvs xs/\h.DictOfH (tupleKind (zbI P w)) a xs:=zno ok (.inl e)
end
noncomputable def DGet (H:Hp)(a:Addr)(y:V)(r:Option V):Prop:=
 (∃kvs k,Rd H a (.dK kvs)/\y=kV k/\r=valV kvs k)\/∃kvs k b,Rd H a (.dT kvs)/\y= .ref b/\H b=some (.tup (k.map kV))/\r=valV kvs k
noncomputable def DPut (H:Hp)(a:Addr)(y v:V)(H':Hp):Prop:=
 (∃kvs k,H a=some (.dK kvs)/\y=kV k/\kvs.length<sizeLine/\H'=upd H a (.dK (putK kvs k v)))\/
 ∃kvs k b,H a=some (.dT kvs)/\y= .ref b/\H b=some (.tup (k.map kV))/\kvs.length<sizeLine/\H'=upd H a (.dT (putK kvs k v))
theorem DPut.k {kvs:List (Key×V)}{k:Key}{v:V}(e:H a=some (.dK kvs))(hl:kvs.length<sizeLine):DPut H a (kV k) v (upd H a (.dK (putK kvs k v))):= .inl ⟨kvs,k,e,rfl,hl,rfl⟩
section
variable {X:Cx} {pins:List (Addr×Obj)} {σ:St} {H:Hp} {s:Shared} {a:Addr} {y v:V} {u r:Value} {o:Option V} {A:Around} {E:Value->Shared->Prop}
theorem Inv.big (I:Inv X pins σ H s):sysModules<s.heap.objs.size:=by
 have h:mainGlobals<s.heap.objs.size:=(I.mod.glob.keeps I.bk).lt;exact Nat.lt_trans (by decide) h
theorem znR (hu:A.units+1<cLine)(I:Inv X pins σ H s)(g:DGet H a y (some v))(ry:RelV y u)(h:∀w' s',Inv X pins σ H s'->RelV v w'->Q w' s'):
  wpAny (model X.prog X.w) A (getItem (.ref a) u) Q E s:=by
 rcases g with⟨kvs,k,e,ey,l⟩|⟨kvs,k,b,e,ey,eb,l⟩
 ·subst ey;obtain⟨z,hd,vs,rel,dd⟩:=znW I.hok e;obtain⟨w',hw,rw'⟩:=RelO.some_of (v:=v) (o:=valueAt vs k) (by rw[l];exact rel.val k);exact wpAny_getItem_of (zmT ry) dd.mapOf hw (h w' _ (I.tok _) rw')
 ·subst ey;cases(show u=Value.ref b from ry);obtain⟨z,hd,xs,rel,dd⟩:=zno I.hok e;obtain⟨w',hw,rw'⟩:=RelO.some_of (v:=v) (o:=(atKey xs k).map (·.2)) (by rw[l];exact rel.val k);obtain⟨p,hp,hp2⟩:=qbD.mp hw;refine wpAny_getItem_heap (qbE hu) (zjY I.hok eb) dd hp ?_;rw[hp2];exact h w' _ (I.tok _) rw'
theorem d_in (hu:A.units+1<cLine)(I:Inv X pins σ H s)(g:DGet H a y o)(ry:RelV y u)(h:∀s',Inv X pins σ H s'->Q (.bool o.isSome) s'):
  wpAny (model X.prog X.w) A (compareOp .In u (.ref a)) Q E s:=by
 rcases g with⟨kvs,k,e,ey,l⟩|⟨kvs,k,b,e,ey,eb,l⟩
 ·subst ey;obtain⟨z,hd,vs,rel,dd⟩:=znW I.hok e;refine wpAny_in_of (zmT ry) hd dd.mapOf ?_;rw[<-(rel.val k).isSome_eq,<-l];exact h _ (I.tok _)
 ·subst ey;cases(show u=Value.ref b from ry);obtain⟨z,hd,xs,rel,dd⟩:=zno I.hok e;refine wpAny_in_heap (qbE hu) (zjY I.hok eb) hd dd ?_;have q:=(rel.val k).isSome_eq;rw[Option.isSome_map]at q;rw[<-q,<-l];exact h _ (I.tok _)
theorem d_notIn (hu:A.units+1<cLine)(I:Inv X pins σ H s)(g:DGet H a y o)(ry:RelV y u)(h:∀s',Inv X pins σ H s'->Q (.bool (!o.isSome)) s'):
  wpAny (model X.prog X.w) A (compareOp .NotIn u (.ref a)) Q E s:=by
 rcases g with⟨kvs,k,e,ey,l⟩|⟨kvs,k,b,e,ey,eb,l⟩
 ·subst ey;obtain⟨z,hd,vs,rel,dd⟩:=znW I.hok e;refine wpAny_notIn_of (zmT ry) hd dd.mapOf ?_;rw[<-(rel.val k).isSome_eq,<-l];exact h _ (I.tok _)
 ·subst ey;cases(show u=Value.ref b from ry);obtain⟨z,hd,xs,rel,dd⟩:=zno I.hok e;refine wpAny_notIn_heap (qbE hu) (zjY I.hok eb) hd dd ?_;have q:=(rel.val k).isSome_eq;rw[Option.isSome_map]at q;rw[<-q,<-l];exact h _ (I.tok _)
theorem zkQ {t':Nat}{ob:HO}(I:Inv X pins σ H s)(mu:Mut (H a))(hs:Heap.SameBut a s.heap h')(he:∃q,h'.get? a=some q)(new:ObjOk X.prog X.w (upd H a ob) h' a ob):
  Inv X pins σ (upd H a ob) {s with heap:=h',toks:=t'}:=
 I.write (x:=a) (e:=a) mu (.inl rfl) (fun b q hb z=>(hs.2 b hb).trans z) he new
theorem dk_new {P:Program}{kvs:List (Key×V)}(z:kvs.length<=sizeLine)(hd:(a==sysModules)=false)(rel:KV kvs vs)(dd:h'.DictOf (zbI P w) a vs):
  ObjOk P w H' h' a (.dK kvs):=⟨z,hd,vs,rel,dd⟩
theorem zm3 {Q:Unit->Shared->Prop}(hu:A.units+1<cLine)(I:Inv X pins σ H s)(g:DPut H a y v H')(ry:RelV y u)(rv:RelV v r)(h:∀s',Inv X pins σ H' s'->Q () s'):
  wpAny (model X.prog X.w) A (setItem (.ref a) u r) Q E s:=by
 rcases g with⟨kvs,k,e,ey,l,eH⟩|⟨kvs,k,b,e,ey,eb,l,eH⟩
 ·subst ey eH;obtain⟨z,hd,vs,rel,dd⟩:=dk_of I.hok e;have hz:vs.length<=sizeLine:=by rw[<-rel.length];exact z
  have hl:(putK kvs k v).length<=sizeLine:=by have:=zff kvs k v;lia
  refine wpAny_setItem_pairs (hsz:=hz) (zmT ry) dd fun h' dd' hs=>h _ ?_
  have he:∃q,h'.get? a=some q:=let⟨q,_,_,hq,_⟩:=dd';⟨q,hq⟩;exact zkQ I (by rw[e];exact True.intro) hs he (dk_new hl hd (rel.put k rv) dd')
 ·subst ey eH;cases(show u=Value.ref b from ry);obtain⟨z,hd,xs,rel,dd⟩:=dt_of I.hok e;have hz:xs.length<=sizeLine:=by rw[<-qac rel];exact z
  have hl:(putK kvs k v).length<=sizeLine:=by have:=zff kvs k v;lia
  refine wpAny_setItem_heap (hsz:=hz) (qbE hu) (zjY I.hok eb) dd fun h' dd' hs=>h _ ?_
  obtain⟨q,es,ep,hq,h2,h3,h4,_,h5⟩:=dd';refine zkQ I (by rw[e];exact True.intro) hs ⟨q,hq⟩ ⟨hl,hd,_,(rel.put k eb rv).keeps fun c ys ec=>?_,q,es,ep,hq,h2,h3,h4,h5⟩;rw[zak (ne_of ec e (fun z=>nomatch z))];exact ec
end
noncomputable def NoSl (i:Expr):Prop:=∀ov iv,subscripted i false ov iv=operate [ov,iv] (getItem ov iv)
theorem subD_of {env:Env}{value slice:Expr}{T id:String}
  (hl:typeLookup (.type T) "__getitem__"=pure (some (.builtin id))) (hs:NoSl slice)
  (h:wpAny (model prog w) A (eval value env) (fun o s₁=>wpAny (model prog w) A (eval slice env) (fun i s₂=>s₂.TypeIs o T/\wpAny (model prog w) A (getItem o i) Q E s₂) E s₁) E s):
  wpAny (model prog w) A (eval (.Subscript value slice pos) env) Q E s:=by
 refine Subscript_ (qaw h (fun o s₁ h₁=>qaw h₁ (fun i s₂ h₂=>?_) fun _ _ x=>x) fun _ _ x=>x);obtain⟨hT,h₂⟩:=h₂;unfold subscriptTail;refine qaB ?_;rw[getitemInPython_of_ne hT.not_modules];refine qaB (wpAny_specialOf hT hl ?_);have fin:wpAny (model prog w) A (subscripted slice false o i) (fun r s₃=>wpAny (model prog w) A (letTemporaryGo value o r>>=fun _=>pure r) Q E s₃) E s₂:=by
  rw[hs o i];exact wpAny_operating (qaw h₂ (fun r s₃ h₃=>qaB (wpAny_letTemporaryGo (qaE h₃))) fun _ _ x=>x)
 first
  |exact qaE (qaB fin)
  |exact qaB (qaE (qaB fin))
  |exact qaB fin
theorem zkU {σ:St}(I:Inv X pins σ H s)(g:DGet H a y o):s.TypeIs (.ref a) "dict":=by
 rcases g with⟨kvs,k,e,_,_⟩|⟨kvs,k,b,e,_,_,_⟩
 ·obtain⟨_,_,vs,_,dd⟩:=znW I.hok e;exact dd.typeIs
 ·obtain⟨_,_,xs,_,dd⟩:=zno I.hok e;exact dd.typeIs
noncomputable def tDGet (td ty:TE):TE:=fun σ H Q=>td σ H fun x H1=>ty σ H1 fun y H2=>∃a v,x= .ref a/\DGet H2 a y (some v)/\Q v H2
noncomputable def tDIn (ty td:TE):TE:=fun σ H Q=>ty σ H fun y H1=>td σ H1 fun x H2=>∃a o,x= .ref a/\DGet H2 a y o/\Q (.bl o.isSome) H2
noncomputable def tDNotIn (ty td:TE):TE:=fun σ H Q=>ty σ H fun y H1=>td σ H1 fun x H2=>∃a o,x= .ref a/\DGet H2 a y o/\Q (.bl (!o.isSome)) H2
noncomputable def sDPut (td ty tv:TE):TS:=fun D σ H=>tv σ H fun v H1=>td σ H1 fun x H2=>ty σ H2 fun y H3=>∃a H4,x= .ref a/\DPut H3 a y v H4/\D.nx σ H4
section
variable {X:Cx} {o i e value:Expr} {pos pos' tpos:Pos} {td ty tv:TE}
theorem pe_dget (hu:X.A.units+1<cLine)(ho:PE X o td)(hi:PE X i ty)(hs:NoSl i):PE X (.Subscript o i pos) (tDGet td ty):=by
 intro pins s σ H Q I h;refine subD_of PySem.F.slot_dict_getitem.lookup hs (thn (ho pins s σ H _ I h) fun u s1 ⟨x,H1,I1,rx,q1⟩=>thn (hi pins s1 σ H1 _ I1 q1) fun iv s2 ⟨y,H2,I2,ry,a,v,ex,g,q2⟩=>?_);subst ex;obtain rfl:u=Value.ref a:=rx;exact⟨zkU I2 g,znR hu I2 g ry fun w' s3 I3 rw'=>⟨v,H2,I3,rw',q2⟩⟩
theorem pc_din (hu:X.A.units+1<cLine)(hi:PE X i ty)(ho:PE X o td):PC X .In i o (tDIn ty td):=by
 intro pins s σ H Q I h;refine thn (hi pins s σ H _ I h) fun iv s1 ⟨y,H1,I1,ry,q1⟩=>thn (ho pins s1 σ H1 _ I1 q1) fun u s2 ⟨x,H2,I2,rx,a,ov,ex,g,q2⟩=>?_
 subst ex;obtain rfl:u=Value.ref a:=rx;exact d_in hu I2 g ry fun s3 I3=>⟨.bl ov.isSome,H2,I3,rfl,q2⟩
theorem zo5 (hu:X.A.units+1<cLine)(hi:PE X i ty)(ho:PE X o td):PC X .NotIn i o (tDNotIn ty td):=by
 intro pins s σ H Q I h;refine thn (hi pins s σ H _ I h) fun iv s1 ⟨y,H1,I1,ry,q1⟩=>thn (ho pins s1 σ H1 _ I1 q1) fun u s2 ⟨x,H2,I2,rx,a,ov,ex,g,q2⟩=>?_
 subst ex;obtain rfl:u=Value.ref a:=rx;exact d_notIn hu I2 g ry fun s3 I3=>⟨.bl (!ov.isSome),H2,I3,rfl,q2⟩
theorem ps_dput (hu:X.A.units+1<cLine)(ho:PE X o td)(hi:PE X i ty)(hv:PE X value tv)(hs:swapsWith value (some (.Subscript o i pos')) pos.line X.env=pure false):
  PS X (.Assign [.Subscript o i pos'] value pos) (sDPut td ty tv):=by
 intro pins s σ H D I h;refine wpAny_Assign_Subscript (thn (hv pins s σ H _ I h) fun r s1 ⟨v,H1,I1,rv,q1⟩=>thn (ho pins s1 σ H1 _ I1 q1) fun u s2 ⟨x,H2,I2,rx,q2⟩=>thn (hi pins s2 σ H2 _ I2 q2) fun iv s3 ⟨y,H3,I3,ry,a,H4,ex,g,q3⟩=>?_) hs;subst ex;obtain rfl:u=Value.ref a:=rx;exact zm3 hu I3 g ry rv fun s4 I4=>⟨σ,H4,I4,q3⟩
end
theorem dk_empty {P:Program}(h:Heap)(hb:sysModules<h.objs.size):ObjOk P w H (h.push {cls:= .type "dict",data:= .dict #[]}) h.objs.size (.dK []):=
 ⟨qaW _,qab.mpr (Ne.symm (qah hb)),[],.nil,Heap.DictOf.new h⟩
noncomputable def znL:List (TE×TE)->St->Hp->(List (V×V)->Hp->Prop)->Prop
 |[],_,H,Q=>Q [] H
 |(tk,tv)::r,σ,H,Q=>tk σ H fun x H1=>tv σ H1 fun y H2=>znL r σ H2 fun ps H3=>Q ((x,y)::ps) H3
noncomputable abbrev VV:List (V×V)->List (Value×Value)->Prop:=Paired fun p q=>RelV p.1 q.1/\RelV p.2 q.2
noncomputable def PPs (X:Cx)(pos:Pos)(keys:List (Option Expr))(values:List Expr)(trs:List (TE×TE)):Prop:=
 ∀(pins:List (Addr×Obj)) (s:Shared) (σ:St) (H:Hp) (Q:List (V×V)->Hp->Prop),Inv X pins σ H s->znL trs σ H Q->
  wpAny (model X.prog X.w) X.A (evalPairs (pairTrees keys values X.env pos)) (fun vs s'=>∃ps H',Inv X pins σ H' s'/\VV ps vs/\Q ps H') X.xe s
theorem pps_nil:PPs X pos [] [] []:=fun pins s σ H Q I h=>pairTrees_nil_walk ⟨[],H,I,.nil,h⟩
theorem pps_cons {k v:Expr}{vs:List Expr}{tk tv:TE}(hk:PE X k tk)(hv:PE X v tv)(hr:PPs X pos ks vs trs):
  PPs X pos (some k::ks) (v::vs) ((tk,tv)::trs):=fun pins s σ H Q I h=>
 pairTrees_cons_walk (thn (hk pins s σ H _ I h) fun u s1 ⟨x,H1,I1,rx,q1⟩=>thn (hv pins s1 σ H1 _ I1 q1) fun w2 s2 ⟨y,H2,I2,ry,q2⟩=>
  thn (hr pins s2 σ H2 _ I2 q2) fun ws s3 ⟨ps,H3,I3,rel,q3⟩=>⟨(x,y)::ps,H3,I3,.cons ⟨rx,ry⟩ rel,q3⟩)
noncomputable def zjG (kvs more:List (Key×V)):List (Key×V):=more.foldl (fun acc kv=>putK acc kv.1 kv.2) kvs
theorem KV.merge:∀{more:List (Key×V)} {rs:List (Key×Value)} {kvs:List (Key×V)} {vs:List (Key×Value)},KV more rs->KV kvs vs->KV (zjG kvs more) (merged vs rs):=by
 intro more rs kvs vs r;unfold KV at r
 induction r generalizing kvs vs with
 |nil=>intro q;exact q
 | @cons p q ps qs h t ih=>
  intro r0;have e:KV (putK kvs p.1 p.2) (stored vs q.1 q.2):=by
   have:=r0.put p.1 h.2;rw[<-h.1];exact this
  exact ih e
theorem zfB:∀(more kvs:List (Key×V)),(zjG kvs more).length<=kvs.length+more.length
 |[],kvs=>by show kvs.length<=kvs.length+0;lia
 |p::r,kvs=>by
  have h1:=zfB r (putK kvs p.1 p.2);have h2:=zff kvs p.1 p.2;show(zjG (putK kvs p.1 p.2) r).length<=_;rw[qaQ];lia
theorem zil {P:Program}{w:World}:∀{kvs:List (Key×V)} {ws:List (Value×Value)},VV (kvs.map fun kv=>(kV kv.1,kv.2)) ws->∃rs,Carries (zbI P w) ws rs/\KV kvs rs
 |[],_,r=>by rw[qbq]at r;cases r;exact⟨[],True.intro,.nil⟩
 |p::kvs,_,r=>by
  rw[qaS]at r;cases r with
  | @cons a b as bs h t=>
   obtain⟨rs,c,q⟩:=zil (P:=P) (w:=w) t;obtain⟨b1,b2⟩:=b;exact⟨(p.1,b2)::rs,⟨zmT h.1,rfl,c⟩,.cons ⟨rfl,h.2⟩ q⟩
noncomputable def tDisp (trs:List (TE×TE)):TE:=fun σ H Q=>∀p,H p=none->znL trs σ (upd H p (.dK [])) fun ps H2=>H2 p=some (.dK [])/\∃kvs:List (Key×V),ps=kvs.map (fun kv=>(kV kv.1,kv.2))/\kvs.length<=15/\Q (.ref p) (upd H2 p (.dK (zjG [] kvs)))
theorem pe_disp (h:PPs X pos keys values trs)(hall:keys.all (·.isSome)=true)(hl:keys.length=values.length)(h0:keys≠[])
  (h15:keys.length<=15):PE X (.Dict keys values pos) (tDisp trs):=by
 intro pins s σ H Q I q;have hn:=I.hok.fresh (qaH s.heap.objs.size);have I1:=I.laid (a:=s.heap.objs.size) (o:= .dK []) (h':=s.heap.push {cls:= .type "dict",data:= .dict #[]}) (t':=s.toks) (fun _ _ q=>qaF _ q) (qaH _) (dk_empty s.heap I.big);refine wpAny_Dict_walk (knd:=zbI X.prog X.w) hall hl h0 h15 (thn (h pins _ σ _ _ I1 (q _ hn)) fun ws s2 ⟨ps,H2,I2,rel,e,kvs,ep,lk,q2⟩=>?_);subst ep;obtain⟨rs,c,rk⟩:=zil (P:=X.prog) (w:=X.w) rel;obtain⟨z,hd,vs0,r0,dd⟩:=dk_of I2.hok e;cases r0;refine⟨rs,c,dd,fun h' dd' hs=>⟨.ref s.heap.objs.size,_,?_,rfl,q2⟩⟩;have hz:(zjG [] kvs).length<=sizeLine:=by
  have h1:=zfB kvs [];rw[qbC]at h1;rw[qaM];lia
 have he:∃q,h'.get? s.heap.objs.size=some q:=let⟨q,_,_,hq,_⟩:=dd';⟨q,hq⟩;exact zkQ I2 (by rw[e];exact True.intro) hs he (dk_new hz hd (rk.merge .nil) dd')
end L2
namespace M
open L2 PySem
variable {G G' H:Hp} {a p l:Addr} {o:Obj} {xs ys:List V} {ks:List (List Int)} {A A':List Addr} {K:W.Frag} {x v:V} {d:D} {ds es:List D} {i:Nat} {c:Ch} {t:T} {ov:Option (Option V)} {s:Sl} {ρ ρ':R} {e:Expr} {b:Bool} {f:D->D->Option D} {ma:ME} {op:Operator} {r:V->Hp->VK->Prop} {g:D->Option D}
inductive D where
 |non|bl (b:Bool)|int (i:Int)|str (x:Str)|lst (ds:List D)|tup (ds:List D)|scr (ns:List Int)|exc (c:Str)|dic (ks:List Int) (ds:List D)|dit (ks:List (List Int)) (ds:List D)
noncomputable def zkR (a C:Addr)(h:Heap):Prop:=∃o,h.get? a=some o/\o.cls= .ref C
noncomputable def kI (n:Int):Key:=Sum.inl n
noncomputable def kn (a:Addr)(o:Obj):HO:= .ext (fun h=>h.get? a=some o)
noncomputable def hI:Key->Int
 | .inl k=>hashInt k
 | .inr _=>0
noncomputable def DtN (o:Obj)(xs:List (List Key×Addr×Value)):Prop:=o.ExactDict/\(∃es ep,o.data= .dict es ep/\es.toList=xs.map fun x=>⟨reduceHash (Builtin.Tuple.tupleHashOf (x.1.map hI)),.ref x.2.1,x.2.2⟩)/\(xs.map (·.1)).Nodup
structure DtI (G:Hp) (a:Addr) (o:Obj) (xs:List (List Key×Addr×Value)) (ks:List (List Int)) (ys:List (List Key×V)):Prop where
 sys:(a==sysModules)=false
 dn:DtN o xs
 len:ys.length<=sizeLine
 key:ys.map (·.1)=ks.map (·.map kI)
 kt:Paired (fun(p:List Key×V) (q:List Key×Addr×Value)=>p.1=q.1/\G q.2.1=some (.tup (p.1.map kV))/\RelV p.2 q.2.2) ys xs
mutual
noncomputable def RepD (K:W.Frag)(G:Hp)(v:V):D->Prop
 | .non=>v= .non
 | .bl b=>v= .bl b
 | .int i=>v= .int i
 | .str x=>v= .str x
 | .lst ds=>∃a xs,v= .ref a/\G a=some (.lst xs)/\RepL K G xs ds
 | .tup ds=>∃a xs,v= .ref a/\G a=some (.tup xs)/\RepL K G xs ds
 | .scr ns=>∃a,v= .ref a/\SqL K G a (ns.map V.int)
 | .exc c=>∃a C,v= .ref a/\W.nsIn K mainGlobals c=some (some (.ref C))/\G a=some (.ext (zkR a C))
 | .dic ks ds=>∃a ys,v= .ref a/\Rd G a (.dK ys)/\ys.map (·.1)=ks.map kI/\RepL K G (ys.map (·.2)) ds
 | .dit ks ds=>∃a ys o xs,v= .ref a/\G a=some (kn a o)/\DtI G a o xs ks ys/\RepL K G (ys.map (·.2)) ds
noncomputable def RepL (K:W.Frag)(G:Hp)(xs:List V):List D->Prop
 |[]=>xs=[]
 |d::ds=>∃x ys,xs=x::ys/\RepD K G x d/\RepL K G ys ds
end
noncomputable def Fz (G H:Hp):Prop:=∀a o,G a=some o->H a=some o
theorem DtI.mono {xs:List (List Key×Addr×Value)}{ys:List (List Key×V)}(d:DtI G a o xs ks ys)(h:Fz G G'):DtI G' a o xs ks ys:={d with kt:=Paired.mapP d.kt fun _ _ z=>⟨z.1,h _ _ z.2.1,z.2.2⟩}
theorem Fz.refl (G:Hp):Fz G G:=fun _ _ h=>h
theorem Fz.trans {A B C:Hp}(h:Fz A B)(k:Fz B C):Fz A C:=fun a o e=>k a o (h a o e)
theorem Fz.free (h:Fz G H)(e:H p=none):G p=none:=by
 cases q:G p with
 |none=>rfl
 |some o=>rw[h p o q]at e;cases e
theorem Fz.new (e:G p=none)(o:HO):Fz G (upd G p o):=fun a u q=>by
 rw[zak (zaH q e)];exact q
theorem Fz.upd2 (h:Fz G H)(p:Addr)(o:HO):Fz (upd G p o) (upd H p o):=fun a u q=>by
 by_cases e:a=p
 ·subst e;rw[zal]at q ⊢;exact q
 ·rw[zak e]at q ⊢;exact h a u q
theorem Fz.right (h:Fz G H)(e:G p=none)(o:HO):Fz G (upd H p o):=fun a u q=>by
 rw[zak (zaH q e)];exact h a u q
theorem Fz.sql {G H:Hp}(h:Fz G H)(q:SqL K G a xs):SqL K H a xs:=Same.seq (H:=G) (H':=H) h q
mutual
theorem RepD.mono (h:Fz G G'):∀{v:V} {d:D},RepD K G v d->RepD K G' v d
 |_,.non,e=>e
 |_,.bl _,e=>e
 |_,.int _,e=>e
 |_,.str _,e=>e
 |_,.lst _,⟨a,xs,e,q,r⟩=>⟨a,xs,e,h a _ q,RepL.mono h r⟩
 |_,.tup _,⟨a,xs,e,q,r⟩=>⟨a,xs,e,h a _ q,RepL.mono h r⟩
 |_,.scr _,⟨a,e,q⟩=>⟨a,e,h.sql q⟩
 |_,.exc _,⟨a,C,e,n,q⟩=>⟨a,C,e,n,h a _ q⟩
 |_,.dic _ _,⟨a,ys,e,q,f,r⟩=>⟨a,ys,e,q.imp (h a _) fun⟨o,z⟩=>⟨o,h a _ z⟩,f,RepL.mono h r⟩
 |_,.dit _ _,⟨a,ys,o,xs,e,q,f,r⟩=>⟨a,ys,o,xs,e,h a _ q,f.mono h,RepL.mono h r⟩
theorem RepL.mono (h:Fz G G'):∀{xs:List V} {ds:List D},RepL K G xs ds->RepL K G' xs ds
 |_,[],e=>e
 |_,_::_,⟨x,ys,e,q,r⟩=>⟨x,ys,e,RepD.mono h q,RepL.mono h r⟩
end
section
variable {K:W.Frag} {G:Hp}
theorem RepL.nil:RepL K G [] []:=rfl
theorem RepL.cons {x:V}{d:D}(h:RepD K G x d)(t:RepL K G xs ds):RepL K G (x::xs) (d::ds):=⟨x,xs,rfl,h,t⟩
theorem RepL.length:∀{xs:List V} {ds:List D},RepL K G xs ds->xs.length=ds.length
 |_,[],e=>by cases e;rfl
 |_,_::_,⟨x,ys,e,_,r⟩=>by subst e;rw[qaQ,qaQ,RepL.length r]
theorem RepL.get:∀{xs:List V} {ds:List D} {i:Nat} {d:D},RepL K G xs ds->ds[i]? =some d->∃x,xs[i]? =some x/\RepD K G x d
 |_,[],_,_,_,h=>by simp at h
 |_,_::_,0,_,⟨x,ys,e,q,r⟩,h=>by subst e;simp at h;subst h;exact⟨x,rfl,q⟩
 |_,_::_,i+1,_,⟨x,ys,e,q,r⟩,h=>by
  subst e;obtain⟨y,h1,h2⟩:=RepL.get (i:=i) r (by simpa using h);exact⟨y,by simpa using h1,h2⟩
theorem RepL.append:∀{xs ys:List V} {ds es:List D},RepL K G xs ds->RepL K G ys es->RepL K G (xs++ys) (ds++es)
 |_,_,[],_,e,r=>by cases e;exact r
 |_,_,_::_,_,⟨x,zs,e,q,r⟩,s=>by subst e;exact⟨x,zs++_,rfl,q,RepL.append r s⟩
theorem RepL.snoc (h:RepL K G xs ds)(q:RepD K G x d):RepL K G (xs++[x]) (ds++[d]):=h.append (.cons q .nil)
theorem RepL.take:∀{xs:List V} {ds:List D} (n:Nat),RepL K G xs ds->RepL K G (xs.take n) (ds.take n)
 |_,_,0,_=>by simp;exact .nil
 |_,[],n+1,e=>by cases e;exact .nil
 |_,_::_,n+1,⟨x,zs,e,q,r⟩=>by subst e;exact⟨x,zs.take n,rfl,q,RepL.take n r⟩
theorem RepL.drop:∀{xs:List V} {ds:List D} (n:Nat),RepL K G xs ds->RepL K G (xs.drop n) (ds.drop n)
 |_,_,0,r=>by simpa using r
 |_,[],n+1,e=>by cases e;exact .nil
 |_,_::_,n+1,⟨x,zs,e,q,r⟩=>by subst e;exact RepL.drop n r
theorem RepL.set:∀{xs:List V} {ds:List D} (i:Nat) {x:V} {d:D},RepL K G xs ds->RepD K G x d->RepL K G (xs.set i x) (ds.set i d)
 |_,[],_,_,_,e,_=>by cases e;exact .nil
 |_,_::_,0,_,_,⟨x,zs,e,q,r⟩,h=>by subst e;exact⟨_,zs,rfl,h,r⟩
 |_,_::_,i+1,_,_,⟨x,zs,e,q,r⟩,h=>by subst e;exact⟨x,_,rfl,q,RepL.set i r h⟩
theorem RepL.rep (h:RepL K G xs ds):∀k:Nat,RepL K G (List.replicate k xs).flatten (List.replicate k ds).flatten
 |0=> .nil
 |k+1=>by rw[qbw,qbw,qbx,qbx];exact h.append (RepL.rep h k)
theorem RepL.ints:∀(ns:List Int),RepL K G (ns.map V.int) (ns.map D.int)
 |[]=> .nil
 |n::ns=>⟨.int n,ns.map V.int,rfl,rfl,RepL.ints ns⟩
theorem RepL.ints_eq:∀{ns:List Int} {xs:List V},RepL K G xs (ns.map D.int)->xs=ns.map V.int
 |[],_,e=>e
 |n::ns,_,⟨x,ys,e,q,r⟩=>by subst e;cases(show x=V.int n from q);rw[RepL.ints_eq r];rfl
theorem RepL.at {i:Int}(h:RepL K G xs ds)(e:atI ds i=some d):∃x,atI xs i=some x/\RepD K G x d:=by
 unfold atI at e ⊢;rw[h.length];cases q:ixN ds.length i with
 |none=>rw[q]at e;cases e
 |some j=>rw[q]at e;exact h.get e
end
inductive Ch where
 |d (x:D)|l (xs:List D)|t (xss:List (List D))
inductive T where
 |lst (cs:List Ch)|tup (cs:List Ch)|ins (c:Str) (fs:List (Str×Ch))|dic (ks:List Int) (ds:List D)|dit (ks:List (List Int)) (ds:List D)
inductive Sl where
 |emp|val (d:D)|own (ds:List D)|par (ds:List D)|two (ds es:List D)|tre (t:T)|ptr (t:T)
noncomputable abbrev R:=List Sl
noncomputable def Sl.items:Sl->Option (List D)
 | .own ds=>some ds
 | .par ds=>some ds
 |_=>none
structure Bs where
 G:Hp
 H:Hp
 O:List (Nat×Addr)
noncomputable def RepTb (K:W.Frag)(G H:Hp):List V->List (List D)->List Addr->Prop
 |[],[],A=>A=[]
 |x::xs,ds::dss,A=>∃r ys A2,x= .ref r/\H r=some (.lst ys)/\RepL K G ys ds/\RepTb K G H xs dss A2/\A=r::A2
 |_,_,_=>False
noncomputable def RepC (K:W.Frag)(G H:Hp)(x:V):Ch->List Addr->Prop
 | .d y,A=>RepD K G x y/\A=[]
 | .l ds,A=>∃l xs,x= .ref l/\H l=some (.lst xs)/\RepL K G xs ds/\A=[l]
 | .t xss,A=>∃p xs A',x= .ref p/\H p=some (.lst xs)/\RepTb K G H xs xss A'/\A=p::A'
noncomputable def RepCs (K:W.Frag)(G H:Hp):List V->List Ch->List Addr->Prop
 |[],[],A=>A=[]
 |x::xs,c::cs,A=>∃A1 A2,RepC K G H x c A1/\RepCs K G H xs cs A2/\A=A1++A2
 |_,_,_=>False
noncomputable def RepT (K:W.Frag)(G H:Hp)(v:V):T->List Addr->Prop
 | .lst cs,A=>∃p xs A',v= .ref p/\H p=some (.lst xs)/\RepCs K G H xs cs A'/\A=p::A'
 | .tup cs,A=>∃p xs A',v= .ref p/\H p=some (.tup xs)/\RepCs K G H xs cs A'/\A=p::A'
 | .ins c fs,A=>∃p C dx vs A',v= .ref p/\W.nsIn K mainGlobals c=some (some (.ref C))/\H p=some (.ins C dx vs)/\H dx=some (.own p)/\vs.map (·.1)=fs.map (·.1)/\RepCs K G H (vs.map (·.2)) (fs.map (·.2)) A'/\A=p::dx::A'
 | .dic ks ds,A=>∃p ys,v= .ref p/\H p=some (.dK ys)/\ys.map (·.1)=ks.map kI/\RepL K G (ys.map (·.2)) ds/\A=[p]
 | .dit ks ds,A=>∃p ys o xs,v= .ref p/\H p=some (kn p o)/\DtI G p o xs ks ys/\RepL K G (ys.map (·.2)) ds/\A=[p]
section
variable {K:W.Frag} {G G' H H':Hp}
theorem RepTb.move:∀{xs:List V} {dss:List (List D)} {A:List Addr},RepTb K G H xs dss A->Fz G G'->(∀a∈A,H' a=H a)->RepTb K G' H' xs dss A
 |[],[],_,h,_,_=>h
 |x::xs,ds::dss,A,⟨r,ys,A2,e1,e2,e3,e4,e5⟩,hg,hh=>⟨r,ys,A2,e1,by rw[hh r (by rw[e5];simp)];exact e2,e3.mono hg,e4.move hg fun a m=>hh a (by rw[e5];simp[m]),e5⟩
 |[],_::_,_,h,_,_=>h.elim
 |_::_,[],_,h,_,_=>h.elim
theorem RepTb.det:∀{xs:List V} {dss:List (List D)} {A A':List Addr},RepTb K G H xs dss A->RepTb K G' H' xs dss A'->A=A'
 |[],[],_,_,h,h'=>by rw[show _=[]from h,show _=[]from h']
 |x::xs,ds::dss,_,_,⟨r,ys,A2,e1,_,_,e4,e5⟩,⟨r',ys',A2',e1',_,_,e4',e5'⟩=>by
  rw[e1]at e1';cases e1';rw[e5,e5',e4.det e4']
 |[],_::_,_,_,h,_=>h.elim
 |_::_,[],_,_,h,_=>h.elim
theorem RepTb.here:∀{xs:List V} {dss:List (List D)} {A:List Addr},RepTb K G H xs dss A->∀{a:Addr},a∈A->∃xs,H a=some (.lst xs)
 |[],[],_,h,a,m=>by rw[show _=[]from h]at m;cases m
 |x::xs,ds::dss,_,⟨r,ys,A2,e1,e2,_,e4,e5⟩,a,m=>by
  rw[e5]at m;rcases qaq.mp m with rfl|m
  ·exact⟨ys,e2⟩
  ·exact e4.here m
 |[],_::_,_,h,_,_=>h.elim
 |_::_,[],_,h,_,_=>h.elim
theorem RepC.move (h:RepC K G H x c A)(hg:Fz G G')(hh:∀a∈A,H' a=H a):RepC K G' H' x c A:=by
 cases c with
 |d y=>exact⟨h.1.mono hg,h.2⟩
 |l ds=>obtain⟨l,xs,e,q,r,rfl⟩:=h;exact⟨l,xs,e,by rw[hh l (by simp)];exact q,r.mono hg,rfl⟩
 |t xss=>obtain⟨p,xs,A',e,q,r,rfl⟩:=h;exact⟨p,xs,A',e,by rw[hh p (by simp)];exact q,r.move hg fun a m=>hh a (by simp[m]),rfl⟩
theorem RepCs.move:∀{xs:List V} {cs:List Ch} {A:List Addr},RepCs K G H xs cs A->Fz G G'->(∀a∈A,H' a=H a)->RepCs K G' H' xs cs A
 |[],[],_,h,_,_=>h
 |x::xs,c::cs,A,⟨A1,A2,h1,h2,e⟩,hg,hh=>⟨A1,A2,h1.move hg fun a m=>hh a (by rw[e];exact qas _ m),h2.move hg fun a m=>hh a (by rw[e];exact qaK _ m),e⟩
 |[],_::_,_,h,_,_=>h.elim
 |_::_,[],_,h,_,_=>h.elim
theorem RepT.move (h:RepT K G H v t A)(hg:Fz G G')(hh:∀a∈A,H' a=H a):RepT K G' H' v t A:=by
 cases t with
 |lst cs=>obtain⟨p,xs,A',e,q,r,rfl⟩:=h;exact⟨p,xs,A',e,by rw[hh p (by simp)];exact q,r.move hg fun a m=>hh a (by simp[m]),rfl⟩
 |tup cs=>obtain⟨p,xs,A',e,q,r,rfl⟩:=h;exact⟨p,xs,A',e,by rw[hh p (by simp)];exact q,r.move hg fun a m=>hh a (by simp[m]),rfl⟩
 |ins c fs=>obtain⟨p,C,dx,vs,A',e,n,q,q2,f,r,rfl⟩:=h;exact⟨p,C,dx,vs,A',e,n,by rw[hh p (by simp)];exact q,by rw[hh dx (by simp)];exact q2,f,r.move hg fun a m=>hh a (by simp[m]),rfl⟩
 |dic ks ds=>obtain⟨p,ys,e,q,f,r,rfl⟩:=h;exact⟨p,ys,e,by rw[hh p (by simp)];exact q,f,r.mono hg,rfl⟩
 |dit ks ds=>obtain⟨p,ys,o,xs,e,q,f,r,rfl⟩:=h;exact⟨p,ys,o,xs,e,by rw[hh p (by simp)];exact q,f.mono hg,r.mono hg,rfl⟩
theorem RepC.det (h:RepC K G H x c A)(h':RepC K G' H' x c A')(hh:∀a∈A,H' a=H a):A=A':=by
 cases c with
 |d y=>rw[h.2,h'.2]
 |l ds=>obtain⟨l,xs,e,_,_,rfl⟩:=h;obtain⟨l',xs',e',_,_,rfl⟩:=h';rw[e]at e';cases e';rfl
 |t xss=>
  obtain⟨p,xs,B,e,q,r,rfl⟩:=h;obtain⟨p',xs',B',e',q',r',rfl⟩:=h';rw[e]at e';cases e';rw[hh p (by simp),q]at q';cases q';rw[r.det r']
theorem RepCs.det:∀{xs:List V} {cs:List Ch} {A A':List Addr},RepCs K G H xs cs A->RepCs K G' H' xs cs A'->(∀a∈A,H' a=H a)->A=A'
 |[],[],_,_,h,h',_=>by rw[show _=[]from h,show _=[]from h']
 |x::xs,c::cs,_,_,⟨A1,A2,h1,h2,e⟩,⟨B1,B2,k1,k2,e'⟩,hh=>by rw[e,e',h1.det k1 fun a m=>hh a (by rw[e];exact qas _ m),h2.det k2 fun a m=>hh a (by rw[e];exact qaK _ m)]
 |[],_::_,_,_,h,_,_=>h.elim
 |_::_,[],_,_,h,_,_=>h.elim
theorem RepT.det (h:RepT K G H v t A)(h':RepT K G' H' v t A')(hh:∀a∈A,H' a=H a):A=A':=by
 cases t with
 |lst cs=>
  obtain⟨p,xs,B,e,q,r,rfl⟩:=h;obtain⟨p',xs',B',e',q',r',rfl⟩:=h';rw[e]at e';cases e';rw[hh p (by simp),q]at q';cases q';rw[r.det r' fun a m=>hh a (by simp[m])]
 |tup cs=>
  obtain⟨p,xs,B,e,q,r,rfl⟩:=h;obtain⟨p',xs',B',e',q',r',rfl⟩:=h';rw[e]at e';cases e';rw[hh p (by simp),q]at q';cases q';rw[r.det r' fun a m=>hh a (by simp[m])]
 |ins c fs=>
  obtain⟨p,C,dx,vs,B,e,n,q,q2,f,r,rfl⟩:=h;obtain⟨p',C',dx',vs',B',e',n',q',q2',f',r',rfl⟩:=h';rw[e]at e';cases e';rw[hh p (by simp),q]at q';cases q';rw[r.det r' fun a m=>hh a (by simp[m])]
 |dic ks ds=>obtain⟨p,ys,e,q,f,r,rfl⟩:=h;obtain⟨p',ys',e',q',f',r',rfl⟩:=h';rw[e]at e';cases e';rfl
 |dit ks ds=>obtain⟨p,ys,o,xs,e,q,f,r,rfl⟩:=h;obtain⟨p',ys',o',xs',e',q',f',r',rfl⟩:=h';rw[e]at e';cases e';rfl
theorem RepC.here (h:RepC K G H x c A)(m:a∈A):∃xs,H a=some (.lst xs):=by
 cases c with
 |d y=>rw[h.2]at m;cases m
 |l ds=>obtain⟨l,xs,_,q,_,rfl⟩:=h;simp at m;subst m;exact⟨xs,q⟩
 |t xss=>
  obtain⟨p,xs,A',_,q,r,rfl⟩:=h;rcases qaq.mp m with rfl|m
  ·exact⟨xs,q⟩
  ·exact r.here m
theorem RepCs.here:∀{xs:List V} {cs:List Ch} {A:List Addr},RepCs K G H xs cs A->∀{a:Addr},a∈A->∃xs,H a=some (.lst xs)
 |[],[],_,h,a,m=>by rw[show _=[]from h]at m;cases m
 |x::xs,c::cs,_,⟨A1,A2,h1,h2,e⟩,a,m=>by
  rw[e]at m;rcases qar.mp m with m|m
  ·exact h1.here m
  ·exact h2.here m
 |[],_::_,_,h,_,_=>h.elim
 |_::_,[],_,h,_,_=>h.elim
theorem RepT.here (h:RepT K G H v t A)(m:a∈A):H a≠none:=by
 cases t with
 |lst cs=>
  obtain⟨p,xs,B,e,q,r,rfl⟩:=h;rcases qaq.mp m with rfl|m
  ·rw[q];simp
  ·obtain⟨ys,z⟩:=r.here m;rw[z];simp
 |tup cs=>
  obtain⟨p,xs,B,e,q,r,rfl⟩:=h;rcases qaq.mp m with rfl|m
  ·rw[q];simp
  ·obtain⟨ys,z⟩:=r.here m;rw[z];simp
 |ins c fs=>
  obtain⟨p,C,dx,vs,B,e,n,q,q2,f,r,rfl⟩:=h;rcases qaq.mp m with rfl|m
  ·rw[q];simp
  rcases qaq.mp m with rfl|m
  ·rw[q2];simp
  ·obtain⟨ys,z⟩:=r.here m;rw[z];simp
 |dic ks ds=>obtain⟨p,ys,e,q,f,r,rfl⟩:=h;simp at m;subst m;rw[q];simp
 |dit ks ds=>obtain⟨p,ys,o,xs,e,q,f,r,rfl⟩:=h;simp at m;subst m;rw[q];simp
end
noncomputable def SlotOk (K:W.Frag)(B:Bs)(G H:Hp)(i:Nat)(ov:Option (Option V)):Sl->Prop
 | .emp=>True
 | .two _ _=>True
 | .val d=>∃v,ov=some (some v)/\RepD K G v d
 | .own ds=>∃l xs,ov=some (some (.ref l))/\G l=none/\H l=some (.lst xs)/\RepL K G xs ds/\B.H l=none
 | .par ds=>∃l xs,ov=some (some (.ref l))/\G l=none/\H l=some (.lst xs)/\RepL K G xs ds/\(i,l)∈B.O
 | .tre t=>∃v A,ov=some (some v)/\RepT K G H v t A/\A.Nodup/\∀a∈A,G a=none/\B.H a=none
 | .ptr t=>∃v A,ov=some (some v)/\RepT K G H v t A/\(A.Nodup/\∃p,v= .ref p/\(i+4096,p)∈B.O)/\∀a∈A,G a=none/\(i,a)∈B.O
noncomputable def Wr (ρ:R)(i:Nat):Prop:=∃s ds,ρ[i]? =some s/\s.items=some ds
noncomputable def OwS (K:W.Frag)(G H:Hp)(ov:Option (Option V))(a:Addr):Sl->Prop
 | .own _=>ov=some (some (.ref a))
 | .par _=>ov=some (some (.ref a))
 | .tre t=>∃v A,ov=some (some v)/\RepT K G H v t A/\a∈A
 | .ptr t=>∃v A,ov=some (some v)/\RepT K G H v t A/\a∈A
 |_=>False
noncomputable def Nw (K:W.Frag)(G H:Hp)(σ:St)(ρ:R)(a:Addr):Prop:=∀(i:Nat) (s:Sl),ρ[i]? =some s->¬OwS K G H σ[i]? a s
structure SI (K:W.Frag) (B:Bs) (G H:Hp) (σ:St) (ρ:R):Prop where
 fz:Fz G H
 g0:Fz B.G G
 new:∀b o,G b=some o->B.G b≠none\/B.H b=none
 keep:∀b o,B.H b=some o->(∀i,(i,b)∉B.O)->H b=some o
 there:∀b,H b=none->B.H b=none
 len:σ.length=ρ.length
 ob:∀i b,(i,b)∈B.O->B.H b≠none
 slot:∀i s,ρ[i]? =some s->SlotOk K B G H i σ[i]? s
 dis:∀(i j:Nat) (s t:Sl) (a:Addr),i≠j->ρ[i]? =some s->ρ[j]? =some t->OwS K G H σ[i]? a s->¬OwS K G H σ[j]? a t
section
variable {K:W.Frag} {B:Bs} {G G' H H':Hp} {σ:St} {ρ:R}
theorem SlotOk.own (h:SlotOk K B G H i ov s)(w:OwS K G H ov a s):G a=none/\H a≠none/\(B.H a=none\/(i,a)∈B.O):=by
 cases s with
 |emp=>exact w.elim
 |two _ _=>exact w.elim
 |val d=>exact w.elim
 |own ds=>obtain⟨l,xs,e,g,k,r,n⟩:=h;rw[show ov=_ from w]at e;cases e;exact⟨g,by rw[k];simp,.inl n⟩
 |par ds=>obtain⟨l,xs,e,g,k,r,n⟩:=h;rw[show ov=_ from w]at e;cases e;exact⟨g,by rw[k];simp,.inr n⟩
 |tre t=>
  obtain⟨v,A,e,r,nd,f⟩:=h;obtain⟨v',A',e',r',m⟩:=w;rw[e]at e';cases e';rw[<-r.det r' fun _ _=>rfl]at m;exact⟨(f a m).1,r.here m,.inl (f a m).2⟩
 |ptr t=>
  obtain⟨v,A,e,r,nd,f⟩:=h;obtain⟨v',A',e',r',m⟩:=w;rw[e]at e';cases e';rw[<-r.det r' fun _ _=>rfl]at m;exact⟨(f a m).1,r.here m,.inr (f a m).2⟩
theorem SlotOk.mono (h:SlotOk K B G H i ov s)(hg:Fz G G')(hw:∀a,OwS K G H ov a s->G a=none->H a≠none->G' a=none/\H' a=H a):SlotOk K B G' H' i ov s:=by
 have ow:=fun a (w:OwS K G H ov a s)=>h.own w
 cases s with
 |emp=>trivial
 |two _ _=>trivial
 |val d=>obtain⟨v,e,r⟩:=h;exact⟨v,e,r.mono hg⟩
 |own ds=>
  obtain⟨l,xs,e,g,k,r,n⟩:=h;obtain⟨h1,h2⟩:=hw l e g (by rw[k];simp);exact⟨l,xs,e,h1,h2.trans k,r.mono hg,n⟩
 |par ds=>
  obtain⟨l,xs,e,g,k,r,n⟩:=h;obtain⟨h1,h2⟩:=hw l e g (by rw[k];simp);exact⟨l,xs,e,h1,h2.trans k,r.mono hg,n⟩
 |tre t=>
  obtain⟨v,A,e,r,nd,f⟩:=h;have w:=fun a m=>hw a ⟨v,A,e,r,m⟩ (f a m).1 (r.here m)
  exact⟨v,A,e,r.move hg fun a m=>(w a m).2,nd,fun a m=>⟨(w a m).1,(f a m).2⟩⟩
 |ptr t=>
  obtain⟨v,A,e,r,nd,f⟩:=h;have w:=fun a m=>hw a ⟨v,A,e,r,m⟩ (f a m).1 (r.here m)
  exact⟨v,A,e,r.move hg fun a m=>(w a m).2,nd,fun a m=>⟨(w a m).1,(f a m).2⟩⟩
theorem SlotOk.back (h:SlotOk K B G H i ov s)(hw:∀a,OwS K G H ov a s->G a=none->H a≠none->G' a=none/\H' a=H a)(w:OwS K G' H' ov a s):OwS K G H ov a s:=by
 cases s with
 |emp=>exact w
 |two _ _=>exact w
 |val d=>exact w
 |own ds=>exact w
 |par ds=>exact w
 |tre t=>
  obtain⟨v,A,e,r,nd,f⟩:=h;obtain⟨v',A',e',r',m⟩:=w;rw[e]at e';cases e';have q:=r.det r' fun a m=>(hw a ⟨v,A,e,r,m⟩ (f a m).1 (r.here m)).2
  subst q;exact⟨v,A,e,r,m⟩
 |ptr t=>
  obtain⟨v,A,e,r,nd,f⟩:=h;obtain⟨v',A',e',r',m⟩:=w;rw[e]at e';cases e';have q:=r.det r' fun a m=>(hw a ⟨v,A,e,r,m⟩ (f a m).1 (r.here m)).2
  subst q;exact⟨v,A,e,r,m⟩
theorem SI.move (I:SI K B G H σ ρ)(fz:Fz G' H')(fg:Fz G G')(new:∀b o,G' b=some o->B.G b≠none\/B.H b=none)(keep:∀b o,B.H b=some o->(∀i,(i,b)∉B.O)->H' b=some o)(there:∀b,H' b=none->B.H b=none)
  (ow:∀(i:Nat) (s:Sl) (a:Addr),ρ[i]? =some s->OwS K G H σ[i]? a s->G a=none->H a≠none->G' a=none/\H' a=H a):SI K B G' H' σ ρ where
 fz:=fz
 g0:=I.g0.trans fg
 new:=new
 keep:=keep
 there:=there
 len:=I.len
 ob:=I.ob
 slot:=fun i s e=>(I.slot i s e).mono fg fun a w g h=>ow i s a e w g h
 dis:=fun i j s t a n e1 e2 w1 w2=>I.dis i j s t a n e1 e2 ((I.slot i s e1).back (fun a w g h=>ow i s a e1 w g h) w1) ((I.slot j t e2).back (fun a w g h=>ow j t a e2 w g h) w2)
theorem SI.chg (I:SI K B G H σ ρ){ov:Option V}{s':Sl}(fz:Fz G' H')(fg:Fz G G')(new:∀b o,G' b=some o->B.G b≠none\/B.H b=none)(keep:∀b o,B.H b=some o->(∀i,(i,b)∉B.O)->H' b=some o)(there:∀b,H' b=none->B.H b=none)
  (ow:∀(j:Nat) (s:Sl) (a:Addr),j≠i->ρ[j]? =some s->OwS K G H σ[j]? a s->G a=none->H a≠none->G' a=none/\H' a=H a/\¬OwS K G' H' (some ov) a s') (sl:SlotOk K B G' H' i (some ov) s'):SI K B G' H' (σ.set i ov) (ρ.set i s'):=by
 have atI:∀{s},(ρ.set i s')[i]? =some s->s=s'/\(σ.set i ov)[i]? =some ov:=fun{s} e=>by
  rw[qbF,if_pos rfl]at e ⊢
  split at e
  ·rename_i h;cases e;rw[if_pos (by rw[I.len];exact h)];exact⟨rfl,rfl⟩
  ·cases e
 have atJ:∀{j s},j≠i->(ρ.set i s')[j]? =some s->ρ[j]? =some s/\(σ.set i ov)[j]? =σ[j]?:=fun{j s} n e=>by
  rw[qav (Ne.symm n)]at e ⊢;exact⟨e,rfl⟩
 refine⟨fz,I.g0.trans fg,new,keep,there,by rw[qbt,qbt];exact I.len,I.ob,fun j s e=>?_,fun j k s t a n e1 e2 w1 w2=>?_⟩
 ·by_cases z:j=i
  ·subst z;obtain⟨rfl,q⟩:=atI e;rw[q];exact sl
  ·obtain⟨e1,q⟩:=atJ z e;rw[q];exact(I.slot j s e1).mono fg fun a w g h=>⟨(ow j s a z e1 w g h).1,(ow j s a z e1 w g h).2.1⟩
 ·have one:∀j s,j≠i->(ρ.set i s')[j]? =some s->OwS K G' H' (σ.set i ov)[j]? a s->ρ[j]? =some s/\OwS K G H σ[j]? a s:=fun j s z e w=>by
   obtain⟨e1,q⟩:=atJ z e;rw[q]at w;exact⟨e1,(I.slot j s e1).back (fun a w g h=>⟨(ow j s a z e1 w g h).1,(ow j s a z e1 w g h).2.1⟩) w⟩
  by_cases z1:j=i
  ·subst z1;obtain⟨rfl,q1⟩:=atI e1;obtain⟨f2,w2⟩:=one k t (Ne.symm n) e2 w2;obtain⟨o1,o2,_⟩:=(I.slot k t f2).own w2;rw[q1]at w1;exact(ow k t a (Ne.symm n) f2 w2 o1 o2).2.2 w1
  ·have p1:=one j s z1 e1 w1
   by_cases z2:k=i
   ·subst z2;obtain⟨rfl,q2⟩:=atI e2;obtain⟨o1,o2,_⟩:=(I.slot j s p1.1).own p1.2;rw[q2]at w2;exact(ow j s a z1 p1.1 p1.2 o1 o2).2.2 w2
   ·have p2:=one k t z2 e2 w2;exact I.dis j k s t a n p1.1 p2.1 p1.2 p2.2
theorem SI.nw (I:SI K B G H σ ρ)(hp:H p=none):Nw K G H σ ρ p:=fun i s e w=>((I.slot i s e).own w).2.1 hp
theorem SI.nw_move (I:SI K B G H σ ρ)(n:Nw K G H σ ρ p)(ow:∀(i:Nat) (s:Sl) (a:Addr),ρ[i]? =some s->OwS K G H σ[i]? a s->G a=none->H a≠none->G' a=none/\H' a=H a):Nw K G' H' σ ρ p:=
 fun i s e w=>n i s e ((I.slot i s e).back (fun a w g h=>ow i s a e w g h) w)
theorem SI.allocF (I:SI K B G H σ ρ)(hp:H p=none)(o:HO):SI K B (upd G p o) (upd H p o) σ ρ:=
 I.move (I.fz.upd2 p o) (Fz.new (I.fz.free hp) o) (fun b u e=>by
  by_cases q:b=p
  ·subst q;exact .inr (I.there b hp)
  ·rw[zak q]at e;exact I.new b u e) (fun b u e n=>by
  have q:=I.keep b u e n;rw[zak (zaH q hp)];exact q) (fun b e=>by
  by_cases q:b=p
  ·subst q;rw[zal]at e;cases e
  ·rw[zak q]at e;exact I.there b e) (fun i s a _ _ g h=>by
  have q:a≠p:=fun z=>h (by rw[z];exact hp)
  rw[zak q,zak q];exact⟨g,rfl⟩)
theorem SI.allocO (I:SI K B G H σ ρ)(hp:H p=none)(o:HO):SI K B G (upd H p o) σ ρ:=
 I.move (I.fz.right (I.fz.free hp) o) (Fz.refl G) I.new (fun b u e n=>by
  have q:=I.keep b u e n;rw[zak (zaH q hp)];exact q) (fun b e=>by
  by_cases q:b=p
  ·subst q;rw[zal]at e;cases e
  ·rw[zak q]at e;exact I.there b e) (fun i s a _ _ g h=>by
  have q:a≠p:=fun z=>h (by rw[z];exact hp)
  rw[zak q];exact⟨g,rfl⟩)
theorem SI.frz (I:SI K B G H σ ρ){o:HO}(hl:H l=some o)(hB:B.H l=none)(hn:Nw K G H σ ρ l)(hg:G l=none):SI K B (upd G l o) H σ ρ:=
 I.move (fun a u q=>by
  by_cases e:a=l
  ·subst e;rw[zal]at q;cases q;exact hl
  ·rw[zak e]at q;exact I.fz a u q) (Fz.new hg o) (fun b u e=>by
  by_cases q:b=l
  ·subst q;exact .inr hB
  ·rw[zak q]at e;exact I.new b u e) I.keep I.there (fun i s a e w g _=>by
  refine⟨?_,rfl⟩;rw[zak (fun z=>?_)]
  ·exact g
  ·subst z;exact hn i s e w)
theorem SI.set (I:SI K B G H σ ρ)(h:RepD K G v d):SI K B G H (σ.set i (some v)) (ρ.set i (.val d)):=
 I.chg I.fz (Fz.refl G) I.new I.keep I.there (fun _ _ _ _ _ _ g _=>⟨g,rfl,id⟩) ⟨v,rfl,h⟩
theorem SI.setO (I:SI K B G H σ ρ)(hg:G l=none)(hl:H l=some (.lst xs))(h:RepL K G xs ds)(hB:B.H l=none)(hn:Nw K G H σ ρ l):
  SI K B G H (σ.set i (some (.ref l))) (ρ.set i (.own ds)):=
 I.chg I.fz (Fz.refl G) I.new I.keep I.there (fun j s a _ e w g _=>⟨g,rfl,fun z=>by cases(show some (some (V.ref l))=some (some (.ref a))from z);exact hn j s e w⟩) ⟨l,xs,rfl,hg,hl,h,hB⟩
theorem SI.wr (I:SI K B G H σ ρ)(e:ρ[i]? =some s)(q:s.items=some ds):∃l xs,σ[i]? =some (some (.ref l))/\G l=none/\H l=some (.lst xs)/\RepL K G xs ds:=by
 have h:=I.slot i s e;cases s with
 |emp=>cases q
 |two _ _=>cases q
 |val d=>cases q
 |tre _=>cases q
 |ptr _=>cases q
 |own es=>cases q;obtain⟨l,xs,h1,h2,h3,h4,_⟩:=h;exact⟨l,xs,h1,h2,h3,h4⟩
 |par es=>cases q;obtain⟨l,xs,h1,h2,h3,h4,_⟩:=h;exact⟨l,xs,h1,h2,h3,h4⟩
noncomputable def Sl.put (s:Sl)(ds:List D):Sl:=match s with
 | .own _=> .own ds
 | .par _=> .par ds
 |s=>s
theorem zdu (q:s.items=some ds):OwS K G H ov a s↔ov=some (some (.ref a)):=by
 cases s with
 |own _=>exact Iff.rfl
 |par _=>exact Iff.rfl
 |_=>cases q
theorem zj4 (q:s.items=some ds)(es:List D):(s.put es).items=some es:=by
 cases s with
 |own _=>rfl
 |par _=>rfl
 |_=>cases q
theorem zhB {α:Type}{l:List α}{x:α}(e:l[i]? =some x):l.set i x=l:=by
 obtain⟨h,rfl⟩:=qat.mp e;exact List.set_getElem_self h
theorem SI.chgW (I:SI K B G H σ ρ){i:Nat}(e:ρ[i]? =some s)(q:s.items=some ds)(hl:σ[i]? =some (some (.ref l)))(fz:Fz G' H')(fg:Fz G G')(nw:∀b o,G' b=some o->G b≠none\/H b=none)
  (kp:∀b o,b≠l->H b=some o->H' b=some o) (gl:G' l=none) (hl':H' l=some (.lst ys)) (r:RepL K G' ys es):SI K B G' H' σ (ρ.set i (s.put es)):=by
 obtain⟨l',xs,e1,e2,e3,e4⟩:=I.wr e q;rw[hl]at e1;cases e1;have sl:=I.slot i s e;have nb:∀b o,B.H b=some o->(∀i,(i,b)∉B.O)->b≠l:=fun b o h1 h2 z=>by
  subst z;rcases(sl.own ((zdu q).mpr hl)).2.2 with z|z
  ·rw[h1]at z;cases z
  ·exact h2 i z
 have h:=I.chg (i:=i) (ov:=some (.ref l)) (s':=s.put es) (G':=G') (H':=H') fz fg (fun b o k=>?_) (fun b o k1 k2=>kp b o (nb b o k1 k2) (I.keep b o k1 k2)) (fun b k=>?_) (fun j t a z ej w g ha=>?_) ?_
 ·rwa[zhB hl]at h
 ·rcases nw b o k with h|h
  ·cases q2:G b with
   |none=>exact absurd q2 h
   |some u=>exact I.new b u q2
  ·exact .inr (I.there b h)
 ·refine I.there b ?_;cases q2:H b with
  |none=>rfl
  |some u=>
   by_cases z:b=l
   ·subst z;rw[hl']at k;cases k
   ·rw[kp b u z q2]at k;cases k
 ·have na:a≠l:=fun w'=>by subst w';exact I.dis j i t s a z ej e w ((zdu q).mpr hl)
  obtain⟨u,hu⟩:=qbG.mp ha;refine⟨?_,(kp a u na hu).trans hu.symm,fun z=>na ?_⟩
  ·cases q2:G' a with
   |none=>rfl
   |some u=>
    rcases nw a u q2 with z|z
    ·exact absurd g z
    ·exact absurd z ha
  ·cases(zdu (zj4 q es)).mp z;rfl
 ·cases s with
  |own es'=>obtain⟨l',xs',k1,k2,k3,k4,k5⟩:=sl;rw[hl]at k1;cases k1;exact⟨_,ys,rfl,gl,hl',r,k5⟩
  |par es'=>obtain⟨l',xs',k1,k2,k3,k4,k5⟩:=sl;rw[hl]at k1;cases k1;exact⟨_,ys,rfl,gl,hl',r,k5⟩
  |_=>cases q
theorem SI.write (I:SI K B G H σ ρ)(e:ρ[i]? =some s)(q:s.items=some ds)(hl:σ[i]? =some (some (.ref l)))(h:RepL K G ys es):
  SI K B G (upd H l (.lst ys)) σ (ρ.set i (s.put es)):=by
 obtain⟨l',xs,e1,e2,e3,e4⟩:=I.wr e q;rw[hl]at e1;cases e1;exact I.chgW e q hl (I.fz.right e2 _) (Fz.refl G) (fun b o k=> .inl (by rw[k];simp)) (fun b o z k=>by rw[zak z];exact k) e2 zal h
theorem SI.freeze (I:SI K B G H σ ρ){i:Nat}(e:ρ[i]? =some (.own ds)):∃l xs,σ[i]? =some (some (.ref l))/\Fz G (upd G l (.lst xs))/\RepD K (upd G l (.lst xs)) (.ref l) (.lst ds)/\
  SI K B (upd G l (.lst xs)) H σ (ρ.set i (.val (.lst ds))):=by
 obtain⟨l,xs,h1,h2,h3,h4,h5⟩:=I.slot i _ e;have fz:=Fz.new h2 (.lst xs);have rep:RepD K (upd G l (.lst xs)) (.ref l) (.lst ds):=⟨l,xs,rfl,zal,h4.mono fz⟩;refine⟨l,xs,h1,fz,rep,?_⟩;have h:=I.chg (i:=i) (ov:=some (.ref l)) (s':= .val (.lst ds)) (G':=upd G l (.lst xs)) (H':=H) (fun a u q=>?_) fz (fun b u q=>?_) I.keep I.there (fun j t a z ej w g _=>⟨?_,rfl,id⟩) ⟨.ref l,rfl,rep⟩
 ·rwa[zhB h1]at h
 ·by_cases z:a=l
  ·subst z;rw[zal]at q;cases q;exact h3
  ·rw[zak z]at q;exact I.fz a u q
 ·by_cases z:b=l
  ·subst z;exact .inr h5
  ·rw[zak z]at q;exact I.new b u q
 ·rw[zak (fun q=>by subst q;exact I.dis j i t _ a z ej e w h1)];exact g
end
noncomputable abbrev ME:=R->Option (D×R)
noncomputable abbrev MO:=R->Option (List D×R)
noncomputable abbrev MT:=R->Option (Bool×R)
noncomputable abbrev MA:=R->Option (List D×R)
noncomputable def SE (X:Cx)(e:Expr)(m:ME):Prop:=
 ∃t,PE X e t/\∀B G H σ ρ d ρ' (Q:VK),SI X.K B G H σ ρ->m ρ=some (d,ρ')->(∀G' H' v,SI X.K B G' H' σ ρ'->Fz G G'->RepD X.K G' v d->Q v H')->t σ H Q
noncomputable def SO (X:Cx)(e:Expr)(m:MO):Prop:=
 ∃t,PE X e t/\∀B G H σ ρ ds ρ' (Q:VK),SI X.K B G H σ ρ->m ρ=some (ds,ρ')->
  (∀G' H' l xs,SI X.K B G' H' σ ρ'->Fz G G'->G' l=none->H' l=some (.lst xs)->RepL X.K G' xs ds->B.H l=none->Nw X.K G' H' σ ρ' l->Q (.ref l) H')->t σ H Q
noncomputable def STt (X:Cx)(e:Expr)(m:MT):Prop:=
 ∃t,PT X e t/\∀B G H σ ρ d ρ' (Q:Bool->Hp->Prop),SI X.K B G H σ ρ->m ρ=some (d,ρ')->(∀G' H',SI X.K B G' H' σ ρ'->Fz G G'->Q d H')->t σ H Q
noncomputable def SA (X:Cx)(es:List Expr)(m:MA):Prop:=
 ∃t,PA X es t/\∀B G H σ ρ ds ρ' (Q:List V->Hp->Prop),SI X.K B G H σ ρ->m ρ=some (ds,ρ')->(∀G' H' vs,SI X.K B G' H' σ ρ'->Fz G G'->RepL X.K G' vs ds->Q vs H')->t σ H Q
theorem zkg {B:Bs}{σ:St}(I:SI K B G H σ ρ)(hg:G l=none)(hl:H l=some (.lst xs))(h:RepL K G xs ds)(hB:B.H l=none)(hn:Nw K G H σ ρ l):
  SI K B (upd G l (.lst xs)) H σ ρ/\Fz G (upd G l (.lst xs))/\RepD K (upd G l (.lst xs)) (.ref l) (.lst ds):=
 ⟨I.frz hl hB hn hg,Fz.new hg _,⟨l,xs,rfl,zal,h.mono (Fz.new hg _)⟩⟩
noncomputable def eFz (m:MO):ME:=fun ρ=>(m ρ).map fun p=>(.lst p.1,p.2)
theorem SO.se {X:Cx}{m:MO}(h:SO X e m):SE X e (eFz m):=by
 obtain⟨t,p,s⟩:=h;refine⟨t,p,fun B G H σ ρ d ρ' Q I hm k=>?_⟩;unfold eFz at hm;cases q:m ρ with
 |none=>rw[q]at hm;cases hm
 |some r=>
  obtain⟨ds,ρ1⟩:=r;rw[q]at hm;cases hm;refine s B G H σ ρ ds _ Q I q fun G' H' l xs I' fz hg hl hr hB hn=>?_
  obtain⟨I2,f2,r2⟩:=zkg I' hg hl hr hB hn;exact k _ _ _ I2 (fz.trans f2) r2
noncomputable def eC (d:D):ME:=fun ρ=>some (d,ρ)
noncomputable def eVar (i:Nat):ME:=fun ρ=>match ρ[i]? with
 |some (.val d)=>some (d,ρ)
 |some (.own ds)=>some (.lst ds,ρ.set i (.val (.lst ds)))
 |_=>none
section
variable {X:Cx} {pos:Pos}
theorem zac (i:Nat){x:Str}(hN:autoParam (X.N[i]? =some x) zu3._auto_1)(hv:autoParam (Vis X.env.scope x) zu6._auto_1)(hd:autoParam ((x==("__debug__":Str))=false) zu1._auto_1)
  (hcd:autoParam ((x==("__classdict__":Str))=false) zu1._auto_1):SE X (.Name x pos) (eVar i):=by
 refine⟨_,zaX hN hv hd hcd,fun B G H σ ρ d ρ' Q I hm k=>?_⟩;unfold eVar at hm;cases e:ρ[i]? with
 |none=>rw[e]at hm;cases hm
 |some s=>
  rw[e]at hm;cases s with
  |emp=>cases hm
  |two _ _=>cases hm
  |tre _=>cases hm
  |ptr _=>cases hm
  |par ds=>cases hm
  |val d'=>
   cases hm;obtain⟨v,h1,h2⟩:=I.slot i _ e;exact⟨v,h1,k G H v I (Fz.refl G) h2⟩
  |own ds=>
   cases hm;obtain⟨l,xs,h1,f,r,I'⟩:=I.freeze e;exact⟨.ref l,h1,k _ H _ I' f r⟩
theorem zad {i:Int}{j}:SE X (.Constant (.int i) j pos) (eC (.int i)):=⟨_,pe_int,fun B G H σ ρ d ρ' Q I hm k=>by cases hm;exact k G H _ I (Fz.refl G) rfl⟩
theorem zef {j}:SE X (.Constant (.bool b) j pos) (eC (.bl b)):=⟨_,pe_bl,fun B G H σ ρ d ρ' Q I hm k=>by cases hm;exact k G H _ I (Fz.refl G) rfl⟩
theorem zjn {j}:SE X (.Constant .none j pos) (eC .non):=⟨_,pe_non,fun B G H σ ρ d ρ' Q I hm k=>by cases hm;exact k G H _ I (Fz.refl G) rfl⟩
theorem ze1 {x:Str}{j}:SE X (.Constant (.str x) j pos) (eC (.str x)):=⟨_,pe_str,fun B G H σ ρ d ρ' Q I hm k=>by cases hm;exact k G H _ I (Fz.refl G) rfl⟩
end
noncomputable def aNil:MA:=fun ρ=>some ([],ρ)
noncomputable def zag (m:ME)(r:MA):MA:=fun ρ=>(m ρ).bind fun p=>(r p.2).map fun q=>(p.1::q.1,q.2)
section
variable {X:Cx} {e:Expr} {es:List Expr} {m:ME} {r:MA}
theorem zaj:SA X [] aNil:=⟨_,zbX,fun B G H σ ρ ds ρ' Q I hm k=>by cases hm;exact k G H [] I (Fz.refl G) .nil⟩
theorem zab (h:SE X e m)(hr:SA X es r)(hs:autoParam (starEach (e::es) X.env=(false,eval e X.env)::starEach es X.env) zu3._auto_1):SA X (e::es) (zag m r):=by
 obtain⟨t,p,s⟩:=h;obtain⟨u,q,z⟩:=hr;refine⟨_,zaG p q hs,fun B G H σ ρ ds ρ' Q I hm k=>?_⟩;unfold zag at hm;cases e1:m ρ with
 |none=>rw[e1]at hm;cases hm
 |some a=>
  obtain⟨d,ρ1⟩:=a;rw[e1]at hm;cases e2:r ρ1 with
  |none=>simp[e2]at hm
  |some b=>
   obtain⟨es',ρ2⟩:=b;simp only[qbH,e2,qbI,qbJ,Prod.mk.injEq]at hm;obtain⟨rfl,rfl⟩:=hm;exact s B G H σ ρ d ρ1 _ I e1 fun G1 H1 v I1 f1 r1=>z B G1 H1 σ ρ1 es' ρ2 _ I1 e2 fun G2 H2 vs I2 f2 r2=>k G2 H2 (v::vs) I2 (f1.trans f2) (.cons (r1.mono f2) r2)
end
noncomputable def V2 (X:Cx)(r:R2)(f:D->D->Option D):Prop:=∀B G H σ ρ x y a b d (Q:VK),SI X.K B G H σ ρ->RepD X.K G x a->RepD X.K G y b->f a b=some d->(∀G' H' v,SI X.K B G' H' σ ρ->Fz G G'->RepD X.K G' v d->Q v H')->r x y H Q
noncomputable def V1 (X:Cx)(r:V->Hp->VK->Prop)(f:D->Option D):Prop:=∀B G H σ ρ x a d (Q:VK),SI X.K B G H σ ρ->RepD X.K G x a->f a=some d->(∀G' H' v,SI X.K B G' H' σ ρ->Fz G G'->RepD X.K G' v d->Q v H')->r x H Q
noncomputable def VC (X:Cx)(r:List V->Hp->VK->Prop)(f:List D->Option D):Prop:=∀B G H σ ρ xs ds d (Q:VK),SI X.K B G H σ ρ->RepL X.K G xs ds->f ds=some d->(∀G' H' v,SI X.K B G' H' σ ρ->Fz G G'->RepD X.K G' v d->Q v H')->r xs H Q
noncomputable def m2 (f:D->D->Option D)(ma mb:ME):ME:=fun ρ=>(ma ρ).bind fun p=>(mb p.2).bind fun q=>(f p.1 q.1).map fun d=>(d,q.2)
noncomputable def m1 (f:D->Option D)(ma:ME):ME:=fun ρ=>(ma ρ).bind fun p=>(f p.1).map fun d=>(d,p.2)
noncomputable def mC (f:List D->Option D)(ma:MA):ME:=fun ρ=>(ma ρ).bind fun p=>(f p.1).map fun d=>(d,p.2)
theorem m2_inv {ma mb:ME}(h:m2 f ma mb ρ=some (d,ρ')):∃a ρ1 b,ma ρ=some (a,ρ1)/\mb ρ1=some (b,ρ')/\f a b=some d:=by
 unfold m2 at h;cases e1:ma ρ with
 |none=>rw[e1]at h;cases h
 |some p=>
  obtain⟨a,ρ1⟩:=p;rw[e1]at h;cases e2:mb ρ1 with
  |none=>simp[e2]at h
  |some q=>
   obtain⟨b,ρ2⟩:=q;simp only[qbH,e2]at h;cases e3:f a b with
   |none=>rw[e3]at h;cases h
   |some c=>rw[e3]at h;cases h;exact⟨a,ρ1,b,rfl,e2,e3⟩
theorem m1_inv {f:D->Option D}(h:m1 f ma ρ=some (d,ρ')):∃a,ma ρ=some (a,ρ')/\f a=some d:=by
 unfold m1 at h;cases e1:ma ρ with
 |none=>rw[e1]at h;cases h
 |some p=>
  obtain⟨a,ρ1⟩:=p;rw[e1]at h;simp only[qbH]at h;cases e3:f a with
  |none=>rw[e3]at h;cases h
  |some c=>rw[e3]at h;cases h;exact⟨a,rfl,e3⟩
theorem mC_inv {f:List D->Option D}{ma:MA}(h:mC f ma ρ=some (d,ρ')):∃a,ma ρ=some (a,ρ')/\f a=some d:=by
 unfold mC at h;cases e1:ma ρ with
 |none=>rw[e1]at h;cases h
 |some p=>
  obtain⟨a,ρ1⟩:=p;rw[e1]at h;simp only[qbH]at h;cases e3:f a with
  |none=>rw[e3]at h;cases h
  |some c=>rw[e3]at h;cases h;exact⟨a,rfl,e3⟩
section
variable {X:Cx} {a b:Expr} {ma mb:ME} {pos:Pos} {f:D->D->Option D}
theorem zlu {r:R2}{ta tb:TE}(hv:V2 X r f)
  (sa:∀B G H σ ρ d ρ' (Q:VK),SI X.K B G H σ ρ->ma ρ=some (d,ρ')->(∀G' H' v,SI X.K B G' H' σ ρ'->Fz G G'->RepD X.K G' v d->Q v H')->ta σ H Q)
  (sb:∀B G H σ ρ d ρ' (Q:VK),SI X.K B G H σ ρ->mb ρ=some (d,ρ')->(∀G' H' v,SI X.K B G' H' σ ρ'->Fz G G'->RepD X.K G' v d->Q v H')->tb σ H Q):
  ∀B G H σ ρ d ρ' (Q:VK),SI X.K B G H σ ρ->m2 f ma mb ρ=some (d,ρ')->(∀G' H' v,SI X.K B G' H' σ ρ'->Fz G G'->RepD X.K G' v d->Q v H')->tOp r ta tb σ H Q:=by
 intro B G H σ ρ d ρ' Q I hm k;obtain⟨x,ρ1,y,e1,e2,e3⟩:=m2_inv hm;exact sa B G H σ ρ x ρ1 _ I e1 fun G1 H1 v I1 f1 r1=>sb B G1 H1 σ ρ1 y ρ' _ I1 e2 fun G2 H2 u I2 f2 r2=>
  hv B G2 H2 σ ρ' v u x y d Q I2 (r1.mono f2) r2 e3 fun G3 H3 z I3 f3 r3=>k G3 H3 z I3 (f1.trans (f2.trans f3)) r3
theorem zmH {r:R2}(ho:OpR X (binaryOp op) r)(hv:V2 X r f)(ha:SE X a ma)(hb:SE X b mb):SE X (.BinOp a op b pos) (m2 f ma mb):=by
 obtain⟨ta,pa,sa⟩:=ha;obtain⟨tb,pb,sb⟩:=hb;exact⟨_,pe_op ho pa pb,zlu hv sa sb⟩
theorem se_cmp {op:CmpOp}{r:R2}(ho:OpR X (compareOp op) r)(hv:V2 X r f)(ha:SE X a ma)(hb:SE X b mb)(hm:behindInMarks op b=false):SE X (.Compare a [op] [b] pos) (m2 f ma mb):=by
 obtain⟨ta,pa,sa⟩:=ha;obtain⟨tb,pb,sb⟩:=hb;exact⟨_,pe_cmpR ho pa pb hm,zlu hv sa sb⟩
theorem se_un {op:UnaryOp}(ho:UnR X (unaryOp op) r)(hv:V1 X r g)(ha:SE X a ma):SE X (.UnaryOp op a pos) (m1 g ma):=by
 obtain⟨ta,pa,sa⟩:=ha;refine⟨_,pe_un ho pa,fun B G H σ ρ d ρ' Q I hm k=>?_⟩;obtain⟨x,e1,e2⟩:=m1_inv hm;exact sa B G H σ ρ x ρ' _ I e1 fun G1 H1 v I1 f1 r1=>hv B G1 H1 σ ρ' v x d Q I1 r1 e2 fun G2 H2 z I2 f2 r2=>k G2 H2 z I2 (f1.trans f2) r2
theorem se_ix {r:R2}(hr:IxR X r)(hv:V2 X r f)(ha:SE X a ma)(hb:SE X b mb)(hs:ziC b):SE X (.Subscript a b pos) (m2 f ma mb):=by
 obtain⟨ta,pa,sa⟩:=ha;obtain⟨tb,pb,sb⟩:=hb;exact⟨_,pe_ix hr pa pb hs,zlu hv sa sb⟩
end
section
variable {X:Cx} {x:Str} {p pos:Pos} {e:Expr} {es:List Expr} {ma:MA} {id T:String} {r:List V->Hp->VK->Prop} {f:List D->Option D}
theorem soundC {t:TA}(hv:VC X r f)(sa:∀B G H σ ρ ds ρ' (Q:List V->Hp->Prop),SI X.K B G H σ ρ->ma ρ=some (ds,ρ')->(∀G' H' vs,SI X.K B G' H' σ ρ'->Fz G G'->RepL X.K G' vs ds->Q vs H')->t σ H Q):
  ∀B G H σ ρ d ρ' (Q:VK),SI X.K B G H σ ρ->mC f ma ρ=some (d,ρ')->(∀G' H' v,SI X.K B G' H' σ ρ'->Fz G G'->RepD X.K G' v d->Q v H')->tCB r t σ H Q:=by
 intro B G H σ ρ d ρ' Q I hm k;obtain⟨ds,e1,e2⟩:=mC_inv hm;exact sa B G H σ ρ ds ρ' _ I e1 fun G1 H1 vs I1 f1 r1=>hv B G1 H1 σ ρ' vs ds d Q I1 r1 e2 fun G2 H2 z I2 f2 r2=>k G2 H2 z I2 (f1.trans f2) r2
theorem ziA (hc:zeV X (.builtin id) r)(hv:VC X r f)(hb:bootBuiltins x=some (.builtin id))(hm:X.mg x=none)(ha:SA X (e::es) ma)(hg:autoParam (Gl X x) zu3._auto_1)(hn:autoParam (x≠"__name__") zu1._auto_1)(hdb:autoParam ((x==("__debug__":Str))=false) zu1._auto_1)
  (he:autoParam (starEach (e::es) X.env=(false,eval e X.env)::starEach es X.env) zu3._auto_1) (hpl:autoParam ((backTo pos (starEach es X.env)).any (·.1)=false) zu3._auto_1):SE X (.Call (.Name x p) (e::es) [] pos) (mC f ma):=by
 obtain⟨t,pa,sa⟩:=ha;exact⟨_,zdM hc hg hm hb pa hn hdb he hpl,soundC hv sa⟩
theorem zoo (hc:zeV X (.type T) r)(hv:VC X r f)(hb:bootBuiltins x=some (.type T))(hm:X.mg x=none)(ha:SA X (e::es) ma)(hg:autoParam (Gl X x) zu3._auto_1)(hn:autoParam (x≠"__name__") zu1._auto_1)(hdb:autoParam ((x==("__debug__":Str))=false) zu1._auto_1)
  (he:autoParam (starEach (e::es) X.env=(false,eval e X.env)::starEach es X.env) zu3._auto_1) (hpl:autoParam ((backTo pos (starEach es X.env)).any (·.1)=false) zu3._auto_1):SE X (.Call (.Name x p) (e::es) [] pos) (mC f ma):=by
 obtain⟨t,pa,sa⟩:=ha;exact⟨_,zfP hc hg hm hb pa hn hdb he hpl,soundC hv sa⟩
end
end M
namespace M
open L2 PySem PySem.Spec
open PyProof.Rows hiding St
variable {v:V} {ds cs out:List D} {p c l:Addr} {xs vs ys:List V} {X:Cx} {C:Int->Int->Prop} {g:D->R->Option R} {a b e:Expr} {ma:MA} {pos pos':Pos} {i j n t:Nat} {mb:ME} {K:W.Frag} {G H H' G':Hp} {us its:List Value} {u:Value} {d:D} {B:Bs} {σ σc:St} {ρ ρ':R} {s:Sl} {x qual:Str} {Q E:Value->Shared->Prop} {f:D->D->Option D} {op op':CmpOp} {m:MS} {mc:MT} {es ifs:List Expr} {h:List D->R->Option R} {body:List Stmt} {N ps:List Str} {fd:FuncData} {env:Env} {scope:Scope} {A:Around} {cl:List (Str×Addr)} {h':Heap} {prog:Program} {w:World} {use:Option (Value->Sem Unit)} {ov:Option (Option V)} {cap:List Nat} {wi:TI} {tg':Addr->Shared->Hp->List Addr->TG} {tt:Addr->Shared->Hp->List Addr->TT} {te:Addr->Shared->Hp->List Addr->TE} {ns:List Int}
section
variable {X:Cx} {K:W.Frag} {B:Bs} {G H:Hp} {σ:St} {ρ:R}
theorem SI.lst (I:SI K B G H σ ρ)(h:RepD K G v (.lst ds)):∃a xs,v= .ref a/\H a=some (.lst xs)/\RepL K G xs ds:=by
 obtain⟨a,xs,e,q,r⟩:=h;exact⟨a,xs,e,I.fz a _ q,r⟩
theorem SI.tup (I:SI K B G H σ ρ)(h:RepD K G v (.tup ds)):∃a xs,v= .ref a/\H a=some (.tup xs)/\RepL K G xs ds:=by
 obtain⟨a,xs,e,q,r⟩:=h;exact⟨a,xs,e,I.fz a _ q,r⟩
theorem SI.newT (I:SI K B G H σ ρ)(hp:H p=none)(h:RepL K G xs ds):SI K B (upd G p (.tup xs)) (upd H p (.tup xs)) σ ρ/\Fz G (upd G p (.tup xs))/\RepD K (upd G p (.tup xs)) (.ref p) (.tup ds):=
 ⟨I.allocF hp _,Fz.new (I.fz.free hp) _,⟨p,xs,rfl,zal,h.mono (Fz.new (I.fz.free hp) _)⟩⟩
theorem SI.newL (I:SI K B G H σ ρ)(hp:H p=none)(h:RepL K G xs ds):SI K B (upd G p (.lst xs)) (upd H p (.lst xs)) σ ρ/\Fz G (upd G p (.lst xs))/\RepD K (upd G p (.lst xs)) (.ref p) (.lst ds):=
 ⟨I.allocF hp _,Fz.new (I.fz.free hp) _,⟨p,xs,rfl,zal,h.mono (Fz.new (I.fz.free hp) _)⟩⟩
end
noncomputable def dI2 (c:Int->Int->Bool)(g:Int->Int->D):D->D->Option D
 | .int i,.int j=>if c i j then some (g i j)else none
 |_,_=>none
theorem zoa {c:Int->Int->Bool}{g:Int->Int->Int}(hc:∀i j,c i j=true->C i j):V2 X (rI C fun i j=> .int (g i j)) (dI2 c fun i j=> .int (g i j)):=by
 intro B G H σ ρ x y a b d Q I ra rb hf k;cases a<;>cases b<;>simp only[dI2]at hf<;>try cases hf
 rename_i i j
 split at hf
 ·rename_i h;cases hf;exact⟨i,j,ra,rb,hc i j h,k G H _ I (Fz.refl G) rfl⟩
 ·cases hf
theorem v2_int0 {g:Int->Int->Int}:V2 X (rI0 fun i j=> .int (g i j)) (dI2 (fun _ _=>true) fun i j=> .int (g i j)):=by
 intro B G H σ ρ x y a b d Q I ra rb hf k;cases a<;>cases b<;>simp only[dI2]at hf<;>try cases hf
 rename_i i j;exact⟨i,j,ra,rb,k G H _ I (Fz.refl G) rfl⟩
theorem zd4 {g:Int->Int->Bool}:V2 X (rI0 fun i j=> .bl (g i j)) (dI2 (fun _ _=>true) fun i j=> .bl (g i j)):=by
 intro B G H σ ρ x y a b d Q I ra rb hf k;cases a<;>cases b<;>simp only[dI2]at hf<;>try cases hf
 rename_i i j;exact⟨i,j,ra,rb,k G H _ I (Fz.refl G) rfl⟩
noncomputable def dSub:D->D->Option D:=dI2 (fun _ _=>true) fun i j=> .int (i-j)
noncomputable def zmA (j:Int):Bool:=decide (0<j)&&decide (j.natAbs.log2<9000)
theorem op_fdivW:OpR X (binaryOp .FloorDiv) (rI (fun _ j=>0<j/\j.natAbs.log2<9000) fun i j=> .int (i/j)):=opI fun i j _ _ _ _ _ hc q=>by
 have h1:(0:Int)<j:=hc.1;exact PyProof.Rows.floordiv_int (by lia) (by rw[Int.fdiv_eq_ediv_of_nonneg i (by lia)];exact q) (.inl (PyProof.noPylong_of_log2 hc.2))
noncomputable def dDiv:D->D->Option D:=dI2 (fun _ j=>zmA j) fun i j=> .int (i/j)
noncomputable def dMod:D->D->Option D:=dI2 (fun _ j=>decide (0<j)) fun i j=> .int (i%j)
noncomputable def dPow:D->D->Option D:=dI2 (fun i j=>decide (0<=j)&&decide (j<=1000000)&&decide (i.natAbs<2^64)) fun i j=> .int (i^j.toNat)
noncomputable def dLt:D->D->Option D:=dI2 (fun _ _=>true) fun i j=> .bl (decide (i<j))
noncomputable def dLe:D->D->Option D:=dI2 (fun _ _=>true) fun i j=> .bl (decide (i<=j))
noncomputable def dGe:D->D->Option D:=dI2 (fun _ _=>true) fun i j=> .bl (decide (j<=i))
section
variable {X:Cx} {a b:Expr} {ma mb:ME} {pos:Pos}
theorem zgz (ha:SE X a ma)(hb:SE X b mb):SE X (.BinOp a .Sub b pos) (m2 dSub ma mb):=zmH op_sub v2_int0 ha hb
theorem zm4 (ha:SE X a ma)(hb:SE X b mb):SE X (.BinOp a .FloorDiv b pos) (m2 dDiv ma mb):=zmH op_fdivW (zoa fun i j h=>by simpa[zmA]using h) ha hb
theorem zh7 (ha:SE X a ma)(hb:SE X b mb):SE X (.BinOp a .Mod b pos) (m2 dMod ma mb):=zmH op_mod (zoa fun i j h=>by simpa using h) ha hb
theorem zgB (ha:SE X a ma)(hb:SE X b mb):SE X (.BinOp a .Pow b pos) (m2 dPow ma mb):=zmH op_pow (zoa fun i j h=>by simp only[qbo,qbK]at h;exact⟨h.1.1,h.1.2,h.2⟩) ha hb
end
noncomputable def dNeg:D->Option D
 | .int i=>some (.int (-i))
 |_=>none
theorem zho {ma:ME}(ha:SE X a ma):SE X (.UnaryOp .USub a pos) (m1 dNeg ma):=
 se_un un_neg (fun B G H σ ρ x a d Q I ra hf k=>by
  cases a<;>simp only[dNeg]at hf<;>try cases hf
  exact⟨_,ra,k G H _ I (Fz.refl G) rfl⟩) ha
noncomputable def zkL (i j:Int):Bool:=(decide (i.natAbs<2^64)||decide (j.natAbs<2^64))||(decide (i.natAbs<2^4000)&&decide (j.natAbs<2^4000))
noncomputable def dMul:D->D->Option D
 | .int i,.int j=>if zkL i j then some (.int (i*j))else none
 | .lst ds,.int k=>if decide (-1000000<=k)&&decide (k<=1000000)&&decide (ds.length*k.toNat<=1000000)then some (.lst (List.replicate k.toNat ds).flatten)else none
 |_,_=>none
theorem zh5 {k:Int}(h:k.natAbs<2^4000):Builtin.Int.intBits k<=4000:=by
 unfold Builtin.Int.intBits
 split
 ·exact qaW _
 ·have:k.natAbs.log2<4000:=by
   rcases Nat.eq_zero_or_pos k.natAbs with h0|hp
   ·rw[h0];decide
   ·exact(Nat.log2_lt (qaD hp)).mpr h
  lia
theorem mulOk_ok {i j:Int}(h:zkL i j=true):IntMulOk i j:=by
 unfold zkL at h;simp only[qbL,qbo,qbK]at h;rcases h with(h|h)|⟨h1,h2⟩
 ·exact .of_left (intBits_le_64 (by lia) (by lia))
 ·exact .of_right (intBits_le_64 (by lia) (by lia))
 ·have b1:=zh5 h1;have b2:=zh5 h2;unfold IntMulOk;intro z;simp only[qbo]at z;have z2:=z.2;unfold Builtin.Int.intTooBig at z2
  revert z2
  generalize Builtin.Int.intBits i=p at*
  generalize Builtin.Int.intBits j=q at*
  intro z2;have z3:=of_decide_eq_true z2;have hb:=bitsLine_eq;lia
theorem op_mulG:OpR X (binaryOp .Mult) (rI IntMulOk fun i j=> .int (i*j)):=opI fun _ _ _ _ _ _ _ hc q=>mul_int q hc
theorem zfO {ma mb:ME}(ha:SE X a ma)(hb:SE X b mb):SE X (.BinOp a .Mult b pos) (m2 dMul ma mb):=by
 refine zmH (op_mulG.or op_rep) (fun B G H σ ρ x y a b d Q I ra rb hf k=>?_) ha hb;cases a<;>cases b<;>simp only[dMul]at hf<;>try cases hf
 ·rename_i i j
  split at hf
  ·rename_i h;cases hf;exact .inl ⟨i,j,ra,rb,mulOk_ok h,k G H _ I (Fz.refl G) rfl⟩
  ·cases hf
 ·rename_i ds j
  split at hf
  ·rename_i h;cases hf;simp only[qbo,qbK]at h;obtain⟨a,xs,rfl,ha,r⟩:=I.lst ra;have hl:=r.length;refine .inr ⟨a,j,xs,rfl,rb,ha,by lia,by lia,by rw[hl,qaM];lia,fun p hp=>?_⟩;obtain⟨I2,f2,r2⟩:=I.newL hp (r.rep j.toNat);exact k _ _ _ I2 f2 r2
  ·cases hf
noncomputable def dAdd:D->D->Option D
 | .int i,.int j=>some (.int (i+j))
 | .tup a,.tup b=>if a.length+b.length<=16777216 then some (.tup (a++b))else none
 | .lst a,.lst b=>if a.length+b.length<=16777216 then some (.lst (a++b))else none
 | .str a,.str b=>if a.length+b.length<=16777216 then some (.str (a++b))else none
 |_,_=>none
theorem op_catT0:OpR X (binaryOp .Add) (fun x y H Q=>∃a b ys,x= .ref a/\y= .ref b/\SqT X.K H a []/\SqT X.K H b ys/\Q (.ref b) H):=by
 intro pins s σ H x y v u Q I rx ry h;obtain⟨a,b,ys,rfl,rfl,ha,hb,q⟩:=h;cases rx;cases ry;obtain⟨its,r1,p1,_⟩:=I.tuple ha;obtain⟨its2,r2,p2,_⟩:=I.tuple hb;obtain rfl:its=[]:=by cases r1;rfl
 obtain⟨⟨cls,dd,data,sl⟩,ho,hc,n,hd⟩:=id p1;obtain⟨⟨cls2,dd2,data2,sl2⟩,ho2,hc2,n2,hd2⟩:=id p2;simp only at hc hd hc2 hd2;subst hc hd hc2 hd2;exact concat_meets ⟨_,ho,rfl⟩ ⟨_,ho2,rfl⟩ noFill_tuple_add seq_tuple_add qbe qbf (qbg _ _)
   (tuple_addW0 a b _ _ n n2 dd dd2 sl sl2 (by simp)) ⟨ho,ho2,⟨.ref b,H,I,rfl,q⟩⟩
theorem zbo {ma mb:ME}(ha:SE X a ma)(hb:SE X b mb):SE X (.BinOp a .Add b pos) (m2 dAdd ma mb):=by
 refine zmH (op_add.or (op_catT.or (op_catT0.or (op_cat.or zmf)))) (fun B G H σ ρ x y a b d Q I ra rb hf k=>?_) ha hb;cases a<;>cases b<;>simp only[dAdd]at hf<;>try cases hf
 ·exact .inl ⟨_,_,ra,rb,k G H _ I (Fz.refl G) rfl⟩
 ·rename_i i j
  split at hf
  ·rename_i h;cases hf;exact .inr (.inr (.inr (.inr ⟨i,j,ra,rb,by rw[qaM];exact h,k G H _ I (Fz.refl G) rfl⟩)))
  ·cases hf
 ·rename_i as bs
  split at hf
  ·rename_i h;cases hf;obtain⟨a,xs,rfl,ha,r⟩:=I.lst ra;obtain⟨b,ys,rfl,hb,r2⟩:=I.lst rb;refine .inr (.inr (.inr (.inl ⟨a,b,xs,ys,rfl,rfl,ha,hb,by rw[r.length,r2.length,qaM];exact h,fun p hp=>?_⟩)));obtain⟨I2,f2,r2⟩:=I.newL hp (r.append r2);exact k _ _ _ I2 f2 r2
  ·cases hf
 ·rename_i as bs
  split at hf
  ·rename_i h;cases hf;obtain⟨a,xs,rfl,ha,r⟩:=I.tup ra;obtain⟨b,ys,rfl,hb,r2⟩:=I.tup rb
   by_cases z:xs=[]
   ·subst z;have z':as=[]:=qbM r.length.symm;subst z';exact .inr (.inr (.inl ⟨a,b,ys,rfl,rfl,SqT.of ha,SqT.of hb,k G H _ I (Fz.refl G) rb⟩))
   ·refine .inr (.inl ⟨a,b,xs,ys,rfl,rfl,SqT.of ha,SqT.of hb,z,by rw[r.length,r2.length,qaM];exact h,fun w=>?_,fun w p hp=>?_⟩)
    ·subst w;have w':bs=[]:=qbM r2.length.symm;subst w';rw[qaY]at k;exact k G H _ I (Fz.refl G) ra
    ·obtain⟨I2,f2,r2⟩:=I.newT hp (r.append r2);exact k _ _ _ I2 f2 r2
  ·cases hf
mutual
noncomputable def noS:D->Bool
 | .scr _=>false
 | .exc _=>false
 | .dic _ _=>false
 | .dit _ _=>false
 | .lst ds=>noSL ds
 | .tup ds=>noSL ds
 |_=>true
noncomputable def noSL:List D->Bool
 |[]=>true
 |d::ds=>noS d&&noSL ds
end
mutual
noncomputable def eqB:D->D->Bool
 | .non,.non=>true
 | .bl a,.bl b=>a==b
 | .int a,.int b=>a==b
 | .str a,.str b=>a==b
 | .bl a,.int b=>(if a then 1 else 0)==b
 | .int a,.bl b=>a==(if b then 1 else 0)
 | .lst a,.lst b=>eqBL a b
 | .tup a,.tup b=>eqBL a b
 |_,_=>false
noncomputable def eqBL:List D->List D->Bool
 |[],[]=>true
 |a::as,b::bs=>eqB a b&&eqBL as bs
 |_,_=>false
end
theorem zfU:∀{as bs:List D},as.length≠bs.length->eqBL as bs=false
 |[],[],h=>absurd rfl h
 |[],_::_,_=>rfl
 |_::_,[],_=>rfl
 |a::as,b::bs,h=>by
  have:=zfU (as:=as) (bs:=bs) (fun e=>h (by simp[e]));simp[eqBL,this]
mutual
theorem ziG:∀d,noS d=true->eqB d d=true
 | .non,_=>rfl
 | .bl b,_=>by simp[eqB]
 | .int b,_=>by simp[eqB]
 | .str b,_=>by simp[eqB]
 | .lst ds,h=>by simp only[noS]at h;simp only[eqB];exact zhK ds h
 | .tup ds,h=>by simp only[noS]at h;simp only[eqB];exact zhK ds h
 | .scr _,h=>by simp[noS]at h
 | .exc _,h=>by simp[noS]at h
 |(.dic _ _),h=>by simp[noS]at h
 |(.dit _ _),h=>by simp[noS]at h
theorem zhK:∀ds,noSL ds=true->eqBL ds ds=true
 |[],_=>rfl
 |d::ds,h=>by
  simp only[noSL,qbo]at h;simp only[eqBL,qbo];exact⟨ziG d h.1,zhK ds h.2⟩
end
mutual
noncomputable def depth:D->Nat
 | .lst ds=>ze5 ds+1
 | .tup ds=>ze5 ds+1
 |_=>0
noncomputable def ze5:List D->Nat
 |[]=>0
 |d::ds=>max (depth d) (ze5 ds)
end
theorem zf2:∀{l:List D} {i:Nat} {d:D},l[i]? =some d->depth d<=ze5 l
 |[],_,_,h=>by simp at h
 |c::l,0,d,h=>by simp at h;subst h;simp only[ze5];lia
 |c::l,i+1,d,h=>by
  have:=zf2 (l:=l) (i:=i) (d:=d) (by simpa using h);simp only[ze5];lia
theorem zfo:∀{l:List D} {i:Nat} {d:D},l[i]? =some d->noSL l=true->noS d=true
 |[],_,_,h,_=>by simp at h
 |c::l,0,d,h,z=>by simp at h;subst h;simp only[noSL,qbo]at z;exact z.1
 |c::l,i+1,d,h,z=>by simp only[noSL,qbo]at z;exact zfo (l:=l) (i:=i) (by simpa using h) z.2
mutual
theorem RepD.inj:∀{a b:D} {x:V},noS a=true->noS b=true->RepD K G x a->RepD K G x b->a=b
 | .non,b,x,_,nb,ra,rb=>by
  cases(show x=V.non from ra);cases b<;>simp_all [RepD,noS]
 | .bl c,b,x,_,nb,ra,rb=>by
  cases(show x=V.bl c from ra);cases b<;>simp_all [RepD,noS]
 | .int c,b,x,_,nb,ra,rb=>by
  cases(show x=V.int c from ra);cases b<;>simp_all [RepD,noS]
 | .str c,b,x,_,nb,ra,rb=>by
  cases(show x=V.str c from ra);cases b<;>simp_all [RepD,noS]
 | .lst ds,b,x,na,nb,ra,rb=>by
  obtain⟨p,xs,rfl,q,r⟩:=ra;cases b with
  |lst es=>
   obtain⟨p2,ys,e,q2,r2⟩:=rb;cases e;rw[q]at q2;cases q2;simp only[noS]at na nb;rw[RepL.inj na nb r r2]
  |tup es=>
   obtain⟨p2,ys,e,q2,r2⟩:=rb;cases e;rw[q]at q2;cases q2
  |scr _=>simp[noS]at nb
  |exc _=>simp[noS]at nb
  |dic _ _=>simp[noS]at nb
  |dit _ _=>simp[noS]at nb
  |non=>simp[RepD]at rb
  |bl _=>simp[RepD]at rb
  |int _=>simp[RepD]at rb
  |str _=>simp[RepD]at rb
 | .tup ds,b,x,na,nb,ra,rb=>by
  obtain⟨p,xs,rfl,q,r⟩:=ra;cases b with
  |tup es=>
   obtain⟨p2,ys,e,q2,r2⟩:=rb;cases e;rw[q]at q2;cases q2;simp only[noS]at na nb;rw[RepL.inj na nb r r2]
  |lst es=>
   obtain⟨p2,ys,e,q2,r2⟩:=rb;cases e;rw[q]at q2;cases q2
  |scr _=>simp[noS]at nb
  |exc _=>simp[noS]at nb
  |dic _ _=>simp[noS]at nb
  |dit _ _=>simp[noS]at nb
  |non=>simp[RepD]at rb
  |bl _=>simp[RepD]at rb
  |int _=>simp[RepD]at rb
  |str _=>simp[RepD]at rb
 | .scr _,_,_,na,_,_,_=>by simp[noS]at na
 | .exc _,_,_,na,_,_,_=>by simp[noS]at na
 |(.dic _ _),_,_,na,_,_,_=>by simp[noS]at na
 |(.dit _ _),_,_,na,_,_,_=>by simp[noS]at na
theorem RepL.inj:∀{as bs:List D} {xs:List V},noSL as=true->noSL bs=true->RepL K G xs as->RepL K G xs bs->as=bs
 |[],[],_,_,_,_,_=>rfl
 |[],_::_,xs,_,_,e,h=>by
  obtain⟨_,_,e2,_⟩:=h;cases(show xs=[]from e);cases e2
 |_::_,[],xs,_,_,h,e=>by
  obtain⟨_,_,e2,_⟩:=h;cases(show xs=[]from e);cases e2
 |a::as,b::bs,xs,na,nb,h,h2=>by
  obtain⟨x,ys,e,q,r⟩:=h;obtain⟨x2,ys2,e2,q2,r2⟩:=h2;subst e;cases e2;simp only[noSL,qbo]at na nb;rw[RepD.inj na.1 nb.1 q q2,RepL.inj na.2 nb.2 r r2]
end
noncomputable def eqJ (ds es:List D)(j:Nat):Bool:=match ds[j]?,es[j]? with
 |some a,some b=>eqB a b
 |_,_=>false
theorem zdH:∀(as bs:List D),as.length=bs.length->(List.range as.length).all (eqJ as bs)=eqBL as bs
 |[],[],_=>by simp[eqBL]
 |a::as,b::bs,h=>by
  have ih:=zdH as bs (by simpa using h);rw[qaQ,List.range_succ_eq_map,qbu,List.all_map];simp only[eqBL,<-ih];congr 1
 |[],_::_,h=>by simp at h
 |_::_,[],h=>by simp at h
section
variable {X:Cx} {pins:List (Addr×Obj)} {σ:St} {H G:Hp} {s:Shared}
theorem ziH (r:Vals xs us)(h:RepL X.K G xs ds)(e:us[j]? =some u):∃x d,ds[j]? =some d/\RelV x u/\RepD X.K G x d:=by
 have hl:=r.length;have hl2:=h.length;have hj:j<us.length:=(qat.mp e).1;have ej:ds[j]? =some ds[j]:=qbN (by lia);obtain⟨x,q1,q2⟩:=h.get ej;obtain⟨u',h1,h2⟩:=r.get q1;have:u'=u:=by rw[h1]at e;exact Option.some.inj e
 subst this;exact⟨x,_,ej,h2,q2⟩
theorem eqAt_D (I:Inv X pins σ H s)(fz:Fz G H):∀(n:Nat) (A:Around) (a b:D) (x y:V) (u v:Value),depth a<=n->noS a=true->noS b=true->A.units+n+1<cLine->RepD X.K G x a->RepD X.K G y b->RelV x u->RelV y v->
  SeqAt.EqAt A s u v (eqB a b)/\SeqAt.RcAt A s u v (eqB a b):=by
 intro n
 induction n with
 |zero=>
  intro A a b x y u v hd na nb hu ra rb rx ry;have hu':A.units<cLine:=by lia
  cases a with
  |non=>
   cases(show x=V.non from ra);cases(show u=Value.none from rx);cases b with
   |non=>cases(show y=V.non from rb);cases(show v=Value.none from ry);exact⟨.same _,.none_none⟩
   |bl c=>cases(show y=V.bl c from rb);cases(show v=Value.bool c from ry);exact⟨.none_bool _,.none_bool _⟩
   |int c=>cases(show y=V.int c from rb);obtain⟨t,rfl⟩:=ry;exact⟨.none_int _ _,.none_int _ _⟩
   |str c=>cases(show y=V.str c from rb);obtain⟨t,rfl⟩:=ry;exact⟨.none_str _ _,.none_str _ _⟩
   |lst ds=>
    obtain⟨p,xs,rfl,q,r⟩:=rb;cases(show v=Value.ref p from ry);obtain⟨its,rv,pl,hz⟩:=I.list (SqL.of (fz _ _ q));exact⟨.none_list pl.isList hu',.none_list pl.isList hu'⟩
   |tup ds=>
    obtain⟨p,xs,rfl,q,r⟩:=rb;cases(show v=Value.ref p from ry);obtain⟨its,rv,pl,hz⟩:=I.tuple (SqT.of (fz _ _ q));exact⟨.none_tuple pl hu',.none_tuple pl hu'⟩
   |scr _=>simp[noS]at nb
   |exc _=>simp[noS]at nb
   |dic _ _=>simp[noS]at nb
   |dit _ _=>simp[noS]at nb
  |bl c0=>
   cases(show x=V.bl c0 from ra);cases(show u=Value.bool c0 from rx);cases b with
   |non=>cases(show y=V.non from rb);cases(show v=Value.none from ry);exact⟨.bool_none _,.bool_none _⟩
   |bl c=>cases(show y=V.bl c from rb);cases(show v=Value.bool c from ry);exact⟨.bool_bool _ _,.bool_bool _ _⟩
   |int c=>cases(show y=V.int c from rb);obtain⟨t,rfl⟩:=ry;exact⟨.bool_int _ _ _,.bool_int _ _ _⟩
   |str c=>cases(show y=V.str c from rb);obtain⟨t,rfl⟩:=ry;exact⟨.bool_str _ _ _,.bool_str _ _ _⟩
   |lst ds=>
    obtain⟨p,xs,rfl,q,r⟩:=rb;cases(show v=Value.ref p from ry);obtain⟨its,rv,pl,hz⟩:=I.list (SqL.of (fz _ _ q));exact⟨.bool_list _ pl.isList hu',.bool_list _ pl.isList hu'⟩
   |tup ds=>
    obtain⟨p,xs,rfl,q,r⟩:=rb;cases(show v=Value.ref p from ry);obtain⟨its,rv,pl,hz⟩:=I.tuple (SqT.of (fz _ _ q));exact⟨.bool_tuple _ pl hu',.bool_tuple _ pl hu'⟩
   |scr _=>simp[noS]at nb
   |exc _=>simp[noS]at nb
   |dic _ _=>simp[noS]at nb
   |dit _ _=>simp[noS]at nb
  |int c0=>
   cases(show x=V.int c0 from ra);obtain⟨t0,rfl⟩:=rx;cases b with
   |non=>cases(show y=V.non from rb);cases(show v=Value.none from ry);exact⟨.int_none _ _,.int_none _ _⟩
   |bl c=>cases(show y=V.bl c from rb);cases(show v=Value.bool c from ry);exact⟨.int_bool _ _ _,.int_bool _ _ _⟩
   |int c=>cases(show y=V.int c from rb);obtain⟨t,rfl⟩:=ry;exact⟨.int_int _ _ _ _,.int_int _ _ _ _⟩
   |str c=>cases(show y=V.str c from rb);obtain⟨t,rfl⟩:=ry;exact⟨.int_str _ _ _ _,.int_str _ _ _ _⟩
   |lst ds=>
    obtain⟨p,xs,rfl,q,r⟩:=rb;cases(show v=Value.ref p from ry);obtain⟨its,rv,pl,hz⟩:=I.list (SqL.of (fz _ _ q));exact⟨.int_list _ _ pl.isList hu',.int_list _ _ pl.isList hu'⟩
   |tup ds=>
    obtain⟨p,xs,rfl,q,r⟩:=rb;cases(show v=Value.ref p from ry);obtain⟨its,rv,pl,hz⟩:=I.tuple (SqT.of (fz _ _ q));exact⟨.int_tuple _ _ pl hu',.int_tuple _ _ pl hu'⟩
   |scr _=>simp[noS]at nb
   |exc _=>simp[noS]at nb
   |dic _ _=>simp[noS]at nb
   |dit _ _=>simp[noS]at nb
  |str c0=>
   cases(show x=V.str c0 from ra);obtain⟨t0,rfl⟩:=rx;cases b with
   |non=>cases(show y=V.non from rb);cases(show v=Value.none from ry);exact⟨.str_none _ _,.str_none _ _⟩
   |bl c=>cases(show y=V.bl c from rb);cases(show v=Value.bool c from ry);exact⟨.str_bool _ _ _,.str_bool _ _ _⟩
   |int c=>cases(show y=V.int c from rb);obtain⟨t,rfl⟩:=ry;exact⟨.str_int _ _ _ _,.str_int _ _ _ _⟩
   |str c=>cases(show y=V.str c from rb);obtain⟨t,rfl⟩:=ry;exact⟨.str_str _ _ _ _,.str_str _ _ _ _⟩
   |lst ds=>
    obtain⟨p,xs,rfl,q,r⟩:=rb;cases(show v=Value.ref p from ry);obtain⟨its,rv,pl,hz⟩:=I.list (SqL.of (fz _ _ q));exact⟨.str_list _ _ pl.isList hu',.str_list _ _ pl.isList hu'⟩
   |tup ds=>
    obtain⟨p,xs,rfl,q,r⟩:=rb;cases(show v=Value.ref p from ry);obtain⟨its,rv,pl,hz⟩:=I.tuple (SqT.of (fz _ _ q));exact⟨.str_tuple _ _ pl hu',.str_tuple _ _ pl hu'⟩
   |scr _=>simp[noS]at nb
   |exc _=>simp[noS]at nb
   |dic _ _=>simp[noS]at nb
   |dit _ _=>simp[noS]at nb
  |lst ds=>simp[depth]at hd
  |tup ds=>simp[depth]at hd
  |scr _=>simp[noS]at na
  |exc _=>simp[noS]at na
  |dic _ _=>simp[noS]at na
  |dit _ _=>simp[noS]at na
 |succ n ih=>
  intro A a b x y u v hd na nb hu ra rb rx ry;have hu':A.units<cLine:=by lia
  have items:∀(ds es:List D) (xs ys:List V) (its its2:List Value),ze5 ds<=n->noSL ds=true->noSL es=true->RepL X.K G xs ds->RepL X.K G ys es->Vals xs its->Vals ys its2->
    ∀j (h1:j<its.toArray.size) (h2:j<its2.toArray.size),SeqAt.EqAt A.in1 s its.toArray[j] its2.toArray[j] (eqJ ds es j):=by
   intro ds es xs ys its its2 hd nd ne r r2 rv rv2 j h1 h2;simp only[qaN]at h1 h2;obtain⟨x1,d1,e1,k1,m1⟩:=ziH rv r (j:=j) (u:=its[j]) (qbN h1);obtain⟨x2,d2,e2,k2,m2⟩:=ziH rv2 r2 (j:=j) (u:=its2[j]) (qbN h2);have e:eqJ ds es j=eqB d1 d2:=by unfold eqJ;rw[e1,e2]
   rw[e];have:=zf2 e1;simpa using(ih A.in1 d1 d2 x1 x2 _ _ (by lia) (zfo e1 nd) (zfo e2 ne) (by show A.units+1+n+1<cLine;lia) m1 m2 k1 k2).1
  cases a with
  |scr _=>simp[noS]at na
  |exc _=>simp[noS]at na
  |dic _ _=>simp[noS]at na
  |dit _ _=>simp[noS]at na
  |non=>exact ih A .non b x y u v (qaW _) na nb (by lia) ra rb rx ry
  |bl c=>exact ih A (.bl c) b x y u v (qaW _) na nb (by lia) ra rb rx ry
  |int c=>exact ih A (.int c) b x y u v (qaW _) na nb (by lia) ra rb rx ry
  |str c=>exact ih A (.str c) b x y u v (qaW _) na nb (by lia) ra rb rx ry
  |lst ds=>
   have ra0:=ra;obtain⟨p,xs,rfl,q,r⟩:=ra;cases(show u=Value.ref p from rx);obtain⟨its,rv,pl,hz⟩:=I.list (SqL.of (fz _ _ q));cases b with
   |non=>cases(show y=V.non from rb);cases(show v=Value.none from ry);exact⟨.list_none pl.isList hu',.list_none pl.isList hu'⟩
   |bl c=>cases(show y=V.bl c from rb);cases(show v=Value.bool c from ry);exact⟨.list_bool _ pl.isList hu',.list_bool _ pl.isList hu'⟩
   |int c=>cases(show y=V.int c from rb);obtain⟨t,rfl⟩:=ry;exact⟨.list_int _ _ pl.isList hu',.list_int _ _ pl.isList hu'⟩
   |str c=>cases(show y=V.str c from rb);obtain⟨t,rfl⟩:=ry;exact⟨.list_str _ _ pl.isList hu',.list_str _ _ pl.isList hu'⟩
   |scr _=>simp[noS]at nb
   |exc _=>simp[noS]at nb
   |dic _ _=>simp[noS]at nb
   |dit _ _=>simp[noS]at nb
   |tup es=>
    obtain⟨p2,ys,rfl,q2,r2⟩:=rb;cases(show v=Value.ref p2 from ry);obtain⟨its2,rv2,pl2,hz2⟩:=I.tuple (SqT.of (fz _ _ q2));exact⟨.list_tuple pl.isList pl2 hu',.list_tuple pl.isList pl2 hu'⟩
   |lst es=>
    have rb0:=rb;obtain⟨p2,ys,rfl,q2,r2⟩:=rb;cases(show v=Value.ref p2 from ry);obtain⟨its2,rv2,pl2,hz2⟩:=I.list (SqL.of (fz _ _ q2));simp only[depth]at hd;have l1:=rv.length;have l2:=r.length;have l3:=rv2.length;have l4:=r2.length;have rc:SeqAt.RcAt A s (.ref p) (.ref p2) (eqBL ds es):=by
     by_cases hl:ds.length=es.length
     ·have z:=SeqAt.RcAt.lists (A:=A) (s:=s) (e:=eqJ ds es) pl.isList pl2.isList (by simp only[qaN];lia) hu' (items ds es xs ys its its2 (by lia) (by simpa only[noS]using na) (by simpa only[noS]using nb) r r2 rv rv2);rw[qaN,<-l1,l2,zdH ds es hl]at z;exact z
     ·rw[zfU hl];refine .lists_lengths pl.isList pl2.isList ?_ hu';simp only[qaN,bne_iff_ne,ne_eq];lia
    refine⟨?_,by simp only[eqB];exact rc⟩
    by_cases hp:p=p2
    ·subst hp;have e:=RepD.inj na nb ra0 rb0;cases e;rw[ziG _ na];exact .same _
    ·simp only[eqB];exact .of_refs hp rc
  |tup ds=>
   have ra0:=ra;obtain⟨p,xs,rfl,q,r⟩:=ra;cases(show u=Value.ref p from rx);obtain⟨its,rv,pl,hz⟩:=I.tuple (SqT.of (fz _ _ q));cases b with
   |non=>cases(show y=V.non from rb);cases(show v=Value.none from ry);exact⟨.tuple_none pl hu',.tuple_none pl hu'⟩
   |bl c=>cases(show y=V.bl c from rb);cases(show v=Value.bool c from ry);exact⟨.tuple_bool _ pl hu',.tuple_bool _ pl hu'⟩
   |int c=>cases(show y=V.int c from rb);obtain⟨t,rfl⟩:=ry;exact⟨.tuple_int _ _ pl hu',.tuple_int _ _ pl hu'⟩
   |str c=>cases(show y=V.str c from rb);obtain⟨t,rfl⟩:=ry;exact⟨.tuple_str _ _ pl hu',.tuple_str _ _ pl hu'⟩
   |scr _=>simp[noS]at nb
   |exc _=>simp[noS]at nb
   |dic _ _=>simp[noS]at nb
   |dit _ _=>simp[noS]at nb
   |lst es=>
    obtain⟨p2,ys,rfl,q2,r2⟩:=rb;cases(show v=Value.ref p2 from ry);obtain⟨its2,rv2,pl2,hz2⟩:=I.list (SqL.of (fz _ _ q2));exact⟨.tuple_list pl pl2.isList hu',.tuple_list pl pl2.isList hu'⟩
   |tup es=>
    have rb0:=rb;obtain⟨p2,ys,rfl,q2,r2⟩:=rb;cases(show v=Value.ref p2 from ry);obtain⟨its2,rv2,pl2,hz2⟩:=I.tuple (SqT.of (fz _ _ q2));simp only[depth]at hd;have l1:=rv.length;have l2:=r.length;have l3:=rv2.length;have l4:=r2.length;have rc:SeqAt.RcAt A s (.ref p) (.ref p2) (eqBL ds es):=by
     have z:=SeqAt.RcAt.tuples (A:=A) (s:=s) (e:=eqJ ds es) pl pl2 hu' (items ds es xs ys its its2 (by lia) (by simpa only[noS]using na) (by simpa only[noS]using nb) r r2 rv rv2);simp only[qaN]at z
     by_cases hl:ds.length=es.length
     ·have e1:min its.length its2.length=ds.length:=by lia
      have e2:(its.length==its2.length)=true:=by simp;lia
      rw[e1,e2,Bool.and_true,zdH ds es hl]at z;exact z
     ·have e2:(its.length==its2.length)=false:=by simp;lia
      rw[e2,Bool.and_false]at z;rw[zfU hl];exact z
    refine⟨?_,by simp only[eqB];exact rc⟩
    by_cases hp:p=p2
    ·subst hp;have e:=RepD.inj na nb ra0 rb0;cases e;rw[ziG _ na];exact .same _
    ·simp only[eqB];exact .of_refs hp rc
end
noncomputable def dEq (a b:D):Option D:=if noS a&&noS b&&decide (depth a<=50)then some (.bl (eqB a b))else none
noncomputable def dNe (a b:D):Option D:=if noS a&&noS b&&decide (depth a<=50)then some (.bl (!eqB a b))else none
noncomputable def rEqD (K:W.Frag)(c:Bool->Bool):R2:=fun x y H Q=>∃G a b,Fz G H/\RepD K G x a/\RepD K G y b/\noS a=true/\noS b=true/\depth a<=50/\Q (.bl (c (eqB a b))) H
theorem op_eqD (hu:X.A.units+64<cLine):OpR X (compareOp .Eq) (rEqD X.K id):=by
 intro pins s σ H x y v u Q I rx ry h;obtain⟨G,a,b,fz,ra,rb,na,nb,hd,q⟩:=h;exact(eqAt_D I fz 50 X.A a b x y v u hd na nb (by lia) ra rb rx ry).2 _ _ _ _ ⟨.bl _,H,I,rfl,q⟩
theorem ziN {ma mb:ME}(hu:X.A.units+64<cLine)(ha:SE X a ma)(hb:SE X b mb):SE X (.Compare a [.Eq] [b] pos) (m2 dEq ma mb):=by
 refine se_cmp (op_eqD hu) (fun B G H σ ρ x y a b d Q I ra rb hf k=>?_) ha hb (zjL _);unfold dEq at hf
 split at hf
 ·rename_i h;simp only[qbo,qbK]at h;cases hf;exact⟨G,a,b,I.fz,ra,rb,h.1.1,h.1.2,h.2,k G H _ I (Fz.refl G) rfl⟩
 ·cases hf
section
variable {X:Cx} {pins:List (Addr×Obj)} {σ:St} {H G:Hp} {s:Shared}
theorem neAt_D (I:Inv X pins σ H s)(fz:Fz G H)(A:Around)(a b:D)(x y:V)(u v:Value)(hd:depth a<=50)(na:noS a=true)(nb:noS b=true)(hu:A.units+64<cLine)(ra:RepD X.K G x a)(rb:RepD X.K G y b)(rx:RelV x u)(ry:RelV y v):
  SeqAt.RcNeAt A s u v (!eqB a b):=by
 have hu':A.units<cLine:=by lia
 have items:∀(ds es:List D) (xs ys:List V) (its its2:List Value),ze5 ds<=49->noSL ds=true->noSL es=true->RepL X.K G xs ds->RepL X.K G ys es->Vals xs its->Vals ys its2->
   ∀j (h1:j<its.toArray.size) (h2:j<its2.toArray.size),SeqAt.EqAt A.in1 s its.toArray[j] its2.toArray[j] (eqJ ds es j):=by
  intro ds es xs ys its its2 hd nd ne r r2 rv rv2 j h1 h2;simp only[qaN]at h1 h2;obtain⟨x1,d1,e1,k1,m1⟩:=ziH rv r (j:=j) (u:=its[j]) (qbN h1);obtain⟨x2,d2,e2,k2,m2⟩:=ziH rv2 r2 (j:=j) (u:=its2[j]) (qbN h2);have e:eqJ ds es j=eqB d1 d2:=by unfold eqJ;rw[e1,e2]
  rw[e];have:=zf2 e1;simpa using(eqAt_D I fz 49 A.in1 d1 d2 x1 x2 _ _ (by lia) (zfo e1 nd) (zfo e2 ne) (by show A.units+1+49+1<cLine;lia) m1 m2 k1 k2).1
 cases a with
 |scr _=>simp[noS]at na
 |exc _=>simp[noS]at na
 |dic _ _=>simp[noS]at na
 |dit _ _=>simp[noS]at na
 |non=>
  cases(show x=V.non from ra);cases(show u=Value.none from rx);cases b with
  |non=>cases(show y=V.non from rb);cases(show v=Value.none from ry);exact .none_none
  |bl c=>cases(show y=V.bl c from rb);cases(show v=Value.bool c from ry);exact .none_bool _
  |int c=>cases(show y=V.int c from rb);obtain⟨t,rfl⟩:=ry;exact .none_int _ _
  |str c=>cases(show y=V.str c from rb);obtain⟨t,rfl⟩:=ry;exact .none_str _ _
  |lst ds=>
   obtain⟨p,xs,rfl,q,r⟩:=rb;cases(show v=Value.ref p from ry);obtain⟨its,rv,pl,hz⟩:=I.list (SqL.of (fz _ _ q));exact .none_list pl.isList hu'
  |tup ds=>
   obtain⟨p,xs,rfl,q,r⟩:=rb;cases(show v=Value.ref p from ry);obtain⟨its,rv,pl,hz⟩:=I.tuple (SqT.of (fz _ _ q));exact .none_tuple pl hu'
  |scr _=>simp[noS]at nb
  |exc _=>simp[noS]at nb
  |dic _ _=>simp[noS]at nb
  |dit _ _=>simp[noS]at nb
 |bl c0=>
  cases(show x=V.bl c0 from ra);cases(show u=Value.bool c0 from rx);cases b with
  |non=>cases(show y=V.non from rb);cases(show v=Value.none from ry);exact .bool_none _
  |bl c=>cases(show y=V.bl c from rb);cases(show v=Value.bool c from ry);exact .bool_bool _ _
  |int c=>cases(show y=V.int c from rb);obtain⟨t,rfl⟩:=ry;exact .bool_int _ _ _
  |str c=>cases(show y=V.str c from rb);obtain⟨t,rfl⟩:=ry;exact .bool_str _ _ _
  |lst ds=>
   obtain⟨p,xs,rfl,q,r⟩:=rb;cases(show v=Value.ref p from ry);obtain⟨its,rv,pl,hz⟩:=I.list (SqL.of (fz _ _ q));exact .bool_list _ pl.isList hu'
  |tup ds=>
   obtain⟨p,xs,rfl,q,r⟩:=rb;cases(show v=Value.ref p from ry);obtain⟨its,rv,pl,hz⟩:=I.tuple (SqT.of (fz _ _ q));exact .bool_tuple _ pl hu'
  |scr _=>simp[noS]at nb
  |exc _=>simp[noS]at nb
  |dic _ _=>simp[noS]at nb
  |dit _ _=>simp[noS]at nb
 |int c0=>
  cases(show x=V.int c0 from ra);obtain⟨t0,rfl⟩:=rx;cases b with
  |non=>cases(show y=V.non from rb);cases(show v=Value.none from ry);exact .int_none _ _
  |bl c=>cases(show y=V.bl c from rb);cases(show v=Value.bool c from ry);exact .int_bool _ _ _
  |int c=>cases(show y=V.int c from rb);obtain⟨t,rfl⟩:=ry;exact .int_int _ _ _ _
  |str c=>cases(show y=V.str c from rb);obtain⟨t,rfl⟩:=ry;exact .int_str _ _ _ _
  |lst ds=>
   obtain⟨p,xs,rfl,q,r⟩:=rb;cases(show v=Value.ref p from ry);obtain⟨its,rv,pl,hz⟩:=I.list (SqL.of (fz _ _ q));exact .int_list _ _ pl.isList hu'
  |tup ds=>
   obtain⟨p,xs,rfl,q,r⟩:=rb;cases(show v=Value.ref p from ry);obtain⟨its,rv,pl,hz⟩:=I.tuple (SqT.of (fz _ _ q));exact .int_tuple _ _ pl hu'
  |scr _=>simp[noS]at nb
  |exc _=>simp[noS]at nb
  |dic _ _=>simp[noS]at nb
  |dit _ _=>simp[noS]at nb
 |str c0=>
  cases(show x=V.str c0 from ra);obtain⟨t0,rfl⟩:=rx;cases b with
  |non=>cases(show y=V.non from rb);cases(show v=Value.none from ry);exact .str_none _ _
  |bl c=>cases(show y=V.bl c from rb);cases(show v=Value.bool c from ry);exact .str_bool _ _ _
  |int c=>cases(show y=V.int c from rb);obtain⟨t,rfl⟩:=ry;exact .str_int _ _ _ _
  |str c=>cases(show y=V.str c from rb);obtain⟨t,rfl⟩:=ry;exact .str_str _ _ _ _
  |lst ds=>
   obtain⟨p,xs,rfl,q,r⟩:=rb;cases(show v=Value.ref p from ry);obtain⟨its,rv,pl,hz⟩:=I.list (SqL.of (fz _ _ q));exact .str_list _ _ pl.isList hu'
  |tup ds=>
   obtain⟨p,xs,rfl,q,r⟩:=rb;cases(show v=Value.ref p from ry);obtain⟨its,rv,pl,hz⟩:=I.tuple (SqT.of (fz _ _ q));exact .str_tuple _ _ pl hu'
  |scr _=>simp[noS]at nb
  |exc _=>simp[noS]at nb
  |dic _ _=>simp[noS]at nb
  |dit _ _=>simp[noS]at nb
 |lst ds=>
  obtain⟨p,xs,rfl,q,r⟩:=ra;cases(show u=Value.ref p from rx);obtain⟨its,rv,pl,hz⟩:=I.list (SqL.of (fz _ _ q));cases b with
  |non=>cases(show y=V.non from rb);cases(show v=Value.none from ry);exact .list_none pl.isList hu'
  |bl c=>cases(show y=V.bl c from rb);cases(show v=Value.bool c from ry);exact .list_bool _ pl.isList hu'
  |int c=>cases(show y=V.int c from rb);obtain⟨t,rfl⟩:=ry;exact .list_int _ _ pl.isList hu'
  |str c=>cases(show y=V.str c from rb);obtain⟨t,rfl⟩:=ry;exact .list_str _ _ pl.isList hu'
  |scr _=>simp[noS]at nb
  |exc _=>simp[noS]at nb
  |dic _ _=>simp[noS]at nb
  |dit _ _=>simp[noS]at nb
  |tup es=>
   obtain⟨p2,ys,rfl,q2,r2⟩:=rb;cases(show v=Value.ref p2 from ry);obtain⟨its2,rv2,pl2,hz2⟩:=I.tuple (SqT.of (fz _ _ q2));exact .list_tuple pl.isList pl2 hu'
  |lst es=>
   obtain⟨p2,ys,rfl,q2,r2⟩:=rb;cases(show v=Value.ref p2 from ry);obtain⟨its2,rv2,pl2,hz2⟩:=I.list (SqL.of (fz _ _ q2));simp only[depth]at hd;have l1:=rv.length;have l2:=r.length;have l3:=rv2.length;have l4:=r2.length;simp only[eqB]
   by_cases hl:ds.length=es.length
   ·have z:=SeqAt.RcNeAt.lists (A:=A) (s:=s) (e:=eqJ ds es) pl.isList pl2.isList (by simp only[qaN];lia) hu' (items ds es xs ys its its2 (by lia) (by simpa only[noS]using na) (by simpa only[noS]using nb) r r2 rv rv2);rw[qaN,<-l1,l2,zdH ds es hl]at z;exact z
   ·rw[zfU hl];refine .lists_lengths pl.isList pl2.isList ?_ hu';simp only[qaN,bne_iff_ne,ne_eq];lia
 |tup ds=>
  obtain⟨p,xs,rfl,q,r⟩:=ra;cases(show u=Value.ref p from rx);obtain⟨its,rv,pl,hz⟩:=I.tuple (SqT.of (fz _ _ q));cases b with
  |non=>cases(show y=V.non from rb);cases(show v=Value.none from ry);exact .tuple_none pl hu'
  |bl c=>cases(show y=V.bl c from rb);cases(show v=Value.bool c from ry);exact .tuple_bool _ pl hu'
  |int c=>cases(show y=V.int c from rb);obtain⟨t,rfl⟩:=ry;exact .tuple_int _ _ pl hu'
  |str c=>cases(show y=V.str c from rb);obtain⟨t,rfl⟩:=ry;exact .tuple_str _ _ pl hu'
  |scr _=>simp[noS]at nb
  |exc _=>simp[noS]at nb
  |dic _ _=>simp[noS]at nb
  |dit _ _=>simp[noS]at nb
  |lst es=>
   obtain⟨p2,ys,rfl,q2,r2⟩:=rb;cases(show v=Value.ref p2 from ry);obtain⟨its2,rv2,pl2,hz2⟩:=I.list (SqL.of (fz _ _ q2));exact .tuple_list pl pl2.isList hu'
  |tup es=>
   obtain⟨p2,ys,rfl,q2,r2⟩:=rb;cases(show v=Value.ref p2 from ry);obtain⟨its2,rv2,pl2,hz2⟩:=I.tuple (SqT.of (fz _ _ q2));simp only[depth]at hd;have l1:=rv.length;have l2:=r.length;have l3:=rv2.length;have l4:=r2.length;have z:=SeqAt.RcNeAt.tuples (A:=A) (s:=s) (e:=eqJ ds es) pl pl2 hu' (items ds es xs ys its its2 (by lia) (by simpa only[noS]using na) (by simpa only[noS]using nb) r r2 rv rv2);simp only[qaN]at z;simp only[eqB]
   by_cases hl:ds.length=es.length
   ·have e1:min its.length its2.length=ds.length:=by lia
    have e2:(its.length==its2.length)=true:=by simp;lia
    rw[e1,e2,Bool.and_true,zdH ds es hl]at z;exact z
   ·have e2:(its.length==its2.length)=false:=by simp;lia
    rw[e2,Bool.and_false]at z;rw[zfU hl];exact z
end
theorem op_neD (hu:X.A.units+64<cLine):OpR X (compareOp .NotEq) (rEqD X.K not):=by
 intro pins s σ H x y v u Q I rx ry h;obtain⟨G,a,b,fz,ra,rb,na,nb,hd,q⟩:=h;exact neAt_D I fz X.A a b x y v u hd na nb hu ra rb rx ry _ _ _ _ ⟨.bl _,H,I,rfl,q⟩
theorem v2_ne:V2 X (rEqD X.K not) dNe:=by
 intro B G H σ ρ x y a b d Q I ra rb hf k;unfold dNe at hf
 split at hf
 ·rename_i h;simp only[qbo,qbK]at h;cases hf;exact⟨G,a,b,I.fz,ra,rb,h.1.1,h.1.2,h.2,k G H _ I (Fz.refl G) rfl⟩
 ·cases hf
theorem v2_eq:V2 X (rEqD X.K id) dEq:=by
 intro B G H σ ρ x y a b d Q I ra rb hf k;unfold dEq at hf
 split at hf
 ·rename_i h;simp only[qbo,qbK]at h;cases hf;exact⟨G,a,b,I.fz,ra,rb,h.1.1,h.1.2,h.2,k G H _ I (Fz.refl G) rfl⟩
 ·cases hf
noncomputable def dIx:D->D->Option D
 | .lst ds,.int i=>atI ds i
 | .tup ds,.int i=>atI ds i
 | .scr ns,.int i=>(atI ns i).map .int
 |_,_=>none
theorem atI_map {α β:Type}(f:α->β){xs:List α}{i:Int}{v:α}(h:atI xs i=some v):atI (xs.map f) i=some (f v):=by
 unfold atI at h ⊢;rw[qaT];cases q:ixN xs.length i with
 |none=>rw[q]at h;cases h
 |some j=>
  rw[q]at h;show(xs.map f)[j]? =_;rw[qba,show xs[j]? =some v from h]
  rfl
noncomputable def ReadD (K:W.Frag)(G H:Hp)(v:V):D->Prop
 | .lst ds=>∃a xs,v= .ref a/\H a=some (.lst xs)/\RepL K G xs ds
 |d=>RepD K G v d
theorem ReadD.of (fz:Fz G H)(h:RepD K G v d):ReadD K G H v d:=by
 cases d with
 |lst ds=>obtain⟨a,xs,e,q,r⟩:=h;exact⟨a,xs,e,fz a _ q,r⟩
 |_=>exact h
noncomputable def Sl.read:Sl->Option D
 | .emp=>none
 | .two _ _=>none
 | .tre _=>none
 | .ptr _=>none
 | .val d=>some d
 | .own ds=>some (.lst ds)
 | .par ds=>some (.lst ds)
noncomputable def hasV (ρ:R)(j:Nat):Bool:=match ρ[j]? with
 |some (.val _)=>true
 |some (.own _)=>true
 |some (.par _)=>true
 |_=>false
theorem SI.has (I:SI K B G H σ ρ)(h:hasV ρ j=true):∃v,σ[j]? =some (some v):=by
 unfold hasV at h;cases e:ρ[j]? with
 |none=>rw[e]at h;cases h
 |some s=>
  rw[e]at h;have q:=I.slot j s e;cases s with
  |emp=>cases h
  |two _ _=>cases h
  |tre _=>cases h
  |ptr _=>cases h
  |val d=>obtain⟨v,e,_⟩:=q;exact⟨v,e⟩
  |own d=>obtain⟨l,_,e,_⟩:=q;exact⟨_,e⟩
  |par d=>obtain⟨l,_,e,_⟩:=q;exact⟨_,e⟩
theorem SI.read (I:SI K B G H σ ρ)(hv:σ[j]? =some (some v))(e:ρ[j]? =some s)(q:s.read=some d):ReadD K G H v d:=by
 have h:=I.slot j s e;cases s with
 |emp=>cases q
 |two _ _=>cases q
 |tre _=>cases q
 |ptr _=>cases q
 |val d'=>
  cases q;obtain⟨w,e1,r⟩:=h;rw[hv]at e1;cases e1;exact .of I.fz r
 |own ds=>
  cases q;obtain⟨l,xs,e1,_,h3,h4,_⟩:=h;rw[hv]at e1;cases e1;exact⟨l,xs,rfl,h3,h4⟩
 |par ds=>
  cases q;obtain⟨l,xs,e1,_,h3,h4,_⟩:=h;rw[hv]at e1;cases e1;exact⟨l,xs,rfl,h3,h4⟩
theorem zpd {x y:V}{a b d:D}{Q:VK}(I:SI K B G H σ ρ)(ra:ReadD K G H x a)(rb:RepD K G y b)(hf:dIx a b=some d)(k:∀v,RepD K G v d->Q v H):rIx K x y H Q:=by
 cases a<;>cases b<;>simp only[dIx]at hf<;>try cases hf
 ·rename_i ds i;obtain⟨p,xs,rfl,hp,r⟩:=ra;obtain⟨v,e,q⟩:=r.at hf;exact .inl ⟨p,xs,i,v,rfl,rb,SqL.of hp,e,k _ q⟩
 ·rename_i ds i;obtain⟨p,xs,rfl,hp,r⟩:=I.tup ra;obtain⟨v,e,q⟩:=r.at hf;exact .inr (.inl ⟨p,xs,i,v,rfl,rb,SqT.of hp,e,k _ q⟩)
 ·rename_i ns i;obtain⟨p,rfl,hp⟩:=ra;cases e:atI ns i with
  |none=>rw[e]at hf;cases hf
  |some n=>
   rw[e]at hf;cases hf;exact .inl ⟨p,_,i,.int n,rfl,rb,I.fz.sql hp,atI_map V.int e,k _ rfl⟩
theorem v2_ix:V2 X (rIx X.K) dIx:=fun B G H σ ρ x y a b d Q I ra rb hf k=>zpd I (.of I.fz ra) rb hf fun v q=>k G H v I (Fz.refl G) q
theorem zeg {ma mb:ME}(ha:SE X a ma)(hb:SE X b mb)(hs:autoParam (ziC b) zu7._auto_1):SE X (.Subscript a b pos) (m2 dIx ma mb):=se_ix ix_seq v2_ix ha hb hs
noncomputable def eIxV (j:Nat)(mi:ME):ME:=fun ρ=>if hasV ρ j then(mi ρ).bind fun p=>(p.2[j]?.bind Sl.read).bind fun d=>(dIx d p.1).map fun e=>(e,p.2)else none
theorem zap (j:Nat)(hb:SE X b mb)(hN:autoParam (X.N[j]? =some x) zu3._auto_1)(hv:autoParam (Vis X.env.scope x) zu6._auto_1)(hd:autoParam ((x==("__debug__":Str))=false) zu1._auto_1)
    (hcd:autoParam ((x==("__classdict__":Str))=false) zu1._auto_1) (hs:autoParam (ziC b) zu7._auto_1):SE X (.Subscript (.Name x pos') b pos) (eIxV j mb):=by
  obtain⟨tb,pb,sb⟩:=hb;refine⟨_,pe_ix ix_seq (zaX hN hv hd hcd) pb hs,fun B G H σ ρ d ρ' Q I hm k=>?_⟩;unfold eIxV at hm
  split at hm
  . rename_i hh
    obtain⟨v,ev⟩:=I.has hh;cases e1:mb ρ with
    |none=>rw[e1]at hm;cases hm
    |some q=>
      obtain⟨i,ρ1⟩:=q;rw[e1]at hm;simp only[qbH]at hm;cases e2:ρ1[j]? with
      |none=>rw[e2]at hm;cases hm
      |some s=>
        rw[e2]at hm;simp only[qbH]at hm;cases e3:s.read with
        |none=>rw[e3]at hm;cases hm
        |some a=>
          rw[e3]at hm;simp only[qbH]at hm;cases e4:dIx a i with
          |none=>rw[e4]at hm;cases hm
          |some c=>
            rw[e4]at hm;cases hm;exact⟨v,ev,sb B G H σ ρ i ρ' _ I e1 fun G1 H1 y I1 f1 r1=>zpd I1 (I1.read ev e2 e3) r1 e4 fun w q=>k G1 H1 w I1 f1 q⟩
  . cases hm
noncomputable def dLen:List D->Option D
 |[.lst ds]=>some (.int ds.length)
 |[.tup ds]=>some (.int ds.length)
 |[.scr ns]=>some (.int ns.length)
 |_=>none
theorem len_read {x:V}{a d:D}{Q:VK}(I:SI K B G H σ ρ)(ra:ReadD K G H x a)(hf:dLen [a]=some d)(k:∀v,RepD K G v d->Q v H):
  ∃p ys,[x]=[V.ref p]/\(SqL K H p ys\/SqT K H p ys)/\Q (.int ys.length) H:=by
 cases a<;>simp only[dLen]at hf<;>try cases hf
 ·obtain⟨p,xs,rfl,hp,r⟩:=ra;exact⟨p,xs,rfl,.inl (SqL.of hp),by rw[r.length];exact k _ rfl⟩
 ·obtain⟨p,xs,rfl,hp,r⟩:=I.tup ra;exact⟨p,xs,rfl,.inr (SqT.of hp),by rw[r.length];exact k _ rfl⟩
 ·obtain⟨p,rfl,hp⟩:=ra;exact⟨p,_,rfl,.inl (I.fz.sql hp),by rw[qaT];exact k _ rfl⟩
theorem RepL.one (h:RepL K G xs [d]):∃x,xs=[x]/\RepD K G x d:=by
 obtain⟨x,ys,e,q,r⟩:=h;cases(show ys=[]from r);exact⟨x,e,q⟩
theorem RepL.two {a b:D}(h:RepL K G xs [a,b]):∃x y,xs=[x,y]/\RepD K G x a/\RepD K G y b:=by
 obtain⟨x,ys,e,q,r⟩:=h;obtain⟨y,e2,q2⟩:=r.one;subst e2;exact⟨x,y,e,q,q2⟩
noncomputable def zgl (j:Nat):ME:=fun ρ=>(ρ[j]?.bind Sl.read).bind fun d=>(dLen [d]).map fun e=>(e,ρ)
theorem zdh {p pos pos':Pos}(j:Nat)(ml:X.mg "len"=none)(hN:autoParam (X.N[j]? =some x) zu3._auto_1)(hv:autoParam (Vis X.env.scope x) zu6._auto_1)(hd:autoParam ((x==("__debug__":Str))=false) zu1._auto_1)
  (hcd:autoParam ((x==("__classdict__":Str))=false) zu1._auto_1) (hg:autoParam (Gl X "len") zu3._auto_1) (he:autoParam (starEach [.Name x pos'] X.env=(false,eval (.Name x pos') X.env)::starEach [] X.env) zu3._auto_1):SE X (.Call (.Name "len" p) [.Name x pos'] [] pos) (zgl j):=by
 refine⟨_,zdM zgy hg ml PySem.boot_len (zaG (zaX hN hv hd hcd) zbX he) (by decide) (by decide) he rfl,fun B G H σ ρ d ρ' Q I hm k=>?_⟩;unfold zgl at hm;cases e2:ρ[j]? with
 |none=>rw[e2]at hm;cases hm
 |some s=>
  rw[e2]at hm;simp only[qbH]at hm;cases e3:s.read with
  |none=>rw[e3]at hm;cases hm
  |some a=>
   rw[e3]at hm;simp only[qbH]at hm;cases e4:dLen [a]with
   |none=>rw[e4]at hm;cases hm
   |some c=>
    rw[e4]at hm;cases hm;have hh:hasV ρ j=true:=by
     unfold hasV;rw[e2];cases s<;>first|rfl|cases e3
    obtain⟨v,ev⟩:=I.has hh;exact⟨v,ev,len_read I (I.read ev e2 e3) e4 fun w q=>k G H w I (Fz.refl G) q⟩
noncomputable def zpa:List D->Option D
 |[.lst ds]=>some (.tup ds)
 |[.tup ds]=>some (.tup ds)
 |[.scr ns]=>some (.tup (ns.map .int))
 |_=>none
noncomputable def zcu:List D->Option (List D)
 |[.lst ds]=>some ds
 |[.tup ds]=>some ds
 |[.scr ns]=>some (ns.map .int)
 |_=>none
noncomputable def oC (f:List D->Option (List D))(ma:MA):MO:=fun ρ=>(ma ρ).bind fun p=>(f p.1).map fun d=>(d,p.2)
theorem oC_inv {f:List D->Option (List D)}{d:List D}(h:oC f ma ρ=some (d,ρ')):∃a,ma ρ=some (a,ρ')/\f a=some d:=by
 unfold oC at h;cases e1:ma ρ with
 |none=>rw[e1]at h;cases h
 |some p=>
  obtain⟨a,ρ1⟩:=p;rw[e1]at h;simp only[qbH]at h;cases e3:f a with
  |none=>rw[e3]at h;cases h
  |some c=>rw[e3]at h;cases h;exact⟨a,rfl,e3⟩
theorem SI.newO (I:SI K B G H σ ρ)(hp:H p=none)(xs:List V):SI K B G (upd H p (.lst xs)) σ ρ/\G p=none/\(upd H p (.lst xs)) p=some (.lst xs)/\B.H p=none/\Nw K G (upd H p (.lst xs)) σ ρ p:=
 ⟨I.allocO hp _,I.fz.free hp,zal,I.there p hp,I.nw_move (I.nw hp) fun i s a _ _ g h=>⟨g,zak fun z=>h (by rw[z];exact hp)⟩⟩
section
variable {X:Cx} {es:List Expr} {ma:MA} {pos:Pos}
noncomputable def eTup (ma:MA):ME:=fun ρ=>(ma ρ).bind fun p=>if p.1.length<=16777216 then some (.tup p.1,p.2)else none
theorem zbx {x1}(h:SA X es ma):SE X (.Tuple es x1 pos) (eTup ma):=by
 obtain⟨t,pa,sa⟩:=h;refine⟨_,zlP pa,fun B G H σ ρ d ρ' Q I hm k=>?_⟩;unfold eTup at hm;cases e1:ma ρ with
 |none=>rw[e1]at hm;cases hm
 |some q=>
  obtain⟨ds,ρ1⟩:=q;rw[e1]at hm;simp only[qbH]at hm
  split at hm
  ·rename_i hl;cases hm;refine sa B G H σ ρ ds ρ' _ I e1 fun G1 H1 vs I1 f1 r1=>⟨by rw[r1.length,qaM];exact hl,fun p hp=>?_⟩
   obtain⟨I2,f2,r2⟩:=I1.newT hp r1;exact k _ _ _ I2 (f1.trans f2) r2
  ·cases hm
noncomputable def oLst (ma:MA):MO:=fun ρ=>(ma ρ).bind fun p=>if p.1.length<=16777216 then some (p.1,p.2)else none
theorem zec (h:SA X es ma):SO X (.List es pos) (oLst ma):=by
 obtain⟨t,pa,sa⟩:=h;refine⟨_,pe_lst pa,fun B G H σ ρ d ρ' Q I hm k=>?_⟩;unfold oLst at hm;cases e1:ma ρ with
 |none=>rw[e1]at hm;cases hm
 |some q=>
  obtain⟨ds,ρ1⟩:=q;rw[e1]at hm;simp only[qbH]at hm
  split at hm
  ·rename_i hl;cases hm;refine sa B G H σ ρ _ ρ' _ I e1 fun G1 H1 vs I1 f1 r1=>⟨by rw[r1.length,qaM];exact hl,fun p hp=>?_⟩
   obtain⟨I2,g2,h2,b2,n2⟩:=I1.newO hp vs;exact k G1 _ p vs I2 f1 g2 h2 r1 b2 n2
  ·cases hm
end
theorem zaa {α β:Type}{o:Option α}{f:α->Option β}{b:β}(h:o.bind f=some b):∃a,o=some a/\f a=some b:=by
 cases o with
 |none=>cases h
 |some a=>exact⟨a,rfl,h⟩
theorem zaf {α β:Type}{o:Option α}{f:α->β}{b:β}(h:o.map f=some b):∃a,o=some a/\f a=b:=by
 cases o with
 |none=>cases h
 |some a=>cases h;exact⟨a,rfl,rfl⟩
noncomputable def dTru:D->Option Bool
 | .bl b=>some b
 | .int i=>some (i !=0)
 | .non=>some false
 | .lst ds=>some (!ds.isEmpty)
 | .tup ds=>some (!ds.isEmpty)
 |_=>none
noncomputable def tTru (ma:ME):MT:=fun ρ=>(ma ρ).bind fun p=>(dTru p.1).map fun b=>(b,p.2)
section
variable {X:Cx} {a b c:Expr} {ma mb mc:ME} {pos:Pos}
theorem zo1 (h:RepL K G xs ds):(!xs.isEmpty)=!ds.isEmpty:=by
 have:=h.length;cases xs<;>cases ds<;>simp_all
theorem zaT (ha:SE X a ma)(he:autoParam (∀whole,isTrue a X.env whole=(do let v<-whole;standAt a.pos;holding [v] (truthy v))) zu8._auto_1):STt X a (tTru ma):=by
  obtain⟨ta,pa,sa⟩:=ha;refine⟨_,pt_truth pa he,fun B G H σ ρ d ρ' Q I hm k=>?_⟩;obtain⟨⟨x,ρ1⟩,e1,e2⟩:=zaa hm;obtain⟨t,e3,e4⟩:=zaf e2;obtain⟨rfl,rfl⟩:=Prod.mk.inj e4;refine sa B G H σ ρ x ρ1 _ I e1 fun G1 H1 v I1 f1 r1=>⟨t,?_,k G1 H1 I1 f1⟩
  cases x<;>simp only[dTru]at e3<;>try cases e3
  . cases r1;exact rfl
  . cases r1;exact rfl
  . cases r1;exact rfl
  . obtain⟨p,xs,rfl,hp,r⟩:=I1.lst r1
    exact .inl ⟨xs,SqL.of hp,(zo1 r).symm⟩
  . obtain⟨p,xs,rfl,hp,r⟩:=I1.tup r1
    exact .inr (.inl ⟨xs,SqT.of hp,(zo1 r).symm⟩)
theorem zio {r:R2}(ho:OpR X (compareOp op) r)(hv:V2 X r f)(hB:∀x y d,f x y=some d->∃t,d= .bl t)(ha:SE X a ma)(hb:SE X b mb)(hm:behindInMarks op b=false):STt X (.Compare a [op] [b] pos) (tTru (m2 f ma mb)):=by
 obtain⟨ta,pa,sa⟩:=ha;obtain⟨tb,pb,sb⟩:=hb;refine⟨_,znl ho pa pb hm,fun B G H σ ρ d ρ' Q I hm k=>?_⟩;obtain⟨⟨x,ρ1⟩,e1,e2⟩:=zaa hm;obtain⟨t,e3,e4⟩:=zaf e2;obtain⟨rfl,rfl⟩:=Prod.mk.inj e4;obtain⟨_,_,_,_,_,e5⟩:=m2_inv e1;obtain⟨t',rfl⟩:=hB _ _ _ e5;obtain rfl:t'=t:=Option.some.inj e3;refine zlu hv sa sb B G H σ ρ (.bl t') ρ1 _ I e1 fun G1 H1 v I1 f1 r1=>?_
 cases(show v=V.bl t' from r1);exact⟨t',rfl,k G1 H1 I1 f1⟩
theorem zjv {g:Int->Int->Bool}(x y d:D)(h:dI2 (fun _ _=>true) (fun i j=> .bl (g i j)) x y=some d):∃t,d= .bl t:=by
 cases x<;>cases y<;>simp only[dI2]at h<;>try cases h
 exact⟨_,rfl⟩
theorem bl_eq (x y d:D)(h:dEq x y=some d):∃t,d= .bl t:=by
 unfold dEq at h
 split at h
 ·cases h;exact⟨_,rfl⟩
 ·cases h
theorem bl_ne (x y d:D)(h:dNe x y=some d):∃t,d= .bl t:=by
 unfold dNe at h
 split at h
 ·cases h;exact⟨_,rfl⟩
 ·cases h
theorem st_lt (ha:SE X a ma)(hb:SE X b mb):STt X (.Compare a [.Lt] [b] pos) (tTru (m2 dLt ma mb)):=zio op_lt zd4 zjv ha hb (zjL _)
theorem st_ge (ha:SE X a ma)(hb:SE X b mb):STt X (.Compare a [.GtE] [b] pos) (tTru (m2 dGe ma mb)):=zio op_ge zd4 zjv ha hb (zjL _)
theorem zjM (hu:X.A.units+64<cLine)(ha:SE X a ma)(hb:SE X b mb):STt X (.Compare a [.Eq] [b] pos) (tTru (m2 dEq ma mb)):=zio (op_eqD hu) v2_eq bl_eq ha hb (zjL _)
theorem zmB (hu:X.A.units+64<cLine)(ha:SE X a ma)(hb:SE X b mb):STt X (.Compare a [.NotEq] [b] pos) (tTru (m2 dNe ma mb)):=zio (op_neD hu) v2_ne bl_ne ha hb (zjL _)
end
noncomputable def STw (X:Cx)(e:Expr)(m:MT):Prop:=
 ∃t,PW X e t/\∀B G H σ ρ d ρ' (Q:Bool->Hp->Prop),SI X.K B G H σ ρ->m ρ=some (d,ρ')->(∀G' H',SI X.K B G' H' σ ρ'->Fz G G'->Q d H')->t σ H Q
theorem STw.st {m:MT}(h:STw X e m):STt X e m:=let⟨t,p,s⟩:=h;⟨t,p.pt,s⟩
noncomputable def zo2 (a b:MT):MT:=fun ρ=>(a ρ).bind fun p=>if p.1 then b p.2 else some (false,p.2)
noncomputable def tOrM (a b:MT):MT:=fun ρ=>(a ρ).bind fun p=>if p.1 then some (true,p.2)else b p.2
noncomputable def zcx (a:MT):MT:=fun ρ=>(a ρ).map fun p=>(!p.1,p.2)
section
variable {X:Cx} {a b c:Expr} {ma mb:MT} {pos:Pos} {rest:List Expr}
theorem znI (h:STt X a ma):STw X (.BoolOp .And [a] pos) ma:=let⟨t,p,s⟩:=h;⟨t,pw_and1 p,s⟩
theorem zgt (h:STt X a ma):STw X (.BoolOp .Or [a] pos) ma:=let⟨t,p,s⟩:=h;⟨t,pw_or1 p,s⟩
theorem sw_and (ha:STt X a ma)(hb:STw X (.BoolOp .And (b::rest) pos) mb):STw X (.BoolOp .And (a::b::rest) pos) (zo2 ma mb):=by
 obtain⟨ta,pa,sa⟩:=ha;obtain⟨tb,pb,sb⟩:=hb;refine⟨_,pw_and pa pb,fun B G H σ ρ d ρ' Q I hm k=>?_⟩;obtain⟨⟨x,ρ1⟩,e1,e2⟩:=zaa hm;refine sa B G H σ ρ x ρ1 _ I e1 fun G1 H1 I1 f1=>?_
 cases x with
 |true=>exact sb B G1 H1 σ ρ1 d ρ' Q I1 e2 fun G2 H2 I2 f2=>k G2 H2 I2 (f1.trans f2)
 |false=>cases e2;exact k G1 H1 I1 f1
theorem zgX (ha:STt X a ma)(hb:STw X (.BoolOp .Or (b::rest) pos) mb):STw X (.BoolOp .Or (a::b::rest) pos) (tOrM ma mb):=by
 obtain⟨ta,pa,sa⟩:=ha;obtain⟨tb,pb,sb⟩:=hb;refine⟨_,pw_or pa pb,fun B G H σ ρ d ρ' Q I hm k=>?_⟩;obtain⟨⟨x,ρ1⟩,e1,e2⟩:=zaa hm;refine sa B G H σ ρ x ρ1 _ I e1 fun G1 H1 I1 f1=>?_
 cases x with
 |false=>exact sb B G1 H1 σ ρ1 d ρ' Q I1 e2 fun G2 H2 I2 f2=>k G2 H2 I2 (f1.trans f2)
 |true=>cases e2;exact k G1 H1 I1 f1
theorem zbB (ha:STt X a ma):STt X (.UnaryOp .Not a pos) (zcx ma):=by
 obtain⟨ta,pa,sa⟩:=ha;refine⟨_,pt_not pa,fun B G H σ ρ d ρ' Q I hm k=>?_⟩;obtain⟨⟨x,ρ1⟩,e1,e2⟩:=zaf hm;cases e2;exact sa B G H σ ρ x ρ1 _ I e1 fun G1 H1 I1 f1=>k G1 H1 I1 f1
end
noncomputable def eAnd (a b:ME):ME:=fun ρ=>(a ρ).bind fun p=>match p.1 with
 | .bl true=>b p.2
 | .bl false=>some (.bl false,p.2)
 |_=>none
noncomputable def eOr (a b:ME):ME:=fun ρ=>(a ρ).bind fun p=>match p.1 with
 | .bl true=>some (.bl true,p.2)
 | .bl false=>b p.2
 |_=>none
noncomputable def dNot:D->Option D
 | .bl b=>some (.bl (!b))
 |_=>none
section
variable {X:Cx} {a b c:Expr} {ma mb:ME} {pos:Pos} {rest:List Expr} {op:BoolOp}
theorem zin (h:SE X a ma):SE X (.BoolOp op [a] pos) ma:=let⟨t,p,s⟩:=h;⟨t,pe_one p,s⟩
theorem zhj (ha:SE X a ma)(hb:SE X (.BoolOp .And (b::rest) pos) mb):SE X (.BoolOp .And (a::b::rest) pos) (eAnd ma mb):=by
 obtain⟨ta,pa,sa⟩:=ha;obtain⟨tb,pb,sb⟩:=hb;refine⟨_,pe_and pa pb,fun B G H σ ρ d ρ' Q I hm k=>?_⟩;obtain⟨⟨x,ρ1⟩,e1,e2⟩:=zaa hm;refine sa B G H σ ρ x ρ1 _ I e1 fun G1 H1 v I1 f1 r1=>?_
 cases x<;>try cases e2
 rename_i y;refine⟨y,r1,?_⟩;cases y with
 |true=>exact sb B G1 H1 σ ρ1 d ρ' Q I1 e2 fun G2 H2 v I2 f2 r2=>k G2 H2 v I2 (f1.trans f2) r2
 |false=>cases e2;exact k G1 H1 _ I1 f1 rfl
theorem se_not (ha:SE X a ma):SE X (.UnaryOp .Not a pos) (m1 dNot ma):=by
 obtain⟨ta,pa,sa⟩:=ha;refine⟨_,pe_not pa,fun B G H σ ρ d ρ' Q I hm k=>?_⟩;obtain⟨x,e1,e2⟩:=m1_inv hm;refine sa B G H σ ρ x ρ' _ I e1 fun G1 H1 v I1 f1 r1=>?_
 cases x<;>simp only[dNot]at e2<;>try cases e2
 exact⟨_,r1,k G1 H1 _ I1 f1 rfl⟩
noncomputable def eIf (c:MT)(a b:ME):ME:=fun ρ=>(c ρ).bind fun p=>if p.1 then a p.2 else b p.2
theorem zlq (hc:STt X c mc)(ha:SE X a ma)(hb:SE X b mb):SE X (.IfExp c a b pos) (eIf mc ma mb):=by
 obtain⟨tc,pc,sc⟩:=hc;obtain⟨ta,pa,sa⟩:=ha;obtain⟨tb,pb,sb⟩:=hb;refine⟨_,pe_ifExp pc pa pb,fun B G H σ ρ d ρ' Q I hm k=>?_⟩;obtain⟨⟨x,ρ1⟩,e1,e2⟩:=zaa hm;refine sc B G H σ ρ x ρ1 _ I e1 fun G1 H1 I1 f1=>?_
 cases x with
 |true=>exact sa B G1 H1 σ ρ1 d ρ' Q I1 e2 fun G2 H2 v I2 f2 r2=>k G2 H2 v I2 (f1.trans f2) r2
 |false=>exact sb B G1 H1 σ ρ1 d ρ' Q I1 e2 fun G2 H2 v I2 f2 r2=>k G2 H2 v I2 (f1.trans f2) r2
end
noncomputable def zhI (f g:D->D->Option D)(a b c:ME):ME:=fun ρ=>(a ρ).bind fun p=>(b p.2).bind fun q=>(f p.1 q.1).bind fun t=>match t with
 | .bl true=>(c q.2).bind fun r=>(g q.1 r.1).map fun d=>(d,r.2)
 | .bl false=>some (.bl false,q.2)
 |_=>none
section
variable {X:Cx} {a b c:Expr} {ma mb mc:ME} {pos:Pos}
theorem zhJ {r r':R2}{f g:D->D->Option D}{ta tb tc:TE}(hv:V2 X r f)(hw:V2 X r' g)
  (sa:∀B G H σ ρ d ρ' (Q:VK),SI X.K B G H σ ρ->ma ρ=some (d,ρ')->(∀G' H' v,SI X.K B G' H' σ ρ'->Fz G G'->RepD X.K G' v d->Q v H')->ta σ H Q)
  (sb:∀B G H σ ρ d ρ' (Q:VK),SI X.K B G H σ ρ->mb ρ=some (d,ρ')->(∀G' H' v,SI X.K B G' H' σ ρ'->Fz G G'->RepD X.K G' v d->Q v H')->tb σ H Q)
  (sc:∀B G H σ ρ d ρ' (Q:VK),SI X.K B G H σ ρ->mc ρ=some (d,ρ')->(∀G' H' v,SI X.K B G' H' σ ρ'->Fz G G'->RepD X.K G' v d->Q v H')->tc σ H Q):
  ∀B G H σ ρ d ρ' (Q:VK),SI X.K B G H σ ρ->zhI f g ma mb mc ρ=some (d,ρ')->(∀G' H' v,SI X.K B G' H' σ ρ'->Fz G G'->RepD X.K G' v d->Q v H')->zne r r' ta tb tc σ H Q:=by
 intro B G H σ ρ d ρ' Q I hm k;obtain⟨⟨x,ρ1⟩,e1,h1⟩:=zaa hm;obtain⟨⟨y,ρ2⟩,e2,h2⟩:=zaa h1;obtain⟨t,e3,h3⟩:=zaa h2;refine sa B G H σ ρ x ρ1 _ I e1 fun G1 H1 v I1 f1 r1=>sb B G1 H1 σ ρ1 y ρ2 _ I1 e2 fun G2 H2 u I2 f2 r2=>hv B G2 H2 σ ρ2 v u x y t _ I2 (r1.mono f2) r2 e3 fun G3 H3 z I3 f3 r3=>?_
 cases t<;>try cases h3
 rename_i t;refine⟨t,r3,?_⟩;cases t with
 |true=>
  obtain⟨⟨w,ρ3⟩,e4,h4⟩:=zaa h3;obtain⟨d',e5,e6⟩:=zaf h4;cases e6;exact sc B G3 H3 σ ρ2 w ρ3 _ I3 e4 fun G4 H4 s I4 f4 r4=>hw B G4 H4 σ ρ3 u s y w d Q I4 (r2.mono (f3.trans f4)) r4 e5 fun G5 H5 z5 I5 f5 r5=>k G5 H5 z5 I5 (f1.trans (f2.trans (f3.trans (f4.trans f5)))) r5
 |false=>cases h3;exact k G3 H3 _ I3 (f1.trans (f2.trans f3)) rfl
theorem se_chain {r r':R2}{f g:D->D->Option D}(ho:OpR X (compareOp op) r)(ho':OpR X (compareOp op') r')(hv:V2 X r f)(hw:V2 X r' g)(ha:SE X a ma)(hb:SE X b mb)(hc:SE X c mc)
  (hm:autoParam (lastMarks [op,op'] [b,c]=false) zu5._auto_1):SE X (.Compare a [op,op'] [b,c] pos) (zhI f g ma mb mc):=by
 obtain⟨ta,pa,sa⟩:=ha;obtain⟨tb,pb,sb⟩:=hb;obtain⟨tc,pc,sc⟩:=hc;exact⟨_,pe_chain ho ho' pa pb pc hm,zhJ hv hw sa sb sc⟩
theorem st_chain {r r':R2}{f g:D->D->Option D}(ho:OpR X (compareOp op) r)(ho':OpR X (compareOp op') r')(hv:V2 X r f)(hw:V2 X r' g)(hB:∀x y d,g x y=some d->∃t,d= .bl t)(ha:SE X a ma)(hb:SE X b mb)(hc:SE X c mc)
  (hm:autoParam (lastMarks [op,op'] [b,c]=false) zu5._auto_1):STt X (.Compare a [op,op'] [b,c] pos) (tTru (zhI f g ma mb mc)):=by
 obtain⟨ta,pa,sa⟩:=ha;obtain⟨tb,pb,sb⟩:=hb;obtain⟨tc,pc,sc⟩:=hc;refine⟨_,pt_chain ho ho' pa pb pc hm,fun B G H σ ρ d ρ' Q I hm k=>?_⟩;obtain⟨⟨x,ρ1⟩,e1,e2⟩:=zaa hm;obtain⟨t,e3,e4⟩:=zaf e2;obtain⟨rfl,rfl⟩:=Prod.mk.inj e4;have hx:∃t',x= .bl t':=by
  obtain⟨⟨x',ρ1'⟩,_,h1⟩:=zaa e1;obtain⟨⟨y',ρ2'⟩,_,h2⟩:=zaa h1;obtain⟨t',et',h3⟩:=zaa h2;clear et';cases t'<;>try cases h3
  rename_i t';cases t' with
  |true=>
   obtain⟨⟨w,ρ3⟩,e4,h4⟩:=zaa h3;obtain⟨d',e5,e6⟩:=zaf h4;cases e6;exact hB _ _ _ e5
  |false=>cases h3;exact⟨_,rfl⟩
 obtain⟨t',rfl⟩:=hx;obtain rfl:t'=t:=Option.some.inj e3;refine zhJ hv hw sa sb sc B G H σ ρ (.bl t') ρ1 _ I e1 fun G1 H1 v I1 f1 r1=>?_
 cases(show v=V.bl t' from r1);exact⟨t',rfl,k G1 H1 I1 f1⟩
end
inductive Fl where
 |next|brk|cont|ret (r:Sl)
noncomputable abbrev MS:=R->Option (Fl×R)
noncomputable def ResOk (K:W.Frag)(B:Bs)(G H:Hp)(v:V):Sl->Prop
 | .val d=>RepD K G v d
 | .own ds=>∃l xs,v= .ref l/\G l=none/\H l=some (.lst xs)/\RepL K G xs ds/\B.H l=none
 | .tre t=>∃A,RepT K G H v t A/\A.Nodup/\∀a∈A,G a=none/\B.H a=none
 | .two ds es=>∃t l xs m ys,v= .ref t/\H t=some (.tup [.ref l,.ref m])/\l≠m/\G l=none/\H l=some (.lst xs)/\RepL K G xs ds/\B.H l=none/\G m=none/\H m=some (.lst ys)/\RepL K G ys es/\B.H m=none
 |_=>False
noncomputable def Post (K:W.Frag)(B:Bs)(G:Hp)(E:Ends)(fl:Fl)(ρ':R):Prop:=match fl with
 | .next=>∀G' H' σ',SI K B G' H' σ' ρ'->Fz G G'->E.nx σ' H'
 | .brk=>∀G' H' σ',SI K B G' H' σ' ρ'->Fz G G'->E.bk σ' H'
 | .cont=>∀G' H' σ',SI K B G' H' σ' ρ'->Fz G G'->E.ct σ' H'
 | .ret r=>∀G' H' σ' v,SI K B G' H' σ' ρ'->Fz G G'->ResOk K B G' H' v r->E.rt v H'
theorem Post.mono {G G1:Hp}{E:Ends}{fl:Fl}(h:Post K B G E fl ρ')(f:Fz G G1):Post K B G1 E fl ρ':=by
 cases fl with
 |next=>exact fun G' H' σ' I g=>h G' H' σ' I (f.trans g)
 |brk=>exact fun G' H' σ' I g=>h G' H' σ' I (f.trans g)
 |cont=>exact fun G' H' σ' I g=>h G' H' σ' I (f.trans g)
 |ret r=>exact fun G' H' σ' v I g=>h G' H' σ' v I (f.trans g)
noncomputable def SS (X:Cx)(st:Stmt)(m:MS):Prop:=∃t,PS X st t/\∀B G H σ ρ fl ρ' (E:Ends),SI X.K B G H σ ρ->m ρ=some (fl,ρ')->Post X.K B G E fl ρ'->t E σ H
noncomputable def SSs (X:Cx)(st:List Stmt)(m:MS):Prop:=∃t,PSs X st t/\∀B G H σ ρ fl ρ' (E:Ends),SI X.K B G H σ ρ->m ρ=some (fl,ρ')->Post X.K B G E fl ρ'->t E σ H
noncomputable def zcd:MS:=fun ρ=>some (.next,ρ)
noncomputable def sSeq (a b:MS):MS:=fun ρ=>(a ρ).bind fun p=>match p.1 with
 | .next=>b p.2
 |f=>some (f,p.2)
section
variable {X:Cx} {st:Stmt} {rest:List Stmt} {m n:MS} {e:Expr} {me:ME} {pos:Pos}
theorem zaP:SSs X [] zcd:=⟨_,zoD,fun B G H σ ρ fl ρ' E I hm k=>by cases hm;exact k G H σ I (Fz.refl G)⟩
theorem zah (h:SS X st m):SSs X [st] m:=let⟨t,p,s⟩:=h;⟨t,zkn p,s⟩
theorem zae (h:SS X st m)(hr:SSs X rest n):SSs X (st::rest) (sSeq m n):=by
 obtain⟨t,p,s⟩:=h;obtain⟨u,q,z⟩:=hr;refine⟨_,zgU p q,fun B G H σ ρ fl ρ' E I hm k=>?_⟩;obtain⟨⟨f,ρ1⟩,e1,e2⟩:=zaa hm;refine s B G H σ ρ f ρ1 _ I e1 ?_;cases f with
 |next=>exact fun G1 H1 σ1 I1 f1=>z B G1 H1 σ1 ρ1 fl ρ' E I1 e2 (k.mono f1)
 |brk=>cases e2;exact k
 |cont=>cases e2;exact k
 |ret r=>cases e2;exact k
noncomputable def znb (m:ME):MS:=fun ρ=>(m ρ).map fun p=>(.next,p.2)
theorem zkw (h:SE X e me)(hs:autoParam (swapsWith e none pos.line X.env=pure false) zu3._auto_1):SS X (.Expr e pos) (znb me):=by
 obtain⟨t,p,s⟩:=h;refine⟨_,zhl p hs,fun B G H σ ρ fl ρ' E I hm k=>?_⟩;obtain⟨⟨d,ρ1⟩,e1,e2⟩:=zaf hm;cases e2;exact s B G H σ ρ d ρ1 _ I e1 fun G1 H1 v I1 f1 _=>k G1 H1 σ I1 f1
noncomputable def sRet (m:ME):MS:=fun ρ=>(m ρ).map fun p=>(.ret (.val p.1),p.2)
theorem zaS (h:SE X e me):SS X (.Return (some e) pos) (sRet me):=by
 obtain⟨t,p,s⟩:=h;refine⟨_,zir p,fun B G H σ ρ fl ρ' E I hm k=>?_⟩;obtain⟨⟨d,ρ1⟩,e1,e2⟩:=zaf hm;cases e2;exact s B G H σ ρ d ρ1 _ I e1 fun G1 H1 v I1 f1 r1=>k G1 H1 σ v I1 f1 r1
noncomputable def zk9 (m:MO):MS:=fun ρ=>(m ρ).map fun p=>(.ret (.own p.1),p.2)
theorem zhn {mo:MO}(h:SO X e mo):SS X (.Return (some e) pos) (zk9 mo):=by
 obtain⟨t,p,s⟩:=h;refine⟨_,zir p,fun B G H σ ρ fl ρ' E I hm k=>?_⟩;obtain⟨⟨d,ρ1⟩,e1,e2⟩:=zaf hm;cases e2;exact s B G H σ ρ d ρ1 _ I e1 fun G1 H1 l xs I1 f1 g1 h1 r1 b1 _=>k G1 H1 σ _ I1 f1 ⟨l,xs,rfl,g1,h1,r1,b1⟩
theorem SI.emp (I:SI K B G H σ ρ)(i:Nat):SI K B G H σ (ρ.set i .emp):=by
 by_cases hi:i<ρ.length
 ·have hs:σ[i]? =some (σ[i]'(by rw[I.len];exact hi)):=qbN _;have h:=I.chg (i:=i) (ov:=σ[i]'(by rw[I.len];exact hi)) (s':= .emp) I.fz (Fz.refl G) I.new I.keep I.there (fun _ _ _ _ _ _ g _=>⟨g,rfl,id⟩) trivial;rwa[zhB hs]at h
 ·rw[List.set_eq_of_length_le (by lia)];exact I
noncomputable def zkC (i:Nat):MS:=fun ρ=>match ρ[i]? with
 |some (.val d)=>some (.ret (.val d),ρ)
 |some (.own ds)=>some (.ret (.own ds),ρ.set i .emp)
 |_=>none
theorem zi1 (i:Nat)(hN:autoParam (X.N[i]? =some x) zu3._auto_1)(hv:autoParam (Vis X.env.scope x) zu6._auto_1)(hd:autoParam ((x==("__debug__":Str))=false) zu1._auto_1)
  (hcd:autoParam ((x==("__classdict__":Str))=false) zu1._auto_1):SS X (.Return (some (.Name x pos')) pos) (zkC i):=by
 refine⟨_,zir (zaX hN hv hd hcd),fun B G H σ ρ fl ρ' E I hm k=>?_⟩;unfold zkC at hm;cases e:ρ[i]? with
 |none=>rw[e]at hm;cases hm
 |some s=>
  rw[e]at hm;have h:=I.slot i s e;cases s with
  |emp=>cases hm
  |two _ _=>cases hm
  |tre _=>cases hm
  |ptr _=>cases hm
  |par ds=>cases hm
  |val d=>cases hm;obtain⟨v,h1,h2⟩:=h;exact⟨v,h1,k G H σ v I (Fz.refl G) h2⟩
  |own ds=>
   cases hm;obtain⟨l,xs,h1,h2,h3,h4,h5⟩:=h;exact⟨.ref l,h1,k G H σ _ (I.emp i) (Fz.refl G) ⟨l,xs,rfl,h2,h3,h4,h5⟩⟩
noncomputable def sIf (c:MT)(a b:MS):MS:=fun ρ=>(c ρ).bind fun p=>if p.1 then a p.2 else b p.2
theorem zb4 {c:Expr}{a b:List Stmt}{ma mb:MS}(hc:STt X c mc)(ha:SSs X a ma)(hb:SSs X b mb):SS X (.If c a b pos) (sIf mc ma mb):=by
 obtain⟨tc,pc,sc⟩:=hc;obtain⟨ta,pa,sa⟩:=ha;obtain⟨tb,pb,sb⟩:=hb;refine⟨_,ps_if pc pa pb,fun B G H σ ρ fl ρ' E I hm k=>?_⟩;obtain⟨⟨x,ρ1⟩,e1,e2⟩:=zaa hm;refine sc B G H σ ρ x ρ1 _ I e1 fun G1 H1 I1 f1=>?_
 cases x with
 |true=>exact sa B G1 H1 σ ρ1 fl ρ' E I1 e2 (k.mono f1)
 |false=>exact sb B G1 H1 σ ρ1 fl ρ' E I1 e2 (k.mono f1)
end
noncomputable def SG (X:Cx)(tg:Expr)(g:D->R->Option R):Prop:=∃t,PG X tg t/\∀B G H σ ρ v d ρ' (Q:St->Hp->Prop),SI X.K B G H σ ρ->RepD X.K G v d->g d ρ=some ρ'->(∀G' H' σ',SI X.K B G' H' σ' ρ'->Fz G G'->Q σ' H')->t v σ H Q
noncomputable def SGs (X:Cx)(tgs:List Expr)(g:List D->R->Option R):Prop:=∃t,PGs X tgs t/\∀B G H σ ρ vs ds ρ' (Q:St->Hp->Prop),SI X.K B G H σ ρ->RepL X.K G vs ds->g ds ρ=some ρ'->(∀G' H' σ',SI X.K B G' H' σ' ρ'->Fz G G'->Q σ' H')->t vs σ H Q
noncomputable def gN (i:Nat):D->R->Option R:=fun d ρ=>some (ρ.set i (.val d))
noncomputable def zfY:List D->R->Option R:=fun ds ρ=>match ds with
 |[]=>some ρ
 |_=>none
noncomputable def zbd (g:D->R->Option R)(h:List D->R->Option R):List D->R->Option R:=fun ds ρ=>match ds with
 |d::ds=>(g d ρ).bind fun ρ1=>h ds ρ1
 |[]=>none
noncomputable def gT (n:Nat)(g:List D->R->Option R):D->R->Option R:=fun d ρ=>match d with
 | .tup ds=>if ds.length=n then g ds ρ else none
 |_=>none
section
variable {X:Cx} {pos:Pos}
theorem zav (i:Nat)(hN:X.N.Nodup)(hi:autoParam (X.N[i]? =some x) zu3._auto_1)(hx:autoParam (Loc X.env.scope x) zu9._auto_1)(hf:autoParam (X.fn x=true\/X.env.scope.names.lookup x=some .local) zu9._auto_1):SG X (.Name x pos) (gN i):=
 ⟨_,zkx hN hi hx hf,fun B G H σ ρ v d ρ' Q I r hm k=>by cases hm;exact k G H _ (I.set r) (Fz.refl G)⟩
theorem zc9:SGs X [] zfY:=⟨_,pgs_nil,fun B G H σ ρ vs ds ρ' Q I r hm k=>by
 cases ds with
 |nil=>cases hm;exact⟨r,k G H σ I (Fz.refl G)⟩
 |cons=>cases hm⟩
theorem zaF {e:Expr}(h1:SG X e g)(h2:SGs X es h)(hs:autoParam ((assignEach (e::es) X.env).map (·.2)=assign e X.env::(assignEach es X.env).map (·.2)) zu3._auto_1):SGs X (e::es) (zbd g h):=by
 obtain⟨t,p,s⟩:=h1;obtain⟨u,q,z⟩:=h2;refine⟨_,pgs_cons p q hs,fun B G H σ ρ vs ds ρ' Q I r hm k=>?_⟩;cases ds with
 |nil=>cases hm
 |cons d ds=>
  obtain⟨x,ys,rfl,rx,ry⟩:=r;obtain⟨ρ1,e1,e2⟩:=zaa hm;exact⟨x,ys,rfl,s B G H σ ρ x d ρ1 _ I rx e1 fun G1 H1 σ1 I1 f1=>z B G1 H1 σ1 ρ1 ys ds ρ' Q I1 (ry.mono f1) e2 fun G2 H2 σ2 I2 f2=>k G2 H2 σ2 I2 (f1.trans f2)⟩
theorem zeE {k:Nat}{g:List D->R->Option R}(hc:X.calm=true)(h:SGs X es g)(hn:autoParam ((assignEach es X.env).length=n) zu3._auto_1)(hst:autoParam ((assignEach es X.env).findIdx? (·.1)=none) zu3._auto_1):SG X (.Tuple es k pos) (gT n g):=by
 obtain⟨t,p,s⟩:=h;refine⟨_,pg_tup hc p hn hst,fun B G H σ ρ v d ρ' Q I r hm k=>?_⟩;cases d<;>try cases hm
 rename_i ds;simp only[gT]at hm
 split at hm
 ·rename_i hl;obtain⟨a,xs,e,ha,rx⟩:=I.tup r;exact⟨a,xs,e,SqT.of ha,by rw[rx.length];exact hl,s B G H σ ρ xs ds ρ' Q I rx hm k⟩
 ·cases hm
variable {e tg:Expr} {me:ME} {mo:MO}
noncomputable def sAsg (m:ME)(g:D->R->Option R):MS:=fun ρ=>(m ρ).bind fun p=>(g p.1 p.2).map fun ρ'=>(.next,ρ')
theorem zlV (he:SE X e me)(hg:SG X tg g)(hs:autoParam (swapsWithSole [tg] e pos.line X.env=pure false) zu3._auto_1)(hw:autoParam (swappedStores [tg] e X.env=pure none) zu3._auto_1)
  (h1:autoParam ((assignEach [tg] X.env).map (·.2)=[assign tg X.env]) zu3._auto_1):SS X (.Assign [tg] e pos) (sAsg me g):=by
 obtain⟨t,p,s⟩:=he;obtain⟨u,q,z⟩:=hg;refine⟨_,ps_asg p q hs hw h1,fun B G H σ ρ fl ρ' E I hm k=>?_⟩;obtain⟨⟨d,ρ1⟩,e1,h2⟩:=zaa hm;obtain⟨ρ2,e2,e3⟩:=zaf h2;obtain⟨rfl,rfl⟩:=Prod.mk.inj e3;exact s B G H σ ρ d ρ1 _ I e1 fun G1 H1 v I1 f1 r1=>z B G1 H1 σ ρ1 v d ρ2 _ I1 r1 e2 fun G2 H2 σ2 I2 f2=>k G2 H2 σ2 I2 (f1.trans f2)
noncomputable def sSet (i:Nat)(m:ME):MS:=fun ρ=>(m ρ).map fun p=>(.next,p.2.set i (.val p.1))
theorem zbe (i:Nat)(he:SE X e me)(hN:X.N.Nodup)(hi:autoParam (X.N[i]? =some x) zu3._auto_1)(hx:autoParam (Loc X.env.scope x) zu9._auto_1)(hs:autoParam (swapsWith e (some (.Name x pos')) pos.line X.env=pure false) zu3._auto_1)
    (hf:autoParam (X.fn x=true\/X.env.scope.names.lookup x=some .local) zu9._auto_1):SS X (.Assign [.Name x pos'] e pos) (sSet i me):=by
  obtain⟨t,p,s⟩:=he;refine⟨_,zgv hN hi hx p hs hf,fun B G H σ ρ fl ρ' E I hm k=>?_⟩;obtain⟨⟨d,ρ1⟩,e1,e3⟩:=zaf hm;cases e3;exact s B G H σ ρ d ρ1 _ I e1 fun G1 H1 v I1 f1 r1=>k G1 H1 _ (I1.set r1) f1
noncomputable def zi7 (i:Nat)(m:MO):MS:=fun ρ=>(m ρ).map fun p=>(.next,p.2.set i (.own p.1))
theorem zhO (i:Nat)(he:SO X e mo)(hN:X.N.Nodup)(hi:autoParam (X.N[i]? =some x) zu3._auto_1)(hx:autoParam (Loc X.env.scope x) zu9._auto_1)(hs:autoParam (swapsWith e (some (.Name x pos')) pos.line X.env=pure false) zu3._auto_1)
    (hf:autoParam (X.fn x=true\/X.env.scope.names.lookup x=some .local) zu9._auto_1):SS X (.Assign [.Name x pos'] e pos) (zi7 i mo):=by
  obtain⟨t,p,s⟩:=he;refine⟨_,zgv hN hi hx p hs hf,fun B G H σ ρ fl ρ' E I hm k=>?_⟩;obtain⟨⟨d,ρ1⟩,e1,e3⟩:=zaf hm;cases e3;exact s B G H σ ρ d ρ1 _ I e1 fun G1 H1 l xs I1 f1 g1 h1 r1 b1 n1=>k G1 H1 _ (I1.setO g1 h1 r1 b1 n1) f1
noncomputable def sApp (i:Nat)(m:ME):MS:=fun ρ=>if(ρ[i]?.bind Sl.items).isSome then(m ρ).bind fun p=>p.2[i]?.bind fun s=>s.items.bind fun ds=>if ds.length<16777216 then some (.next,p.2.set i (s.put (ds++[p.1])))else none else none
theorem ss_app (i:Nat){pos' apos cpos:Pos}(he:SE X e me)(hN:autoParam (X.N[i]? =some x) zu3._auto_1)(hv:autoParam (Vis X.env.scope x) zu6._auto_1)(hd:autoParam ((x==("__debug__":Str))=false) zu1._auto_1)
  (hcd:autoParam ((x==("__classdict__":Str))=false) zu1._auto_1)
  (hbase:autoParam (attributeBase (.Name x pos') "append" X.env (eval (.Name x pos') X.env)=eval (.Name x pos') X.env) zu3._auto_1)
  (hfew :autoParam (((backTo cpos (starEach [e] X.env)).all (fun x => !x.1) && (backToKw cpos (keywordEach [] X.env)).all (fun x => x.1.isSome)
   &&decide ([e].length+([]:List Keyword).length+(if([]:List Keyword).isEmpty then 0 else 1)<30))=true) zu3._auto_1)
  (hline:autoParam ((apos.endLine==cpos.line)=true) zu3._auto_1) (hs:autoParam (starEach [e] X.env=(false,eval e X.env)::starEach [] X.env) zu3._auto_1):SS X (.Expr (.Call (.Attribute (.Name x pos') "append" apos) [e] [] cpos) pos) (sApp i me):=by
 obtain⟨t,p,s⟩:=he;refine⟨_,zhl (pe_bm qbO PySem.F.slot_list_append PySem.F.type_list_append zhD (zaX hN hv hd hcd) (zaG p zbX hs) hbase hfew hline hs rfl) (by rfl),fun B G H σ ρ fl ρ' E I hm k=>?_⟩;unfold sApp at hm
 split at hm
 ·rename_i hso;obtain⟨ds0,hso⟩:=qa4.mp hso;obtain⟨s0,e0,q0⟩:=zaa hso;obtain⟨l,xs0,h1,h2,h3,h4⟩:=I.wr e0 q0;obtain⟨⟨d,ρ1⟩,e1,hm⟩:=zaa hm;obtain⟨s1,e2,hm⟩:=zaa hm;obtain⟨ds,e3,hm⟩:=zaa hm
  split at hm
  ·rename_i hl;cases hm;refine⟨.ref l,h1,.inl ⟨rfl,_,SqL.of h3⟩,s B G H σ ρ d ρ1 _ I e1 fun G1 H1 v I1 f1 r1=>?_⟩;obtain⟨l',xs,k1,k2,k3,k4⟩:=I1.wr e2 e3;rw[h1]at k1;cases k1;refine⟨l,xs,v,rfl,rfl,k3,by rw[k4.length,qaM];exact hl,?_⟩;exact k G1 _ σ (I1.write e2 e3 h1 (k4.snoc r1)) f1
  ·cases hm
 ·cases hm
noncomputable def sPut (j:Nat)(mi me:ME):MS:=fun ρ=>(me ρ).bind fun p=>if hasV p.2 j then(mi p.2).bind fun q=>match q.1 with
 | .int k=>q.2[j]?.bind fun s=>s.items.bind fun ds=>(ixN ds.length k).bind fun n=>some (.next,q.2.set j (s.put (ds.set n p.1)))
 |_=>none else none
theorem ss_put (j:Nat){i:Expr}{mi:ME}{pos' tpos:Pos}(he:SE X e me)(hi:SE X i mi)(hN:autoParam (X.N[j]? =some x) zu3._auto_1)(hv:autoParam (Vis X.env.scope x) zu6._auto_1)(hd:autoParam ((x==("__debug__":Str))=false) zu1._auto_1)
  (hcd:autoParam ((x==("__classdict__":Str))=false) zu1._auto_1)
  (ha :autoParam (∀ v, assign (.Subscript (.Name x pos') i tpos) X.env v = (do
   let ov<-holding [v] (eval (.Name x pos') X.env)
   let iv<-holding [v,ov] (eval i X.env)
   standAt tpos
   holding [v,ov,iv] (setItem ov iv v)
   release [v,ov,iv] [])) zu8._auto_1)
  (hs:autoParam (swapsWithSole [.Subscript (.Name x pos') i tpos] e pos.line X.env=pure false) zu3._auto_1) (hw:autoParam (swappedStores [.Subscript (.Name x pos') i tpos] e X.env=pure none) zu3._auto_1)
  (h1:autoParam ((assignEach [.Subscript (.Name x pos') i tpos] X.env).map (·.2)=[assign (.Subscript (.Name x pos') i tpos) X.env]) zu3._auto_1):SS X (.Assign [.Subscript (.Name x pos') i tpos] e pos) (sPut j mi me):=by
 obtain⟨t,p,s⟩:=he;obtain⟨u,q,z⟩:=hi;refine⟨_,ps_asg p (pg_sub (zaX hN hv hd hcd) q set_list ha) hs hw h1,fun B G H σ ρ fl ρ' E I hm k=>?_⟩;obtain⟨⟨d,ρ1⟩,e1,hm⟩:=zaa hm;refine s B G H σ ρ d ρ1 _ I e1 fun G1 H1 v I1 f1 r1=>?_
 split at hm
 ·rename_i hh;obtain⟨w,ew⟩:=I1.has hh;obtain⟨⟨kd,ρ2⟩,e2,hm⟩:=zaa hm;cases kd<;>try cases hm
  rename_i kk;obtain⟨s2,e3,hm⟩:=zaa hm;obtain⟨ds,e4,hm⟩:=zaa hm;obtain⟨n,e5,hm⟩:=zaa hm;cases hm;refine⟨w,ew,z B G1 H1 σ ρ1 (.int kk) ρ2 _ I1 e2 fun G2 H2 y I2 f2 r2=>?_⟩;obtain⟨l,xs,k1,k2,k3,k4⟩:=I2.wr e3 e4;rw[ew]at k1;cases k1;refine⟨l,xs,kk,n,rfl,r2,k3,by rw[k4.length];exact e5,?_⟩;exact k G2 _ σ (I2.write e3 e4 ew (k4.set n (r1.mono f2))) (f1.trans f2)
 ·cases hm
end
structure Itm (K:W.Frag) (J:It) (G:Hp) (items:List D):Prop where
 go:∀H i,Fz G H->i<items.length->J.go i H
 yld:∀H i x H',Fz G H->J.yld i H x H'->∀d,items[i]? =some d->(H'=H/\RepD K G x d)\/∃p xs ds,H p=none/\H'=upd H p (.tup xs)/\x= .ref p/\d= .tup ds/\RepL K G xs ds
 stop:∀H i,Fz G H->items.length<=i->J.stop i H
noncomputable def SIt (X:Cx)(tg it:Expr)(m:MA):Prop:=∃wi,PI X tg it wi/\∀B G H σ ρ ds ρ' (Q:It->Hp->Prop),SI X.K B G H σ ρ->m ρ=some (ds,ρ')->(∀J G' H',SI X.K B G' H' σ ρ'->Fz G G'->Itm X.K J G' ds->Q J H')->wi σ H Q
noncomputable def forM (f:D->R->Option (Fl×R)):List D->R->Option (Fl×R)
 |[],ρ=>some (.next,ρ)
 |d::ds,ρ=>(f d ρ).bind fun p=>match p.1 with
  | .next=>forM f ds p.2
  | .cont=>forM f ds p.2
  | .brk=>some (.next,p.2)
  | .ret r=>some (.ret r,p.2)
noncomputable def sFor (mi:MA)(g:D->R->Option R)(mb:MS):MS:=fun ρ=>(mi ρ).bind fun p=>forM (fun d ρ=>(g d ρ).bind fun ρ'=>mb ρ') p.1 p.2
theorem SI.yld {x:V}(I:SI K B G H σ ρ)
  (h:(H'=H/\RepD K G x d)\/∃p xs ds,H p=none/\H'=upd H p (.tup xs)/\x= .ref p/\d= .tup ds/\RepL K G xs ds):∃G',SI K B G' H' σ ρ/\Fz G G'/\RepD K G' x d:=by
 rcases h with⟨rfl,r⟩|⟨p,xs,ds,hp,rfl,rfl,rfl,r⟩
 ·exact⟨G,I,Fz.refl G,r⟩
 ·obtain⟨I2,f2,r2⟩:=I.newT hp r;exact⟨_,I2,f2,r2⟩
theorem zd3 {tg it:Expr}{mi:MA}{mb:MS}(hp:PassesOwn (model X.prog X.w) X.A X.env X.xe)(hc:X.calm=true)(hi:SIt X tg it mi)(hg:SG X tg g)(hb:SSs X body mb)
    (hs:autoParam (∀x,foldedSetIterable it X.env x=pure x) zu8._auto_1):SS X (.For tg it body [] pos) (sFor mi g mb):=by
  obtain⟨wi,pi,si⟩:=hi;obtain⟨tg',pg,sg⟩:=hg;obtain⟨tb,pb,sb⟩:=hb;refine⟨_,ps_for hp hc pi pg pb hs,fun B G H σ ρ fl ρ' E I hm k=>?_⟩;obtain⟨⟨ds,ρ1⟩,e1,hm⟩:=zaa hm;refine si B G H σ ρ ds ρ1 _ I e1 fun J G1 H1 I1 f1 IT=>?_
  refine⟨fun i m σ H=>m=ds.length-i/\i<=ds.length/\∃G2 ρ2,SI X.K B G2 H σ ρ2/\Fz G1 G2/\forM (fun d ρ=>(g d ρ).bind fun ρ'=>mb ρ') (ds.drop i) ρ2=some (fl,ρ'),⟨ds.length,by simp,qaW _,G1,ρ1,I1,Fz.refl _,by simpa using hm⟩,?_⟩;rintro i m σ2 H2 ⟨rfl,hi,G2,ρ2,I2,f2,e2⟩
  by_cases hlt:i<ds.length
  . rw[qbP hlt]at e2
    simp only[forM]at e2;obtain⟨⟨f,ρ3⟩,e3,e4⟩:=zaa e2;obtain⟨ρ2',e5,e6⟩:=zaa e3;have fz2:Fz G1 H2:=f2.trans I2.fz;refine .inr ⟨IT.go H2 i fz2 hlt,fun σ' H'=>(∃G3,SI X.K B G3 H' σ' ρ3/\Fz G1 G3)/\(f= .next\/f= .cont),?_,fun x H' y=>?_⟩
    . rintro σ' H' ⟨⟨G3,I3,f3⟩,hf⟩
      refine⟨ds.length-(i+1),by lia,rfl,hlt,G3,ρ3,I3,f3,?_⟩;rcases hf with rfl|rfl<;>exact e4
    . have yy:=IT.yld H2 i x H' fz2 y ds[i] (qbN hlt)
      have yy2:(H'=H2/\RepD X.K G2 x ds[i])\/∃p xs es,H2 p=none/\H'=upd H2 p (.tup xs)/\x= .ref p/\ds[i]= .tup es/\RepL X.K G2 xs es:=by
        rcases yy with⟨a,b⟩|⟨p,xs,es,a,b,c,d,e⟩
        . exact .inl ⟨a,b.mono f2⟩
        . exact .inr ⟨p,xs,es,a,b,c,d,e.mono f2⟩
      obtain⟨G3,I3,f3,r3⟩:=I2.yld yy2;refine sg B G3 H' σ2 ρ2 x ds[i] ρ2' _ I3 r3 e5 fun G4 H4 σ4 I4 f4=>sb B G4 H4 σ4 ρ2' f ρ3 _ I4 e6 ?_
      have ff:Fz G1 G4:=f2.trans (f3.trans f4);cases f with
      |next=>exact fun G5 H5 σ5 I5 f5=>⟨⟨G5,I5,ff.trans f5⟩,.inl rfl⟩
      |cont=>exact fun G5 H5 σ5 I5 f5=>⟨⟨G5,I5,ff.trans f5⟩,.inr rfl⟩
      |brk=>cases e4;exact fun G5 H5 σ5 I5 f5=>k G5 H5 σ5 I5 (f1.trans (ff.trans f5))
      |ret r=>cases e4;exact fun G5 H5 σ5 v I5 f5=>k G5 H5 σ5 v I5 (f1.trans (ff.trans f5))
  . have e:i=ds.length:=by lia
    subst e;rw[List.drop_length]at e2;cases e2;exact .inl ⟨IT.stop H2 _ (f2.trans I2.fz) (qaH _),k G2 H2 σ2 I2 (f1.trans f2)⟩
section
variable {X:Cx} {tg it:Expr} {me:ME}
noncomputable def iSeq (m:ME):MA:=fun ρ=>(m ρ).bind fun p=>(zcu [p.1]).map fun ds=>(ds,p.2)
theorem pi_or {l:Expr}{tl:TE}(hl:PE X l tl):PI X tg l (fun σ H R=>tl σ H fun x H1=>∃a,x= .ref a/\(((∃xs,SqL X.K H1 a xs)/\R (Itl X.K a) H1)\/((∃xs,SqT X.K H1 a xs)/\R (Itt X.K a) H1))):=by
 intro pins s σ H R I h;refine thn (hl pins s σ H _ I h) fun v s1 ⟨x,H1,I1,r1,q1⟩=>?_
 obtain⟨a,e,q⟩:=q1;subst e;cases r1;rcases q with⟨⟨xs,hq⟩,q⟩|⟨⟨xs,hq⟩,q⟩
 ·obtain⟨its,rv,p,hz⟩:=I1.list hq;refine qbQ p.isList ?_;refine⟨s1.heap.objs.size,[s1.heap.objs.size],_,_,H1,rfl,I1.kept (t':=s1.toks) fun b o e=>qaF _ e,znQ a _,⟨_,qaG _ rfl,rfl,rfl⟩,fun b hb=>?_,q⟩;have e:b=s1.heap.objs.size:=by simpa using hb
  subst e;exact I1.fpOk (qaH _) (I1.hok.fresh (qaH _))
 ·obtain⟨its,rv,p,hz⟩:=I1.tuple hq;refine qbR (show s1.heap.IsTuple a its.toArray from p) ?_;refine⟨s1.heap.objs.size,[s1.heap.objs.size],_,_,H1,rfl,I1.kept (t':=s1.toks) fun b o e=>qaF _ e,zmJ a _,⟨_,qaG _ rfl,rfl,rfl⟩,fun b hb=>?_,q⟩;have e:b=s1.heap.objs.size:=by simpa using hb
  subst e;exact I1.fpOk (qaH _) (I1.hok.fresh (qaH _))
theorem zlj {a:Addr}(hg:SqL K G a xs)(r:RepL K G xs ds):Itm K (Itl K a) G ds where
 go:=fun H i f hi=>by
  have hl:=r.length;exact⟨xs,xs[i],f.sql hg,qbN (by lia)⟩
 yld:=fun H i x H' f y d e=>by
  obtain⟨rfl,y⟩:=y;have hx:=y xs (f.sql hg);obtain⟨x',h1,h2⟩:=r.get e;rw[hx]at h1;cases h1;exact .inl ⟨rfl,h2⟩
 stop:=fun H i f hi=>⟨xs,f.sql hg,by rw[r.length];exact hi⟩
theorem itm_tup {a:Addr}(hg:G a=some (.tup xs))(r:RepL K G xs ds):Itm K (Itt K a) G ds where
 go:=fun H i f hi=>by
  have hl:=r.length;exact⟨xs,xs[i],SqT.of (f _ _ hg),qbN (by lia)⟩
 yld:=fun H i x H' f y d e=>by
  obtain⟨rfl,y⟩:=y;have hx:=y xs (SqT.of (f _ _ hg));obtain⟨x',h1,h2⟩:=r.get e;rw[hx]at h1;cases h1;exact .inl ⟨rfl,h2⟩
 stop:=fun H i f hi=>⟨xs,SqT.of (f _ _ hg),by rw[r.length];exact hi⟩
theorem zfT (h:SE X it me):SIt X tg it (iSeq me):=by
 obtain⟨t,p,s⟩:=h;refine⟨_,pi_or p,fun B G H σ ρ ds ρ' Q I hm k=>?_⟩;obtain⟨⟨d,ρ1⟩,e1,hm⟩:=zaa hm;obtain⟨es,e2,e3⟩:=zaf hm;cases e3;refine s B G H σ ρ d ρ1 _ I e1 fun G1 H1 v I1 f1 r1=>?_
 cases d<;>simp only[zcu]at e2<;>try cases e2
 ·obtain⟨a,xs,rfl,ha,r⟩:=r1;exact⟨a,rfl,.inl ⟨⟨xs,SqL.of (I1.fz _ _ ha)⟩,k _ G1 H1 I1 f1 (zlj (SqL.of ha) r)⟩⟩
 ·obtain⟨a,xs,rfl,ha,r⟩:=r1;exact⟨a,rfl,.inr ⟨⟨xs,SqT.of (I1.fz _ _ ha)⟩,k _ G1 H1 I1 f1 (itm_tup ha r)⟩⟩
 ·obtain⟨a,rfl,ha⟩:=r1;exact⟨a,rfl,.inl ⟨⟨_,I1.fz.sql ha⟩,k _ G1 H1 I1 f1 (zlj ha (RepL.ints _))⟩⟩
end
noncomputable def zcj (lo:Int)(n:Nat):List D:=(List.range n).map fun(i:Nat)=>D.int (lo+(i:Int))
theorem zj9 (lo:Int)(n:Nat):Itm K (Itr lo n) G (zcj lo n) where
 go:=fun H i f hi=>by show i<n;simpa[zcj]using hi
 yld:=fun H i x H' f y d e=>by
  obtain⟨rfl,rfl⟩:=y;unfold zcj at e;rw[qba]at e;cases q:(List.range n)[i]? with
  |none=>rw[q]at e;cases e
  |some j=>
   rw[q]at e;have hj:j=i:=by
    have:=qat.mp q;obtain⟨h1,h2⟩:=this;simpa using h2.symm
   subst hj;cases e;exact .inl ⟨rfl,rfl⟩
 stop:=fun H i f hi=>by show n<=i;simpa[zcj]using hi
noncomputable def zed (j:Int):Bool:=decide (-1000000000000<=j)&&decide (j<=1000000000000)
theorem zb3 {j:Int}(h:zed j=true): -(2^62)<=j/\j<2^62:=by
 unfold zed at h;simp only[qbo,qbK]at h;lia
noncomputable def iR1 (ma:MA):MA:=fun ρ=>(ma ρ).bind fun p=>match p.1 with
 |[.int j]=>if zed j then some (zcj 0 j.toNat,p.2)else none
 |_=>none
noncomputable def iR2 (ma:MA):MA:=fun ρ=>(ma ρ).bind fun p=>match p.1 with
 |[.int i,.int j]=>if zed i&&zed j then some (zcj i (j-i).toNat,p.2)else none
 |_=>none
section
variable {X:Cx} {tg a b:Expr} {ma:MA} {p pos:Pos}
theorem zb2 (hm:X.mg "range"=none)(ha:SA X [a] ma)(hg:autoParam (Gl X "range") zu3._auto_1)(hs:autoParam (starEach [a] X.env=[(false,eval a X.env)]) zu3._auto_1):SIt X tg (.Call (.Name "range" p) [a] [] pos) (iR1 ma):=by
 obtain⟨t,pa,sa⟩:=ha;refine⟨_,zoX hg hm pa hs,fun B G H σ ρ ds ρ' Q I hm k=>?_⟩;obtain⟨⟨es,ρ1⟩,e1,h2⟩:=zaa hm;dsimp only at h2;refine sa B G H σ ρ es ρ1 _ I e1 fun G1 H1 vs I1 f1 r1=>?_
 split at h2
 ·rename_i j
  split at h2
  ·rename_i hj;cases h2;obtain⟨x,rfl,rx⟩:=r1.one;cases(show x=V.int j from rx);exact⟨j,rfl,(zb3 hj).1,(zb3 hj).2,k _ G1 H1 I1 f1 (zj9 0 _)⟩
  ·cases h2
 ·cases h2
theorem zo7 (hm:X.mg "range"=none)(ha:SA X [a,b] ma)(hg:autoParam (Gl X "range") zu3._auto_1)(hs:autoParam (starEach [a,b] X.env=[(false,eval a X.env),(false,eval b X.env)]) zu3._auto_1)(hs2:autoParam (starEach [b] X.env=[(false,eval b X.env)]) zu3._auto_1):SIt X tg (.Call (.Name "range" p) [a,b] [] pos) (iR2 ma):=by
 obtain⟨t,pa,sa⟩:=ha;refine⟨_,zoq hg hm pa hs hs2,fun B G H σ ρ ds ρ' Q I hm k=>?_⟩;obtain⟨⟨es,ρ1⟩,e1,h2⟩:=zaa hm;dsimp only at h2;refine sa B G H σ ρ es ρ1 _ I e1 fun G1 H1 vs I1 f1 r1=>?_
 split at h2
 ·rename_i i j
  split at h2
  ·rename_i hj;simp only[qbo]at hj;cases h2;obtain⟨x,y,rfl,rx,ry⟩:=r1.two;cases(show x=V.int i from rx);cases(show y=V.int j from ry);exact⟨i,j,rfl,⟨(zb3 hj.1).1,(zb3 hj.1).2,(zb3 hj.2).1,(zb3 hj.2).2⟩,k _ G1 H1 I1 f1 (zj9 i _)⟩
  ·cases h2
 ·cases h2
end
noncomputable def ResF (K:W.Frag)(G' H' H:Hp)(v:V):Sl->Prop
 | .val d=>RepD K G' v d
 | .own ds=>∃l xs,v= .ref l/\G' l=none/\H' l=some (.lst xs)/\RepL K G' xs ds/\H l=none
 | .tre t=>∃A,RepT K G' H' v t A/\A.Nodup/\∀a∈A,G' a=none/\H a=none
 | .two ds es=>∃t l xs m ys,v= .ref t/\H' t=some (.tup [.ref l,.ref m])/\l≠m/\G' l=none/\H' l=some (.lst xs)/\RepL K G' xs ds/\H l=none/\G' m=none/\H' m=some (.lst ys)/\RepL K G' ys es/\H m=none
 |_=>False
noncomputable def spP (K:W.Frag)(n:Nat)(F:List D->Option Sl):Sp:=fun vs H Q _=>∃G ds r,F ds=some r/\ds.length=n/\Fz G H/\RepL K G vs ds/\
 ∀G' H' v,Fz G G'->Fz G' H'->(∀b o,G' b=some o->G b≠none\/H b=none)->Fz H H'->ResF K G' H' H v r->Q v H'
noncomputable def spM (K:W.Frag)(n:Nat)(F:List D->List D->Option (Sl×List D)):Sp:=fun vs H Q _=>∃G l xs cs ws ds r out,vs= .ref l::ws/\F cs ds=some (r,out)/\ds.length+1=n/\Fz G H/\G l=none/\H l=some (.lst xs)/\RepL K G xs cs/\RepL K G ws ds/\
 ∀G' H' v ys,Fz G G'->Fz G' H'->(∀b o,G' b=some o->G b≠none\/H b=none)->(∀b o,b≠l->H b=some o->H' b=some o)->G' l=none->H' l=some (.lst ys)->RepL K G' ys out->ResF K G' H' H v r->Q v H'
noncomputable def fP (N:Nat)(m:MS):List D->Option Sl:=fun ds=>(m (ds.map .val++List.replicate (N-ds.length) .emp)).bind fun p=>match p.1 with
 | .ret r=>some r
 | .next=>some (.val .non)
 |_=>none
noncomputable def fM (N:Nat)(m:MS):List D->List D->Option (Sl×List D):=fun cs ds=>(m (.par cs::(ds.map .val++List.replicate (N-(ds.length+1)) .emp))).bind fun p=>match p.1,(p.2[0]?:Option Sl)with
 |Fl.ret r,some (Sl.par out)=>some (r,out)
 |Fl.next,some (Sl.par out)=>some (.val .non,out)
 |_,_=>none
theorem zhw (h:vs.length<=N.length):(L2.start N vs).length=N.length:=by
 unfold L2.start;rw[qbc,qaT,qbd];lia
theorem SI.start (fz:Fz G H)(r:RepL K G vs ds)(h:ds.length<=N.length):
  SI K ⟨G,H,[]⟩ G H (L2.start N vs) (ds.map .val++List.replicate (N.length-ds.length) .emp) where
 fz:=fz
 g0:=Fz.refl G
 new:=fun b o e=> .inl (by show G b≠none;rw[e];simp)
 keep:=fun b o e _=>e
 there:=fun b e=>e
 ob:=fun i b m=>by cases m
 len:=by rw[zhw (by rw[r.length];exact h),qbc,qaT,qbd];lia
 slot:=fun i s e=>by
  by_cases hi:i<ds.length
  ·rw[qa9 (by simpa using hi),qba,qbN hi]at e;cases e;obtain⟨x,h1,h2⟩:=r.get (qbN hi);refine⟨x,?_,h2⟩;unfold L2.start;rw[qa9 (by rw[qaT,r.length];exact hi),qba,h1]
   rfl
  ·rw[qa7 (by simpa using hi),qa8]at e
   split at e
   ·cases e;trivial
   ·cases e
 dis:=fun i j s _ a _ e _ w=>by
  exfalso
  by_cases hi:i<ds.length
  ·rw[qa9 (by simpa using hi),qba,qbN hi]at e;cases e;exact w
  ·rw[qa7 (by simpa using hi),qa8]at e
   split at e
   ·cases e;exact w
   ·cases e
theorem SI.startM (fz:Fz G H)(hg:G l=none)(hl:H l=some (.lst xs))(rc:RepL K G xs cs)(r:RepL K G vs ds)(h:ds.length+1<=N.length):
  SI K ⟨G,H,[(0,l)]⟩ G H (L2.start N (.ref l::vs)) (.par cs::(ds.map .val++List.replicate (N.length-(ds.length+1)) .emp)) where
 fz:=fz
 g0:=Fz.refl G
 new:=fun b o e=> .inl (by show G b≠none;rw[e];simp)
 keep:=fun b o e _=>e
 there:=fun b e=>e
 ob:=fun i b m=>by
  have:b=l:=((by simpa using m):i=0/\b=l).2;subst this;show H b≠none;rw[hl];simp
 len:=by
  have:=r.length;rw[zhw (by rw[qaQ,r.length];exact h),qaQ,qbc,qaT,qbd];lia
 slot:=fun i s e=>by
  cases i with
  |zero=>simp at e;subst e;exact⟨l,xs,rfl,hg,hl,rc,by simp⟩
  |succ i=>
   rw[qbS]at e
   by_cases hi:i<ds.length
   ·rw[qa9 (by simpa using hi),qba,qbN hi]at e;cases e;obtain⟨x,h1,h2⟩:=r.get (qbN hi);refine⟨x,?_,h2⟩;unfold L2.start;rw[qaS,List.cons_append,qbS,qa9 (by rw[qaT,r.length];exact hi),qba,h1]
    rfl
   ·rw[qa7 (by simpa using hi),qa8]at e
    split at e
    ·cases e;trivial
    ·cases e
 dis:=fun i j s t a hij hi hj w1 w2=>by
  have z:∀(i:Nat) (s:Sl),(Sl.par cs::(ds.map .val++List.replicate (N.length-(ds.length+1)) .emp))[i]? =some s->OwS K G H (L2.start N (.ref l::vs))[i]? a s->i=0:=fun i s e q=>by
   cases i with
   |zero=>rfl
   |succ i=>
    exfalso;rw[qbS]at e
    by_cases hi:i<ds.length
    ·rw[qa9 (by simpa using hi),qba,qbN hi]at e;cases e;exact q
    ·rw[qa7 (by simpa using hi),qa8]at e
     split at e
     ·cases e;exact q
     ·cases e
  exact hij ((z i s hi w1).trans (z j t hj w2).symm)
section
variable {P:Program} {w:World} {K:W.Frag} {mg:Str->Option Value} {base:Heap}
theorem fnP_ok {st:Stmt}{f:Addr}{k n:Nat}(F:Fun K x qual st f fd)(S:FnScope N ps (zan st))(hn:ps.length=n)(hN:n<=N.length)
  (body:∀(cdv:Value) (A:Around) (outer:List Env) (s:Shared) (H:Hp) (E:XK),Room k (A.deeper (envOfC qual (zan st) s.heap.objs.size f cdv))->SSs (cxOf CX0 P w K mg base N qual (zan st) f cdv A outer s H E).nox (zaO st) m):
  FnOk P w K mg base CX0 (k+1) f fd ps (spP K n (fP N.length m)):=by
 refine F.ok S (fun vs H Q E h=>?_) (fun cdv A outer s H vs Q E hr h=>?_)
 ·obtain⟨G,ds,r,_,h2,_,h4,_⟩:=h;rw[h4.length,h2,hn]
 ·obtain⟨G,ds,r,e1,h2,fz,h4,kk⟩:=h;obtain⟨t,pt,so⟩:=body cdv A outer s H E hr;refine⟨t,pt,?_⟩;obtain⟨⟨fl,ρ'⟩,e2,e3⟩:=zaa e1;refine so ⟨G,H,[]⟩ G H (L2.start N vs) _ fl ρ' _ (SI.start fz h4 (by lia)) e2 ?_;have fin:∀G' H' σ' v,SI K ⟨G,H,[]⟩ G' H' σ' ρ'->Fz G G'->ResF K G' H' H v r->Q v H':=fun G' H' σ' v I f rr=>kk G' H' v f I.fz I.new (fun b o e=>I.keep b o e (by simp)) rr
  cases fl with
  |next=>cases e3;exact fun G' H' σ' I f=>fin G' H' σ' .non I f rfl
  |brk=>cases e3
  |cont=>cases e3
  |ret r'=>
   cases e3;refine fun G' H' σ' v I f rr=>fin G' H' σ' v I f ?_
   cases r with
   |val d=>exact rr
   |own ds=>exact rr
   |emp=>exact rr
   |two _ _=>exact rr
   |tre _=>exact rr
   |ptr _=>exact rr
   |par ds=>exact rr
theorem fnM_ok {st:Stmt}{f:Addr}{k n:Nat}(F:Fun K x qual st f fd)(S:FnScope N ps (zan st))(hn:ps.length=n)(hN:n<=N.length)
  (body:∀(cdv:Value) (A:Around) (outer:List Env) (s:Shared) (H:Hp) (E:XK),Room k (A.deeper (envOfC qual (zan st) s.heap.objs.size f cdv))->SSs (cxOf CX0 P w K mg base N qual (zan st) f cdv A outer s H E).nox (zaO st) m):
  FnOk P w K mg base CX0 (k+1) f fd ps (spM K n (fM N.length m)):=by
 refine F.ok S (fun vs H Q E h=>?_) (fun cdv A outer s H vs Q E hr h=>?_)
 ·obtain⟨G,l,xs,cs,ws,ds,r,out,rfl,_,h2,_,_,_,_,h4,_⟩:=h;rw[qaQ,h4.length,h2,hn]
 ·obtain⟨G,l,xs,cs,ws,ds,r,out,rfl,e1,h2,fz,hg,hl,rc,h4,kk⟩:=h;obtain⟨t,pt,so⟩:=body cdv A outer s H E hr;refine⟨t,pt,?_⟩;obtain⟨⟨fl,ρ'⟩,e2,e3⟩:=zaa e1;refine so ⟨G,H,[(0,l)]⟩ G H _ _ fl ρ' _ (SI.startM fz hg hl rc h4 (by lia)) e2 ?_;have fin:∀G' H' σ' v,ρ'[0]? =some (.par out)->SI K ⟨G,H,[(0,l)]⟩ G' H' σ' ρ'->Fz G G'->ResF K G' H' H v r->Q v H':=fun G' H' σ' v e0 I f rr=>by
   obtain⟨l',ys,k1,k2,k3,k4,k5⟩:=I.slot 0 _ e0;have:l'=l:=by simpa using k5
   subst this;exact kk G' H' v ys f I.fz I.new (fun b o hb e=>I.keep b o e (fun i hm=>by simp at hm;exact hb hm.2)) k2 k3 k4 rr
  cases e0:ρ'[0]? with
  |none=>rw[e0]at e3;cases fl<;>cases e3
  |some s0=>
   rw[e0]at e3;cases s0 with
   |emp=>cases fl<;>cases e3
   |two _ _=>cases fl<;>cases e3
   |tre _=>cases fl<;>cases e3
   |ptr _=>cases fl<;>cases e3
   |val d=>cases fl<;>cases e3
   |own d=>cases fl<;>cases e3
   |par o2=>
    cases fl with
    |next=>cases e3;exact fun G' H' σ' I f=>fin G' H' σ' .non e0 I f rfl
    |brk=>cases e3
    |cont=>cases e3
    |ret r'=>
     cases e3;refine fun G' H' σ' v I f rr=>fin G' H' σ' v e0 I f ?_
     cases r with
     |val d=>exact rr
     |own ds=>exact rr
     |emp=>exact rr
     |two _ _=>exact rr
     |tre _=>exact rr
     |ptr _=>exact rr
     |par ds=>exact rr
end
structure FD (P:Program) (w:World) (K:W.Frag) (mg:Str->Option Value) (base:Heap) (k:Nat) (x:Str) (sp:Sp):Prop where
 ex:∃f fd ps,FnOk P w K mg base CX0 k f fd ps sp/\mg x=some (.ref f)/\W.keepIn K (.ref f)=true/\Binds K fd ps []
theorem zos (nw:∀b o,G' b=some o->G b≠none\/H b=none)(kp:Fz H H'):∀(i:Nat) (s:Sl) (a:Addr),ρ[i]? =some s->OwS K G H σ[i]? a s->G a=none->H a≠none->G' a=none/\H' a=H a:=fun i s a _ _ g h=>by
 obtain⟨u,hu⟩:=qbG.mp h;refine⟨?_,(kp a u hu).trans hu.symm⟩;cases q:G' a with
 |none=>rfl
 |some u=>
  rcases nw a u q with z|z
  ·exact absurd g z
  ·exact absurd z h
theorem SI.grow (I:SI K B G H σ ρ)(f:Fz G G')(fz:Fz G' H')(nw:∀b o,G' b=some o->G b≠none\/H b=none)(kp:Fz H H'):SI K B G' H' σ ρ:=
 I.move fz f (fun b o e=>by
  rcases nw b o e with h|h
  ·cases q:G b with
   |none=>exact absurd q h
   |some u=>exact I.new b u q
  ·exact .inr (I.there b h)) (fun b o e n=>kp b o (I.keep b o e n)) (fun b e=>I.there b (kp.free e)) (zos nw kp)
theorem SI.own_ne (I:SI K B G H σ ρ)(hp:H p=none)(nw:∀b o,G' b=some o->G b≠none\/H b=none)(kp:Fz H H'):Nw K G' H' σ ρ p:=I.nw_move (I.nw hp) (zos nw kp)
noncomputable def zdY (F:List D->Option Sl)(ma:MA):ME:=fun ρ=>(ma ρ).bind fun p=>(F p.1).bind fun r=>match r with
 | .val d=>some (d,p.2)
 | .own ds=>some (.lst ds,p.2)
 |_=>none
noncomputable def oCall (F:List D->Option Sl)(ma:MA):MO:=fun ρ=>(ma ρ).bind fun p=>(F p.1).bind fun r=>match r with
 | .own ds=>some (ds,p.2)
 |_=>none
section
variable {X:Cx} {x:Str} {p pos:Pos} {e:Expr} {es:List Expr} {ma:MA} {k k' n:Nat} {F:List D->Option Sl}
theorem zbn (fd:FD X.prog X.w X.K X.mg X.base k x (spP X.K n F))(hr:Room k' X.A)(ha:SA X (e::es) ma)(hn:autoParam ((e::es).length=n) zu3._auto_1)(hk:autoParam (k<=k') zu1._auto_1)(hg:autoParam (Gl X x) zu3._auto_1)(hdb:autoParam ((x==("__debug__":Str))=false) zu1._auto_1)
  (he:autoParam (starEach (e::es) X.env=(false,eval e X.env)::starEach es X.env) zu3._auto_1) (hpl:autoParam ((backTo pos (starEach es X.env)).any (·.1)=false) zu3._auto_1) (hlen:∀ρ as ρ',ma ρ=some (as,ρ')->as.length=n):SE X (.Call (.Name x p) (e::es) [] pos) (zdY F ma):=by
 obtain⟨f,fdd,ps,G0,h1,h2,h3⟩:=fd.ex;obtain⟨t,pa,sa⟩:=ha;refine⟨_,zg0 G0 (hr.mono hk) hg h1 h2 h3 .nil zjO pa hdb he hpl,fun B G H σ ρ d ρ' Q I hm kk=>?_⟩;obtain⟨⟨as,ρ1⟩,e1,hm⟩:=zaa hm;obtain⟨r,e2,hm⟩:=zaa hm;refine sa B G H σ ρ as ρ1 _ I e1 fun G1 H1 vs I1 f1 r1=>?_
 show spP X.K n F (vs++[]) H1 Q E0;rw[qaY];refine⟨G1,as,r,e2,hlen ρ as ρ1 e1,I1.fz,r1,fun G2 H2 v f2 fz2 nw kp rr=>?_⟩;have I2:=I1.grow f2 fz2 nw kp;cases r with
 |val d'=>cases hm;exact kk G2 H2 v I2 (f1.trans f2) rr
 |own ds=>
  cases hm;obtain⟨l,xs,rfl,g3,h3,r3,b3⟩:=rr;obtain⟨I3,f3,r4⟩:=zkg I2 g3 h3 r3 (I1.there l b3) (I1.own_ne b3 nw kp);exact kk _ H2 _ I3 (f1.trans (f2.trans f3)) r4
 |emp=>cases hm
 |two _ _=>cases hm
 |tre _=>cases hm
 |ptr _=>cases hm
 |par _=>cases hm
theorem so_call (fd:FD X.prog X.w X.K X.mg X.base k x (spP X.K n F))(hr:Room k' X.A)(ha:SA X (e::es) ma)(hn:autoParam ((e::es).length=n) zu3._auto_1)(hk:autoParam (k<=k') zu1._auto_1)(hg:autoParam (Gl X x) zu3._auto_1)(hdb:autoParam ((x==("__debug__":Str))=false) zu1._auto_1)
  (he:autoParam (starEach (e::es) X.env=(false,eval e X.env)::starEach es X.env) zu3._auto_1) (hpl:autoParam ((backTo pos (starEach es X.env)).any (·.1)=false) zu3._auto_1) (hlen:∀ρ as ρ',ma ρ=some (as,ρ')->as.length=n):SO X (.Call (.Name x p) (e::es) [] pos) (oCall F ma):=by
 obtain⟨f,fdd,ps,G0,h1,h2,h3⟩:=fd.ex;obtain⟨t,pa,sa⟩:=ha;refine⟨_,zg0 G0 (hr.mono hk) hg h1 h2 h3 .nil zjO pa hdb he hpl,fun B G H σ ρ d ρ' Q I hm kk=>?_⟩;obtain⟨⟨as,ρ1⟩,e1,hm⟩:=zaa hm;obtain⟨r,e2,hm⟩:=zaa hm;refine sa B G H σ ρ as ρ1 _ I e1 fun G1 H1 vs I1 f1 r1=>?_
 show spP X.K n F (vs++[]) H1 Q E0;rw[qaY];refine⟨G1,as,r,e2,hlen ρ as ρ1 e1,I1.fz,r1,fun G2 H2 v f2 fz2 nw kp rr=>?_⟩;have I2:=I1.grow f2 fz2 nw kp;cases r with
 |val d'=>cases hm
 |own ds=>
  cases hm;obtain⟨l,xs,rfl,g3,h3,r3,b3⟩:=rr;exact kk G2 H2 l xs I2 (f1.trans f2) g3 h3 r3 (I1.there l b3) (I1.own_ne b3 nw kp)
 |emp=>cases hm
 |two _ _=>cases hm
 |tre _=>cases hm
 |ptr _=>cases hm
 |par _=>cases hm
end
noncomputable def aLen (ma:MA)(n:Nat):Prop:=∀ρ as ρ',ma ρ=some (as,ρ')->as.length=n
theorem zat:aLen aNil 0:=fun ρ as ρ' h=>by cases h;rfl
theorem zai {m:ME}{r:MA}(h:aLen r n):aLen (zag m r) (n+1):=fun ρ as ρ' e=>by
 obtain⟨⟨d,ρ1⟩,_,h2⟩:=zaa e;obtain⟨⟨ds,ρ2⟩,e3,e4⟩:=zaf h2;cases e4;rw[qaQ,h ρ1 ds ρ2 e3]
noncomputable def zcF (F:List D->List D->Option (Sl×List D))(j:Nat)(ma:MA):ME:=fun ρ=>if(ρ[j]?.bind Sl.items).isSome then(ma ρ).bind fun p=>p.2[j]?.bind fun s=>s.items.bind fun cs=>(F cs p.1).bind fun r=>match r.1 with
 | .val d=>some (d,p.2.set j (s.put r.2))
 | .own ds=>some (.lst ds,p.2.set j (s.put r.2))
 |_=>none else none
theorem SI.growW (I:SI K B G H σ ρ)(e:ρ[j]? =some s)(q:s.items=some cs)(hl:σ[j]? =some (some (.ref l)))
  (f:Fz G G') (fz:Fz G' H') (nw:∀b o,G' b=some o->G b≠none\/H b=none) (kp:∀b o,b≠l->H b=some o->H' b=some o) (gl:G' l=none) (hl':H' l=some (.lst ys)) (r:RepL K G' ys out):SI K B G' H' σ (ρ.set j (s.put out)):=
 I.chgW e q hl fz f nw kp gl hl' r
theorem SI.own_neW (I:SI K B G H σ ρ)(e:ρ[j]? =some s)(q:s.items=some cs)(hl:σ[j]? =some (some (.ref l)))(hp:H p=none)
  (nw:∀b o,G' b=some o->G b≠none\/H b=none) (kp:∀b o,b≠l->H b=some o->H' b=some o):Nw K G' H' σ (ρ.set j (s.put out)) p:=fun i t et w=>by
 obtain⟨l',xs,e1,e2,e3,e4⟩:=I.wr e q;rw[hl]at e1;cases e1;have hpl:p≠l:=fun z=>by rw[z,e3]at hp;cases hp
 by_cases z:i=j
 ·subst z;rw[qbF,if_pos rfl]at et
  split at et
  ·cases et;have:=(zdu (zj4 q out)).mp w;rw[hl]at this;exact hpl (V.ref.inj (Option.some.inj (Option.some.inj this))).symm
  ·cases et
 ·rw[qav (Ne.symm z)]at et;have sl:=I.slot i t et;refine(sl.own (sl.back (fun a w g h=>?_) w)).2.1 hp;have na:a≠l:=fun w'=>by subst w';exact I.dis i j t s a z et e w ((zdu q).mpr hl)
  obtain⟨u,hu⟩:=qbG.mp h;refine⟨?_,(kp a u na hu).trans hu.symm⟩;cases q2:G' a with
  |none=>rfl
  |some u=>
   rcases nw a u q2 with z|z
   ·exact absurd g z
   ·exact absurd z h
section
variable {X:Cx} {x y:Str} {p py pos:Pos} {es:List Expr} {ma:MA} {k k' n:Nat} {F:List D->List D->Option (Sl×List D)}
theorem soundM {t:TA}{Q:VK}(sa:∀B G H σ ρ ds ρ' (Q:List V->Hp->Prop),SI X.K B G H σ ρ->ma ρ=some (ds,ρ')->(∀G' H' vs,SI X.K B G' H' σ ρ'->Fz G G'->RepL X.K G' vs ds->Q vs H')->t σ H Q)
  (hlen:∀ρ as ρ',ma ρ=some (as,ρ')->as.length+1=n) (I:SI X.K B G H σ ρ) {ds0:List D} (h0:ρ[j]?.bind Sl.items=some ds0) {as:List D} {ρ1:R} (e1:ma ρ=some (as,ρ1)) {s:Sl} (e2:ρ1[j]? =some s) {cs:List D} (e3:s.items=some cs)
  {r:Sl} {out:List D} (e4:F cs as=some (r,out))
  (kk:∀G' H' v,SI X.K B G' H' σ (ρ1.set j (s.put out))->Fz G G'->True->(∃H1,ResF X.K G' H' H1 v r/\(∀b,H1 b=none->B.H b=none)/\∀b,H1 b=none->Nw X.K G' H' σ (ρ1.set j (s.put out)) b)->Q v H'):
  tCall (spM X.K n F) [] E0 (tCons (tVar j) t) σ H Q:=by
 obtain⟨s0,k0,q0⟩:=zaa h0;obtain⟨l,xs0,h1,h2,h3,h4⟩:=I.wr k0 q0;refine⟨.ref l,h1,sa B G H σ ρ as ρ1 _ I e1 fun G1 H1 vs I1 f1 r1=>?_⟩;show spM X.K n F ((.ref l::vs)++[]) H1 Q E0;rw[qaY];obtain⟨l',xs,m1,m2,m3,m4⟩:=I1.wr e2 e3;rw[h1]at m1;cases m1;refine⟨G1,l,xs,cs,vs,as,r,out,rfl,e4,hlen ρ as ρ1 e1,I1.fz,m2,m3,m4,r1,fun G2 H2 v ys f2 fz2 nw kp gl hl r2 rr=>?_⟩;exact kk G2 H2 v (I1.growW e2 e3 h1 f2 fz2 nw kp gl hl r2) (f1.trans f2) trivial ⟨H1,rr,fun b hb=>I1.there b hb,fun b hb=>I1.own_neW e2 e3 h1 hb nw kp⟩
theorem zbM (j:Nat)(fd:FD X.prog X.w X.K X.mg X.base k x (spM X.K n F))(hr:Room k' X.A)(ha:SA X es ma)(hlen:∀ρ as ρ',ma ρ=some (as,ρ')->as.length+1=n)(hN:autoParam (X.N[j]? =some y) zu3._auto_1)(hv:autoParam (Vis X.env.scope y) zu6._auto_1)(hd:autoParam ((y==("__debug__":Str))=false) zu1._auto_1)
  (hcd:autoParam ((y==("__classdict__":Str))=false) zu1._auto_1) (hk:autoParam (k<=k') zu1._auto_1) (hg:autoParam (Gl X x) zu3._auto_1) (hdb:autoParam ((x==("__debug__":Str))=false) zu1._auto_1)
  (he:autoParam (starEach (.Name y py::es) X.env=(false,eval (.Name y py) X.env)::starEach es X.env) zu3._auto_1) (hpl:autoParam ((backTo pos (starEach es X.env)).any (·.1)=false) zu3._auto_1):SE X (.Call (.Name x p) (.Name y py::es) [] pos) (zcF F j ma):=by
 obtain⟨f,fdd,ps,G0,h1,h2,h3⟩:=fd.ex;obtain⟨t,pa,sa⟩:=ha;refine⟨_,zg0 G0 (hr.mono hk) hg h1 h2 h3 .nil zjO (zaG (zaX hN hv hd hcd) pa he) hdb he hpl,fun B G H σ ρ d ρ' Q I hm kk=>?_⟩;unfold zcF at hm
 split at hm
 ·rename_i hso;obtain⟨ds0,hso⟩:=qa4.mp hso;obtain⟨⟨as,ρ1⟩,e1,hm⟩:=zaa hm;obtain⟨s,e2,hm⟩:=zaa hm;obtain⟨cs,e3,hm⟩:=zaa hm;obtain⟨⟨r,out⟩,e4,hm⟩:=zaa hm;refine soundM sa hlen I hso e1 e2 e3 e4 fun G' H' v I' f' _ ⟨H1,rr,bb,nn⟩=>?_
  cases r with
  |val d'=>cases hm;exact kk G' H' v I' f' rr
  |own ds=>
   cases hm;obtain⟨l,xs,rfl,g3,h3,r3,b3⟩:=rr;obtain⟨I3,f3,r4⟩:=zkg I' g3 h3 r3 (bb l b3) (nn l b3);exact kk _ H' _ I3 (f'.trans f3) r4
  |emp=>cases hm
  |two _ _=>cases hm
  |tre _=>cases hm
  |ptr _=>cases hm
  |par _=>cases hm
 ·cases hm
end
noncomputable def zeC (env:Env)(cs:List (Str×Addr))(x:Str×NameKind):List (Str×Addr):=if x.2== .free then(x.1,(env.cells.lookup x.1).getD 0)::cs else cs
noncomputable def clOf (scope:Scope)(env:Env):List (Str×Addr):=scope.names.foldl (zeC env) []
theorem zgF:∀(names:List (Str×NameKind)) (cs:List (Str×Addr)),(∀y∈names,y.2= .free->∃c,env.cells.lookup y.1=some c)->
  (forIn names cs (fun x r=>if x.2==NameKind.free then do let a<-cellOf env x.1;pure (ForInStep.yield ((x.1,a)::r))else pure (ForInStep.yield r)):Sem (List (Str×Addr)))=pure (names.foldl (zeC env) cs)
 |[],cs,_=>rfl
 |(n,k)::r,cs,h=>by
  have ih:=fun cs'=>zgF r cs' (fun y hy=>h y (qap _ hy))
  rw[List.forIn_cons,qby]
  by_cases hk:(k==NameKind.free)=true
  ·obtain⟨c,hc⟩:=h (n,k) qao (by simpa using hk);have e:zeC env cs (n,k)=(n,c)::cs:=by unfold zeC;simp[hk,hc]
   rw[e,<-ih];simp only[hk,if_true];unfold cellOf;simp only at hc;rw[hc]
   rfl
  ·have e:zeC env cs (n,k)=cs:=by unfold zeC;simp[hk]
   rw[e,<-ih];simp only[hk]
   rfl
theorem zmE {env:Env}(h:∀y∈scope.names,y.2= .free->∃c,env.cells.lookup y.1=some c):closureFor scope env=pure (clOf scope env):=by
 unfold closureFor clOf;have e:=zgF (env:=env) scope.names [] h;simp only[bind_pure];exact e
theorem zdl:∀{names:List (Str×NameKind)} {cs:List (Str×Addr)},(∀y∈names,y.2= .free->∃c,env.cells.lookup y.1=some c)->(cs.lookup x=some c->env.cells.lookup x=some c)->
  (names.foldl (zeC env) cs).lookup x=some c->env.cells.lookup x=some c
 |[],cs,_,h0,h=>h0 h
 |(n,k)::r,cs,hn,h0,h=>by
  rw[qby]at h;refine zdl (names:=r) (fun y hy=>hn y (qap _ hy)) ?_ h;intro q;unfold zeC at q
  split at q
  ·rename_i hk;obtain⟨c',hc⟩:=hn (n,k) qao (by simpa using hk);rw[qbT]at q;simp only at hc
   by_cases z:(x==n)=true
   ·rw[z]at q;have zz:x=n:=by simpa using z
    subst zz;simp only[hc,Option.getD_some]at q;rw[hc];exact q
   ·have z':(x==n)=false:=by simpa using z
    rw[z']at q;exact h0 q
  ·exact h0 q
theorem zeq:∀{names:List (Str×NameKind)} {cs:List (Str×Addr)},((x,NameKind.free)∈names\/(cs.lookup x).isSome=true)->((names.foldl (zeC env) cs).lookup x).isSome=true
 |[],cs,h=>by
  rcases h with h|h
  ·simp at h
  ·exact h
 |(n,k)::r,cs,h=>by
  rw[qby];refine zeq (names:=r) ?_;rcases h with h|h
  ·rcases qaq.mp h with h|h
   ·cases h;refine .inr ?_;unfold zeC;simp
   ·exact .inl h
  ·refine .inr ?_;unfold zeC
   split
   ·rw[qbT]
    by_cases z:(x==n)=true
    ·rw[z];rfl
    ·have z':(x==n)=false:=by simpa using z
     rw[z'];exact h
   ·exact h
theorem zhd:∀{names:List (Str×NameKind)} {n:Nat} {acc:List (Str×Addr)},(cellsFrom n names acc).lookup x=some c->(n<=c/\(x,NameKind.cell)∈names)\/acc.lookup x=some c
 |[],n,acc,h=> .inr h
 |(m,k)::r,n,acc,h=>by
  unfold cellsFrom at h
  split at h
  ·rename_i hk;have hk':k= .cell:=by simpa using hk
   subst hk';rcases zhd h with⟨h1,h2⟩|h1
   ·exact .inl ⟨Nat.le_of_succ_le h1,qap _ h2⟩
   ·rw[qbT]at h1;cases q:x==m with
    |true=>
     rw[q]at h1;cases h1;rw[qaP.mp q];exact .inl ⟨qaH _,qao⟩
    |false=>rw[q]at h1;exact .inr h1
  ·rcases zhd h with⟨h1,h2⟩|h1
   ·exact .inl ⟨h1,qap _ h2⟩
   ·exact .inr h1
theorem zl1:∀{names:List (Str×NameKind)} {n:Nat} {acc:List (Str×Addr)},(x,NameKind.cell)∉names->(cellsFrom n names acc).lookup x=acc.lookup x
 |[],n,acc,_=>rfl
 |(m,k)::r,n,acc,h=>by
  unfold cellsFrom
  split
  ·rename_i hk;have hk':k= .cell:=by simpa using hk
   subst hk';rw[zl1 fun z=>h (qap _ z),qbT];cases q:x==m with
   |true=>exact absurd (by rw[qaP.mp q];exact qao) h
   |false=>rfl
  ·exact zl1 fun z=>h (qap _ z)
theorem zl5:∀{names:List (Str×NameKind)} {n:Nat} {acc:List (Str×Addr)},(x,NameKind.cell)∈names->∃c,(cellsFrom n names acc).lookup x=some c/\n<=c
 |(m,k)::r,n,acc,h=>by
  unfold cellsFrom
  by_cases hr:(x,NameKind.cell)∈r
  ·split
   ·obtain⟨c,h1,h2⟩:=zl5 (n:=n+1) (acc:=(m,n)::acc) hr;exact⟨c,h1,Nat.le_of_succ_le h2⟩
   ·exact zl5 hr
  ·rcases qaq.mp h with e|e
   ·cases e;rw[if_pos (qbU _),zl1 hr,qbT,qbU];exact⟨n,rfl,qaH _⟩
   ·exact absurd e hr
theorem zpn:∀{names:List (Str×NameKind)} {n:Nat} {acc:List (Str×Addr)},(∀x c,acc.lookup x=some c->c<n)->(∀x y c,acc.lookup x=some c->acc.lookup y=some c->x=y)->
  ∀x y c,(cellsFrom n names acc).lookup x=some c->(cellsFrom n names acc).lookup y=some c->x=y
 |[],n,acc,_,hi=>hi
 |(m,k)::r,n,acc,hl,hi=>by
  unfold cellsFrom
  split
  ·refine zpn (fun x c h=>?_) (fun x y c h1 h2=>?_)
   ·rw[qbT]at h;cases q:x==m with
    |true=>rw[q]at h;cases h;exact qaV _
    |false=>rw[q]at h;exact qbV (hl x c h)
   ·rw[qbT]at h1 h2;cases q:x==m with
    |true=>
     rw[q]at h1;cases h1;cases q2:y==m with
     |true=>rw[qaP.mp q,qaP.mp q2]
     |false=>rw[q2]at h2;exact absurd (hl y n h2) (qag _)
    |false=>
     rw[q]at h1;cases q2:y==m with
     |true=>rw[q2]at h2;cases h2;exact absurd (hl x n h1) (qag _)
     |false=>rw[q2]at h2;exact hi x y c h1 h2
  ·exact zpn hl hi
theorem zks:∀{names:List (Str×NameKind)} {h:Heap} {acc:List (Str×Addr)},(∀x c,acc.lookup x=some c->∃v,h.IsCell c v)->∀x c,(cellsFrom h.objs.size names acc).lookup x=some c->∃v,(pushCells h names).IsCell c v
 |[],h,acc,ha=>ha
 |(m,k)::r,h,acc,ha=>by
  unfold cellsFrom pushCells
  split
  ·intro x c e;rw[<-qaU h {cls:= .type "cell",data:= .cell none}]at e;refine zks (fun y d q=>?_) x c e;rw[qbT]at q;cases z:y==m with
   |true=>rw[z]at q;cases q;exact⟨none,_,qaG _ rfl,rfl⟩
   |false=>
    rw[z]at q;obtain⟨v,hv⟩:=ha y d q;exact⟨v,hv.keeps fun b o e=>qaF _ e⟩
  ·exact zks ha
theorem zkX {M:Model}{s:Shared}{globals:Addr}{Q:Env->Shared->Prop}
  (hQ : ∀ h' : Heap, h'.Ns s.heap.objs.size (fun _ => none) -> (∀ a o, s.heap.get? a = some o -> h'.get? a = some o) ->
   ((∀x c,cl.lookup x=some c->∃v,s.heap.IsCell c v)->∀x c,(cellsFrom (s.heap.objs.size+1) scope.names cl).lookup x=some c->∃v,h'.IsCell c v)->
   Q (newEnv scope s.heap.objs.size globals (cellsFrom (s.heap.objs.size+1) scope.names cl) qual none .none (some env) builtinsNs) {s with heap:=h'}):
  wpAny M A (newFunctionEnv scope globals cl [] qual none .none (some env)) Q E s:=by
 simp only[newFunctionEnv,Option.isSome_some,if_true];refine qaB (wpAny_alloc ?_);refine qaB (wpAny_layCells _ (fun name kind cells=>by cases hkc:kind==NameKind.cell<;>simp[hkc]) _ _ _ _ ?_)
 rw[show({s with heap:=s.heap.push {cls:= .type "dict",data:= .dict #[]}}:Shared).heap.objs.size=s.heap.objs.size+1 from qaU ..];refine qaB ?_;rw[List.forIn_nil];refine qaE (qaE (hQ _ ((Heap.Ns.new s.heap (.type "dict")).keeps (pushCells_keeps _ _)) (fun a o e=>pushCells_keeps _ _ a o (qaF _ e)) fun hc x c e=>?_));rw[<-qaU s.heap {cls:= .type "dict",data:= .dict #[]}]at e;refine zks (fun y d q=>?_) x c e;obtain⟨v,hv⟩:=hc y d q;exact⟨v,hv.keeps fun b o e=>qaF _ e⟩
noncomputable def clC (scope:Scope)(env:Env)(C:Addr):List (Str×Addr):=cellsFrom (C+1) scope.names (clOf scope env)
noncomputable def ownC (scope:Scope)(x:Str):Bool:=match scope.names.lookup x with
 |some .cell=>true
 |_=>false
noncomputable def cxC (X:Cx)(N:List Str)(scope:Scope)(C:Addr)(s:Shared)(H:Hp)(fp:List Addr):Cx:=
 {X with N:=N,s₀:=s,H₀:=H,env:=compEnvC scope (clC scope X.env C) C X.env,outer:=X.stack,ex:=fp,fn:=ownC scope,pn:=[],xe:=fun _ _=>False}
structure BlkOk (X:Cx) (scope:Scope):Prop where
 kind:scope.kind= .function
 uniq:∀y∈scope.names,scope.names.lookup y.1=some y.2
 free:∀y∈scope.names,y.2= .free->X.env.kindOf y.1=some .cell\/X.env.kindOf y.1=some .free
theorem zeH {α:Type}{v:α}:∀{l:List (Str×α)},l.lookup x=some v->(x,v)∈l
 |[],h=>by simp at h
 |(n,w)::r,h=>by
  rw[qbT]at h
  by_cases z:(x==n)=true
  ·rw[z]at h;have zz:x=n:=by simpa using z
   subst zz;cases h;exact qao
  ·have z':(x==n)=false:=by simpa using z
   rw[z']at h;exact qap _ (zeH h)
theorem zdm {env:Env}{x:Str}:∀{names:List (Str×NameKind)},(names.map fun(n,k)=>if(k==NameKind.free&&env.scope.kind== .function&&env.kindOf n==some .cell)then(n,NameKind.cell)else(n,k)).lookup x=
  (names.lookup x).map fun k=>if(k==NameKind.free&&env.scope.kind== .function&&env.kindOf x==some .cell)then NameKind.cell else k
 |[]=>rfl
 |(n,k)::r=>by
  have ih:=zdm (env:=env) (x:=x) (names:=r);show List.lookup x ((if(k==NameKind.free&&env.scope.kind== .function&&env.kindOf n==some .cell)=true then(n,NameKind.cell)else(n,k))::_)=_;cases hx:x==n with
  |true=>
   have zz:x=n:=by simpa using hx
   by_cases hc:(k==NameKind.free&&env.scope.kind== .function&&env.kindOf n==some .cell)=true
   ·rw[if_pos hc];simp only[qbT,hx,qbI];rw[zz,if_pos hc]
   ·rw[if_neg hc];simp only[qbT,hx,qbI];rw[zz,if_neg hc]
  |false=>
   by_cases hc:(k==NameKind.free&&env.scope.kind== .function&&env.kindOf n==some .cell)=true
   ·rw[if_pos hc];simp only[qbT,hx];exact ih
   ·rw[if_neg hc];simp only[qbT,hx];exact ih
section
variable {X:Cx} {pins:List (Addr×Obj)} {σ:St} {H:Hp} {s:Shared} {scope:Scope} {N:List Str} {fp:List Addr} {C:Addr}
theorem zg4 (I:Inv X pins σ H s)(b:BlkOk X scope):∀y∈scope.names,y.2= .free->∃c,X.env.cells.lookup y.1=some c:=fun y hy hf=>I.ok.has y.1 (b.free y hy hf)
theorem blk_vis (h:(relabel scope X.env).names.lookup x=some .cell\/(relabel scope X.env).names.lookup x=some .free):(x,NameKind.free)∈scope.names\/(x,NameKind.cell)∈scope.names:=by
 have e:(relabel scope X.env).names.lookup x=(scope.names.lookup x).map fun k=>if(k==NameKind.free&&X.env.scope.kind== .function&&X.env.kindOf x==some .cell)then NameKind.cell else k:=zdm
 rw[e]at h;cases q:scope.names.lookup x with
 |none=>rw[q]at h;simp at h
 |some k=>
  have hm:=zeH q
  by_cases hk:k= .free
  ·subst hk;exact .inl hm
  ·rw[q]at h;have hkf:(k==NameKind.free)=false:=by simpa using hk
   simp only[qbI,hkf,Bool.false_and,qbW,qbi,qbJ]at h;rcases h with h|h
   ·subst h;exact .inr hm
   ·exact absurd h hk
theorem zfw (I:Inv X pins σ H s)(b:BlkOk X scope)(h:(clOf scope X.env).lookup x=some c):X.env.cells.lookup x=some c:=zdl (zg4 I b) (by simp) h
theorem zgk (I:Inv X pins σ H s)(b:BlkOk X scope)(h:(clC scope X.env C).lookup x=some c):C<c\/X.env.cells.lookup x=some c:=by
 rcases zhd h with⟨h1,_⟩|h1
 ·exact .inl h1
 ·exact .inr (zfw I b h1)
theorem zlQ (b:BlkOk X scope)(h:(x,NameKind.free)∈scope.names):(clC scope X.env C).lookup x=(clOf scope X.env).lookup x:=zl1 fun z=>by
 have h1:=b.uniq _ h;have h2:=b.uniq _ z;simp only at h1 h2;rw[h1]at h2;cases h2
theorem blk_ok (I:Inv X pins σ H s)(b:BlkOk X scope)(hC:s.heap.objs.size<=C)(hf:∀b∈fp,FpOk X pins H b)(hfC:∀b∈fp,b<C):(cxC X N scope C s H fp).Ok where
 mod:=I.ok.mod
 kind:=b.kind
 glob:=I.ok.glob
 blt:=I.ok.blt
 above:=hC
 inj:=zpn (fun x c h=>by
  obtain⟨v,hv⟩:=I.cell x c (zfw I b h);exact qbV (qaf hv.lt hC)) fun x y c h1 h2=>I.ok.inj x y c (zfw I b h1) (zfw I b h2)
 has:=fun x hx=>by
  rcases blk_vis (x:=x) hx with hm|hm
  ·show ∃c,(clC scope X.env C).lookup x=some c;rw[zlQ b hm];exact qa4.mp (zeq (.inl hm))
  ·obtain⟨c,h,_⟩:=zl5 (n:=C+1) (acc:=clOf scope X.env) hm;exact⟨c,h⟩
 cab:=fun x c h e=>by
  have h':ownC scope x=true:=h;unfold ownC at h'
  split at h'
  ·rename_i q;obtain⟨c',h1,h2⟩:=zl5 (n:=C+1) (acc:=clOf scope X.env) (zeH q);have e':some c'=some c:=h1.symm.trans e;cases e';exact qal hC (Nat.le_of_succ_le h2)
  ·cases h'
 hd:=I.ok.hd
 frames:=I.ok.frames
 stk:= .inl rfl
 exf:=fun a ha=>⟨qah (hfC a ha),fun x c e z=>by
  rcases zgk I b e with q|q
  ·exact Nat.lt_asymm q (z ▸ hfC a ha)
  ·exact(hf a ha).2.2.2.2.1 x c q z⟩
 bs:=I.bs
 bsz:=qal I.ok.bsz I.sz
 noex:=fun a o e ha=>by
  rcases(hf a ha).2.2.2.1 with z|z
  ·exact I.ok.noex a o e z
  ·exact absurd (qaf (qae e) (qal I.ok.bsz z)) (qag _)
 exfs:=fun a ha hs=>by
  rcases qaq.mp (I.stkSub a hs)with z|z
  ·exact(hf a ha).2.1 z
  ·exact(hf a ha).2.2.1 z
 funs:=I.stack
 frf:=I.stkFree
theorem zpc {tk:Nat}(I:Inv X pins σ H s)(b:BlkOk X scope)(hf:∀b∈fp,FpOk X pins H b)(hfs:∀b∈fp,b<s.heap.objs.size)
  (hns:h'.Ns s.heap.objs.size (fun _=>none)) (hk:∀a o,s.heap.get? a=some o->h'.get? a=some o) (hcl:∀x c,(clC scope X.env s.heap.objs.size).lookup x=some c->∃v,h'.IsCell c v) (hl:σc.length=N.length)
  (hσ:∀(i:Nat) (x:Str) (v:V),N[i]? =some x->σc[i]? =some (some v)->(x,NameKind.free)∈scope.names/\∃j:Nat,X.N[j]? =some x/\σ[j]? =some (some v)) (hloc:∀(i:Nat) (x:Str) (v:V),N[i]? =some x->σc[i]? =some (some v)->¬(relabel scope X.env).names.lookup x=some .local):
  Inv (cxC X N scope s.heap.objs.size s H fp) [] σc H {s with heap:=h',toks:=tk}:=by
 have ok:=blk_ok (N:=N) I b (qaH _) hf hfs;refine⟨ok,rfl,I.bare,Un.kept hk,⟨_,hns,fun i x v h1 h2 h3=>?_⟩,fun x c e=>?_,I.hok.fresh (qaH _),fun x c e=>?_,fun p hp=>absurd (show p∈([]:List (Addr×Obj))from hp) (by simp),I.hok.kept hk,hl⟩
 ·obtain⟨hm,j,hj,hv⟩:=hσ i x v h1 h2;have hkind:=b.free _ hm rfl;obtain⟨m,hn,hloc'⟩:=I.loc;have hvis:Vis X.env.scope x:=by
   rcases hkind with z|z
   ·exact .inr (.inl z)
   ·exact .inr (.inr z)
  obtain⟨u,ru,lk⟩:=hloc' j x v hj hv hvis;refine⟨u,ru,?_⟩;rcases lk with⟨z,_⟩|⟨_,c,ec,hc⟩
  ·exfalso;rcases hkind with w|w<;>simp only at w<;>rw[z]at w<;>cases w
  ·refine .inr ⟨?_,c,?_,?_⟩
   ·rcases h3 with z|z|z
    ·exact absurd z (hloc i x v h1 h2)
    ·exact .inl z
    ·exact .inr z
   ·have hs:((clOf scope X.env).lookup x).isSome=true:=zeq (.inl hm);obtain⟨c',ec'⟩:=qa4.mp hs;have:=zdl (zg4 I b) (by simp) ec';rw[ec]at this;cases this;exact(zlQ b hm).trans ec'
   ·obtain⟨o,ho,hd⟩:=hc;exact⟨o,hk _ _ ho,hd⟩
 ·exact hcl x c e
 ·rcases zgk I b e with q|q
  ·exact I.hok.fresh (qam q)
  ·exact I.freeC x c q
theorem zm2 {h':Heap}{s1:Shared}(I:Inv X pins σ H s)(hf:∀b∈fp,FpOk X pins H b)(J:Inv (cxC X N scope s.heap.objs.size s H fp) [] σc H' s1)(hs:Heap.SameBut s.heap.objs.size s1.heap h'):Inv X pins σ H' {s1 with heap:=h'}:=by
 have kp:∀a o,a≠s.heap.objs.size->s1.heap.get? a=some o->h'.get? a=some o:=fun a o ha e=>hs.extBut a o ha e
 have free:H' s.heap.objs.size=none:=J.free;have ntr:∀a u,H' a=some u->a≠s.heap.objs.size:=fun a u e z=>by rw[z,free]at e;cases e
 have lt:∀a o,s.heap.get? a=some o->a≠s.heap.objs.size:=fun a o e=>qah (qae e)
 have u:Un (frs X.stack) fp H H' s.heap s1.heap:=J.base;have u':Un (frs X.stack) fp H H' s.heap h':=by
  refine⟨fun a o e n hb hx=>kp a o (lt a o e) (u.keep a o e n hb hx),fun a o e n hb hx=>?_,u.free,fun a o e hx=>?_,u.tups,u.frzs,u.tbls⟩
  ·obtain⟨sl,q⟩:=u.slot a o e n hb hx;exact⟨sl,kp a _ (lt a o e) q⟩
  ·obtain⟨o',q⟩:=u.there a o e hx;exact⟨o',kp a _ (lt a o e) q⟩
 have hok:HOk X.prog X.w H' h':=fun a o e=>(J.hok a o e).stay (fun c v hc q=>by
  refine kp c v ?_ q;rcases hc with rfl|hc
  ·exact ntr _ _ e
  ·exact ntr _ _ hc) (fun _ q=>q) fun _ _ q=>q
 obtain⟨hh,g,d,t,os'⟩:=s1;have os:os'=s.os:=J.os;subst os;have z:=I.call (h':=h') (g':=g) (d':=d) (t':=t) (ch:=fp) u' hok J.bare (fun a ha=>⟨(hf a ha).2.2.2.1,(hf a ha).2.1,(hf a ha).2.2.2.2.1,(hf a ha).2.2.2.2.2⟩);exact z
end
noncomputable def PTs (X:Cx)(ifs:List Expr)(t:TT):Prop:=∀(pins:List (Addr×Obj)) (s:Shared) (σ:St) (H:Hp) (Q:Bool->Hp->Prop),Inv X pins σ H s->t σ H Q->
 wpAny (model X.prog X.w) X.A (forIn ifs true fun c r=>if r=true then do let ok<-isTrue c X.env (eval c X.env);pure (ForInStep.yield ok)else pure (ForInStep.yield r)) (TP X pins σ Q) X.xe s
theorem pts_nil:PTs X [] (fun _ H Q=>Q true H):=fun pins s σ H Q I h=>wpAny_tests_nil ⟨H,I,h⟩
theorem zkS {R:Result->Shared->Prop}{s:Shared}{elt target iter:Expr}{it acc:Value}(I:Nat->Shared->Prop)
  (turn : ∀ n s, I n s -> wpAny (model prog w) A (pyNext it) (fun r s₁ => match r with
   |none=>R (.ok .next) s₁
   | some v => wpAny (model prog w) A (letOwnedTupleGo target it v) (fun _ s₁' => wpAny (model prog w) A (assign target env v) (fun _ s₂ =>
     wpAny (model prog w) A (forIn ifs true fun c r=>if r=true then do let ok<-isTrue c env (eval c env);pure (ForInStep.yield ok)else pure (ForInStep.yield r)) (fun ok s₃=>
      if ok=true then wpAny (model prog w) A (eval elt env) (fun x s₄=>
       wpAny (model prog w) A (call (.builtin "list.append") [acc,x]) (fun _ s₅=>∃m,m<n/\I m s₅) (fun _ _=>False) s₄) (fun _ _=>False) s₃
      else ∃m,m<n/\I m s₃) (fun _ _=>False) s₂) (fun _ _=>False) s₁') (fun _ _=>False) s₁) (fun _ _=>False) s)
  (n:Nat) (h:I n s):codeAny (model prog w) A (.compLoop (.ListComp elt [⟨target,iter,ifs,0⟩] scope pos) 0 it acc env) R s:=by
 refine codeAny_loop rfl I (fun n s hI=>?_) n h;show wpAny _ A ((compTurn (.ListComp elt [⟨target,iter,ifs,0⟩] scope pos) 0 it acc env).onRaise (fun x=>do noteFrame x env;theTreesLotGoes x)) _ _ s;refine wpAny_noted ?_;rw[compTurn_list];have no:∀{E:Value->Shared->Prop},∀x s',(fun(_:Value) (_:Shared)=>False) x s'->E x s':=fun _ _ z=>z.elim
 refine qaB (wpAny_standAt (qaB (qaw (turn n s hI) (fun r s₁ h₁=>?_) no)));cases r with
 |none=>exact qaE h₁
 |some v=>
  refine qaB (qaw h₁ (fun _ s₁' h₁'=>?_) no);refine qaB (qaw h₁' (fun _ s₂ h₂=>qaB (qaw h₂ (fun ok s₃ h₃=>?_) no)) no);cases ok with
  |false=>exact qaE ⟨rfl,h₃⟩
  |true=>
   exact qaB (qaB (qaw h₃ (fun x s₄ h₄=>qaB (qaw h₄ (fun _ s₅ h₅=>qaE (qaE ⟨rfl,h₅⟩)) no)) no))
noncomputable def tLC (σ0:St->St)(wi:TI)(g:Addr->Shared->Hp->List Addr->TG)(tt:Addr->Shared->Hp->List Addr->TT)(te:Addr->Shared->Hp->List Addr->TE):TE:=fun σ H Q=>wi σ H fun J H1=>∀D,H1 D=none->∃W:Nat->Nat->St->Hp->Prop,(∃m,W 0 m (σ0 σ) (upd H1 D (.lst [])))/\∀i m σ H,W i m σ H->
 (J.stop i H /\ Q (.ref D) H) \/ (J.go i H /\ ∀ C s₀ H₀ fp x H', J.yld i H x H' -> g C s₀ H₀ fp x σ H' fun σ2 H2 => tt C s₀ H₀ fp σ2 H2 fun ok H3 => if ok = true then te C s₀ H₀ fp σ2 H3 fun v H4 => ∃ xs, H4 D = some (.lst xs) /\ xs.length < sizeLine /\ ∃ m', m' < m /\ W (i + 1) m' σ2 (upd H4 D (.lst (xs ++ [v])))
  else ∃m',m'<m/\W (i+1) m' σ2 H3)
section
variable {X:Cx} {elt iter tg:Expr} {ifs:List Expr} {scope:Scope} {pos:Pos} {N:List Str} {σ0:St->St} {wi:TI} {g:Addr->Shared->Hp->List Addr->TG} {tt:Addr->Shared->Hp->List Addr->TT} {te:Addr->Shared->Hp->List Addr->TE}
structure Cap (X:Cx) (scope:Scope) (N:List Str) (σ0:St->St):Prop where
 len:∀σ,(σ0 σ).length=N.length
 src:∀(σ:St) (i:Nat) (x:Str) (v:V),N[i]? =some x->(σ0 σ)[i]? =some (some v)->(x,NameKind.free)∈scope.names/\∃j:Nat,X.N[j]? =some x/\σ[j]? =some (some v)
 loc:∀(σ:St) (i:Nat) (x:Str) (v:V),N[i]? =some x->(σ0 σ)[i]? =some (some v)->¬(relabel scope X.env).names.lookup x=some .local
theorem znM {E:Value->Shared->Prop}(hc:X.calm=true)(b:BlkOk X scope)(cap:Cap X scope N σ0)(hi:PI X tg iter wi)(hg:∀C s H fp,PG (cxC X N scope C s H fp) tg (g C s H fp))(ht:∀C s H fp,PTs (cxC X N scope C s H fp) ifs (tt C s H fp))(he:∀C s H fp,PE (cxC X N scope C s H fp) elt (te C s H fp))
  {pins:List (Addr×Obj)} {s:Shared} {σ:St} {H:Hp} {Q:VK} (I:Inv X pins σ H s) (h:tLC σ0 wi g tt te σ H Q) {QQ:Value->Shared->Prop} {p0:Pos}
  (hs:∀x,foldedSetIterable iter X.env x=pure x)
  (fin : match use with
   |none=>∀u s',EP X pins σ Q u s'->QQ u s'
   |some f=>∀(D:Addr) (fp:List Addr) (C:Addr) (H1 H':Hp) (σc:St) (s1 s':Shared),Inv X pins σ H1 s1->(∀b∈fp,FpOk X pins H1 b)->C=s1.heap.objs.size->Inv (cxC X N scope C s1 H1 fp) [] σc H' s'->Q (.ref D) H'->
     wpAny (model X.prog X.w) X.A (f (.ref D)) (fun _ s''=>∃m,s''.heap.Ns C m/\∀h',Heap.SameBut C s''.heap h'->QQ .none {s'' with heap:=h'}) X.xe s'):
  wpAny (model X.prog X.w) X.A (comprehension (.ListComp elt [⟨tg,iter,ifs,0⟩] scope pos) scope X.env p0 (newList []) false (eval iter X.env) use) QQ X.xe s:=by
 refine wpAny_comprehension_free (cl:=clOf scope X.env) (g:=⟨tg,iter,ifs,0⟩) (gs:=[]) rfl hs (zmE (zg4 I b)) b.kind (fun x hx hl=>hl ▸ b.uniq x hx) ?_;refine thn (hi pins s σ H _ I h) fun v s1 h1=>thn h1 fun itv s2 h2=>?_
 obtain⟨it,fp,tn,J,H2,e,I2,T,st2,f2,h3⟩:=h2;subst e;refine qbp ?_ (by show(0:Nat)<=sizeLine;exact qaW _);have hD:H2 s2.heap.objs.size=none:=I2.fresh;obtain⟨W,⟨m0,w0⟩,turn⟩:=h3 _ hD;have I3:Inv X pins σ (upd H2 s2.heap.objs.size (.lst [])) {s2 with heap:=s2.heap.push {cls:= .type "list",data:= .seq ([]:List Value).toArray}}:=I2.lnew (t':=s2.toks) .nil (qaW _);have f3:∀b∈fp,FpOk X pins (upd H2 s2.heap.objs.size (.lst [])) b:=fun b hb=>by
  obtain⟨a1,a2⟩:=f2 b hb;obtain⟨o,ho,_⟩:=T.obj _ _ st2 b hb;exact⟨by rw[zak (qah (qae ho))];exact a1,a2⟩
 have st3:tn 0 (s2.heap.push {cls:= .type "list",data:= .seq ([]:List Value).toArray}):=T.keep _ _ _ st2 fun b hb o e=>qaF _ e
 generalize hs3:({s2 with heap:=s2.heap.push {cls:= .type "list",data:= .seq ([]:List Value).toArray}}:Shared)=s3 at I3
 have hs3':s3.heap=s2.heap.push {cls:= .type "list",data:= .seq ([]:List Value).toArray}:=by rw[<-hs3]
 rw[<-hs3']at st3;have hfs:∀b∈fp,b<s3.heap.objs.size:=fun b hb=>by
  obtain⟨o,ho,_⟩:=T.obj _ _ st3 b hb;exact qae ho
 show wpAny _ _ (newFunctionEnv scope X.env.globals (clOf scope X.env) [] X.env.qual none .none (some X.env)) _ _ s3;refine zkX fun h' hns hk hcl=>?_
 have hcl:=hcl fun x c e=>I3.cell x c (zfw I3 b e)
 generalize hDD:s2.heap.objs.size=DD at*
 have B0:Inv (cxC X N scope s3.heap.objs.size s3 (upd H2 DD (.lst [])) fp) [] (σ0 σ) (upd H2 DD (.lst [])) {s3 with heap:=h'}:=
  zpc (tk:=s3.toks) I3 b f3 hfs hns hk hcl (cap.len σ) (cap.src σ) (cap.loc σ)
 have stat:∀{H':Hp},(∀b∈fp,H' b=none)->∀b∈fp,FpOk (cxC X N scope s3.heap.objs.size s3 (upd H2 DD (.lst [])) fp) [] H' b:=fun hn b' hb=>by
  refine⟨hn b' hb,qah (hfs b' hb),fun z=>?_,.inl hb,fun x c e=>?_,fun p hp=>absurd (show p∈([]:List (Addr×Obj))from hp) (by simp)⟩
  ·rcases qaq.mp (I3.stkSub b' z)with w|w
   ·exact(f3 b' hb).2.1 w
   ·exact(f3 b' hb).2.2.1 w
  ·intro z;rcases zgk I3 b e with q|q
   ·exact Nat.lt_asymm q (z ▸ hfs b' hb)
   ·exact(f3 b' hb).2.2.2.2.1 x c q z
 have tn0:tn 0 h':=T.keep _ _ _ st3 fun b' hb o e=>hk b' o e
 have post:∀(s':Shared) (σc:St) (H':Hp),Inv (cxC X N scope s3.heap.objs.size s3 (upd H2 DD (.lst [])) fp) [] σc H' s'->Q (.ref DD) H'->compPost (model X.prog X.w) X.A X.xe use QQ (.ref DD) s3.heap.objs.size (.ok .next) s':=fun s' σc H' J' q=>by
  cases use with
  |none=>
   obtain⟨m,hn,_⟩:=J'.loc;exact⟨m,hn,fun h'' hs''=>fin _ _ ⟨.ref DD,H',zm2 I3 f3 J' hs'',rfl,q⟩⟩
  |some f=>exact fin DD fp _ _ H' σc s3 s' I3 f3 rfl J' q
 have loop:codeAny (model X.prog X.w) X.A (.compLoop (.ListComp elt [⟨tg,iter,ifs,0⟩] scope pos) 0 (.ref it) (.ref DD) (compEnvC scope (clC scope X.env s3.heap.objs.size) s3.heap.objs.size X.env)) (compPost (model X.prog X.w) X.A X.xe use QQ (.ref DD) s3.heap.objs.size) {s3 with heap:=h'}:=by
  refine zkS (fun n s'=>∃i σ' H',Inv (cxC X N scope s3.heap.objs.size s3 (upd H2 DD (.lst [])) fp) [] σ' H' s'/\tn i s'.heap/\(∀b∈fp,H' b=none)/\W i n σ' H') ?_ m0 ⟨0,σ0 σ,_,B0,tn0,fun b' hb=>(f3 b' hb).1,w0⟩;rintro n s5 ⟨i,σ5,H5,I5,st5,fr5,w5⟩;rcases turn i n σ5 H5 w5 with⟨stop,qn⟩|⟨go,step⟩
  ·refine thn (T.done (cxC X N scope s3.heap.objs.size s3 (upd H2 DD (.lst [])) fp) rfl rfl rfl hc i [] s5 σ5 H5 (fun _ _=>False) I5 (stat fr5) st5 stop) fun r s6 ⟨hr,I6⟩=>?_
   subst hr;exact post s6 σ5 H5 I6 qn
  ·refine thn (T.item (cxC X N scope s3.heap.objs.size s3 (upd H2 DD (.lst [])) fp) rfl rfl rfl hc i [] s5 σ5 H5 (fun _ _=>False) I5 (stat fr5) st5 go) fun r s6 ⟨u,hr,h6⟩=>?_
   subst hr;refine thn h6 fun _ s7 ⟨x,H7,I7,r7,y7,st7,fr7⟩=>?_
   have I7':=I7.pinned (stat fr7) (T.obj _ _ st7);have again:∀{σ8:St} {H8:Hp} {s8:Shared} {m':Nat},Inv (cxC X N scope s3.heap.objs.size s3 (upd H2 DD (.lst [])) fp) ([]++zjA fp s7.heap) σ8 H8 s8->m'<n->W (i+1) m' σ8 H8->
     ∃m,m<n/\∃i σ' H',Inv (cxC X N scope s3.heap.objs.size s3 (upd H2 DD (.lst [])) fp) [] σ' H' s8/\tn i s8.heap/\(∀b∈fp,H' b=none)/\W i m σ' H':=fun{σ8 H8 s8 m'} I8 hm w8=>by
    refine⟨m',hm,i+1,σ8,H8,I8.unpinned,T.keep _ _ _ st7 fun b' hb o e=>(I8.pin (b',o) (qaK _ (qaK _ (zeM hb e)))).1,fun b' hb=>?_,w8⟩;obtain⟨o,e,d⟩:=T.obj _ _ st7 b' hb;exact(I8.pin (b',o) (qaK _ (qaK _ (zeM hb e)))).2.1
   refine thn (hg _ _ _ _ _ s7 σ5 H7 x u _ I7' r7 (step _ _ _ _ x H7 y7)) fun _ s8 ⟨σ8,H8,I8,q8⟩=>?_
   refine thn (ht _ _ _ _ _ s8 σ8 H8 _ I8 q8) fun ok s9 ⟨H9,I9,q9⟩=>?_
   cases ok with
   |false=>
    obtain⟨m',hm,w9⟩:=q9;exact again I9 hm w9
   |true=>
    refine thn (he _ _ _ _ _ s9 σ8 H9 _ I9 q9) fun u10 s10 ⟨v10,H10,I10,r10,xs,hx,hz,m',hm,w10⟩=>?_
    refine thn (zhD _ s10 σ8 H10 (.ref DD) [v10] (.ref DD) [u10] (fun v H'=>v= .non/\H'=upd H10 DD (.lst (xs++[v10]))) I10 rfl (.cons r10 .nil) ⟨DD,xs,v10,rfl,rfl,hx,hz,rfl,rfl⟩) fun _ s11 ⟨_,H11,I11,_,_,e11⟩=>?_
    subst e11;exact again I11 hm w10
 exact codeAny_compStart_list loop (T.self _ _ _ _ _ tn0 loop)
theorem pe_lc (hc:X.calm=true)(b:BlkOk X scope)(cap:Cap X scope N σ0)(hi:PI X tg iter wi)(hg:∀C s H fp,PG (cxC X N scope C s H fp) tg (g C s H fp))(ht:∀C s H fp,PTs (cxC X N scope C s H fp) ifs (tt C s H fp))(he:∀C s H fp,PE (cxC X N scope C s H fp) elt (te C s H fp))
    (hs:autoParam (∀x,foldedSetIterable iter X.env x=pure x) zu8._auto_1):PE X (.ListComp elt [⟨tg,iter,ifs,0⟩] scope pos) (tLC σ0 wi g tt te):=by
  intro pins s σ H Q I h;rw[eval_ListComp];exact znM (use:=none) (E:=X.xe) hc b cap hi hg ht he I h hs (fun u s' q=>q)
end
noncomputable def zdF (ρ:R):Bool:=ρ.all fun s=>match s with
 | .own _=>false
 | .par _=>false
 | .tre _=>false
 | .ptr _=>false
 |_=>true
theorem noOwn_ow (h:zdF ρ=true){a:Addr}(e:ρ[i]? =some s):¬OwS K G H ov a s:=fun w=>by
 unfold zdF at h;rw[qbX]at h;have:=h s (qbb e);cases s with
 |emp=>exact w
 |two _ _=>exact w
 |val d=>exact w
 |_=>exact absurd (show false=true from this) qaO
theorem zlM (h:zdF ρ=true)(e:ρ[i]? =some s):(∀t,s≠ .tre t)/\∀t,s≠ .ptr t:=by
 unfold zdF at h;rw[qbX]at h;have:=h s (qbb e)
 constructor
 ·rintro t rfl;exact absurd (show false=true from this) qaO
 ·rintro t rfl;exact absurd (show false=true from this) qaO
theorem zln (h:zdF ρ=true):¬Wr ρ i:=fun⟨s,ds,e,q⟩=>by
 unfold zdF at h;rw[qbX]at h;have:=h s (qbb e);cases s with
 |emp=>cases q
 |two _ _=>cases q
 |tre _=>cases q
 |ptr _=>cases q
 |val d=>cases q
 |own d=>exact absurd (show false=true from this) qaO
 |par d=>exact absurd (show false=true from this) qaO
structure VS (K:W.Frag) (G:Hp) (σ:St) (ρ:R):Prop where
 len:σ.length=ρ.length
 no:zdF ρ=true
 val:∀(i:Nat) d,ρ[i]? =some (.val d)->∃v,σ[i]? =some (some v)/\RepD K G v d
theorem VS.si (h:VS K G σ ρ)(fz:Fz G H):SI K ⟨G,H,[]⟩ G H σ ρ where
 fz:=fz
 g0:=Fz.refl G
 new:=fun b o e=> .inl (by show G b≠none;rw[e];simp)
 keep:=fun b o e _=>e
 there:=fun b e=>e
 ob:=fun i b m=>by cases m
 len:=h.len
 slot:=fun i s e=>by
  cases s with
  |emp=>trivial
  |two _ _=>trivial
  |tre t=>exact absurd rfl ((zlM h.no e).1 t)
  |ptr t=>exact absurd rfl ((zlM h.no e).2 t)
  |val d=>exact h.val i d e
  |own ds=>exact absurd ⟨_,ds,e,rfl⟩ (zln h.no (i:=i))
  |par ds=>exact absurd ⟨_,ds,e,rfl⟩ (zln h.no (i:=i))
 dis:=fun i j s _ a _ e _ w=>absurd w (noOwn_ow h.no e)
theorem VS.of (I:SI K B G H σ ρ)(h:zdF ρ=true):VS K G σ ρ:=⟨I.len,h,fun i d e=>I.slot i _ e⟩
noncomputable def fz1 (i:Nat)(ρ:R):R:=match ρ[i]? with
 |some (.own ds)=>ρ.set i (.val (.lst ds))
 |_=>ρ
noncomputable def fzL:List Nat->R->R
 |[],ρ=>ρ
 |i::is,ρ=>fzL is (fz1 i ρ)
theorem SI.fz1 (I:SI K B G H σ ρ)(i:Nat):∃G',SI K B G' H σ (M.fz1 i ρ)/\Fz G G':=by
 unfold M.fz1;cases e:ρ[i]? with
 |none=>exact⟨G,I,Fz.refl G⟩
 |some s=>
  cases s with
  |own ds=>obtain⟨l,xs,_,f,_,I'⟩:=I.freeze e;exact⟨_,I',f⟩
  |emp=>exact⟨G,I,Fz.refl G⟩
  |two _ _=>exact⟨G,I,Fz.refl G⟩
  |tre _=>exact⟨G,I,Fz.refl G⟩
  |ptr _=>exact⟨G,I,Fz.refl G⟩
  |val _=>exact⟨G,I,Fz.refl G⟩
  |par _=>exact⟨G,I,Fz.refl G⟩
theorem SI.fzL:∀(is:List Nat) {G:Hp} {ρ:R},SI K B G H σ ρ->∃G',SI K B G' H σ (M.fzL is ρ)/\Fz G G'
 |[],G,ρ,I=>⟨G,I,Fz.refl G⟩
 |i::is,G,ρ,I=>by
  obtain⟨G1,I1,f1⟩:=I.fz1 i;obtain⟨G2,I2,f2⟩:=SI.fzL is I1;exact⟨G2,I2,f1.trans f2⟩
noncomputable def capS (ρ:R)(i:Nat):Sl:=match ρ[i]? with
 |some (.val d)=> .val d
 |_=> .emp
theorem zmI (ρ:R)(i:Nat):capS ρ i= .emp\/∃d,capS ρ i= .val d:=by
 unfold capS
 split
 ·exact .inr ⟨_,rfl⟩
 ·exact .inl rfl
noncomputable def capR (cap:List Nat)(t:Nat)(ρ:R):R:=cap.map (capS ρ)++List.replicate t .emp
noncomputable def capσ (cap:List Nat)(t:Nat)(σ:St):St:=cap.map (fun i=>(σ[i]?).join)++List.replicate t none
theorem cap_vs (I:SI K B G H σ ρ)(cap:List Nat)(t:Nat):VS K G (capσ cap t σ) (capR cap t ρ) where
 len:=by unfold capσ capR;simp
 no:=by
  unfold zdF capR;rw[qbX];intro s hs;rcases qar.mp hs with h|h
  ·obtain⟨i,_,rfl⟩:=qbY.mp h;rcases zmI ρ i with e|⟨d,e⟩
   ·rw[e]
   ·rw[e]
  ·rw[List.eq_of_mem_replicate h]
 val:=fun i d e=>by
  unfold capR at e
  by_cases hi:i<cap.length
  ·rw[qa9 (by simpa using hi),qba,qbN hi]at e;have e':capS ρ cap[i]= .val d:=by simpa using e
   unfold capS at e'
   split at e'
   ·rename_i d' q;cases e';obtain⟨v,h1,h2⟩:=I.slot _ _ q;refine⟨v,?_,h2⟩;unfold capσ;rw[qa9 (by simpa using hi),qba,qbN hi];simp[h1]
   ·cases e'
  ·rw[qa7 (by simpa using hi),qa8]at e
   split at e
   ·cases e
   ·cases e
noncomputable def zgJ (f:D->R->Option (Option D×R)):List D->R->Option (List D×R)
 |[],ρ=>some ([],ρ)
 |d::ds,ρ=>(f d ρ).bind fun p=>(zgJ f ds p.2).map fun q=>(p.1.toList++q.1,q.2)
noncomputable def zmo (g:D->R->Option R)(mt:MT)(me:ME):D->R->Option (Option D×R):=fun d ρ=>(g d ρ).bind fun ρ1=>(mt ρ1).bind fun p=>if p.1 then(me p.2).bind fun q=>if zdF q.2 then some (some q.1,q.2)else none else if zdF p.2 then some (none,p.2)else none
noncomputable def oLC (cap:List Nat)(t:Nat)(mi:MA)(g:D->R->Option R)(mt:MT)(me:ME):MO:=fun ρ=>(mi ρ).bind fun p=>if p.1.length<=16777216 then(zgJ (zmo g mt me) p.1 (capR cap t (fzL cap p.2))).map fun q=>(q.1,fzL cap p.2)else none
noncomputable def STs (X:Cx)(ifs:List Expr)(m:MT):Prop:=
 ∃t,PTs X ifs t/\∀B G H σ ρ d ρ' (Q:Bool->Hp->Prop),SI X.K B G H σ ρ->m ρ=some (d,ρ')->(∀G' H',SI X.K B G' H' σ ρ'->Fz G G'->Q d H')->t σ H Q
noncomputable def zhi:MT:=fun ρ=>some (true,ρ)
theorem zd0:STs X [] zhi:=⟨_,pts_nil,fun B G H σ ρ d ρ' Q I hm k=>by cases hm;exact k G H I (Fz.refl G)⟩
noncomputable def blkB (env:Env)(scope:Scope):Bool:=(scope.names.all fun x=>scope.names.lookup x.1==some x.2&&(x.2 != .free||(env.kindOf x.1==some .cell||env.kindOf x.1==some .free)))
theorem zn6 (hk:scope.kind= .function)(h:blkB X.env scope=true):BlkOk X scope:=by
 unfold blkB at h;rw[qbX]at h;refine⟨hk,fun x hx=>?_,fun x hx hf=>?_⟩
 ·have:=h x hx;simp only[qbo,qbL,bne_iff_ne,qaP]at this;exact this.1
 ·have:=h x hx;simp only[qbo,qbL,bne_iff_ne,qaP]at this;exact(this.2).resolve_left (fun z=>z hf)
noncomputable def capB (names:List (Str×NameKind))(N XN:List Str)(cap:List Nat)(t:Nat):Bool:=N.length==cap.length+t&&(cap.zip N).all fun p=>XN[p.1]? ==some p.2&&names.lookup p.2==some .free
theorem znv (h:capB scope.names N X.N cap t=true):Cap X scope N (capσ cap t):=by
 unfold capB at h;rw[qbo,qbX]at h;obtain⟨hl,h⟩:=h;have hl:N.length=cap.length+t:=by simpa using hl
 have key:∀(σ:St) (i:Nat) (x:Str) (v:V),N[i]? =some x->(capσ cap t σ)[i]? =some (some v)->∃j,cap[i]? =some j/\σ[j]? =some (some v)/\X.N[j]? =some x/\scope.names.lookup x=some .free:=fun σ i x v h1 h2=>by
  unfold capσ at h2
  by_cases hi:i<cap.length
  ·rw[qa9 (by simpa using hi),qba,qbN hi]at h2;have h3:(σ[cap[i]]?).join=some v:=by simpa using h2
   have hz:(cap[i],x)∈cap.zip N:=by
    refine qbb (i:=i) ?_;rw[List.getElem?_zip_eq_some];exact⟨qbN hi,h1⟩
   have:=h _ hz;simp only[qbo,qaP]at this;refine⟨cap[i],qbN hi,?_,this.1,this.2⟩;cases q:σ[cap[i]]? with
   |none=>rw[q]at h3;cases h3
   |some o=>rw[q]at h3;rw[show o=some v from h3]
  ·rw[qa7 (by simpa using hi),qa8]at h2
   split at h2<;>cases h2
 refine⟨fun σ=>by unfold capσ;simp[hl],fun σ i x v h1 h2=>?_,fun σ i x v h1 h2 z=>?_⟩
 ·obtain⟨j,_,a,b,c⟩:=key σ i x v h1 h2;exact⟨zeH c,j,b,a⟩
 ·obtain⟨j,_,a,b,c⟩:=key σ i x v h1 h2;have e:(relabel scope X.env).names.lookup x=(scope.names.lookup x).map fun k=>if(k==NameKind.free&&X.env.scope.kind== .function&&X.env.kindOf x==some .cell)then NameKind.cell else k:=zdm
  rw[e,c]at z;simp only[qbI,qbJ]at z
  split at z<;>cases z
structure LcV (K:W.Frag) (g:D->R->Option R) (mt:MT) (me:ME) (items all:List D) (G2 H1:Hp) (DD:Addr) (i:Nat) (σc:St) (Hc Gc:Hp) (ρc:R) (acc:List D) (xs:List V) (rest:List D) (ρe:R):Prop where
 fc:Fz G2 Gc
 fcH:Fz Gc Hc
 nw:∀b o,Gc b=some o->G2 b≠none\/H1 b=none
 kp:∀b o,H1 b=some o->Hc b=some o
 gD:Gc DD=none
 hDc:Hc DD=some (.lst xs)
 ra:RepL K Gc xs acc
 hx:xs.length<=i
 vs:VS K Gc σc ρc
 ec:zgJ (zmo g mt me) (items.drop i) ρc=some (rest,ρe)
 eall:all=acc++rest
section
variable {X:Cx} {elt iter tg:Expr} {ifs:List Expr} {scope:Scope} {pos:Pos} {N:List Str} {cap:List Nat} {t:Nat} {mi:MA} {g:D->R->Option R} {mt:MT} {me:ME}
theorem zjg
  (si:∀B G H σ ρ ds ρ' (Q:It->Hp->Prop),SI X.K B G H σ ρ->mi ρ=some (ds,ρ')->(∀J G' H',SI X.K B G' H' σ ρ'->Fz G G'->Itm X.K J G' ds->Q J H')->wi σ H Q)
  (sg:∀C s H₀ fp B G H σ ρ v d ρ' (Q:St->Hp->Prop),SI X.K B G H σ ρ->RepD X.K G v d->g d ρ=some ρ'->(∀G' H' σ',SI X.K B G' H' σ' ρ'->Fz G G'->Q σ' H')->tg' C s H₀ fp v σ H Q)
  (st:∀C s H₀ fp B G H σ ρ d ρ' (Q:Bool->Hp->Prop),SI X.K B G H σ ρ->mt ρ=some (d,ρ')->(∀G' H',SI X.K B G' H' σ ρ'->Fz G G'->Q d H')->tt C s H₀ fp σ H Q)
  (se:∀C s H₀ fp B G H σ ρ d ρ' (Q:VK),SI X.K B G H σ ρ->me ρ=some (d,ρ')->(∀G' H' v,SI X.K B G' H' σ ρ'->Fz G G'->RepD X.K G' v d->Q v H')->te C s H₀ fp σ H Q):
  ∀B G H σ ρ ds ρ' (Q:VK),SI X.K B G H σ ρ->oLC cap t mi g mt me ρ=some (ds,ρ')->
   (∀G' H' l xs,SI X.K B G' H' σ ρ'->Fz G G'->G' l=none->H' l=some (.lst xs)->RepL X.K G' xs ds->B.H l=none->Nw X.K G' H' σ ρ' l->Q (.ref l) H')->tLC (capσ cap t) wi tg' tt te σ H Q:=by
 intro B G H σ ρ ds ρ' Q I hm k;obtain⟨⟨items,ρ1⟩,e1,hm⟩:=zaa hm;refine si B G H σ ρ items ρ1 _ I e1 fun J G1 H1 I1 f1 IT DD hD=>?_
 dsimp only at hm
 split at hm
 ·rename_i hlen;obtain⟨⟨all,ρf⟩,e2,e3⟩:=zaf hm;obtain⟨rfl,rfl⟩:=Prod.mk.inj e3;obtain⟨G2,I2,f2⟩:=SI.fzL cap I1;have hDG:G2 DD=none:=I2.fz.free hD;refine⟨fun i m σc Hc=>m=items.length-i/\i<=items.length/\∃Gc ρc acc xs rest ρe,LcV X.K g mt me items all G2 H1 DD i σc Hc Gc ρc acc xs rest ρe,
   ⟨items.length,by simp,qaW _,G2,capR cap t (M.fzL cap ρ1),[],[],all,ρf,{fc:=Fz.refl _,fcH:=I2.fz.right hDG _,nw:=fun b o e=> .inl (by rw[e];simp),kp:=fun b o e=>by rw[zak (zaH e hD)];exact e,gD:=hDG,hDc:=zal,ra:= .nil,hx:=qaH _,vs:=cap_vs I2 cap t,ec:=by simpa using e2,eall:=rfl}⟩,?_⟩
  rintro i m σc Hc ⟨rfl,hi,Gc,ρc,acc,xs,rest,ρe,J0⟩;obtain⟨fc,fcH,nw,kp,gD,hDc,ra,hx,vs,ec,eall⟩:=J0
  by_cases hlt:i<items.length
  ·refine .inr ⟨IT.go Hc i (f2.trans (fc.trans fcH)) hlt,fun C s₀ H₀ fp x H' y=>?_⟩;rw[qbP hlt]at ec;simp only[zgJ]at ec;obtain⟨⟨o,ρ3⟩,h3,ec⟩:=zaa ec;obtain⟨⟨rest2,ρ4⟩,h4,ec⟩:=zaf ec;obtain⟨rfl,rfl⟩:=Prod.mk.inj ec;dsimp only at h4;unfold zmo at h3;obtain⟨ρ5,h5,h3⟩:=zaa h3;obtain⟨⟨ok,ρ6⟩,h6,h3⟩:=zaa h3;dsimp only at h3;have Ic:SI X.K ⟨Gc,Hc,[]⟩ Gc Hc σc ρc:=vs.si fcH;have fz2:Fz G1 Hc:=f2.trans (fc.trans fcH);have yy:=IT.yld Hc i x H' fz2 y items[i] (qbN hlt);have yy2:(H'=Hc/\RepD X.K Gc x items[i])\/∃p xs es,Hc p=none/\H'=upd Hc p (.tup xs)/\x= .ref p/\items[i]= .tup es/\RepL X.K Gc xs es:=by
    rcases yy with⟨a,b⟩|⟨p,xs,es,a,b,c,d,e⟩
    ·exact .inl ⟨a,b.mono (f2.trans fc)⟩
    ·exact .inr ⟨p,xs,es,a,b,c,d,e.mono (f2.trans fc)⟩
   obtain⟨G3,I3,f3,r3⟩:=Ic.yld yy2;refine sg C s₀ H₀ fp _ G3 H' σc ρc x items[i] ρ5 _ I3 r3 h5 fun G4 H4 σ4 I4 f4=>st C s₀ H₀ fp _ G4 H4 σ4 ρ5 ok ρ6 _ I4 h6 fun G5 H5 I5 f5=>?_
   have facts:∀(G' H':Hp) (σ':St) (ρ':R),SI X.K ⟨Gc,Hc,[]⟩ G' H' σ' ρ'->(∀b o,G' b=some o->G2 b≠none\/H1 b=none)/\(∀b o,H1 b=some o->H' b=some o)/\G' DD=none/\H' DD=some (.lst xs):=fun G' H' σ' ρ' I'=>by
    refine⟨fun b o e=>?_,fun b o e=>I'.keep b o (kp b o e) (by simp),?_,I'.keep DD _ hDc (by simp)⟩
    ·rcases I'.new b o e with h|h
     ·have h:Gc b≠none:=h;cases q:Gc b with
      |none=>exact absurd q h
      |some u=>exact nw b u q
     ·refine .inr ?_;cases q:H1 b with
      |none=>rfl
      |some u=>have:=kp b u q;rw[show Hc b=none from h]at this;cases this
    ·cases q:G' DD with
     |none=>rfl
     |some u=>
      rcases I'.new DD u q with h|h
      ·exact absurd gD h
      ·rw[show Hc DD=none from h]at hDc;cases hDc
   cases ok with
   |false=>
    simp only[qbW,qbi]at h3
    split at h3
    ·rename_i hno;cases h3;obtain⟨a1,a2,a3,a4⟩:=facts G5 H5 σ4 _ I5;exact⟨items.length-(i+1),by lia,rfl,hlt,G5,_,acc,xs,rest2,ρ4,{fc:=fc.trans (f3.trans (f4.trans f5)),fcH:=I5.fz,nw:=a1,kp:=a2,gD:=a3,hDc:=a4,ra:=ra.mono (f3.trans (f4.trans f5)),hx:=by lia,vs:=VS.of I5 hno,ec:=h4,eall:=by simpa using eall}⟩
    ·cases h3
   |true=>
    simp only[if_true]at h3 ⊢;obtain⟨⟨dv,ρ7⟩,h7,h3⟩:=zaa h3;dsimp only at h3
    split at h3
    ·rename_i hno;cases h3;refine se C s₀ H₀ fp _ G5 H5 σ4 ρ6 dv _ _ I5 h7 fun G6 H6 v I6 f6 r6=>?_
     obtain⟨a1,a2,a3,a4⟩:=facts G6 H6 σ4 _ I6;have ff:Fz Gc G6:=f3.trans (f4.trans (f5.trans f6));exact⟨xs,a4,by rw[qaM];lia,items.length-(i+1),by lia,rfl,hlt,G6,_,acc++[dv],xs++[v],rest2,ρ4,{fc:=fc.trans ff,fcH:=I6.fz.right a3 _,nw:=a1,kp:=fun b o e=>by rw[zak (zaH e hD)];exact a2 b o e,gD:=a3,hDc:=zal,ra:=(ra.mono ff).snoc r6,hx:=by rw[qbc,List.length_singleton];lia,vs:=VS.of I6 hno,ec:=h4,eall:=by rw[eall];simp}⟩
    ·cases h3
  ·have e:i=items.length:=by lia
   subst e;rw[List.drop_length]at ec;cases ec;have hall:all=acc:=by rw[eall,qaY]
   refine .inl ⟨IT.stop Hc _ (f2.trans (fc.trans fcH)) (qaH _),?_⟩;rw[<-hall]at ra;exact k Gc Hc DD xs (I2.grow fc fcH nw kp) (f1.trans (f2.trans fc)) gD hDc ra (I2.there DD hD) (I2.own_ne hD nw kp)
 ·cases hm
theorem zkr (cap:List Nat)(t:Nat)(N:List Str)(hc:X.calm=true)(hi:SIt X tg iter mi)(hg:∀C s H fp,SG (cxC X N scope C s H fp) tg g)(ht:∀C s H fp,STs (cxC X N scope C s H fp) ifs mt)(he:∀C s H fp,SE (cxC X N scope C s H fp) elt me)
    (hk:autoParam (scope.kind= .function) zu3._auto_1) (hb:autoParam (blkB X.env scope=true) zu10._auto_1) (hcap:autoParam (capB scope.names N X.N cap t=true) zu10._auto_1)
    (hs:autoParam (∀x,foldedSetIterable iter X.env x=pure x) zu8._auto_1):SO X (.ListComp elt [⟨tg,iter,ifs,0⟩] scope pos) (oLC cap t mi g mt me):=by
  obtain⟨wi,pi,si⟩:=hi;exact⟨_,pe_lc hc (zn6 hk hb) (znv hcap) pi (fun C s H fp=>(hg C s H fp).choose_spec.1) (fun C s H fp=>(ht C s H fp).choose_spec.1) (fun C s H fp=>(he C s H fp).choose_spec.1) hs,
    zjg si (fun C s H fp=>(hg C s H fp).choose_spec.2) (fun C s H fp=>(ht C s H fp).choose_spec.2) (fun C s H fp=>(he C s H fp).choose_spec.2)⟩
end
section
variable {X:Cx} {elt iter tg:Expr} {ifs:List Expr} {scope:Scope} {pos lpos pos':Pos} {N:List Str} {cap:List Nat} {t:Nat} {mi:MA} {g:D->R->Option R} {mt:MT} {me:ME}
theorem zlF {σ0:St->St}(hN:X.N.Nodup)(hxi:X.N[i]? =some x)(hx:Loc X.env.scope x)(hf:X.fn x=true\/X.env.scope.names.lookup x=some .local)
  (hsw:swapsWith (.ListComp elt [⟨tg,iter,ifs,0⟩] scope lpos) (some (.Name x pos')) pos.line X.env=pure true) (hc:X.calm=true) (b:BlkOk X scope) (cap:Cap X scope N σ0) (hi:PI X tg iter wi) (hg:∀C s H fp,PG (cxC X N scope C s H fp) tg (tg' C s H fp)) (ht:∀C s H fp,PTs (cxC X N scope C s H fp) ifs (tt C s H fp)) (he:∀C s H fp,PE (cxC X N scope C s H fp) elt (te C s H fp))
  (hs:∀x,foldedSetIterable iter X.env x=pure x):PS X (.Assign [.Name x pos'] (.ListComp elt [⟨tg,iter,ifs,0⟩] scope lpos) pos) (fun E σ H=>tLC σ0 wi tg' tt te σ H fun v H'=>E.nx (σ.set i (some v)) H'):=by
 intro pins s σ H E I h;rw[exec_Assign_Name_used _ _ _ _ hsw];refine qaB (wpAny_standAt (qaB ?_));show wpAny _ _ (do let _<-comprehension (.ListComp elt [⟨tg,iter,ifs,0⟩] scope lpos) scope X.env _ (newList []) false (eval iter X.env) (some (assign (.Name x pos') X.env))) _ _ s;refine qaB (thn (znM (use:=some (assign (.Name x pos') X.env)) (QQ:=fun _ s'=>SP X pins E .next s') (E:=X.xe) hc b cap hi hg ht he I h hs ?_) fun _ s' hq=>qaE (qaE hq));intro D fp C H1 H' σc s1 s' I1 f1 eC J q;subst eC;have I2:Inv X pins σ H' s':=by
  have z:=zm2 (h':=s'.heap) I1 f1 J (Heap.SameBut.refl _ _);exact z
 obtain⟨m,⟨o,es,ep,ho,hd,hrest⟩,_⟩:=J.loc;have fpk:FpOk X pins H' s1.heap.objs.size:=I1.fpOk (qaH _) J.free;have I3:Inv X (pins++[(s1.heap.objs.size,o)]) σ H' s':=I2.pins_of fun p hp=>by
  rcases qar.mp hp with hp|hp
  ·exact I2.pin p (qaK _ hp)
  ·have e:p=(s1.heap.objs.size,o):=by simpa using hp
   subst e;exact⟨ho,fpk.1,fpk.2.1,fpk.2.2.1,fun v z=>by rw[hd]at z;cases z⟩
 refine thn (zkx hN hxi hx hf (pins++[(s1.heap.objs.size,o)]) s' σ H' (.ref D) (.ref D) (fun σ2 H2=>E.nx σ2 H2) I3 rfl q) fun _ s'' ⟨σ2,H2,I4,q4⟩=>?_
 have pC:=I4.pin (s1.heap.objs.size,o) (qaK _ (qaK _ (by simp)));refine⟨m,⟨o,es,ep,pC.1,hd,hrest⟩,fun h' hs'=>?_⟩;have I5:Inv X pins σ2 H2 s'':=I4.unpinned;have fp2:FpOk X pins H2 s1.heap.objs.size:=I1.fpOk (qaH _) pC.2.1;have I6:=I5.turned (t':=s''.toks) (h':=h') (it:=s1.heap.objs.size) (fun b' o' hb e=>hs'.extBut b' o' hb e) fp2.1 fp2.2.1 fp2.2.2.2.1 fp2.2.2.2.2.1 fp2.2.2.2.2.2;exact⟨σ2,H2,I6,q4⟩
theorem ss_setLC (i:Nat)(cap:List Nat)(t:Nat)(N:List Str)(hc:X.calm=true)(hi:SIt X tg iter mi)(hg:∀C s H fp,SG (cxC X N scope C s H fp) tg g)(ht:∀C s H fp,STs (cxC X N scope C s H fp) ifs mt)(he:∀C s H fp,SE (cxC X N scope C s H fp) elt me)(hN:X.N.Nodup)
    (hxi:autoParam (X.N[i]? =some x) zu3._auto_1) (hx:autoParam (Loc X.env.scope x) zu9._auto_1) (hf:autoParam (X.fn x=true\/X.env.scope.names.lookup x=some .local) zu9._auto_1)
    (hsw:autoParam (swapsWith (.ListComp elt [⟨tg,iter,ifs,0⟩] scope lpos) (some (.Name x pos')) pos.line X.env=pure true) zu3._auto_1)
    (hk:autoParam (scope.kind= .function) zu3._auto_1) (hb:autoParam (blkB X.env scope=true) zu10._auto_1) (hcap:autoParam (capB scope.names N X.N cap t=true) zu10._auto_1)
    (hs:autoParam (∀x,foldedSetIterable iter X.env x=pure x) zu8._auto_1):SS X (.Assign [.Name x pos'] (.ListComp elt [⟨tg,iter,ifs,0⟩] scope lpos) pos) (zi7 i (oLC cap t mi g mt me)):=by
  obtain⟨wi,pi,si⟩:=hi;refine⟨_,zlF hN hxi hx hf hsw hc (zn6 hk hb) (znv hcap) pi (fun C s H fp=>(hg C s H fp).choose_spec.1) (fun C s H fp=>(ht C s H fp).choose_spec.1) (fun C s H fp=>(he C s H fp).choose_spec.1) hs,fun B G H σ ρ fl ρ' E I hm k=>?_⟩;obtain⟨⟨d,ρ1⟩,e1,e3⟩:=zaf hm;obtain⟨rfl,rfl⟩:=Prod.mk.inj e3;exact zjg si (fun C s H fp=>(hg C s H fp).choose_spec.2) (fun C s H fp=>(ht C s H fp).choose_spec.2) (fun C s H fp=>(he C s H fp).choose_spec.2) B G H σ ρ d ρ1 _ I e1 fun G1 H1 l xs I1 f1 g1 h1 r1 b1 n1=>k G1 H1 _ (I1.setO g1 h1 r1 b1 n1) f1
end
section
variable {X:Cx} {pins:List (Addr×Obj)} {σ:St} {H:Hp} {s:Shared}
theorem zlk {A:Around}(hh:A.handled=none)(I:Inv X pins σ H s)(hq:SqL X.K H p ys\/SqT X.K H p ys)
  (k : ∀ (its : List Value) (s₂ : Shared) (St : Nat -> Heap -> Prop), Vals ys its -> Walks X.prog X.w A s.heap.objs.size [s.heap.objs.size, p] [s.heap.objs.size] its.length (fun i v => its[i]? = some v) St -> St 0 s₂.heap -> (∀ b ∈ [s.heap.objs.size, p], b < s₂.heap.objs.size) ->
   (∀h' tk,(∀b o,b∉[s.heap.objs.size]->s₂.heap.get? b=some o->h'.get? b=some o)->Inv X pins σ H {s₂ with heap:=h',toks:=tk})->Q (.ref s.heap.objs.size) s₂):wpAny (model X.prog X.w) A (pyIter (.ref p)) Q E s:=by
 have fin:∀(o:Obj),∀h' tk,(∀b o',b∉[s.heap.objs.size]->(s.heap.push o).get? b=some o'->h'.get? b=some o')->Inv X pins σ H {({s with heap:=s.heap.push o}:Shared)with heap:=h',toks:=tk}:=fun o h' tk hk=>by
  have z:=I.kept (h':=h') (t':=tk) fun b o' e=>hk b o' (by simpa using qah (qae e)) (qaF _ e)
  exact z
 rcases hq with hq|hq
 ·obtain⟨its,r,pl,hz⟩:=I.list hq;have hlt:p<s.heap.objs.size:=by obtain⟨_,_,e,_⟩:=pl;exact qae e
  refine qbQ pl.isList (k its _ (fun i h=>h.IsListIter s.heap.objs.size p i/\h.IsList p its.toArray) r ?_ ⟨⟨_,qaG _ rfl,rfl,rfl⟩,pl.isList.push _⟩ (fun b hb=>?_) (fin _))
  ·have w:=Walks.list (prog:=X.prog) (w:=X.w) (A:=A) hh s.heap.objs.size p (qah hlt) its.toArray;simpa using w
  ·show b<(s.heap.push _).objs.size;rw[qaU];simp at hb;rcases hb with z|z
   ·rw[z];exact qaV _
   ·rw[z];exact qbV hlt
 ·obtain⟨its,r,pl,hz⟩:=I.tuple hq;have hlt:p<s.heap.objs.size:=pl.lt;refine qbR (show s.heap.IsTuple p its.toArray from pl) (k its _ (fun i h=>h.IsTupleIter s.heap.objs.size p i/\h.IsTuple p its.toArray) r ?_ ⟨⟨_,qaG _ rfl,rfl,rfl⟩,(show s.heap.IsTuple p its.toArray from pl).push _⟩ (fun b hb=>?_) (fin _))
  ·have w:=Walks.tuple (prog:=X.prog) (w:=X.w) (A:=A) hh s.heap.objs.size p (qah hlt) its.toArray;simpa using w
  ·show b<(s.heap.push _).objs.size;rw[qaU];simp at hb;rcases hb with z|z
   ·rw[z];exact qaV _
   ·rw[z];exact qbV hlt
end
theorem zie (ns:List Int):∀j,preSum (fun i=>ns.getD i 0) j=(ns.take j).sum
 |0=>by simp[preSum]
 |j+1=>by
  rw[preSum,zie ns j]
  by_cases h:j<ns.length
  ·rw[qbZ h,qb0];simp[h]
  ·rw[qb1 (by lia),qb1 (by lia)];simp[qb2 (by lia:ns.length<=j)]
theorem ints_get (r:Vals (ns.map V.int) its){v:Value}(e:its[i]? =some v):∃t,v= .int (ns.getD i 0) t:=by
 have hl:=r.length;have hi:i<its.length:=(qat.mp e).1;rw[qaT]at hl;have e2:(ns.map V.int)[i]? =some (.int ns[i]):=by rw[qba,qbN (by lia)];rfl
 obtain⟨u,h1,t,h2⟩:=r.get e2;rw[e]at h1;cases h1;exact⟨t,by rw[h2];simp[show i<ns.length by lia]⟩
noncomputable def rSum (K:W.Frag):List V->Hp->VK->Prop:=fun xs H Q=>∃(p:Addr) (ns:List Int),xs=[.ref p]/\(SqL K H p (ns.map V.int)\/SqT K H p (ns.map V.int))/\Q (.int ns.sum) H
theorem zmZ (hc:X.calm=true):zeV X (.builtin "sum") (rSum X.K):=by
 intro pins s σ H xs us Q I r h;obtain⟨p,ns,rfl,hq,q⟩:=h;obtain⟨u,rfl,ru⟩:=zhZ r;cases ru;refine call_sum_walkG (zlk (A:=X.A.in1) (I.ok.hd hc) I hq fun its s₂ St rv W st hfp fin=>?_);refine⟨_,_,_,_,_,_,fun i=>ns.getD i 0,rfl,W,st,hfp,fun i v e=>ints_get rv e,fun h' tk t' hk=>⟨.int ns.sum,H,fin h' tk hk,⟨t',?_⟩,q⟩⟩;have hl:=rv.length;rw[qaT]at hl;rw[zie,<-hl,qb1 (qaH _)]
noncomputable def za5:List D->Option (List Int)
 |[]=>some []
 | .int i::ds=>(za5 ds).map (i:: ·)
 |_=>none
theorem zdA:∀{ds:List D} {ns:List Int},za5 ds=some ns->ds=ns.map .int
 |[],ns,h=>by cases h;rfl
 |d::ds,ns,h=>by
  cases d<;>simp only[za5]at h<;>try cases h
  obtain⟨ms,e1,e2⟩:=zaf h;subst e2;rw[zdA e1];rfl
@[simp] theorem intsOf_map:∀(ns:List Int),za5 (ns.map .int)=some ns
 |[]=>rfl
 |n::ns=>by simp[za5,intsOf_map ns]
noncomputable def dSum:List D->Option D
 |[d]=>(zcu [d]).bind fun ds=>(za5 ds).map fun ns=> .int ns.sum
 |_=>none
theorem ziY (I:SI K B G H σ ρ){x:V}(r:RepD K G x d)(e:zcu [d]=some ds):∃p ys,x= .ref p/\(SqL K H p ys\/SqT K H p ys)/\RepL K G ys ds:=by
 cases d<;>simp only[zcu]at e<;>try cases e
 ·obtain⟨p,ys,ex,hp,q⟩:=I.lst r;exact⟨p,ys,ex,.inl (SqL.of hp),q⟩
 ·obtain⟨p,ys,ex,hp,q⟩:=I.tup r;exact⟨p,ys,ex,.inr (SqT.of hp),q⟩
 ·obtain⟨p,ex,hp⟩:=r;exact⟨p,_,ex,.inl (I.fz.sql hp),RepL.ints _⟩
theorem vc_sum:VC X (rSum X.K) dSum:=by
 intro B G H σ ρ xs ds d Q I r hf k
 match ds,hf with
 |[a],hf=>
  obtain⟨es,e1,hf⟩:=zaa hf;obtain⟨ns,e2,e3⟩:=zaf hf;subst e3;obtain⟨x,rfl,ra⟩:=r.one;obtain⟨p,ys,rfl,hq,ry⟩:=ziY I ra e1;rw[zdA e2]at ry;rw[RepL.ints_eq ry]at hq;exact⟨p,ns,rfl,hq,k G H _ I (Fz.refl G) rfl⟩
 |[],hf=>cases hf
 |_::_::_,hf=>cases hf
theorem zj7 {p pos:Pos}(hc:X.calm=true)(ml:X.mg "sum"=none)(ha:SA X [e] ma)(hg:autoParam (Gl X "sum") zu3._auto_1)(he:autoParam (starEach [e] X.env=(false,eval e X.env)::starEach [] X.env) zu3._auto_1):SE X (.Call (.Name "sum" p) [e] [] pos) (mC dSum ma):=
 ziA (zmZ hc) vc_sum (by decide+kernel) ml ha hg (by decide) (by decide) he rfl
noncomputable def zey:List D->Option (List Bool)
 |[]=>some []
 | .bl b::ds=>(zey ds).map (b:: ·)
 |_=>none
theorem zii:∀{ds:List D} {bs:List Bool},zey ds=some bs->ds=bs.map .bl
 |[],ns,h=>by cases h;rfl
 |d::ds,ns,h=>by
  cases d<;>simp only[zey]at h<;>try cases h
  obtain⟨ms,e1,e2⟩:=zaf h;subst e2;rw[zii e1];rfl
@[simp] theorem boolsOf_map:∀(bs:List Bool),zey (bs.map .bl)=some bs
 |[]=>rfl
 |n::ns=>by simp[zey,boolsOf_map ns]
theorem RepL.bools_eq:∀{bs:List Bool} {xs:List V},RepL K G xs (bs.map D.bl)->xs=bs.map V.bl
 |[],_,e=>e
 |n::ns,_,⟨x,ys,e,q,r⟩=>by subst e;cases(show x=V.bl n from q);rw[RepL.bools_eq r];rfl
theorem zo4 {bs:List Bool}(r:Vals (bs.map V.bl) its){v:Value}(e:its[i]? =some v):∃b,bs[i]? =some b/\v= .bool b:=by
 have hl:=r.length;have hi:i<its.length:=(qat.mp e).1;rw[qaT]at hl;have e2:(bs.map V.bl)[i]? =some (.bl bs[i]):=by rw[qba,qbN (by lia)];rfl
 obtain⟨u,h1,h2⟩:=r.get e2;rw[e]at h1;cases h1;exact⟨bs[i],qbN (by lia),h2⟩
noncomputable def rAll (K:W.Frag)(f:List Bool->Bool):List V->Hp->VK->Prop:=fun xs H Q=>∃(p:Addr) (bs:List Bool),xs=[.ref p]/\(SqL K H p (bs.map V.bl)\/SqT K H p (bs.map V.bl))/\Q (.bl (f bs)) H
theorem zov (hc:X.calm=true):zeV X (.builtin "all") (rAll X.K fun bs=>bs.all id):=by
 intro pins s σ H xs us Q I r h;obtain⟨p,bs,rfl,hq,q⟩:=h;obtain⟨u,rfl,ru⟩:=zhZ r;cases ru;refine call_all_walk (zlk (A:=X.A.in1) (I.ok.hd hc) I hq fun its s₂ St rv W st hfp fin=>?_);have hl:=rv.length;rw[qaT]at hl;refine⟨_,_,_,_,_,_,fun i=>(bs[i]?).getD true,rfl,W,st,fun i v s' Q' E' hP hQ=>?_,fun h' tk hk=>⟨.bl (bs.all id),H,fin h' tk hk,?_,q⟩⟩
 ·obtain⟨b,e,rfl⟩:=zo4 rv hP;simp only[e,Option.getD_some]at hQ;exact qay hQ
 ·rw[<-hl,LSm.range_all];rfl
noncomputable def dAll (f:List Bool->Bool):List D->Option D
 |[d]=>(zcu [d]).bind fun ds=>(zey ds).map fun bs=> .bl (f bs)
 |_=>none
theorem vc_all (f:List Bool->Bool):VC X (rAll X.K f) (dAll f):=by
 intro B G H σ ρ xs ds d Q I r hf k
 match ds,hf with
 |[a],hf=>
  obtain⟨es,e1,hf⟩:=zaa hf;obtain⟨ns,e2,e3⟩:=zaf hf;subst e3;obtain⟨x,rfl,ra⟩:=r.one;obtain⟨p,ys,rfl,hq,ry⟩:=ziY I ra e1;rw[zii e2]at ry;rw[RepL.bools_eq ry]at hq;exact⟨p,ns,rfl,hq,k G H _ I (Fz.refl G) rfl⟩
 |[],hf=>cases hf
 |_::_::_,hf=>cases hf
theorem se_all {p pos:Pos}(hc:X.calm=true)(ml:X.mg "all"=none)(ha:SA X [e] ma)(hg:autoParam (Gl X "all") zu3._auto_1)(he:autoParam (starEach [e] X.env=(false,eval e X.env)::starEach [] X.env) zu3._auto_1):SE X (.Call (.Name "all" p) [e] [] pos) (mC (dAll fun bs=>bs.all id) ma):=
 ziA (zov hc) (vc_all _) (by decide+kernel) ml ha hg (by decide) (by decide) he rfl
noncomputable def d2I (g:Int->Int->Int):List D->Option D
 |[.int i,.int j]=>some (.int (g i j))
 |_=>none
theorem vc_2I (g:Int->Int->Int):VC X (fun xs H Q=>∃i j,xs=[.int i,.int j]/\Q (.int (g i j)) H) (d2I g):=by
 intro B G H σ ρ xs ds d Q I r hf k;unfold d2I at hf
 split at hf
 ·rename_i i j;cases hf;obtain⟨x,y,rfl,rx,ry⟩:=r.two;cases(show x=V.int i from rx);cases(show y=V.int j from ry);exact⟨i,j,rfl,k G H _ I (Fz.refl G) rfl⟩
 ·cases hf
noncomputable def min2 (i j:Int):Int:=if j<i then j else i
theorem zoF {p pos:Pos}(hc:X.calm=true)(ml:X.mg "min"=none)(ha:SA X [a,b] ma)(hg:autoParam (Gl X "min") zu3._auto_1)(he:autoParam (starEach [a,b] X.env=(false,eval a X.env)::starEach [b] X.env) zu3._auto_1)(hpl:autoParam ((backTo pos (starEach [b] X.env)).any (·.1)=false) zu3._auto_1):SE X (.Call (.Name "min" p) [a,b] [] pos) (mC (d2I min2) ma):=
 ziA (zol hc) (vc_2I min2) (by decide+kernel) ml ha hg (by decide) (by decide) he hpl
noncomputable def dInt:List D->Option D
 |[.int i]=>some (.int i)
 |[.bl b]=>some (.int (if b then 1 else 0))
 |_=>none
theorem zje {p pos:Pos}(ml:X.mg "int"=none)(ha:SA X [a] ma)(hg:autoParam (Gl X "int") zu3._auto_1)(he:autoParam (starEach [a] X.env=(false,eval a X.env)::starEach [] X.env) zu3._auto_1):SE X (.Call (.Name "int" p) [a] [] pos) (mC dInt ma):=
 zoo znA (fun B G H σ ρ xs ds d Q I r hf k=>by
  unfold dInt at hf
  split at hf
  ·rename_i i;cases hf;obtain⟨x,rfl,rx⟩:=r.one;cases(show x=V.int i from rx);exact .inl ⟨i,rfl,k G H _ I (Fz.refl G) rfl⟩
  ·rename_i b;cases hf;obtain⟨x,rfl,rx⟩:=r.one;cases(show x=V.bl b from rx);exact .inr ⟨b,rfl,k G H _ I (Fz.refl G) rfl⟩
  ·cases hf) (by decide+kernel) ml ha hg (by decide) (by decide) he rfl
theorem zgH (K:W.Frag):W.kitOne K (.type "NoneType") (.type "int")=some false:=by kernel_rfl
theorem zgg (K:W.Frag):W.kitOne K (.type "NoneType") (.type "bool")=some false:=by kernel_rfl
theorem zfr (K:W.Frag):W.kitOne K (.type "NoneType") (.type "tuple")=some false:=by kernel_rfl
theorem zga (K:W.Frag):W.kitOne K (.type "NoneType") (.type "list")=some false:=by kernel_rfl
theorem zgI (K:W.Frag):W.kitOne K (.type "NoneType") (.type "str")=some false:=by kernel_rfl
theorem zjo (K:W.Frag):W.kitOne K (.type "bool") (.type "int")=some true:=by kernel_rfl
theorem ziX (K:W.Frag):W.kitOne K (.type "bool") (.type "bool")=some true:=by kernel_rfl
theorem zh1 (K:W.Frag):W.kitOne K (.type "bool") (.type "tuple")=some false:=by kernel_rfl
theorem ziF (K:W.Frag):W.kitOne K (.type "bool") (.type "list")=some false:=by kernel_rfl
theorem zkd (K:W.Frag):W.kitOne K (.type "bool") (.type "str")=some false:=by kernel_rfl
theorem zkT (K:W.Frag):W.kitOne K (.type "int") (.type "int")=some true:=by kernel_rfl
theorem zj1 (K:W.Frag):W.kitOne K (.type "int") (.type "bool")=some false:=by kernel_rfl
theorem ziB (K:W.Frag):W.kitOne K (.type "int") (.type "tuple")=some false:=by kernel_rfl
theorem zjs (K:W.Frag):W.kitOne K (.type "int") (.type "list")=some false:=by kernel_rfl
theorem zku (K:W.Frag):W.kitOne K (.type "int") (.type "str")=some false:=by kernel_rfl
theorem zko (K:W.Frag):W.kitOne K (.type "str") (.type "int")=some false:=by kernel_rfl
theorem zjk (K:W.Frag):W.kitOne K (.type "str") (.type "bool")=some false:=by kernel_rfl
theorem zjh (K:W.Frag):W.kitOne K (.type "str") (.type "tuple")=some false:=by kernel_rfl
theorem zki (K:W.Frag):W.kitOne K (.type "str") (.type "list")=some false:=by kernel_rfl
theorem zky (K:W.Frag):W.kitOne K (.type "str") (.type "str")=some true:=by kernel_rfl
theorem zjE (K:W.Frag):W.kitOne K (.type "list") (.type "int")=some false:=by kernel_rfl
theorem ziJ (K:W.Frag):W.kitOne K (.type "list") (.type "bool")=some false:=by kernel_rfl
theorem zhY (K:W.Frag):W.kitOne K (.type "list") (.type "tuple")=some false:=by kernel_rfl
theorem ziD (K:W.Frag):W.kitOne K (.type "list") (.type "list")=some true:=by kernel_rfl
theorem zjU (K:W.Frag):W.kitOne K (.type "list") (.type "str")=some false:=by kernel_rfl
theorem ziy (K:W.Frag):W.kitOne K (.type "tuple") (.type "int")=some false:=by kernel_rfl
theorem zhX (K:W.Frag):W.kitOne K (.type "tuple") (.type "bool")=some false:=by kernel_rfl
theorem zhh (K:W.Frag):W.kitOne K (.type "tuple") (.type "tuple")=some true:=by kernel_rfl
theorem zhV (K:W.Frag):W.kitOne K (.type "tuple") (.type "list")=some false:=by kernel_rfl
theorem ziO (K:W.Frag):W.kitOne K (.type "tuple") (.type "str")=some false:=by kernel_rfl
noncomputable def isI (T:String):D->Bool
 | .non=>false
 | .bl _=>T=="bool"||T=="int"
 | .int _=>T=="int"
 | .str _=>T=="str"
 | .lst _=>T=="list"
 | .tup _=>T=="tuple"
 | .scr _=>T=="list"
 | .exc _=>false
 | .dic _ _=>false
 | .dit _ _=>false
noncomputable def okT (T:String):Bool:=["int","bool","tuple","list","str"].contains T
noncomputable def rIsI (K:W.Frag)(T:String):List V->Hp->VK->Prop:=fun xs H Q=>∃x t b,xs=[x,.ty T]/\TyOf K H x t/\W.kitOne K t (.type T)=some b/\Q (.bl b) H
theorem call_isI (T:String):zeV X (.builtin "isinstance") (rIsI X.K T):=by
 intro pins s σ H xs us Q I r h;obtain⟨x,t,b,rfl,ty,e,q⟩:=h;obtain⟨u,w',rfl,r1,r2⟩:=vals2 r;cases(show w'=Value.type T from r2);exact znx I r1 ty e fun tk=>⟨.bl b,H,I.tok _,rfl,q⟩
noncomputable def eIsI (T:String)(ma:ME):ME:=fun ρ=>(ma ρ).bind fun p=>if okT T&&noS1 p.1 then some (.bl (isI T p.1),p.2)else none
where noS1:D->Bool
 | .scr _=>false
 | .exc _=>false
 | .dic _ _=>false
 | .dit _ _=>false
 |_=>true
theorem kit_all (K:W.Frag){T:String}(hT:okT T=true):W.kitOne K (.type "NoneType") (.type T)=some false/\W.kitOne K (.type "bool") (.type T)=some (T=="bool"||T=="int")/\W.kitOne K (.type "int") (.type T)=some (T=="int")/\
  W.kitOne K (.type "str") (.type T)=some (T=="str")/\W.kitOne K (.type "list") (.type T)=some (T=="list")/\W.kitOne K (.type "tuple") (.type T)=some (T=="tuple"):=by
 have h:T="int"\/T="bool"\/T="tuple"\/T="list"\/T="str":=by simpa[okT]using hT
 rcases h with rfl|rfl|rfl|rfl|rfl
 ·exact⟨zgH K,zjo K,zkT K,zko K,zjE K,ziy K⟩
 ·exact⟨zgg K,ziX K,zj1 K,zjk K,ziJ K,zhX K⟩
 ·exact⟨zfr K,zh1 K,ziB K,zjh K,zhY K,zhh K⟩
 ·exact⟨zga K,ziF K,zjs K,zki K,ziD K,zhV K⟩
 ·exact⟨zgI K,zkd K,zku K,zky K,zjU K,ziO K⟩
theorem zib {ma:ME}{p q pos:Pos}(T:String)(ml:X.mg "isinstance"=none)(mT:X.mg x=none)(hbT:bootBuiltins x=some (.type T))(ha:SE X a ma)(hg:autoParam (Gl X "isinstance") zu3._auto_1)(hgT:autoParam (Gl X x) zu3._auto_1)(hn:autoParam (x≠"__name__") zu1._auto_1)(hd:autoParam ((x==("__debug__":Str))=false) zu1._auto_1)
  (he:autoParam (starEach [a,.Name x q] X.env=(false,eval a X.env)::starEach [.Name x q] X.env) zu3._auto_1) (he2:autoParam (starEach [.Name x q] X.env=(false,eval (.Name x q) X.env)::starEach [] X.env) zu3._auto_1) (hpl:autoParam ((backTo pos (starEach [.Name x q] X.env)).any (·.1)=false) zu3._auto_1):
  SE X (.Call (.Name "isinstance" p) [a,.Name x q] [] pos) (eIsI T ma):=by
 obtain⟨ta,pa,sa⟩:=ha;refine⟨_,zdM (call_isI T) hg ml boot_isinstance (zaG pa (zaG (zoP (v:= .ty T) hgT mT hbT rfl hn hd) zbX he2) he) (by decide) (by decide) he hpl,fun B G H σ ρ d ρ' Q I hm k=>?_⟩;obtain⟨⟨y,ρ1⟩,e1,hm⟩:=zaa hm;dsimp only at hm
 split at hm
 ·rename_i hT;obtain⟨rfl,rfl⟩:=Prod.mk.inj (Option.some.inj hm);rw[qbo]at hT;obtain⟨hT,hS⟩:=hT;refine sa B G H σ ρ y ρ1 _ I e1 fun G1 H1 v I1 f1 r1=>?_
  obtain⟨k0,k1,k2,k3,k4,k5⟩:=kit_all X.K hT;have fin:∀t,TyOf X.K H1 v t->W.kitOne X.K t (.type T)=some (isI T y)->rIsI X.K T [v,.ty T] H1 Q:=fun t ty e=>⟨v,t,isI T y,rfl,ty,e,k G1 H1 _ I1 f1 rfl⟩
  cases y with
  |non=>cases(show v=V.non from r1);exact fin _ .non k0
  |bl c=>cases(show v=V.bl c from r1);exact fin _ (.bl c) k1
  |int c=>cases(show v=V.int c from r1);exact fin _ (.int c) k2
  |str c=>cases(show v=V.str c from r1);exact fin _ (.str c) k3
  |lst ds=>obtain⟨a,xs,e,hp,r⟩:=I1.lst r1;subst e;exact fin _ (.lst hp) k4
  |tup ds=>obtain⟨a,xs,e,hp,r⟩:=I1.tup r1;subst e;exact fin _ (.tup hp) k5
  |scr _=>cases hS
  |exc _=>cases hS
  |dic _ _=>cases hS
  |dit _ _=>cases hS
 ·cases hm
noncomputable def cutD {α:Type}(xs:List α)(lo hi:Option Int):List α:=(xs.drop (HT.sIx xs.length 0 lo)).take (HT.sIx xs.length xs.length hi-HT.sIx xs.length 0 lo)
theorem RepL.cut (h:RepL K G xs ds)(lo hi:Option Int):RepL K G (cutV xs lo hi) (cutD ds lo hi):=by
 unfold cutV cutD;rw[h.length];exact(h.drop _).take _
section
variable {prog:Program} {w:World} {A:Around} {E:Value->Shared->Prop} {s:Shared}
theorem zfg {t sl:Addr}{items:Array Value}{vl vu:Value}{lo hi:Option Int}(ht:IsTup s.heap t items)(hs:s.heap.IsSliceOf sl vl vu .none)(pl:IsPart vl lo)(pu:IsPart vu hi)
  (hw:HT.sIx items.size 0 lo=0/\HT.sIx items.size items.size hi=items.size) (h:Q (.ref t) s):wpAny (model prog w) A (getItem (.ref t) (.ref sl)) Q E s:=by
 obtain⟨os,hos,hcs,hds⟩:=id hs;have hTs:s.TypeIs (.ref sl) "slice":=⟨os,hos,hcs⟩;unfold getItem
 try with_reducible refine qaC ?_
 first|refine qaB (qaE ?_)|skip
 refine qaB (wpAny_sequenceKey ht.typeIs (by decide) ?_);refine qaB (qbk (name:=Str.ofString "__getitem__") ht.typeIs qbl
  (qbm qbl ht.typeIs entry_tuple_getitem ?_ (args_tuple_getitem _ _)))
 show wpAny _ _ (Builtin.Tuple.tupleItemsOf (.ref t)>>=_) _ _ s;refine qaB (tupleItemsOf_ ht ?_);refine qaB (qbn hTs ?_);rw[if_pos (by decide)];refine qaB (HT.zd2 hs pl pu ?_);have hyes:(((HT.sIx items.size 0 lo:Nat):Int)==0&&(1:Int)==1&&(HT.sIx items.size items.size hi-HT.sIx items.size 0 lo)==items.size)=true:=by
  rw[hw.1,hw.2];simp
 show wpAny _ _ (if(((HT.sIx items.size 0 lo:Nat):Int)==0&&(1:Int)==1&&(HT.sIx items.size items.size hi-HT.sIx items.size 0 lo)==items.size)=true then _ else _) _ _ s;rw[if_pos hyes];refine qaB (m:=Builtin.Tuple.tupleIsExact _) ?_;unfold Builtin.Tuple.tupleIsExact;refine qaB (qbn ht.typeIs (qaE ?_));rw[if_pos (by decide)];refine qaB (qb3 ?_);exact qaE ⟨_,rfl,qaE h⟩
end
noncomputable def rSlTW (K:W.Frag):V->Option Int->Option Int->Hp->VK->Prop:=fun x lo hi H Q=>∃a xs,x= .ref a/\SqT K H a xs/\(HT.sIx xs.length 0 lo=0/\HT.sIx xs.length xs.length hi=xs.length)/\Q (.ref a) H
theorem sl_tupW:SlR X (rSlTW X.K):=by
 intro pins s σ H x v vl vu lo hi sl Q I rx hs pl pu h;obtain⟨a,xs,rfl,hx,hw,q⟩:=h;cases rx;obtain⟨its,r,ht,hz⟩:=I.tuple hx;have hlen:its.toArray.size=xs.length:=by rw[qaN];exact r.length.symm
 refine⟨"tuple",_,PyProof.Rows.slot_tuple_getitem.lookup,ht.typeIs,?_⟩;exact zfg ht hs pl pu (by rw[hlen];exact hw) ⟨.ref a,H,I,rfl,q⟩
noncomputable abbrev MP:=R->Option (Option Int×R)
noncomputable def SPt (X:Cx)(e:Option Expr)(m:MP):Prop:=∃t,PO X e t/\∀B G H σ ρ o ρ' (Q:Option Int->Hp->Prop),SI X.K B G H σ ρ->m ρ=some (o,ρ')->(∀G' H',SI X.K B G' H' σ ρ'->Fz G G'->Q o H')->t σ H Q
noncomputable def pNo:MP:=fun ρ=>some (none,ρ)
noncomputable def zkI (m:ME):MP:=fun ρ=>(m ρ).bind fun p=>match p.1 with
 | .int i=>some (some i,p.2)
 |_=>none
theorem zoV:SPt X none pNo:=⟨_,po_none,fun B G H σ ρ o ρ' Q I hm k=>by cases hm;exact k G H I (Fz.refl G)⟩
theorem zhQ {m:ME}(h:SE X e m):SPt X (some e) (zkI m):=by
 obtain⟨t,p,s⟩:=h;refine⟨_,po_some p,fun B G H σ ρ o ρ' Q I hm k=>?_⟩;obtain⟨⟨d,ρ1⟩,e1,hm⟩:=zaa hm;refine s B G H σ ρ d ρ1 _ I e1 fun G1 H1 v I1 f1 r1=>?_
 cases d<;>try cases hm
 rename_i i;exact⟨i,r1,k G1 H1 I1 f1⟩
noncomputable def dCut (d:D)(lo hi:Option Int):Option D:=match d with
 | .lst ds=>some (.lst (cutD ds lo hi))
 | .tup ds=>some (.tup (cutD ds lo hi))
 | .scr ns=>some (.lst ((cutD ns lo hi).map .int))
 |_=>none
noncomputable def eCut (ma:ME)(ml mh:MP):ME:=fun ρ=>(ma ρ).bind fun p=>(ml p.2).bind fun q=>(mh q.2).bind fun r=>(dCut p.1 q.1 r.1).map fun d=>(d,r.2)
theorem zoc (ns:List Int)(lo hi:Option Int):cutV (ns.map V.int) lo hi=(cutD ns lo hi).map V.int:=by
 unfold cutV cutD;rw[qaT,<-List.map_drop,<-List.map_take]
theorem se_cut {lo hi:Option Expr}{ma:ME}{ml mh:MP}{pos p2:Pos}(he:SE X e ma)(hl:SPt X lo ml)(hu:SPt X hi mh):SE X (.Subscript e (.Slice lo hi none p2) pos) (eCut ma ml mh):=by
 obtain⟨ta,pa,sa⟩:=he;obtain⟨tl,pl,sl⟩:=hl;obtain⟨th,ph,sh⟩:=hu;refine⟨_,pe_slice (sl_list.or (sl_tup.or sl_tupW)) pa pl ph,fun B G H σ ρ d ρ' Q I hm k=>?_⟩;obtain⟨⟨x,ρ1⟩,e1,hm⟩:=zaa hm;obtain⟨⟨l,ρ2⟩,e2,hm⟩:=zaa hm;obtain⟨⟨u,ρ3⟩,e3,hm⟩:=zaa hm;obtain⟨c,e4,e5⟩:=zaf hm;obtain⟨rfl,rfl⟩:=Prod.mk.inj e5;refine sa B G H σ ρ x ρ1 _ I e1 fun G1 H1 v I1 f1 r1=>sl B G1 H1 σ ρ1 l ρ2 _ I1 e2 fun G2 H2 I2 f2=>sh B G2 H2 σ ρ2 u ρ3 _ I2 e3 fun G3 H3 I3 f3=>?_
 have r3:=r1.mono (f2.trans f3);dsimp only at e4;cases x with
 |exc _=>cases e4
 |dic _ _=>cases e4
 |dit _ _=>cases e4
 |non=>cases e4
 |bl _=>cases e4
 |int _=>cases e4
 |str _=>cases e4
 |lst ds=>
  cases e4;obtain⟨a,xs,rfl,ha,r⟩:=I3.lst r3;refine .inl ⟨a,xs,rfl,SqL.of ha,fun p hp=>?_⟩;obtain⟨I4,f4,r4⟩:=I3.newL hp (r.cut l u);exact k _ _ _ I4 (f1.trans (f2.trans (f3.trans f4))) r4
 |tup ds=>
  cases e4;obtain⟨a,xs,rfl,ha,r⟩:=I3.tup r3
  by_cases hw:HT.sIx xs.length 0 l=0/\HT.sIx xs.length xs.length u=xs.length
  ·refine .inr (.inr ⟨a,xs,rfl,SqT.of ha,hw,?_⟩);have e:cutD ds l u=ds:=by
    unfold cutD;rw[<-r.length,hw.1,hw.2,List.drop_zero,Nat.sub_zero,qb1 (by rw[r.length];exact qaH _)]
   rw[e]at k;exact k G3 H3 _ I3 (f1.trans (f2.trans f3)) r3
  ·refine .inr (.inl ⟨a,xs,rfl,SqT.of ha,hw,fun p hp=>?_⟩);obtain⟨I4,f4,r4⟩:=I3.newT hp (r.cut l u);exact k _ _ _ I4 (f1.trans (f2.trans (f3.trans f4))) r4
 |scr ns=>
  cases e4;obtain⟨a,rfl,ha⟩:=r3;refine .inl ⟨a,_,rfl,I3.fz.sql ha,fun p hp=>?_⟩;rw[zoc];obtain⟨I4,f4,r4⟩:=I3.newL hp (RepL.ints (cutD ns l u));exact k _ _ _ I4 (f1.trans (f2.trans (f3.trans f4))) r4
theorem zgG (h:aLen ma n):∀ρ as ρ',ma ρ=some (as,ρ')->as.length+1=n+1:=fun ρ as ρ' e=>congrArg (· +1) (h ρ as ρ' e)
section
variable {X:Cx} {elt iter tg:Expr} {ifs:List Expr} {scope:Scope} {pos lpos pos':Pos} {N:List Str} {cap:List Nat} {t:Nat} {mi:MA} {g:D->R->Option R} {mt:MT} {me:ME}
theorem zm1 (i:Nat)(cap:List Nat)(t:Nat)(N:List Str)(hc:X.calm=true)(hi:SIt X tg iter mi)(hg:∀C s H fp,SG (cxC X N scope C s H fp) tg g)(ht:∀C s H fp,STs (cxC X N scope C s H fp) ifs mt)(he:∀C s H fp,SE (cxC X N scope C s H fp) elt me)(hN:X.N.Nodup)
    (hxi:autoParam (X.N[i]? =some x) zu3._auto_1) (hx:autoParam (Loc X.env.scope x) zu9._auto_1) (hf:autoParam (X.fn x=true\/X.env.scope.names.lookup x=some .local) zu9._auto_1)
    (hsw:autoParam (swapsWith (.ListComp elt [⟨tg,iter,ifs,0⟩] scope lpos) (some (.Name x pos')) pos.line X.env=pure true) zu3._auto_1)
    (hk:autoParam (scope.kind= .function) zu3._auto_1) (hb:autoParam (blkB X.env scope=true) zu10._auto_1) (hcap:autoParam (capB scope.names N X.N cap t=true) zu10._auto_1)
    (hs:autoParam (∀x,foldedSetIterable iter X.env x=pure x) zu8._auto_1):SS X (.Assign [.Name x pos'] (.ListComp elt [⟨tg,iter,ifs,0⟩] scope lpos) pos) (sSet i (eFz (oLC cap t mi g mt me))):=by
  obtain⟨wi,pi,si⟩:=hi;refine⟨_,zlF hN hxi hx hf hsw hc (zn6 hk hb) (znv hcap) pi (fun C s H fp=>(hg C s H fp).choose_spec.1) (fun C s H fp=>(ht C s H fp).choose_spec.1) (fun C s H fp=>(he C s H fp).choose_spec.1) hs,fun B G H σ ρ fl ρ' E I hm k=>?_⟩;obtain⟨⟨d,ρ1⟩,e1,e3⟩:=zaf hm;obtain⟨⟨ds,ρ2⟩,e4,e5⟩:=zaf e1;obtain⟨rfl,rfl⟩:=Prod.mk.inj e5;obtain⟨rfl,rfl⟩:=Prod.mk.inj e3;refine zjg si (fun C s H fp=>(hg C s H fp).choose_spec.2) (fun C s H fp=>(ht C s H fp).choose_spec.2) (fun C s H fp=>(he C s H fp).choose_spec.2) B G H σ ρ ds ρ2 _ I e4 fun G1 H1 l xs I1 f1 g1 h1 r1 b1 n1=>?_
  obtain⟨I2,f2,r2⟩:=zkg I1 g1 h1 r1 b1 n1;exact k _ H1 _ (I2.set r2) (f1.trans f2)
end
noncomputable def rRng1:List V->Hp->VK->Prop:=fun xs H Q=>∃j,xs=[.int j]/\∀p,H p=none->Q (.ref p) (upd H p (.rng 0 j))
theorem zoh:zeV X (.type "range") rRng1:=by
 intro pins s σ H xs us Q I r h;obtain⟨j,rfl,q⟩:=h;obtain⟨u,rfl,t,rfl⟩:=zhZ r;refine call_range_1 ⟨.ref s.heap.objs.size,_,I.laid (o:= .rng 0 j) (fun b o e=>qaF _ e) (qaH _) ⟨_,_,_,qaG _ rfl⟩,rfl,q _ I.fresh⟩
noncomputable def rListR:List V->Hp->VK->Prop:=fun xs H Q=>∃p i j,xs=[.ref p]/\H p=some (.rng i j)/\(-(2^62)<=i/\i<2^62/\ -(2^62)<=j/\j<2^62)/\(j-i).toNat<=16777216/\∀l,H l=none->Q (.ref l) (upd H l (.lst ((List.range (j-i).toNat).map fun(k:Nat)=>V.int (i+k))))
theorem zmt (hc:X.calm=true):zeV X (.type "list") rListR:=by
 intro pins s σ H xs us Q I r h;obtain⟨p,i,j,rfl,hp,⟨h1,h2,h3,h4⟩,hz,q⟩:=h;obtain⟨u,rfl,ru⟩:=zhZ r;cases ru;obtain⟨t,t',t'',e⟩:=I.hok p _ hp;refine call_list_range (a:=i) (b:=j) (c:=1) (t:=t) (u:=t') (v:=t'') (n:=(j-i).toNat) (I.ok.hd hc) e (small_one h1 h2 h3 h4) (by rw[rangeSize_one];split<;>lia) (by lia) fun h' tk acc' c' hk hl ⟨hs1,hs2⟩=>?_
 refine⟨.ref s.heap.objs.size,_,I.laid (h':=h') (t':=tk) (o:= .lst ((List.range (j-i).toNat).map fun(k:Nat)=>V.int (i+k))) hk (qaH _) ⟨by rw[qaT,qb4,qaM];exact hz,acc'.toList,c',?_,by simpa using hl⟩,rfl,q _ I.fresh⟩;have key:∀(n:Nat) (l:List Value),l.length=n->(∀k v,l[k]? =some v->∃t,v=Value.int (i+(k:Nat)*1) t)->Vals ((List.range n).map fun(k:Nat)=>V.int (i+k)) l:=by
  intro n
  induction n with
  |zero=>intro l hl _;have:l=[]:=qbM hl;subst this;exact .nil
  |succ n ih=>
   intro l hl hv;have e:l=l.take n++[l[n]'(by lia)]:=by
    rw[<-qbZ (by lia),qb1 (by lia)]
   rw[List.range_succ,qb5,e];refine Vals.append (ih (l.take n) (by rw[qa5];lia) fun k v hk=>?_) (.cons ?_ .nil)
   ·have hkn:k<n:=by
     have:=(qat.mp hk).1;rw[qa5]at this;lia
    rw[List.getElem?_take_of_lt hkn]at hk;exact hv k v hk
   ·obtain⟨t,ht⟩:=hv n _ (qbN (by lia));exact⟨t,by rw[ht,Int.mul_one]⟩
 exact key _ acc'.toList (by rw[qaz];exact hs1) fun k v hk=>hs2 k v (by simpa using hk)
theorem zmO (i:Int)(n:Nat):RepL K G ((List.range n).map fun(k:Nat)=>V.int (i+k)) (zcj i n):=by
 have e1:((List.range n).map fun(k:Nat)=>V.int (i+k))=((List.range n).map fun(k:Nat)=>i+(k:Int)).map V.int:=by rw[qb6];rfl
 have e2:zcj i n=((List.range n).map fun(k:Nat)=>i+(k:Int)).map D.int:=by unfold zcj;rw[qb6];rfl
 rw[e1,e2];exact RepL.ints _
noncomputable def oR (m:MA):MO:=fun ρ=>(m ρ).bind fun p=>if p.1.length<=16777216 then some p else none
end M
namespace M
open L2 PySem
@[simp] theorem atI_nat' {α:Type} (xs:List α) (i:Nat):atI xs (i:Int)=xs[i]?:=by
 unfold atI ixN;rw[if_pos (by lia)]
 by_cases h:i<xs.length
 ·rw[if_pos (by lia)];simp
 ·rw[if_neg (by lia)];simp[qb2 (by lia:xs.length<=i)]
end M
namespace M
open L2 PyProof.Rows PySem PySem.Spec
noncomputable def ze7 {α:Type}(xs:List α)(lo hi st:Option Int):List α:=
 (sliceRange (sliceBounds lo hi st xs.length).1 (sliceBounds lo hi st xs.length).2.1 (sliceBounds lo hi st xs.length).2.2).filterMap (xs[·]?)
theorem zgu (its:List Value)(lo hi st:Option Int):slicePick its.toArray lo hi st=(ze7 its lo hi st).toArray:=by
 unfold slicePick ze7;simp
theorem zjV {xs:List V}{its:List Value}(h:xs.length=its.length)(lo hi st:Option Int):(ze7 its lo hi st).length<=xs.length:=by
 have:=slicePick_size_le its.toArray lo hi st;rw[zgu]at this;simpa[h]using this
theorem picks {its:List Value}{xs:List V}(r:Vals xs its):∀js:List Nat,Vals (js.filterMap (xs[·]?)) (js.filterMap (its[·]?))
 |[]=> .nil
 |j::js=>by
  have hl:=r.length
  by_cases h:j<xs.length
  ·have h2:j<its.length:=by lia
   obtain⟨u,e1,e2⟩:=r.get (qbN h);rw[qan,qan,qbN h,e1];exact .cons e2 (picks r js)
  ·rw[qan,qan,qb2 (by lia),qb2 (by lia)];exact picks r js
section
variable {X:Cx} {e st:Expr} {lo hi:Option Expr} {te:TE} {tl th ts:TO} {p2 pos:Pos}
theorem zmD (he:PE X e te)(hl:PO X lo tl)(hu:PO X hi th)(hst:PO X (some st) ts):PE X (.Subscript e (.Slice lo hi (some st) p2) pos)
  (fun σ H Q=>te σ H fun x H1=>tl σ H1 fun l H2=>th σ H2 fun u H3=>ts σ H3 fun c H4=>∃a xs,x= .ref a/\SqL X.K H4 a xs/\c≠some 0/\∀p,H4 p=none->Q (.ref p) (upd H4 p (.lst (ze7 xs l u c)))):=by
 intro pins s σ H Q I h;refine Subscript_ (thn (he pins s σ H _ I h) fun v s1 ⟨x,H1,I1,r1,q1⟩=>?_);refine wpAny_Slice (thn (hl pins s1 σ H1 _ I1 q1) fun vl s2 ⟨l,H2,I2,pl,q2⟩=>thn (hu pins s2 σ H2 _ I2 q2) fun vu s3 ⟨u,H3,I3,pu,q3⟩=>thn (hst pins s3 σ H3 _ I3 q3) fun vs s4 ⟨c,H4,I4,pc,q4⟩=>?_);have I5:Inv X pins σ H4 {s4 with heap:=s4.heap.push {cls:= .type "slice",data:= .fields #[vl,vu,vs]}}:=I4.kept (t':=s4.toks) fun b ob q=>qaF _ q
 obtain⟨a,xs,rfl,hx,h0,q⟩:=q4;cases r1;obtain⟨its,r,ht,hz⟩:=I5.list hx;have hlen:=r.length;have hg:wpAny (model X.prog X.w) X.A (getItem (.ref a) (.ref s4.heap.objs.size)) (EP X pins σ Q) X.xe {s4 with heap:=s4.heap.push {cls:= .type "slice",data:= .fields #[vl,vu,vs]}}:=by
  refine wpAny_getItem_list_slice ht.isList (Heap.IsSliceOf.new ..) pl pu pc h0 ?_ (by rw[qaN]<;>lia)
  rw[zgu];refine⟨.ref _,_,I5.laid (t':=s4.toks) (o:= .lst (ze7 xs l u c)) (fun b ob q=>qaF _ q) (qaH _) ?_,rfl,q _ (I5.hok.fresh (qaH _))⟩;refine⟨?_,_,0,?_,qaG _ rfl⟩
  ·have:=zjV hlen l u c;have e2:(ze7 xs l u c).length=(ze7 its l u c).length:=by
    unfold ze7;rw[hlen];exact(picks r _).length
   lia
  ·unfold ze7;rw[hlen];exact picks r _
 show wpAny (model X.prog X.w) X.A (subscriptTail e (.Slice lo hi (some st) p2) (.ref a) (.ref s4.heap.objs.size)) (EP X pins σ Q) X.xe {s4 with heap:=s4.heap.push {cls:= .type "slice",data:= .fields #[vl,vu,vs]}};exact tail_any (ops:=[.ref a,.ref s4.heap.objs.size]) ht.isList.typeIs slot_list_getitem.lookup hg (by with_unfolding_all rfl)
end
end M
namespace M
open L2 PySem PySem.Spec
open PyProof.Rows hiding St
noncomputable def oRep (ma mb:ME):MO:=fun ρ=>(ma ρ).bind fun p=>(mb p.2).bind fun q=>match p.1,q.1 with
 | .lst xs,.int k=>if zed k&&decide (xs.length*k.toNat<=16777216)then some ((List.replicate k.toNat xs).flatten,q.2)else none
 |_,_=>none
theorem RepL.times {K:W.Frag}{G:Hp}{xs:List V}{ds:List D}(h:RepL K G xs ds):∀n:Nat,RepL K G (List.replicate n xs).flatten (List.replicate n ds).flatten
 |0=>RepL.nil
 |n+1=>by
  rw[qbw,qbx,qbw,qbx];exact h.append (h.times n)
theorem so_rep {X:Cx}{a b:Expr}{ma mb:ME}{pos:Pos}(ha:SE X a ma)(hb:SE X b mb):SO X (.BinOp a .Mult b pos) (oRep ma mb):=by
 obtain⟨ta,pa,sa⟩:=ha;obtain⟨tb,pb,sb⟩:=hb;refine⟨_,pe_op op_rep pa pb,fun B G H σ ρ d ρ' Q I hm k=>?_⟩;obtain⟨⟨x,ρ1⟩,e1,hm⟩:=zaa hm;obtain⟨⟨y,ρ2⟩,e2,hm⟩:=zaa hm;refine sa B G H σ ρ x ρ1 _ I e1 fun G1 H1 v I1 f1 r1=>sb B G1 H1 σ ρ1 y ρ2 _ I1 e2 fun G2 H2 u I2 f2 r2=>?_
 dsimp only at hm
 split at hm
 ·rename_i xs n _
  split at hm
  ·rename_i hs;cases hm;simp only[qbo,qbK]at hs;cases(show u=V.int n from r2);obtain⟨l,ys,rfl,hl,r⟩:=I2.lst (r1.mono f2);have a1:=zb3 hs.1;refine⟨l,n,ys,rfl,rfl,hl,by lia,by lia,by rw[r.length,qaM];exact hs.2,fun p hp=>?_⟩;obtain⟨I3,g3,h3,b3,n3⟩:=I2.newO hp (List.replicate n.toNat ys).flatten;exact k G2 _ p _ I3 (f1.trans f2) g3 h3 (r.times _) b3 n3
  ·cases hm
 ·cases hm
noncomputable def flV:D->Option V
 | .non=>some .non
 | .bl b=>some (.bl b)
 | .int i=>some (.int i)
 | .str x=>some (.str x)
 |_=>none
noncomputable def zkP:List D->Option (List V)
 |[]=>some []
 |d::ds=>(flV d).bind fun v=>(zkP ds).map (v:: ·)
theorem flV_ok {K:W.Frag}{G:Hp}{x v:V}{d:D}(r:RepD K G x d)(e:flV d=some v):x=v/\zhW v=true:=by
 cases d<;>simp only[flV]at e<;>cases e<;>exact⟨r,rfl⟩
theorem zlG {K:W.Frag}{G:Hp}:∀{ys xs:List V} {ds:List D},RepL K G ys ds->zkP ds=some xs->ys=xs/\xs.all zhW=true
 |ys,xs,[],r,e=>by cases e;cases(show ys=[]from r);exact⟨rfl,rfl⟩
 |ys,xs,d::ds,r,e=>by
  obtain⟨y,zs,rfl,ry,rz⟩:=r;obtain⟨v,e1,e⟩:=zaa e;obtain⟨vs,e2,rfl⟩:=zaf e;obtain⟨rfl,f1⟩:=flV_ok ry e1;obtain⟨rfl,f2⟩:=zlG rz e2;exact⟨rfl,by rw[qbu,f1,f2];rfl⟩
noncomputable def dInB (neg:Bool)(a b:D):Option D:=(flV a).bind fun x=>(zcu [b]).bind fun ds=>(zkP ds).map fun xs=> .bl (if neg then !inV x xs else inV x xs)
noncomputable def dIn:D->D->Option D:=dInB false
noncomputable def zjI:D->D->Option D:=dInB true
theorem v2_in {X:Cx}(neg:Bool):V2 X (rIn X.K neg) (dInB neg):=by
 intro B G H σ ρ x y a b d Q I ra rb hf k;obtain⟨v,e1,hf⟩:=zaa hf;obtain⟨ds,e2,hf⟩:=zaa hf;obtain⟨xs,e3,rfl⟩:=zaf hf;obtain⟨rfl,f1⟩:=flV_ok ra e1;obtain⟨p,ys,rfl,hq,ry⟩:=ziY I rb e2;obtain⟨rfl,f2⟩:=zlG ry e3;exact⟨p,ys,rfl,hq,f1,f2,k G H _ I (Fz.refl G) rfl⟩
theorem se_in {X:Cx}{a b:Expr}{ma mb:ME}{pos:Pos}(ha:SE X a ma)(hb:SE X b mb)(hm:autoParam (behindInMarks .In b=false) zu3._auto_1):SE X (.Compare a [.In] [b] pos) (m2 dIn ma mb):=se_cmp znn (v2_in false) ha hb hm
theorem bl_in (neg:Bool):∀x y d,dInB neg x y=some d->∃t,d= .bl t:=by
 intro x y d hf;obtain⟨v,e1,hf⟩:=zaa hf;obtain⟨ds,e2,hf⟩:=zaa hf;obtain⟨xs,e3,rfl⟩:=zaf hf;exact⟨_,rfl⟩
theorem st_notIn {X:Cx}{a b:Expr}{ma mb:ME}{pos:Pos}(ha:SE X a ma)(hb:SE X b mb)(hm:autoParam (behindInMarks .NotIn b=false) zu3._auto_1):STt X (.Compare a [.NotIn] [b] pos) (tTru (m2 zjI ma mb)):=zio zjy (v2_in true) (bl_in true) ha hb hm
end M
namespace M
open L2 PySem PySem.Spec
open PyProof.Rows hiding St
open Sem (wp)
variable {b N i:Nat} {a it l:Addr} {t:Bool} {h h':Heap} {is xs:Array Value} {Q:Value->Shared->Prop}
theorem nin2 {b x y z:Nat}(h:b∈[x,y])(h1:x≠z)(h2:y≠z):b≠z:=by
 simp at h;rcases h with rfl|rfl<;>assumption
theorem nA {N a b:Nat}(h:a≠b):N+a≠N+b:=fun e=>h (qb7 e)
theorem nB (h:0≠b):N≠N+b:=fun e=>h (qb7 (show N+0=N+b from e))
theorem nC (h:b≠0):N+b≠N:=fun e=>h (qb7 (show N+b=N+0 from e))
theorem nL {a N b:Nat}(h:a<N):a≠N+b:=qah (qaf h (Nat.le_add_right _ _))
theorem ne_ {a b:Nat}(h:a≠b):a≠b:=h
noncomputable def SrcIt:Bool->Heap->Addr->Addr->Nat->Prop
 |true,h,it,a,i=>h.IsTupleIter it a i
 |false,h,it,a,i=>h.IsListIter it a i
noncomputable def SrcH:Bool->Heap->Addr->Array Value->Prop
 |true,h,a,its=>h.IsTuple a its
 |false,h,a,its=>h.IsList a its
theorem SrcIt.at (x:SrcIt t h it a i)(e:∀o,h.get? it=some o->h'.get? it=some o):SrcIt t h' it a i:=by
 cases t
 ·exact Heap.IsListIter.at x e
 ·exact Heap.IsTupleIter.at x e
theorem SrcH.at (x:SrcH t h a is)(e:∀o,h.get? a=some o->h'.get? a=some o):SrcH t h' a is:=by
 cases t
 ·exact Heap.IsList.at x e
 ·obtain⟨o,ho,r⟩:=x;exact⟨o,e _ ho,r⟩
theorem SrcIt.obj (x:SrcIt t h it a i):∃o,h.get? it=some o/\∀v,o.data≠ .cell v:=by
 cases t<;>(obtain⟨o,e,c,d⟩:=x;exact⟨o,e,fun v z=>by rw[d]at z;cases z⟩)
theorem SrcH.lt (x:SrcH t h a is):a<h.objs.size:=by
 cases t<;>(obtain⟨o,e,_⟩:=x;exact qae e)
section
variable {prog:Program} {w:World} {A:Around} {E:Value->Shared->Prop} {s:Shared}
theorem zl0 {items}(hit:s.heap.IsTupleIter it l i)(hl:s.heap.IsTuple l items)
  (k : (∃ x, items[i]? = some x /\ ∀ h', h'.IsTupleIter it l (i + 1) -> Heap.SameBut it s.heap h' -> Q x { s with heap := h' }) \/
   (items[i]? =none/\A.handled=none/\∀h' e,Heap.ExtBut it s.heap h'->(∃o,h'.get? e=some o/\o.cls= .type "StopIteration")->E (.ref e) {s with heap:=h'})):
  wpAny (model prog w) A (Builtin.SmallTypes.nextOf (.ref it)) Q E s:=by
 obtain⟨o,ho,hc,hd⟩:=id hit;obtain⟨ol,hol,-,nl,hdl⟩:=hl;have ne:¬((Value.ref l==Value.none)=true):=qaO;unfold Builtin.SmallTypes.nextOf;refine qaB (qbk (name:=Str.ofString "__next__") hit.typeIs slot_tupleiter_next (qbm slot_tupleiter_next hit.typeIs entry_tupleiter_next ?_ (args_tupleiter_next _)));refine(?_:wpAny _ _ (field (.ref it) 0>>=_) _ _ s);refine qaB (qbj ho hd (x:= .ref l) rfl (?_:wpAny _ _ (if(Value.ref l==Value.none)=true then _ else _) _ _ s));rw[if_neg ne];refine(?_:wpAny _ _ (field (.ref it) 1>>=_) _ _ s);refine qaB (qbj ho hd (x:= .int i 0) rfl (?_:wpAny _ _ (seqItems? (.ref l)>>=_) _ _ s));refine qaB (wpAny_seqItems hol hdl ?_);rcases k with⟨x,hx,k⟩|⟨hx,hh,k⟩<;>simp only[qbh,hx]
 ·have upd:∀h':Heap,h'.get? it=some (o.mapFields fun a=>a.setIfInBounds 1 (rawInt (((i:Nat):Int)+1)))->h'.IsTupleIter it l (i+1):=fun h' e=>⟨_,e,(qb8 ..).trans hc,by rw[qb9 hd];simp[rawInt]⟩
  refine qaB (qca ho hd (by simp) (qaE ⟨x,rfl,qaE (k _ ?_ (qcb ..))⟩));refine⟨_,qbr _ ho (qcc (qb9 hd _)),(qb8 ..).trans hc,?_⟩;rw[qb9 hd];simp[rawInt]
 ·refine qaB (qb3 (qaB (qca ho hd (by simp) (?_:wpAny _ _ (newExc (.type "StopIteration") []>>=_) _ _ _))));refine qaB ?_;simp only[newExc,newTuple];refine qaB (qbp (qaB (m:=firstArgMember _ _) (wpAny_of_eq (a:=Value.none) (by first|rfl|(simp only[firstArgMember];rfl)) (qbp ?_ (by size_fits)))) (by size_fits));simp only[raiseNew];refine qaB (wpAny_handled ?_)
  first|rw[show A.in1.handled=none from hh]|rw[hh]
  exact qaB (qaE (wpAny_throw (k _ _ (((qcb ..).extBut.push _).push _) ⟨_,qaG _ rfl,rfl⟩)))
theorem zjt (hh:A.handled=none)(it l:Addr)(hne:l≠it)(items:Array Value):Draws prog w A it [it,l] items.size (fun i v=>items[i]? =some v) (fun i h=>SrcIt t h it l i/\SrcH t h l items):=by
 cases t
 ·exact Draws.list hh it l hne items
 ·refine⟨fun _ _ st=>?_,fun _ _ _ st hk=>⟨SrcIt.at st.1 fun o e=>hk it (by simp) o e,SrcH.at st.2 fun o e=>hk l (by simp) o e⟩,fun i s Q E hi st hQ=>?_,fun s Q E st hE=>zl0 st.1 st.2 (.inr ⟨by simp,hh,hE⟩)⟩
  ·obtain⟨o,e,-⟩:=SrcIt.obj st.1;exact⟨o,e⟩
  ·exact zl0 st.1 st.2 (.inl ⟨items[i],by simp[hi],fun h' a b=>hQ _ h' s.toks (by simp[hi]) ⟨a,SrcH.at st.2 fun o e=>(b.2 l hne).trans e⟩ b⟩)
noncomputable def srcO (t:Bool)(a:Addr):Obj:={cls:= .type (if t then "tuple_iterator" else "list_iterator"),data:= .fields #[.ref a,.int 0 0]}
theorem srcO_it (e:h.get? it=some (srcO t a)):SrcIt t h it a 0:=by
 cases t<;>exact⟨_,e,rfl,rfl⟩
theorem zm9 (t:Bool)(a:Addr):(srcO t a).isFreed=false:=by cases t<;>rfl
theorem zih {items}(hl:SrcH t s.heap a items)(hQ:Q (.ref s.heap.objs.size) {s with heap:=s.heap.push (srcO t a)}):
  wpAny (model prog w) A (pyIter (.ref a)) Q E s:=by
 cases t
 ·exact qbQ hl hQ
 ·exact qbR hl hQ
end
noncomputable abbrev tup_ (vs:Array Value):Obj:={cls:= .type "tuple",data:= .seq vs}
section
variable {prog:Program} {w:World} {A:Around} {E:Value->Shared->Prop} {s:Shared}
noncomputable abbrev en_ (it:Addr):Obj:={cls:= .type "enumerate",data:= .fields #[.none,.bool false,.ref it,rawInt 0,.none,.none]}
theorem zmu (t:Bool)(l:Addr)(o:Obj)(xs:Array Value):Meets (Builtin.«enumerate.__new__» ⟨[.type "enumerate",.ref l],[]⟩) (fun _ R s=>s.heap.get? l=some o/\SrcH t s.heap l xs/\
   R (.ok (.ret (.ref (s.heap.push (srcO t l)).objs.size))) {s with heap:=(s.heap.push (srcO t l)).push (en_ s.heap.objs.size)}):=
 .of_wp fun prog w A R s h=>by
  obtain⟨hp,g,d,tk,os⟩:=s;obtain⟨hl,b,h⟩:=h;have hsub:=sub_enumerate;have hL:SrcH t (Shared.heap ⟨hp,g,d,tk,os⟩) l xs:=b
  wp_walk using qcd hl
  refine wpAny_stack_any fun st=>qaE ?_
  split
  ·rename_i c _ _ _ _ _;cases(c==Value.type "enumerate")<;>(wp_walk using qcd hl,zih hL;exact⟨_,rfl,h⟩)
  ·wp_walk using qcd hl,zih hL
   exact⟨_,rfl,h⟩
theorem znT (h1:SrcH t s.heap l xs)
  (k:∀h',IsEnum h' (s.heap.objs.size+1) s.heap.objs.size 0 .none->SrcIt t h' s.heap.objs.size l 0->(∀b o,s.heap.get? b=some o->h'.get? b=some o)->Q (.ref (s.heap.objs.size+1)) {s with heap:=h'}):
  wpAny (model prog w) A (call (.type "enumerate") [.ref l]) Q E s:=by
 have⟨o,ho⟩:∃o,s.heap.get? l=some o:=by cases t<;>(obtain⟨o,e,-⟩:=h1;exact⟨o,e⟩)
 refine callType_new F.called_enumerate (by decide) (F.typeCall_enumerate_1 _) (F.newCall_enumerate_1 _) (fun obj=>F.args_object_init_2 obj _) F.entry_enumerate_new (zmu t l o xs) ⟨ho,h1,(?_:_/\_)⟩;have y1:(s.heap.push (srcO t l)).objs.size=s.heap.objs.size+1:=qaU ..;have g2:((s.heap.push (srcO t l)).push (en_ s.heap.objs.size)).get? (s.heap.push (srcO t l)).objs.size=some _:=qaG _ rfl;have g1:((s.heap.push (srcO t l)).push (en_ s.heap.objs.size)).get? s.heap.objs.size=some (srcO t l):=qaF _ (qaG _ (zm9 ..));rw[y1]at g2;rw[y1];exact⟨⟨_,g2,rfl⟩,k _ g2 (srcO_it g1) fun b o x=>qaF _ (qaF _ x)⟩
end
end M
namespace M
local macro_rules | `(tactic| ac_rfl) => `(tactic| first | exact M.nA (by decide) | exact M.nB (by decide) | exact M.nC (by decide) | exact M.nL (by assumption) | exact Nat.ne_of_lt (by assumption) | lia)
open L2 PySem PySem.Spec
open PyProof.Rows hiding St
open Sem (wp)
variable {t' ek:Nat} {h':Heap} {fp:List Addr} {vs xs:List V} {its:List Value} {t:Bool} {X:Cx} {pins:List (Addr×Obj)} {σ:St} {H:Hp} {s:Shared} {a:Addr} {K:W.Frag} {elts:List Expr} {ep p pos:Pos} {es:List D}
section
variable {X:Cx} {pins:List (Addr×Obj)} {σ:St} {H:Hp} {s:Shared}
theorem zn8 (I:Inv X pins σ H s)(k:∀b o,b∉fp->s.heap.get? b=some o->h'.get? b=some o)(hf:∀b∈fp,FpOk X pins H b):Inv X pins σ H {s with heap:=h',toks:=t'}:=by
 have nit:∀b u,H b=some u->b∉fp:=fun b u e z=>by rw[(hf b z).1]at e;cases e
 refine I.step (g':=s.gens) (d':=s.drawn) (ch:=fp) (fun b hb=>?_) (fun b o _ _ hc e _=>k b o hc e) (fun b o _ _ hc e _=>⟨o.slots,k b o hc e⟩) (fun _ _ _ _ n=>n)
  (fun b o hc e=>⟨o,k b o hc e⟩) (fun _ _ e=>e) (fun _ _ _ e=>e) (fun b ps e=>⟨#[],by rw[e];simp⟩) (fun m hm=>?_) (fun b u e=>?_) I.bare
 ·obtain⟨f0,f1,f2,f3,f4,f5⟩:=hf b hb;exact⟨f3,f1,f4,f5⟩
 ·obtain⟨o,es,ep,ho,r⟩:=hm;exact⟨o,es,ep,k _ o (fun z=>(hf _ z).2.1 rfl) ho,r⟩
 ·refine(I.hok b u e).stay (fun c v hc q=>k c v ?_ q) (fun _ q=>q) fun _ _ q=>q
  rcases hc with z|z
  ·rw[z];exact nit b u e
  ·exact nit c _ z
theorem turnedT {t':Nat}{h':Heap}{fp:List Addr}(I:Inv X pins σ H s)(k:∀b o,b∉fp->s.heap.get? b=some o->h'.get? b=some o)(hf:∀b∈fp,FpOk X pins H b)(hl:∀b∈fp,b<s.heap.objs.size)
  (hT:h'.get? s.heap.objs.size=some (tup_ its.toArray)) (hz:vs.length<=sizeLine) (r:Vals vs its):Inv X pins σ (upd H s.heap.objs.size (.tup vs)) {s with heap:=h',toks:=t'}:=by
 have I1:=I.laid (t':=s.toks) (a:=s.heap.objs.size) (o:= .tup vs) (h':=s.heap.push (tup_ its.toArray)) (fun b u q=>qaF _ q) (qaH _) ⟨hz,its,r,IsTup.new _ _⟩;refine zn8 (s:={s with heap:=s.heap.push (tup_ its.toArray),toks:=s.toks}) (t':=t') (fp:=fp) I1 (fun b o hb e=>?_) fun b hb=>?_
 ·have e':(s.heap.push (tup_ its.toArray)).get? b=some o:=e;rcases Heap.get?_push_cases e' with⟨rfl,rfl⟩|q
  ·exact hT
  ·exact k b o hb q
 ·obtain⟨f0,fr⟩:=hf b hb;refine⟨?_,fr⟩;rw[zak (qah (hl b hb))];exact f0
end
noncomputable def SrcSq (t:Bool)(K:W.Frag)(H:Hp)(a:Addr)(xs:List V):Prop:=match t with
 |true=>SqT K H a xs
 |false=>SqL K H a xs
theorem SrcSq.heap (I:Inv X pins σ H s)(h:SrcSq t X.K H a xs):∃its:List Value,Vals xs its/\SrcH t s.heap a its.toArray/\xs.length<=sizeLine:=by
 cases t
 ·obtain⟨its,r,p,z⟩:=I.list h;exact⟨its,r,p.isList,z⟩
 ·obtain⟨its,r,p,z⟩:=I.tuple h;exact⟨its,r,p,z⟩
theorem SrcSq.inj {xs ys:List V}(I:Inv X pins σ H s)(h:SrcSq t X.K H a xs)(h':SrcSq t X.K H a ys):xs=ys:=by
 cases t
 ·exact I.list_inj h h'
 ·exact I.tuple_inj h h'
noncomputable def Ite (K:W.Frag)(t1:Bool)(a1:Addr)(n:Nat):It where
 go:=fun i H=>i<n/\∃xs,SrcSq t1 K H a1 xs/\n=xs.length
 yld:=fun i H x H'=>∃p x1,H p=none/\H'=upd H p (.tup [.int i,x1])/\x= .ref p/\∀xs,SrcSq t1 K H a1 xs->xs[i]? =some x1
 stop:=fun i H=>n<=i/\∃xs,SrcSq t1 K H a1 xs/\n=xs.length
theorem zoL {P:Program}{w:World}(t1:Bool)(a1:Nat)(n N:Nat)(l1:a1<N):
  Turn P w K (.Tuple elts ek ep) (Ite K t1 a1 n) ([N+1,N]:List Nat) (N+1:Nat) (fun i h=>i<=n/\(∃old,IsEnum h (N+1:Nat) N i old)/\SrcIt t1 h N a1 i) where
 mem:=by simp
 obj:=fun i h st b hb=>by
  obtain⟨-,⟨old,h1⟩,h0⟩:=st;simp only[qaq,qce,or_false]at hb;rcases hb with rfl|rfl
  ·exact⟨_,h1,fun v z=>by cases z⟩
  ·exact h0.obj
 keep:=fun i h h' st k=>by
  obtain⟨hi,⟨old,h1⟩,h0⟩:=st;exact⟨hi,⟨old,k _ (by simp) _ h1⟩,h0.at fun o e=>k _ (by simp) o e⟩
 item:=by
  intro X hP hw hK hc i pins s σ H E I hf st hg;subst hP hw hK;obtain⟨hi,⟨old,h1⟩,h0⟩:=st;obtain⟨hn,xs,q1,en⟩:=hg;obtain⟨us,ru,hu,zu⟩:=q1.heap I;have lu:=ru.length;have D1:=zjt (prog:=X.prog) (w:=X.w) (A:=X.A.in1) (t:=t1) (I.ok.hd hc) N a1 (ne_ (by ac_rfl)) us.toArray;refine wpAny_pyNext_enum_itemD D1 h1 ⟨h0,hu⟩ (by simp;lia) (ne_ (by ac_rfl)) (fun z=>nin2 (z:=N+1) z (by lia) (by lia) rfl) fun x h' tk p1 ho g0 gT gz kk=>?_
  obtain⟨x1,hx1⟩:∃x1,xs[i]? =some x1:=⟨xs[i]'(by lia),qbN _⟩;obtain⟨u1,hu1,r1⟩:=ru.get hx1;have e1:u1=x:=by
   have:us[i]? =some x:=by simpa using p1
   rw[hu1]at this;cases this;rfl
  subst e1;refine⟨_,rfl,wpAny_letOwnedTupleGo_enum (s:={s with heap:=h',toks:=tk+1}) ho fun h'' he' sb=>?_⟩
  replace sb:Heap.SameBut (N+1:Nat) h' h'':=sb
  have lz:N+1<s.heap.objs.size:=qae h1;have kk':∀b o,b∉([N+1,N]:List Nat)->s.heap.get? b=some o->h''.get? b=some o:=fun b o hb e=>
   (sb.2 b fun z=>hb (by simp[z])).trans (kk b o (fun z=>hb (by simp[z])) (fun z=>hb (by simp[z])) e)
  have I1:=turnedT (t':=tk+1) (vs:=[.int i,x1]) (its:=[.int i tk,u1]) I kk' hf (fun b hb=>by
   have:b=N+1\/b=N:=by simpa using hb
   exact qcf (show(b:Nat)<=N+1 by rcases this with h|h<;>rw[h]<;>simp) lz) ((sb.2 _ (ne_ (by ac_rfl))).trans gT) (by simp;rw[qaM];decide) (.cons ⟨_,rfl⟩ (.cons r1 .nil))
  refine⟨.ref s.heap.objs.size,_,I1,rfl,⟨_,x1,I.hok.fresh (qaH _),rfl,rfl,fun xs' b1=>?_⟩,⟨hn,⟨_,by simpa using he'⟩,SrcIt.at g0.1 fun o e=>(sb.2 _ (ne_ (by ac_rfl))).trans e⟩,fun b hb=>?_⟩
  ·rw[SrcSq.inj I b1 q1];exact hx1
  ·have:b=N+1\/b=N:=by simpa using hb
   rw[zak (qah (qcf (show(b:Nat)<=N+1 by rcases this with h|h<;>rw[h]<;>simp) lz))]
   exact(hf b hb).1
 done:=by
  intro X hP hw hK hc i pins s σ H E I hf st hg;subst hP hw hK;obtain⟨hi,⟨old,h1⟩,h0⟩:=st;obtain⟨hn,xs,q1,en⟩:=hg;obtain⟨us,ru,hu,zu⟩:=q1.heap I;have lu:=ru.length;have D1:=zjt (prog:=X.prog) (w:=X.w) (A:=X.A.in1) (t:=t1) (I.ok.hd hc) N a1 (ne_ (by ac_rfl)) us.toArray;have W:=WalksT.enumerateD D1 (N+1:Nat) (ne_ (by ac_rfl)) (fun z=>nin2 (z:=N+1) z (by lia) (by lia) rfl) (by simp);have ei:i=us.toArray.size:=by simp;lia
  subst ei;exact W.done s _ _ ⟨⟨old,h1⟩,h0,hu⟩ fun h' tk kk=>⟨rfl,zn8 I kk hf⟩
 self:=fun _ _ _ _ _ st h=>by
  obtain⟨hi,⟨old,h1⟩,h0⟩:=st;exact wpAny_pyIter_enum h1 h
theorem zh0:bootBuiltins "enumerate"=some (.type "enumerate"):=by decide+kernel
section
variable {X:Cx} {elts:List Expr} {ek:Nat} {ep:Pos}
theorem pi_enum {a:Expr}{ta:TA}(hg:Gl X "enumerate")(hm:X.mg "enumerate"=none)(ha:PA X [a] ta)(hs:autoParam (starEach [a] X.env=(false,eval a X.env)::starEach [] X.env) zu3._auto_1)(hs2:autoParam ((backTo pos (starEach [] X.env)).any (·.1)=false) zu3._auto_1):
  PI X (.Tuple elts ek ep) (.Call (.Name "enumerate" p) [a] [] pos) (fun σ H R=>ta σ H fun vs H1=>∃t1 a1 xs,vs=[.ref a1]/\SrcSq t1 X.K H1 a1 xs/\R (Ite X.K t1 a1 xs.length) H1):=by
 intro pins s σ H R I h;refine Call_ (zij I hg hm zh0 (qaI (thn (ha pos pins s σ H _ I h) fun us s1 ⟨vs,H1,I1,r1,q1⟩=>?_) hs hs2));obtain⟨t1,a1,xs,e,q1,q⟩:=q1;subst e;cases r1 with
 |cons r rr=>
  cases rr;cases r;obtain⟨us,ru,hu,-⟩:=q1.heap I1;refine znT hu fun h' g1 g0 kk=>wpAny_pyIter_enum g1 ⟨_,_,_,_,H1,rfl,I1.kept (t':=s1.toks) kk,zoL t1 a1 xs.length s1.heap.objs.size hu.lt,⟨qaW _,⟨_,g1⟩,g0⟩,fun b hb=>?_,q⟩
  have:b=s1.heap.objs.size+1\/b=s1.heap.objs.size:=by simpa using hb
  have le:s1.heap.objs.size<=b:=by rcases this with h|h<;>rw[h]<;>simp
  exact I1.fpOk le (I1.hok.fresh le)
end
theorem src_of {G:Hp}{x:V}{d:D}(r:RepD K G x d)(e:zcu [d]=some es):∃t a xs,x= .ref a/\(∀H,Fz G H->SrcSq t K H a xs)/\RepL K G xs es:=by
 cases d<;>simp only[zcu]at e<;>try cases e
 ·obtain⟨a,xs,rfl,ha,r⟩:=r;exact⟨false,a,xs,rfl,fun H f=>SqL.of (f _ _ ha),r⟩
 ·obtain⟨a,xs,rfl,ha,r⟩:=r;exact⟨true,a,xs,rfl,fun H f=>SqT.of (f _ _ ha),r⟩
 ·obtain⟨a,rfl,ha⟩:=r;exact⟨false,a,_,rfl,fun H f=>f.sql ha,RepL.ints _⟩
noncomputable def zip3D (xs ys zs:List D):List D:=List.zipWith (fun x (p:D×D)=>D.tup [x,p.1,p.2]) xs (List.zip ys zs)
noncomputable def zkH (xs:List D):List D:=List.zipWith (fun x (i:Nat)=>D.tup [.int i,x]) xs (List.range xs.length)
noncomputable def iEn (ma:MA):MA:=fun ρ=>(ma ρ).bind fun p=>(zcu p.1).map fun xs=>(zkH xs,p.2)
theorem zfM {a:Expr}{ma:MA}(hm:X.mg "enumerate"=none)(ha:SA X [a] ma)(hg:autoParam (Gl X "enumerate") zu3._auto_1)(hs:autoParam (starEach [a] X.env=(false,eval a X.env)::starEach [] X.env) zu3._auto_1)(hs2:autoParam ((backTo pos (starEach [] X.env)).any (·.1)=false) zu3._auto_1):
  SIt X (.Tuple elts ek ep) (.Call (.Name "enumerate" p) [a] [] pos) (iEn ma):=by
 obtain⟨t,pa,sa⟩:=ha;refine⟨_,pi_enum hg hm pa hs hs2,fun B G H σ ρ ds ρ' Q I hm k=>?_⟩;obtain⟨⟨es,ρ1⟩,e1,h2⟩:=zaa hm;obtain⟨xs,ex,h2⟩:=zaf h2;cases h2;refine sa B G H σ ρ es ρ1 _ I e1 fun G1 H1 vs I1 f1 r1=>?_
 match es,ex,r1 with
 |[],ex,_=>cases ex
 |_::_::_,ex,_=>exact absurd ex (by simp[zcu])
 |[d],ex,r1=>
  obtain⟨x,rfl,rx⟩:=r1.one;obtain⟨t1,a1,us,rfl,s1,c1⟩:=src_of rx ex;have n1:=c1.length;refine⟨t1,a1,us,rfl,s1 _ I1.fz,k _ G1 H1 I1 f1 ⟨fun H i f hi=>?_,fun H i x H' f y d e=>?_,fun H i f hi=>?_⟩⟩
  ·exact⟨by simp[zkH]at hi;lia,us,s1 _ f,rfl⟩
  ·obtain⟨p,x1,hp,eh,ex',q⟩:=y;have q1:=q us (s1 _ f);have hi:i<us.length:=(qat.mp q1).1;have g1:xs[i]? =some (xs[i]'(by lia)):=qbN _;simp only[zkH,qcg]at e;rw[g1,show(List.range xs.length)[i]? =some i from by rw[List.getElem?_range (by lia)]]at e;cases e;obtain⟨v1,b1,r1⟩:=c1.get g1;rw[q1]at b1;cases b1;exact .inr ⟨p,_,_,hp,eh,ex',rfl,⟨_,_,rfl,rfl,_,_,rfl,r1,rfl⟩⟩
  ·exact⟨by simp[zkH]at hi;lia,us,s1 _ f,rfl⟩
end M
namespace M
open L2 PySem PySem.Spec
open PyProof.Rows hiding St
theorem zlN {X:Cx}{st:Stmt}:SS X st (fun _=>none):=⟨_,ps_never,fun B G H σ ρ fl ρ' E I hm k=>by cases hm⟩
noncomputable def isN:D->Bool
 | .non=>true
 |_=>false
theorem isN_ok {K:W.Frag}{G:Hp}{x:V}{d:D}(r:RepD K G x d):decide (x= .non)=isN d:=by
 cases d with
 |non=>cases(show x=V.non from r);rfl
 |bl b=>cases(show x=V.bl b from r);rfl
 |int i=>cases(show x=V.int i from r);rfl
 |str s=>cases(show x=V.str s from r);rfl
 |lst ds=>obtain⟨a,xs,rfl,-⟩:=r;rfl
 |tup ds=>obtain⟨a,xs,rfl,-⟩:=r;rfl
 |scr ns=>obtain⟨a,rfl,-⟩:=r;rfl
 |exc c=>obtain⟨a,C,rfl,-⟩:=r;rfl
 |dic _ _=>obtain⟨a,ys,rfl,-⟩:=r;rfl
 |dit _ _=>obtain⟨a,ys,o,xs,rfl,-⟩:=r;rfl
noncomputable def zkV:D->D->Option D
 |a,.non=>some (.bl (!isN a))
 |_,_=>none
theorem v2_notN {X:Cx}:V2 X (fun x y H Q=>y= .non/\Q (.bl (!decide (x= .non))) H) zkV:=by
 intro B G H σ ρ x y a b d Q I ra rb hf k;cases b<;>simp only[zkV]at hf<;>cases hf
 exact⟨rb,k G H _ I (Fz.refl G) (by rw[isN_ok ra];rfl)⟩
theorem bl_notN:∀x y d,zkV x y=some d->∃t,d= .bl t:=by
 intro x y d hf;cases y<;>simp only[zkV]at hf<;>cases hf
 exact⟨_,rfl⟩
section
variable {X:Cx} {a b:Expr} {ma mb:ME} {pos:Pos}
theorem st_isNot (ha:SE X a ma)(hb:SE X b mb)(hm:autoParam (behindInMarks .IsNot b=false) zu3._auto_1):STt X (.Compare a [.IsNot] [b] pos) (tTru (m2 zkV ma mb)):=zio op_notN v2_notN bl_notN ha hb hm
end
theorem zju {X:Cx}{a:Expr}{ma:MA}{p q pos pos':Pos}(ml:X.mg "list"=none)(mr:X.mg "range"=none)(ha:SA X [a] ma)(hc:autoParam (X.calm=true) zu3._auto_1)(hg:autoParam (Gl X "list") zu3._auto_1)(hgr:autoParam (Gl X "range") zu3._auto_1)
  (he:autoParam (starEach [a] X.env=(false,eval a X.env)::starEach [] X.env) zu3._auto_1) (hpl:autoParam ((backTo pos' (starEach [] X.env)).any (·.1)=false) zu3._auto_1)
  (he2:autoParam (starEach [.Call (.Name "range" q) [a] [] pos'] X.env=(false,eval (.Call (.Name "range" q) [a] [] pos') X.env)::starEach [] X.env) zu3._auto_1):
  SO X (.Call (.Name "list" p) [.Call (.Name "range" q) [a] [] pos'] [] pos) (oR (iR1 ma)):=by
 obtain⟨t,pa,sa⟩:=ha;refine⟨_,zfP (zmt hc) hg ml (by decide+kernel) (zaG (zfP zoh hgr mr (by decide+kernel) pa (by decide) (by decide) he hpl) zbX he2) (by decide) (by decide) he2 rfl,fun B G H σ ρ ds ρ' Q I hm k=>?_⟩;obtain⟨⟨items,ρ1⟩,e1,hm⟩:=zaa hm;obtain⟨⟨es,ρ2⟩,e2,h2⟩:=zaa e1;dsimp only at hm h2
 split at hm
 ·rename_i hlen;obtain⟨rfl,rfl⟩:=Prod.mk.inj (Option.some.inj hm);refine sa B G H σ ρ es ρ2 _ I e2 fun G1 H1 vs I1 f1 r1=>?_
  split at h2
  ·rename_i j
   split at h2
   ·rename_i hj;obtain⟨rfl,rfl⟩:=Prod.mk.inj (Option.some.inj h2);obtain⟨x,rfl,rx⟩:=r1.one;cases(show x=V.int j from rx);refine⟨j,rfl,fun p hp=>⟨p,0,j,rfl,zal,⟨by decide,by decide,(zb3 hj).1,(zb3 hj).2⟩,by simpa[zcj]using hlen,fun l hl=>?_⟩⟩;have I2:=I1.allocO hp (.rng 0 j);have ej:(j-0).toNat=j.toNat:=by rw[Int.sub_zero]
    rw[ej]at*;obtain⟨I3,g3,h3,b3,n3⟩:=I2.newO hl ((List.range j.toNat).map fun(k:Nat)=>V.int (0+k));exact k G1 _ l _ I3 f1 g3 h3 (zmO 0 _) b3 n3
   ·cases h2
  ·cases h2
 ·cases hm
noncomputable def zoE (b:Nat)(ρ:R):Bool:=match ρ[b]? with
 |some (.par _)=>zdF (ρ.set b .emp)
 |_=>false
noncomputable def parAt (b:Nat)(ρ:R):List D:=match ρ[b]? with
 |some (.par cs)=>cs
 |_=>[]
noncomputable def turnP (b:Nat)(g:D->R->Option R)(mt:MT)(me:ME):D->R->Option (Option D×R):=fun d ρ=>(g d ρ).bind fun ρ1=>(mt ρ1).bind fun p=>if p.1 then(me p.2).bind fun q=>if zoE b q.2 then some (some q.1,q.2)else none else if zoE b p.2 then some (none,p.2)else none
end M
namespace M
open L2 PySem
theorem zis:∀{ds:List D} {ns:List Int},za5 ds=some ns->ds=ns.map .int
 |[],_,h=>by cases h;rfl
 | .int i::ds,_,h=>by
  obtain⟨ms,e1,e2⟩:=zaf h;cases e2;rw[zis e1];rfl
 | .non::_,_,h=>by cases h
 | .bl _::_,_,h=>by cases h
 | .str _::_,_,h=>by cases h
 | .lst _::_,_,h=>by cases h
 | .tup _::_,_,h=>by cases h
 | .scr _::_,_,h=>by cases h
 | .exc _::_,_,h=>by cases h
 |(.dic _ _)::_,_,h=>by cases h
 |(.dit _ _)::_,_,h=>by cases h
end M
namespace M
open L2 PySem PySem.Spec
open PyProof.Rows hiding St
variable {as:List Addr} {its vs:List Value} {i tk j:Nat} {v tp c cN cd ev cv oc:Value} {K:W.Frag} {G H:Hp} {A:Around} {E:Value->Shared->Prop} {s:Shared} {a C e CS f:Addr} {Q:Unit->Shared->Prop} {prog:Program} {w:World} {h h':Heap} {o:Obj} {b:Bool} {X:Cx} {N:List Str} {dN od:Option Addr} {es:List DictEntry} {qual n x d:Str} {scope:Scope} {outer:List Env} {pos:Pos} {pins':List (Addr×Obj)} {tab:List (Str×Bool)}
noncomputable def iR2L (ma:MA):MA:=fun ρ=>(ma ρ).bind fun p=>match p.1 with
 |[.int i,.int j]=>some (zcj i (j-i).toNat,p.2)
 |_=>none
noncomputable def zh9:List D->Option (List (List Int))
 |[]=>some []
 | .tup ds::r=>(za5 ds).bind fun ns=>(zh9 r).map fun nss=>ns::nss
 |_::_=>none
theorem refs_get (r:Vals (as.map V.ref) its)(e:its[i]? =some v):∃a,as[i]? =some a/\v= .ref a:=by
 have hl:=r.length;have hi:i<its.length:=(qat.mp e).1;rw[qaT]at hl;have e2:(as.map V.ref)[i]? =some (.ref as[i]):=by rw[qba,qbN (by lia)];rfl
 obtain⟨u,h1,h2⟩:=r.get e2;rw[e]at h1;cases h1;exact⟨_,qbN (by lia),h2⟩
theorem zji:∀{ys:List V} {ds:List D} {nss:List (List Int)},RepL K G ys ds->zh9 ds=some nss->∃as:List Addr,ys=as.map V.ref/\as.length=nss.length/\∀(i:Nat) a ns,as[i]? =some a->nss[i]? =some ns->G a=some (.tup (ns.map V.int))
 |_,[],nss,r,e=>by cases e;cases r;exact⟨[],rfl,rfl,fun i a ns h=>by simp at h⟩
 |_,d::ds,nss,⟨x,ys,e0,q,r⟩,e=>by
  subst e0;cases d with
  |tup es=>
   obtain⟨ns,e1,e⟩:=zaa e;obtain⟨ms,e2,e3⟩:=zaf e;subst e3;obtain⟨as,rfl,hl,h⟩:=zji r e2;obtain⟨a,zs,rfl,ha,rz⟩:=q;rw[zdA e1]at rz;rw[RepL.ints_eq rz]at ha;refine⟨a::as,rfl,by rw[qaQ,qaQ,hl],fun i b ns' h1 h2=>?_⟩;cases i with
   |zero=>simp at h1 h2;subst h1 h2;exact ha
   |succ i=>exact h i b ns' (by simpa using h1) (by simpa using h2)
  |non=>cases e
  |bl _=>cases e
  |int _=>cases e
  |str _=>cases e
  |lst _=>cases e
  |scr _=>cases e
  |exc _=>cases e
  |dic _ _=>cases e
  |dit _ _=>cases e
theorem check_ga {M:Model}{nameV:Value}(kin:K.In s.heap)(J:∀M,W.Looks M s.heap (typeOf (.ref a)) (.ref C))(hb:W.exmOne K (.ref C) (.type "BaseException")=some true)(h:Q () s):
  wpAny M A (checkBuiltinCall "BaseException.__getattribute__" {pos:=[.ref a,nameV]}) Q E s:=by
 have e1:builtinKind "BaseException.__getattribute__"=some .slot:=by decide+kernel
 have e2:splitId "BaseException.__getattribute__"=some ("BaseException","__getattribute__"):=by decide+kernel
 have e3:=F.args_bexc_ga (.ref a) nameV;unfold argsOk at e3;unfold checkBuiltinCall;rw[e1,e2];dsimp only;refine qaB (qaB (J _ A _ _ s (fun _ _ q=>q) ((W.exm_cls kin hb).2 A _ _ s (fun _ _ q=>q) ?_)));refine qch (by decide) ?_
 generalize Manifest.signature? "BaseException.__getattribute__"=o at e3 ⊢
 cases o with
 |none=>exact qaE h
 |some sig=>dsimp only at e3 ⊢;rw[e3];exact qaE h
theorem zmg {R:Result->Shared->Prop}(kin:K.In s.heap)(J:∀M,W.Looks M s.heap (typeOf (.ref a)) (.ref C))(ho:W.mroIn K C (.type "object")=some true)
  (h:R (.ok (.ret (.ref C))) s):codeAny (model prog w) A (.call (.builtin "getset_descriptor.__get__") {pos:=[.builtin "object.__class__",.ref a,tp]}) R s:=by
 refine qci W.KF.slot_gs.plain W.KF.entry_gs (W.KF.slot_gs.check _ _ _ _ _ _ _ _ W.KF.type_class (W.KF.args_gs _ _ _) ?_);unfold Builtin.«getset_descriptor.__get__» Builtin.Getset_descriptor.descrGet;rw[W.dga_obj];refine qaB (qaE ?_);dsimp only;unfold Builtin.Getset_descriptor.descrGetter;dsimp only;refine qaB ?_;unfold Builtin.Getset_descriptor.descrCheckInstance;dsimp only;refine qaB ?_;unfold Builtin.Getset_descriptor.descrNameAndClass;dsimp only;rw[W.KF.owner_class];refine W.nd_pure ?_;dsimp only;refine qaB (qaB (J _ _ _ _ _ (fun _ _ q=>q) (W.looks_mroIn kin ho _ _ _ _ (fun _ _ q=>q) ?_)));refine qch rfl (qaE (qaE ?_));refine⟨Code.quiet_builtin _ (by decide+kernel),qcj W.KF.entry_class ?_⟩;unfold Builtin.«object.__class__»;dsimp only;refine qaB ?_;unfold shownTypeOf;refine qaB (J _ _ _ _ _ (fun _ _ q=>q) (qch rfl (qaE (qaE h))))
theorem zoR {Q:Option Value->Shared->Prop}(kin:K.In s.heap)(J:∀M,W.Looks M s.heap (typeOf (.ref a)) (.ref C))
  (hb:W.exmOne K (.ref C) (.type "BaseException")=some true) (hga:W.findIn K (.ref C) "__getattribute__"=some (some (.builtin "BaseException.__getattribute__"))) (hgt:W.findIn K (.ref C) "__getattr__"=some none)
  (hf:W.findIn K (.ref C) "__class__"=some (some (.builtin "object.__class__"))) (hsp:W.specialIn K (.builtin "object.__class__") "__get__"=some (some (.builtin "getset_descriptor.__get__"))) (htk:W.takesIn K (.builtin "object.__class__")=some true) (ho:W.mroIn K C (.type "object")=some true)
  (h:Q (some (.ref C)) {s with toks:=s.toks+1}):wpAny (model prog w) A (getAttr? (.ref a) "__class__") Q E s:=by
 unfold getAttr?;refine qaB (wpAny_mkText ?_);unfold getAttrBy?;refine qaB (qck ?_);unfold getAttrBy;refine qaC (qaB (J _ A _ _ _ (fun _ _ q=>q) (qaB (qaR kin hga A _ _ _ (fun _ _ q=>q) ?_))));dsimp only;have nb:(Value.builtin "BaseException.__getattribute__"==Value.builtin "object.__getattribute__")=false:=by decide+kernel
 refine qch (by rw[nb,Bool.and_false];rfl) ?_;unfold getAttrByItsOwn;refine qaB ?_;unfold hookBefore;refine wpAny_ite_true (by rfl) (qaR kin hgt A _ _ _ (fun _ _ q=>q) ?_);refine qaB (qck (qaC ?_));unfold callGetattribute;refine qch (by decide+kernel) ?_;unfold boundAndCalled;refine qaB ?_;rw[F.attrBase_ValueError.ga.bind];refine qaE ?_;dsimp only[List.cons_append,List.nil_append];refine qaZ (qci F.attrBase_ValueError.ga.plain F.entry_bexc_ga (check_ga kin J hb ?_));unfold Builtin.«object.__getattribute__» slotArgs;refine qaB (qch (by rfl) ?_);dsimp only;refine qch (by rfl) (qaE ?_);dsimp only;unfold Builtin.ObjectAttr.attrName;refine qaB (qaE (qaB (J _ _ _ _ _ (fun _ _ q=>q) (qaB ?_))));unfold Builtin.ObjectAttr.find;refine qaB (qaR kin hf _ _ _ _ (fun _ _ q=>q) (qaB ?_));unfold Builtin.ObjectAttr.getOf;refine W.looks_specialIn kin hsp _ _ _ _ (fun _ _ q=>q) (qaB ?_);unfold Builtin.ObjectAttr.dataDescriptor?;refine qaB (W.looks_takesIn kin htk _ _ _ _ (fun _ _ q=>q) (wpAny_ite_true rfl (qaE ?_)));refine qaB (qb3 (qaE ?_));unfold Builtin.ObjectAttr.bindTo;dsimp only;refine qaB (qaC (qaZ (zmg kin J ho ?_)));refine qaE ?_;refine W.handed_on rfl ?_;exact qaE h
structure ExcC (K:W.Frag) (C:Addr):Prop where
 hb:W.exmOne K (.ref C) (.type "BaseException")=some true
 hga:W.findIn K (.ref C) "__getattribute__"=some (some (.builtin "BaseException.__getattribute__"))
 hgt:W.findIn K (.ref C) "__getattr__"=some none
 hf:W.findIn K (.ref C) "__class__"=some (some (.builtin "object.__class__"))
 hsp:W.specialIn K (.builtin "object.__class__") "__get__"=some (some (.builtin "getset_descriptor.__get__"))
 htk:W.takesIn K (.builtin "object.__class__")=some true
 ho:W.mroIn K C (.type "object")=some true
 hc:(W.clsIn K C).isSome=true
 ht:W.typeIn K (.ref C)=some (.type "type")
theorem zjb {M:Model}(e:h.get? a=some o)(c:o.cls= .ref C):W.Looks M h (typeOf (.ref a)) (.ref C):=fun A Q E s k q=>by
 unfold typeOf;exact qaB (wpAny_loadPart (k a o e) (qaE (by rw[c];exact q)))
theorem zic (h:(W.clsIn K C).isSome=true):∃o cd,List.lookup C K=some o/\o.data= .cls cd:=by
 unfold W.clsIn at h
 split at h
 ·rename_i c d cd sl e;exact⟨_,cd,e,rfl⟩
 ·cases h
theorem kitx_exc (f:ExcC K C):W.KitX K (.ref a) (.ref C) (fun h=>∃o,h.get? a=some o/\o.cls= .ref C) where
 ty:=fun M h kin ⟨o,e,c⟩=>zjb e c
 it:=fun M h kin _ A Q E s k q=>by
  obtain⟨o,cd,e,d⟩:=zic f.hc;unfold isType;refine qaB (wpAny_loadPart (k C o (kin C o e)) (qaE ?_));rw[d];exact q
 ne:=fun h tp dd its n sl kin e=>by
  obtain⟨o,cd,e2,d⟩:=zic f.hc;have e3:=kin C o e2;rw[Bool.eq_false_iff];intro z;have z:=eq_of_beq z;cases z;rw[e]at e3;cases e3;cases d
 ca:=fun{prog w A E Q s} kin ⟨o,e,c⟩ q=>zoR kin (fun M=>zjb e c) f.hb f.hga f.hgt f.hf f.hsp f.htk f.ho q
theorem zme (f:ExcC K C){Q:Value->Shared->Prop}(kin:K.In s.heap)(h:∃o,s.heap.get? a=some o/\o.cls= .ref C)(e:W.kitOne K (.ref C) c=some b)
  (q:∀tk,Q (.bool b) {s with toks:=tk}):wpAny (model prog w) A (call (.builtin "isinstance") [.ref a,c]) Q E s:=qaX (kitx_exc f) kin h e (fun z=>nomatch z) q
noncomputable def Flies (h:Heap)(a T:Addr)(C a0:Value):Prop:=∃oe vs oT ts,h.get? a=some oe/\(oe.cls=C/\vs[0]? =some a0)/\oe.data= .fields vs/\vs[1]? =some (.ref T)/\T≠a/\h.get? T=some oT/\oT.data= .fields ts/\ts[3]? =some .none
noncomputable def CX1 (P:Program)(w:World):CXT:=fun outer H s E e s'=>
 ∃(a T:Addr) (C a0:Value) (H':Hp),e= .ref a/\s'.os=s.os/\AllBare s'.gens/\Un (frs outer) [] H H' s.heap s'.heap/\HOk P w H' s'.heap/\Flies s'.heap a T C a0/\(s.heap.get? a=none/\s.heap.get? T=none)/\(H' a=none/\H' T=none)/\E C none H'
theorem znZ {fs:List Addr}{H H' H2:Hp}{h h1 h2:Heap}(u:Un fs [] H H' h h1)(k:∀b o,h.get? b≠none->h1.get? b=some o->b∉fs->h2.get? b=some o)
  (sl:∀b o,b∈fs->h1.get? b=some o->∃sl,h2.get? b=some {o with slots:=sl}) (hh:∀b,h.get? b≠none->H' b=none->H2 b=none) (ht:∀b o,H' b=some o->H2 b=some o):Un fs [] H H2 h h2 where
 keep:=fun b o e n hf hx=>k b o (by rw[e];exact fun z=>by cases z) (u.keep b o e n hf hx) hf
 slot:=fun b o e n hf hx=>by
  obtain⟨s1,e1⟩:=u.slot b o e n hf hx;obtain⟨s2,e2⟩:=sl b _ hf e1;exact⟨s2,e2⟩
 free:=fun b o e n hx=>hh b (by rw[e];exact fun z=>by cases z) (u.free b o e n hx)
 there:=fun b o e hx=>by
  obtain⟨o1,e1⟩:=u.there b o e hx
  by_cases hf:b∈fs
  ·obtain⟨s2,e2⟩:=sl b _ hf e1;exact⟨_,e2⟩
  ·exact⟨o1,k b o1 (by rw[e];exact fun z=>by cases z) e1 hf⟩
 tups:=fun b xs e=>ht b _ (u.tups b xs e)
 frzs:=fun b o xs e=>ht b _ (u.frzs b o xs e)
 tbls:=fun b ps e=>by
  obtain⟨m,e1⟩:=u.tbls b ps e;exact⟨m,ht b _ e1⟩
theorem hok_more {P:Program}{h h2:Heap}(x:HOk P w H h)(k:∀b o,H b≠none->h.get? b=some o->h2.get? b=some o):HOk P w H h2:=fun a o e=>
  (x a o e).stay (fun b u hb q => k b u (by rcases hb with rfl | hb; · rw [e]; exact fun z => by cases z
                                            . rw[hb];exact fun z=>by cases z) q) (fun _ q=>q) fun _ _ q=>q
theorem obj_has {P:Program}{o:HO}(x:ObjOk P w H h a o):∃ob,h.get? a=some ob:=by
 cases o with
 |lst xs=>obtain⟨_,_,_,_,e⟩:=x;exact⟨_,e⟩
 |tup xs=>obtain⟨_,_,_,ob,e,_⟩:=x;exact⟨_,e⟩
 |dK kvs=>obtain⟨_,_,_,_,o,_,_,e,_⟩:=x;exact⟨_,e⟩
 |dT kvs=>obtain⟨_,_,_,_,o,_,_,e,_⟩:=x;exact⟨_,e⟩
 |set S n=>obtain⟨o,_,_,_,e,_⟩:=x;exact⟨_,e⟩
 |ins C dx fs=>obtain⟨_,_,_,e,_⟩:=x;exact⟨_,e⟩
 |own y=>exact x
 |xd fs=>obtain⟨_,⟨_,_,_,e,_⟩,_⟩:=x;exact⟨_,e⟩
 |rng lo hi=>obtain⟨_,_,_,e⟩:=x;exact⟨_,e⟩
 |frz ob u=>exact⟨_,x.1⟩
 |tbl ps=>exact⟨_,x⟩
 |met f y=>exact⟨_,x⟩
 |ext φ=>exact x.2.1
theorem zdT {P:Program}(x:HOk P w H h){b:Addr}(e:h.get? b=none):H b=none:=by
 cases q:H b with
 |none=>rfl
 |some o=>
  obtain⟨ob,e2⟩:=obj_has (x b o q);rw[e]at e2;cases e2
theorem nn {α:Type}{o:Option α}{x:α}(e:o=some x):o≠none:=by rw[e];exact fun z=>by cases z
structure TopF (X:Cx):Prop where
 hs:X.stack=X.env::X.outer
 hfr:X.env.frame=some X.env.locals
 hex:X.ex=[]
theorem TopF.frs (t:TopF X):L2.frs X.stack=X.env.locals::X.fs:=by
 rw[t.hs];unfold Cx.fs L2.frs;rw[qan,t.hfr]
section
variable {X:Cx} {pins:List (Addr×Obj)} {σ:St} {H H':Hp} {s s1 s2:Shared} {a T T':Addr} {C a0:Value} {E:XK}
theorem cx1_mk (tp:TopF X)(J:Inv X pins σ H' s1)(k:∀b o,s1.heap.get? b=some o->b∉L2.frs X.stack->b≠a->b≠T->s2.heap.get? b=some o)
  (sl:∀b o,b∈L2.frs X.stack->s1.heap.get? b=some o->∃sl,s2.heap.get? b=some {o with slots:=sl})
  (na:X.s₀.heap.get? a=none) (nT:X.s₀.heap.get? T=none) (nT':X.s₀.heap.get? T'=none) (ha:H' a=none) (hT:H' T=none) (hT':H' T'=none)
  (fl:Flies s2.heap a T' C a0) (os:s2.os=s1.os) (g:AllBare s2.gens) (hE:E C none H'):CX1 X.prog X.w X.outer X.H₀ X.s₀ E (.ref a) s2:=by
 have bs:=J.base;rw[tp.hex]at bs;refine⟨a,T',C,a0,H',rfl,os.trans J.os,g,znZ bs (fun b o hb e nf=>k b o e ?_ ?_ ?_) (fun b o hb e=>sl b o ?_ e) (fun _ _ q=>q) (fun _ _ q=>q),hok_more J.hok (fun b o hb e=>k b o e (fun z=>hb (J.stkFree b z)) (fun z=>hb (z ▸ ha)) fun z=>hb (z ▸ hT)),fl,⟨na,nT'⟩,⟨ha,hT'⟩,hE⟩
 ·rw[tp.frs];intro z;rcases qaq.mp z with z|z
  ·obtain⟨ob,eb⟩:∃ob,X.s₀.heap.get? b=some ob:=qbG.mp hb;have h1:=qae eb;have h2:=J.ok.above;rw[z]at h1;exact absurd (qaf h1 h2) (qag _)
  ·exact nf z
 ·intro z;exact hb (z ▸ na)
 ·intro z;exact hb (z ▸ nT)
 ·rw[tp.frs];exact qap _ hb
theorem zeN (J:Inv X pins σ H' s1)(hex:X.ex=[]){b:Addr}(e:s1.heap.get? b=none):X.s₀.heap.get? b=none:=by
 cases q:X.s₀.heap.get? b with
 |none=>rfl
 |some o=>
  obtain⟨o',e'⟩:=J.base.there b o q (by rw[hex];simp);rw[e]at e';cases e'
noncomputable abbrev zkB (X:Cx)(E:XK):Value->Shared->Prop:=fun e s'=>wpAny (model X.prog X.w) X.A (leaving X.env e) (fun _ s''=>CX1 X.prog X.w X.outer X.H₀ X.s₀ E e s'') (fun e' s''=>CX1 X.prog X.w X.outer X.H₀ X.s₀ E e' s'') s'
theorem zi5 (J:Inv X pins σ H s)(as:List Addr)(h:∀b∈L2.frs X.stack,b∈as):s.heap.FunFrames (W.hideAll s.heap as) X.stack:=W.funFrames_hide J.stack fun env he a' ef=>h a' (qaJ.mpr ⟨env,he,ef⟩)
theorem passes1 (tp:TopF X)(hxe:X.xe=zkB X E):zgA (CX1 X.prog X.w) X E:=by
 intro pins σ H s e s' I hc;obtain⟨a,T,C,a0,H',rfl,os,bare,un,hok,⟨oe,vs,oT,ts,e1,e2,e4,e5,e6,e7,e8,e9⟩,⟨na,nT⟩,⟨ha,hT⟩,hE⟩:=hc;have J:Inv X pins σ H' s':=I.call' os un hok bare fun b z=>absurd z (by simp)
 rw[hxe];have ff0:=zi5 J (a::T::L2.frs X.stack) fun b hb=>qap _ (qap _ hb)
 rw[tp.hs]at ff0;refine wpAny_leaving_nextW (base:=W.hideAll s'.heap (a::T::L2.frs X.stack)) (outer:=X.outer) (by rw[<-tp.hs];exact J.ok.frames) (by rw[tp.hs];exact ff0) tp.hfr
  ⟨oe,vs,T,oT,ts,e1,e2,e4,e5,qak _ (by simp),e6,e7,e8,e9⟩ (fun b o q=>W.of_hideAll _ q) (qak _ (by simp)) fun h' left=>?_
 obtain⟨stay,ff,⟨oe',vs',T',oT',ts',q1,q2,q4,q5,q6,q7,q8,q9,q10⟩,up⟩:=left;have nofield:∀b∈L2.frs X.stack,∃o,s'.heap.get? b=some o/\∀vs:Array Value,o.data≠Data.fields vs:=fun b hb=>(J.stack.mem hb).2
 have fr':T'∉L2.frs X.stack:=fun z=>by
  obtain⟨_,o,ho,nd⟩:=ff.mem (by rw[<-tp.hs];exact z);rw[q8]at ho;cases ho;exact nd _ q9
 have hT2:X.s₀.heap.get? T'=none/\H' T'=none:=by
  cases z:s'.heap.get? T' with
  |none=>exact⟨zeN J tp.hex z,zdT J.hok z⟩
  |some o=>
   by_cases m:T'∈a::T::L2.frs X.stack
   ·rcases qaq.mp m with m|m
    ·exact absurd m q7
    ·rcases qaq.mp m with m|m
     ·subst m;exact⟨zeN I tp.hex nT,hT⟩
     ·exact absurd m fr'
   ·rw[qai _ z m]at q6;cases q6
 refine cx1_mk (T:=T) (T':=T') (a0:=a0) tp J (fun b o e nf n1 n2=>stay b o (qai _ e ?_)) (fun b o hb e=>?_) (zeN I tp.hex na) (zeN I tp.hex nT) hT2.1 ha hT hT2.2 ⟨oe',vs',oT',ts',q1,q2,q4,q5,q7,q8,q9,q10⟩ rfl J.bare hE
 ·intro m;rcases qaq.mp m with m|m
  ·exact n1 m
  ·rcases qaq.mp m with m|m
   ·exact n2 m
   ·exact nf m
 ·obtain⟨o',ho',nd⟩:=nofield b hb;rw[e]at ho';cases ho';exact up b o e nd
theorem raises1 (tp:TopF X)(hxe:X.xe=zkB X E)(J:Inv X pins σ H s){C:Value}(m:s.heap.MadeExcOf h' e C vs)(hE:E C none H):X.xe (.ref e) {s with heap:=h',toks:=tk}:=by
 rw[hxe];have ff0:=zi5 J (L2.frs X.stack) fun b hb=>hb
 refine wpAny_leaves_madeW (base:=W.hideAll s.heap (L2.frs X.stack)) (h:=s.heap) (outer:=X.outer) (args:=vs) (cls:=C) (by rw[<-tp.hs];exact J.ok.frames) tp.hfr (fun b o q=>W.of_hideAll _ q) (by rw[<-tp.hs];exact ff0) m fun h2 t fl _ _ up=>?_
 obtain⟨stay,ne,ff,⟨oe',vs',T',oT',ts',q1,q2,q4,q5,q6,q7,q8,q9,q10⟩⟩:=fl;have nofield:∀b∈L2.frs X.stack,∃o,s.heap.get? b=some o/\∀vs:Array Value,o.data≠Data.fields vs:=fun b hb=>(J.stack.mem hb).2
 have fr':T'∉L2.frs X.stack:=fun z=>by
  obtain⟨o,ho,nd⟩:=nofield _ z;obtain⟨sl,h3⟩:=up T' o (m.keeps _ _ ho) nd;rw[q8]at h3;cases h3;exact nd _ q9
 have hT0:s.heap.get? T'=none:=by
  cases z:s.heap.get? T' with
  |none=>rfl
  |some o=>rw[qai _ z fr']at q6;cases q6
 have hT2:X.s₀.heap.get? T'=none/\H T'=none:=⟨zeN J tp.hex hT0,zdT J.hok hT0⟩;refine cx1_mk (T:=T') (T':=T') (a0:= .ref t) tp J (fun b o e nf n1 n2=>stay b o (qai _ e nf)) (fun b o hb e=>?_) (zeN J tp.hex m.new) hT2.1 hT2.1 (zdT J.hok m.new) hT2.2 hT2.2 ⟨oe',vs',oT',ts',q1,q2,q4,q5,q7,q8,q9,q10⟩ rfl J.bare hE;obtain⟨o',ho',nd⟩:=nofield b hb;rw[e]at ho';cases ho';exact up b o (m.keeps _ _ e) nd
end
noncomputable abbrev MX:=R->Option Str
noncomputable abbrev zn4 (K:W.Frag)(c:Str)(C:Addr):Prop:=W.nsIn K mainGlobals c=some (some (.ref C))
noncomputable def zfz (X:Cx)(S:St->Prop)(E:XK):Prop:=∀pins σ H s e s',Inv X pins σ H s->S σ->CX1 X.prog X.w X.stack H s E e s'->X.xe e s'
noncomputable abbrev bmV:List Value:=[.type "ValueError",.type "Exception",.type "BaseException",.type "object"]
theorem ns_ok {N:Addr}{ep:Nat}{sl:Array (Option Value)}(l:K.lookup N=some ⟨cN,dN,.dict es.toArray ep,sl⟩)(o:(es.all fun e=>match e.key with
  | .str _ _=>true
  |_=>false)=true):W.nsOkIn K N=true:=by
 unfold W.nsOkIn;have l':List.lookup N K=some ⟨cN,dN,.dict es.toArray ep,sl⟩:=l;rw[l'];dsimp only;rw[List.all_toArray];exact o
noncomputable def OwnK (K:W.Frag)(C:Addr):Prop:=∀(h:Heap) (mg:Str->Option Value) (x:Str),K.In h->mg x=some (.ref C)->OwnCls x C bmV "ValueError.__new__" mg h
theorem zlB {C CS N NS:Addr}{nm q nmS qS:Str}{bs bsS:List Value}{hdct hS:Bool}{sn snS:List Str}{sub subS:List Value}{ab abS:Bool}{col colS:Option Bool}{dd ddS:Option Addr}{k0 k1 k2 k3 k5 j0 j1 j2 j3 j5:Option Value}
  (l1:K.lookup C=some (excClassObj nm q C N bs (.ref CS::bmV) hdct sn sub ab col dd k0 k1 k2 k3 k5 "ValueError.__new__")) (l2:K.lookup CS=some (excClassObj nmS qS CS NS bsS bmV hS snS subS abS colS ddS j0 j1 j2 j3 j5 "ValueError.__new__"))
  (i1:W.nsIn K N "__init__"=some none) (i2:W.nsIn K NS "__init__"=some none) (o1:W.nsOkIn K N=true) (o2:W.nsOkIn K NS=true):OwnK K C:=fun h mg x kin hm=>
 ⟨hm,.ref CS::bmV,N,nm,q,bs,hdct,sn,sub,ab,col,dd,k0,k1,k2,k3,k5,h.nsMap N,kin _ _ l1,Heap.Ns.of_isNs (W.isNs_of_in kin o1),W.nsMap_none_of_in kin o1 i1,
  .own (kin _ _ l2) (Heap.Ns.of_isNs (W.isNs_of_in kin o2)) (W.nsMap_none_of_in kin o2 i2) .base⟩
section
variable {X:Cx} {E:XK} {S:St->Prop}
noncomputable abbrev RaiOk (K:W.Frag)(mg:Str->Option Value)(c:Str):Prop:=∃C,mg c=some (.ref C)/\zn4 K c C/\OwnK K C
end
section
variable {P:Program} {w:World} {K:W.Frag} {mg:Str->Option Value} {base:Heap}
theorem zn5 {E:XK}:TopF (cxOf (CX1 P w) P w K mg base N qual scope f cd A outer s H E):=⟨rfl,rfl,rfl⟩
theorem zj6 {E:XK}:zfz (cxOf (CX1 P w) P w K mg base N qual scope f cd A outer s H E) (fun _=>True) E:=fun pins σ H1 s1 e s' I _ h=>passes1 zn5 rfl pins σ H1 s1 e s' I h
end
section
variable {X:Cx} {pins:List (Addr×Obj)} {σ:St} {H:Hp} {s:Shared}
theorem zpl {M:Model}(I:Inv X pins σ H s)(hN:X.N.Nodup)(hj:X.N[j]? =some n)(hk:X.env.scope.names.lookup n=some .local)
  (h:∀s',Inv X pins (σ.set j none) H s'->Q () s'):wpAny M A (do bindName X.env n .none;unbindBehindTheSuite X.env n pos) Q E s:=by
 obtain⟨m,hn,hl⟩:=id I.loc;have hcls:(X.env.scope.kind== .class||(X.env.scope.kind== .module&&X.env.locals !=X.env.globals))=false:=by rw[I.ok.kind];rfl
 have hiσ:j<σ.length:=by rw[I.len];exact(qat.mp hj).1
 have cne:=I.cne;have tracked:∀{a:Addr} {h':Heap},(∃o,s.heap.get? a=some o/\H a=none)->Heap.SameBut a s.heap h'->HOk X.prog X.w H h':=fun{a h'} ha hs b ob e=>by
  obtain⟨_,_,hfree⟩:=ha;refine(I.hok b ob e).stay (fun c w' hc q=>(hs.2 c ?_).trans q) (fun _ q=>q) fun _ _ q=>q
  rintro rfl;rcases hc with rfl|hc
  ·rw[hfree]at e;cases e
  ·rw[hfree]at hc;cases hc
 refine wpAny_nameGoes_keeps hk hn hcls fun h' v hn' hs=>?_
 obtain⟨oL,_,_,hoL,_⟩:=id hn;refine h _ ⟨I.ok,I.os,I.bare,⟨fun b o e n hb hx=>?_,fun b o e n hb hx=>?_,I.base.free,fun b o e hx=>?_,I.base.tups,I.base.frzs,I.base.tbls⟩,⟨_,hn',fun i y v' e1 e2 e3=>?_⟩,fun y c e=>?_,I.free,I.freeC,fun p hp=>?_,tracked ⟨oL,hoL,I.free⟩ hs,by simpa using I.len⟩
 ·exact(hs.2 b (qah (qaf (qae e) I.ok.above))).trans (I.base.keep b o e n hb hx)
 ·obtain⟨sl,e1⟩:=I.base.slot b o e n hb hx;exact⟨sl,(hs.2 b (qah (qaf (qae e) I.ok.above))).trans e1⟩
 ·obtain⟨o',e1⟩:=I.base.there b o e hx;exact⟨o',(hs.2 b (qah (qaf (qae e) I.ok.above))).trans e1⟩
 ·by_cases hij:i=j
  ·subst hij;rw[qau hiσ]at e2;cases e2
  ·rw[qav (Ne.symm hij)]at e2;obtain⟨u',r',q⟩:=hl i y v' e1 e2 e3;refine⟨u',r',?_⟩;rcases q with⟨k,e⟩|⟨k,c,e,z⟩
   ·refine .inl ⟨k,?_⟩;have:y≠n:=fun e=>hij (ziU hN e1 (e ▸ hj))
    simp[this,e]
   ·exact .inr ⟨k,c,e,z.sameBut hs (cne y c e)⟩
 ·obtain⟨w',z⟩:=I.cell y c e;exact⟨w',z.sameBut hs (cne y c e)⟩
 ·obtain⟨e,n,ne,nf,d⟩:=I.pin p hp;exact⟨(hs.2 p.1 ne).trans e,n,ne,nf,d⟩
noncomputable abbrev mkE (X:Cx)(a:Addr):Cx:={X with A:=X.A.mark (some (.ref a)),calm:=false,xe:=fun _ _=>False}
theorem inv_mk (I:Inv X pins σ H s):Inv (mkE X a) pins σ H s:=
 ⟨⟨I.ok.mod,I.ok.kind,I.ok.glob,I.ok.blt,I.ok.above,I.ok.inj,I.ok.has,I.ok.cab,(fun z=>by cases z),I.ok.frames,I.ok.stk,I.ok.exf,I.ok.bs,I.ok.bsz,I.ok.noex,I.ok.exfs,I.ok.funs,I.ok.frf⟩,I.os,I.bare,I.base,I.loc,I.cell,I.free,I.freeC,I.pin,I.hok,I.len⟩
theorem inv_unmk (hd:X.calm=true->X.A.handled=none)(I:Inv (mkE X a) pins σ H s):Inv X pins σ H s:=
 ⟨⟨I.ok.mod,I.ok.kind,I.ok.glob,I.ok.blt,I.ok.above,I.ok.inj,I.ok.has,I.ok.cab,hd,I.ok.frames,I.ok.stk,I.ok.exf,I.ok.bs,I.ok.bsz,I.ok.noex,I.ok.exfs,I.ok.funs,I.ok.frf⟩,I.os,I.bare,I.base,I.loc,I.cell,I.free,I.freeC,I.pin,I.hok,I.len⟩
structure Held (X:Cx) (a T:Addr) (C a0:Value) (h1 h:Heap):Prop where
 stay:(W.hideAll h1 (a::T::L2.frs X.stack)).StaysIn h
 ff:h.FunFrames (W.hideAll h1 (a::T::L2.frs X.stack)) (X.env::X.outer)
 tr:h.TracedW (W.hideAll h1 (a::T::L2.frs X.stack)) a C a0
 up:∀b o,b∈L2.frs X.stack->h1.get? b=some o->∃sl,h.get? b=some {o with slots:=sl}
theorem zlc {H':Hp}{s1:Shared}{a T C':Addr}{a0:Value}(I:Inv X pins σ H s)(os:s1.os=s.os)(bare:AllBare s1.gens)(un:Un (L2.frs X.stack) [] H H' s.heap s1.heap)(hok:HOk X.prog X.w H' s1.heap)(na:s.heap.get? a=none)(nT:s.heap.get? T=none)(ha:H' a=none)(hT:H' T=none)
  (J:Inv X pins σ H' s1) (x:Held X a T (.ref C') a0 s1.heap h):Inv X pins σ (upd H' a (.ext (zkR a C'))) {s1 with heap:=h,toks:=tk}:=by
 obtain⟨oe,vs,T',oT,ts,q1,⟨q2,_⟩,_⟩:=x.tr;have kk:∀b o,s1.heap.get? b=some o->b∉L2.frs X.stack->b≠a->b≠T->h.get? b=some o:=fun b o e nf n1 n2=>x.stay b o (qai _ e fun m=>by
  rcases qaq.mp m with m|m
  ·exact n1 m
  ·rcases qaq.mp m with m|m
   ·exact n2 m
   ·exact nf m)
 refine I.call' (ch:=[]) os (znZ un (fun b o hb e nf=>kk b o e nf (fun z=>hb (z ▸ na)) fun z=>hb (z ▸ nT)) x.up (fun b hb e=>?_) fun b o e=>?_) (fun b o e=>?_) bare fun b z=>absurd z (by simp)
 ·rw[zak (show b≠a from fun z=>hb (z ▸ na))];exact e
 ·rw[zak (zaH e ha)];exact e
 ·by_cases z:b=a
  ·subst z;rw[zal]at e;cases e;exact⟨⟨oe,q1,q2⟩,⟨oe,q1⟩,fun h1 h2 ⟨o,e,c⟩ k=>⟨o,k o e,c⟩⟩
  ·rw[zak z]at e;refine(hok b o e).stay (fun c u hc q=>kk c u q ?_ ?_ ?_) (fun c q=>by rw[zak (zaH q ha)];exact q) fun c xs q=>by rw[zak (zaH q ha)];exact q
   ·intro m;have:=J.stkFree c m;rcases hc with rfl|hc
    ·rw[this]at e;cases e
    ·rw[this]at hc;cases hc
   ·rintro rfl;rcases hc with rfl|hc
    ·exact z rfl
    ·rw[ha]at hc;cases hc
   ·rintro rfl;rcases hc with rfl|hc
    ·rw[hT]at e;cases e
    ·rw[hT]at hc;cases hc
theorem caught {s1:Shared}{E2:XK}{D:Ends}{y n hc:Str}{hp p1 p2 p3 pos:Pos}(tp:TopF X)(I:Inv X pins σ H s)(hN:X.N.Nodup)(hi:X.N[i]? =some y)(hj:X.N[j]? =some n)(hij:i≠j)
  (ly:X.env.scope.names.lookup y=some .local) (ln:X.env.scope.names.lookup n=some .local) (hdn:(n==("__debug__":Str))=false) (hcn:(n==("__classdict__":Str))=false) (hg:Gl X hc) (hm:X.mg hc=some (.ref CS)) (hdh:(hc==("__debug__":Str))=false) (hsw:swapsWith (.Name n p2) (some (.Name y p1)) p3.line X.env=pure false)
  (hE:∀C H',E2 C none H'->∃C',C= .ref C'/\W.exmOne X.K (.ref C') (.ref CS)=some true/\∀a,H' a=none->D.nx ((σ.set i (some (.ref a))).set j none) (upd H' a (.ext (zkR a C'))))
  (c:CX1 X.prog X.w X.stack H s E2 ev s1) {F:Value->Shared->Prop}:
  wpAny (model X.prog X.w) X.A (noteFrame ev X.env) (fun _ s₂=>wpAny (model X.prog X.w) X.A (setFlight ev none) (fun _ s₃=>wpAny (model X.prog X.w) X.A (handleBy ev X.env [.ExceptHandler (some (.Name hc hp)) (some n) [.Assign [.Name y p1] (.Name n p2) p3] pos]) (SP X pins D) F s₃) F s₂) F s1:=by
 obtain⟨a,T,C,a0,H',rfl,os,bare,un,hok,⟨oe,vs,oT,ts,e1,e2,e4,e5,e6,e7,e8,e9⟩,⟨na,nT⟩,⟨ha,hT⟩,hE1⟩:=c;obtain⟨C',rfl,hex,hD⟩:=hE C H' hE1;have hD:=hD a ha;have J:Inv X pins σ H' s1:=I.call' os un hok bare fun b z=>absurd z (by simp)
 have ff0:=zi5 J (a::T::L2.frs X.stack) fun b hb=>qap _ (qap _ hb)
 have ff1:s1.heap.FunFrames (W.hideAll s1.heap (a::T::L2.frs X.stack)) (X.env::X.outer):=by
  have:=ff0
  generalize W.hideAll s1.heap (a::T::L2.frs X.stack)=B at this ⊢
  rw[tp.hs]at this;exact this
 have nofield:∀b∈L2.frs X.stack,∃o,s1.heap.get? b=some o/\∀vs:Array Value,o.data≠Data.fields vs:=fun b hb=>(J.stack.mem hb).2
 refine wpAny_noteFrame_onW (base:=W.hideAll s1.heap (a::T::L2.frs X.stack)) (outer:=X.outer) (by rw[<-tp.hs];exact J.ok.frames) ff1 tp.hfr
  ⟨oe,vs,T,oT,ts,e1,e2,e4,e5,qak _ (by simp),e6,e7,e8,e9⟩ (fun b o q=>W.of_hideAll _ q) (qak _ (by simp)) fun h2 nt=>?_
 obtain⟨stay2,ff2,tr2,up2⟩:=nt;refine wpAny_setFlight_noneW stay2 ff2 tr2 fun h3 stay3 ff3 tr3 up3=>?_
 have held3:Held X a T (.ref C') a0 s1.heap h3:=⟨stay3,ff3,tr3,fun b o hb e=>by
  obtain⟨o',ho',nd⟩:=nofield b hb;rw[e]at ho';cases ho';obtain⟨sl,e2⟩:=up2 b o e nd;exact⟨sl,up3 b _ e2 nd⟩⟩
 have J3:=zlc (tk:=s1.toks) I os bare un hok na nT ha hT J held3;have hd:=I.ok.hd;refine wpAny_handleBy_cons ?_ (fun z=>nomatch z);refine codeAny_handlers_test (ziP (X:=mkE X a) (inv_mk J3) hg hm ?_ hdh);obtain⟨oe3,_,_,_,_,q1,⟨q2,_⟩,_⟩:=id tr3;refine W.exm_one (M:=model X.prog X.w) J3.kIn (zjb q1 q2) hex _ _ _ _ (fun _ _ q=>q) ?_;rw[if_pos rfl];dsimp only;refine codeAny_handlers_suite_as (wpAny_setFlight_noneW stay3 ff3 tr3 fun h4 stay4 ff4 tr4 up4=>?_);have held4:Held X a T (.ref C') a0 s1.heap h4:=⟨stay4,ff4,tr4,fun b o hb e=>by
  obtain⟨o',ho',nd⟩:=nofield b hb;rw[e]at ho';cases ho';obtain⟨sl,e2⟩:=held3.up b o hb e;exact⟨sl,up4 b _ e2 nd⟩⟩
 have J4:=zlc (tk:=s1.toks) I os bare un hok na nT ha hT J held4;refine zi6 (X:=X) (v:= .ref a) J4 hN hj (.inl ln) rfl (fun s5 J5=>?_) (.inr ln);have hb:=(zgU (X:=mkE X a) (zgv (X:=mkE X a) hN hi (.inl ly) (zaX (X:=mkE X a) hj (.inl ln) hdn hcn) hsw (.inr ly)) zoD) pins s5 _ _ {nx:=fun σ' H''=>σ'=(σ.set j (some (.ref a))).set i (some (.ref a))/\H''=upd H' a (.ext (zkR a C')),rt:=fun _ _=>False} (inv_mk J5);have hjσ:j<σ.length:=by rw[I.len];exact(qat.mp hj).1
 refine qaw (hb ⟨.ref a,?_,rfl,rfl⟩) (fun f s6 q=>?_) fun _ _ q=>q.elim
 ·rw[qau hjσ]
 ·cases f with
  |next=>
   obtain⟨σ',H'',J6,rfl,rfl⟩:=q;dsimp only;refine zpl (inv_unmk hd J6) hN hj ln fun s7 J7=>⟨_,_,J7,?_⟩
   have:(((σ.set j (some (.ref a))).set i (some (.ref a))).set j none)=(σ.set i (some (.ref a))).set j none:=by
    rw[List.set_comm _ _ hij,List.set_set,List.set_comm _ _ hij]
   rw[this];exact hD
  |brk=>obtain⟨_,_,_,z⟩:=q;exact z.elim
  |cont=>obtain⟨_,_,_,z⟩:=q;exact z.elim
  |ret u=>obtain⟨_,_,_,_,_,z⟩:=q;exact z.elim
end
theorem SI.drop {B:Bs}{σ:St}{ρ:R}(I:SI K B G H σ ρ)(i:Nat):SI K B G H (σ.set i none) (ρ.set i .emp):=
 I.chg I.fz (Fz.refl G) I.new I.keep I.there (fun _ _ _ _ _ _ g _=>⟨g,rfl,id⟩) trivial
noncomputable abbrev tryB (X:Cx)(pins:List (Addr×Obj))(E:Value->Shared->Prop):Cx:={X with pn:=X.pn++pins,xe:=E}
section
variable {X:Cx} {pins:List (Addr×Obj)} {σ:St} {H:Hp} {s:Shared} {E:Value->Shared->Prop}
theorem znd (I:Inv X pins σ H s):Inv (tryB X pins E) [] σ H s:=
 ⟨⟨I.ok.mod,I.ok.kind,I.ok.glob,I.ok.blt,I.ok.above,I.ok.inj,I.ok.has,I.ok.cab,I.ok.hd,I.ok.frames,I.ok.stk,I.ok.exf,I.ok.bs,I.ok.bsz,I.ok.noex,I.ok.exfs,I.ok.funs,I.ok.frf⟩,I.os,I.bare,I.base,I.loc,I.cell,I.free,I.freeC,fun p hp=>I.pin p (by simpa using hp),I.hok,I.len⟩
theorem zeD (I:Inv (tryB X pins E) pins' σ H s):Inv X pins σ H s:=
 ⟨⟨I.ok.mod,I.ok.kind,I.ok.glob,I.ok.blt,I.ok.above,I.ok.inj,I.ok.has,I.ok.cab,I.ok.hd,I.ok.frames,I.ok.stk,I.ok.exf,I.ok.bs,I.ok.bsz,I.ok.noex,I.ok.exfs,I.ok.funs,I.ok.frf⟩,I.os,I.bare,I.base,I.loc,I.cell,I.free,I.freeC,fun p hp=>I.pin p (qas _ hp),I.hok,I.len⟩
theorem sp_untry {D:Ends}{f:Flow}(h:SP (tryB X pins E) [] D f s):SP X pins D f s:=by
 cases f with
 |next=>obtain⟨σ',H',I,q⟩:=h;exact⟨σ',H',zeD I,q⟩
 |brk=>obtain⟨σ',H',I,q⟩:=h;exact⟨σ',H',zeD I,q⟩
 |cont=>obtain⟨σ',H',I,q⟩:=h;exact⟨σ',H',zeD I,q⟩
 |ret u=>obtain⟨v,σ',H',I,r,q⟩:=h;exact⟨v,σ',H',zeD I,r,q⟩
end
noncomputable abbrev CatOk (K:W.Frag)(mg:Str->Option Value)(hc:Str)(ok:List Str):Prop:=∃CS,mg hc=some (.ref CS)/\∀c,ok.contains c=true->∃C,zn4 K c C/\W.exmOne K (.ref C) (.ref CS)=some true
noncomputable def rIsO (K:W.Frag)(cv:Value):List V->Hp->VK->Prop:=fun xs H Q=>∃a C u b,xs=[.ref a,u]/\(∀w,RelV u w->w=cv)/\H a=some (.ext (zkR a C))/\ExcC K C/\W.kitOne K (.ref C) cv=some b/\Q (.bl b) H
theorem call_isO (cv:Value):zeV X (.builtin "isinstance") (rIsO X.K cv):=by
 intro pins s σ H xs us Q I r h;obtain⟨a,C,v,b,rfl,rv,ea,f,e,q⟩:=h;obtain⟨u,w',rfl,r1,r2⟩:=vals2 r;cases(show u=Value.ref a from r1);have:w'=cv:=rv w' r2;subst this;exact zme f I.kIn (I.hok a _ ea).1 e fun tk=>⟨.bl b,H,I.tok _,rfl,q⟩
noncomputable def eIsO (tab:List (Str×Bool))(ma:ME):ME:=fun ρ=>(ma ρ).bind fun p=>match p.1 with
 | .exc c=>(tab.lookup c).map fun b=>(.bl b,p.2)
 |_=>none
noncomputable abbrev zo3 (K:W.Frag)(cv:Value)(tab:List (Str×Bool)):Prop:=∀c b,tab.lookup c=some b->∃C,zn4 K c C/\ExcC K C/\W.kitOne K (.ref C) cv=some b
section
variable {X:Cx} {a:Expr} {ma:ME} {p q pos:Pos} {tab:List (Str×Bool)} {x:Str}
theorem zhx {v:V}{b:Expr}(hcv:∀w,RelV v w->w=cv)(ml:X.mg "isinstance"=none)(ht:zo3 X.K cv tab)(ha:SE X a ma)(pb:PE X b (tC v))(hg:autoParam (Gl X "isinstance") zu3._auto_1)
  (he:autoParam (starEach [a,b] X.env=(false,eval a X.env)::starEach [b] X.env) zu3._auto_1) (he2:autoParam (starEach [b] X.env=(false,eval b X.env)::starEach [] X.env) zu3._auto_1) (hpl:autoParam ((backTo pos (starEach [b] X.env)).any (·.1)=false) zu3._auto_1):
  SE X (.Call (.Name "isinstance" p) [a,b] [] pos) (eIsO tab ma):=by
 obtain⟨ta,pa,sa⟩:=ha;refine⟨_,zdM (call_isO cv) hg ml boot_isinstance (zaG pa (zaG pb zbX he2) he) (by decide) (by decide) he hpl,fun B G H σ ρ d ρ' Q I hm k=>?_⟩;obtain⟨⟨y,ρ1⟩,e1,hm⟩:=zaa hm;refine sa B G H σ ρ y ρ1 _ I e1 fun G1 H1 u I1 f1 r1=>?_
 cases y with
 |exc c=>
  obtain⟨b,e2,e3⟩:=zaf hm;cases e3;obtain⟨C,hC,f,hk⟩:=ht c b e2;obtain⟨a',C',rfl,hC',ga⟩:=r1;have hC':W.nsIn X.K mainGlobals c=some (some (.ref C')):=hC';have:C'=C:=by rw[hC]at hC';cases hC';rfl
  subst this;exact⟨a',C',v,b,rfl,hcv,I1.fz _ _ ga,f,hk,k G1 H1 _ I1 f1 rfl⟩
 |non=>cases hm
 |bl _=>cases hm
 |int _=>cases hm
 |str _=>cases hm
 |lst _=>cases hm
 |tup _=>cases hm
 |scr _=>cases hm
 |dic _ _=>cases hm
 |dit _ _=>cases hm
theorem se_isO {C2:Addr}(ml:X.mg "isinstance"=none)(mC:X.mg x=some (.ref C2))(ht:zo3 X.K (.ref C2) tab)(ha:SE X a ma)(hg:autoParam (Gl X "isinstance") zu3._auto_1)(hgx:autoParam (Gl X x) zu3._auto_1)(hd:autoParam ((x==("__debug__":Str))=false) zu1._auto_1)
  (he:autoParam (starEach [a,.Name x q] X.env=(false,eval a X.env)::starEach [.Name x q] X.env) zu3._auto_1) (he2:autoParam (starEach [.Name x q] X.env=(false,eval (.Name x q) X.env)::starEach [] X.env) zu3._auto_1) (hpl:autoParam ((backTo pos (starEach [.Name x q] X.env)).any (·.1)=false) zu3._auto_1):
  SE X (.Call (.Name "isinstance" p) [a,.Name x q] [] pos) (eIsO tab ma):=zhx (v:= .ref C2) (fun w r=>r) ml ht ha (pe_glob hgx mC rfl hd) hg he he2 hpl
theorem se_isOT {T:String}(ml:X.mg "isinstance"=none)(mT:X.mg x=none)(hbT:bootBuiltins x=some (.type T))(ht:zo3 X.K (.type T) tab)(ha:SE X a ma)(hg:autoParam (Gl X "isinstance") zu3._auto_1)(hgx:autoParam (Gl X x) zu3._auto_1)(hn:autoParam (x≠"__name__") zu1._auto_1)(hd:autoParam ((x==("__debug__":Str))=false) zu1._auto_1)
  (he:autoParam (starEach [a,.Name x q] X.env=(false,eval a X.env)::starEach [.Name x q] X.env) zu3._auto_1) (he2:autoParam (starEach [.Name x q] X.env=(false,eval (.Name x q) X.env)::starEach [] X.env) zu3._auto_1) (hpl:autoParam ((backTo pos (starEach [.Name x q] X.env)).any (·.1)=false) zu3._auto_1):
  SE X (.Call (.Name "isinstance" p) [a,.Name x q] [] pos) (eIsO tab ma):=zhx (v:= .ty T) (fun w r=>r) ml ht ha (zoP (v:= .ty T) hgx mT hbT rfl hn hd) hg he he2 hpl
end
noncomputable abbrev IsOk (K:W.Frag)(mg:Str->Option Value)(c:Str)(tab:List (Str×Bool)):Prop:=∃C2,mg c=some (.ref C2)/\zo3 K (.ref C2) tab
theorem zdk {a:Expr}{ma:ME}{p q pos:Pos}(ml:X.mg "isinstance"=none)(h:IsOk X.K X.mg x tab)(ha:SE X a ma)(hg:autoParam (Gl X "isinstance") zu3._auto_1)(hgx:autoParam (Gl X x) zu3._auto_1)(hd:autoParam ((x==("__debug__":Str))=false) zu1._auto_1)
  (he:autoParam (starEach [a,.Name x q] X.env=(false,eval a X.env)::starEach [.Name x q] X.env) zu3._auto_1) (he2:autoParam (starEach [.Name x q] X.env=(false,eval (.Name x q) X.env)::starEach [] X.env) zu3._auto_1) (hpl:autoParam ((backTo pos (starEach [.Name x q] X.env)).any (·.1)=false) zu3._auto_1):
  SE X (.Call (.Name "isinstance" p) [a,.Name x q] [] pos) (eIsO tab ma):=let⟨_,h1,h2⟩:=h;se_isO ml h1 h2 ha hg hgx hd he he2 hpl
theorem cat_nil {P:Str->Prop}:∀c,([]:List Str).contains c=true->P c:=fun c h=>by simp at h
theorem zl7 {P:Str->Prop}{d:Str}{ok:List Str}(h:P d)(t:∀c,ok.contains c=true->P c):∀c,(d::ok).contains c=true->P c:=fun c hc=>by
 rw[qcl,qbL]at hc;rcases hc with hc|hc
 ·rw[eq_of_beq hc];exact h
 ·exact t c hc
theorem zcI {P:Str->Bool->Prop}:∀c b,([]:List (Str×Bool)).lookup c=some b->P c b:=fun c b h=>by cases h
theorem zaJ {P:Str->Bool->Prop}{b0:Bool}(h:P d b0)(t:∀c b,tab.lookup c=some b->P c b):∀c b,((d,b0)::tab).lookup c=some b->P c b:=fun c b hc=>by
 rw[qbT]at hc;cases z:c==d with
 |true=>rw[z]at hc;cases hc;rw[eq_of_beq z];exact h
 |false=>rw[z]at hc;exact t c b hc
theorem zbl {cd:ClassData}{sl:Array (Option Value)}(l:K.lookup C=some ⟨oc,od,.cls cd,sl⟩):(W.clsIn K C).isSome=true:=by
 unfold W.clsIn;have l':List.lookup C K=some ⟨oc,od,.cls cd,sl⟩:=l;rw[l'];rfl
theorem zlJ (h:W.mroIn K C (.type "BaseException")=some true):W.exmOne K (.ref C) (.type "BaseException")=some true:=by
 unfold W.exmOne W.kitCls;have e1:W.subIn K (.type "BaseException") (.type "BaseException")=some true:=by unfold W.subIn;dsimp only;decide+kernel
 have e2:W.kitMeta "BaseException"=true:=by decide+kernel
 rw[e1,if_pos (by rfl)];dsimp only;rw[if_pos e2];exact h
theorem znU (hb:W.mroIn K CS (.type "BaseException")=some true)(hc:(W.clsIn K CS).isSome=true)(ht:W.typeIn K (.ref CS)=some (.type "type"))(hm:W.mroIn K C (.ref CS)=some true):W.exmOne K (.ref C) (.ref CS)=some true:=by
 unfold W.exmOne W.kitCls;have e1:W.subIn K (.ref CS) (.type "BaseException")=some true:=hb;rw[e1,if_pos (by rfl)];dsimp only;rw[hc,ht,if_pos (by rfl)];exact hm
theorem znz {C C2:Addr}(hc:(W.clsIn K C2).isSome=true)(ht:W.typeIn K (.ref C2)=some (.type "type"))(hm:W.mroIn K C (.ref C2)=some b):W.kitCls K (.ref C) (.ref C2)=some b:=by
 unfold W.kitCls;dsimp only;rw[hc,ht,if_pos (by rfl)];exact hm
theorem zgK {C C2:Addr}(hc:(W.clsIn K C2).isSome=true)(ht:W.typeIn K (.ref C2)=some (.type "type"))(hm:W.mroIn K C (.ref C2)=some true):W.kitOne K (.ref C) (.ref C2)=some true:=by
 unfold W.kitOne
 split
 ·rfl
 ·exact znz hc ht hm
theorem zaR {C C2:Addr}(hs:W.mroIn K C (.ref C)=some true)(hc:(W.clsIn K C2).isSome=true)(ht:W.typeIn K (.ref C2)=some (.type "type"))(hm:W.mroIn K C (.ref C2)=some false):W.kitOne K (.ref C) (.ref C2)=some false:=by
 unfold W.kitOne
 split
 ·rename_i z;have z:=eq_of_beq z;cases z;rw[hs]at hm;cases hm
 ·exact znz hc ht hm
theorem zl2 {T:String}(hk:W.kitMeta T=true)(hm:W.mroIn K C (.type T)=some b):W.kitOne K (.ref C) (.type T)=some b:=by
 unfold W.kitOne W.kitCls;rw[if_neg (by simp)];dsimp only;rw[if_pos hk];exact hm
noncomputable def blsOf:List D->Option (List Bool)
 |[]=>some []
 | .bl b::ds=>(blsOf ds).map (b:: ·)
 |_=>none
theorem zlw:∀{ds:List D} {bs:List Bool},blsOf ds=some bs->ds=bs.map .bl
 |[],bs,h=>by cases h;rfl
 | .bl b::ds,bs,h=>by
  obtain⟨cs,e1,e2⟩:=zaf h;cases e2;rw[zlw e1];rfl
 | .non::_,_,h=>by cases h
 | .int _::_,_,h=>by cases h
 | .str _::_,_,h=>by cases h
 | .lst _::_,_,h=>by cases h
 | .tup _::_,_,h=>by cases h
 | .scr _::_,_,h=>by cases h
 | .exc _::_,_,h=>by cases h
 |(.dic _ _)::_,_,h=>by cases h
 |(.dit _ _)::_,_,h=>by cases h
theorem zoU:∀{bs:List Bool} {xs:List V},RepL K G xs (bs.map D.bl)->xs=bs.map V.bl
 |[],xs,h=>h
 |b::bs,xs,⟨x,ys,e,r,t⟩=>by rw[e,show x=V.bl b from r,zoU t];rfl
theorem zjj (k:Bool):∀bs:List Bool,Spec.countIn (PyData.bool k) (bs.map PyData.bool)=(bs.count k:Nat)
 |[]=>rfl
 |b::bs=>by
  have ih:=zjj k bs;show(if _ then(1:Int)else 0)+Spec.countIn (PyData.bool k) (bs.map PyData.bool)=_;rw[ih,qcm];have h1:same (PyData.bool true) (PyData.bool true)=true:=by decide+kernel
  have h2:same (PyData.bool true) (PyData.bool false)=false:=by decide+kernel
  have h3:same (PyData.bool false) (PyData.bool true)=false:=by decide+kernel
  have h4:same (PyData.bool false) (PyData.bool false)=true:=by decide+kernel
  cases k<;>cases b<;>simp[h1,h2,h3,h4]<;>lia
theorem zjz:∀{bs:List Bool} {us:List Value},Vals (bs.map V.bl) us->ReadsAll h us (bs.map PyData.bool) (bs.map fun _=>[]).flatten
 |[],us,r=>by cases r;exact .nil
 |b::bs,us,r=>by
  cases r with
  |cons r1 r2=>
   cases(show _=Value.bool b from r1);exact .cons (.bool b) (zjz r2)
noncomputable def rCount (K:W.Frag):V->List V->Hp->VK->Prop:=fun x vs H Q=>∃(l:Addr) (bs:List Bool) (k:Bool),x= .ref l/\vs=[.bl k]/\SqL K H l (bs.map V.bl)/\Q (.int (bs.count k:Nat)) H
theorem mt_count:MtR X "list.count" (rCount X.K):=by
 intro pins s σ H x vs v us Q I rx rv h;obtain⟨l,bs,k,rfl,rfl,hq,q⟩:=h;cases rx;obtain⟨u,rfl,ru⟩:=rv.one;cases(show u=Value.bool k from ru);obtain⟨its,r,p,hz⟩:=I.list hq;refine count_list_bools p.isList (zjz (h:=s.heap) r) (by simp[Spec.Shape.has]) ⟨.int (bs.count k:Nat),H,I.tok _,⟨_,by rw[zjj]⟩,q⟩
noncomputable def zlr:D->D->Option D
 | .lst ds,.bl k=>(blsOf ds).map fun bs=> .int (bs.count k:Nat)
 |_,_=>none
theorem se_count {o e:Expr}{mo me:ME}{apos cpos:Pos}(ho:SE X o mo)(he:SE X e me)
  (hbase:autoParam (attributeBase o "count" X.env (eval o X.env)=eval o X.env) zu3._auto_1)
  (hfew :autoParam (((backTo cpos (starEach [e] X.env)).all (fun x => !x.1) && (backToKw cpos (keywordEach [] X.env)).all (fun x => x.1.isSome)
   &&decide ([e].length+([]:List Keyword).length+(if([]:List Keyword).isEmpty then 0 else 1)<30))=true) zu3._auto_1)
  (hline:autoParam ((apos.endLine==cpos.line)=true) zu3._auto_1) (hs:autoParam (starEach [e] X.env=(false,eval e X.env)::starEach [] X.env) zu3._auto_1):SE X (.Call (.Attribute o "count" apos) [e] [] cpos) (m2 zlr mo me):=by
 obtain⟨to,po,so⟩:=ho;obtain⟨te,pe,se⟩:=he;refine⟨_,pe_bm qbO PySem.F.slot_list_count PySem.F.type_list_count mt_count po (zaG pe zbX hs) hbase hfew hline hs rfl,fun B G H σ ρ d ρ' Q I hm k=>?_⟩;obtain⟨⟨d1,ρ1⟩,e1,hm⟩:=zaa hm;obtain⟨⟨d2,ρ2⟩,e2,hm⟩:=zaa hm;obtain⟨d3,e3,hm⟩:=zaf hm;cases hm;refine so B G H σ ρ d1 ρ1 _ I e1 fun G1 H1 v I1 f1 r1=>?_
 match d1,d2,e3 with
 | .lst ds,.bl b,e3=>
  obtain⟨bs,e4,e3⟩:=zaf e3;cases e3;obtain⟨a,xs,rfl,ha,rr⟩:=r1;refine⟨.inl ⟨rfl,xs,SqL.of (I1.fz _ _ ha)⟩,?_⟩;refine se B G1 H1 σ ρ1 _ ρ2 _ I1 e2 fun G2 H2 u I2 f2 r2=>?_
  cases(show u=V.bl b from r2);cases zlw e4;have ex:xs=bs.map V.bl:=zoU (rr.mono f2);subst ex;exact⟨a,bs,b,rfl,rfl,SqL.of (I2.fz _ _ (f2 _ _ ha)),k G2 H2 _ I2 (f1.trans f2) rfl⟩
theorem boot_set:bootBuiltins "set"=some (.type "set"):=by decide+kernel
end M
namespace M
open L2 PySem
noncomputable def likeS:Sl->Sl->Bool
 | .own ds,.own es=>match za5 ds,za5 es with
  |some a,some b=>a==b
  |_,_=>false
 | .par ds,.par es=>match za5 ds,za5 es with
  |some a,some b=>a==b
  |_,_=>false
 | .own _,_=>false
 | .par _,_=>false
 | .tre _,_=>false
 | .ptr _,_=>false
 |_,_=>true
end M
namespace M
open L2 PySem PySem.Spec
open PyProof.Rows hiding St
variable {s:Sl} {t:T} {ov:Option (Option V)} {a:Addr} {i j:Nat} {v:V} {A:List Addr} {ds:List D} {K:W.Frag} {B:Bs} {G H:Hp} {σ:St} {ρ:R} {q:List Int×List D}
noncomputable def Sl.putT (s:Sl)(t:T):Sl:=match s with
 | .tre _=> .tre t
 | .ptr _=> .ptr t
 |s=>s
noncomputable def Sl.tree:Sl->Option T
 | .tre t=>some t
 |_=>none
section
variable {K:W.Frag} {B:Bs} {G G' H H':Hp} {σ:St} {ρ:R}
theorem zma (q:s.tree=some t):OwS K G H ov a s↔∃v A,ov=some (some v)/\RepT K G H v t A/\a∈A:=by
 cases s with
 |tre _=>cases q;exact Iff.rfl
 |_=>cases q
theorem zoH (q:s.tree=some t)(t':T):(s.putT t').tree=some t':=by
 cases s with
 |tre _=>rfl
 |_=>cases q
theorem SI.tree (I:SI K B G H σ ρ)(e:ρ[i]? =some s)(q:s.tree=some t):∃v A,σ[i]? =some (some v)/\RepT K G H v t A/\A.Nodup/\(∀a∈A,G a=none)/\∀a∈A,B.H a=none\/(i,a)∈B.O:=by
 have h:=I.slot i s e;cases s with
 |tre _=>cases q;obtain⟨v,A,h1,h2,h3,h4⟩:=h;exact⟨v,A,h1,h2,h3,fun a m=>(h4 a m).1,fun a m=> .inl (h4 a m).2⟩
 |_=>cases q
theorem SI.chT (I:SI K B G H σ ρ){i:Nat}{t t':T}{A A':List Addr}(e:ρ[i]? =some s)(q:s.tree=some t)(hv:σ[i]? =some (some v))(r:RepT K G H v t A)(fz:Fz G H')(kp:∀b o,b∉A->H b=some o->H' b=some o)(th:∀b,H' b=none->H b=none)
  (r':RepT K G H' v t' A') (nd:A'.Nodup) (sub:∀a∈A',a∈A\/H a=none):SI K B G H' σ (ρ.set i (s.putT t')):=by
 obtain⟨v1,A1,h1,h2,h3,h4,h5⟩:=I.tree e q;rw[hv]at h1;cases h1;have:A1=A:=h2.det r fun _ _=>rfl
 subst this;have g':∀a∈A',G a=none:=fun a m=>by
  rcases sub a m with z|z
  ·exact h4 a z
  ·exact I.fz.free z
 have b':∀a∈A',B.H a=none\/(i,a)∈B.O:=fun a m=>by
  rcases sub a m with z|z
  ·exact h5 a z
  ·exact .inl (I.there a z)
 have h:=I.chg (i:=i) (ov:=some v) (s':=s.putT t') (G':=G) (H':=H') fz (Fz.refl G) I.new (fun b o k1 k2=>kp b o (fun m=>?_) (I.keep b o k1 k2)) (fun b k=>I.there b (th b k)) (fun j u a z ej w g ha=>?_) ?_
 ·rwa[zhB hv]at h
 ·rcases h5 b m with z|z
  ·rw[k1]at z;cases z
  ·exact k2 i z
 ·have na:a∉A1:=fun m=>I.dis j i u s a z ej e w ((zma q).mpr ⟨v,A1,hv,h2,m⟩)
  obtain⟨x,hx⟩:=qbG.mp ha;refine⟨g,(kp a x na hx).trans hx.symm,fun w'=>?_⟩;obtain⟨v2,A2,k1,k2,k3⟩:=(zma (zoH q t')).mp w';cases k1;rw[k2.det r' fun _ _=>rfl]at k3;rcases sub a k3 with z|z
  ·exact na z
  ·exact ha z
 ·have sl:=I.slot i s e;cases s with
  |tre _=>
   obtain⟨v2,A2,k1,k2,k3,k4⟩:=sl;rw[hv]at k1;cases k1;cases q;have:A2=A1:=k2.det h2 fun _ _=>rfl
   subst this;refine⟨v,A',rfl,r',nd,fun a m=>⟨g' a m,?_⟩⟩;rcases sub a m with z|z
   ·exact(k4 a z).2
   ·exact I.there a z
  |_=>cases q
theorem SI.setT (I:SI K B G H σ ρ)(r:RepT K G H v t A)(nd:A.Nodup)(hA:∀a∈A,G a=none/\B.H a=none/\Nw K G H σ ρ a):SI K B G H (σ.set i (some v)) (ρ.set i (.tre t)):=
 I.chg I.fz (Fz.refl G) I.new I.keep I.there (fun j s a _ e w g _=>⟨g,rfl,fun⟨v2,A2,k1,k2,k3⟩=>by
  cases k1;rw[k2.det r fun _ _=>rfl]at k3;exact(hA a k3).2.2 j s e w⟩) ⟨v,A,rfl,r,nd,fun a m=>⟨(hA a m).1,(hA a m).2.1⟩⟩
open Classical in
end
section
variable {J κ:Type} [DecidableEq J] [DecidableEq κ]
noncomputable def lkD:List J->List D->J->Option D
 |k::ks,d::ds,j=>if k=j then some d else lkD ks ds j
 |_,_,_=>none
noncomputable def ptD (ks:List J)(ds:List D)(j:J)(d:D):List J×List D:=if ks.contains j then(ks,List.zipWith (fun k x=>if k=j then d else x) ks ds)else(ks++[j],ds++[d])
variable {K:W.Frag} {G:Hp} {em:J->κ}
theorem zk8 (inj:∀a b,em a=em b->a=b):∀{ks:List J} {ds:List D} {ys:List (κ×V)} {j:J} {d:D},ys.map (·.1)=ks.map em->RepL K G (ys.map (·.2)) ds->lkD ks ds j=some d->∃v,valV ys (em j)=some v/\RepD K G v d
 |[],_,_,_,_,_,_,h=>by cases h
 |_::_,[],_,_,_,_,_,h=>by cases h
 |k::ks,x::ds,[],j,d,e,_,_=>by cases e
 |k::ks,x::ds,y::ys,j,d,e,⟨z,zs,e1,r1,r2⟩,h=>by
  cases e1;have e2:=List.cons.inj e;unfold lkD at h
  by_cases q:k=j
  ·rw[if_pos q]at h;cases h;subst q;exact⟨y.2,zgO e2.1,r1⟩
  ·rw[if_neg q]at h;obtain⟨v,h1,h2⟩:=zk8 inj e2.2 r2 h;refine⟨v,?_,h2⟩;rw[zfu fun z=>q (inj _ _ (e2.1.symm.trans z)),h1]
theorem zmY (inj:∀a b,em a=em b->a=b):∀{ks:List J} {ds:List D} {ys:List (κ×V)} {j:J},ys.map (·.1)=ks.map em->RepL K G (ys.map (·.2)) ds->lkD ks ds j=none->valV ys (em j)=none
 |[],_,[],_,_,_,_=>rfl
 |[],_,_::_,_,e,_,_=>by cases e
 |_::_,_,[],_,e,_,_=>by cases e
 |k::ks,[],y::ys,_,_,r,_=>by cases r
 |k::ks,x::ds,y::ys,j,e,⟨z,zs,e1,r1,r2⟩,h=>by
  cases e1;have e2:=List.cons.inj e;unfold lkD at h
  by_cases q:k=j
  ·rw[if_pos q]at h;cases h
  ·rw[if_neg q]at h;rw[zfu fun z=>q (inj _ _ (e2.1.symm.trans z)),zmY inj e2.2 r2 h]
theorem zjr (inj:∀a b,em a=em b->a=b){ks:List J}{ys:List (κ×V)}{j:J}(e:ys.map (·.1)=ks.map em)(r:RepL K G (ys.map (·.2)) ds):(valV ys (em j)).isSome=(lkD ks ds j).isSome:=by
 cases h:lkD ks ds j with
 |none=>rw[zmY inj e r h];rfl
 |some d=>obtain⟨v,h1,_⟩:=zk8 inj e r h;rw[h1];rfl
theorem pt_rep (inj:∀a b,em a=em b->a=b){ks:List J}{ys:List (κ×V)}{j:J}{d:D}(e:ys.map (·.1)=ks.map em)(r:RepL K G (ys.map (·.2)) ds)(rv:RepD K G v d):
  (putK ys (em j) v).map (·.1)=(ptD ks ds j d).1.map em/\RepL K G ((putK ys (em j) v).map (·.2)) (ptD ks ds j d).2:=by
 have any:(ys.any fun kv=>decide (kv.1=em j))=ks.contains j:=by
  clear r
  induction ys generalizing ks with
  |nil=>cases ks with
   |nil=>rfl
   |cons _ _=>cases e
  |cons y ys ih=>cases ks with
   |nil=>cases e
   |cons k ks=>
    have e2:=List.cons.inj e;rw[qbv,ih e2.2,qcl];congr 1
    by_cases q:j=k
    ·subst q;simp[e2.1]
    ·rw[qaa (fun z=>q (inj _ _ (e2.1.symm.trans z)).symm)];simp[q]
 unfold putK ptD;rw[any]
 by_cases q:ks.contains j=true
 ·rw[if_pos q,if_pos q]
  constructor
  ·rw[qb6,<-e];apply qcn;intro a _;simp only[Function.comp]
   split<;>rfl
  ·clear any q;rw[qb6]
   induction ys generalizing ks ds with
   |nil=>cases ks with
    |nil=>exact RepL.nil
    |cons _ _=>cases e
   |cons y ys ih=>cases ks with
    |nil=>cases e
    |cons k ks=>
     have e2:=List.cons.inj e;cases ds with
     |nil=>cases r
     |cons x ds=>
      obtain⟨z,zs,e1,r1,r2⟩:=r;cases e1;refine RepL.cons ?_ (ih e2.2 r2);simp only[Function.comp]
      by_cases q:k=j
      ·rw[if_pos q,if_pos (by rw[<-q];exact e2.1)];exact rv
      ·rw[if_neg q,if_neg fun z=>q (inj _ _ (e2.1.symm.trans z))];exact r1
 ·rw[if_neg q,if_neg q];rw[qb5,qb5,qb5,e];exact⟨rfl,r.append (.cons rv .nil)⟩
end
theorem zl9 (a b:Int)(h:kI a=kI b):a=b:=by cases h;rfl
noncomputable def Sl.dic:Sl->Option (List Int×List D)
 | .tre (.dic ks ds)=>some (ks,ds)
 | .val (.dic ks ds)=>some (ks,ds)
 |_=>none
theorem SI.dic (I:SI K B G H σ ρ)(e:ρ[j]? =some s)(h:s.dic=some q):∃p ys,σ[j]? =some (some (.ref p))/\Rd H p (.dK ys)/\ys.map (·.1)=q.1.map kI/\RepL K G (ys.map (·.2)) q.2:=by
 have tr:∀{t:T},s.tree=some t->t= .dic q.1 q.2->∃p ys,σ[j]? =some (some (.ref p))/\Rd H p (.dK ys)/\ys.map (·.1)=q.1.map kI/\RepL K G (ys.map (·.2)) q.2:=fun{t} h1 h2=>by
  subst h2;obtain⟨v,A,k1,k2,_⟩:=I.tree e h1;obtain⟨p,ys,rfl,e2,e3,e4,-⟩:=k2;exact⟨p,ys,k1,.inl e2,e3,e4⟩
 cases s with
 |tre t=>cases t with
  |dic ks ds=>cases h;exact tr rfl rfl
  |_=>cases h
 |val d=>cases d with
  |dic ks ds=>
   cases h;obtain⟨v,k1,a,ys,rfl,e2,e3,e4⟩:=I.slot j _ e;exact⟨a,ys,k1,e2.imp (I.fz _ _) fun⟨o,z⟩=>⟨o,I.fz _ _ z⟩,e3,e4⟩
  |_=>cases h
 |_=>cases h
noncomputable def tDI (j:Nat)(neg:Bool)(mk:ME):MT:=fun ρ=>(mk ρ).bind fun p=>match p.1 with
 | .int k=>(p.2[j]?.bind Sl.dic).map fun q=>(((lkD q.1 q.2 k).isSome !=neg),p.2)
 |_=>none
noncomputable def eDG (j:Nat)(mk:ME):ME:=fun ρ=>if(ρ[j]?.bind Sl.dic).isSome then(mk ρ).bind fun p=>match p.1 with
 | .int k=>(p.2[j]?.bind Sl.dic).bind fun q=>(lkD q.1 q.2 k).map fun d=>(d,p.2)
 |_=>none else none
noncomputable def sDP (j:Nat)(mk me:ME):MS:=fun ρ=>(me ρ).bind fun p=>if(p.2[j]?.bind Sl.dic).isSome then(mk p.2).bind fun q=>match q.1 with
 | .int k=>q.2[j]?.bind fun s=>match s.tree with
  |some (.dic ks ds)=>if ks.length<16777216 then some (.next,q.2.set j (s.putT (.dic (ptD ks ds k p.1).1 (ptD ks ds k p.1).2)))else none
  |_=>none
 |_=>none else none
section
variable {X:Cx} {x:Str} {a e:Expr} {mk me:ME} {pos p' tpos:Pos}
theorem st_dIn (j:Nat)(hu:X.A.units+64<cLine)(ha:SE X a mk)(hN:autoParam (X.N[j]? =some x) zu3._auto_1)(hv:autoParam (Vis X.env.scope x) zu6._auto_1)(hd:autoParam ((x==("__debug__":Str))=false) zu1._auto_1)
  (hcd:autoParam ((x==("__classdict__":Str))=false) zu1._auto_1) (hm:autoParam (behindInMarks .In (.Name x p')=false) zu3._auto_1):STt X (.Compare a [.In] [.Name x p'] pos) (tDI j false mk):=by
 obtain⟨t,pa,sa⟩:=ha;refine⟨_,pt_cmp (pc_din (by lia) pa (zaX hN hv hd hcd)) hm,fun B G H σ ρ b ρ' Q I hm k=>?_⟩;obtain⟨⟨y,ρ1⟩,e1,hm⟩:=zaa hm;refine sa B G H σ ρ y ρ1 _ I e1 fun G1 H1 v I1 f1 r1=>?_
 cases y<;>try cases hm
 rename_i n;obtain⟨q,e2,e3⟩:=zaf hm;cases e3;obtain⟨s,e4,e5⟩:=zaa e2;obtain⟨p,ys,k1,k2,k3,k4⟩:=I1.dic e4 e5;refine⟨.ref p,k1,p,valV ys (kI n),rfl,by rw[show v=kV (kI n)from r1];exact .inl ⟨ys,kI n,k2,rfl,rfl⟩,_,rfl,?_⟩;rw[zjr zl9 k3 k4];have:=k G1 H1 I1 f1;simpa using this
theorem zgY (j:Nat)(hu:X.A.units+64<cLine)(ha:SE X a mk)(hN:autoParam (X.N[j]? =some x) zu3._auto_1)(hv:autoParam (Vis X.env.scope x) zu6._auto_1)(hd:autoParam ((x==("__debug__":Str))=false) zu1._auto_1)
  (hcd:autoParam ((x==("__classdict__":Str))=false) zu1._auto_1) (hm:autoParam (behindInMarks .NotIn (.Name x p')=false) zu3._auto_1):STt X (.Compare a [.NotIn] [.Name x p'] pos) (tDI j true mk):=by
 obtain⟨t,pa,sa⟩:=ha;refine⟨_,pt_cmp (zo5 (by lia) pa (zaX hN hv hd hcd)) hm,fun B G H σ ρ b ρ' Q I hm k=>?_⟩;obtain⟨⟨y,ρ1⟩,e1,hm⟩:=zaa hm;refine sa B G H σ ρ y ρ1 _ I e1 fun G1 H1 v I1 f1 r1=>?_
 cases y<;>try cases hm
 rename_i n;obtain⟨q,e2,e3⟩:=zaf hm;cases e3;obtain⟨s,e4,e5⟩:=zaa e2;obtain⟨p,ys,k1,k2,k3,k4⟩:=I1.dic e4 e5;refine⟨.ref p,k1,p,valV ys (kI n),rfl,by rw[show v=kV (kI n)from r1];exact .inl ⟨ys,kI n,k2,rfl,rfl⟩,_,rfl,?_⟩;rw[zjr zl9 k3 k4];have:=k G1 H1 I1 f1;simpa using this
theorem zk1 (j:Nat)(hu:X.A.units+64<cLine)(ha:SE X a mk)(hs:autoParam (NoSl a) zu7._auto_1)(hN:autoParam (X.N[j]? =some x) zu3._auto_1)(hv:autoParam (Vis X.env.scope x) zu6._auto_1)(hd:autoParam ((x==("__debug__":Str))=false) zu1._auto_1)
  (hcd:autoParam ((x==("__classdict__":Str))=false) zu1._auto_1):SE X (.Subscript (.Name x p') a pos) (eDG j mk):=by
 obtain⟨t,pa,sa⟩:=ha;refine⟨_,pe_dget (by lia) (zaX hN hv hd hcd) pa hs,fun B G H σ ρ d ρ' Q I hm k=>?_⟩;unfold eDG at hm
 split at hm
 ·rename_i hso;obtain⟨q0,hso⟩:=qa4.mp hso;obtain⟨s0,e0,d0⟩:=zaa hso;obtain⟨p,ys,k1,_⟩:=I.dic e0 d0;obtain⟨⟨y,ρ1⟩,e1,hm⟩:=zaa hm;refine⟨.ref p,k1,sa B G H σ ρ y ρ1 _ I e1 fun G1 H1 v I1 f1 r1=>?_⟩;cases y<;>try cases hm
  rename_i n;obtain⟨q,e2,hm⟩:=zaa hm;obtain⟨d',e3,e4⟩:=zaf hm;cases e4;obtain⟨s,e5,e6⟩:=zaa e2;obtain⟨p',ys,m1,m2,m3,m4⟩:=I1.dic e5 e6;rw[k1]at m1;cases m1;obtain⟨w,h1,h2⟩:=zk8 zl9 m3 m4 e3;exact⟨p,w,rfl,by rw[show v=kV (kI n)from r1,<-h1];exact .inl ⟨ys,kI n,m2,rfl,rfl⟩,k G1 H1 w I1 f1 h2⟩
 ·cases hm
theorem zoe (j:Nat)(hu:X.A.units+64<cLine)(he:SE X e me)(ha:SE X a mk)(hN:autoParam (X.N[j]? =some x) zu3._auto_1)(hv:autoParam (Vis X.env.scope x) zu6._auto_1)(hd:autoParam ((x==("__debug__":Str))=false) zu1._auto_1)
    (hcd:autoParam ((x==("__classdict__":Str))=false) zu1._auto_1) (hs:autoParam (swapsWith e (some (.Subscript (.Name x p') a tpos)) pos.line X.env=pure false) zu3._auto_1):SS X (.Assign [.Subscript (.Name x p') a tpos] e pos) (sDP j mk me):=by
  obtain⟨t,pa,sa⟩:=ha;obtain⟨u,pe,se⟩:=he;refine⟨_,ps_dput (by lia) (zaX hN hv hd hcd) pa pe hs,fun B G H σ ρ fl ρ' E I hm k=>?_⟩;obtain⟨⟨d,ρ1⟩,e1,hm⟩:=zaa hm;refine se B G H σ ρ d ρ1 _ I e1 fun G1 H1 v I1 f1 r1=>?_
  split at hm
  . rename_i hso
    obtain⟨q0,hso⟩:=qa4.mp hso;obtain⟨s0,e0,d0⟩:=zaa hso;obtain⟨p,ys0,k1,_⟩:=I1.dic e0 d0;obtain⟨⟨y,ρ2⟩,e2,hm⟩:=zaa hm;refine⟨.ref p,k1,sa B G1 H1 σ ρ1 y ρ2 _ I1 e2 fun G2 H2 w I2 f2 r2=>?_⟩;cases y<;>try cases hm
    rename_i n;obtain⟨s,e3,hm⟩:=zaa hm
    split at hm
    . rename_i ks ds q
      split at hm
      . rename_i hl
        cases hm;obtain⟨v2,A,h1,h2,h3,h4,h5⟩:=I2.tree e3 q;rw[k1]at h1;cases h1;obtain⟨p2,ys,z,g2,g3,g4,rfl⟩:=h2;cases z;have len:ys.length=ks.length:=by have:=congrArg List.length g3;simpa using this
        obtain⟨m1,m2⟩:=pt_rep zl9 (j:=n) g3 g4 (r1.mono f2);have rep:RepT X.K G2 (upd H2 p (.dK (putK ys (kI n) v))) (.ref p) (.dic (ptD ks ds n d).1 (ptD ks ds n d).2) [p]:=⟨p,_,rfl,zal,m1,m2,rfl⟩;refine⟨p,_,rfl,by rw[show w=kV (kI n)from r2];exact DPut.k g2 (by rw[len,qaM];exact hl),?_⟩;exact k G2 _ σ (I2.chT e3 q k1 ⟨p,ys,rfl,g2,g3,g4,rfl⟩ (I2.fz.right (h4 p (by simp)) _) (fun b o n h=>by rw[zak (fun z=>n (by simp[z]))];exact h) (fun b h=>by
          by_cases z:b=p
          . subst z;rw[zal]at h;cases h
          . rw[zak z]at h;exact h) rep (by simp) (fun a m=> .inl m)) (f1.trans f2)
      . cases hm
    . cases hm
  . cases hm
end
noncomputable def fzD (j:Nat)(ρ:R):R:=match ρ[j]? with
 |some (.tre (.dic ks ds))=>ρ.set j (.val (.dic ks ds))
 |_=>ρ
noncomputable def sFzD (j:Nat)(m:MS):MS:=fun ρ=>m (fzD j ρ)
theorem SI.fzD (I:SI K B G H σ ρ)(j:Nat):∃G',SI K B G' H σ (fzD j ρ)/\Fz G G':=by
 unfold M.fzD
 split
 ·rename_i ks ds e;obtain⟨v,A,h1,⟨p,ys,rfl,h2,h3,h4,rfl⟩,h5,h6⟩:=I.slot j _ e;have g:=(h6 p (by simp)).1;have fz:=Fz.new g (.dK ys);refine⟨upd G p (.dK ys),?_,fz⟩;have h:=I.chg (i:=j) (ov:=some (.ref p)) (s':= .val (.dic ks ds)) (G':=upd G p (.dK ys)) (H':=H) (fun a u q=>?_) fz (fun b u q=>?_) I.keep I.there (fun i t a z ei w g _=>⟨?_,rfl,id⟩) ⟨.ref p,rfl,p,ys,rfl,.inl zal,h3,h4.mono fz⟩
  ·rwa[zhB h1]at h
  ·by_cases z:a=p
   ·subst z;rw[zal]at q;cases q;exact h2
   ·rw[zak z]at q;exact I.fz a u q
  ·by_cases z:b=p
   ·subst z;exact .inr (h6 b (by simp)).2
   ·rw[zak z]at q;exact I.new b u q
  ·rw[zak (fun q=>by subst q;exact I.dis i j t _ a z ei e w ⟨_,_,h1,⟨a,ys,rfl,h2,h3,h4,rfl⟩,by simp⟩)];exact g
 ·exact⟨G,I,Fz.refl G⟩
theorem ss_fzD {X:Cx}{st:Stmt}{m:MS}(j:Nat)(h:SS X st m):SS X st (sFzD j m):=by
 obtain⟨t,p,s⟩:=h;refine⟨t,p,fun B G H σ ρ fl ρ' E I hm k=>?_⟩;obtain⟨G',I',f⟩:=I.fzD j;exact s B G' H σ _ fl ρ' E I' hm (k.mono f)
noncomputable def Ch.sl:Ch->Sl
 | .d x=> .val x
 | .l ds=> .own ds
 | .t xss=> .tre (.lst (xss.map .l))
noncomputable def putCs:List Nat->List Ch->R->R
 |i::is,c::cs,ρ=>putCs is cs (ρ.set i c.sl)
 |_,_,ρ=>ρ
noncomputable def sUnT (j:Nat)(is:List Nat):MS:=fun ρ=>match ρ[j]? with
 |some (.tre (.lst cs))=>if cs.length=is.length then some (.next,putCs is cs (ρ.set j .emp))else none
 |_=>none
end M
namespace M
open L2 PySem PySem.Spec
open PyProof.Rows hiding St
open Classical in
noncomputable def fMT (N:Nat)(m:MS):List D->T->List D->Option (Sl×List D):=fun cs t ds=>(m (.par cs:: .tre t::(ds.map .val++List.replicate (N-(ds.length+2)) .emp))).bind fun p=>match p.1,(p.2[0]?:Option Sl)with
 |Fl.ret r,some (Sl.par out)=>some (r,out)
 |Fl.next,some (Sl.par out)=>some (.val .non,out)
 |_,_=>none
noncomputable abbrev MP':=R->Option (List Ch×R)
noncomputable def cOwn (i:Nat)(r:MP'):MP':=fun ρ=>match ρ[i]? with
 |some (.own ds)=>(r (ρ.set i .emp)).map fun q=>(.l ds::q.1,q.2)
 |_=>none
end M
namespace M
open L2 PySem PySem.Spec
open PyProof.Rows hiding St
variable {Gz G H:Hp} {i n:Nat} {s:Sl} {a b:Addr} {A:List Addr} {l:List Str} {p:List Value->Prop} {oc:Value} {osl:Array (Option Value)} {fd:FuncData} {K:W.Frag} {B:Bs} {ov:Option (Option V)} {σ:St} {ρ:R}
noncomputable def Ch.D:Ch->M.D
 | .d x=>x
 | .l ds=> .lst ds
 | .t xss=> .lst (xss.map .lst)
section
variable {K:W.Frag} {B:Bs} {G G' H H':Hp} {σ:St} {ρ:R}
theorem zlo (fg:Fz G Gz):∀{xs:List V} {dss:List (List D)} {A:List Addr},RepTb K G H xs dss A->(∀a∈A,Gz a=H a)->RepL K Gz xs (dss.map .lst)
 |[],[],_,_,_=>rfl
 |x::xs,ds::dss,_,⟨r,ys,A2,e1,e2,e3,e4,e5⟩,h=>⟨x,xs,rfl,⟨r,ys,e1,by rw[h r (by rw[e5];simp)];exact e2,e3.mono fg⟩,zlo fg e4 fun a m=>h a (by rw[e5];simp[m])⟩
 |[],_::_,_,h,_=>h.elim
 |_::_,[],_,h,_=>h.elim
theorem zfs (fg:Fz G Gz):∀{xs:List V} {cs:List Ch} {A:List Addr},RepCs K G H xs cs A->(∀a∈A,Gz a=H a)->RepL K Gz xs (cs.map Ch.D)
 |[],[],_,_,_=>rfl
 |x::xs,.d y::cs,_,⟨A1,A2,r1,r2,e⟩,h=>⟨x,xs,rfl,r1.1.mono fg,zfs fg r2 fun a m=>h a (by rw[e];exact qaK _ m)⟩
 |x::xs,.l ds::cs,_,⟨A1,A2,⟨l,ys,e1,e2,e3,e4⟩,r2,e⟩,h=>⟨x,xs,rfl,⟨l,ys,e1,by rw[h l (by rw[e,e4];simp)];exact e2,e3.mono fg⟩,zfs fg r2 fun a m=>h a (by rw[e];exact qaK _ m)⟩
 |x::xs,.t xss::cs,_,⟨A1,A2,⟨p,ys,A3,e1,e2,e3,e4⟩,r2,e⟩,h=>⟨x,xs,rfl,⟨p,ys,e1,by rw[h p (by rw[e,e4];simp)];exact e2,zlo fg e3 fun a m=>h a (by rw[e,e4];simp[m])⟩,zfs fg r2 fun a m=>h a (by rw[e];exact qaK _ m)⟩
 |[],_::_,_,h,_=>h.elim
 |_::_,[],_,h,_=>h.elim
theorem nw_emp (I:SI K B G H σ ρ)(e:ρ[i]? =some s)(w:OwS K G H σ[i]? a s):Nw K G H σ (ρ.set i .emp) a:=fun j t ej w'=>by
 by_cases z:j=i
 ·subst z;rw[qbF,if_pos rfl]at ej
  split at ej
  ·cases ej;exact w'
  ·cases ej
 ·rw[qav (Ne.symm z)]at ej;exact I.dis j i t s a z ej e w' w
open Classical in
noncomputable def frA (G H:Hp)(A:List Addr):Hp:=fun b=>if b∈A then H b else G b
theorem zdt (h:b∈A):frA G H A b=H b:=by unfold frA;rw[if_pos h]
theorem zcp (h:b∉A):frA G H A b=G b:=by unfold frA;rw[if_neg h]
theorem frA_fz (hA:∀a∈A,G a=none):Fz G (frA G H A):=fun b o e=>by
 rw[zcp fun m=>by rw[hA b m]at e;cases e];exact e
theorem SI.frzA (I:SI K B G H σ ρ)(hA:∀a∈A,G a=none/\B.H a=none/\Nw K G H σ ρ a):SI K B (frA G H A) H σ ρ:=
 I.move (fun a u q=>by
  by_cases m:a∈A
  ·rw[zdt m]at q;exact q
  ·rw[zcp m]at q;exact I.fz a u q) (frA_fz fun a m=>(hA a m).1) (fun b u q=>by
  by_cases m:b∈A
  ·exact .inr (hA b m).2.1
  ·rw[zcp m]at q;exact I.new b u q) I.keep I.there (fun i s a e w g _=>⟨by rw[zcp fun m=>(hA a m).2.2 i s e w];exact g,rfl⟩)
end
noncomputable def sTA (i j:Nat):MS:=fun ρ=>match ρ[i]?,ρ[j]? with
 |some (.tre (.lst cs)),some (.own ds)=>if cs.length<16777216 then some (.next,(ρ.set j .emp).set i (.tre (.lst (cs++[.l ds]))))else none
 |_,_=>none
noncomputable abbrev MQ:=R->Option D
noncomputable def fzT (j:Nat)(ρ:R):R:=match ρ[j]? with
 |some (.tre (.lst cs))=>ρ.set j (.val (.lst (cs.map Ch.D)))
 |_=>ρ
theorem ndk (h:autoParam (decide l.Nodup=true) zu10._auto_1):l.Nodup:=of_decide_eq_true h
theorem us_0 (h:p []):∀us:List Value,us.length=0->p us:=fun us e=>by
 cases us with
 |nil=>exact h
 |cons=>cases e
theorem us_s (h:∀(a:Value) (us:List Value),us.length=n->p (a::us)):∀us:List Value,us.length=n+1->p us:=fun us e=>by
 cases us with
 |nil=>cases e
 |cons a us=>exact h a us (Nat.succ.inj e)
section
variable {P:Program} {w:World} {K:W.Frag} {mg:Str->Option Value} {base hp:Heap} {x:Str} {st:Stmt} {f:Addr}
noncomputable def FnAt (K:W.Frag)(x:Str)(st:Stmt):Prop:=∃f fd,W.nsIn K mainGlobals x=some (some (.ref f))/\Fun K x x st f fd
theorem FnAt.mk {od an:Option Addr}{kV doc pm cdv ct:Value}(a:W.nsIn K mainGlobals x=some (some (.ref f)))(l:K.lookup f=some ⟨oc,od,.func (W.fnOf x x (zbt st) (zaO st) (zan st) .none kV doc pm an cdv ct),osl⟩)
  (c:W.codeIn K cdv x=true) (k:W.keepIn K (.ref f)=true):FnAt K x st:=⟨f,_,a,zpj l c k⟩
noncomputable abbrev BindsAt (x:Str)(st:Stmt)(ps:List Str):Prop:=∀(kV doc pm:Value) (an:Option Addr) (cdv ct:Value) (us:List Value),us.length=ps.length->bindArgs (W.fnOf x x (zbt st) (zaO st) (zan st) .none kV doc pm an cdv ct) ⟨us,[]⟩=pure (ps.zip us)
theorem FnAt.law (h:FnAt K x st)(X:K.In hp)(G:hp.Ns mainGlobals mg)(hf:mg x=some (.ref f)):∃kV doc pm an cdv ct,Fun K x x st f (W.fnOf x x (zbt st) (zaO st) (zan st) .none kV doc pm an cdv ct):=by
 obtain⟨f',fd,a,T⟩:=h;have e:=hf.symm.trans (W.mg_of X G a);cases e;obtain⟨oc,od,kV,doc,pm,an,cdv,ct,osl,rfl,lk,hcd⟩:=id T.ex;exact⟨kV,doc,pm,an,cdv,ct,T⟩
variable {N:List Str} {k n:Nat} {m:MS}
noncomputable abbrev Bd (P:Program)(w:World)(K:W.Frag)(mg:Str->Option Value)(base:Heap)(x:Str)(st:Stmt)(N:List Str)(k:Nat)(m:MS):Prop:=∀(f:Addr) (cdv:Value) (A:Around) (outer:List Env) (s:Shared) (H:Hp) (E:XK),Room k (A.deeper (PyProof.Rows.envOfC x (zan st) s.heap.objs.size f cdv))->N.Nodup->SSs (cxOf CX0 P w K mg base N x (zan st) f cdv A outer s H E).nox (zaO st) m
structure DefOk (x:Str) (st:Stmt) (N:List Str) (n:Nat):Prop where
 sc:FnScope N (N.take n) (zan st)
 len:(N.take n).length=n
 le:n<=N.length
 bs:BindsAt x st (N.take n)
theorem lawP (F:Fun K x x st f fd)(b:Bd P w K mg base x st N k m)(d:DefOk x st N n:=by exact⟨⟨rfl,rfl,rfl,by decide+kernel,rfl,by decide+kernel,by decide+kernel⟩,rfl,by decide,fun _ _ _ _ _ _=>by repeat (first | exact us_0 rfl | refine us_s fun _ => ?_)⟩):FnOk P w K mg base CX0 (k+1) f fd (N.take n) (spP K n (fP N.length m)):=fnP_ok F d.sc d.len d.le fun cdv A outer s H E hr=>b _ cdv A outer s H E hr d.sc.nd
theorem fdP (X:K.In hp)(G:hp.Ns mainGlobals mg)(h:FnAt K x st)(b:Bd P w K mg base x st N k m)(d:DefOk x st N n:=by exact⟨⟨rfl,rfl,rfl,by decide+kernel,rfl,by decide+kernel,by decide+kernel⟩,rfl,by decide,fun _ _ _ _ _ _=>by repeat (first | exact us_0 rfl | refine us_s fun _ => ?_)⟩):FD P w K mg base (k+1) x (spP K n (fP N.length m)):=
 let⟨f,fd,a,T⟩:=h
 ⟨⟨f,fd,_,fnP_ok T d.sc d.len d.le fun cdv A outer s H E hr=>b _ cdv A outer s H E hr d.sc.nd,W.mg_of X G a,T.kp,T.binds d.bs⟩⟩
theorem fdM (X:K.In hp)(G:hp.Ns mainGlobals mg)(h:FnAt K x st)(b:Bd P w K mg base x st N k m)(d:DefOk x st N n:=by exact⟨⟨rfl,rfl,rfl,by decide+kernel,rfl,by decide+kernel,by decide+kernel⟩,rfl,by decide,fun _ _ _ _ _ _=>by repeat (first | exact us_0 rfl | refine us_s fun _ => ?_)⟩):FD P w K mg base (k+1) x (spM K n (fM N.length m)):=
 let⟨f,fd,a,T⟩:=h
 ⟨⟨f,fd,_,fnM_ok T d.sc d.len d.le fun cdv A outer s H E hr=>b _ cdv A outer s H E hr d.sc.nd,W.mg_of X G a,T.kp,T.binds d.bs⟩⟩
end
variable {P:Program} {w:World} {H G:Hp} {h:Heap} {a b:Addr} {o:Obj} {xs:List (List L2.Key×Addr×Value)} {ks:List (List Int)} {ys:List (List L2.Key×V)}
noncomputable def Sl.dit:Sl->Option (List (List Int)×List D)
 | .tre (.dit ks ds)=>some (ks,ds)
 | .val (.dit ks ds)=>some (ks,ds)
 |_=>none
section
variable {X:Cx} {x:Str} {a e:Expr} {tg:Expr} {mk me:ME} {pos p' tpos:Pos}
theorem SlotOk.base {B B':Bs}(h:SlotOk K B G H i ov s)(f:∀a,OwS K G H ov a s->B.H a=none->B'.H a=none)(eo:B'.O=B.O):SlotOk K B' G H i ov s:=by
 cases s with
 |emp=>trivial
 |two=>trivial
 |val d=>exact h
 |own ds=>obtain⟨l,xs,h1,h2,h3,h4,h5⟩:=h;exact⟨l,xs,h1,h2,h3,h4,f l h1 h5⟩
 |par ds=>obtain⟨l,xs,h1,h2,h3,h4,h5⟩:=h;exact⟨l,xs,h1,h2,h3,h4,eo ▸ h5⟩
 |tre t=>obtain⟨v,A,h1,h2,h3,h4⟩:=h;exact⟨v,A,h1,h2,h3,fun a m=>⟨(h4 a m).1,f a ⟨v,A,h1,h2,m⟩ (h4 a m).2⟩⟩
 |ptr t=>obtain⟨v,A,h1,h2,h3,h4⟩:=h;exact⟨v,A,h1,h2,⟨h3.1,eo ▸ h3.2⟩,fun a m=>⟨(h4 a m).1,eo ▸ (h4 a m).2⟩⟩
theorem SI.hold (I:SI K B G H σ ρ){p:Addr}(hp:H p=none)(o:HO):SI K ⟨B.G,upd B.H p o,B.O⟩ G (upd H p o) σ ρ:=by
 have I0:=I.allocO hp o;have bp:=I.there p hp;refine⟨I0.fz,I0.g0,fun b u e=>?_,fun b u e n=>?_,fun b e=>?_,I0.len,fun i b m=>?_,fun i s e=>(I0.slot i s e).base (fun a w e2=>?_) rfl,I0.dis⟩
 ·refine(I0.new b u e).imp id fun z=>?_
  show upd B.H p o b=none;rw[zak (fun q=>by rw[q,I.fz.free hp]at e;cases e)];exact z
 ·by_cases z:b=p
  ·subst z;have e':upd B.H b o b=some u:=e;rw[zal]at e';cases e';exact zal
  ·have e':upd B.H p o b=some u:=e;rw[zak z]at e';exact I0.keep b u e' n
 ·have z:b≠p:=fun z=>by subst z;rw[zal]at e;cases e
  show upd B.H p o b=none;rw[zak z];exact I0.there b e
 ·show upd B.H p o b≠none;rw[zak (fun z=>by subst z;exact I.ob i b m bp)];exact I.ob i b m
 ·show upd B.H p o a=none;rw[zak (fun z=>?_)]
  ·exact e2
  ·subst z;have nw:Nw K G (upd H a o) σ ρ a:=I.nw_move (I.nw hp) fun i s b _ _ g h=>⟨g,zak fun z=>h (by rw[z];exact hp)⟩
   exact nw i s e w
theorem SI.let {p:Addr}{o:HO}(I:SI K ⟨B.G,upd B.H p o,B.O⟩ G H σ ρ)(ob:∀i b,(i,b)∈B.O->B.H b≠none)(bp:B.H p=none)(bg:B.G p=none):SI K B G H σ ρ/\H p=some o/\G p=none/\Nw K G H σ ρ p:=by
 have no:∀i,(i,p)∉B.O:=fun i m=>ob i p m bp
 have same:∀{b},upd B.H p o b=none->B.H b=none:=fun{b} e=>by
  by_cases z:b=p
  ·subst z;rw[zal]at e;cases e
  ·rwa[zak z]at e
 refine⟨⟨I.fz,I.g0,fun b u e=>(I.new b u e).imp id same,fun b u e n=>I.keep b u ?_ n,fun b e=>same (I.there b e),I.len,ob,fun i s e=>(I.slot i s e).base (fun a w e2=>same e2) rfl,I.dis⟩,I.keep p o zal no,?_,fun i s e w=>?_⟩
 ·show upd B.H p o b=some u;rw[zak (fun z=>by subst z;rw[bp]at e;cases e)];exact e
 ·cases q:G p with
  |none=>rfl
  |some u=>
   rcases I.new p u q with h|h
   ·exact absurd bg h
   ·have h':upd B.H p o p=none:=h;rw[zal]at h';cases h'
 ·rcases((I.slot i s e).own w).2.2 with h|h
  ·have h':upd B.H p o p=none:=h;rw[zal]at h';cases h'
  ·exact no i h
end
end M
namespace M
open L2 PyProof.Rows PySem PySem.Spec
theorem znN {α β:Type}(f:α->β)(xs:List α)(lo hi st:Option Int):ze7 (xs.map f) lo hi st=(ze7 xs lo hi st).map f:=by
 unfold ze7;rw[qaT,List.map_filterMap];simp
noncomputable def eCutZ (ma:ME)(ml mh ms:MP):ME:=fun ρ=>(ma ρ).bind fun p=>(ml p.2).bind fun q=>(mh q.2).bind fun r=>(ms r.2).bind fun t=>match p.1 with
 | .scr ns=>if t.1=some 0 then none else some (.lst ((ze7 ns q.1 r.1 t.1).map .int),t.2)
 |_=>none
theorem zny {X:Cx}{e st:Expr}{lo hi:Option Expr}{ma:ME}{ml mh ms:MP}{pos p2:Pos}(he:SE X e ma)(hl:SPt X lo ml)(hu:SPt X hi mh)(hs:SPt X (some st) ms):SE X (.Subscript e (.Slice lo hi (some st) p2) pos) (eCutZ ma ml mh ms):=by
 obtain⟨ta,pa,sa⟩:=he;obtain⟨tl,pl,sl⟩:=hl;obtain⟨th,ph,sh⟩:=hu;obtain⟨tc,pc,sc⟩:=hs;refine⟨_,zmD pa pl ph pc,fun B G H σ ρ d ρ' Q I hm k=>?_⟩;obtain⟨⟨x,ρ1⟩,e1,hm⟩:=zaa hm;obtain⟨⟨l,ρ2⟩,e2,hm⟩:=zaa hm;obtain⟨⟨u,ρ3⟩,e3,hm⟩:=zaa hm;obtain⟨⟨c,ρ4⟩,e4,hm⟩:=zaa hm;refine sa B G H σ ρ x ρ1 _ I e1 fun G1 H1 v I1 f1 r1=>sl B G1 H1 σ ρ1 l ρ2 _ I1 e2 fun G2 H2 I2 f2=>sh B G2 H2 σ ρ2 u ρ3 _ I2 e3 fun G3 H3 I3 f3=>sc B G3 H3 σ ρ3 c ρ4 _ I3 e4 fun G4 H4 I4 f4=>?_
 have r3:=r1.mono (f2.trans (f3.trans f4));dsimp only at hm;obtain⟨ns,rfl⟩:∃ns,x= .scr ns:=by
  cases x<;>first|exact⟨_,rfl⟩|cases hm
 dsimp only at hm
 split at hm
 ·cases hm
 ·rename_i h0;obtain⟨rfl,rfl⟩:=Prod.mk.inj (Option.some.inj hm);obtain⟨a,rfl,ha⟩:=r3;refine⟨a,ns.map V.int,rfl,I4.fz.sql ha,h0,fun p hp=>?_⟩;rw[znN];obtain⟨I5,f5,r5⟩:=I4.newL hp (RepL.ints (ze7 ns l u c));exact k _ _ _ I5 (f1.trans (f2.trans (f3.trans (f4.trans f5)))) r5
end M
namespace M
open L2 PySem PySem.Spec
open PyProof.Rows hiding St
noncomputable def fzDT (j:Nat)(ρ:R):R:=match ρ[j]? with
 |some (.tre (.dit ks ds))=>ρ.set j (.val (.dit ks ds))
 |_=>ρ
noncomputable def eCallU (F:List D->Option Sl)(ma:MA):ME:=fun ρ=>(ma ρ).bind fun p=>(F p.1).bind fun r=>match r with
 | .tre (.tup cs)=>some (.tup (cs.map Ch.D),p.2)
 |_=>none
noncomputable def fzU (j:Nat)(ρ:R):R:=match ρ[j]? with
 |some (.tre (.tup cs))=>ρ.set j (.val (.tup (cs.map Ch.D)))
 |_=>ρ
noncomputable def turnT (g:D->R->Option R)(mt:MT)(mo:MO):D->R->Option (Option (List D)×R):=fun d ρ=>(g d ρ).bind fun ρ1=>(mt ρ1).bind fun p=>if p.1 then(mo p.2).bind fun q=>if zdF q.2 then some (some q.1,q.2)else none else if zdF p.2 then some (none,p.2)else none
noncomputable def rowsOf:List Ch->Option (List (List D))
 |[]=>some []
 | .l ds::cs=>(rowsOf cs).map (ds:: ·)
 |_=>none
noncomputable def znH (ma:ME)(mo:MO):MS:=fun ρ=>(ma ρ).bind fun p=>(mo p.2).bind fun r=>some (.ret (.tre (.tup [.d p.1,.l r.1])),r.2)
noncomputable def zlW (ma mb:ME):MS:=fun ρ=>(ma ρ).bind fun p=>(mb p.2).bind fun r=>some (.ret (.tre (.tup [.d p.1,.d r.1])),r.2)
section
variable {X:Cx} {x y:Str} {pos p' q' tpos:Pos} {e:Expr} {n:Nat}
theorem ss_retUl {a:Expr}{m1:ME}{mo:MO}{nn:Nat}{pos2:Pos}(ha:SE X a m1)(ho:SO X e mo)
  (hs:autoParam (starEach [a,e] X.env=(false,eval a X.env)::starEach [e] X.env) zu3._auto_1)
  (hs2:autoParam (starEach [e] X.env=(false,eval e X.env)::starEach [] X.env) zu3._auto_1):
  SS X (.Return (some (.Tuple [a,e] nn pos2)) pos) (znH m1 mo):=by
 obtain⟨ta,pa,sa⟩:=ha;obtain⟨te,pe,so⟩:=ho;refine⟨_,zir (zlP (zaG pa (zaG pe zbX hs2) hs)),fun B G H σ ρ fl ρ' E I hm k=>?_⟩;obtain⟨⟨d1,ρ1⟩,e1,hm⟩:=zaa hm;obtain⟨⟨ds,ρ4⟩,e4,hm⟩:=zaa hm;cases hm;refine sa B G H σ ρ d1 ρ1 _ I e1 fun G3 H3 v1 I3 f1 r1=>?_
 refine so B G3 H3 σ ρ1 ds ρ4 _ I3 e4 fun G4 H4 l xs I4 f4 g4 h4 r4 b4 _=>?_
 refine⟨by rw[qaM];exact(by decide:(2:Nat)<=16777216),fun p hp=>?_⟩;have lp:l≠p:=zaH h4 hp;refine k G4 _ σ _ (I4.allocO hp _) (f1.trans f4) ⟨[p,l],⟨p,_,[l],rfl,zal,⟨[],[l],⟨r1.mono f4,rfl⟩,⟨[l],[],⟨l,xs,rfl,by rw[zak lp];exact h4,r4,rfl⟩,rfl,rfl⟩,rfl⟩,rfl⟩,by simpa using lp.symm,fun a m=>?_⟩;rcases qaq.mp m with rfl|m
 ·exact⟨I4.fz.free hp,I4.there a hp⟩
 ·have:a=l:=by simpa using m
  subst this;exact⟨g4,b4⟩
theorem zls {a:Expr}{m1 m2:ME}{nn:Nat}{pos2:Pos}(ha:SE X a m1)(hb:SE X e m2)
  (hs:autoParam (starEach [a,e] X.env=(false,eval a X.env)::starEach [e] X.env) zu3._auto_1)
  (hs2:autoParam (starEach [e] X.env=(false,eval e X.env)::starEach [] X.env) zu3._auto_1):
  SS X (.Return (some (.Tuple [a,e] nn pos2)) pos) (zlW m1 m2):=by
 obtain⟨ta,pa,sa⟩:=ha;obtain⟨tb,pb,sb⟩:=hb;refine⟨_,zir (zlP (zaG pa (zaG pb zbX hs2) hs)),fun B G H σ ρ fl ρ' E I hm k=>?_⟩;obtain⟨⟨d1,ρ1⟩,e1,hm⟩:=zaa hm;obtain⟨⟨d2,ρ2⟩,e2,hm⟩:=zaa hm;cases hm;refine sa B G H σ ρ d1 ρ1 _ I e1 fun G1 H1 v1 I1 f1 r1=>?_
 refine sb B G1 H1 σ ρ1 d2 ρ2 _ I1 e2 fun G3 H3 v2 I3 f2 r2=>?_
 refine⟨by rw[qaM];exact(by decide:(2:Nat)<=16777216),fun p hp=>?_⟩;refine k G3 _ σ _ (I3.allocO hp _) (f1.trans f2) ⟨[p],⟨p,_,[],rfl,zal,⟨[],[],⟨r1.mono f2,rfl⟩,⟨[],[],⟨r2,rfl⟩,rfl,rfl⟩,rfl⟩,rfl⟩,by simp,fun a m=>?_⟩;have:a=p:=by simpa using m
 subst this;exact⟨I3.fz.free hp,I3.there a hp⟩
end
noncomputable def zm0 (b c:Nat)(ρ:R):Bool:=match ρ[b]?,ρ[c]? with
 |some (.par _),some (.par _)=>zdF ((ρ.set b .emp).set c .emp)
 |_,_=>false
noncomputable def turnQ (b c:Nat)(g:D->R->Option R)(mt:MT)(me:ME):D->R->Option (Option D×R):=fun d ρ=>(g d ρ).bind fun ρ1=>(mt ρ1).bind fun p=>if p.1 then(me p.2).bind fun q=>if zm0 b c q.2 then some (some q.1,q.2)else none else if zm0 b c p.2 then some (none,p.2)else none
end M
namespace M
open PySem PySem.W
open PyProof.Rows (bubble mirror bubble_size bubble_perm mirror_size mirror_perm getElem?_bubble getElem?_mirror_all)
variable {cmp:Nat->Nat->(Bool->Shared->Prop)->Shared->Prop} {s:Shared} {a b i j n m:Nat} {p q:Array Nat}
noncomputable def kGd (n:Nat)(lt:Nat->Nat->Bool){α:Type}:KasT α->(α->Prop)->Prop
 | .ret a,Q=>Q a
 | .ask i j k,Q=>i<n/\j<n/\kGd n lt (k (lt i j)) Q
noncomputable def kRun (lt:Nat->Nat->Bool){α:Type}:KasT α->α
 | .ret a=>a
 | .ask i j k=>kRun lt (k (lt i j))
section
variable {n:Nat} {lt:Nat->Nat->Bool} {α β:Type}
theorem zeR {f:α->KasT β}{Q:β->Prop}:∀{t:KasT α},kGd n lt t (fun a=>kGd n lt (f a) Q)->kGd n lt (t.bind f) Q
 | .ret _,h=>h
 | .ask _ _ _,⟨h1,h2,h3⟩=>⟨h1,h2,zeR h3⟩
theorem zce {Q Q':α->Prop}(q:∀a,Q a->Q' a):∀{t:KasT α},kGd n lt t Q->kGd n lt t Q'
 | .ret a,h=>q a h
 | .ask _ _ _,⟨h1,h2,h3⟩=>⟨h1,h2,zce q h3⟩
theorem zkK {Q:α->Prop}:∀{t:KasT α},kGd n lt t Q->Q (kRun lt t)
 | .ret _,h=>h
 | .ask i j k,⟨_,_,h3⟩=>zkK (t:=k (lt i j)) h3
theorem kGd_wp {Q0:α->Prop}{Q:α->Shared->Prop}(hc:∀i j C,i<n->j<n->C (lt i j) s->cmp i j C s):
  ∀{t:KasT α},kGd n lt t Q0->Q (kRun lt t) s->t.kasWp cmp Q s
 | .ret _,_,h=>h
 | .ask i j k,⟨h1,h2,h3⟩,h=>hc i j _ h1 h2 (kGd_wp (t:=k (lt i j)) hc h3 h)
end
structure Ord (lt:Nat->Nat->Bool):Prop where
 tr:∀a b c,lt b a=false->lt c b=false->lt c a=false
 as:∀a b,lt a b=true->lt b a=false
theorem Ord.rf {lt:Nat->Nat->Bool}(o:Ord lt)(a:Nat):lt a a=false:=by
 cases h:lt a a with
 |false=>rfl
 |true=>rw[o.as a a h]at h;cases h
theorem Ord.lt_le {lt:Nat->Nat->Bool}(o:Ord lt){a b c:Nat}(h:lt a b=true)(k:lt c b=false):lt a c=true:=by
 cases z:lt a c with
 |true=>rfl
 |false=>rw[o.tr b c a k z]at h;cases h
noncomputable def kv (p:Array Nat)(k:Nat):Nat:=p.getD k 0
theorem zoJ (h:p[i]? =q[j]?):kv p i=kv q j:=by
 unfold kv;rw[qco,qco,h]
structure Pm (n:Nat) (p:Array Nat):Prop where
 pm:p.toList.Perm (List.range n)
theorem Pm.size (h:Pm n p):p.size=n:=by
 have:=h.pm.length_eq;rwa[qaz,qb4]at this
theorem Pm.lt (h:Pm n p)(hn:0<n)(k:Nat):kv p k<n:=by
 unfold kv
 by_cases hk:k<p.size
 ·have:p.getD k 0=p[k]:=by simp[Array.getD,hk]
  rw[this];exact qaj.mp (h.pm.mem_iff.mp (Array.mem_toList_iff.mpr (Array.getElem_mem hk)))
 ·have:p.getD k 0=0:=by simp[Array.getD,hk]
  rw[this];exact hn
theorem Pm.bub (h:Pm n p)(a d:Nat):Pm n (bubble p a d):=⟨(Array.perm_iff_toList_perm.mp (bubble_perm p a d)).trans h.pm⟩
theorem Pm.rev (h:Pm n p)(i j:Nat):Pm n (kas_rev p i j):=⟨(Array.perm_iff_toList_perm.mp (mirror_perm p i j _)).trans h.pm⟩
theorem zpf {i j:Nat}(hj:j<=p.size)(k:Nat):kv (kas_rev p i j) k=if i<=k/\k<j then kv p (i+j-1-k)else kv p k:=by
 have h:=getElem?_mirror_all (i:=i) hj k
 split
 ·rename_i z;rw[if_pos z]at h;exact zoJ h
 ·rename_i z;rw[if_neg z]at h;exact zoJ h
theorem kv_bub {a d:Nat}(ha:a<p.size)(hd:d<=a)(k:Nat):kv (bubble p a d) k=if k=a-d then kv p a else if a-d<k/\k<=a then kv p (k-1)else kv p k:=by
 have h:=getElem?_bubble ha d hd k
 by_cases z:k=a-d
 ·rw[if_pos z]at h ⊢;exact zoJ h
 ·rw[if_neg z]at h ⊢
  by_cases y:a-d<k/\k<=a
  ·rw[if_pos y]at h ⊢;exact zoJ h
  ·rw[if_neg y]at h ⊢;exact zoJ h
section
variable {n:Nat} {lt:Nat->Nat->Bool}
noncomputable def Up (lt:Nat->Nat->Bool)(p:Array Nat)(m:Nat):Prop:=∀i,0<i->i<m->lt (kv p i) (kv p (i-1))=false
noncomputable def Dn (lt:Nat->Nat->Bool)(p:Array Nat)(m:Nat):Prop:=∀i,0<i->i<m->lt (kv p (i-1)) (kv p i)=false
noncomputable def Eqv (lt:Nat->Nat->Bool)(a b:Nat):Prop:=lt a b=false/\lt b a=false
theorem Eqv.sy (h:Eqv lt a b):Eqv lt b a:=⟨h.2,h.1⟩
theorem Eqv.tr (o:Ord lt){a b c:Nat}(h:Eqv lt a b)(k:Eqv lt b c):Eqv lt a c:=⟨o.tr c b a k.1 h.1,o.tr a b c h.2 k.2⟩
theorem Up.le (o:Ord lt)(h:Up lt p m):∀{j i:Nat},i<=j->j<m->lt (kv p j) (kv p i)=false
 |0,i,h1,_=>by cases Nat.le_zero.mp h1;exact o.rf _
 |j+1,i,h1,h2=>by
  rcases qcp h1 with z|z
  ·exact o.tr _ _ _ (Up.le o h (by lia) (by lia)) (h (j+1) (by lia) h2)
  ·subst z;exact o.rf _
theorem Dn.eqv (o:Ord lt)(h:Dn lt p m)(e:∀k,Eqv lt (kv q k) (kv p k)):Dn lt q m:=fun i h1 h2=>
 o.tr _ _ _ (e i).2 (o.tr _ _ _ (h i h1 h2) (e (i-1)).1)
theorem zk4 (o:Ord lt)(hj:j<=p.size)(h:∀k,i<=k->k<j->Eqv lt (kv p k) (kv p (j-1)))(k:Nat):Eqv lt (kv (kas_rev p i j) k) (kv p k):=by
 rw[zpf hj]
 split
 ·rename_i z;exact(h _ (by lia) (by lia)).tr o (h k z.1 z.2).sy
 ·exact⟨o.rf _,o.rf _⟩
theorem Dn.turn (h:Dn lt p m)(hm:m<=p.size):Up lt (kas_rev p 0 m) m:=fun i h1 h2=>by
 rw[zpf hm,zpf hm,if_pos ⟨by lia,h2⟩,if_pos ⟨by lia,by lia⟩];have:=h (0+m-1-(i-1)) (by lia) (by lia);rwa[show 0+m-1-(i-1)-1=0+m-1-i by lia]at this
theorem znm (hn:0<n)(hp:Pm n p):∀(f m:Nat),1<=m->Up lt p m->kGd n lt (kas_asc p f m) fun r=>m<=r/\r<=m+f/\Up lt p r/\(r<m+f->lt (kv p r) (kv p (r-1))=true)
 |0,m,_,h=>⟨qaH _,qaH _,h,fun z=>absurd z (qag _)⟩
 |f+1,m,h1,h=>by
  refine⟨hp.lt hn m,hp.lt hn (m-1),?_⟩;show kGd n lt (if lt (kv p m) (kv p (m-1))=true then _ else _) _
  split
  ·rename_i c;exact⟨qaH _,by lia,h,fun _=>c⟩
  ·rename_i c;have c':lt (kv p m) (kv p (m-1))=false:=by simpa using c
   refine zce (fun r hr=>⟨by lia,by lia,hr.2.2.1,fun z=>hr.2.2.2 (by lia)⟩) (znm hn hp f (m+1) (by lia) fun i a b=>?_);rcases qcp (qcq b)with z|z
   ·exact h i a z
   ·subst z;exact c'
theorem ziW (o:Ord lt)(hn:0<n):∀(f:Nat) (p:Array Nat) (m q:Nat),Pm n p->m+f<=n->q+1<=m->Dn lt p m->(∀k,m-(q+1)<=k->k<m->Eqv lt (kv p k) (kv p (m-1)))->
  kGd n lt (kas_desc f p m q) fun r=>Pm n r.1/\m<=r.2.1/\r.2.1<=m+f/\r.2.2+1<=r.2.1/\Dn lt r.1 r.2.1/\∀k,r.2.1-(r.2.2+1)<=k->k<r.2.1->Eqv lt (kv r.1 k) (kv r.1 (r.2.1-1))
 |0,p,m,q,hp,hm,hq,h,e=>⟨hp,qaH _,qaH _,hq,h,e⟩
 |f+1,p,m,q,hp,hm,hq,h,e=>by
  have more:∀{p':Array Nat},Dn lt p' m->lt (kv p' (m-1)) (kv p' m)=false->Dn lt p' (m+1):=fun h' c i a b=>by
   rcases qcp (qcq b)with z|z
   ·exact h' i a z
   ·subst z;exact c
  have one:∀{p':Array Nat} (k:Nat),m+1-(0+1)<=k->k<m+1->Eqv lt (kv p' k) (kv p' (m+1-1)):=fun k a b=>by
   obtain rfl:k=m:=by lia
   exact⟨o.rf _,o.rf _⟩
  refine⟨hp.lt hn m,hp.lt hn (m-1),?_⟩;show kGd n lt (if lt (kv p m) (kv p (m-1))=true then(if q>0 then _ else _)else KasT.ask (kv p (m-1)) (kv p m) _) _
  split
  ·rename_i c;have c2:=o.as _ _ c
   split
   ·have ev:=zk4 o (p:=p) (i:=m-(q+1)) (j:=m) (by rw[hp.size];lia) e;have hl:lt (kv (kas_rev p (m-(q+1)) m) (m-1)) (kv (kas_rev p (m-(q+1)) m) m)=false:=o.tr _ _ _ (ev m).2 (o.tr _ _ _ c2 (ev (m-1)).1);exact zce (fun r hr=>⟨hr.1,by lia,by lia,hr.2.2.2.1,hr.2.2.2.2⟩) (ziW o hn f _ (m+1) 0 (hp.rev _ _) (by lia) (by lia) (more (h.eqv o ev) hl) one)
   ·exact zce (fun r hr=>⟨hr.1,by lia,by lia,hr.2.2.2.1,hr.2.2.2.2⟩) (ziW o hn f _ (m+1) 0 hp (by lia) (by lia) (more h c2) one)
  ·rename_i c;have c':lt (kv p m) (kv p (m-1))=false:=by simpa using c
   refine⟨hp.lt hn (m-1),hp.lt hn m,?_⟩;show kGd n lt (if lt (kv p (m-1)) (kv p m)=true then _ else _) _
   split
   ·exact⟨hp,qaH _,Nat.le_add_right m (f+1),hq,h,e⟩
   ·rename_i d;have d':lt (kv p (m-1)) (kv p m)=false:=by simpa using d
    refine zce (fun r hr=>⟨hr.1,by lia,by lia,hr.2.2.2.1,hr.2.2.2.2⟩) (ziW o hn f p (m+1) (q+1) hp (by lia) (by lia) (more h d') fun k a b=>?_);rcases qcp (qcq b)with z|z
    ·exact(e k (by lia) z).tr o ⟨d',c'⟩
    ·subst z;exact⟨o.rf _,o.rf _⟩
noncomputable def Run (lt:Nat->Nat->Bool)(n:Nat)(r:Nat×Array Nat):Prop:=Pm n r.2/\1<=r.1/\r.1<=n/\Up lt r.2 r.1
theorem zlC (hn:0<n)(hp:Pm n p)(h1:1<=m)(h2:m<=n)(h:Dn lt p m):kGd n lt (kas_tail3 m n p) (Run lt n):=by
 refine zeR (zce (fun r hr=>?_) (znm hn (hp.rev 0 m) (n-m) m h1 (h.turn (by rw[hp.size];exact h2))));exact⟨hp.rev 0 m,by lia,by lia,hr.2.2.1⟩
theorem zhq (o:Ord lt)(hn:0<n){p:Array Nat}(hp:Pm n p)(h1:1<=m)(h2:m<n)(h:Dn lt p (m+1)):kGd n lt (kas_descPart m n p) (Run lt n):=by
 refine zeR (zce (fun r hr=>?_) (ziW o hn (n-(m+1)) p (m+1) 0 hp (by lia) (by lia) h fun k a b=>?_))
 ·obtain⟨a1,a2,a3,a4,a5,a6⟩:=hr
  split
  ·have ev:=zk4 o (p:=r.1) (i:=r.2.1-(r.2.2+1)) (j:=r.2.1) (by rw[a1.size];lia) a6;exact zlC hn (a1.rev _ _) (by lia) (by lia) (a5.eqv o ev)
  ·exact zlC hn a1 (by lia) (by lia) a5
 ·obtain rfl:k=m:=by lia
  exact⟨o.rf _,o.rf _⟩
theorem gd_count (o:Ord lt)(hn:0<n){p:Array Nat}(hp:Pm n p):kGd n lt (kas_count n p) (Run lt n):=by
 refine zeR (zce (fun m hm=>?_) (znm hn hp (n-1) 1 (qaH _) fun i a b=>absurd a (by lia)));obtain⟨a1,a2,a3,a4⟩:=hm
 split
 ·exact⟨hp,a1,by lia,a3⟩
 ·rename_i ne;have ne':m≠n:=by simpa using ne
  have c:=a4 (by lia)
  split
  ·refine⟨hp.lt hn 0,hp.lt hn (m-1),?_⟩;show kGd n lt (if lt (kv p 0) (kv p (m-1))=true then _ else _) _
   split
   ·exact⟨hp,a1,by lia,a3⟩
   ·rename_i d;have d':lt (kv p 0) (kv p (m-1))=false:=by simpa using d
    have eq:∀k,0<=k->k<m->Eqv lt (kv p k) (kv p (m-1)):=fun k _ hk=>⟨o.tr _ _ _ d' (a3.le o (qaW k) hk)|>fun z=>?_,a3.le o (by lia) (by lia)⟩
    ·have ev:=zk4 o (p:=p) (i:=0) (j:=m) (by rw[hp.size];lia) eq;refine zhq o hn (hp.rev 0 m) a1 (by lia) fun i x y=>?_
     rcases qcp (qcq y)with z|z
     ·exact o.tr _ _ _ (ev i).2 (o.tr _ _ _ ((eq (i-1) (by lia) (by lia)).tr o (eq i (by lia) z).sy).1 (ev (i-1)).1)
     ·subst z;exact o.tr _ _ _ (ev i).2 (o.tr _ _ _ (o.as _ _ c) (ev (i-1)).1)
    ·exact o.tr _ _ _ d' (a3.le o (qaW k) hk)
  ·obtain rfl:m=1:=by lia
   refine zhq o hn hp (qaH _) (by lia) fun i x y=>?_
   obtain rfl:i=1:=by lia
   exact o.as _ _ c
theorem ziT (o:Ord lt)(hn:0<n){k:Nat}(hp:Pm n p)(hu:Up lt p k):∀(f l r:Nat),l<=r->r<=k->r-l<=f->(∀i,i<l->lt (kv p k) (kv p i)=false)->(∀i,r<=i->i<k->lt (kv p k) (kv p i)=true)->
  kGd n lt (kas_place p k f l r) fun x=>x<=k/\(∀i,i<x->lt (kv p k) (kv p i)=false)/\∀i,x<=i->i<k->lt (kv p k) (kv p i)=true
 |0,l,r,h1,h2,h3,h4,h5=>by
  obtain rfl:l=r:=by lia
  exact⟨h2,h4,h5⟩
 |f+1,l,r,h1,h2,h3,h4,h5=>by
  unfold kas_place
  split
  ·obtain rfl:l=r:=by lia
   exact⟨h2,h4,h5⟩
  ·rename_i ne;refine⟨hp.lt hn k,hp.lt hn _,?_⟩;show kGd n lt (if lt (kv p k) (kv p ((l+r)/2))=true then _ else _) _
   split
   ·rename_i c;refine ziT o hn hp hu f l _ (by lia) (by lia) (by lia) h4 fun i a b=>?_
    exact o.lt_le c (hu.le o a b)
   ·rename_i c;have c':lt (kv p k) (kv p ((l+r)/2))=false:=by simpa using c
    refine ziT o hn hp hu f _ r (by lia) h2 (by lia) (fun i a=>?_) h5;exact o.tr _ _ _ (hu.le o (i:=i) (j:=(l+r)/2) (by lia) (by lia)) c'
theorem gd_bin (o:Ord lt)(hn:0<n):∀(f:Nat) (p:Array Nat) (k:Nat),k+f=n->1<=k->Pm n p->Up lt p k->kGd n lt (kas_bin f p k) fun q=>Pm n q/\Up lt q n
 |0,p,k,h1,_,hp,hu=>by
  obtain rfl:k=n:=by lia
  exact⟨hp,hu⟩
 |f+1,p,k,h1,hk,hp,hu=>by
  refine zeR (zce (fun x hx=>?_) (ziT o hn hp hu k 0 k (qaW _) (qaH _) (by lia) (fun i a=>absurd a (by lia)) fun i a b=>absurd a (by lia)));obtain⟨b1,b2,b3⟩:=hx;have hs:k<p.size:=by rw[hp.size];lia
  refine gd_bin o hn f _ (k+1) (by lia) (by lia) (hp.bub _ _) fun i a b=>?_
  have e:k-(k-x)=x:=by lia
  rw[kv_bub hs (by lia),kv_bub hs (by lia),e]
  by_cases z:i=x
  ·rw[if_pos z,if_neg (by lia),if_neg (by lia)];exact b2 (i-1) (by lia)
  ·rw[if_neg z]
   by_cases y:x<i
   ·rw[if_pos ⟨y,by lia⟩]
    by_cases u:i-1=x
    ·rw[if_pos u,u];exact o.as _ _ (b3 x (qaH _) (by lia))
    ·rw[if_neg u,if_pos ⟨by lia,by lia⟩];exact hu (i-1) (by lia) (by lia)
   ·rw[if_neg (fun q=>y q.1),if_neg (by lia),if_neg (by lia)];exact hu i a (by lia)
theorem zkA (o:Ord lt)(hn:0<n):kGd n lt (kas_sort n) fun q=>Pm n q/\Up lt q n:=by
 refine zeR (zce (fun r hr=>?_) (gd_count o hn (p:=List.toArray (List.range n)) ⟨qcr _⟩));obtain⟨a1,a2,a3,a4⟩:=hr
 split
 ·rw[show max r.1 1=r.1 by lia];exact gd_bin o hn _ _ _ (by lia) a2 a1 a4
 ·obtain e:r.1=n:=by lia
  rw[e]at a4;exact⟨a1,a4⟩
end
noncomputable def srt (n:Nat)(lt:Nat->Nat->Bool):List Nat:=if n<2 then List.range n else(kRun lt (kas_sort n)).toList
theorem zfI {n:Nat}{lt:Nat->Nat->Bool}(o:Ord lt):(srt n lt).Perm (List.range n):=by
 unfold srt
 split
 ·exact qcr _
 ·exact(zkK (zkA o (n:=n) (by lia))).1.pm
theorem srt_up {n:Nat}{lt:Nat->Nat->Bool}(o:Ord lt)(hij:i<=j)(ha:(srt n lt)[i]? =some a)(hb:(srt n lt)[j]? =some b):lt b a=false:=by
 unfold srt at ha hb
 split at ha
 ·rename_i h;rw[if_pos h]at hb;have h1:=(qat.mp hb).1;rw[qb4]at h1;obtain rfl:i=j:=by lia
  rw[ha]at hb;cases hb;exact o.rf _
 ·rename_i h;rw[if_neg h]at hb;obtain⟨p1,p2⟩:=zkK (zkA o (n:=n) (by lia));have e:∀{k c:Nat},(kRun lt (kas_sort n)).toList[k]? =some c->kv (kRun lt (kas_sort n)) k=c:=fun{k c} q=>by
   unfold kv;rw[qbz]at q;rw[qco,q];rfl
  have h1:=(qat.mp hb).1;rw[qaz,p1.size]at h1;rw[<-e ha,<-e hb];exact p2.le o hij h1
end M
namespace HT
open PySem PySem.W
open PyProof.Rows (seqObj listItems_at listUpdate_at seqEpoch_at get?_update_seq size_push' sortedHeap sortedAll list_sort_plain arrOf failedOf general' keyKind' pairsOf collect_list)
noncomputable def outA (vs:List Value)(lt:Nat->Nat->Bool):List Value:=(M.srt vs.length lt).map fun i=>vs.getD i Value.none
theorem zl3 {vs:List Value}{lt:Nat->Nat->Bool}(o:M.Ord lt):(outA vs lt).length=vs.length:=by
 unfold outA;rw[qaT,(M.zfI o).length_eq,qb4]
theorem zms (vs:List Value):(List.range vs.length).map (fun i=>vs.getD i Value.none)=vs:=by
 refine List.ext_getElem (by simp) fun i h1 h2=>?_
 rw[qcs,List.getElem_range,qct,qbN h2]
 rfl
section
variable {prog:Program} {w:World} {A:Around} {E:Value->Shared->Prop} {s:Shared}
noncomputable def zoB (prog:Program)(w:World)(A:Around)(ks:List Value)(lt:Nat->Nat->Bool)(s:Shared):Prop:=
 ∃κ,(∀(Q:PyProof.Rows.SortKind->Shared->Prop) (E:Value->Shared->Prop),Q κ s->wpAny (model prog w) A (keyKind' (List.toArray ks)) Q E s)/\∀i j C,i<ks.length->j<ks.length->C (lt i j) s->kas_ask prog w A κ ks i j C s
theorem zif {a:Addr}{vs:List Value}{n:Nat}{lt:Nat->Nat->Bool}{P:PySem.Fin->Shared->Prop}(o:M.Ord lt)(ho:s.heap.get? a=some (seqObj "list" vs.toArray n))(h64:vs.length<64)
  (hk:2<=vs.length->∀h',(∀b u,b≠a->s.heap.get? b=some u->h'.get? b=some u)->zoB prog w A vs lt {s with heap:=h'})
  (h:P (.done (.ret .none)) {s with heap:=sortedHeap s.heap a vs (outA vs lt).toArray}):wpAny (model prog w) A (Builtin.«list.sort» ⟨[.ref a],[]⟩) P E s:=by
 rw[list_sort_plain];have ha:=qae ho;have hsl:vs.length<=sizeLine:=by rw[qaM];lia
 obtain⟨e1,g1⟩:∃c,(s.heap.update a (Obj.mapSeq fun _=> #[])).get? a=some (seqObj "list" #[] c):=⟨_,get?_update_seq ho fun _=> #[]⟩;refine qaB (listItems_at ho rfl (qaB (listUpdate_at ho rfl (qaB (seqEpoch_at g1 rfl (qaB (wpAny_newTuple (qaB (wpAny_newList (qaC ?_) (qaW _))) hsl)))) (by rw[qaN];exact hsl) (qaW _))))
 generalize hH:((s.heap.update a (Obj.mapSeq fun _=>(#[]:Array Value))).push (seqObj "tuple" vs.toArray 0)).push (seqObj "list" #[] 0)=H3
 have g3:H3.get? a=some (seqObj "list" #[] e1):=by
  rw[<-hH];exact qaF _ (qaF _ g1)
 have k3:∀b u,b≠a->s.heap.get? b=some u->H3.get? b=some u:=fun b u z q=>by
  rw[<-hH];exact qaF _ (qaF _ ((qbs _ _ (Ne.symm z)).trans q))
 show wpAny _ A _ P E {s with heap:=H3};dsimp only;have fin:∀(st:PyProof.Rows.SortSt),(arrOf st).map (·.2)=(outA vs lt).toArray->failedOf st=none->wpAny (model prog w) A (do
   let sorted:=(arrOf st).map (·.2)
   let touched:=(<-seqEpoch a) !=e1
   Builtin.List.listUpdate (.ref a) fun _=>sorted
   if let some e:=failedOf st then rule "list.sort.comparison-raised";throw e
   if touched then rule "list.sort.modified";raiseError "ValueError" "list modified during sort"
   ret .none) P E {s with heap:=H3}:=fun st e f=>by
  dsimp only;rw[e,f];refine qaB (seqEpoch_at g3 rfl (qaB (listUpdate_at g3 rfl ?_ (qaW _) (by rw[qaN,zl3 o];lia))));simp only[qcu,qbW,qbi];refine qaE ?_;rw[<-hH];exact h
 have hz:vs.toArray.size=vs.length:=qaN ..
 by_cases h2:vs.length<2
 ·simp only[if_pos (show vs.toArray.size<2 by rw[hz];exact h2)];refine qaB (qaE ?_);rw[StateT.run_pure];refine qaB (qaE (fin _ ?_ rfl));unfold outA M.srt;rw[if_pos h2,zms];show((vs.toArray.zip vs.toArray).map (·.2))=_;apply Array.toList_inj.mp;simp[List.map_snd_zip]
 ·simp only[if_neg (show ¬vs.toArray.size<2 by rw[hz];exact h2)];obtain⟨κ,a1,a2⟩:=hk (by lia) H3 k3;refine qaB (a1 _ _ (qaB (qaw (kat_run (Q:=fun st s'=>s'={s with heap:=H3}/\(arrOf st).map (·.2)=(outA vs lt).toArray/\failedOf st=none) (G:=fun p s'=>s'={s with heap:=H3}/\p=M.kRun lt (kas_sort vs.length)) rfl (by lia) h64 (fun p st s' b1 b2 b3 b4=>⟨b4.1,?_,b3⟩) (M.kGd_wp (n:=vs.length) (lt:=lt) a2 (M.zkA o (by lia)) ⟨rfl,rfl⟩)) (fun r s' ⟨c1,c2,c3⟩=>?_) fun _ _ x=>x)))
  ·rw[kat_snds rfl b2,b4.2];unfold outA M.srt;rw[if_neg h2]
  ·subst c1;exact fin r.2 c2 c3
theorem sortedA {l:Addr}{vs:List Value}{lt:Nat->Nat->Bool}{Q:Value->Shared->Prop}(o:M.Ord lt)(hl:s.heap.IsList l vs.toArray)(h64:vs.length<64)
    (hk:2<=vs.length->∀h',(∀b u,s.heap.get? b=some u->h'.get? b=some u)->zoB prog w A.in1.in1 vs lt {s with heap:=h'})
    (h:Q (.ref (s.heap.objs.size+1)) {s with heap:=sortedAll s.heap vs (outA vs lt).toArray}):wpAny (model prog w) A (call (.builtin "sorted") [.ref l]) Q E s:=by
  have hsl:vs.length<=sizeLine:=by rw[qaM];lia
  have hsz:((s.heap.push (seqObj "list" #[] 0)).update s.heap.objs.size (Obj.mapSeq (· ++vs.toArray))).objs.size=s.heap.objs.size+1:=(Heap.size_update ..).trans (size_push' ..);refine Calls.call_function_entry PyProof.Rows.kind_sorted PyProof.Rows.plain_sorted PyProof.Rows.entry_sorted (PyProof.Rows.args_sorted1 _) (?_:wpAny _ _ (Builtin.«sorted» _) _ _ _);unfold Builtin.«sorted»;refine qaB (m:=checkCount "sorted" 1 1 _) (qaE (qaB (collect_list hl (qaB (wpAny_newList ?_ hsl)) hsl)));have g:(((s.heap.push (seqObj "list" #[] 0)).update s.heap.objs.size (Obj.mapSeq (· ++vs.toArray))).push (seqObj "list" vs.toArray 0)).get? (s.heap.objs.size+1)=some (seqObj "list" vs.toArray 0):=hsz ▸ qaG _ rfl;show wpAny _ _ _ _ _ {s with heap:=((s.heap.push (seqObj "list" #[] 0)).update s.heap.objs.size (Obj.mapSeq (· ++vs.toArray))).push (seqObj "list" vs.toArray 0)};rw[hsz];refine qaB (qaC (qbm PyProof.Rows.slot_list_sort ⟨_,g,rfl⟩ PyProof.Rows.entry_list_sort (zif o g h64 (fun h2 h' k=>hk h2 h' fun b u q=>?_) ⟨_,rfl,qaE ⟨_,rfl,h⟩⟩) (PyProof.Rows.args_list_sort _)));have hlt:=qae q;exact k b u (qah (qbV hlt)) (qaF _ ((qbs _ _ (qaD hlt)).trans (qaF _ q)))
end
end HT
namespace HT
open PySem PySem.Spec PySem.W
open PyProof.Rows (IntsAre IsTup)
theorem lex_tr:∀a b c:List Int,zhT b a=false->zhT c b=false->zhT c a=false
 |[],_,[],_,_=>rfl
 |[],_,_::_,_,_=>rfl
 |_::_,[],_,h,_=>by cases h
 |_::_,_::_,[],_,h=>by cases h
 |x::xs,y::ys,z::zs,h,k=>by
  rw[zdq]at h k ⊢
  by_cases e:y=x
  ·by_cases f:z=y
   ·rw[if_pos e]at h;rw[if_pos f]at k;rw[if_pos (f.trans e)];exact lex_tr xs ys zs h k
   ·rw[if_neg f]at k;subst e;rw[if_neg f];exact k
  ·rw[if_neg e]at h;have h':=qcv h
   by_cases f:z=y
   ·rw[if_neg (by lia)];exact qaa (by lia)
   ·rw[if_neg f]at k;have k':=qcv k;rw[if_neg (by lia)];exact qaa (by lia)
theorem lex_as:∀a b:List Int,zhT a b=true->zhT b a=false
 |[],[],h=>by cases h
 |[],_::_,_=>rfl
 |_::_,[],h=>by cases h
 |x::xs,y::ys,h=>by
  rw[zdq]at h ⊢
  by_cases e:x=y
  ·rw[if_pos e]at h;rw[if_pos e.symm];exact lex_as xs ys h
  ·rw[if_neg e]at h;have h':=of_decide_eq_true h;rw[if_neg (by lia)];exact qaa (by lia)
noncomputable def zck (nss:List (List Int))(i j:Nat):Bool:=zhT (nss.getD i []) (nss.getD j [])
theorem zhA (nss:List (List Int)):M.Ord (zck nss):=⟨fun _ _ _=>lex_tr _ _ _,fun _ _=>lex_as _ _⟩
section
variable {prog:Program} {w:World} {A:Around} {E:Value->Shared->Prop} {s:Shared}
theorem zbP {α:Type}{l:List α}{i:Nat}{x d:α}(h:l[i]? =some x):l.getD i d=x:=by rw[qct,h];rfl
theorem ziu {ks:List Value}{ns:List Int}(hi:IntsAre ks ns)(h2:2<=ks.length):zoB prog w A ks (zck (ns.map fun n=>[n])) s:=by
 refine⟨PyProof.Rows.oneType',fun Q E h=>?_,fun i j C h1 h3 h=>?_⟩
 ·rw[PyProof.Rows.ksk_kind (kz:=ns) hi (by rw[qaN];exact h2)];exact qaE h
 ·obtain⟨n,t,e1,e2⟩:=hi.at i _ (qbN h1);obtain⟨m,u,f1,f2⟩:=hi.at j _ (qbN h3);unfold kas_ask;rw[zbP (qbN h1),zbP (qbN h3),e1,f1];refine kat_lt_int ?_;unfold zck at h;rw[zbP (x:=[n]) (by rw[qba,e2];rfl),zbP (x:=[m]) (by rw[qba,f2];rfl),zdq]at h
  by_cases z:n=m
  ·subst z;rw[if_pos rfl]at h;rw[qaa (Int.lt_irrefl n)];exact h
  ·rwa[if_neg z]at h
theorem zpe {b fin:Bool}{Q:Bool->Shared->Prop}:∀{xs ys:List Value} {ns ms:List Int} (i:Nat),IntsAre xs ns->IntsAre ys ms->fin=decide (ns.length<ms.length)->Q (zhT ns ms) s->KatLex prog w A b fin Q (xs.zip ys) i s
 |_,_,_,_,i,.nil,.nil,e,h=>by subst e;exact h
 |_,_,_,_,i,.nil,.cons _ _ _,e,h=>by subst e;exact h
 |_,_,_,_,i,.cons _ _ _,.nil,e,h=>by subst e;exact h
 |_,_,_,_,i,.cons n t hx,.cons m u hy,e,h=>by
  refine kat_cons (wpAny_eqBool_int ?_);rw[zdq]at h
  by_cases z:n=m
  ·rw[if_pos z]at h;rw[qaP.mpr z];exact kat_yes (zpe (i+1) hx hy (by rw[e];simp) h)
  ·rw[if_neg z]at h;rw[qab.mpr z];refine kat_no ?_;cases hb:(b&&i==0)with
   |true=>exact PyProof.Rows.oneLt_int h
   |false=>exact kat_one _ _ (PyProof.Rows.lt_int h)
noncomputable def znc (h:Heap)(ks:List Value)(nss:List (List Int)):Prop:=ks.length=nss.length/\∀(i:Nat) v ns,ks[i]? =some v->nss[i]? =some ns->∃a its,v= .ref a/\IsTup h a (List.toArray its)/\IntsAre its ns/\ns≠[]
theorem zpm {h:Heap}:∀{ks:List Value} {nss:List (List Int)},znc h ks nss->∃fs,KatTups h ks fs/\fs.length=ks.length/\∀v∈fs,∃n t,v=Value.int n t
 |[],nss,_=>⟨[],KatTups.nil,rfl,fun v hv=>absurd hv (by simp)⟩
 |k::ks,[],⟨h1,_⟩=>by simp at h1
 |k::ks,ns::nss,⟨h1,h2⟩=>by
  obtain⟨a,its,rfl,⟨o,ho,hc,n,hd⟩,hi,ne⟩:=h2 0 _ _ rfl rfl;obtain⟨fs,g1,g2,g3⟩:=zpm (ks:=ks) (nss:=nss) ⟨by simpa using h1,fun i v ns e1 e2=>h2 (i+1) v ns (by simpa using e1) (by simpa using e2)⟩;cases hi with
  |nil=>exact absurd rfl ne
  |cons m t hi=>
   refine⟨.int m t::fs,KatTups.cons ho hc hd rfl g1,by simp[g2],fun v hv=>?_⟩;rcases qaq.mp hv with rfl|hv
   ·exact⟨m,t,rfl⟩
   ·exact g3 v hv
theorem zmQ {ks:List Value}{nss:List (List Int)}(ht:znc s.heap ks nss)(h2:2<=ks.length):zoB prog w A ks (zck nss) s:=by
 obtain⟨fs,g1,g2,g3⟩:=zpm ht;refine⟨PyProof.Rows.tuples' true,fun Q E h=>?_,fun i j C h1 h3 h=>?_⟩
 ·refine kat_kind (T:= .type "int") g1 (by lia) (fun v hv=>?_) rfl h;obtain⟨n,t,rfl⟩:=g3 v hv;exact Looks.now
 ·have hl:=ht.1;obtain⟨a,its,e1,⟨o,ho,hc,n,hd⟩,hi,_⟩:=ht.2 i _ _ (qbN h1) (qbN (by lia));obtain⟨b,its2,f1,⟨o2,ho2,hc2,n2,hd2⟩,hi2,_⟩:=ht.2 j _ _ (qbN h3) (qbN (by lia));unfold kas_ask;rw[zbP (qbN h1),zbP (qbN h3),e1,f1];unfold zck at h;rw[zbP (qbN (l:=nss) (i:=i) (by lia)),zbP (qbN (l:=nss) (i:=j) (by lia))]at h;refine kat_lt ho hd ho2 hd2 (zpe 0 hi hi2 ?_ h);rw[qaN,qaN,hi.length,hi2.length]
end
end HT
namespace M
open L2 PySem PySem.Spec
open PyProof.Rows hiding St
noncomputable def zmU (ds:List D):Option (List (List Int)):=match za5 ds with
 |some ns=>some (ns.map fun n=>[n])
 |none=>(zh9 ds).bind fun nss=>if nss.all fun ns=>!ns.isEmpty then some nss else none
noncomputable def srtD (nss:List (List Int))(ds:List D):List D:=(srt ds.length (HT.zck nss)).map fun i=>ds.getD i .non
noncomputable def dSrt:List D->Option (List D)
 |[.lst ds]=>if ds.length<64 then(zmU ds).map fun nss=>srtD nss ds else none
 |_=>none
noncomputable def KeyV (K:W.Frag)(H:Hp)(ys:List V)(nss:List (List Int)):Prop:=
 (∃ns:List Int,ys=ns.map V.int/\nss=ns.map fun n=>[n])\/∃as:List Addr,ys=as.map V.ref/\as.length=nss.length/\∀(i:Nat) a ns,as[i]? =some a->nss[i]? =some ns->SqT K H a (ns.map V.int)/\ns≠[]
noncomputable def srtV (nss:List (List Int))(ys:List V):List V:=(srt ys.length (HT.zck nss)).map fun i=>ys.getD i .non
noncomputable def rSrt (K:W.Frag):List V->Hp->VK->Prop:=fun xs H Q=>∃(p:Addr) (ys:List V) (nss:List (List Int)),xs=[.ref p]/\SqL K H p ys/\ys.length<64/\KeyV K H ys nss/\∀l,H l=none->Q (.ref l) (upd H l (.lst (srtV nss ys)))
theorem zj3 {ys:List V}{its:List Value}(r:Vals ys its):∀ix:List Nat,Vals (ix.map fun i=>ys.getD i .non) (ix.map fun i=>its.getD i .none)
 |[]=> .nil
 |i::ix=>by
  refine .cons ?_ (zj3 r ix);dsimp only;cases e:ys[i]? with
  |some y=>
   obtain⟨u,h1,h2⟩:=r.get e;rw[HT.zbP e,HT.zbP h1];exact h2
  |none=>
   rw[qct,qct,e,r.none_of e];exact rfl
theorem zkt {X:Cx}:zeV X (.builtin "sorted") (rSrt X.K):=by
 intro pins s σ H xs us Q I r h;obtain⟨p,ys,nss,rfl,hq,h64,kv,q⟩:=h;obtain⟨u,rfl,ru⟩:=zhZ r;cases ru;obtain⟨its,rv,pl,hz⟩:=I.list hq;have hl:=rv.length;refine HT.sortedA (HT.zhA nss) pl.isList (by lia) (fun h2 h' k=>?_) ?_
 ·rcases kv with⟨ns,rfl,rfl⟩|⟨as,rfl,e1,e2⟩
  ·exact HT.ziu (zdD rv) h2
  ·refine HT.zmQ ⟨by rw[<-hl,qaT,e1],fun i v ns e3 e4=>?_⟩ h2;obtain⟨a,ea,rfl⟩:=refs_get rv e3;obtain⟨g1,g2⟩:=e2 i a ns ea e4;have I':Inv X pins σ H {s with heap:=h'}:=I.kept k;obtain⟨its2,r2,p2,_⟩:=I'.tuple g1;exact⟨a,its2,rfl,p2,zdD r2,g2⟩
 ·obtain⟨e,he⟩:=PyProof.Rows.sortedAll_at s.heap its (HT.outA its (HT.zck nss)).toArray;refine⟨.ref (s.heap.objs.size+1),upd H (s.heap.objs.size+1) (.lst (srtV nss ys)),I.laid (t':=s.toks) (fun b u z=>PyProof.Rows.sortedAll_old z) (Nat.le_succ _) ?_,rfl,q _ (I.hok.fresh (Nat.le_succ _))⟩;have r2:=zj3 rv (srt ys.length (HT.zck nss));refine⟨?_,HT.outA its (HT.zck nss),e,?_,he⟩
  ·unfold srtV;rw[qaT,(zfI (HT.zhA nss)).length_eq,qb4];exact hz
  ·unfold HT.outA srtV;rw[<-hl];exact r2
theorem RepL.picks {K:W.Frag}{G:Hp}{ys:List V}{ds:List D}(r:RepL K G ys ds):∀ix:List Nat,RepL K G (ix.map fun i=>ys.getD i .non) (ix.map fun i=>ds.getD i .non)
 |[]=> .nil
 |i::ix=>by
  refine .cons ?_ (RepL.picks r ix);dsimp only;cases e:ds[i]? with
  |some y=>
   obtain⟨u,h1,h2⟩:=r.get e;rw[HT.zbP e,HT.zbP h1];exact h2
  |none=>
   have e':ys[i]? =none:=by rw[qad]at e ⊢;rw[r.length];exact e
   rw[qct,qct,e,e'];exact rfl
theorem keyV_of {K:W.Frag}{G H:Hp}{ys:List V}{ds:List D}{nss:List (List Int)}(f:Fz G H)(r:RepL K G ys ds)(e:zmU ds=some nss):KeyV K H ys nss:=by
 unfold zmU at e
 split at e
 ·rename_i ns h;cases e;rw[zdA h]at r;exact .inl ⟨ns,RepL.ints_eq r,rfl⟩
 ·obtain⟨ms,e1,e⟩:=zaa e
  split at e
  ·rename_i ha;cases e;obtain⟨as,rfl,hl,h⟩:=zji r e1;refine .inr ⟨as,rfl,hl,fun i a ns h1 h2=>⟨SqT.of (f _ _ (h i a ns h1 h2)),fun z=>?_⟩⟩;have:=qbX.mp ha ns (qbb h2);rw[z]at this;cases this
  ·cases e
theorem znD {X:Cx}{e:Expr}{ma:MA}{p pos:Pos}(ml:X.mg "sorted"=none)(ha:SA X [e] ma)(hg:autoParam (Gl X "sorted") zu3._auto_1)(he:autoParam (starEach [e] X.env=(false,eval e X.env)::starEach [] X.env) zu3._auto_1)(hb:autoParam (bootBuiltins "sorted"=some (.builtin "sorted")) zu11._auto_1):
  SO X (.Call (.Name "sorted" p) [e] [] pos) (oC dSrt ma):=by
 obtain⟨t,pa,sa⟩:=ha;refine⟨_,zdM zkt hg ml hb pa (by decide) (by decide) he rfl,fun B G H σ ρ ds ρ' Q I hm k=>?_⟩;obtain⟨as,e1,e2⟩:=oC_inv hm;refine sa B G H σ ρ as ρ' _ I e1 fun G1 H1 vs I1 f1 r1=>?_
 unfold dSrt at e2
 split at e2
 ·rename_i es
  split at e2
  ·rename_i h64;obtain⟨nss,e3,rfl⟩:=zaf e2;obtain⟨x,rfl,ra⟩:=r1.one;obtain⟨q,ys,rfl,hp,ry⟩:=I1.lst ra;have hl:=ry.length;refine⟨q,ys,nss,rfl,SqL.of hp,by lia,keyV_of I1.fz ry e3,fun l h0=>?_⟩;obtain⟨I2,g2,h2,b2,n2⟩:=I1.newO h0 (srtV nss ys);refine k G1 _ l _ I2 f1 g2 h2 ?_ b2 n2;unfold srtV srtD;rw[hl];exact ry.picks _
  ·cases e2
 ·cases e2
end M
namespace HT
open PySem PySem.W
open PyProof.Rows (seqObj)
section
variable {prog:Program} {w:World} {A:Around} {E:Value->Shared->Prop} {s:Shared}
noncomputable def Iters (prog:Program)(w:World)(A:Around)(d S:Addr)(Pv:List Value->Prop)(s:Shared):Prop:=
 ∀(Q:Value->Shared->Prop) (E:Value->Shared->Prop),(∀I fp wr St (ord:List Value) h' dr,Walks prog w A I fp wr ord.length (fun i v=>ord[i]? =some v) St->(∀b∈wr,s.heap.objs.size<=b)->S∉fp->
  (∀b o,s.heap.get? b=some o->h'.get? b=some o)->St 0 h'->Pv ord->ord.length<=2^24->Q (.ref I) {s with heap:=h',drawn:=dr})->wpAny (model prog w) A (pyIter (.ref d)) Q E s
theorem zoN {ord:List Value}{acc:Array Value}(it:ItemsOf (fun i v=>ord[i]? =some v) acc ord.length):acc.toList=ord:=by
 refine qcw fun i=>?_
 by_cases hi:i<ord.length
 ·have e:=it.2 i (acc[i]'(by rw[it.1];exact hi)) (by simp[it.1,hi]);rw[e];simp[it.1,hi]
 ·rw[qb2 (by simp[it.1];lia),qb2 (by lia)]
theorem zkZ {R:Result->Shared->Prop}{T:String}{d S:Addr}{res:Value}{c₀:Nat}{Pv:List Value->Prop}(hT:s.TypeIs (.ref d) T)
  (h1:(Value.type T==Value.type "list")=false) (h2:(Value.type T==Value.type "tuple")=false) (hS:s.heap.get? S=some {cls:= .type "list",data:= .seq #[] c₀}) (hd:S≠d) (hi:Iters prog w A.in1 d S Pv s)
  (hh:∀(s':Shared) (Q:Bool->Shared->Prop) (E:Value->Shared->Prop),s'.TypeIs (.ref d) T->Q false s'->wpAny (model prog w) A.in1 (Builtin.List.listLengthHint (.ref d)) Q E s')
  (hR:∀h' tk dr acc c,(∀b o,b≠S->s.heap.get? b=some o->h'.get? b=some o)->h'.get? S=some {cls:= .type "list",dict:=none,data:= .seq acc c,slots:= #[]}->Pv acc.toList->R (.ok (.ret res)) {s with heap:=h',toks:=tk,drawn:=dr}):
  wpAny (model prog w) A.in1 (Builtin.List.listExtendWith (.ref S) (.ref d) res)
   (fun fin s'=>match fin with| .done f=>R (.ok f) s'| .again c'=>c'.quiet=true/\codeAny (model prog w) A c' R s') (fun e s'=>R (.error e) s') s:=by
 unfold Builtin.List.listExtendWith;refine qaB (qbn hT ?_);have h0:Builtin.List.listSameRef (.ref S) (.ref d)=false:=by simp[Builtin.List.listSameRef,hd]
 simp only[h0,h1,h2,Bool.or_false,qbW,qbi];refine qaB (hi _ _ fun I fp wr St ord h' dr W hw hf k1 st pv hn=>?_);have key:∀(h:Heap) (c₁:Nat),St 0 h->(∀b o,b≠S->s.heap.get? b=some o->h.get? b=some o)->
   h.get? S=some {cls:= .type "list",data:= .seq #[] c₁}->codeAny (model prog w) A (.builtin "list.extend.loop" ⟨[.ref S,.ref I,res],[]⟩) R {s with heap:=h,drawn:=dr}:=by
  intro h c₁ st hk g;refine codeAny_extend_loopS W.toS (by rw[qaM];lia) S hf res ord.length 0 _ #[] c₁ rfl (qaW _) st g (ItemsOf.nil _) fun s' acc' c' m g' it=>?_
  rw[Moved.eq_with m];refine hR s'.heap s'.toks dr acc' c' (fun b o z e=>m.heap b o (fun y=>?_) (hk b o z e)) g' (by rw[zoN it];exact pv);rcases qaq.mp y with e'|y
  ·exact z e'
  ·exact absurd (qae e) (Nat.not_lt.mpr (hw b y))
 obtain⟨od,g,gc⟩:=hT;refine qaB (qaC (hh _ _ _ ⟨od,k1 _ _ g,gc⟩ ?_));have g1:=k1 _ _ hS;refine wpAny_ite_split (fun _=>?_) (fun _=>qaE ⟨qcx F.plain_extend_loop _,key _ c₀ st (fun b o _ e=>k1 b o e) g1⟩);refine qaB (qb3 (qaB ?_));show wpAny _ _ (updateSeq S (·.push .none)>>=fun _=>updateSeq S (·.pop)) _ _ _;refine qaB (wpAny_updateSeq g1 rfl ?_);have g2:=qbr (Obj.mapSeq (·.push Value.none)) g1 rfl;refine wpAny_updateSeq (hz:=by seq_fits) g2 rfl ?_;have g3:=qbr (Obj.mapSeq (·.pop)) g2 rfl;refine qaE ⟨qcx F.plain_extend_loop _,key _ _ (W.frame _ _ _ st fun b hb o e=>?_) (fun b o z e=>?_) g3⟩
 ·have z:S≠b:=fun y=>hf (y ▸ hb)
  exact(qbs _ _ z).trans ((qbs _ _ z).trans e)
 ·exact(qbs _ _ (Ne.symm z)).trans ((qbs _ _ (Ne.symm z)).trans (k1 _ _ e))
theorem zni {R:Result->Shared->Prop}{T:String}{d S:Addr}{Pv:List Value->Prop}(hT:s.TypeIs (.ref d) T)(h1:(Value.type T==Value.type "list")=false)(h2:(Value.type T==Value.type "tuple")=false)
  (hS:s.heap.get? S=some {cls:= .type "list",data:= .seq #[]}) (hd:S≠d) (hi:Iters prog w A.in1 d S Pv s)
  (hh:∀(s':Shared) (Q:Bool->Shared->Prop) (E:Value->Shared->Prop),s'.TypeIs (.ref d) T->Q false s'->wpAny (model prog w) A.in1 (Builtin.List.listLengthHint (.ref d)) Q E s')
  (hR:∀h' tk dr acc c,(∀b o,b≠S->s.heap.get? b=some o->h'.get? b=some o)->h'.get? S=some {cls:= .type "list",dict:=none,data:= .seq acc c,slots:= #[]}->Pv acc.toList->R (.ok (.ret (.ref S))) {s with heap:=h',toks:=tk,drawn:=dr}):
  codeAny (model prog w) A (.builtin "list.__iadd__" ⟨[.ref S,.ref d],[]⟩) R s:=by
 refine qcj F.entry_list_iadd ?_;rw[qcy F.plain_list_iadd _];exact zkZ (c₀:=0) hT h1 h2 hS hd hi hh hR
noncomputable def Gives (prog:Program)(w:World)(A:Around)(d:Addr)(P:List Value->Prop)(s:Shared):Prop:=
 ∀(Q:List Value->Shared->Prop) (E:Value->Shared->Prop),(∀h' tk dr vs,(∀b o,s.heap.get? b=some o->h'.get? b=some o)->s.heap.objs.size<=h'.objs.size->P vs->Q vs {s with heap:=h',toks:=tk,drawn:=dr})->wpAny (model prog w) A (collect (.ref d)) Q E s
theorem zmm {T:String}{d:Addr}{Pv:List Value->Prop}(hT:s.TypeIs (.ref d) T)(h1:(Value.type T==Value.type "list")=false)(h2:(Value.type T==Value.type "tuple")=false)
  (hi:Iters prog w A.in1 d s.heap.objs.size Pv {s with heap:=s.heap.push {cls:= .type "list",data:= .seq #[]}})
  (hh:∀(s':Shared) (Q:Bool->Shared->Prop) (E:Value->Shared->Prop),s'.TypeIs (.ref d) T->Q false s'->wpAny (model prog w) A.in1 (Builtin.List.listLengthHint (.ref d)) Q E s'):Gives prog w A d Pv s:=by
 intro Q E hQ;obtain⟨od,g1,gc⟩:=hT;unfold collect;refine qaB (wpAny_runValue (qcj F.entry_proto_collect ?_));rw[qcy F.plain_proto_collect _];show wpAny _ A.in1 (newList []>>=fun l=>again (.builtin "list.__iadd__" ⟨[l,.ref d],[]⟩)) _ _ s;refine qaB (qbp ?_);have g:(s.heap.push {cls:= .type "list",data:= .seq #[]}).get? s.heap.objs.size=some {cls:= .type "list",data:= .seq #[]}:=qaG _ rfl;have gd:=qaF {cls:= .type "list",data:= .seq #[]} g1;refine qaE ⟨qcx F.plain_list_iadd _,zni (s:={s with heap:=s.heap.push {cls:= .type "list",data:= .seq #[]}}) (Pv:=Pv) ⟨od,gd,gc⟩ h1 h2 g (qaD (qae g1)) hi hh fun h' tk dr acc c k1 k2 e=>?_⟩;show wpAny _ A (load s.heap.objs.size>>=_) _ _ _;refine qaB (wpAny_load k2 ?_);exact qaE (hQ h' tk dr acc.toList (fun b o e=>k1 b o (qah (qae e)) (qaF _ e)) (qam (qae k2)) e)
theorem sortedW {d:Addr}{P:List Value->Prop}{lt:List Value->Nat->Nat->Bool}{Q:Value->Shared->Prop}(o:∀vs,P vs->M.Ord (lt vs))(hg:Gives prog w A.in1 d P s)(h64:∀vs,P vs->vs.length<64)
  (hk:∀vs,P vs->2<=vs.length->∀h' tk dr,(∀b u,s.heap.get? b=some u->h'.get? b=some u)->zoB prog w A.in1.in1 vs (lt vs) {s with heap:=h',toks:=tk,drawn:=dr})
  (h:∀vs h' tk dr p n,P vs->(∀b u,s.heap.get? b=some u->h'.get? b=some u)->s.heap.objs.size<=p->h'.get? p=some (seqObj "list" (outA vs (lt vs)).toArray n)->Q (.ref p) {s with heap:=h',toks:=tk,drawn:=dr}):
  wpAny (model prog w) A (call (.builtin "sorted") [.ref d]) Q E s:=by
 refine Calls.call_function_entry PyProof.Rows.kind_sorted PyProof.Rows.plain_sorted PyProof.Rows.entry_sorted (PyProof.Rows.args_sorted1 _) (?_:wpAny _ _ (Builtin.«sorted» _) _ _ _);unfold Builtin.«sorted»;refine qaB (m:=checkCount "sorted" 1 1 _) (qaE (qaB (hg _ _ fun h1 tk dr vs k1 kz pv=>qaB (wpAny_newList ?_ (by have:=h64 vs pv;rw[qaM];lia)))));have g:(h1.push (seqObj "list" vs.toArray 0)).get? h1.objs.size=some (seqObj "list" vs.toArray 0):=qaG _ rfl;have k2:∀b u,s.heap.get? b=some u->(h1.push (seqObj "list" vs.toArray 0)).get? b=some u:=fun b u e=>qaF _ (k1 b u e)
 have nb:∀b u,s.heap.get? b=some u->b≠h1.objs.size:=fun b u e=>qah (qae (k1 b u e))
 show wpAny _ _ _ _ _ {s with heap:=h1.push (seqObj "list" vs.toArray 0),toks:=tk,drawn:=dr};refine qaB (qaC (qbm PyProof.Rows.slot_list_sort ⟨_,g,rfl⟩ PyProof.Rows.entry_list_sort (zif (o vs pv) g (h64 vs pv) (fun h2 h' k=>hk vs pv h2 h' tk dr fun b u q=>k b u (nb b u q) (k2 b u q)) ⟨_,rfl,qaE ⟨_,rfl,?_⟩⟩) (PyProof.Rows.args_list_sort _)));have g2:=PyProof.Rows.get?_update_seq g fun _=>(#[]:Array Value)
 have g3:=qaF (seqObj "list" #[] 0) (qaF (seqObj "tuple" vs.toArray 0) g2);refine h vs _ tk dr _ _ pv (fun b u e=>?_) ?_ (PyProof.Rows.get?_update_seq g3 fun _=>(outA vs (lt vs)).toArray)
 ·exact(qbs _ _ (Ne.symm (nb b u e))).trans (qaF _ (qaF _ ((qbs _ _ (Ne.symm (nb b u e))).trans (k2 b u e))))
 ·exact kz
end
end HT
namespace M
open L2 PySem PySem.Spec
open PyProof.Rows hiding St
theorem _root_.L2.Inv.dr {X:Cx}{pins:List (Addr×Obj)}{σ:List (Option V)}{H:Hp}{s:Shared}{d:Drawn}(I:Inv X pins σ H s):Inv X pins σ H {s with drawn:=d}:=⟨I.ok,I.os,I.bare,I.base,I.loc,I.cell,I.free,I.freeC,I.pin,I.hok,I.len⟩
end M
namespace HT
open PySem
variable {l:List Nat} {bt b:Bool} {t:SetTable} {h:Heap} {j:Nat} {v:Value} {es:List (Int×Value)} {a:Addr} {o:Obj} {vs:List Int} {n:Int} {Q:Bool->Shared->Prop}
theorem zjd (up:l.Pairwise (· < ·))(j:Nat):∀(f lo hi:Nat),hi<=l.length->hi-lo<=f->lo<=hi->(∀i,i<lo->∀x,l[i]? =some x->x<j)->(∀i,hi<=i->∀x,l[i]? =some x->j<=x)->
    let p:=SetTable.below.go l.toArray j f lo hi
    p<=l.length/\(∀i,i<p->∀x,l[i]? =some x->x<j)/\(∀i,p<=i->∀x,l[i]? =some x->j<=x)
  |0,lo,hi,h1,h2,h3,h4,h5=>by
    have:lo=hi:=by lia
    subst this;exact⟨h1,h4,h5⟩
  |f+1,lo,hi,h1,h2,h3,h4,h5=>by
    unfold SetTable.below.go
    by_cases h:lo<hi
    . rw[if_pos h]
      dsimp only;have lt:(lo+hi)/2<l.length:=by lia
      have g:l.toArray.getD ((lo+hi)/2) j=l[(lo+hi)/2]:=by simp[Array.getD,lt]
      rw[g];have mono:∀a b:Nat,a<=b->∀x y:Nat,l[a]? =some x->l[b]? =some y->x<=y:=fun a b ab x y ex ey=>by
        obtain⟨ha,rfl⟩:=qat.mp ex;obtain⟨hb,rfl⟩:=qat.mp ey
        by_cases z:a=b
        . subst z;exact qaH _
        . exact qam (qcz.mp up a b ha hb (by lia))
      split
      . rename_i c
        refine zjd up j f _ _ h1 (by lia) (by lia) (fun i hi' x ex=>?_) h5;have:=mono i ((lo+hi)/2) (by lia) x _ ex (qbN lt);lia
      . rename_i c
        refine zjd up j f _ _ (by lia) (by lia) (by lia) h4 (fun i hi' x ex=>?_);have:=mono ((lo+hi)/2) i (by lia) _ x (qbN lt) ex;lia
    . rw[if_neg h]
      have:lo=hi:=by lia
      subst this;exact⟨h1,h4,h5⟩
theorem zlv (up:l.Pairwise (· < ·))(j:Nat):SetTable.below l.toArray j<=l.length/\(∀i,i<SetTable.below l.toArray j->∀x,l[i]? =some x->x<j)/\(∀i,SetTable.below l.toArray j<=i->∀x,l[i]? =some x->j<=x):=by
  have:=zjd up j l.toArray.size 0 l.toArray.size (by simp) (by lia) (qaW _) (fun i hi=>absurd hi (Nat.not_lt_zero _)) (fun i hi x ex=>by
    obtain⟨ha,_⟩:=qat.mp ex;simp at hi;lia)
  exact this
structure Ext (bt:Bool) (t:SetTable):Prop where
  led:t.led=!bt
  no:t.dummies= #[]
  up:t.place.toList.Pairwise (· < ·)
theorem zlT (j:Nat):SetTable.has #[] j=false:=by unfold SetTable.has;simp
theorem Ext.slot (e:Ext bt t)(j:Nat):t.slot j≠ .dummy:=by
 unfold SetTable.slot;rw[e.no,zlT];dsimp only
 split
 ·intro h;cases h
 ·simp
theorem Ext.go (e:Ext bt t)(ha:Nat->Int)(h:Int):∀(f:Nat) (p:SetTable.Probe) (j:Nat) (d:Option Nat),p.dummy=none->SetTable.probe.go t ha h f p=some (.empty j d)->d=none/\t.slot j= .empty
 |0,_,_,_,_,q=>by cases q
 |f+1,p,j,d,hp,q=>by
  unfold SetTable.probe.go at q
  split at q
  ·rename_i z;cases q;exact⟨hp,z⟩
  ·rename_i z;exact absurd z (e.slot _)
  ·split at q
   ·cases q
   ·refine e.go ha h f _ j d ?_ q;unfold SetTable.advance
    split<;>exact hp
theorem Ext.free (e:Ext bt t){h:Int}(q:t.freeSlot h=some (j,b)):t.slot j= .empty:=by
 unfold SetTable.freeSlot at q
 split at q
 ·rename_i j' d z;obtain⟨rfl,y⟩:=e.go _ _ _ _ _ _ (by unfold SetTable.probeStart;rfl) z;cases q;exact y
 ·cases q
theorem Ext.put (e:Ext bt t)(q:t.slot j= .empty):Ext bt (t.put j).1:=by
 have b:=zlv (l:=t.place.toList) e.up j;have tl:t.place.toList.toArray=t.place:=by simp
 rw[tl]at b;have ne:¬t.place[SetTable.below t.place j]? =some j:=fun z=>by
  unfold SetTable.slot at q;dsimp only at q;rw[if_pos (by rw[z];exact qbU _)]at q;cases q
 unfold SetTable.put;refine⟨e.led,?_,?_⟩
 ·dsimp only;rw[e.no,zlT];rfl
 ·dsimp only;rw[SetTable.toList_insertAt];have up:=e.up;rw[<-List.take_append_drop (SetTable.below t.place j) t.place.toList,List.pairwise_append]at up;rw[List.pairwise_append,qcA];refine⟨up.1,⟨fun x hx=>?_,up.2.1⟩,fun x hx y hy=>?_⟩
  ·obtain⟨i,hi⟩:=List.getElem?_of_mem hx;rw[List.getElem?_drop]at hi;have l:=b.2.2 _ (Nat.le_add_right _ i) x hi
   by_cases z:i=0
   ·subst z;rw[Nat.add_zero,qbz]at hi;have:x≠j:=fun y=>ne (by rw[hi,y])
    lia
   ·have hb:SetTable.below t.place j<t.place.toList.length:=by
     obtain⟨ha,_⟩:=qat.mp hi;lia
    have l0:=b.2.2 _ (qaH _) _ (qbN hb);obtain⟨ha,rfl⟩:=qat.mp hi;have:=qcz.mp e.up _ _ hb ha (by lia);lia
  ·obtain⟨i,hi⟩:=List.getElem?_of_mem hx;rw[List.getElem?_take]at hi;have l:x<j:=by
    split at hi
    ·exact b.2.1 i (by assumption) x hi
    ·cases hi
   rcases qaq.mp hy with rfl|hy
   ·exact l
   ·exact up.2.2 x hx y hy
theorem Ext.stand (e:Ext bt t)(n:Nat):Ext bt (t.standIn n):=by
  refine⟨e.led,rfl,?_⟩;show(Array.range n).toList.Pairwise (· < ·);rw[Array.toList_range];exact List.pairwise_lt_range
theorem Ext.lay (e:Ext bt t)(es:Array (Int×Value))(h:Int)(x:Value):Ext bt (layNew t es h x).2.1:=by
 unfold layNew
 split
 ·rename_i j b q;dsimp only;have p:=e.put (e.free q);unfold SetTable.orStandIn
  split
  ·exact p
  ·exact p.stand _
 ·exact e.stand _
theorem Ext.relay (e:Ext bt t)(es:Array (Int×Value))(n:Nat):Ext bt (relayAll t es n).2.1:=by
 unfold relayAll
 split
 ·rename_i t' o q;dsimp only
  split
  ·unfold SetTable.relaid SetTable.laid at q;rw[Option.bind_eq_bind,Option.bind_eq_some_iff]at q;obtain⟨ow,-,q⟩:=q;cases q;refine⟨e.led,rfl,?_⟩;show(List.map _ _).Pairwise _;rw[List.pairwise_map];refine List.Pairwise.filterMap _ (fun a b hab c hc d hd=>?_) (List.pairwise_lt_range (n:=_));obtain⟨u,-,rfl⟩:=qbD.mp hc;obtain⟨v,-,rfl⟩:=qbD.mp hd;exact hab
  ·exact e.stand _
 ·exact e.stand _
noncomputable def keyI:Value->Int
 | .int n _=>n
 |_=>0
noncomputable def SW (prog:Program)(w:World)(bt:Bool)(h:Heap)(a:Addr)(vs:List Int):Prop:=
 ∃o es ep t,h.get? a=some o/\o.ExactSet/\o.data= .set es ep t/\ElemsOf (intKind prog w) es.toList/\(es.toList.map fun e=>keyI e.2).Perm vs/\es.size<scanBound/\t.fits es.size=true/\Ext bt t
section
variable {prog:Program} {w:World} {A:Around} {E:Value->Shared->Prop} {s:Shared} {bt:Bool}
theorem is_key {k:Int}(h:(intKind prog w).is k v=true):keyI v=k:=by
 obtain⟨t,rfl⟩:=Value.isInt_shape (show Value.isInt k v=true from h);rfl
theorem zle (h:ElemsOf (intKind prog w) es)(k:Int):(∃e∈es,(intKind prog w).is k e.2=true)↔(es.map fun e=>keyI e.2).any (· ==k)=true:=by
  rw[qcB]
  constructor
  . rintro⟨e,he,q⟩
    exact⟨_,qbY.mpr ⟨e,he,rfl⟩,by rw[is_key q];exact qbU _⟩
  . rintro⟨_,hx,q⟩
    obtain⟨e,he,rfl⟩:=qbY.mp hx;obtain⟨⟨k',q',-⟩,-⟩:=h e he;refine⟨e,he,?_⟩;rw[is_key q',qaP]at q;rw[<-q];exact q'
theorem SW.put {es es':Array (Int×Value)}{ep:Nat}{t t':SetTable}(ho:h.get? a=some o)(hx:o.ExactSet)(hd:o.data= .set es ep t)(he:ElemsOf (intKind prog w) es'.toList)
  (hp:(es'.toList.map fun e=>keyI e.2).Perm vs) (hb:es'.size<scanBound) (hf:t'.fits es'.size=true) (e:Ext bt t'):
  (h.update a (Obj.putSet es' t')).get? a=some {o with data:= .set es' (ep+1) t'}/\SW prog w bt (h.update a (Obj.putSet es' t')) a vs:=by
 have g:(h.update a (Obj.putSet es' t')).get? a=some {o with data:= .set es' (ep+1) t'}:=by
  have z:=qbr (Obj.putSet es' t') ho (by rw[putSet_of es' t' hd];rfl);rwa[putSet_of es' t' hd]at z
 exact⟨g,_,es',ep+1,t',g,hx,rfl,he,hp,hb,hf,e⟩
open PyProof.Rows (step_dedup) in
theorem sadd_int {tk:Tok}(hS:SW prog w bt s.heap a vs)(room:vs.length+1<scanBound)
    (h:∀h' b,Heap.SameBut a s.heap h'->SW prog w bt h' a (step_dedup vs n)->Q b {s with heap:=h'}):wpAny (model prog w) A (setAddHashed a (.int n tk) ((intKind prog w).hash n)) Q E s:=by
  obtain⟨o,es,ep,t,ho,hx,hd,hel,hp,hb,hf,e⟩:=hS;have hk:(intKind prog w).is n (.int n tk)=true:=intKind_is _ _ _ _;have hn:es.size=vs.length:=by have:=hp.length_eq;simpa using this
  have any:(es.toList.map fun e=>keyI e.2).any (· ==n)=vs.any (· ==n):=by
    rw[Bool.eq_iff_iff,qcB,qcB];exact⟨fun⟨x,hx,q⟩=>⟨x,hp.mem_iff.mp hx,q⟩,fun⟨x,hx,q⟩=>⟨x,hp.mem_iff.mpr hx,q⟩⟩
  unfold setAddHashed setAddHashedIn;refine qaC (qaB (qcC ho hd hf ?_));dsimp only;rw[byScan_of rfl hb hel];simp only[↓reduceIte];unfold setAddByScan;refine qaB (qaB (qb3 (qaB (wpAny_setScan_of hk ho hd hf hel ?_))));cases hr:List.findIdx? (fun e=>(intKind prog w).is n e.2) es.toList with
  |some j=>
    dsimp only;obtain⟨hj,q,_⟩:=List.findIdx?_eq_some_iff_getElem.mp hr;have hv:vs.any (· ==n)=true:=by rw[<-any];exact(zle hel n).mp ⟨_,qcD hj,q⟩
    refine qaE (qaE ?_);have:=h s.heap false (Heap.SameBut.refl a s.heap) ⟨o,es,ep,t,ho,hx,hd,hel,by unfold step_dedup;rw[if_pos hv];exact hp,hb,hf,e⟩;exact this
  |none=>
    dsimp only;have hv:¬vs.any (· ==n)=true:=fun z=>by
      rw[<-any]at z;obtain⟨y,hy,q⟩:=(zle hel n).mpr z;have:=List.findIdx?_eq_none_iff.mp hr y hy;rw[q]at this;cases this
    have way:∀(b:Bool) {s₁:Shared} {Q':Unit->Shared->Prop},Q' () s₁->wpAny (model prog w) A (match b with|true=>rule "set.scan.the-table-gave-way"|false=>pure ()) Q' E s₁:=
      fun b s₁ Q' z=>by cases b<;>first|exact qaE z|exact qb3 z
    have p1:=layNew_perm t es ((intKind prog w).hash n) (.int n tk);have f1:=layNew_fits t es ((intKind prog w).hash n) (.int n tk);have x1:=e.lay es ((intKind prog w).hash n) (.int n tk)
    generalize layNew t es ((intKind prog w).hash n) (.int n tk)=L at p1 f1 x1 ⊢
    obtain⟨es1,t1,wd,gv⟩:=L;dsimp only at p1 f1 x1 ⊢;rw[Array.toList_push]at p1;have e1:ElemsOf (intKind prog w) es1.toList:=(hel.push hk rfl).perm p1;have z1:es1.size=es.size+1:=by rw[<-qaz,p1.length_eq,qbc,qaz];rfl
    have b1:es1.size<scanBound:=by rw[z1,hn];exact room
    have k1:(es1.toList.map fun e=>keyI e.2).Perm (step_dedup vs n):=by
      unfold step_dedup;rw[if_neg hv];refine(p1.map _).trans ?_;rw[qb5];exact hp.append_right _
    refine qaB (way _ ?_);have fin:wpAny (model prog w) A (do
        storeSet a es1 t1
        if(!wd&&t1.tooFull)=true then do
            (match(relayAll t1 es1 (SetTable.grown es1.size)).2.2 with|true=>rule "set.scan.the-table-gave-way"|false=>pure ())
            storeSet a (relayAll t1 es1 (SetTable.grown es1.size)).1 (relayAll t1 es1 (SetTable.grown es1.size)).2.1
            pure (some true)
          else pure (some true)) (fun r s'=>wpAny (model prog w) A (match r with|some added=>pure added|none=>setAddHashedIn a (.int n tk) ((intKind prog w).hash n) 99999) Q E s') E s:=by
      refine qaB (wpAny_storeSet_of ho hd ?_ (fits_of_scanBound b1));obtain⟨g1,w1⟩:=SW.put (bt:=bt) ho hx hd e1 k1 b1 f1 x1;have sb:=qcb s.heap a (Obj.putSet es1 t1)
      split
      . have p2:=relayAll_perm t1 es1 (SetTable.grown es1.size)
        have f2:=relayAll_fits t1 es1 (SetTable.grown es1.size);have x2:=x1.relay es1 (SetTable.grown es1.size)
        generalize relayAll t1 es1 (SetTable.grown es1.size)=L2 at p2 f2 x2 ⊢
        obtain⟨es2,t2,gv2⟩:=L2;dsimp only at p2 f2 x2 ⊢;have z2:es2.size=es1.size:=by rw[<-qaz,p2.length_eq,qaz]
        have b2:es2.size<scanBound:=by rw[z2];exact b1
        refine qaB (way _ ?_);refine qaB (wpAny_storeSet_of g1 rfl ?_ (fits_of_scanBound b2));obtain⟨_,w2⟩:=SW.put (bt:=bt) g1 hx rfl (e1.perm p2) ((p2.map _).trans k1) b2 f2 x2;exact qaE (qaE (h _ true (sb.trans (qcb _ a _)) w2))
      . exact qaE (qaE (h _ true sb w1))
    split
    . refine qaB ?_
      rw[hashByValue_scannable 8 (x:= .int n tk) rfl];refine qaE ?_;simp only[plainKind,↓reduceIte];exact fin
    . refine qaB (qaE ?_)
      simp only[↓reduceIte];exact fin
end
end HT
namespace HT
open PySem
open PyProof.Rows (firstMet firstMet_succ firstMet_length_le IntsAre)
section
variable {prog:Program} {w:World} {A:Around} {R:Result->Shared->Prop} {I:Addr} {fp wr:List Addr} {n:Nat} {P:Nat->Value->Prop} {St:Nat->Heap->Prop} {bt:Bool}
theorem SW.at {h h':Heap}{a:Addr}{vs:List Int}(x:SW prog w bt h a vs)(k:∀o,h.get? a=some o->h'.get? a=some o):SW prog w bt h' a vs:=let⟨o,es,ep,t,g,r⟩:=x;⟨o,es,ep,t,k _ g,r⟩
theorem zlO (W:Walks prog w A.in1 I fp wr n P St)(S:Addr)(hS:S∉fp)(val:Nat->Int)(hv:∀i v,P i v->∃t,v= .int (val i) t)(hb:n+1<scanBound):
  ∀(k i:Nat) (s:Shared),n-i=k->i<=n->St i s.heap->SW prog w bt s.heap S (firstMet val i)->
   (∀h' tk,(∀b o,b∉S::wr->s.heap.get? b=some o->h'.get? b=some o)->SW prog w bt h' S (firstMet val n)->R (.ok (.ret .none)) {s with heap:=h',toks:=tk})->
   codeAny (model prog w) A (.builtin "set.update.loop" ⟨[.ref S,.ref I],[]⟩) R s:=by
 have hw:S∉wr:=fun h=>hS (W.sub _ h)
 intro k
 induction k with
 |zero=>
  intro i s hk hi st sw hR;have:i=n:=by lia
  subst this;refine qcj qcE ?_;rw[qcy qcF _];show wpAny _ A.in1 (pyNext (.ref I)>>=_) _ _ s;refine qaB (W.done s _ _ st fun h' tk kp=>?_);exact qaE (hR h' tk (fun b o hb e=>kp b o (fun z=>hb (qap _ z)) e) (sw.at fun o e=>kp S o hw e))
 |succ k ih=>
  intro i s hk hi st sw hR;have lt:i<n:=by lia
  refine qcj qcE ?_;rw[qcy qcF _];show wpAny _ A.in1 (pyNext (.ref I)>>=_) _ _ s;refine qaB (W.item i s _ _ lt st fun v h' tk pv st' kp=>?_);obtain⟨t,rfl⟩:=hv i v pv;have sw':SW prog w bt h' S (firstMet val i):=sw.at fun o e=>kp S o hw e
  show wpAny _ A.in1 (holding [Value.int (val i) t] (setAdd S (.int (val i) t))>>=_) _ _ _;refine qaB (qaC ?_);unfold setAdd;refine qaC (qaB ((intKind prog w).pyHash (k:=val i) (intKind_is _ _ _ _) ?_));refine sadd_int (bt:=bt) (vs:=firstMet val i) sw' (by have:=firstMet_length_le val i;lia) fun h2 b sb sw2=>?_
  refine qaE ⟨qcx qcF _,ih (i+1) _ (by lia) lt (W.frame _ _ _ st' fun b hb o e=>?_) (by rw[firstMet_succ];exact sw2) fun h3 tk3 kp3 sw3=>?_⟩
  ·rw[sb.2 b (fun z:b=S=>hS (z ▸ hb))];exact e
  ·refine hR h3 tk3 (fun b o hb e=>kp3 b o hb ?_) sw3;show h2.get? b=some o;rw[sb.2 b (fun z:b=S=>hb (z ▸ qao))];exact kp b o (fun z=>hb (qap _ z)) e
end
section
variable {prog:Program} {w:World} {A:Around} {E:Value->Shared->Prop} {s:Shared}
theorem set_new (a:Value){Q₁:Value->Shared->Prop}
  (h:Q₁ (.ref s.heap.objs.size) {s with heap:=s.heap.push {cls:= .type "set",dict:=none,data:= .set #[] 0 (.fresh 0 0 !(w.params.followText "set-order"))}}):
  codeAny (model prog w) A (.call (.builtin "set.__new__") ⟨[.type "set",a],[]⟩) (wants Q₁ E) s:=by
 refine codeAny_of_tree ?_;show wpAny _ A.in1 (do checkBuiltinCall "set.__new__" ⟨[.type "set",a],[]⟩;again (.builtin "set.__new__" ⟨[.type "set",a],[]⟩)) _ _ s;refine qaB (wpAny_of_eq (F.newCall_set_1 a) (qaE ⟨qcx F.plain_set_new _,qcj F.entry_set_new ?_⟩));rw[qcy F.plain_set_new _];unfold Builtin.«set.__new__» Builtin.Frozenset.newClass;have hsub:=sub_set_self;obtain⟨hp,g,d,tk,os⟩:=s;dsimp only
 wp_walk
 refine qcG (qaE ?_);dsimp only;simp only[newObj];exact qaB (wpAny_alloc (qaE (qaE h)))
noncomputable def Made (prog:Program)(w:World)(s:Shared)(vs:List Int)(r:Value)(s2:Shared):Prop:=r= .none/\∃h' tk,s2={s with heap:=h',toks:=tk}/\SW prog w (w.params.followText "set-order") h' s.heap.objs.size vs/\(∀b o,b<s.heap.objs.size->s.heap.get? b=some o->h'.get? b=some o)
noncomputable def Inits (prog:Program)(w:World)(A:Around)(E:Value->Shared->Prop)(s:Shared)(l:Addr)(vs:List Int):Prop:=∀led:Bool,(!(w.params.followText "set-order"))=led->
 wpAny (model prog w) A.in1.in1 (Builtin.«set.__init__» ⟨[.ref s.heap.objs.size,.ref l],[]⟩) (fun fin s'=>match fin with| .done f=>wants (Made prog w s vs) E (.ok f) s'| .again c'=>c'.quiet=true/\codeAny (model prog w) A.in1 c' (wants (Made prog w s vs) E) s')
  (fun e s'=>wants (Made prog w s vs) E (.error e) s') {s with heap:=s.heap.push {cls:= .type "set",dict:=none,data:= .set #[] 0 (.fresh 0 0 led)}}
set_option maxHeartbeats 4000000 in
theorem zpk {l:Addr}{items:Array Value}{ns:List Int}(hh:A.handled=none)(hl:s.heap.IsList l items)(hi:IntsAre items.toList ns)(hb:items.size+1<scanBound):Inits prog w A E s l (firstMet (fun i=>ns.getD i 0) items.size):=by
 intro led hle;have hS:(s.heap.push {cls:= .type "set",dict:=none,data:= .set #[] 0 (.fresh 0 0 led)}).get? s.heap.objs.size=some {cls:= .type "set",dict:=none,data:= .set #[] 0 (.fresh 0 0 led)}:=qaG _ rfl;have hT:Shared.TypeIs {s with heap:=s.heap.push {cls:= .type "set",dict:=none,data:= .set #[] 0 (.fresh 0 0 led)}} (.ref s.heap.objs.size) "set":=⟨_,hS,rfl⟩;obtain⟨ol,hol,hcl,nl,hdl⟩:=hl;obtain⟨ocls,odict,odata,oslots⟩:=ol;simp only at hcl hdl;subst hcl;subst hdl;have hol':(s.heap.push {cls:= .type "set",dict:=none,data:= .set #[] 0 (.fresh 0 0 led)}).get? l=some {cls:= .type "list",dict:=odict,data:= .seq items nl,slots:=oslots}:=qaF _ hol;have q1:=F.sub_list_set;have q2:=F.sub_list_frozenset;have q3:(Value.type "list"==Value.type "dict")=false:=by decide
 have hl1:(s.heap.push {cls:= .type "set",dict:=none,data:= .set #[] 0 (.fresh 0 0 led)}).IsList l items:=⟨_,hol',rfl,nl,rfl⟩;unfold Builtin.«set.__init__» noKeywords Builtin.Frozenset.updateFrom
 generalize hPI:pyIter=PI
 wp_walk
 subst hPI;refine qbQ hl1 (qaB (wpAny_runValue ?_));have lS:l<s.heap.objs.size:=qae hol;have h3:A.in1.in1.in1.handled=none:=by simp[hh]
 have nI:l≠(s.heap.push {cls:= .type "set",dict:=none,data:= .set #[] 0 (.fresh 0 0 led)}).objs.size:=by
  rw[qaU];exact qah (qbV lS)
 have nf:s.heap.objs.size∉[(s.heap.push {cls:= .type "set",dict:=none,data:= .set #[] 0 (.fresh 0 0 led)}).objs.size,l]:=by
  rw[qaU];intro z;rcases qaq.mp z with z|z
  ·exact absurd z (qah (qaV _))
  ·exact absurd (qcH.mp z) (qaD lS)
 have hval:∀(i:Nat) (v:Value),items[i]? =some v->∃t,v= .int ((fun i=>ns.getD i 0) i) t:=fun i v hv=>
  PyProof.Rows.IntsAre.int_at hi i v (by rw[qbz];exact hv)
 refine zlO (bt:=w.params.followText "set-order") (Walks.list h3 _ l nI items) s.heap.objs.size nf (fun i=>ns.getD i 0) hval hb (items.size-0) 0 _ (by lia) (qaW _)
  ⟨⟨_,qaG _ rfl,rfl,rfl⟩,(hl1.push _)⟩ ?_ ?_
 ·exact⟨_,#[],0,_,qaF _ hS,⟨rfl,rfl,rfl⟩,rfl,fun e he=>by simp at he,qcr _,by decide,rfl,⟨hle.symm,rfl,List.Pairwise.nil⟩⟩
 ·intro h' tk kp sw;refine qaE ?_;show wpAny _ _ (ret Value.none) _ _ _;refine qaE ⟨rfl,h',tk,rfl,sw,fun b o hb e=>kp b o (fun z=>?_) (qaF _ (qaF _ e))⟩;rcases qaq.mp z with z|z
  ·exact absurd z (qah hb)
  ·rw[qcH,qaU]at z;exact absurd z (qah (qbV hb))
set_option maxHeartbeats 4000000 in
theorem znJ {l:Addr}{items:Array Value}{ns:List Int}(hh:A.handled=none)(hl:s.heap.IsTuple l items)(hi:IntsAre items.toList ns)(hb:items.size+1<scanBound):Inits prog w A E s l (firstMet (fun i=>ns.getD i 0) items.size):=by
 intro led hle;have hS:(s.heap.push {cls:= .type "set",dict:=none,data:= .set #[] 0 (.fresh 0 0 led)}).get? s.heap.objs.size=some {cls:= .type "set",dict:=none,data:= .set #[] 0 (.fresh 0 0 led)}:=qaG _ rfl;have hT:Shared.TypeIs {s with heap:=s.heap.push {cls:= .type "set",dict:=none,data:= .set #[] 0 (.fresh 0 0 led)}} (.ref s.heap.objs.size) "set":=⟨_,hS,rfl⟩;obtain⟨ol,hol,hcl,nl,hdl⟩:=hl;obtain⟨ocls,odict,odata,oslots⟩:=ol;simp only at hcl hdl;subst hcl;subst hdl;have hol':(s.heap.push {cls:= .type "set",dict:=none,data:= .set #[] 0 (.fresh 0 0 led)}).get? l=some {cls:= .type "tuple",dict:=odict,data:= .seq items nl,slots:=oslots}:=qaF _ hol;have q1:=F.sub_tuple_set;have q2:=F.sub_tuple_frozenset;have q3:(Value.type "tuple"==Value.type "dict")=false:=by decide
 have hl1:(s.heap.push {cls:= .type "set",dict:=none,data:= .set #[] 0 (.fresh 0 0 led)}).IsTuple l items:=⟨_,hol',rfl,nl,rfl⟩;unfold Builtin.«set.__init__» noKeywords Builtin.Frozenset.updateFrom
 generalize hPI:pyIter=PI
 wp_walk
 subst hPI;refine qbR hl1 (qaB (wpAny_runValue ?_));have lS:l<s.heap.objs.size:=qae hol;have h3:A.in1.in1.in1.handled=none:=by simp[hh]
 have nI:l≠(s.heap.push {cls:= .type "set",dict:=none,data:= .set #[] 0 (.fresh 0 0 led)}).objs.size:=by
  rw[qaU];exact qah (qbV lS)
 have nf:s.heap.objs.size∉[(s.heap.push {cls:= .type "set",dict:=none,data:= .set #[] 0 (.fresh 0 0 led)}).objs.size,l]:=by
  rw[qaU];intro z;rcases qaq.mp z with z|z
  ·exact absurd z (qah (qaV _))
  ·exact absurd (qcH.mp z) (qaD lS)
 have hval:∀(i:Nat) (v:Value),items[i]? =some v->∃t,v= .int ((fun i=>ns.getD i 0) i) t:=fun i v hv=>
  PyProof.Rows.IntsAre.int_at hi i v (by rw[qbz];exact hv)
 refine zlO (bt:=w.params.followText "set-order") (Walks.tuple h3 _ l nI items) s.heap.objs.size nf (fun i=>ns.getD i 0) hval hb (items.size-0) 0 _ (by lia) (qaW _)
  ⟨⟨_,qaG _ rfl,rfl,rfl⟩,(let⟨o,e,r⟩:=hl1;⟨o,qaF _ e,r⟩)⟩ ?_ ?_
 ·exact⟨_,#[],0,_,qaF _ hS,⟨rfl,rfl,rfl⟩,rfl,fun e he=>by simp at he,qcr _,by decide,rfl,⟨hle.symm,rfl,List.Pairwise.nil⟩⟩
 ·intro h' tk kp sw;refine qaE ?_;show wpAny _ _ (ret Value.none) _ _ _;refine qaE ⟨rfl,h',tk,rfl,sw,fun b o hb e=>kp b o (fun z=>?_) (qaF _ (qaF _ e))⟩;rcases qaq.mp z with z|z
  ·exact absurd z (qah hb)
  ·rw[qcH,qaU]at z;exact absurd z (qah (qbV hb))
set_option maxHeartbeats 4000000 in
theorem zot {l:Addr}{vs:List Int}{Q:Value->Shared->Prop}(hinit:Inits prog w A E s l vs)
  (h : ∀ (h' : Heap) (tk : Nat), SW prog w (w.params.followText "set-order") h' s.heap.objs.size vs ->
   (∀b o,b<s.heap.objs.size->s.heap.get? b=some o->h'.get? b=some o)->Q (.ref s.heap.objs.size) {s with heap:=h',toks:=tk}):
  wpAny (model prog w) A (call (.type "set") [.ref l]) Q E s:=by
 obtain⟨c,tl,hmro⟩:=F.called_set.mro;have hmade:=F.called_set.made;have hsub:=F.called_set.sub;refine qaZ (codeAny_of_tree ?_);show wpAny _ _ (callAny (.type "set") _) _ _ _;refine qaE ⟨Code.quiet_builtin _ (by decide+kernel),qcj F.entry_type_call ?_⟩;rw[Around.under_plain (weight_type_call_type "set" [.ref l] []) rfl];have h1:=F.called_set.notType;have h2:=F.called_set.canCreate;have hct:=F.typeCall_set_1 (.ref l)
 repeat (any_goals (first|assumption|wp_step))
 generalize hle:(!(w.params.followText "set-order"))=led
 refine qa0 (set_new (.ref l) (E:=E) (Q₁:=fun obj s₁=>obj= .ref s.heap.objs.size/\s₁={s with heap:=s.heap.push {cls:= .type "set",dict:=none,data:= .set #[] 0 (.fresh 0 0 led)}}) (by rw[hle];exact⟨rfl,rfl⟩)) fun r s₁ hr=>?_
 cases r with
 |error e=>exact hr
 |ok fl0=>
  cases fl0 with
  |ret obj=>
   obtain⟨rfl,rfl⟩:=hr;have hS:(s.heap.push {cls:= .type "set",dict:=none,data:= .set #[] 0 (.fresh 0 0 led)}).get? s.heap.objs.size=some {cls:= .type "set",dict:=none,data:= .set #[] 0 (.fresh 0 0 led)}:=qaG _ rfl;have hT:Shared.TypeIs {s with heap:=s.heap.push {cls:= .type "set",dict:=none,data:= .set #[] 0 (.fresh 0 0 led)}} (.ref s.heap.objs.size) "set":=⟨_,hS,rfl⟩;have hli:=F.called_set.init.lookup;have hbi:=F.called_set.init.bind (.ref s.heap.objs.size)
   repeat (any_goals (first|assumption|wp_step))
   refine qa0 (qci (R:=wants (Made prog w s vs) E) F.called_set.init.plain F.entry_set_init (check_set_init_1 hT ?_)) fun r2 s2 hr2=>?_
   ·exact hinit led hle
   ·cases r2 with
    |error e=>exact hr2
    |ok fl2=>
     cases fl2 with
     |ret r=>
      obtain⟨rfl,h',tk,rfl,sw,kp⟩:=hr2
      repeat (any_goals (first|assumption|wp_step))
      exact h _ _ sw kp
     |_=>exact hr2.elim
  |_=>exact hr.elim
end
end HT
namespace HT
open PySem
theorem zgn {α:Type}:∀{l:List α} {i:Nat} (h:i<l.length),(l[i]::l.eraseIdx i).Perm l
 |_::_,0,_=>qcr _
 |a::l,i+1,h=>by
  have ih:=zgn (l:=l) (i:=i) (by simpa using h);exact(List.Perm.swap ..).trans (ih.cons a)
theorem zoC {α:Type}(nx:Nat->Nat):∀(f k:Nat) (l:List α) (o:Array α),l.length<=f->(pickOrder.go nx f k l o).toList.Perm (o.toList++l)
 |0,k,l,o,h=>by
  have:l=[]:=List.length_eq_zero_iff.mp (by lia);subst this;unfold pickOrder.go;simp
 |f+1,k,l,o,h=>by
  unfold pickOrder.go
  split
  ·rename_i x e;obtain⟨hi,rfl⟩:=qat.mp e;refine(zoC nx f (k+1) _ _ (by rw[List.length_eraseIdx_of_lt hi];lia)).trans ?_;rw[Array.toList_push,List.append_assoc];refine List.Perm.append_left _ ?_;exact zgn hi
  ·rename_i e;have:l=[]:=by
    cases l with
    |nil=>rfl
    |cons a l=>
     rw[qad]at e;have:=Nat.mod_lt (nx k) (show 0<(a::l).length by simp);lia
   subst this;simp
theorem zof {α:Type}(nx:Nat->Nat)(xs:Array α):(pickOrder nx xs).toList.Perm xs.toList:=by
 have:=zoC nx xs.size 0 xs.toList #[] (by simp);simpa[pickOrder]using this
section
variable {prog:Program} {w:World} {A:Around} {E:Value->Shared->Prop} {s:Shared} {S:Addr} {o:Obj} {es:Array (Int×Value)} {ep:Nat} {t:SetTable}
theorem zjw {M:Model}{src:Source}{n:Nat}{Q:Nat->Shared->Prop}(hn:n≠0)(h:Q (M.w.draws src (s.drawn.get src)%n) {s with drawn:=s.drawn.bump src}):wpAny M A (choose src n) Q E s:=fun _ _ _=>⟨hn,h⟩
theorem zh8 {α:Type}:∀(n:Nat) (xs:List α) (s:Shared) (Q:List α->Shared->Prop),xs.length=n->(∀ys d,ys.Perm xs->Q ys {s with drawn:=d})->wpAny (model prog w) A (drawOrder n xs) Q E s
 |0,xs,s,Q,hl,h=>by
  have:xs=[]:=List.length_eq_zero_iff.mp hl;subst this;exact qaE (h [] s.drawn (qcr _))
 |n+1,[],s,Q,hl,h=>by simp at hl
 |n+1,x::xs,s,Q,hl,h=>by
  unfold drawOrder;refine qaB (zjw (by simp) ?_);have lt:(model prog w).w.draws .order (s.drawn.get .order)%(x::xs).length<(x::xs).length:=Nat.mod_lt _ (by simp)
  generalize (model prog w).w.draws .order (s.drawn.get .order)%(x::xs).length=i at lt
  rw[qbN lt];dsimp only;refine qaB (zh8 n _ _ _ (by rw[List.length_eraseIdx_of_lt lt];simpa using hl) fun ys d p=>?_);exact qaE (h _ d ((p.cons _).trans (zgn lt)))
theorem zkh {slot i:Nat}{Q:Option (Value×Nat)->Shared->Prop}(ho:s.heap.get? S=some o)(hd:o.data= .set es ep t)(hf:t.fits es.size=true)(bt:w.params.followText "set-order"=true)
  (h:Q (((pickOrder (w.params.setOrder S ep) es)[i]?).map fun e=>(e.2,slot)) s):wpAny (model prog w) A (setNext S slot i ep) Q E s:=by
 unfold setNext;refine qaB (qcC ho hd hf ?_);refine qaB (m:=setsByText) (qaB (qcG (qaE ?_)));dsimp only;rw[show(model prog w).w=w from rfl,bt];simp only[qcu,qbW,↓reduceIte];refine qaB (m:=setWalk S) ?_;unfold setWalk;refine qaB (qcC ho hd hf ?_);refine qaB (m:=setsByText) (qaB (qcG (qaE ?_)));dsimp only;rw[show(model prog w).w=w from rfl,bt];simp only[↓reduceIte];refine qaB (qcG ?_);exact qaE (qaE h)
theorem zlh {slot i ep':Nat}{Q:Option (Value×Nat)->Shared->Prop}(ho:s.heap.get? S=some o)(hd:o.data= .set es ep t)(hf:t.fits es.size=true)(bt:w.params.followText "set-order"=false)(pl:(!t.plain&&decide (es.size>1))=false)(le:t.led=true)
  (h : Q (match es[SetTable.below t.place slot]?, t.place[SetTable.below t.place slot]? with
  |some (_,x),some j=>some (x,j+1)
  |_,_=>none) s):wpAny (model prog w) A (setNext S slot i ep') Q E s:=by
 unfold setNext;refine qaB (qcC ho hd hf ?_);refine qaB (m:=setsByText) (qaB (qcG (qaE ?_)));dsimp only;rw[show(model prog w).w=w from rfl,bt];simp only[qbW,↓reduceIte];show wpAny _ _ (if(!t.plain&&decide (es.size>1))=true then _ else _) _ _ _;rw[pl];simp only[qbW,↓reduceIte];show wpAny _ _ ((if(!t.led&&!es.isEmpty)=true then unsupported "set:maker-not-led" else pure ())>>=_) _ _ _;rw[le];simp only[Bool.not_true,Bool.false_and,qbW,↓reduceIte];exact qaB (qaE (qaE h))
theorem zmM {p:Nat}{Q:Value->Shared->Prop}(ho:s.heap.get? S=some o)(hd:o.data= .set es ep t)(hf:t.fits es.size=true)(hp:p<es.size)(h:Q es[p].2 s):wpAny (model prog w) A (setNextDrawn S p ep) Q E s:=by
 unfold setNextDrawn;refine qaB (qcC ho hd hf ?_);dsimp only;simp only[qcu,qbW,↓reduceIte];rw[qcI hp];exact qaE h
end
theorem si_slot:Slot "set_iterator" "__next__" "set_iterator.__next__":=
 .of (owner:="set_iterator") (n:="__next__") (by rw[typeLookup_type,builtinLookup_eq_fast];kernel_rfl) (by decide+kernel) (by decide+kernel) (by decide+kernel) (by first|exact .inl (by decide+kernel)|exact .inr (by decide+kernel)) (by rw[isSubtype_type];kernel_rfl)
theorem zgP:entryFor table "set_iterator.__next__"=some Builtin.«set_iterator.__next__»:=entryFor_of_tree (by kernel_rfl)
theorem zlI:Slot "set_iterator" "__iter__" "set_iterator.__iter__":=
 .of (owner:="set_iterator") (n:="__iter__") (by rw[typeLookup_type,builtinLookup_eq_fast];kernel_rfl) (by decide+kernel) (by decide+kernel) (by decide+kernel) (by first|exact .inl (by decide+kernel)|exact .inr (by decide+kernel)) (by rw[isSubtype_type];kernel_rfl)
theorem zoT:entryFor table "set_iterator.__iter__"=some Builtin.«dict_keyiterator.__iter__»:=entryFor_alias (id':="dict_keyiterator.__iter__") (by kernel_rfl) rfl (by decide+kernel) (by kernel_rfl)
theorem s_entryI:entryFor table "set.__iter__"=some Builtin.«frozenset.__iter__»:=entryFor_alias (id':="frozenset.__iter__") (by kernel_rfl) rfl (by decide+kernel) (by kernel_rfl)
theorem zl8:Manifest.owners.lookup (String.ofList ['r','o','t','a','r','e','t','i','_','t','e','s'].reverse)=some Manifest.sig_set_iterator:=by kernel_rfl
theorem ziI (a:Value):argsOk "set_iterator.__next__" ⟨[a],[]⟩:=by
 unfold argsOk;rw[signature?_of (id:="set_iterator.__next__") (n:=['_','_','t','x','e','n','_','_']) (o:=['r','o','t','a','r','e','t','i','_','t','e','s']) (by kernel_rfl) zl8];kernel_rfl
theorem si_argsI (a:Value):argsOk "set_iterator.__iter__" ⟨[a],[]⟩:=by
 unfold argsOk;rw[signature?_of (id:="set_iterator.__iter__") (n:=['_','_','r','e','t','i','_','_']) (o:=['r','o','t','a','r','e','t','i','_','t','e','s']) (by kernel_rfl) zl8];kernel_rfl
noncomputable def SIt (h:Heap)(I S:Addr)(first:Value)(i n ep:Nat):Prop:=∃o,h.get? I=some o/\o.cls= .type "set_iterator"/\o.data= .fields #[first,.int i 0,.ref S,.int n 0,.int ep 0]
theorem SIt.typeIs {s:Shared}{I S:Addr}{first:Value}{i n ep:Nat}(x:SIt s.heap I S first i n ep):s.TypeIs (.ref I) "set_iterator":=let⟨o,h,c,_⟩:=x;⟨o,h,c⟩
theorem SIt.at {h h':Heap}{I S:Addr}{first:Value}{i n ep:Nat}(x:SIt h I S first i n ep)(e:∀o,h.get? I=some o->h'.get? I=some o):SIt h' I S first i n ep:=let⟨o,ho,r⟩:=x;⟨o,e _ ho,r⟩
section
variable {prog:Program} {w:World} {A:Around} {E:Value->Shared->Prop} {s:Shared} {I S:Addr} {o:Obj} {es:Array (Int×Value)} {ep i:Nat} {t:SetTable} {first:Value}
theorem zlA {h:Heap}{Q:Option Value->Shared->Prop}(hh:A.handled=none)(k:∀h',(∀b u,h.get? b=some u->h'.get? b=some u)->Q none {s with heap:=h'}):
  wpAny (model prog w) A.in1 (newExc (.type "StopIteration") []>>=fun e=>raiseNew (α:=Fin) e) (fun _ _=>False) (fun e s'=>wpAny (model prog w) A (isInstance e (.type "StopIteration")>>=fun b=>if b=true then pure none else throw e) Q E s') {s with heap:=h}:=by
 refine qaB ?_;simp only[newExc,newTuple];refine qaB (qbp ?_ (by size_fits));refine qaB (m:=firstArgMember _ _) (wpAny_of_eq (a:=Value.none) (by first|rfl|(simp only[firstArgMember];rfl)) ?_);refine qbp ?_ (by size_fits);simp only[raiseNew];refine qaB (wpAny_handled ?_);rw[show A.in1.handled=none from hh];refine qaB (qaE (wpAny_throw ?_));refine qaB (wpAny_isInstance (b:=true) (T:="StopIteration") ⟨_,qaG _ rfl,rfl⟩ isSubtype_stop ?_);exact qaE (k _ fun b u e=>qaF _ (qaF _ e))
theorem znS {slot nx:Nat}{x:Value}{Q:Option Value->Shared->Prop}(hit:SIt s.heap I S (.int slot 0) i es.size ep)(ho:s.heap.get? S=some o)(hd:o.data= .set es ep t)(hf:t.fits es.size=true)
  (hx:∀(Q':Option (Value×Nat)->Shared->Prop) (E':Value->Shared->Prop),Q' (some (x,nx)) s->wpAny (model prog w) A.in1 (setNext S slot i ep) Q' E' s)
  (k:∀h',SIt h' I S (.int nx 0) (i+1) es.size ep->Heap.SameBut I s.heap h'->Q (some x) {s with heap:=h'}):wpAny (model prog w) A (pyNext (.ref I)) Q E s:=by
 obtain⟨oi,q1,q2,q3⟩:=id hit;unfold pyNext;refine qaB (qck (qbk (name:=Str.ofString "__next__") hit.typeIs si_slot (qbm si_slot hit.typeIs zgP ?_ (ziI _))));unfold Builtin.«set_iterator.__next__»;refine qaB (m:=slotArgs "__next__" 0 _) (qaE ?_);refine qaB (qcJ q1 q3 ?_);dsimp only;refine qaB (qcK ho hd hf ?_);simp only[qcu,qbW,qbi,qbh];refine qaB (hx _ _ ?_);dsimp only;refine qaB (qca q1 q3 (by simp) ?_);have g1:=qbr (Obj.mapFields (·.setIfInBounds 0 (rawInt (nx:Int)))) q1 (qcc (qb9 q3 _));have d1:=qb9 q3 (·.setIfInBounds 0 (rawInt (nx:Int)));refine qaB (qca g1 d1 (by simp) ?_);have g2:=qbr (Obj.mapFields (·.setIfInBounds 1 (rawInt ((i:Int)+1)))) g1 (qcc (qb9 d1 _));exact qaE ⟨_,rfl,qaE (k _ ⟨_,g2,(qb8 ..).trans ((qb8 ..).trans q2),by rw[qb9 d1];simp[rawInt]⟩ ((qcb ..).trans (qcb ..)))⟩
theorem si_end {slot:Nat}{Q:Option Value->Shared->Prop}(hh:A.handled=none)(hit:SIt s.heap I S (.int slot 0) i es.size ep)(ho:s.heap.get? S=some o)(hd:o.data= .set es ep t)(hf:t.fits es.size=true)
  (hx:∀(Q':Option (Value×Nat)->Shared->Prop) (E':Value->Shared->Prop),Q' none s->wpAny (model prog w) A.in1 (setNext S slot i ep) Q' E' s)
  (k:∀h',(∀b u,b≠I->s.heap.get? b=some u->h'.get? b=some u)->Q none {s with heap:=h'}):wpAny (model prog w) A (pyNext (.ref I)) Q E s:=by
 obtain⟨oi,q1,q2,q3⟩:=id hit;unfold pyNext;refine qaB (qck (qbk (name:=Str.ofString "__next__") hit.typeIs si_slot (qbm si_slot hit.typeIs zgP ?_ (ziI _))));unfold Builtin.«set_iterator.__next__»;refine qaB (m:=slotArgs "__next__" 0 _) (qaE ?_);refine qaB (qcJ q1 q3 ?_);dsimp only;refine qaB (qcK ho hd hf ?_);simp only[qcu,qbW,qbi,qbh];refine qaB (hx _ _ ?_);dsimp only;refine qaB (qca q1 q3 (by simp) ?_);refine qaw (zlA (Q:=Q) (E:=E) hh fun h' kp=>k h' fun b u z e=>kp b u ((qbs _ _ (Ne.symm z)).trans e)) (fun _ _ z=>z.elim) (fun _ _ z=>z)
theorem sd_item {T:Addr}{ps:List Nat}{p:Nat}{Q:Option Value->Shared->Prop}(hit:SIt s.heap I S (.ref T) i es.size ep)(hT:s.heap.IsTuple T (ps.map fun(p:Nat)=>Value.int p 0).toArray)(ho:s.heap.get? S=some o)(hd:o.data= .set es ep t)(hf:t.fits es.size=true)
  (hi:ps[i]? =some p) (hp:p<es.size) (k:∀h',SIt h' I S (.ref T) (i+1) es.size ep->Heap.SameBut I s.heap h'->Q (some es[p].2) {s with heap:=h'}):wpAny (model prog w) A (pyNext (.ref I)) Q E s:=by
 obtain⟨oi,q1,q2,q3⟩:=id hit;obtain⟨oT,t1,t2,n,t3⟩:=hT;unfold pyNext;refine qaB (qck (qbk (name:=Str.ofString "__next__") hit.typeIs si_slot (qbm si_slot hit.typeIs zgP ?_ (ziI _))));unfold Builtin.«set_iterator.__next__»;refine qaB (m:=slotArgs "__next__" 0 _) (qaE ?_);refine qaB (qcJ q1 q3 ?_);dsimp only;refine qaB (qcK ho hd hf ?_);simp only[qcu,qbW,qbi,qbh];unfold seqItems?;dsimp only;refine qaB (qaB (wpAny_load t1 ?_));rw[t3];refine qaE ?_;dsimp only;have e:(ps.map fun(p:Nat)=>Value.int p 0).toArray[i]? =some (.int p 0):=by simp[hi]
 rw[e];dsimp only;refine qaB (zmM ho hd hf (by simpa using hp) ?_);refine qaB (qca q1 q3 (by simp) ?_);have g1:=qbr (Obj.mapFields (·.setIfInBounds 1 (rawInt ((i:Int)+1)))) q1 (qcc (qb9 q3 _));exact qaE ⟨_,rfl,qaE (k _ ⟨_,g1,(qb8 ..).trans q2,by rw[qb9 q3];simp[rawInt]⟩ (qcb ..))⟩
theorem sd_end {T:Addr}{ps:List Nat}{Q:Option Value->Shared->Prop}(hh:A.handled=none)(hit:SIt s.heap I S (.ref T) i es.size ep)(hT:s.heap.IsTuple T (ps.map fun(p:Nat)=>Value.int p 0).toArray)(ho:s.heap.get? S=some o)(hd:o.data= .set es ep t)(hf:t.fits es.size=true)
  (hi:ps.length<=i) (k:∀h',(∀b u,b≠I->s.heap.get? b=some u->h'.get? b=some u)->Q none {s with heap:=h'}):wpAny (model prog w) A (pyNext (.ref I)) Q E s:=by
 obtain⟨oi,q1,q2,q3⟩:=id hit;obtain⟨oT,t1,t2,n,t3⟩:=hT;unfold pyNext;refine qaB (qck (qbk (name:=Str.ofString "__next__") hit.typeIs si_slot (qbm si_slot hit.typeIs zgP ?_ (ziI _))));unfold Builtin.«set_iterator.__next__»;refine qaB (m:=slotArgs "__next__" 0 _) (qaE ?_);refine qaB (qcJ q1 q3 ?_);dsimp only;refine qaB (qcK ho hd hf ?_);simp only[qcu,qbW,qbi,qbh];unfold seqItems?;dsimp only;refine qaB (qaB (wpAny_load t1 ?_));rw[t3];refine qaE ?_;dsimp only;have e:(ps.map fun(p:Nat)=>Value.int p 0).toArray[i]? =none:=by simp[hi]
 rw[e];dsimp only;refine qaB (qca q1 q3 (by simp) ?_);have g1:=qbr (Obj.mapFields (·.setIfInBounds 0 (rawInt 0))) q1 (qcc (qb9 q3 _));refine qaB (qca g1 (qb9 q3 _) (by simp) ?_);refine qaw (zlA (Q:=Q) (E:=E) hh fun h' kp=>k h' fun b u z e=>kp b u ((qbs _ _ (Ne.symm z)).trans ((qbs _ _ (Ne.symm z)).trans e))) (fun _ _ z=>z.elim) (fun _ _ z=>z)
theorem zkm {Q:Value->Shared->Prop}{n:Nat}(hit:SIt s.heap I S first i n ep)(h:Q (.ref I) s):wpAny (model prog w) A (pyIter (.ref I)) Q E s:=by
 refine wpAny_pyIter_slot hit.typeIs zlI (qbm zlI hit.typeIs zoT ?_ (si_argsI _));show wpAny _ _ (ret (.ref I)) _ _ s;exact qaE ⟨_,rfl,"set_iterator",_,hit.typeIs,si_slot.lookup,h⟩
end
end HT
namespace HT
open PySem
open PyProof.Rows (IntsAre)
theorem ziw:∀{l:List Value},(∀v∈l,∃n t,v= .int n t)->IntsAre l (l.map keyI)
 |[],_=> .nil
 |v::l,h=>by
  obtain⟨n,t,rfl⟩:=h v qao;exact .cons n t (ziw fun v hv=>h v (qap _ hv))
noncomputable def zcw (t:SetTable):Nat->Nat
 |0=>0
 |i+1=>t.place.getD i 0+1
theorem zh4 {bt:Bool}{t:SetTable}(e:Ext bt t){i:Nat}(hi:i<=t.place.size):SetTable.below t.place (zcw t i)=i:=by
 have b:=zlv (l:=t.place.toList) e.up (zcw t i);rw[show t.place.toList.toArray=t.place by simp]at b;obtain⟨b1,b2,b3⟩:=b;rw[qaz]at b1;have at':∀j,j<t.place.size->t.place.toList[j]? =some (t.place.getD j 0):=fun j hj=>by simp[Array.getD,hj]
 have up:∀a b,a<b->b<t.place.size->t.place.getD a 0<t.place.getD b 0:=fun a b ab hb=>by
  have:=qcz.mp e.up a b (by rw[qaz];lia) (by rw[qaz];lia) ab;simpa[Array.getD,hb,show a<t.place.size by lia]using this
 cases i with
 |zero=>
  by_cases z:SetTable.below t.place (zcw t 0)=0
  ·exact z
  ·have:=b2 0 (by lia) _ (at' 0 (by lia));rw[show zcw t 0=0 from rfl]at this;lia
 |succ i=>
  have h1:i<SetTable.below t.place (zcw t (i+1)):=by
   by_cases z:i<SetTable.below t.place (zcw t (i+1))
   ·exact z
   ·have:=b3 i (by lia) _ (at' i (by lia));rw[show zcw t (i+1)=t.place.getD i 0+1 from rfl]at this;lia
  by_cases z:SetTable.below t.place (zcw t (i+1))=i+1
  ·exact z
  ·have l:=b2 (i+1) (by lia) _ (at' (i+1) (by lia));have u:=up i (i+1) (by lia) (by lia);rw[show zcw t (i+1)=t.place.getD i 0+1 from rfl]at l;lia
section
variable {prog:Program} {w:World} {A:Around} {E:Value->Shared->Prop} {s:Shared} {S I:Addr} {o:Obj} {es:Array (Int×Value)} {ep:Nat} {t:SetTable}
theorem zjB (hf:t.fits es.size=true):t.place.size=es.size:=by
 simp only[SetTable.fits,qbo,qaP]at hf;exact hf.1
theorem zmk (hh:A.handled=none)(hne:S≠I)(hd:o.data= .set es ep t)(hf:t.fits es.size=true)(bt:w.params.followText "set-order"=true):
  Walks prog w A I [I,S] [I] ((pickOrder (w.params.setOrder S ep) es).toList.map (·.2)).length (fun i v=>((pickOrder (w.params.setOrder S ep) es).toList.map (·.2))[i]? =some v) (fun i h=>SIt h I S (.int 0 0) i es.size ep/\h.get? S=some o) where
 sub:=fun b hb=>by simp at hb;simp[hb]
 frame:=fun _ _ _ st hk=>⟨st.1.at fun o e=>hk I (by simp) o e,hk S (by simp) _ st.2⟩
 item:=fun i s Q E hi st hQ=>by
  rw[qaT,qaz]at hi;refine znS (slot:=0) (nx:=0) (x:=((pickOrder (w.params.setOrder S ep) es)[i]).2) st.1 st.2 hd hf (fun Q' E' q=>zkh st.2 hd hf bt (by rw[qcI hi];exact q)) fun h' k sb=>hQ _ h' s.toks (by simp[hi]) ⟨k,sb.extBut S _ hne st.2⟩ fun b o hb e=>sb.extBut b o (fun z=>hb (by simp[z])) e
 done:=fun s Q E st hQ=>si_end (slot:=0) hh st.1 st.2 hd hf (fun Q' E' q=>zkh st.2 hd hf bt (by rw[qaT,qaz,Array.getElem?_eq_none (qaH _)];exact q)) fun h' k=>hQ h' s.toks fun b o hb e=>k b o (fun z=>hb (by simp[z])) e
 self:=fun _ _ _ _ st hQ=>zkm st.1 hQ
theorem zn9 {b0:Bool}(hh:A.handled=none)(hne:S≠I)(hd:o.data= .set es ep t)(hf:t.fits es.size=true)(bt:w.params.followText "set-order"=false)(pl:(!t.plain&&decide (es.size>1))=false)(ex:Ext b0 t)(le:t.led=true):
  Walks prog w A I [I,S] [I] (es.toList.map (·.2)).length (fun i v=>(es.toList.map (·.2))[i]? =some v) (fun i h=>SIt h I S (.int (zcw t i) 0) i es.size ep/\h.get? S=some o) where
 sub:=fun b hb=>by simp at hb;simp[hb]
 frame:=fun _ _ _ st hk=>⟨st.1.at fun o e=>hk I (by simp) o e,hk S (by simp) _ st.2⟩
 item:=fun i s Q E hi st hQ=>by
  rw[qaT,qaz]at hi;have hz:=zjB hf;refine znS (slot:=zcw t i) (nx:=zcw t (i+1)) (x:=es[i].2) st.1 st.2 hd hf (fun Q' E' q=>zlh st.2 hd hf bt pl le (by
   rw[zh4 ex (by lia),qcI hi,qcI (by lia)];have:zcw t (i+1)=t.place[i]+1:=by unfold zcw;simp[Array.getD,show i<t.place.size by lia]
   rw[this]at q;exact q)) fun h' k sb=>hQ _ h' s.toks (by simp[hi]) ⟨k,sb.extBut S _ hne st.2⟩ fun b o hb e=>sb.extBut b o (fun z=>hb (by simp[z])) e
 done:=fun s Q E st hQ=>si_end (slot:=zcw t (es.toList.map (·.2)).length) hh st.1 st.2 hd hf (fun Q' E' q=>zlh st.2 hd hf bt pl le (by
   have hz:=zjB hf;rw[qaT,qaz,zh4 ex (by lia),Array.getElem?_eq_none (qaH _)];exact q)) fun h' k=>hQ h' s.toks fun b o hb e=>k b o (fun z=>hb (by simp[z])) e
 self:=fun _ _ _ _ st hQ=>zkm st.1 hQ
theorem zkz {T:Addr}{ps:List Nat}(hh:A.handled=none)(hne:S≠I)(hnt:T≠I)(hd:o.data= .set es ep t)(hf:t.fits es.size=true)(hp:ps.Perm (List.range es.size)):
  Walks prog w A I [I,S,T] [I] (ps.map fun p=>(es.getD p (0,.none)).2).length (fun i v=>(ps.map fun p=>(es.getD p (0,.none)).2)[i]? =some v) (fun i h=>SIt h I S (.ref T) i es.size ep/\h.get? S=some o/\h.IsTuple T (ps.map fun(p:Nat)=>Value.int p 0).toArray) where
 sub:=fun b hb=>by simp at hb;simp[hb]
 frame:=fun _ _ _ st hk=>⟨st.1.at fun o e=>hk I (by simp) o e,hk S (by simp) _ st.2.1,let⟨o,e,r⟩:=st.2.2;⟨o,hk T (by simp) _ e,r⟩⟩
 item:=fun i s Q E hi st hQ=>by
  rw[qaT]at hi;have lt:ps[i]<es.size:=qaj.mp (hp.mem_iff.mp (qcD hi));refine sd_item (ps:=ps) (p:=ps[i]) st.1 st.2.2 st.2.1 hd hf (qbN hi) lt fun h' k sb=>hQ _ h' s.toks (by simp[hi,Array.getD,lt]) ⟨k,sb.extBut S _ hne st.2.1,let⟨o,e,r⟩:=st.2.2;⟨o,sb.extBut T _ hnt e,r⟩⟩ fun b o hb e=>sb.extBut b o (fun z=>hb (by simp[z])) e
 done:=fun s Q E st hQ=>sd_end (ps:=ps) hh st.1 st.2.2 st.2.1 hd hf (by rw[qaT];exact qaH _) fun h' k=>hQ h' s.toks fun b o hb e=>k b o (fun z=>hb (by simp[z])) e
 self:=fun _ _ _ _ st hQ=>zkm st.1 hQ
theorem zmV {l:List (Int×Value)}(h:ElemsOf (intKind prog w) l):∀v∈l.map (·.2),∃n t,v= .int n t:=fun v hv=>by
 obtain⟨e,he,rfl⟩:=qbY.mp hv;obtain⟨⟨k,q,-⟩,-⟩:=h e he;obtain⟨t,e⟩:=Value.isInt_shape (show Value.isInt k e.2=true from q);exact⟨k,t,e⟩
noncomputable def OrdOf (vs:List Int)(ord:List Value):Prop:=∃ns,IntsAre ord ns/\ns.Perm vs
theorem znG {vs:List Int}{l:List (Int×Value)}(h:ElemsOf (intKind prog w) l)(hp:(l.map fun e=>keyI e.2).Perm vs){ord:List Value}(ho:ord.Perm (l.map (·.2))):OrdOf vs ord:=
 ⟨ord.map keyI,ziw fun v hv=>zmV h v (ho.mem_iff.mp hv),((ho.map keyI).trans (by rw[qb6];exact qcr _)).trans hp⟩
theorem drawn_is {Q:Bool->Shared->Prop}(ho:s.heap.get? S=some o)(hd:o.data= .set es ep t)(hf:t.fits es.size=true)(h:Q (!(w.params.followText "set-order")&&(!t.plain&&decide (es.size>1))) s):wpAny (model prog w) A (setDrawn S) Q E s:=by
 unfold setDrawn;refine qaB (qcC ho hd hf ?_);exact qaB (m:=setsByText) (qaB (qcG (qaE (qaE h))))
theorem znF {L:Addr}{vs:List Int}(hh:A.handled=none)(sw:SW prog w (w.params.followText "set-order") s.heap S vs)(hL:L≠S)(lL:L<s.heap.objs.size):Iters prog w A S L (OrdOf vs) s:=by
 obtain⟨o,es,ep,t,ho,hx,hd,hel,hp,hb,hf,ex⟩:=sw;have lS:=qae ho;have b24:es.size<=2^24:=by have:scanBound=4096:=rfl;lia
 intro Q E k;have hT:s.TypeIs (.ref S) "set":=⟨o,ho,hx.1⟩;refine wpAny_pyIter_slot hT F.slot_set_iter (qbm F.slot_set_iter hT s_entryI ?_ (F.args_set_iter_1 _));unfold Builtin.«frozenset.__iter__» Builtin.Frozenset.slot0 slotArgs;simp only[List.isEmpty_nil,Bool.not_true,qbW,↓reduceIte,bind_assoc,qbC,qcu];unfold Builtin.Frozenset.addrOf Builtin.Frozenset.sizeOf;refine qaB (qaE ?_)
 try dsimp only
 refine qaB (qaE ?_);refine qaB (qaB (qcK ho hd hf (qaE ?_)));refine qaB (drawn_is ho hd hf ?_);have two:∀(h0:Heap),h0.objs.size=s.heap.objs.size->L∉[s.heap.objs.size,S]:=fun h0 _ z=>by
  rcases qaq.mp z with z|z
  ·exact absurd z (qah lL)
  ·exact hL (qcH.mp z)
 by_cases c:(!w.params.followText "set-order"&&(!t.plain&&decide (es.size>1)))=true
 ·rw[if_pos c];refine qaB (zh8 _ _ _ _ (qb4 ..) fun ps dr pp=>?_);have pl:ps.length=es.size:=by rw[pp.length_eq,qb4]
  refine qaB (wpAny_newTuple ?_ (by rw[qaT,pl,qaM];lia));have g1:=qaF (PyProof.Rows.seqObj "tuple" (ps.map fun(i:Nat)=>rawInt i).toArray 0) ho;refine qaB (wpAny_setEpoch_of g1 hd hf ?_);refine qaB (qbp (qaE ⟨_,rfl,"set_iterator",_,⟨_,qaG _ rfl,rfl⟩,si_slot.lookup,?_⟩));have sz:(s.heap.push (PyProof.Rows.seqObj "tuple" (ps.map fun(i:Nat)=>rawInt i).toArray 0)).objs.size=s.heap.objs.size+1:=PyProof.Rows.size_push' ..;refine k _ [_,S,s.heap.objs.size] [_] _ (ps.map fun p=>(es.getD p (0,.none)).2) _ dr (zkz (T:=s.heap.objs.size) (I:=(s.heap.push (PyProof.Rows.seqObj "tuple" (ps.map fun(i:Nat)=>rawInt i).toArray 0)).objs.size) hh (by rw[sz];exact qah (qbV lS)) (by rw[sz];exact qah (qaV _)) hd hf pp) (fun b hb=>by rw[qcH.mp hb,sz];exact Nat.le_succ _) (fun z=>?_) (fun b u e=>qaF _ (qaF _ e))
   ⟨⟨_,qaG _ rfl,rfl,by simp[rawInt]⟩,qaF _ g1,⟨_,qaF _ (qaG _ rfl),rfl,0,by simp[PyProof.Rows.seqObj,rawInt]⟩⟩ (znG hel hp ?_) (by rw[qaT,pl];exact b24)
  ·rw[sz]at z;rcases qaq.mp z with z|z
   ·exact absurd z (qah (qbV lL))
   ·rcases qaq.mp z with z|z
    ·exact hL z
    ·exact absurd (qcH.mp z) (qah lL)
  ·refine(pp.map _).trans ?_;have:(List.range es.size).map (fun p=>(es.getD p (0,.none)).2)=es.toList.map (·.2):=by
    refine qcw fun i=>?_
    by_cases hi:i<es.size
    ·simp[hi,Array.getD]
    ·simp[hi]
   rw[this]
 ·rw[if_neg c];refine qaB (qaE ?_);refine qaB (wpAny_setEpoch_of ho hd hf ?_);refine qaB (qbp (qaE ⟨_,rfl,"set_iterator",_,⟨_,qaG _ rfl,rfl⟩,si_slot.lookup,?_⟩))
  by_cases bt:w.params.followText "set-order"=true
  ·have pp:=zof (w.params.setOrder S ep) es;exact k _ [_,S] [_] _ _ _ s.drawn (zmk hh (qah lS) hd hf bt) (fun b hb=>by rw[qcH.mp hb];exact qaH _) (two s.heap rfl) (fun b u e=>qaF _ e) ⟨⟨_,qaG _ rfl,rfl,by simp[rawInt]⟩,qaF _ ho⟩ (znG hel hp (pp.map _)) (by rw[qaT,pp.length_eq,qaz];exact b24)
  ·have bt:w.params.followText "set-order"=false:=by simpa using bt
   rw[bt]at c;have le:t.led=true:=by rw[ex.led,bt];rfl
   exact k _ [_,S] [_] _ _ _ s.drawn (zn9 hh (qah lS) hd hf bt (by simpa using c) ex le) (fun b hb=>by rw[qcH.mp hb];exact qaH _) (two s.heap rfl) (fun b u e=>qaF _ e) ⟨⟨_,qaG _ rfl,rfl,by simp[rawInt,zcw]⟩,qaF _ ho⟩ (znG hel hp (qcr _)) (by rw[qaT,qaz];exact b24)
end
end HT
namespace HT
open PySem
open PyProof.Rows (IntsAre step_dedup firstMet)
section
variable {prog:Program} {w:World} {A:Around} {E:Value->Shared->Prop} {s:Shared}
theorem hint_set {d:Addr}{Q:Bool->Shared->Prop}(hT:s.TypeIs (.ref d) "set")(h:Q false s):wpAny (model prog w) A (Builtin.List.listLengthHint (.ref d)) Q E s:=by
 unfold Builtin.List.listLengthHint;refine qaB (wpAny_specialOf hT F.slot_set_len.lookup ?_)
 generalize hz:("set.__len__":String)=z
 wp_delta
 rw[show splitId z=some ("set","__len__")from by subst hz;decide+kernel];subst hz;refine qaB (wpAny_isInstance (T:="set") (b:=true) hT (by rw[isSubtype_type];kernel_rfl) ?_);refine wpAny_ite_split (fun u=>absurd u (by decide)) (fun _=>?_);refine wpAny_ite_split (fun _=>?_) (fun u=>absurd (by decide+kernel) u);exact qaB (qbn hT (qaE h))
theorem zoG {S:Addr}{vs:List Int}(hh:A.handled=none)(sw:SW prog w (w.params.followText "set-order") s.heap S vs):Gives prog w A S (OrdOf vs) s:=by
 obtain⟨o,es,ep,t,ho,hx,r⟩:=id sw;refine zmm (T:="set") ⟨o,ho,hx.1⟩ (by decide) (by decide) ?_ fun s' Q E hT q=>hint_set hT q
 refine znF (show A.in1.handled=none from hh) (sw.at fun o e=>qaF _ e) (qaD (qae ho)) ?_;rw[PyProof.Rows.size_push'];exact qaV _
end
noncomputable def insI (x:Int):List Int->List Int
 |[]=>[x]
 |y::l=>if x<y then x::y::l else if x=y then y::l else y::insI x l
noncomputable def usrt (ns:List Int):List Int:=ns.foldr insI []
theorem mem_insI {x z:Int}:∀{l:List Int},z∈insI x l↔z=x\/z∈l
 |[]=>by simp[insI]
 |y::l=>by
  unfold insI
  split
  ·simp
  ·split
   ·rename_i e;subst e;simp
   ·rw[qaq,mem_insI,qaq];grind
theorem znV {x:Int}:∀{l:List Int},l.Pairwise (· < ·)->(insI x l).Pairwise (· < ·)
  |[],_=>by simp[insI]
  |y::l,h=>by
    have h':=qcA.mp h;unfold insI
    split
    . rename_i c
      refine qcA.mpr ⟨fun z hz=>?_,h⟩;rcases qaq.mp hz with rfl|hz
      . exact c
      . have:=h'.1 z hz;lia
    . split
      . exact h
      . refine qcA.mpr ⟨fun z hz=>?_,znV h'.2⟩
        rcases mem_insI.mp hz with rfl|hz
        . lia
        . exact h'.1 z hz
theorem zfD {z:Int}:∀{ns:List Int},z∈usrt ns↔z∈ns
 |[]=>by simp[usrt]
 |n::ns=>by
  show z∈insI n (usrt ns)↔_;rw[mem_insI,zfD,qaq]
theorem zhR:∀ns:List Int,(usrt ns).Pairwise (· < ·)
  |[]=>List.Pairwise.nil
  |n::ns=>znV (zhR ns)
theorem eq_up:∀{l m:List Int},l.Pairwise (· < ·)->m.Pairwise (· < ·)->(∀z,z∈l↔z∈m)->l=m
  |[],[],_,_,_=>rfl
  |[],y::m,_,_,h=>absurd ((h y).mpr qao) qce
  |x::l,[],_,_,h=>absurd ((h x).mp qao) qce
  |x::l,y::m,hl,hm,h=>by
    have a:=qcA.mp hl;have b:=qcA.mp hm;have e:x=y:=by
      have h1:=qaq.mp ((h x).mp qao);have h2:=qaq.mp ((h y).mpr qao);rcases h1 with z|z
      . exact z
      . rcases h2 with y'|y'
        . exact y'.symm
        . have:=a.1 y y';have:=b.1 x z;lia
    subst e;congr 1;refine eq_up a.2 b.2 fun z=>?_
    have hz:=h z;rw[qaq,qaq]at hz
    constructor
    . intro q
      have:=a.1 z q;rcases hz.mp (.inr q)with e|e
      . lia
      . exact e
    . intro q
      have:=b.1 z q;rcases hz.mpr (.inr q)with e|e
      . lia
      . exact e
theorem zfc:∀(l acc:List Int),acc.Nodup->(l.foldl step_dedup acc).Nodup
 |[],acc,h=>h
 |x::l,acc,h=>by
  refine zfc l _ ?_;unfold step_dedup
  split
  ·exact h
  ·rename_i c;rw[List.nodup_append];refine⟨h,by simp,fun a ha b hb e=>c ?_⟩;rw[qcH.mp hb]at e;subst e;exact qcB.mpr ⟨a,ha,qbU _⟩
end HT
namespace M
open L2 PySem PySem.Spec
open PyProof.Rows hiding St
noncomputable def swO (P:Program)(w:World)(a:Addr)(vs:List Int):HO:= .ext fun h=>HT.SW P w (w.params.followText "set-order") h a vs
theorem swO_ok {P:Program}{w:World}{H:Hp}{h:Heap}{a:Addr}{vs:List Int}(x:HT.SW P w (w.params.followText "set-order") h a vs):ObjOk P w H h a (swO P w a vs):=
 ⟨x,let⟨o,_,_,_,e,_⟩:=x;⟨o,e⟩,fun _ _ z k=>z.at k⟩
noncomputable def rSet (X:Cx):List V->Hp->VK->Prop:=fun xs H Q=>∃(l:Addr) (ns:List Int),xs=[.ref l]/\(SqL X.K H l (ns.map V.int)\/SqT X.K H l (ns.map V.int))/\ns.length<4095/\∀p,H p=none->Q (.ref p) (upd H p (swO X.prog X.w p (ns.foldl step_dedup [])))
theorem zhE (ns:List Int):firstMet (fun i=>ns.getD i 0) ns.length=ns.foldl step_dedup []:=by
 unfold firstMet;congr 1;refine qcw fun i=>?_
 by_cases h:i<ns.length
 ·simp[h]
 ·simp[h]
theorem zng {X:Cx}(hc:X.calm=true):zeV X (.type "set") (rSet X):=by
 intro pins s σ H xs us Q I r h;obtain⟨l,ns,rfl,hq,hl,q⟩:=h;obtain⟨u,rfl,rx⟩:=zhZ r;cases rx;have ini:HT.Inits X.prog X.w X.A X.xe s l (ns.foldl step_dedup []):=by
  have sb:scanBound=4096:=rfl;rcases hq with hq|hq
  ·obtain⟨its,r',pl,hz⟩:=I.list hq;have hi:=zdD r';have:=HT.zpk (prog:=X.prog) (w:=X.w) (E:=X.xe) (I.ok.hd hc) pl.isList (ns:=ns) (by simpa using hi) (by rw[qaN,hi.length];lia);rwa[qaN,hi.length,zhE]at this
  ·obtain⟨its,r',pl,hz⟩:=I.tuple hq;have hi:=zdD r';have:=HT.znJ (prog:=X.prog) (w:=X.w) (E:=X.xe) (I.ok.hd hc) pl (ns:=ns) (by simpa using hi) (by rw[qaN,hi.length];lia);rwa[qaN,hi.length,zhE]at this
 refine HT.zot ini fun h' tk sw kp=>?_
 exact⟨.ref s.heap.objs.size,_,I.laid (t':=tk) (o:=swO X.prog X.w s.heap.objs.size (ns.foldl step_dedup [])) (fun b o e=>kp b o (qae e) e) (qaH _) (swO_ok sw),rfl,q _ (I.hok.fresh (qaH _))⟩
noncomputable def rSrtS (X:Cx):List V->Hp->VK->Prop:=fun xs H Q=>∃(p:Addr) (vs:List Int),xs=[.ref p]/\H p=some (swO X.prog X.w p vs)/\vs.Nodup/\vs.length<64/\∀l,H l=none->Q (.ref l) (upd H l (.lst ((HT.usrt vs).map V.int)))
theorem zdV:∀{vs:List Value} {ns:List Int},IntsAre vs ns->vs.map HT.keyI=ns
 |_,_,.nil=>rfl
 |_,_,.cons n t h=>by rw[qaS,zdV h];rfl
theorem zet:∀{its:List Value} {ns:List Int},IntsAre its ns->Vals (ns.map V.int) its
 |_,_,.nil=> .nil
 |_,_,.cons n t h=> .cons ⟨t,rfl⟩ (zet h)
theorem out_usrt {ord:List Value}{ns vs:List Int}(hi:IntsAre ord ns)(hp:ns.Perm vs)(nd:vs.Nodup):(HT.outA ord (HT.zck (ns.map fun n=>[n]))).map HT.keyI=HT.usrt vs:=by
 have hl:ord.length=ns.length:=hi.length;have o:=HT.zhA (ns.map fun n=>[n]);have pm:=zfI (n:=ord.length) o;have km:(HT.outA ord (HT.zck (ns.map fun n=>[n]))).map HT.keyI=(srt ord.length (HT.zck (ns.map fun n=>[n]))).map fun i=>ns.getD i 0:=by
  unfold HT.outA;rw[qb6];refine qcn fun i hi'=>?_
  have lt:i<ord.length:=qaj.mp (pm.mem_iff.mp hi');rw[<-zdV hi];simp[lt]
 rw[km];have pn:((srt ord.length (HT.zck (ns.map fun n=>[n]))).map fun i=>ns.getD i 0).Perm ns:=by
  refine(pm.map _).trans ?_;rw[hl];have:(List.range ns.length).map (fun i=>ns.getD i 0)=ns:=by
   refine qcw fun i=>?_
   by_cases h:i<ns.length
   ·simp[h]
   ·simp[h]
  rw[this]
 refine HT.eq_up ?_ (HT.zhR vs) fun z=>by rw[(pn.trans hp).mem_iff,HT.zfD]
 have nd2:=(pn.trans hp).nodup_iff.mpr nd;rw[qcz];intro i j hi' hj ij;have ne:=qcz.mp (List.nodup_iff_pairwise_ne.mp nd2) i j hi' hj ij;rw[qaT]at hi' hj;have up:=srt_up o (qam ij) (qbN hi') (qbN hj);rw[qcs,qcs]at ne ⊢;have l1:(srt ord.length (HT.zck (ns.map fun n=>[n])))[i]<ns.length:=by rw[<-hl];exact qaj.mp (pm.mem_iff.mp (qcD _))
 have l2:(srt ord.length (HT.zck (ns.map fun n=>[n])))[j]<ns.length:=by rw[<-hl];exact qaj.mp (pm.mem_iff.mp (qcD _))
 generalize (srt ord.length (HT.zck (ns.map fun n=>[n])))[i]=a at*
 generalize (srt ord.length (HT.zck (ns.map fun n=>[n])))[j]=b at*
 unfold HT.zck at up;rw[HT.zbP (x:=[ns.getD b 0]) (by simp[l2]),HT.zbP (x:=[ns.getD a 0]) (by simp[l1]),HT.zdq]at up
 by_cases z:ns.getD b 0=ns.getD a 0
 ·exact absurd z.symm ne
 ·rw[if_neg z]at up;have:=qcv up;lia
theorem zj5 {X:Cx}(hc:X.calm=true):zeV X (.builtin "sorted") (rSrtS X):=by
 intro pins s σ H xs us Q I r h;obtain⟨p,vs,rfl,hp,nd,h64,q⟩:=h;obtain⟨u,rfl,rx⟩:=zhZ r;cases rx;have sw:HT.SW X.prog X.w (X.w.params.followText "set-order") s.heap p vs:=(show ObjOk X.prog X.w H s.heap p (swO X.prog X.w p vs)from I.hok p _ hp).1;refine HT.sortedW (P:=HT.OrdOf vs) (lt:=fun ord=>HT.zck ((ord.map HT.keyI).map fun n=>[n])) (fun _ _=>HT.zhA _) (HT.zoG (I.ok.hd hc) sw) (fun ord ⟨ns,hi,pn⟩=>by rw[hi.length,pn.length_eq];exact h64) (fun ord ⟨ns,hi,pn⟩ h2 h' tk dr k=>?_) (fun ord h' tk dr l n ⟨ns,hi,pn⟩ k lz gl=>?_)
 ·rw[zdV hi];exact HT.ziu hi h2
 ·rw[zdV hi]at gl;have iu:IntsAre (HT.outA ord (HT.zck (ns.map fun n=>[n]))) (HT.usrt vs):=by
   rw[<-out_usrt hi pn nd];refine HT.ziw fun v hv=>?_
   unfold HT.outA at hv;obtain⟨i,hi',rfl⟩:=qbY.mp hv;have lt:i<ord.length:=qaj.mp ((zfI (HT.zhA _)).mem_iff.mp hi');obtain⟨t,e⟩:=hi.int_at i ord[i] (qbN lt);exact⟨_,t,by rw[HT.zbP (qbN lt)];exact e⟩
  refine⟨.ref l,upd H l (.lst ((HT.usrt vs).map V.int)),(I.laid (t':=tk) k lz ?_).dr,rfl,q _ (I.hok.fresh lz)⟩;refine⟨?_,_,n,zet iu,gl⟩;rw[qaT,<-iu.length,HT.zl3 (HT.zhA _),hi.length,pn.length_eq,qaM];lia
noncomputable def oSrtS (m:ME):MO:=fun ρ=>(m ρ).bind fun p=>match p.1 with
 | .lst ds=>(za5 ds).bind fun ns=>if ns.length<64 then some ((HT.usrt ns).map .int,p.2)else none
 | .tup ds=>(za5 ds).bind fun ns=>if ns.length<64 then some ((HT.usrt ns).map .int,p.2)else none
 |_=>none
theorem ziv (ns:List Int):HT.usrt (ns.foldl step_dedup [])=HT.usrt ns:=HT.eq_up (HT.zhR _) (HT.zhR _) fun z=>by
 rw[HT.zfD,HT.zfD];have:=firstMet_any (fun i=>ns.getD i 0) ns.length z;rw[zhE]at this;have e:(List.range ns.length).map (fun i=>ns.getD i 0)=ns:=by
  refine qcw fun i=>?_
  by_cases h:i<ns.length
  ·simp[h]
  ·simp[h]
 rw[e,Bool.eq_iff_iff,qcB,qcB]at this;simpa using this
theorem zmi {X:Cx}{e:Expr}{m:ME}{p q pos pos':Pos}(hc:X.calm=true)(ml:X.mg "sorted"=none)(ms:X.mg "set"=none)(h:SE X e m)(hg:autoParam (Gl X "sorted") zu3._auto_1)(hg2:autoParam (Gl X "set") zu3._auto_1)
  (he:autoParam (starEach [Expr.Call (.Name "set" q) [e] [] pos'] X.env=(false,eval (.Call (.Name "set" q) [e] [] pos') X.env)::starEach [] X.env) zu3._auto_1) (he2:autoParam (starEach [e] X.env=(false,eval e X.env)::starEach [] X.env) zu3._auto_1) (hpl:autoParam ((backTo pos (starEach [] X.env)).any (·.1)=false) zu3._auto_1) (hpl2:autoParam ((backTo pos' (starEach [] X.env)).any (·.1)=false) zu3._auto_1)
  (hb:autoParam (bootBuiltins "sorted"=some (.builtin "sorted")) zu11._auto_1):SO X (.Call (.Name "sorted" p) [.Call (.Name "set" q) [e] [] pos'] [] pos) (oSrtS m):=by
 obtain⟨t,pe,so⟩:=h;refine⟨_,zdM (zj5 hc) hg ml hb (zaG (zfP (zng hc) hg2 ms boot_set (zaG pe zbX he2) (by decide) (by decide) he2 hpl2) zbX he) (by decide) (by decide) he hpl,fun B G H σ ρ ds ρ' Q I hm k=>?_⟩;obtain⟨⟨d1,ρ1⟩,e1,hm⟩:=zaa hm;refine so B G H σ ρ d1 ρ1 _ I e1 fun G1 H1 v I1 f1 r1=>?_
 match d1,hm with
 | .lst es,hm=>
  obtain⟨ns,e2,hm⟩:=zaa hm
  split at hm
  ·rename_i h64;cases hm;cases zdA e2;obtain⟨a,xs,rfl,ha,rr⟩:=r1;have ex:xs=ns.map V.int:=RepL.ints_eq rr;subst ex;refine⟨a,ns,rfl,.inl (SqL.of (I1.fz _ _ ha)),by lia,fun p hp=>⟨p,_,rfl,zal,HT.zfc _ _ List.nodup_nil,?_,fun l h0=>?_⟩⟩
   ·have:=firstMet_length_le (fun i=>ns.getD i 0) ns.length;rw[zhE]at this;lia
   ·obtain⟨I2,g2,h2,b2,n2⟩:=(I1.allocO hp (swO X.prog X.w p (ns.foldl step_dedup []))).newO h0 ((HT.usrt (ns.foldl step_dedup [])).map V.int);refine k G1 _ l _ I2 f1 g2 h2 ?_ b2 n2;rw[ziv];exact RepL.ints _
  ·cases hm
 | .tup es,hm=>
  obtain⟨ns,e2,hm⟩:=zaa hm
  split at hm
  ·rename_i h64;cases hm;cases zdA e2;obtain⟨a,xs,rfl,ha,rr⟩:=r1;have ex:xs=ns.map V.int:=RepL.ints_eq rr;subst ex;refine⟨a,ns,rfl,.inr (SqT.of (I1.fz _ _ ha)),by lia,fun p hp=>⟨p,_,rfl,zal,HT.zfc _ _ List.nodup_nil,?_,fun l h0=>?_⟩⟩
   ·have:=firstMet_length_le (fun i=>ns.getD i 0) ns.length;rw[zhE]at this;lia
   ·obtain⟨I2,g2,h2,b2,n2⟩:=(I1.allocO hp (swO X.prog X.w p (ns.foldl step_dedup []))).newO h0 ((HT.usrt (ns.foldl step_dedup [])).map V.int);refine k G1 _ l _ I2 f1 g2 h2 ?_ b2 n2;rw[ziv];exact RepL.ints _
  ·cases hm
end M
namespace L2
open PyProof.Rows PySem PySem.Spec
section
variable {X:Cx} {a b c d:Expr} {ta tb tc td:TE} {pos:Pos}
noncomputable def tChain3 (r r' r'':R2)(ta tb tc td:TE):TE:=fun σ H Q=>ta σ H fun x H1=>tb σ H1 fun y H2=>r x y H2 fun z H3=>∃k,z= .bl k/\
 (if k=true then tc σ H3 fun w H4=>r' y w H4 fun z' H5=>∃k',z'= .bl k'/\(if k'=true then td σ H5 fun v H6=>r'' w v H6 Q else Q (.bl false) H5)else Q (.bl false) H3)
theorem zoS {op op' op'':CmpOp}{r r' r'':R2}(ho:OpR X (compareOp op) r)(ho':OpR X (compareOp op') r')(ho'':OpR X (compareOp op'') r'')(ha:PE X a ta)(hb:PE X b tb)(hc:PE X c tc)(hd:PE X d td)
  (hm:autoParam (lastMarks [op,op',op''] [b,c,d]=false) zu5._auto_1):PT X (.Compare a [op,op',op''] [b,c,d] pos) (tTest (tChain3 r r' r'' ta tb tc td)):=by
 intro pins s σ H Q I h;refine isTrue_chain (thn (ha pins s σ H _ I h) fun v s1 ⟨x,H1,I1,r1,q1⟩=>test_link (thn (hb pins s1 σ H1 _ I1 q1) fun u s2 ⟨y,H2,I2,r2,q2⟩=>
  thn (ho pins s2 σ H2 x y v u _ I2 r1 r2 q2) fun _ s3 ⟨z,H3,I3,r3,k,e,q3⟩=>?_)) hm
 subst e;cases r3;refine qay ?_;cases k with
 |false=>
  obtain⟨k',e',q'⟩:=q3;cases e';exact ite_ff ⟨H3,I3,q'⟩
 |true=>
  refine ite_tt (test_link (thn (hc pins s3 σ H3 _ I3 q3) fun w' s4 ⟨z',H4,I4,r4,q4⟩=>thn (ho' pins s4 σ H4 y z' u w' _ I4 r2 r4 q4) fun _ s5 ⟨z2,H5,I5,r5,k2,e2,q5⟩=>?_));subst e2;cases r5;refine qay ?_;cases k2 with
  |false=>
   obtain⟨k',e',q'⟩:=q5;cases e';exact ite_ff ⟨H5,I5,q'⟩
  |true=>
   refine ite_tt (test_last (thn (hd pins s5 σ H5 _ I5 q5) fun w2 s6 ⟨z3,H6,I6,r6,q6⟩=>thn (ho'' pins s6 σ H6 z' z3 w' w2 _ I6 r4 r6 q6) fun _ s7 ⟨z4,H7,I7,r7,k3,e3,q7⟩=>?_));subst e3;cases r7;exact qay ⟨H7,I7,q7⟩
end
end L2
namespace M
open L2 PySem
noncomputable def zhu (f g h:D->D->Option D)(a b c d:ME):ME:=fun ρ=>(a ρ).bind fun p=>(b p.2).bind fun q=>(f p.1 q.1).bind fun t=>match t with
 | .bl true=>(c q.2).bind fun r=>(g q.1 r.1).bind fun t'=>match t' with
  | .bl true=>(d r.2).bind fun s=>(h r.1 s.1).map fun x=>(x,s.2)
  | .bl false=>some (.bl false,r.2)
  |_=>none
 | .bl false=>some (.bl false,q.2)
 |_=>none
section
variable {X:Cx} {a b c d:Expr} {ma mb mc md:ME} {pos:Pos}
theorem zjJ {op op' op'':CmpOp}{r r' r'':R2}{f g h:D->D->Option D}(ho:OpR X (compareOp op) r)(ho':OpR X (compareOp op') r')(ho'':OpR X (compareOp op'') r'')(hv:V2 X r f)(hw:V2 X r' g)(hx:V2 X r'' h)(hB:∀x y d,h x y=some d->∃t,d= .bl t)
  (ha:SE X a ma) (hb:SE X b mb) (hc:SE X c mc) (hd:SE X d md) (hm:autoParam (lastMarks [op,op',op''] [b,c,d]=false) zu5._auto_1):STt X (.Compare a [op,op',op''] [b,c,d] pos) (tTru (zhu f g h ma mb mc md)):=by
 obtain⟨ta,pa,sa⟩:=ha;obtain⟨tb,pb,sb⟩:=hb;obtain⟨tc,pc,sc⟩:=hc;obtain⟨td,pd,sd⟩:=hd;refine⟨_,zoS ho ho' ho'' pa pb pc pd hm,fun B G H σ ρ e ρ' Q I hm k=>?_⟩;obtain⟨⟨x0,ρ0⟩,e1,e2⟩:=zaa hm;obtain⟨t0,e3,e4⟩:=zaf e2;obtain⟨rfl,rfl⟩:=Prod.mk.inj e4;obtain⟨⟨x,ρ1⟩,f1,h1⟩:=zaa e1;obtain⟨⟨y,ρ2⟩,f2,h2⟩:=zaa h1;obtain⟨t,f3,h3⟩:=zaa h2;refine sa B G H σ ρ x ρ1 _ I f1 fun G1 H1 v I1 g1 r1=>sb B G1 H1 σ ρ1 y ρ2 _ I1 f2 fun G2 H2 u I2 g2 r2=>hv B G2 H2 σ ρ2 v u x y t _ I2 (r1.mono g2) r2 f3 fun G3 H3 z I3 g3 r3=>?_
 cases t<;>try cases h3
 rename_i t;refine⟨t,r3,?_⟩;cases t with
 |false=>
  cases h3;cases e3;exact⟨false,rfl,k G3 H3 I3 (g1.trans (g2.trans g3))⟩
 |true=>
  obtain⟨⟨w,ρ3⟩,f4,h4⟩:=zaa h3;obtain⟨t',f5,h5⟩:=zaa h4;refine sc B G3 H3 σ ρ2 w ρ3 _ I3 f4 fun G4 H4 s I4 g4 r4=>hw B G4 H4 σ ρ3 u s y w t' _ I4 (r2.mono (g3.trans g4)) r4 f5 fun G5 H5 z5 I5 g5 r5=>?_
  cases t'<;>try cases h5
  rename_i t';refine⟨t',r5,?_⟩;cases t' with
  |false=>
   cases h5;cases e3;exact⟨false,rfl,k G5 H5 I5 (g1.trans (g2.trans (g3.trans (g4.trans g5))))⟩
  |true=>
   obtain⟨⟨w2,ρ4⟩,f6,h6⟩:=zaa h5;obtain⟨d',f7,f8⟩:=zaf h6;obtain⟨rfl,rfl⟩:=Prod.mk.inj f8;obtain⟨tt,rfl⟩:=hB _ _ _ f7;cases e3;exact sd B G5 H5 σ ρ3 w2 ρ4 _ I5 f6 fun G6 H6 s6 I6 g6 r6=>hx B G6 H6 σ ρ4 s s6 w w2 _ _ I6 (r4.mono (g5.trans g6)) r6 f7 fun G7 H7 z7 I7 g7 r7=>⟨_,r7,k G7 H7 I7 (g1.trans (g2.trans (g3.trans (g4.trans (g5.trans (g6.trans g7))))))⟩
noncomputable def zo9 (ma mb:ME)(mo:MO):MS:=fun ρ=>(ma ρ).bind fun p=>(mb p.2).bind fun q=>(mo q.2).bind fun r=>some (.ret (.tre (.tup [.d p.1,.d q.1,.l r.1])),r.2)
theorem ss_retU3 {e:Expr}{m1 m2:ME}{mo:MO}{nn:Nat}{pos2:Pos}(ha:SE X a m1)(hb:SE X b m2)(ho:SO X e mo)
  (hs:autoParam (starEach [a,b,e] X.env=(false,eval a X.env)::starEach [b,e] X.env) zu3._auto_1) (hs2:autoParam (starEach [b,e] X.env=(false,eval b X.env)::starEach [e] X.env) zu3._auto_1)
  (hs3:autoParam (starEach [e] X.env=(false,eval e X.env)::starEach [] X.env) zu3._auto_1):
  SS X (.Return (some (.Tuple [a,b,e] nn pos2)) pos) (zo9 m1 m2 mo):=by
 obtain⟨ta,pa,sa⟩:=ha;obtain⟨tb,pb,sb⟩:=hb;obtain⟨te,pe,so⟩:=ho;refine⟨_,zir (zlP (zaG pa (zaG pb (zaG pe zbX hs3) hs2) hs)),fun B G H σ ρ fl ρ' E I hm k=>?_⟩;obtain⟨⟨d1,ρ1⟩,e1,hm⟩:=zaa hm;obtain⟨⟨d2,ρ2⟩,e2,hm⟩:=zaa hm;obtain⟨⟨ds,ρ4⟩,e4,hm⟩:=zaa hm;cases hm;refine sa B G H σ ρ d1 ρ1 _ I e1 fun G2 H2 v1 I2 f1 r1=>?_
 refine sb B G2 H2 σ ρ1 d2 ρ2 _ I2 e2 fun G3 H3 v2 I3 f2 r2=>?_
 refine so B G3 H3 σ ρ2 ds ρ4 _ I3 e4 fun G4 H4 l xs I4 f4 g4 h4 r4 b4 _=>?_
 refine⟨by rw[qaM];exact(by decide:(3:Nat)<=16777216),fun p hp=>?_⟩;have lp:l≠p:=zaH h4 hp;refine k G4 _ σ _ (I4.allocO hp _) (f1.trans (f2.trans f4)) ⟨[p,l],⟨p,_,[l],rfl,zal,⟨[],[l],⟨r1.mono (f2.trans f4),rfl⟩,⟨[],[l],⟨r2.mono f4,rfl⟩,⟨[l],[],⟨l,xs,rfl,by rw[zak lp];exact h4,r4,rfl⟩,rfl,rfl⟩,rfl⟩,rfl⟩,rfl⟩,by simpa using lp.symm,fun a m=>?_⟩;rcases qaq.mp m with rfl|m
 ·exact⟨I4.fz.free hp,I4.there a hp⟩
 ·have:a=l:=by simpa using m
  subst this;exact⟨g4,b4⟩
end
noncomputable def oMv (i:Nat):MO:=fun ρ=>match ρ[i]? with
 |some (.own ds)=>some (ds,ρ.set i .emp)
 |_=>none
theorem so_mv {X:Cx}(i:Nat){x:Str}{pos':Pos}(hN:autoParam (X.N[i]? =some x) zu3._auto_1)(hv:autoParam (Vis X.env.scope x) zu6._auto_1)(hd:autoParam ((x==("__debug__":Str))=false) zu1._auto_1)
  (hcd:autoParam ((x==("__classdict__":Str))=false) zu1._auto_1):SO X (.Name x pos') (oMv i):=by
 refine⟨_,zaX hN hv hd hcd,fun B G H σ ρ ds ρ' Q I hm k=>?_⟩;unfold oMv at hm
 split at hm
 ·rename_i ds' e;cases hm;obtain⟨l,xs,h1,h2,h3,h4,h5⟩:=I.slot i _ e;exact⟨.ref l,h1,k G H l xs (I.emp i) (Fz.refl G) h2 h3 h4 h5 (nw_emp I e (by first|exact h1|exact⟨_,h1,rfl⟩|(unfold OwS;exact h1)))⟩
 ·cases hm
end M
namespace M
open L2 PySem PySem.Spec
open PyProof.Rows hiding St
variable {body:List Stmt} {v:V} {d:D} {x:MXG} {c:Expr} {A:List Addr} {t:T} {j i:Nat} {ls:List Nat} {s r:Sl} {N ps:List Str} {m:MS} {K:W.Frag} {B:Bs} {G H G' H':Hp} {vs xs:List V} {f b p C dx l:Addr} {fd:FuncData} {n:Int} {fo hd:Nat->List Addr} {ov:Option (Option V)} {F:List D->Option Sl} {Q:VK} {E:XK} {ds:List D} {σ σ':St} {ρ ρ' outs:R} {pl:Sem Bool} {q y:Str} {oc:Value} {osl:Array (Option Value)} {z:Nat×Addr} {X:Cx} {mc:MT} {pins:List (Addr×Obj)}
noncomputable def onlyI:D->Bool
 | .int _=>true
 |_=>false
noncomputable def flD:D->Bool
 | .non=>true
 | .bl _=>true
 | .int _=>true
 | .str _=>true
 | .tup ds=>ds.all onlyI
 |_=>false
noncomputable def flC:Ch->Bool
 | .d x=>flD x
 | .l ds=>ds.all flD
 | .t _=>false
noncomputable def flT:T->Bool
 | .tup cs=>cs.all flC
 | .ins _ fs=>fs.all fun f=>flC f.2
 |_=>false
noncomputable def flS:Sl->Bool
 | .emp=>true
 | .val d=>flD d
 | .own ds=>ds.all flD
 | .par ds=>ds.all flD
 | .tre t=>flT t
 | .ptr t=>flT t
 | .two _ _=>false
noncomputable def Odd (o:HO):Prop:=(∃xs,o= .lst xs)\/∃xs,o= .tup xs/\¬ ∀x∈xs,∃i,x=V.int i
open Classical in
noncomputable def thin (G Gx G2:Hp):Hp:=fun a=>if G a=none/\Gx a≠none then none else G2 a
structure Lk (K:W.Frag) (ls:List Nat) (G Gx H:Hp) (σ:St) (ρ:R):Prop where
 up:Fz G Gx
 fz:Fz Gx H
 ow:∀a,G a=none->Gx a≠none->∃(i:Nat) (s:Sl),i∈ls/\ρ[i]? =some s/\OwS K G H σ[i]? a s
 odd:∀a o,G a=none->Gx a=some o->Odd o
section
variable {K:W.Frag} {G Gx G2 H H2:Hp}
theorem zlf:Fz (thin G Gx G2) G2:=fun a o e=>by
 unfold thin at e
 split at e
 ·cases e
 ·exact e
theorem thin_up (f:Fz G G2):Fz G (thin G Gx G2):=fun a o e=>by
 unfold thin;rw[if_neg fun z=>by rw[z.1]at e;cases e];exact f a o e
theorem zdG {a:Addr}(h:G2 a=none):thin G Gx G2 a=none:=by
 unfold thin
 split
 ·rfl
 ·exact h
theorem zlS (Hz:Hp):∀{ds:List D} {xs:List V},ds.all onlyI=true->RepL K G2 xs ds->(∀x∈xs,∃i,x=V.int i)/\RepL K Hz xs ds
 |[],_,_,r=>by cases(show _=[]from r);exact⟨fun x m=>by simp at m,rfl⟩
 |d::ds,_,e,⟨x,ys,e1,e2,e3⟩=>by
  subst e1;rw[qbu,qbo]at e;obtain⟨h1,h2⟩:=zlS Hz e.2 e3;cases d with
  |int i=>
   cases(show x=V.int i from e2);refine⟨fun y m=>?_,⟨_,ys,rfl,rfl,h2⟩⟩;rcases qaq.mp m with rfl|m
   ·exact⟨i,rfl⟩
   ·exact h1 y m
  |_=>exact nomatch e.1
theorem zlg (f:Fz Gx G2)(od:∀a o,G a=none->Gx a=some o->Odd o)(e:flD d=true)(r:RepD K G2 v d):RepD K (thin G Gx G2) v d:=by
 cases d with
 |non=>exact r
 |bl _=>exact r
 |int _=>exact r
 |str _=>exact r
 |tup ds=>
  obtain⟨a,xs,rfl,g,r⟩:=r;obtain⟨h1,h2⟩:=zlS (thin G Gx G2) e r;refine⟨a,xs,rfl,?_,h2⟩;unfold thin
  split
  ·rename_i z;obtain⟨o,ho⟩:=qbG.mp z.2;have:=f a o ho;rw[g]at this;cases this;rcases od a _ z.1 ho with⟨ys,q⟩|⟨ys,q,n⟩
   ·cases q
   ·cases q;exact absurd h1 n
  ·exact g
 |_=>exact nomatch e
theorem zha (f:Fz Gx G2)(od:∀a o,G a=none->Gx a=some o->Odd o):∀{ds:List D} {xs:List V},ds.all flD=true->RepL K G2 xs ds->RepL K (thin G Gx G2) xs ds
 |[],_,_,r=>r
 |d::ds,_,e,⟨x,ys,e1,e2,e3⟩=>by
  rw[qbu,qbo]at e;exact⟨x,ys,e1,zlg f od e.1 e2,zha f od e.2 e3⟩
theorem fl_repC (f:Fz Gx G2)(od:∀a o,G a=none->Gx a=some o->Odd o){x:V}{c:Ch}(e:flC c=true)(r:RepC K G2 H2 x c A):RepC K (thin G Gx G2) H2 x c A:=by
 cases c with
 |d y=>exact⟨zlg f od e r.1,r.2⟩
 |l ds=>obtain⟨l,xs,h1,h2,h3,h4⟩:=r;exact⟨l,xs,h1,h2,zha f od e h3,h4⟩
 |t _=>exact nomatch e
theorem zi8 (f:Fz Gx G2)(od:∀a o,G a=none->Gx a=some o->Odd o):∀{cs:List Ch} {xs:List V} {A:List Addr},cs.all flC=true->RepCs K G2 H2 xs cs A->RepCs K (thin G Gx G2) H2 xs cs A
 |[],[],_,_,r=>r
 |c::cs,x::xs,_,e,⟨A1,A2,r1,r2,q⟩=>by
  rw[qbu,qbo]at e;exact⟨A1,A2,fl_repC f od e.1 r1,zi8 f od e.2 r2,q⟩
 |[],_::_,_,_,r=>r.elim
 |_::_,[],_,_,r=>r.elim
theorem zkO (f:Fz Gx G2)(od:∀a o,G a=none->Gx a=some o->Odd o)(e:flT t=true)(r:RepT K G2 H2 v t A):RepT K (thin G Gx G2) H2 v t A:=by
 cases t with
 |tup cs=>obtain⟨p,xs,A',h1,h2,h3,h4⟩:=r;exact⟨p,xs,A',h1,h2,zi8 f od e h3,h4⟩
 |ins c fs=>
  obtain⟨p,C,dx,ws,A',h1,h2,h3,h4,h5,h6,h7⟩:=r;have e':(fs.map (·.2)).all flC=true:=by rw[List.all_map];exact e
  exact⟨p,C,dx,ws,A',h1,h2,h3,h4,h5,zi8 f od e' h6,h7⟩
 |_=>exact nomatch e
theorem RepT.head (r:RepT K G H v t A):∃p,v= .ref p/\p∈A:=by
 cases t with
 |lst cs=>obtain⟨p,xs,A',h1,h2,h3,rfl⟩:=r;exact⟨p,h1,by simp⟩
 |tup cs=>obtain⟨p,xs,A',h1,h2,h3,rfl⟩:=r;exact⟨p,h1,by simp⟩
 |ins c fs=>obtain⟨p,C,dx,ws,A',h1,h2,h3,h4,h5,h6,rfl⟩:=r;exact⟨p,h1,by simp⟩
 |dic ks ds=>obtain⟨p,ys,h1,h2,h3,h4,rfl⟩:=r;exact⟨p,h1,by simp⟩
 |dit ks ds=>obtain⟨p,ys,o,xs,h1,h2,h3,h4,rfl⟩:=r;exact⟨p,h1,by simp⟩
end
noncomputable abbrev MG:=R->Option (R×R)
noncomputable def Sl.hand:Sl->Option Sl
 | .own ds=>some (.par ds)
 | .par ds=>some (.par ds)
 | .tre t=>some (.ptr t)
 | .ptr t=>some (.ptr t)
 |_=>none
noncomputable def oddC:Ch->Bool
 | .d (.str _)=>true
 | .l _=>true
 |_=>false
noncomputable def Sl.look:Sl->Option D
 | .val d=>some d
 | .own ds=>some (.lst ds)
 | .par ds=>some (.lst ds)
 | .tre (.tup cs)=>if cs.any oddC then some (.tup (cs.map Ch.D))else none
 |_=>none
noncomputable def hasA (ρ:R)(j:Nat):Bool:=match ρ[j]? with
 |some (.val _)=>true
 |some (.own _)=>true
 |some (.par _)=>true
 |some (.tre _)=>true
 |some (.ptr _)=>true
 |_=>false
noncomputable def hNil:MG:=fun ρ=>some ([],ρ)
noncomputable def hVal (m:ME)(r:MG):MG:=fun ρ=>(m ρ).bind fun p=>(r p.2).map fun q=>(.val p.1::q.1,q.2)
noncomputable def zeU (j:Nat)(r:MG):MG:=fun ρ=>if hasA ρ j then(r ρ).bind fun q=>(q.2[j]?.bind Sl.hand).map fun s=>(s::q.1,q.2)else none
noncomputable def ziV (j:Nat)(r:MG):MG:=fun ρ=>if hasA ρ j then(r ρ).bind fun q=>(q.2[j]?.bind Sl.look).map fun d=>(.val d::q.1,q.2)else none
noncomputable def ArgsOk (K:W.Frag)(Gx:Hp)(σ:St)(ρ:R):List (Option Nat)->List V->R->Prop
 |[],[],[]=>True
 |none::js,v::vs,s::as=>(∃d,s= .val d/\RepD K Gx v d)/\ArgsOk K Gx σ ρ js vs as
 |some j::js,v::vs,s::as=>(σ[j]? =some (some v)/\ρ[j]?.bind Sl.hand=some s)/\ArgsOk K Gx σ ρ js vs as
 |_,_,_=>False
noncomputable def SGA (X:Cx)(js:List (Option Nat))(ls:List Nat)(es:List Expr)(m:MG):Prop:=
 ∃t,PA X es t/\∀B G H σ ρ as ρ' (Q:List V->Hp->Prop),SI X.K B G H σ ρ->m ρ=some (as,ρ')->
  (∀G' H' vs Gx,SI X.K B G' H' σ ρ'->Fz G G'->Lk X.K ls G' Gx H' σ ρ'->ArgsOk X.K Gx σ ρ' js vs as->Q vs H')->t σ H Q
section
variable {K:W.Frag} {B:Bs} {G Gx Gy H:Hp} {σ:St} {ρ:R}
theorem ArgsOk.mono (f:Fz Gx Gy):∀{js:List (Option Nat)} {vs:List V} {as:R},ArgsOk K Gx σ ρ js vs as->ArgsOk K Gy σ ρ js vs as
 |[],[],[],_=>trivial
 |none::js,v::vs,s::as,⟨⟨d,e,r⟩,h⟩=>⟨⟨d,e,r.mono f⟩,ArgsOk.mono f h⟩
 |some j::js,v::vs,s::as,⟨e,h⟩=>⟨e,ArgsOk.mono f h⟩
 |[],[],_::_,h=>h.elim
 |[],_::_,_,h=>h.elim
 |none::_,[],_,h=>h.elim
 |some _::_,[],_,h=>h.elim
 |none::_,_::_,[],h=>h.elim
 |some _::_,_::_,[],h=>h.elim
theorem ArgsOk.len:∀{js:List (Option Nat)} {vs:List V} {as:R},ArgsOk K Gx σ ρ js vs as->vs.length=as.length/\js.length=as.length
 |[],[],[],_=>⟨rfl,rfl⟩
 |none::js,v::vs,s::as,⟨_,h⟩=>⟨by simp[(ArgsOk.len h).1],by simp[(ArgsOk.len h).2]⟩
 |some j::js,v::vs,s::as,⟨_,h⟩=>⟨by simp[(ArgsOk.len h).1],by simp[(ArgsOk.len h).2]⟩
 |[],[],_::_,h=>h.elim
 |[],_::_,_,h=>h.elim
 |none::_,[],_,h=>h.elim
 |some _::_,[],_,h=>h.elim
 |none::_,_::_,[],h=>h.elim
 |some _::_,_::_,[],h=>h.elim
theorem ArgsOk.get:∀{js:List (Option Nat)} {vs:List V} {as:R} {i:Nat} {s:Sl},ArgsOk K Gx σ ρ js vs as->as[i]? =some s->
  ∃v,vs[i]? =some v/\((js[i]? =some none/\∃d,s= .val d/\RepD K Gx v d)\/∃j,js[i]? =some (some j)/\σ[j]? =some (some v)/\ρ[j]?.bind Sl.hand=some s)
 |[],[],[],_,_,_,e=>by simp at e
 |none::js,v::vs,s::as,0,_,⟨h,_⟩,e=>by simp at e;subst e;exact⟨v,rfl,.inl ⟨rfl,h⟩⟩
 |some j::js,v::vs,s::as,0,_,⟨h,_⟩,e=>by simp at e;subst e;exact⟨v,rfl,.inr ⟨j,rfl,h⟩⟩
 |none::js,v::vs,s::as,i+1,_,⟨_,h⟩,e=>by simpa using ArgsOk.get (i:=i) h (by simpa using e)
 |some j::js,v::vs,s::as,i+1,_,⟨_,h⟩,e=>by simpa using ArgsOk.get (i:=i) h (by simpa using e)
 |[],[],_::_,_,_,h,_=>h.elim
 |[],_::_,_,_,_,h,_=>h.elim
 |none::_,[],_,_,_,h,_=>h.elim
 |some _::_,[],_,_,_,h,_=>h.elim
 |none::_,_::_,[],_,_,h,_=>h.elim
 |some _::_,_::_,[],_,_,h,_=>h.elim
theorem SI.hasA (I:SI K B G H σ ρ)(h:hasA ρ j=true):∃v,σ[j]? =some (some v):=by
 unfold M.hasA at h;cases e:ρ[j]? with
 |none=>rw[e]at h;cases h
 |some s=>
  rw[e]at h;have q:=I.slot j s e;cases s with
  |emp=>cases h
  |two _ _=>cases h
  |tre t=>obtain⟨v,A,e,_⟩:=q;exact⟨v,e⟩
  |ptr t=>obtain⟨v,A,e,_⟩:=q;exact⟨v,e⟩
  |val d=>obtain⟨v,e,_⟩:=q;exact⟨v,e⟩
  |own d=>obtain⟨l,_,e,_⟩:=q;exact⟨_,e⟩
  |par d=>obtain⟨l,_,e,_⟩:=q;exact⟨_,e⟩
theorem zj8:∀{xs:List V} {cs:List Ch} {A:List Addr},RepCs K G H xs cs A->cs.any oddC=true->¬ ∀x∈xs,∃i,x=V.int i
 |[],[],_,_,h=>by simp at h
 |x::xs,c::cs,_,⟨A1,A2,r1,r2,e⟩,h=>fun al=>by
  rw[qbv,qbL]at h;rcases h with h|h
  ·obtain⟨i,rfl⟩:=al x (by simp);cases c with
   |d y=>
    cases y with
    |str z=>exact nomatch (show V.int i=V.str z from r1.1)
    |_=>exact nomatch h
   |l ds=>obtain⟨l,ys,q,_⟩:=r1;exact nomatch q
   |t _=>exact nomatch h
  ·exact zj8 r2 h fun y m=>al y (by simp[m])
 |[],_::_,_,r,_=>r.elim
 |_::_,[],_,r,_=>r.elim
theorem Lk.more (I:SI K B G H σ ρ)(L:Lk K ls G Gx H σ ρ)(hv:σ[j]? =some (some v))(e:ρ[j]? =some s)(q:s.look=some d):
    ∃Gy,Fz Gx Gy/\Lk K (j::ls) G Gy H σ ρ/\RepD K Gy v d:=by
  have h:=I.slot j s e;have add:∀A:List Addr,(∀a∈A,OwS K G H σ[j]? a s)->(∀a∈A,∀o,H a=some o->Odd o)->Fz Gx (frA Gx H A)/\Lk K (j::ls) G (frA Gx H A) H σ ρ:=fun A h1 h2=>by
    have f1:Fz Gx (frA Gx H A):=fun a o e=>by
      by_cases m:a∈A
      . rw[zdt m];exact L.fz a o e
      . rw[zcp m];exact e
    refine⟨f1,L.up.trans f1,fun a o e=>?_,fun a g e=>?_,fun a o g e=>?_⟩
    . by_cases m:a∈A
      . rw[zdt m]at e;exact e
      . rw[zcp m]at e;exact L.fz a o e
    . by_cases m:a∈A
      . exact⟨j,s,by simp,‹_›,h1 a m⟩
      . rw[zcp m]at e
        obtain⟨i,t,k1,k2⟩:=L.ow a g e;exact⟨i,t,by simp[k1],k2⟩
    . by_cases m:a∈A
      . rw[zdt m]at e;exact h2 a m o e
      . rw[zcp m]at e;exact L.odd a o g e
  have lis:∀{l:Addr} {xs:List V} {ds:List D},OwS K G H σ[j]? l s->v= .ref l->H l=some (.lst xs)->RepL K G xs ds->∃Gy,Fz Gx Gy/\Lk K (j::ls) G Gy H σ ρ/\RepD K Gy v (.lst ds):=fun{l xs ds} w ev hl r=>by
    obtain ⟨a1, a2⟩ := add [l] (fun a m => by have : a = l := by simpa using m
                                              subst this;exact w) (fun a m o ho=>by
      have:a=l:=by simpa using m
      subst this;rw[hl]at ho;cases ho;exact .inl ⟨_,rfl⟩)
    exact⟨_,a1,a2,⟨l,xs,ev,by rw[zdt (by simp)];exact hl,r.mono a2.up⟩⟩
  cases s with
  |emp=>cases q
  |two _ _=>cases q
  |ptr _=>cases q
  |val d'=>
    cases q;obtain⟨u,k1,k2⟩:=h;rw[hv]at k1;cases k1;exact⟨Gx,Fz.refl _,⟨L.up,L.fz,fun a g n=>(L.ow a g n).imp fun i ⟨t,k1,k2⟩=>⟨t,by simp[k1],k2⟩,L.odd⟩,k2.mono L.up⟩
  |own ds=>
    cases q;obtain⟨l,xs,k1,k2,k3,k4,k5⟩:=h;have:=k1;rw[hv]at this;cases this;exact lis k1 rfl k3 k4
  |par ds=>
    cases q;obtain⟨l,xs,k1,k2,k3,k4,k5⟩:=h;have:=k1;rw[hv]at this;cases this;exact lis k1 rfl k3 k4
  |tre t=>
    obtain⟨u,A,k1,k2,k3,k4⟩:=h;have:=k1;rw[hv]at this;cases this;cases t with
    |tup cs=>
      have q':(if cs.any oddC then some (D.tup (cs.map Ch.D))else none)=some d:=q
      split at q'
      . rename_i od
        cases q';have k2':=k2;obtain⟨p,xs,A',rfl,g1,g2,rfl⟩:=k2;obtain⟨a1,a2⟩:=add (p::A') (fun a m=>⟨_,_,k1,k2',m⟩) (fun a m o ho=>by
          rcases qaq.mp m with rfl|m
          . rw[g1]at ho;cases ho;exact .inr ⟨xs,rfl,zj8 g2 od⟩
          . obtain⟨ys,hy⟩:=g2.here m
            rw[hy]at ho;cases ho;exact .inl ⟨_,rfl⟩)
        exact⟨_,a1,a2,⟨p,xs,rfl,by rw[zdt (by simp)];exact g1,zfs a2.up g2 fun a m=>zdt (by simp[m])⟩⟩
      . cases q'
    |_=>cases q
end
section
variable {X:Cx} {e:Expr} {es:List Expr} {js:List (Option Nat)} {ls:List Nat} {x:Str} {p:Pos} {m:ME} {r:MG}
theorem zbC:SGA X [] [] [] hNil:=⟨_,zbX,fun B G H σ ρ as ρ' Q I hm k=>by
 cases hm;exact k G H [] G I (Fz.refl G) ⟨Fz.refl G,I.fz,fun a g n=>absurd g n,fun a o g n=>by rw[g]at n;cases n⟩ trivial⟩
theorem zas (h:SE X e m)(hr:SGA X js ls es r)(hs:autoParam (starEach (e::es) X.env=(false,eval e X.env)::starEach es X.env) zu3._auto_1):SGA X (none::js) ls (e::es) (hVal m r):=by
 obtain⟨t,pe,se⟩:=h;obtain⟨u,pr,sr⟩:=hr;refine⟨_,zaG pe pr hs,fun B G H σ ρ as ρ' Q I hm k=>?_⟩;obtain⟨⟨d,ρ1⟩,e1,hm⟩:=zaa hm;obtain⟨⟨as1,ρ2⟩,e2,hm⟩:=zaf hm;cases hm;exact se B G H σ ρ d ρ1 _ I e1 fun G1 H1 v I1 f1 r1=>sr B G1 H1 σ ρ1 as1 ρ2 _ I1 e2 fun G2 H2 vs Gx I2 f2 L a=>k G2 H2 (v::vs) Gx I2 (f1.trans f2) L ⟨⟨d,rfl,r1.mono (f2.trans L.up)⟩,a⟩
theorem zb8 (j:Nat)(hr:SGA X js ls es r)(hN:autoParam (X.N[j]? =some x) zu3._auto_1)(hv:autoParam (Vis X.env.scope x) zu6._auto_1)(hd:autoParam ((x==("__debug__":Str))=false) zu1._auto_1)
  (hcd:autoParam ((x==("__classdict__":Str))=false) zu1._auto_1) (hs:autoParam (starEach (.Name x p::es) X.env=(false,eval (.Name x p) X.env)::starEach es X.env) zu3._auto_1):SGA X (some j::js) ls (.Name x p::es) (zeU j r):=by
 obtain⟨u,pr,sr⟩:=hr;refine⟨_,zaG (zaX hN hv hd hcd) pr hs,fun B G H σ ρ as ρ' Q I hm k=>?_⟩;unfold zeU at hm
 split at hm
 ·rename_i ha;obtain⟨v,e1⟩:=I.hasA ha;obtain⟨⟨as1,ρ2⟩,e2,hm⟩:=zaa hm;obtain⟨s,e3,hm⟩:=zaf hm;cases hm;exact⟨v,e1,sr B G H σ ρ as1 ρ2 _ I e2 fun G2 H2 vs Gx I2 f2 L a=>k G2 H2 (v::vs) Gx I2 f2 L ⟨⟨e1,e3⟩,a⟩⟩
 ·cases hm
theorem zf4 (j:Nat)(hr:SGA X js ls es r)(hN:autoParam (X.N[j]? =some x) zu3._auto_1)(hv:autoParam (Vis X.env.scope x) zu6._auto_1)(hd:autoParam ((x==("__debug__":Str))=false) zu1._auto_1)
  (hcd:autoParam ((x==("__classdict__":Str))=false) zu1._auto_1) (hs:autoParam (starEach (.Name x p::es) X.env=(false,eval (.Name x p) X.env)::starEach es X.env) zu3._auto_1):SGA X (none::js) (j::ls) (.Name x p::es) (ziV j r):=by
 obtain⟨u,pr,sr⟩:=hr;refine⟨_,zaG (zaX hN hv hd hcd) pr hs,fun B G H σ ρ as ρ' Q I hm k=>?_⟩;unfold ziV at hm
 split at hm
 ·rename_i ha;obtain⟨v,e1⟩:=I.hasA ha;obtain⟨⟨as1,ρ2⟩,e2,hm⟩:=zaa hm;obtain⟨d,e3,hm⟩:=zaf hm;cases hm;refine⟨v,e1,sr B G H σ ρ as1 ρ2 _ I e2 fun G2 H2 vs Gx I2 f2 L a=>?_⟩;obtain⟨s,e4,e5⟩:=zaa e3;obtain⟨Gy,f3,L3,r3⟩:=Lk.more I2 L e1 e4 e5;exact k G2 H2 (v::vs) Gy I2 f2 L3 ⟨⟨d,rfl,r3⟩,a.mono f3⟩
 ·cases hm
end
noncomputable def spG (K:W.Frag)(n:Nat)(F:R->Option (Sl×R)):Sp:=fun vs H Q _=>∃G O as r outs,F as=some (r,outs)/\as.length=n/\SI K ⟨G,H,O⟩ G H (vs.map some) as/\
 ∀G' H' v,Fz G G'->Fz G' H'->(∀b o,G' b=some o->G b≠none\/H b=none)->(∀b o,H b=some o->(∀i,(i,b)∉O)->H' b=some o)->(∀b,H' b=none->H b=none)->
  (∀(i:Nat) (s:Sl),outs[i]? =some s->∃ov,SlotOk K ⟨G,H,O⟩ G' H' i ov s)->ResF K G' H' H v r->Q v H'
noncomputable def outS:R->R->Option R
 |[],_=>some []
 | .par _::as,.par ds::ρ=>(outS as ρ).map (.par ds:: ·)
 | .ptr _::as,.ptr t::ρ=>(outS as ρ).map (.ptr t:: ·)
 | .val _::as,_::ρ=>(outS as ρ).map (.emp:: ·)
 |_,_=>none
noncomputable def fG (N:Nat)(m:MS):R->Option (Sl×R):=fun as=>(m (as++List.replicate (N-as.length) .emp)).bind fun p=>match p.1 with
 | .ret r=>(outS as p.2).map fun o=>(r,o)
 | .next=>(outS as p.2).map fun o=>(.val .non,o)
 |_=>none
noncomputable def zi9:R->R->Bool
 |[],_=>true
 | .par _::as,.par _::os=>zi9 as os
 | .ptr _::as,.ptr _::os=>zi9 as os
 | .val _::as,.emp::os=>zi9 as os
 |_,_=>false
noncomputable def zke (F:R->Option (Sl×R)):Prop:=∀as r os,F as=some (r,os)->zi9 as os=true
theorem zcB:∀{as ρ os:R},outS as ρ=some os->zi9 as os=true
 |[],_,_,_=>rfl
 | .par _::as,.par ds::ρ,_,h=>by obtain⟨o,e,rfl⟩:=zaf h;exact zcB (as:=as) (ρ:=ρ) (os:=o) e
 | .ptr _::as,.ptr ds::ρ,_,h=>by obtain⟨o,e,rfl⟩:=zaf h;exact zcB (as:=as) (ρ:=ρ) (os:=o) e
 | .val _::as,_::ρ,_,h=>by obtain⟨o,e,rfl⟩:=zaf h;exact zcB (as:=as) (ρ:=ρ) (os:=o) e
theorem zbi {N:Nat}:zke (fG N m):=fun as r os h=>by
 obtain⟨⟨fl,ρ⟩,_,h⟩:=zaa h;cases fl with
 |next=>obtain⟨o,e,q⟩:=zaf h;cases q;exact zcB e
 |ret r=>obtain⟨o,e,q⟩:=zaf h;cases q;exact zcB e
 |brk=>cases h
 |cont=>cases h
theorem zfW:∀{as ρ os:R} {i:Nat} {s:Sl},outS as ρ=some os->os[i]? =some s->s= .emp\/ρ[i]? =some s
 |[],_,_,_,_,h,e=>by cases h;simp at e
 | .par _::as,.par ds::ρ,_,i,_,h,e=>by
  obtain⟨o,q,rfl⟩:=zaf h;cases i with
  |zero=>simp at e;subst e;exact .inr rfl
  |succ i=>simpa using zfW q (by simpa using e)
 | .ptr _::as,.ptr ds::ρ,_,i,_,h,e=>by
  obtain⟨o,q,rfl⟩:=zaf h;cases i with
  |zero=>simp at e;subst e;exact .inr rfl
  |succ i=>simpa using zfW q (by simpa using e)
 | .val _::as,_::ρ,_,i,_,h,e=>by
  obtain⟨o,q,rfl⟩:=zaf h;cases i with
  |zero=>simp at e;subst e;exact .inl rfl
  |succ i=>simpa using zfW q (by simpa using e)
theorem zfx:∀{as os:R} {i:Nat} {a:Sl},zi9 as os=true->as[i]? =some a->(∃ds es,a= .par ds/\os[i]? =some (.par es))\/(∃t u,a= .ptr t/\os[i]? =some (.ptr u))\/(∃d,a= .val d/\os[i]? =some .emp)
 |[],_,_,_,_,e=>by simp at e
 | .par _::as,.par _::os,i,_,h,e=>by
  cases i with
  |zero=>simp at e;subst e;exact .inl ⟨_,_,rfl,rfl⟩
  |succ i=>simpa using zfx (as:=as) (os:=os) (i:=i) h (by simpa using e)
 | .ptr _::as,.ptr _::os,i,_,h,e=>by
  cases i with
  |zero=>simp at e;subst e;exact .inr (.inl ⟨_,_,rfl,rfl⟩)
  |succ i=>simpa using zfx (as:=as) (os:=os) (i:=i) h (by simpa using e)
 | .val _::as,.emp::os,i,_,h,e=>by
  cases i with
  |zero=>simp at e;subst e;exact .inr (.inr ⟨_,rfl,rfl⟩)
  |succ i=>simpa using zfx (as:=as) (os:=os) (i:=i) h (by simpa using e)
theorem SI.startG {as:R}(I:SI K B G H (vs.map some) as)(h:as.length<=N.length):SI K B G H (L2.start N vs) (as++List.replicate (N.length-as.length) .emp):=by
 have hl:vs.length=as.length:=by simpa using I.len
 have at1:∀{i:Nat} {s:Sl},(as++List.replicate (N.length-as.length) Sl.emp)[i]? =some s->(as[i]? =some s/\(L2.start N vs)[i]? =(vs.map some)[i]?)\/s= .emp:=fun{i s} e=>by
  by_cases hi:i<as.length
  ·rw[qa9 hi]at e;refine .inl ⟨e,?_⟩;unfold L2.start;rw[qa9 (by simpa[hl]using hi)]
  ·rw[qa7 (by lia),qa8]at e
   split at e
   ·cases e;exact .inr rfl
   ·cases e
 refine⟨I.fz,I.g0,I.new,I.keep,I.there,?_,I.ob,fun i s e=>?_,fun i j s t a n e1 e2 w1 w2=>?_⟩
 ·rw[zhw (by lia),qbc,qbd];lia
 ·rcases at1 e with⟨e1,e2⟩|rfl
  ·rw[e2];exact I.slot i s e1
  ·trivial
 ·rcases at1 e1 with⟨f1,f2⟩|rfl
  ·rcases at1 e2 with⟨g1,g2⟩|rfl
   ·rw[f2]at w1;rw[g2]at w2;exact I.dis i j s t a n f1 g1 w1 w2
   ·exact w2
  ·exact w1
section
variable {P:Program} {w:World} {K:W.Frag} {mg:Str->Option Value} {base:Heap}
theorem fnG_ok {x qual:Str}{st:Stmt}{k n:Nat}(F:Fun K x qual st f fd)(S:FnScope N ps (zan st))(hn:ps.length=n)(hN:n<=N.length)
  (body:∀(cdv:Value) (A:Around) (outer:List Env) (s:Shared) (H:Hp) (E:XK),Room k (A.deeper (envOfC qual (zan st) s.heap.objs.size f cdv))->SSs (cxOf CX0 P w K mg base N qual (zan st) f cdv A outer s H E).nox (zaO st) m):
  FnOk P w K mg base CX0 (k+1) f fd ps (spG K n (fG N.length m)):=by
 refine F.ok S (fun vs H Q E h=>?_) (fun cdv A outer s H vs Q E hr h=>?_)
 ·obtain⟨G,O,as,r,outs,_,h2,I,_⟩:=h;have:=I.len;rw[qaT]at this;lia
 ·obtain⟨G,O,as,r,outs,e1,h2,I,kk⟩:=h;obtain⟨t,pt,so⟩:=body cdv A outer s H E hr;refine⟨t,pt,?_⟩;obtain⟨⟨fl,ρ'⟩,e2,e3⟩:=zaa e1;refine so ⟨G,H,O⟩ G H (L2.start N vs) _ fl ρ' _ (I.startG (by lia)) e2 ?_;have fin:∀G' H' σ' v,outS as ρ'=some outs->SI K ⟨G,H,O⟩ G' H' σ' ρ'->Fz G G'->ResF K G' H' H v r->Q v H':=fun G' H' σ' v eo J f rr=>
   kk G' H' v f J.fz J.new (fun b o e n=>J.keep b o e n) J.there (fun i s e=>by
    rcases zfW eo e with rfl|q
    ·exact⟨none,trivial⟩
    ·exact⟨_,J.slot i s q⟩) rr
  cases fl with
  |brk=>cases e3
  |cont=>cases e3
  |next=>
   obtain⟨o,q1,q2⟩:=zaf e3;cases q2;exact fun G' H' σ' J f=>fin G' H' σ' .non q1 J f rfl
  |ret r'=>
   obtain⟨o,q1,q2⟩:=zaf e3;cases q2;refine fun G' H' σ' v J f rr=>fin G' H' σ' v q1 J f ?_
   cases r with
   |val d=>exact rr
   |own ds=>exact rr
   |emp=>exact rr
   |two _ _=>exact rr
   |tre _=>exact rr
   |ptr _=>exact rr
   |par ds=>exact rr
end
noncomputable def jsOk:List (Option Nat)->List Nat->Bool
 |[],_=>true
 |none::js,ls=>jsOk js ls
 |some j::js,ls=>!ls.contains j&&!js.contains (some j)&&jsOk js ls
theorem zkY:∀{js:List (Option Nat)} {ls:List Nat} {i j:Nat},jsOk js ls=true->js[i]? =some (some j)->j∉ls
 |[],_,_,_,_,e=>by simp at e
 |none::js,ls,i,j,h,e=>by
  cases i with
  |zero=>simp at e
  |succ i=>exact zkY (js:=js) h (by simpa using e)
 |some q::js,ls,i,j,h,e=>by
  have h':(!ls.contains q&&!js.contains (some q)&&jsOk js ls)=true:=h;simp only[qbo,qcL,qcM,qcN]at h';cases i with
  |zero=>simp at e;subst e;exact h'.1.1
  |succ i=>exact zkY (js:=js) h'.2 (by simpa using e)
theorem ziE:∀{js:List (Option Nat)} {ls:List Nat} {i k j:Nat},jsOk js ls=true->js[i]? =some (some j)->js[k]? =some (some j)->i=k
 |[],_,_,_,_,_,e,_=>by simp at e
 |none::js,ls,i,k,j,h,e,e2=>by
  cases i with
  |zero=>simp at e
  |succ i=>
   cases k with
   |zero=>simp at e2
   |succ k=>rw[ziE (js:=js) (i:=i) (k:=k) h (by simpa using e) (by simpa using e2)]
 |some q::js,ls,i,k,j,h,e,e2=>by
  have h':(!ls.contains q&&!js.contains (some q)&&jsOk js ls)=true:=h;simp only[qbo,qcL,qcM,qcN]at h';cases i with
  |zero=>
   cases k with
   |zero=>rfl
   |succ k=>
    simp at e;subst e;exact absurd (qbb (by simpa using e2)) h'.1.2
  |succ i=>
   cases k with
   |zero=>
    simp at e2;subst e2;exact absurd (qbb (by simpa using e)) h'.1.2
   |succ k=>rw[ziE (js:=js) (i:=i) (k:=k) h'.2 (by simpa using e) (by simpa using e2)]
noncomputable def backS (u s:Sl):Sl:=match s with
 | .par ds=>u.put ds
 | .ptr t=>u.putT t
 |_=>u
noncomputable def zar:List (Option Nat)->R->R->R
 | some j :: js, s :: os, ρ => zar js os (match ρ[j]? with
  |some u=>ρ.set j (backS u s)
  |none=>ρ)
 |none::js,_::os,ρ=>zar js os ρ
 |_,_,ρ=>ρ
theorem zfb:∀{js:List (Option Nat)} {os ρ:R},(zar js os ρ).length=ρ.length
 |[],_,_=>by unfold zar;rfl
 |none::_,[],_=>by unfold zar;rfl
 |some _::_,[],_=>by unfold zar;rfl
 |none::js,_::os,ρ=>by unfold zar;exact zfb
 |some j::js,s::os,ρ=>by
  unfold zar;rw[zfb]
  split
  ·rw[qbt]
  ·rfl
theorem zdS:∀{js:List (Option Nat)} {ls:List Nat} {os ρ:R} {q:Nat} {t:Sl},jsOk js ls=true->js.length<=os.length->(zar js os ρ)[q]? =some t->
  (ρ[q]? =some t/\∀i:Nat,js[i]?≠some (some q))\/∃(i:Nat) (s u:Sl),js[i]? =some (some q)/\os[i]? =some s/\ρ[q]? =some u/\t=backS u s
 |[],_,_,_,_,_,_,_,e=>by unfold zar at e;exact .inl ⟨e,fun i=>by simp⟩
 |none::_,_,[],_,_,_,_,h,_=>by simp at h
 |some _::_,_,[],_,_,_,_,h,_=>by simp at h
 |none::js,ls,_::os,ρ,q,t,h,hl,e=>by
  unfold zar at e;rcases zdS (js:=js) (ls:=ls) (os:=os) h (by simpa using hl) e with⟨h1,h2⟩|⟨i,s,u,h1,h2⟩
  ·refine .inl ⟨h1,fun i=>?_⟩;cases i with
   |zero=>simp
   |succ i=>simpa using h2 i
  ·exact .inr ⟨i+1,s,u,by simpa using h1,by simpa using h2⟩
 |some j::js,ls,s::os,ρ,q,t,h,hl,e=>by
  have h':(!ls.contains j&&!js.contains (some j)&&jsOk js ls)=true:=h;simp only[qbo,qcL,qcM,qcN]at h';have nj:∀i:Nat,js[i]?≠some (some j):=fun i z=>h'.1.2 (qbb z)
  unfold zar at e
  by_cases z:q=j
  ·subst z;rcases zdS (ls:=ls) h'.2 (by simpa using hl) e with⟨h1,h2⟩|⟨i,s,u,h1,h2⟩
   ·cases eu:ρ[q]? with
    |none=>rw[eu]at h1;dsimp only at h1;rw[eu]at h1;cases h1
    |some u=>
     rw[eu]at h1;dsimp only at h1;rw[qbF,if_pos rfl,if_pos (qat.mp eu).1]at h1;cases h1;exact .inr ⟨0,s,u,rfl,rfl,rfl,rfl⟩
   ·exact absurd h1 (nj i)
  ·have same:(match ρ[j]? with|some u=>ρ.set j (backS u s)|none=>ρ)[q]? =ρ[q]?:=by
    split
    ·rw[qav (Ne.symm z)]
    ·rfl
   rcases zdS (ls:=ls) h'.2 (by simpa using hl) e with⟨h1,h2⟩|⟨i,s2,u,h1,h2,h3,h4⟩
   ·refine .inl ⟨by rw[<-same];exact h1,fun i=>?_⟩;cases i with
    |zero=>simpa using Ne.symm z
    |succ i=>simpa using h2 i
   ·exact .inr ⟨i+1,s2,u,by simpa using h1,by simpa using h2,by rw[<-same];exact h3,h4⟩
noncomputable def mkO (fo hd:Nat->List Addr):Nat->List (Option Nat)->List (Nat×Addr)
 |_,[]=>[]
 |i,none::js=>mkO fo hd (i+1) js
 |i,some j::js=>(fo j).map (fun a=>(i,a))++((hd j).map (fun a=>(i+4096,a))++mkO fo hd (i+1) js)
theorem mem_mkO {n:Nat}:∀{js:List (Option Nat)} {i:Nat},(n,b)∈mkO fo hd i js↔∃k j,js[k]? =some (some j)/\((n=i+k/\b∈fo j)\/(n=i+k+4096/\b∈hd j))
 |[],i=>by simp[mkO]
 |none::js,i=>by
  unfold mkO;rw[mem_mkO (js:=js)]
  constructor
  ·rintro⟨k,j,h1,h2⟩;exact⟨k+1,j,by simpa using h1,by rw[show i+(k+1)=i+1+k by lia];exact h2⟩
  ·rintro⟨k,j,h1,h2⟩;cases k with
   |zero=>simp at h1
   |succ k=>exact⟨k,j,by simpa using h1,by rw[show i+1+k=i+(k+1) by lia];exact h2⟩
 |some q::js,i=>by
  unfold mkO;rw[qar,qar,mem_mkO (js:=js)]
  constructor
  ·rintro(h|h|⟨k,j,h1,h2⟩)
   ·obtain⟨a,m,e⟩:=qbY.mp h;cases e;exact⟨0,q,rfl,.inl ⟨rfl,m⟩⟩
   ·obtain⟨a,m,e⟩:=qbY.mp h;cases e;exact⟨0,q,rfl,.inr ⟨rfl,m⟩⟩
   ·exact⟨k+1,j,by simpa using h1,by rw[show i+(k+1)=i+1+k by lia];exact h2⟩
  ·rintro⟨k,j,h1,h2⟩;cases k with
   |zero=>
    simp at h1;subst h1;rcases h2 with⟨rfl,m⟩|⟨rfl,m⟩
    ·exact .inl (qbY.mpr ⟨b,m,rfl⟩)
    ·exact .inr (.inl (qbY.mpr ⟨b,m,rfl⟩))
   |succ k=>exact .inr (.inr ⟨k,j,by simpa using h1,by rw[show i+1+k=i+(k+1) by lia];exact h2⟩)
section
variable {K:W.Frag} {B:Bs} {G Gx H:Hp} {σ:St} {ρ:R}
theorem SI.foot (I:SI K B G H σ ρ):∃fo:Nat->List Addr,∀(j:Nat) (s:Sl),ρ[j]? =some s->∀a,(OwS K G H σ[j]? a s↔a∈fo j):=by
 have h:∀j:Nat,∃A:List Addr,∀s:Sl,ρ[j]? =some s->∀a,(OwS K G H σ[j]? a s↔a∈A):=fun j=>by
  cases e:ρ[j]? with
  |none=>exact⟨[],fun s z=>nomatch z⟩
  |some s=>
   have q:=I.slot j s e;have one:∀{l:Addr} {s:Sl} {ds:List D},s.items=some ds->σ[j]? =some (some (.ref l))->∃A:List Addr,∀t:Sl,some s=some t->∀a,(OwS K G H σ[j]? a t↔a∈A):=fun{l s ds} hs hl=>⟨[l],fun t z a=>by
    cases z;rw[zdu hs,hl,qcH];exact⟨fun z=>by cases z;rfl,fun z=>by rw[z]⟩⟩
   have two:∀{v:V} {t:T} {A:List Addr} {s:Sl},σ[j]? =some (some v)->RepT K G H v t A->(∀a,OwS K G H σ[j]? a s↔∃v A,σ[j]? =some (some v)/\RepT K G H v t A/\a∈A)->∃A:List Addr,∀u:Sl,some s=some u->∀a,(OwS K G H σ[j]? a u↔a∈A):=fun{v t A s} h1 h2 h3=>⟨A,fun u z a=>by
    cases z;rw[h3 a]
    constructor
    ·rintro⟨v2,A2,k1,k2,k3⟩;rw[h1]at k1;cases k1;rwa[h2.det k2 fun _ _=>rfl]
    ·exact fun m=>⟨v,A,h1,h2,m⟩⟩
   cases s with
   |emp=>exact⟨[],fun t z a=>by cases z;exact⟨fun w=>w.elim,fun m=>by simp at m⟩⟩
   |two _ _=>exact⟨[],fun t z a=>by cases z;exact⟨fun w=>w.elim,fun m=>by simp at m⟩⟩
   |val _=>exact⟨[],fun t z a=>by cases z;exact⟨fun w=>w.elim,fun m=>by simp at m⟩⟩
   |own ds=>obtain⟨l,xs,h1,_⟩:=q;exact one (ds:=ds) rfl h1
   |par ds=>obtain⟨l,xs,h1,_⟩:=q;exact one (ds:=ds) rfl h1
   |tre t=>obtain⟨v,A,h1,h2,_⟩:=q;exact two h1 h2 fun a=>Iff.rfl
   |ptr t=>obtain⟨v,A,h1,h2,_⟩:=q;exact two h1 h2 fun a=>Iff.rfl
 exact Classical.axiomOfChoice h
noncomputable def hdOf (σ:St)(j:Nat):List Addr:=match σ[j]? with
 |some (some (.ref p))=>[p]
 |_=>[]
theorem hdOf_mem:p∈hdOf σ j↔σ[j]? =some (some (.ref p)):=by
 unfold hdOf
 split
 ·rename_i q e;rw[e,qcH];exact⟨fun z=>by rw[z],fun z=>by cases z;rfl⟩
 ·rename_i h;exact⟨fun m=>by simp at m,fun e=>absurd e (h p)⟩
theorem SI.root (I:SI K B G H σ ρ){u s:Sl}(e:ρ[j]? =some u)(h:u.hand=some s)(hp:σ[j]? =some (some (.ref p))):OwS K G H σ[j]? p u:=by
 have q:=I.slot j u e;cases u with
 |emp=>cases h
 |two _ _=>cases h
 |val _=>cases h
 |own ds=>exact hp
 |par ds=>exact hp
 |tre t=>
  obtain⟨v,A,h1,h2,_⟩:=q;obtain⟨p2,rfl,m⟩:=h2.head;have:=h1;rw[hp]at this;cases this;exact⟨_,A,h1,h2,m⟩
 |ptr t=>
  obtain⟨v,A,h1,h2,_⟩:=q;obtain⟨p2,rfl,m⟩:=h2.head;have:=h1;rw[hp]at this;cases this;exact⟨_,A,h1,h2,m⟩
theorem SlotOk.thin {G2 H2:Hp}(f:Fz Gx G2)(od:∀a o,G a=none->Gx a=some o->Odd o)(e:flS s=true)(h:SlotOk K B G2 H2 i ov s):SlotOk K B (M.thin G Gx G2) H2 i ov s:=by
 cases s with
 |emp=>trivial
 |two _ _=>trivial
 |val d=>obtain⟨v,h1,h2⟩:=h;exact⟨v,h1,zlg f od e h2⟩
 |own ds=>obtain⟨l,xs,h1,h2,h3,h4,h5⟩:=h;exact⟨l,xs,h1,zdG h2,h3,zha f od e h4,h5⟩
 |par ds=>obtain⟨l,xs,h1,h2,h3,h4,h5⟩:=h;exact⟨l,xs,h1,zdG h2,h3,zha f od e h4,h5⟩
 |tre t=>obtain⟨v,A,h1,h2,h3,h4⟩:=h;exact⟨v,A,h1,zkO f od e h2,h3,fun a m=>⟨zdG (h4 a m).1,(h4 a m).2⟩⟩
 |ptr t=>obtain⟨v,A,h1,h2,h3,h4⟩:=h;exact⟨v,A,h1,zkO f od e h2,h3,fun a m=>⟨zdG (h4 a m).1,(h4 a m).2⟩⟩
theorem ResF.thin {G2 H2:Hp}(f:Fz Gx G2)(od:∀a o,G a=none->Gx a=some o->Odd o)(e:flS r=true)(h:ResF K G2 H2 H v r):ResF K (M.thin G Gx G2) H2 H v r:=by
 cases r with
 |emp=>exact h
 |two _ _=>exact nomatch e
 |par _=>exact h
 |ptr _=>exact h
 |val d=>exact zlg f od e h
 |own ds=>obtain⟨l,xs,h1,h2,h3,h4,h5⟩:=h;exact⟨l,xs,h1,zdG h2,h3,zha f od e h4,h5⟩
 |tre t=>obtain⟨A,h2,h3,h4⟩:=h;exact⟨A,zkO f od e h2,h3,fun a m=>⟨zdG (h4 a m).1,(h4 a m).2⟩⟩
end
section
variable {K:W.Frag} {B:Bs} {G Gx H:Hp} {σ:St} {ρ:R} {js:List (Option Nat)} {ls:List Nat} {vs:List V} {as:R} {n:Nat} {F:R->Option (Sl×R)} {r:Sl} {outs:R} {Q:VK} {E:XK}
theorem zmv (I:SI K B G H σ ρ)(L:Lk K ls G Gx H σ ρ)(A:ArgsOk K Gx σ ρ js vs as)(eF:F as=some (r,outs))(hn:as.length=n)(kF:zke F)(hj:jsOk js ls=true)(lt:js.length<=4096)
  (ck:(ls.isEmpty||(flS r&&outs.all flS))=true)
  (kk:∀G3 H2 v,SI K B G3 H2 σ (zar js outs ρ)->Fz G G3->ResF K G3 H2 H v r->(∀b,H b=none->Nw K G3 H2 σ (zar js outs ρ) b)->Q v H2):spG K n F vs H Q E:=by
 obtain⟨fo,hfo⟩:=I.foot;have hk:=kF _ _ _ eF;have hln:=A.len;have hsl:∀{i j:Nat},js[i]? =some (some j)->∃u s v,ρ[j]? =some u/\u.hand=some s/\as[i]? =some s/\vs[i]? =some v/\σ[j]? =some (some v):=fun{i j} e=>by
  have hi:i<as.length:=by rw[<-hln.2];exact(qat.mp e).1
  obtain⟨v,h1,h2⟩:=A.get (qbN hi);rcases h2 with⟨z,_⟩|⟨j2,z1,z2,z3⟩
  ·rw[e]at z;cases z
  ·rw[e]at z1;cases z1;obtain⟨u,k1,k2⟩:=zaa z3;exact⟨u,_,v,k1,k2,qbN hi,h1,z2⟩
 let O:=mkO fo (hdOf σ) 0 js
 have hO1:∀{i:Nat} {b:Addr},i<js.length->(i,b)∈O->∃j,js[i]? =some (some j)/\b∈fo j:=fun{i b} hi m=>by
  obtain⟨k,j,h1,h2⟩:=mem_mkO.mp m;rcases h2 with⟨z,h2⟩|⟨z,h2⟩
  ·have:i=k:=by lia
   subst this;exact⟨j,h1,h2⟩
  ·lia
 have hO2:∀{i:Nat} {b:Addr},i<js.length->(i+4096,b)∈O->∃j,js[i]? =some (some j)/\σ[j]? =some (some (.ref b)):=fun{i b} hi m=>by
  obtain⟨k,j,h1,h2⟩:=mem_mkO.mp m;have:=(qat.mp h1).1;rcases h2 with⟨z,h2⟩|⟨z,h2⟩
  ·lia
  ·have:i=k:=by lia
   subst this;exact⟨j,h1,hdOf_mem.mp h2⟩
 have hOw:∀{i:Nat} {b:Addr},(i,b)∈O->∃(k j:Nat) (u:Sl),js[k]? =some (some j)/\ρ[j]? =some u/\OwS K G H σ[j]? b u:=fun{i b} m=>by
  obtain⟨k,j,h1,h2⟩:=mem_mkO.mp m;obtain⟨u,s,v,k1,k2,k3,k4,k5⟩:=hsl h1;rcases h2 with⟨z,h2⟩|⟨z,h2⟩
  ·exact⟨k,j,u,h1,k1,(hfo j u k1 b).mpr h2⟩
  ·exact⟨k,j,u,h1,k1,I.root k1 k2 (hdOf_mem.mp h2)⟩
 have gx:∀{i j:Nat} {u:Sl} {a:Addr},js[i]? =some (some j)->ρ[j]? =some u->OwS K G H σ[j]? a u->Gx a=none:=fun{i j u a} e eu w=>by
  cases q:Gx a with
  |none=>rfl
  |some o=>
   obtain⟨i2,s2,m1,m2,m3⟩:=L.ow a ((I.slot j u eu).own w).1 (by rw[q];simp);have nj:=zkY hj e;exact absurd m3 (I.dis j i2 u s2 a (fun z=>nj (z ▸ m1)) eu m2 w)
 have owA:∀{i:Nat} {s:Sl} {a:Addr},as[i]? =some s->OwS K Gx H (vs.map some)[i]? a s->∃(j:Nat) (u:Sl),js[i]? =some (some j)/\ρ[j]? =some u/\OwS K G H σ[j]? a u:=fun{i s a} e w=>by
  obtain⟨v,h1,h2⟩:=A.get e;rw[qba,h1]at w;rcases h2 with⟨_,d,rfl,_⟩|⟨j,z1,z2,z3⟩
  ·exact w.elim
  ·obtain⟨u,k1,k2⟩:=zaa z3;refine⟨j,u,z1,k1,?_⟩;have q:=I.slot j u k1;rw[z2];cases u with
   |emp=>cases k2
   |two _ _=>cases k2
   |val _=>cases k2
   |own ds=>cases k2;exact w
   |par ds=>cases k2;exact w
   |tre t=>
    cases k2;obtain⟨v2,A2,h3,h4,_⟩:=q;obtain⟨v3,A3,w1,w2,w3⟩:=w;cases w1;rw[z2]at h3;cases h3;rw[<-h4.det w2 fun _ _=>rfl]at w3;exact⟨v,A2,rfl,h4,w3⟩
   |ptr t=>
    cases k2;obtain⟨v2,A2,h3,h4,_⟩:=q;obtain⟨v3,A3,w1,w2,w3⟩:=w;cases w1;rw[z2]at h3;cases h3;rw[<-h4.det w2 fun _ _=>rfl]at w3;exact⟨v,A2,rfl,h4,w3⟩
 refine⟨Gx,O,as,r,outs,eF,hn,⟨L.fz,Fz.refl _,fun b o e=> .inl (by show Gx b≠none;rw[e];simp),fun b o e _=>e,fun b e=>e,by rw[qaT];exact hln.1,fun i b m=>?_,fun i s e=>?_,fun i k s t a ne e1 e2 w1 w2=>?_⟩,?_⟩
 ·obtain⟨k,j,u,h1,h2,h3⟩:=hOw m;exact((I.slot j u h2).own h3).2.1
 ·obtain⟨v,h1,h2⟩:=A.get e;rw[qba,h1];rcases h2 with⟨_,d,rfl,q⟩|⟨j,z1,z2,z3⟩
  ·exact⟨v,rfl,q⟩
  ·obtain⟨u,k1,k2⟩:=zaa z3;have q:=I.slot j u k1;have inO:∀{a:Addr},OwS K G H σ[j]? a u->(i,a)∈O:=fun{a} w=>mem_mkO.mpr ⟨i,j,z1,.inl ⟨by lia,(hfo j u k1 a).mp w⟩⟩
   have tag:∀{p:Addr},σ[j]? =some (some (.ref p))->(i+4096,p)∈O:=fun{p} w=>mem_mkO.mpr ⟨i,j,z1,.inr ⟨by lia,hdOf_mem.mpr w⟩⟩
   have lst:∀{l:Addr} {xs:List V} {ds:List D},OwS K G H σ[j]? l u->σ[j]? =some (some (.ref l))->H l=some (.lst xs)->RepL K G xs ds->SlotOk K ⟨Gx,H,O⟩ Gx H i (some (some v)) (.par ds):=fun{l xs ds} w h1 h2 h3=>by
    rw[z2]at h1;cases h1;exact⟨l,xs,rfl,gx z1 k1 w,h2,h3.mono L.up,inO w⟩
   have tre:∀{v2:V} {t:T} {A2:List Addr},(∀a∈A2,OwS K G H σ[j]? a u)->σ[j]? =some (some v2)->RepT K G H v2 t A2->A2.Nodup->SlotOk K ⟨Gx,H,O⟩ Gx H i (some (some v)) (.ptr t):=fun{v2 t A2} w h1 h2 h3=>by
    rw[z2]at h1;cases h1;obtain⟨p,rfl,_⟩:=h2.head;exact⟨.ref p,A2,rfl,h2.move L.up fun _ _=>rfl,⟨h3,p,rfl,tag z2⟩,fun a m=>⟨gx z1 k1 (w a m),inO (w a m)⟩⟩
   cases u with
   |emp=>cases k2
   |two _ _=>cases k2
   |val _=>cases k2
   |own ds=>cases k2;obtain⟨l,xs,h1,h2,h3,h4,h5⟩:=q;exact lst h1 h1 h3 h4
   |par ds=>cases k2;obtain⟨l,xs,h1,h2,h3,h4,h5⟩:=q;exact lst h1 h1 h3 h4
   |tre t=>cases k2;obtain⟨v2,A2,h1,h2,h3,h4⟩:=q;exact tre (fun a m=>⟨v2,A2,h1,h2,m⟩) h1 h2 h3
   |ptr t=>cases k2;obtain⟨v2,A2,h1,h2,h3,h4⟩:=q;exact tre (fun a m=>⟨v2,A2,h1,h2,m⟩) h1 h2 h3.1
 ·obtain⟨j,u,h1,h2,h3⟩:=owA e1 w1;obtain⟨j2,u2,g1,g2,g3⟩:=owA e2 w2;exact I.dis j j2 u u2 a (fun z=>by subst z;exact ne (ziE hj h1 g1)) h2 g2 h3 g3
 ·intro G2 H2 v f2 fz2 nw2 kp2 th2 so2 rr2;have trS:∀{i:Nat} {s:Sl} {ov:Option (Option V)},outs[i]? =some s->SlotOk K ⟨Gx,H,O⟩ G2 H2 i ov s->SlotOk K ⟨Gx,H,O⟩ (M.thin G Gx G2) H2 i ov s:=fun{i s ov} e h=>by
   rw[qbL]at ck;rcases ck with ck|ck
   ·have:M.thin G Gx G2=G2:=funext fun a=>by
     unfold M.thin;rw[if_neg fun z=>by
      obtain⟨i,s,m,_⟩:=L.ow a z.1 z.2;rw[List.isEmpty_iff.mp ck]at m;cases m]
    rw[this];exact h
   ·rw[qbo]at ck;exact h.thin f2 L.odd (qbX.mp ck.2 s (qbb e))
  have trR:ResF K (M.thin G Gx G2) H2 H v r:=by
   rw[qbL]at ck;rcases ck with ck|ck
   ·have:M.thin G Gx G2=G2:=funext fun a=>by
     unfold M.thin;rw[if_neg fun z=>by
      obtain⟨i,s,m,_⟩:=L.ow a z.1 z.2;rw[List.isEmpty_iff.mp ck]at m;cases m]
    rw[this];exact rr2
   ·rw[qbo]at ck;exact rr2.thin f2 L.odd ck.1
  have fg:Fz G (M.thin G Gx G2):=thin_up (L.up.trans f2);have nw3:∀b o,M.thin G Gx G2 b=some o->G b≠none\/H b=none:=fun b o e=>by
   rcases nw2 b o (zlf b o e)with z|z
   ·refine .inl fun g=>?_
    unfold M.thin at e;rw[if_pos ⟨g,z⟩]at e;cases e
   ·exact .inr z
  have stay:∀{q:Nat} {t:Sl} {a:Addr},ρ[q]? =some t->(∀i:Nat,js[i]?≠some (some q))->OwS K G H σ[q]? a t->G a=none->H a≠none->M.thin G Gx G2 a=none/\H2 a=H a:=fun{q t a} e nj w g h=>by
   refine⟨?_,?_⟩
   ·cases z:M.thin G Gx G2 a with
    |none=>rfl
    |some o=>
     rcases nw3 a o z with z|z
     ·exact absurd g z
     ·exact absurd z h
   ·obtain⟨o,ho⟩:=qbG.mp h;rw[ho];refine kp2 a o ho fun i m=>?_
    obtain⟨k,j,u,h1,h2,h3⟩:=hOw m;exact I.dis q j t u a (fun z=>by subst z;exact nj k h1) e h2 w h3
  have lo:js.length<=outs.length:=by
   have:∀{as os:R},zi9 as os=true->as.length<=os.length:=by
    intro as
    induction as with
    |nil=>intro os _;simp
    |cons a as ih=>
     intro os h;cases os with
     |nil=>cases a<;>cases h
     |cons o os=>
      have h':zi9 as os=true:=by cases a<;>cases o<;>first|exact h|cases h
      simpa using ih h'
   rw[hln.2];exact this hk
  have slotN:∀{q:Nat} {t:Sl},(zar js outs ρ)[q]? =some t->SlotOk K B (M.thin G Gx G2) H2 q σ[q]? t/\∀a,OwS K (M.thin G Gx G2) H2 σ[q]? a t->∃u,ρ[q]? =some u/\OwS K G H σ[q]? a u:=fun{q t} e=>by
   rcases zdS hj lo e with⟨e1,nj⟩|⟨i,s,u,e1,e2,e3,rfl⟩
   ·have sl:=I.slot q t e1;exact⟨sl.mono fg fun a w g h=>stay e1 nj w g h,fun a w=>⟨t,e1,sl.back (fun a w g h=>stay e1 nj w g h) w⟩⟩
   ·have hi:i<js.length:=(qat.mp e1).1;obtain⟨u2,s0,v0,k1,k2,k3,k4,k5⟩:=hsl e1;rw[e3]at k1;cases k1;obtain⟨ov,so⟩:=so2 i s e2;have so:=trS e2 so;have sl:=I.slot q u e3;rcases zfx hk k3 with⟨ds,es,rfl,z⟩|⟨t,t2,rfl,z⟩|⟨d,rfl,z⟩
    ·rw[e2]at z;cases z;obtain⟨l,ys,h1,h2,h3,h4,h5⟩:=so;obtain⟨j,m1,m2⟩:=hO1 hi h5;rw[e1]at m1;cases m1;have ow:=(hfo q u e3 l).mpr m2;cases u with
     |emp=>cases k2
     |two _ _=>cases k2
     |val _=>cases k2
     |tre _=>cases k2
     |ptr _=>cases k2
     |own ds0=>
      obtain⟨l0,xs0,g1,g2,g3,g4,g5⟩:=sl;have hl:σ[q]? =some (some (.ref l)):=ow;rw[hl]at g1;cases g1;exact⟨⟨l,ys,hl,h2,h3,h4,g5⟩,fun a w=>⟨_,e3,w⟩⟩
     |par ds0=>
      obtain⟨l0,xs0,g1,g2,g3,g4,g5⟩:=sl;have hl:σ[q]? =some (some (.ref l)):=ow;rw[hl]at g1;cases g1;exact⟨⟨l,ys,hl,h2,h3,h4,g5⟩,fun a w=>⟨_,e3,w⟩⟩
    ·rw[e2]at z;cases z;obtain⟨v2,A2,h1,h2,⟨h3,p,rfl,h4⟩,h5⟩:=so;obtain⟨j,m1,m2⟩:=hO2 hi h4;rw[e1]at m1;cases m1;have old:∀a∈A2,OwS K G H σ[q]? a u:=fun a m=>by
      obtain⟨j,m1,m2⟩:=hO1 hi (h5 a m).2;rw[e1]at m1;cases m1;exact(hfo q u e3 a).mpr m2
     have owb:∀a,(∃v A,σ[q]? =some (some v)/\RepT K (M.thin G Gx G2) H2 v t2 A/\a∈A)->∃u,ρ[q]? =some u/\OwS K G H σ[q]? a u:=fun a ⟨v3,A3,w1,w2,w3⟩=>by
      rw[m2]at w1;cases w1;rw[<-h2.det w2 fun _ _=>rfl]at w3;exact⟨u,e3,old a w3⟩
     cases u with
     |emp=>cases k2
     |two _ _=>cases k2
     |val _=>cases k2
     |own _=>cases k2
     |par _=>cases k2
     |tre t0=>
      refine⟨⟨.ref p,A2,m2,h2,h3,fun a m=>⟨(h5 a m).1,?_⟩⟩,owb⟩;obtain⟨v4,A4,g1,g2,g3,g4⟩:=sl;obtain⟨v5,A5,w1,w2,w3⟩:=old a m;rw[g1]at w1;cases w1;rw[<-g2.det w2 fun _ _=>rfl]at w3;exact(g4 a w3).2
     |ptr t0=>
      obtain⟨v4,A4,g1,g2,g3,g4⟩:=sl;refine⟨⟨.ref p,A2,m2,h2,⟨h3,p,rfl,?_⟩,fun a m=>⟨(h5 a m).1,?_⟩⟩,owb⟩
      ·obtain⟨p2,z1,z2⟩:=g3.2;rw[m2]at g1;cases g1;cases z1;exact z2
      ·obtain⟨v5,A5,w1,w2,w3⟩:=old a m;rw[g1]at w1;cases w1;rw[<-g2.det w2 fun _ _=>rfl]at w3;exact(g4 a w3).2
    ·cases u<;>cases k2
  refine kk (M.thin G Gx G2) H2 v ⟨fun a o e=>fz2 a o (zlf a o e),I.g0.trans fg,fun b o e=>?_,fun b o e nb=>?_,fun b e=>I.there b (th2 b e),by rw[zfb];exact I.len,I.ob,fun q t e=>(slotN e).1,fun q q2 s t a ne e1 e2 w1 w2=>?_⟩ fg trR fun b hb q t e w=>?_
  ·rcases nw3 b o e with z|z
   ·cases y:G b with
    |none=>exact absurd y z
    |some u=>exact I.new b u y
   ·exact .inr (I.there b z)
  ·refine kp2 b o (I.keep b o e nb) fun i m=>?_
   obtain⟨k,j,u,h1,h2,h3⟩:=hOw m;rcases((I.slot j u h2).own h3).2.2 with z|z
   ·rw[e]at z;cases z
   ·exact nb j z
  ·obtain⟨u,h1,h2⟩:=(slotN e1).2 a w1;obtain⟨u2,g1,g2⟩:=(slotN e2).2 a w2;exact I.dis q q2 u u2 a ne h1 g1 h2 g2
  ·obtain⟨u,h1,h2⟩:=(slotN e).2 b w;exact((I.slot q u h1).own h2).2.1 hb
end
noncomputable def zg1:R->Option (List D)
 |[]=>some []
 | .val d::as=>(zg1 as).map (d:: ·)
 |_=>none
noncomputable def ze8 (F:List D->Option Sl):R->Option (Sl×R):=fun as=>(zg1 as).bind fun ds=>(F ds).map fun r=>(r,as.map fun _=> .emp)
theorem zia:∀{as:R} {ds:List D},zg1 as=some ds->zi9 as (as.map fun _=>Sl.emp)=true
 |[],_,_=>rfl
 | .val d::as,_,h=>by obtain⟨ds,e,_⟩:=zaf h;exact zia (as:=as) e
theorem zca:zke (ze8 F):=fun as r os h=>by
 obtain⟨ds,e1,h⟩:=zaa h;obtain⟨r,e2,h⟩:=zaf h;cases h;exact zia e1
theorem vals_rep:∀{as:R} {vs:List V} {ds:List D},zg1 as=some ds->as.length=vs.length->(∀(i:Nat) (s:Sl),as[i]? =some s->SlotOk K B G H i (vs.map some)[i]? s)->RepL K G vs ds
 |[],[],_,h,_,_=>by cases h;exact .nil
 |[],_::_,_,_,h,_=>by simp at h
 | .val d::as,[],_,_,h,_=>by simp at h
 | .val d::as,v::vs,_,h,hl,k=>by
  obtain⟨ds,e,q⟩:=zaf h;cases q;obtain⟨w,h1,h2⟩:=k 0 _ rfl;have:v=w:=by simpa using h1
  subst this;have rest:∀{as:R} {vs:List V} {ds:List D},zg1 as=some ds->as.length=vs.length->(∀(i:Nat) (s:Sl),as[i]? =some s->∃d v,s= .val d/\vs[i]? =some v/\RepD K G v d)->RepL K G vs ds:=by
   intro as
   induction as with
   |nil=>intro vs ds h hl _;cases h;cases vs with
    |nil=>exact .nil
    |cons _ _=>simp at hl
   |cons a as ih=>
    intro vs ds h hl k;cases vs with
    |nil=>simp at hl
    |cons v vs=>
     cases a with
     |val d=>
      obtain⟨ds,e,q⟩:=zaf h;cases q;obtain⟨d2,v2,z1,z2,z3⟩:=k 0 _ rfl;cases z1;cases(show some v=some v2 from z2);exact .cons z3 (ih e (by simpa using hl) fun i s es=>by simpa using k (i+1) s (by simpa using es))
     |_=>cases h
  have hv:∀{as:R} {ds:List D} {i:Nat} {s:Sl},zg1 as=some ds->as[i]? =some s->∃d,s= .val d:=by
   intro as
   induction as with
   |nil=>intro ds i s _ e;simp at e
   |cons a as ih=>
    intro ds i s h e;cases a with
    |val d=>
     obtain⟨ds,e2,q⟩:=zaf h;cases i with
     |zero=>simp at e;exact⟨d,e.symm⟩
     |succ i=>exact ih e2 (by simpa using e)
    |_=>cases h
  refine .cons h2 (rest e (by simpa using hl) fun i s es=>?_);obtain⟨d2,rfl⟩:=hv e es;obtain⟨w,h3,h4⟩:=k (i+1) _ (by simpa using es);rw[qba,qbS]at h3;cases q:vs[i]? with
  |none=>rw[q]at h3;cases h3
  |some y=>rw[q]at h3;cases h3;exact⟨d2,_,rfl,rfl,h4⟩
theorem zgZ {n:Nat}(h:spG K n (ze8 F) vs H Q E):spP K n F vs H Q E:=by
 obtain⟨G,O,as,r,outs,e1,h2,I,kk⟩:=h;obtain⟨ds,e2,e1⟩:=zaa e1;obtain⟨r',e3,e1⟩:=zaf e1;cases e1;have hl:as.length=vs.length:=by have:=I.len;rw[qaT]at this;exact this.symm
 have rp:=vals_rep e2 hl I.slot;refine⟨G,ds,r,e3,by rw[<-rp.length,<-hl,h2],I.fz,rp,fun G' H' v f fz nw kp rr=>kk G' H' v f fz nw (fun b o e _=>kp b o e) (fun b e=>kp.free e) (fun i s e=>?_) rr⟩;rw[qba]at e;cases q:as[i]? with
 |none=>rw[q]at e;cases e
 |some a=>rw[q]at e;cases e;exact⟨none,trivial⟩
noncomputable def ckG (ls:List Nat)(z:Sl×R):Bool:=ls.isEmpty||(flS z.1&&z.2.all flS)
noncomputable def za1 (F:R->Option (Sl×R))(js:List (Option Nat))(ls:List Nat)(mg:MG):ME:=fun ρ=>(mg ρ).bind fun q=>(F q.1).bind fun z=>if ckG ls z then match z.1 with
 | .val d=>some (d,zar js z.2 q.2)
 | .own ds=>some (.lst ds,zar js z.2 q.2)
 | .tre (.tup cs)=>some (.tup (cs.map Ch.D),zar js z.2 q.2)
 |_=>none else none
noncomputable def znt (i:Nat)(F:R->Option (Sl×R))(js:List (Option Nat))(ls:List Nat)(mg:MG):MS:=fun ρ=>(mg ρ).bind fun q=>(F q.1).bind fun z=>if ckG ls z then match z.1 with
 | .val d=>some (.next,(zar js z.2 q.2).set i (.val d))
 | .own ds=>some (.next,(zar js z.2 q.2).set i (.own ds))
 | .tre t=>some (.next,(zar js z.2 q.2).set i (.tre t))
 |_=>none else none
noncomputable def bkT (n:Int)(ds:List D):T:= .ins "SumBook" [("many",.d (.int n)),("kept",.l ds)]
noncomputable def T.bk:T->Option (Int×List D)
 | .ins c [(a,.d (.int n)),(b,.l ds)]=>if c="SumBook"/\a="many"/\b="kept" then some (n,ds)else none
 |_=>none
noncomputable def Sl.bk:Sl->Option (Int×List D)
 | .tre t=>t.bk
 | .ptr t=>t.bk
 |_=>none
theorem bkT_bk:(bkT n ds).bk=some (n,ds):=by
 show(if("SumBook":Str)="SumBook"/\("many":Str)="many"/\("kept":Str)="kept" then some (n,ds)else none)=some (n,ds);rw[if_pos ⟨rfl,rfl,rfl⟩]
theorem T.bk_eq (h:t.bk=some (n,ds)):t=bkT n ds:=by
 unfold T.bk at h
 split at h
 ·split at h
  ·rename_i q;obtain⟨rfl,rfl,rfl⟩:=q;cases h;rfl
  ·cases h
 ·cases h
noncomputable def zda (j:Nat)(r:MG):MG:=fun ρ=>if(ρ[j]?.bind Sl.bk).isSome then(r ρ).bind fun q=>(q.2[j]?.bind Sl.hand).map fun s=>(s::q.1,q.2)else none
structure MD (P:Program) (w:World) (K:W.Frag) (mg:Str->Option Value) (base:Heap) (k:Nat) (m:Str) (sp:Sp):Prop where
 ex:∃C f fd ps,W.nsIn K mainGlobals "SumBook"=some (some (.ref C))/\Cls K C/\Meth K C m f/\FnOk P w K mg base CX0 k f fd ps sp/\Binds K fd ps []
section
variable {K:W.Frag} {B:Bs} {G H:Hp} {σ:St} {ρ:R}
structure BkAt (K:W.Frag) (G H:Hp) (p C dx l:Addr) (n:Int) (xs:List V) (ds:List D):Prop where
 ns:W.nsIn K mainGlobals "SumBook"=some (some (.ref C))
 ob:H p=some (.ins C dx [("many",.int n),("kept",.ref l)])
 dx:H dx=some (.own p)
 ls:H l=some (.lst xs)
 rp:RepL K G xs ds
theorem BkAt.rep (b:BkAt K G H p C dx l n xs ds):RepT K G H (.ref p) (bkT n ds) [p,dx,l]:=
 ⟨p,C,dx,[("many",.int n),("kept",.ref l)],[l],rfl,b.ns,b.ob,b.dx,rfl,⟨[],[l],⟨rfl,rfl⟩,⟨[l],[],⟨l,xs,rfl,b.ls,b.rp,rfl⟩,rfl,rfl⟩,rfl⟩,rfl⟩
theorem bk_rep (r:RepT K G H v (bkT n ds) A):∃p C dx l xs,v= .ref p/\A=[p,dx,l]/\BkAt K G H p C dx l n xs ds:=by
 obtain⟨p,C,dx,ws,A',h1,h2,h3,h4,h5,h6,h7⟩:=r;have hl:ws.length=2:=by have:=congrArg List.length h5;simpa using this
 match ws,hl with
 |[w,w2],_=>
    obtain⟨a1,b1⟩:=w;obtain⟨a2,b2⟩:=w2;obtain⟨A1,A2,⟨q1,q2⟩,⟨A3,A4,⟨l,xs,q3,q4,q5,q6⟩,q7,q8⟩,q9⟩:=h6;simp only[qaS,qbq,List.cons.injEq,and_true]at h5;obtain⟨rfl,rfl⟩:=h5;cases(show b1=V.int n from q1);cases(show b2=V.ref l from q3);subst q2 q6;have:A4=[]:=q7;subst this;rw[q8]at q9;rw[q9]at h7;exact⟨p,C,dx,l,xs,h1,h7,⟨h2,h3,h4,q4,q5⟩⟩
theorem SI.bk (I:SI K B G H σ ρ)(e:ρ[j]? =some s)(q:s.bk=some (n,ds)):∃p C dx l xs,σ[j]? =some (some (.ref p))/\BkAt K G H p C dx l n xs ds/\[p,dx,l].Nodup/\(∀a,OwS K G H σ[j]? a s↔a∈[p,dx,l]):=by
 have h:=I.slot j s e;have fin:∀{v:V} {A:List Addr},σ[j]? =some (some v)->RepT K G H v (bkT n ds) A->A.Nodup->(∀a,OwS K G H σ[j]? a s↔∃v A,σ[j]? =some (some v)/\RepT K G H v (bkT n ds) A/\a∈A)->∃p C dx l xs,σ[j]? =some (some (.ref p))/\BkAt K G H p C dx l n xs ds/\[p,dx,l].Nodup/\(∀a,OwS K G H σ[j]? a s↔a∈[p,dx,l]):=fun{v A} h1 h2 h3 h4=>by
  have h2':=h2;obtain⟨p,C,dx,l,xs,rfl,rfl,b⟩:=bk_rep h2;refine⟨p,C,dx,l,xs,h1,b,h3,fun a=>(h4 a).trans ⟨fun⟨v2,A2,k1,k2,k3⟩=>?_,fun m=>⟨_,_,h1,h2',m⟩⟩⟩;rw[h1]at k1;cases k1;rwa[h2'.det k2 fun _ _=>rfl]
 cases s with
 |tre t=>
  cases T.bk_eq q;obtain⟨v,A,h1,h2,h3,_⟩:=h;exact fin h1 h2 h3 fun a=>Iff.rfl
 |ptr t=>
  cases T.bk_eq q;obtain⟨v,A,h1,h2,h3,_⟩:=h;exact fin h1 h2 h3.1 fun a=>Iff.rfl
 |_=>cases q
theorem bk_no {C dx l:Addr}{mt:Str}(h1:¬mt="many")(h2:¬mt="kept"):([("many",V.int n),("kept",V.ref l)]:List (Str×V)).lookup mt=none:=by
 have b1:(mt==("many":Str))=false:=qab.mpr h1;have b2:(mt==("kept":Str))=false:=qab.mpr h2;simp only[List.lookup,b1,b2]
theorem zg5:([("many",V.int n),("kept",V.ref l)]:List (Str×V)).lookup ("kept":Str)=some (.ref l):=by
 have b1:(("kept":Str)==("many":Str))=false:=by decide+kernel
 have b2:(("kept":Str)==("kept":Str))=true:=by decide+kernel
 simp only[List.lookup,b1,b2]
theorem bk_many:([("many",V.int n),("kept",V.ref l)]:List (Str×V)).lookup ("many":Str)=some (.int n):=by
 have b2:(("many":Str)==("many":Str))=true:=by decide+kernel
 simp only[List.lookup,b2]
end
section
variable {X:Cx} {x y mt:Str} {p pos py ap tpos:Pos} {e:Expr} {es:List Expr} {js:List (Option Nat)} {ls:List Nat} {mg:MG} {k k' n:Nat} {F:R->Option (Sl×R)} {sp:Sp}
theorem endG {G H:Hp}
  (hm : (match r with
   | .val d=>some (d,zar js outs ρ)
   | .own ds=>some (.lst ds,zar js outs ρ)
   | .tre (.tup cs)=>some (.tup (cs.map Ch.D),zar js outs ρ)
   |_=>none)=some (d,ρ')) (I:SI X.K B G H σ ρ) (kk:∀G' H' v,SI X.K B G' H' σ ρ'->Fz G G'->RepD X.K G' v d->Q v H'):
  ∀G3 H2 v,SI X.K B G3 H2 σ (zar js outs ρ)->Fz G G3->ResF X.K G3 H2 H v r->(∀b,H b=none->Nw X.K G3 H2 σ (zar js outs ρ) b)->Q v H2:=fun G3 H2 v I3 f3 rr nw=>by
 split at hm
 ·cases hm;exact kk G3 H2 v I3 f3 rr
 ·cases hm;obtain⟨l,xs,rfl,g3,h3,r3,b3⟩:=rr;obtain⟨I4,f4,r4⟩:=zkg I3 g3 h3 r3 (I.there l b3) (nw l b3);exact kk _ H2 _ I4 (f3.trans f4) r4
 ·cases hm;obtain⟨A,q1,q2,q3⟩:=rr;have hA:∀a∈A,G3 a=none/\B.H a=none/\Nw X.K G3 H2 σ (zar js outs ρ) a:=fun a m=>⟨(q3 a m).1,I.there a (q3 a m).2,nw a (q3 a m).2⟩
  obtain⟨p,xs,A',rfl,g1,g2,rfl⟩:=q1;have fg:=frA_fz (H:=H2) fun a m=>(hA a m).1
  exact kk (frA G3 H2 (p::A')) H2 _ (I3.frzA hA) (f3.trans fg) ⟨p,xs,rfl,by rw[zdt (by simp)];exact g1,zfs fg g2 fun a m=>zdt (by simp[m])⟩
 ·cases hm
theorem endS {fl:Fl}{E:Ends}
  (hm : (match r with
   | .val d=>some (Fl.next,(zar js outs ρ).set i (.val d))
   | .own ds=>some (Fl.next,(zar js outs ρ).set i (.own ds))
   | .tre t=>some (Fl.next,(zar js outs ρ).set i (.tre t))
   |_=>none)=some (fl,ρ')) (I:SI X.K B G H σ ρ) (k:Post X.K B G E fl ρ'):
  ∀G3 H2 v,SI X.K B G3 H2 σ (zar js outs ρ)->Fz G G3->ResF X.K G3 H2 H v r->(∀b,H b=none->Nw X.K G3 H2 σ (zar js outs ρ) b)->E.nx (σ.set i (some v)) H2:=fun G3 H2 v I3 f3 rr nw=>by
 split at hm
 ·cases hm;exact k G3 H2 _ (I3.set rr) f3
 ·cases hm;obtain⟨l,xs,rfl,g3,h3,r3,b3⟩:=rr;exact k G3 H2 _ (I3.setO g3 h3 r3 (I.there l b3) (nw l b3)) f3
 ·cases hm;obtain⟨A,q1,q2,q3⟩:=rr;exact k G3 H2 _ (I3.setT q1 q2 fun a m=>⟨(q3 a m).1,I.there a (q3 a m).2,nw a (q3 a m).2⟩) f3
 ·cases hm
theorem zbb (fd:FD X.prog X.w X.K X.mg X.base k x sp)(hsp:∀vs H Q E,spG X.K n F vs H Q E->sp vs H Q E)(kF:zke F)(hr:Room k' X.A)(ha:SGA X js ls (e::es) mg)(hn:autoParam (js.length=n) zu3._auto_1)(hj:autoParam (jsOk js ls=true) zu3._auto_1)(lt:autoParam (js.length<=4096) zu1._auto_1)(hk:autoParam (k<=k') zu1._auto_1)(hg:autoParam (Gl X x) zu3._auto_1)(hdb:autoParam ((x==("__debug__":Str))=false) zu1._auto_1)
  (he:autoParam (starEach (e::es) X.env=(false,eval e X.env)::starEach es X.env) zu3._auto_1) (hpl:autoParam ((backTo pos (starEach es X.env)).any (·.1)=false) zu3._auto_1):SE X (.Call (.Name x p) (e::es) [] pos) (za1 F js ls mg):=by
 obtain⟨f,fdd,ps,G0,h1,h2,h3⟩:=fd.ex;obtain⟨t,pa,sa⟩:=ha;refine⟨_,zg0 G0 (hr.mono hk) hg h1 h2 h3 .nil zjO pa hdb he hpl,fun B G H σ ρ d ρ' Q I hm kk=>?_⟩;obtain⟨⟨as,ρ1⟩,e1,hm⟩:=zaa hm;obtain⟨⟨r,outs⟩,e2,hm⟩:=zaa hm;dsimp only at hm
 split at hm
 ·rename_i ck;refine sa B G H σ ρ as ρ1 _ I e1 fun G1 H1 vs Gx I1 f1 L A=>?_
  show sp (vs++[]) H1 Q E0;rw[qaY];exact hsp _ _ _ _ (zmv I1 L A e2 (by rw[<-A.len.2,hn]) kF hj lt ck (endG hm I1 fun G' H' v I' f' rr=>kk G' H' v I' (f1.trans f') rr))
 ·cases hm
theorem znu (i:Nat)(fd:FD X.prog X.w X.K X.mg X.base k x sp)(hsp:∀vs H Q E,spG X.K n F vs H Q E->sp vs H Q E)(kF:zke F)(hr:Room k' X.A)(ha:SGA X js ls (e::es) mg)(hN:X.N.Nodup)(hi:autoParam (X.N[i]? =some y) zu3._auto_1)(hx:autoParam (Loc X.env.scope y) zu9._auto_1)(hf:autoParam (X.fn y=true\/X.env.scope.names.lookup y=some .local) zu9._auto_1)(hn:autoParam (js.length=n) zu3._auto_1)(hj:autoParam (jsOk js ls=true) zu3._auto_1)(lt:autoParam (js.length<=4096) zu1._auto_1)(hk:autoParam (k<=k') zu1._auto_1)(hg:autoParam (Gl X x) zu3._auto_1)(hdb:autoParam ((x==("__debug__":Str))=false) zu1._auto_1)
  (he:autoParam (starEach (e::es) X.env=(false,eval e X.env)::starEach es X.env) zu3._auto_1) (hpl:autoParam ((backTo pos (starEach es X.env)).any (·.1)=false) zu3._auto_1) (hs:autoParam (swapsWith (.Call (.Name x p) (e::es) [] pos) (some (.Name y py)) tpos.line X.env=pure false) zu3._auto_1):SS X (.Assign [.Name y py] (.Call (.Name x p) (e::es) [] pos) tpos) (znt i F js ls mg):=by
 obtain⟨f,fdd,ps,G0,h1,h2,h3⟩:=fd.ex;obtain⟨t,pa,sa⟩:=ha;refine⟨_,zgv hN hi hx (zg0 G0 (hr.mono hk) hg h1 h2 h3 .nil zjO pa hdb he hpl) hs hf,fun B G H σ ρ fl ρ' E I hm kk=>?_⟩;obtain⟨⟨as,ρ1⟩,e1,hm⟩:=zaa hm;obtain⟨⟨r,outs⟩,e2,hm⟩:=zaa hm;dsimp only at hm
 split at hm
 ·rename_i ck;refine sa B G H σ ρ as ρ1 _ I e1 fun G1 H1 vs Gx I1 f1 L A=>?_
  show sp (vs++[]) H1 _ E0;rw[qaY];exact hsp _ _ _ _ (zmv I1 L A e2 (by rw[<-A.len.2,hn]) kF hj lt ck (endS hm I1 (kk.mono f1)))
 ·cases hm
theorem zfv (j:Nat)(md:MD X.prog X.w X.K X.mg X.base k mt (spG X.K n F))(kF:zke F)(hr:Room k' X.A)(ha:SGA X js ls (e::es) mg)(hN:autoParam (X.N[j]? =some x) zu3._auto_1)(hv:autoParam (Vis X.env.scope x) zu6._auto_1)(hd:autoParam ((x==("__debug__":Str))=false) zu1._auto_1)
  (hcd:autoParam ((x==("__classdict__":Str))=false) zu1._auto_1) (hn:autoParam (js.length+1=n) zu3._auto_1) (hj:autoParam (jsOk (some j::js) ls=true) zu3._auto_1) (lt:autoParam (js.length+1<=4096) zu1._auto_1) (hm1:autoParam (¬mt="many") zu11._auto_1) (hm2:autoParam (¬mt="kept") zu11._auto_1) (hk:autoParam (k<=k') zu1._auto_1)
  (he:autoParam (starEach (e::es) X.env=(false,eval e X.env)::starEach es X.env) zu3._auto_1) (hpl:autoParam ((backTo pos (starEach es X.env)).any (·.1)=false) zu3._auto_1)
  (ht :autoParam (eval (.Call (.Attribute (.Name x p) mt ap) (e :: es) [] pos) X.env = (do
   let ov<-eval (.Name x p) X.env
   standAt ap.atName
   let(f,first)<-holding [ov] (getMethod ov mt pl)
   callWith pos f first (backTo pos (starEach (e::es) X.env)) (backToKw pos (keywordEach [] X.env)))) zu3._auto_1):SE X (.Call (.Attribute (.Name x p) mt ap) (e::es) [] pos) (za1 F (some j::js) ls (zda j mg)):=by
 obtain⟨C,f,fdd,ps,c1,c2,c3,c4,c5⟩:=md.ex;obtain⟨t,pa,sa⟩:=ha;refine⟨_,pe_meth (zaX hN hv hd hcd) c2 c3 c4 (hr.mono hk) c5 .nil zjO pa he hpl ht,fun B G H σ ρ d ρ' Q I hm kk=>?_⟩;obtain⟨⟨as,ρ1⟩,e1,hz1⟩:=zaa hm;obtain⟨⟨r,outs⟩,e2,hz2⟩:=zaa hz1;clear hm hz1;dsimp only at hz2 e2
 split at hz2
 ·rename_i ck;unfold zda at e1
  split at e1
  ·rename_i hi;obtain⟨⟨n0,ds0⟩,hi⟩:=qa4.mp hi;obtain⟨s0,i1,i2⟩:=zaa hi;obtain⟨q,C2,dx,l0,xs0,h1,b0,_⟩:=I.bk i1 i2;have h2:=b0.ns;rw[c1]at h2;cases h2;obtain⟨⟨as1,ρ2⟩,e3,e1⟩:=zaa e1;obtain⟨s,e4,e1⟩:=zaf e1;cases e1;refine⟨.ref q,h1,q,dx,_,rfl,b0.ob,bk_no (C:=C) (dx:=dx) hm1 hm2,sa B G H σ ρ as1 ρ2 _ I e3 fun G1 H1 vs Gx I1 f1 L A=>?_⟩;show spG X.K n F (V.ref q::(vs++[])) H1 Q E0;rw[qaY];exact zmv (js:=some j::js) I1 L (show ArgsOk X.K Gx σ ρ2 (some j::js) (V.ref q::vs) (s::as1)from⟨⟨h1,e4⟩,A⟩) e2 (by rw[qaQ,<-A.len.2,hn]) kF hj (by simpa using lt) ck (endG hz2 I1 fun G' H' v I' f' rr=>kk G' H' v I' (f1.trans f') rr)
  ·cases e1
 ·cases hz2
theorem zhr (j:Nat)(md:MD X.prog X.w X.K X.mg X.base k mt (spG X.K 1 F))(kF:zke F)(hr:Room k' X.A)(hN:autoParam (X.N[j]? =some x) zu3._auto_1)(hv:autoParam (Vis X.env.scope x) zu6._auto_1)(hd:autoParam ((x==("__debug__":Str))=false) zu1._auto_1)
  (hcd:autoParam ((x==("__classdict__":Str))=false) zu1._auto_1) (hm1:autoParam (¬mt="many") zu11._auto_1) (hm2:autoParam (¬mt="kept") zu11._auto_1) (hk:autoParam (k<=k') zu1._auto_1)
  (ht :autoParam (eval (.Call (.Attribute (.Name x p) mt ap) [] [] pos) X.env = (do
   let ov<-eval (.Name x p) X.env
   standAt ap.atName
   let(f,first)<-holding [ov] (getMethod ov mt pl)
   callWith pos f first (backTo pos (starEach [] X.env)) (backToKw pos (keywordEach [] X.env)))) zu3._auto_1):SE X (.Call (.Attribute (.Name x p) mt ap) [] [] pos) (za1 F [some j] [] (zda j hNil)):=by
 obtain⟨C,f,fdd,ps,c1,c2,c3,c4,c5⟩:=md.ex;refine⟨_,pe_meth0 (zaX hN hv hd hcd) c2 c3 c4 (hr.mono hk) c5 .nil zjO ht,fun B G H σ ρ d ρ' Q I hm kk=>?_⟩;obtain⟨⟨as,ρ1⟩,e1,hz1⟩:=zaa hm;obtain⟨⟨r,outs⟩,e2,hz2⟩:=zaa hz1;clear hm hz1;dsimp only at hz2 e2
 split at hz2
 ·rename_i ck;unfold zda at e1
  split at e1
  ·rename_i hi;obtain⟨⟨n0,ds0⟩,hi⟩:=qa4.mp hi;obtain⟨s0,i1,i2⟩:=zaa hi;obtain⟨q,C2,dx,l0,xs0,h1,b0,_⟩:=I.bk i1 i2;have h2:=b0.ns;rw[c1]at h2;cases h2;obtain⟨⟨as1,ρ2⟩,e3,e1⟩:=zaa e1;obtain⟨s,e4,e1⟩:=zaf e1;cases e1;cases e3;refine⟨.ref q,h1,q,dx,_,rfl,b0.ob,bk_no (C:=C) (dx:=dx) hm1 hm2,?_⟩;show spG X.K 1 F (V.ref q::([]++[])) H Q E0;exact zmv (js:=[some j]) (ls:=[]) (Gx:=G) I ⟨Fz.refl G,I.fz,fun a g n=>absurd g n,fun a o g n=>by rw[g]at n;cases n⟩ (show ArgsOk X.K G σ ρ [some j] [V.ref q] [s]from⟨⟨h1,e4⟩,trivial⟩) e2 rfl kF rfl (by show 1<=4096;decide) ck (endG hz2 I fun G' H' v I' f' rr=>kk G' H' v I' f' rr)
  ·cases e1
 ·cases hz2
end
noncomputable def BkC (K:W.Frag):Prop:=∃C,W.nsIn K mainGlobals "SumBook"=some (some (.ref C))/\Cls K C/\NoAttr K C "many"/\NoAttr K C "kept"
noncomputable def eBkN (j:Nat):ME:=fun ρ=>(ρ[j]?.bind Sl.bk).map fun q=>(.int q.1,ρ)
noncomputable def eBkL (j:Nat):ME:=fun ρ=>(ρ[j]?.bind Sl.bk).map fun q=>(.int q.2.length,ρ)
noncomputable def onlyV (ρ:R):R:=ρ.map fun s=>match s with
 | .val d=> .val d
 |_=> .emp
noncomputable def sBkA (j:Nat)(me:ME):MS:=fun ρ=>(ρ[j]?.bind Sl.bk).bind fun q=>(me (onlyV ρ)).bind fun p=>if q.2.length<16777216 then(ρ[j]?).map fun s=>(.next,ρ.set j (s.putT (bkT q.1 (q.2++[p.1]))))else none
noncomputable def sBkP (j:Nat):MS:=fun ρ=>(ρ[j]?.bind Sl.bk).bind fun q=>if q.2.isEmpty then none else(ρ[j]?).map fun s=>(.next,ρ.set j (s.putT (bkT q.1 q.2.dropLast)))
noncomputable def yNil:R->Option R:=fun _=>some []
noncomputable def zjS (j:Nat)(r:R->Option R):R->Option R:=fun ρ=>(r ρ).bind fun as=>(ρ[j]?.bind Sl.look).map fun d=> .val d::as
noncomputable def zmL (j:Nat)(r:R->Option R):R->Option R:=fun ρ=>(r ρ).bind fun as=>(ρ[j]?.bind Sl.bk).map fun q=> .val (.lst q.2)::as
noncomputable def zh6 (m:R->Option R):MG:=fun ρ=>(m ρ).map fun as=>(as,ρ)
noncomputable def SGS (X:Cx)(js:List (Option Nat))(ls:List Nat)(es:List Expr)(m:R->Option R):Prop:=
 ∃t,PA X es t/\∀B G H σ ρ as (Q:List V->Hp->Prop),SI X.K B G H σ ρ->m ρ=some as->(∀vs Gx,Lk X.K ls G Gx H σ ρ->ArgsOk X.K Gx σ ρ js vs as->Q vs H)->t σ H Q
noncomputable def tIsN (j:Nat)(b:Bool):MT:=fun ρ=>match ρ[j]? with
 |some (.val d)=>some (isN d==b,ρ)
 |some (.own _)=>some (!b,ρ)
 |some (.tre (.tup _))=>some (!b,ρ)
 |_=>none
section
variable {K:W.Frag} {B:Bs} {G Gx H:Hp} {σ:St} {ρ:R}
theorem Lk.addL (L:Lk K ls G Gx H σ ρ)(e:ρ[j]? =some s)(w:OwS K G H σ[j]? l s)(hl:H l=some (.lst xs))(r:RepL K G xs ds):
  ∃Gy,Fz Gx Gy/\Lk K (j::ls) G Gy H σ ρ/\RepD K Gy (.ref l) (.lst ds):=by
 have f1:Fz Gx (frA Gx H [l]):=fun a o e=>by
  by_cases m:a∈[l]
  ·rw[zdt m];exact L.fz a o e
  ·rw[zcp m];exact e
 refine⟨frA Gx H [l],f1,⟨L.up.trans f1,fun a o e=>?_,fun a g n=>?_,fun a o g q=>?_⟩,⟨l,xs,rfl,by rw[zdt (by simp)];exact hl,r.mono (L.up.trans f1)⟩⟩
 ·by_cases m:a∈[l]
  ·rw[zdt m]at e;exact e
  ·rw[zcp m]at e;exact L.fz a o e
 ·by_cases m:a∈[l]
  ·have:a=l:=by simpa using m
   subst this;exact⟨j,s,by simp,e,w⟩
  ·rw[zcp m]at n;obtain⟨i,t,k1,k2⟩:=L.ow a g n;exact⟨i,t,by simp[k1],k2⟩
 ·by_cases m:a∈[l]
  ·have:a=l:=by simpa using m
   subst this;rw[zdt m,hl]at q;cases q;exact .inl ⟨_,rfl⟩
  ·rw[zcp m]at q;exact L.odd a o g q
theorem Lk.start (I:SI K B G H σ ρ):Lk K [] G G H σ ρ:=⟨Fz.refl G,I.fz,fun a g n=>absurd g n,fun a o g n=>by rw[g]at n;cases n⟩
theorem SI.chB (I:SI K B G H σ ρ){ds es:List D}{xs ys:List V}(e:ρ[j]? =some s)(q:s.bk=some (n,ds))(hp:σ[j]? =some (some (.ref p)))(b:BkAt K G H p C dx l n xs ds)(nd:[p,dx,l].Nodup)(ow:∀a,OwS K G H σ[j]? a s↔a∈[p,dx,l])
  (r:RepL K G ys es):SI K B G (upd H l (.lst ys)) σ (ρ.set j (s.putT (bkT n es))):=by
 have pl:p≠l:=fun z=>by subst z;simp at nd
 have dl:dx≠l:=fun z=>by subst z;simp at nd
 have ol:OwS K G H σ[j]? l s:=(ow l).mpr (by simp);have sl:=I.slot j s e;have gl:G l=none:=(sl.own ol).1;have b':BkAt K G (upd H l (.lst ys)) p C dx l n ys es:=⟨b.ns,by rw[zak pl];exact b.ob,by rw[zak dl];exact b.dx,zal,r⟩;have h:=I.chg (i:=j) (ov:=some (.ref p)) (s':=s.putT (bkT n es)) (G':=G) (H':=upd H l (.lst ys)) (I.fz.right gl _) (Fz.refl G) I.new (fun c o k1 k2=>?_) (fun c k=>?_) (fun i t a z ei w g ha=>?_) ?_
 ·rwa[zhB hp]at h
 ·rw[zak fun z=>?_]
  ·exact I.keep c o k1 k2
  ·subst z;rcases(sl.own ol).2.2 with z|z
   ·rw[k1]at z;cases z
   ·exact k2 j z
 ·refine I.there c ?_
  by_cases z:c=l
  ·subst z;rw[zal]at k;cases k
  ·rw[zak z]at k;exact k
 ·have na:∀a',a'∈[p,dx,l]->a≠a':=fun a' m z2=>by subst z2;exact I.dis i j t s a z ei e w ((ow a).mpr m)
  refine⟨g,zak (na l (by simp)),fun w'=>?_⟩;have:∃v A,some (some (V.ref p))=some (some v)/\RepT K G (upd H l (.lst ys)) v (bkT n es) A/\a∈A:=by
   cases s with
   |tre t=>exact w'
   |ptr t=>exact w'
   |_=>cases q
  obtain⟨v2,A2,k1,k2,k3⟩:=this;cases k1;rw[<-b'.rep.det k2 fun _ _=>rfl]at k3;exact na a k3 rfl
 ·cases s with
  |tre t=>
   cases T.bk_eq q;obtain⟨v,A,h1,h2,h3,h4⟩:=sl;rw[hp]at h1;cases h1;have eA:[p,dx,l]=A:=b.rep.det h2 fun _ _=>rfl
   subst eA;exact⟨.ref p,_,rfl,b'.rep,h3,h4⟩
  |ptr t=>
   cases T.bk_eq q;obtain⟨v,A,h1,h2,h3,h4⟩:=sl;rw[hp]at h1;cases h1;have eA:[p,dx,l]=A:=b.rep.det h2 fun _ _=>rfl
   subst eA;exact⟨.ref p,_,rfl,b'.rep,h3,h4⟩
  |_=>cases q
theorem SI.onlyV (I:SI K B G H σ ρ):SI K ⟨G,H,[]⟩ G H σ (M.onlyV ρ):=by
 have at1:∀{i:Nat} {s:Sl},(M.onlyV ρ)[i]? =some s->s= .emp\/∃d,s= .val d/\ρ[i]? =some (.val d):=fun{i s} e=>by
  unfold M.onlyV at e;rw[qba]at e;obtain⟨u,e1,e2⟩:=zaf e;cases u<;>first|exact .inl e2.symm|exact .inr ⟨_,e2.symm,e1⟩
 refine⟨I.fz,Fz.refl G,fun b o e=> .inl (by show G b≠none;rw[e];simp),fun b o e _=>e,fun b e=>e,by unfold M.onlyV;rw[qaT];exact I.len,fun i b m=>by simp at m,fun i s e=>?_,fun i j s t a _ e _ w=>?_⟩
 ·rcases at1 e with rfl|⟨d,rfl,h⟩
  ·trivial
  ·exact I.slot i _ h
 ·rcases at1 e with rfl|⟨d,rfl,h⟩<;>exact w.elim
end
section
variable {X:Cx} {x y:Str} {p pos py ap tpos cpos apos:Pos} {e:Expr} {es:List Expr} {js:List (Option Nat)} {ls:List Nat} {me:ME} {r:R->Option R} {k k' n:Nat}
theorem zlx (j:Nat)(bc:BkC X.K)(hN:autoParam (X.N[j]? =some x) zu3._auto_1)(hv:autoParam (Vis X.env.scope x) zu6._auto_1)(hd:autoParam ((x==("__debug__":Str))=false) zu1._auto_1)
  (hcd:autoParam ((x==("__classdict__":Str))=false) zu1._auto_1) (hb:autoParam (attributeBase (.Name x p) "many" X.env (eval (.Name x p) X.env)=eval (.Name x p) X.env) zu3._auto_1):SE X (.Attribute (.Name x p) "many" pos) (eBkN j):=by
 obtain⟨C,c1,c2,c3,c4⟩:=bc;refine⟨_,zit (zaX hN hv hd hcd) hb,fun B G H σ ρ d ρ' Q I hm k=>?_⟩;obtain⟨⟨n,ds⟩,e1,hm⟩:=zaf hm;cases hm;obtain⟨s,e2,e3⟩:=zaa e1;obtain⟨q,C2,dx,l,xs,h1,b,_⟩:=I.bk e2 e3;have h2:=b.ns;rw[c1]at h2;cases h2;exact⟨.ref q,h1,q,C,dx,_,.int n,rfl,b.ob,c2,c3,bk_many,k G H _ I (Fz.refl G) rfl⟩
theorem zlb (j:Nat)(bc:BkC X.K)(ml:X.mg "len"=none)(hN:autoParam (X.N[j]? =some x) zu3._auto_1)(hv:autoParam (Vis X.env.scope x) zu6._auto_1)(hd:autoParam ((x==("__debug__":Str))=false) zu1._auto_1)
  (hcd:autoParam ((x==("__classdict__":Str))=false) zu1._auto_1) (hb:autoParam (attributeBase (.Name x p) "kept" X.env (eval (.Name x p) X.env)=eval (.Name x p) X.env) zu3._auto_1) (hg:autoParam (Gl X "len") zu3._auto_1)
  (he:autoParam (starEach [.Attribute (.Name x p) "kept" ap] X.env=(false,eval (.Attribute (.Name x p) "kept" ap) X.env)::starEach [] X.env) zu3._auto_1):SE X (.Call (.Name "len" py) [.Attribute (.Name x p) "kept" ap] [] pos) (eBkL j):=by
 obtain⟨C,c1,c2,c3,c4⟩:=bc;refine⟨_,zdM zgy hg ml PySem.boot_len (zaG (zit (zaX hN hv hd hcd) hb) zbX he) (by decide) (by decide) he rfl,fun B G H σ ρ d ρ' Q I hm k=>?_⟩;obtain⟨⟨n,ds⟩,e1,hm⟩:=zaf hm;cases hm;obtain⟨s,e2,e3⟩:=zaa e1;obtain⟨q,C2,dx,l,xs,h1,b,_⟩:=I.bk e2 e3;have h2:=b.ns;rw[c1]at h2;cases h2;refine⟨.ref q,h1,q,C,dx,_,.ref l,rfl,b.ob,c2,c4,zg5,l,xs,rfl,.inl (SqL.of b.ls),k G H _ I (Fz.refl G) ?_⟩;show V.int xs.length=V.int ds.length;rw[b.rp.length]
theorem zlU:SGS X [] [] [] yNil:=⟨_,zbX,fun B G H σ ρ as Q I hm k=>by
 cases hm;exact k [] G (Lk.start I) trivial⟩
theorem zgp (j:Nat)(hr:SGS X js ls es r)(hN:autoParam (X.N[j]? =some x) zu3._auto_1)(hv:autoParam (Vis X.env.scope x) zu6._auto_1)(hd:autoParam ((x==("__debug__":Str))=false) zu1._auto_1)
  (hcd:autoParam ((x==("__classdict__":Str))=false) zu1._auto_1) (hs:autoParam (starEach (.Name x p::es) X.env=(false,eval (.Name x p) X.env)::starEach es X.env) zu3._auto_1):SGS X (none::js) (j::ls) (.Name x p::es) (zjS j r):=by
 obtain⟨u,pr,sr⟩:=hr;refine⟨_,zaG (zaX hN hv hd hcd) pr hs,fun B G H σ ρ as Q I hm k=>?_⟩;obtain⟨as1,e2,hm⟩:=zaa hm;obtain⟨d,e3,hm⟩:=zaf hm;cases hm;obtain⟨s,e4,e5⟩:=zaa e3;have ha:hasA ρ j=true:=by
  unfold hasA;rw[e4];cases s<;>first|rfl|cases e5
 obtain⟨v,e1⟩:=I.hasA ha;refine⟨v,e1,sr B G H σ ρ as1 _ I e2 fun vs Gx L a=>?_⟩;obtain⟨Gy,f3,L3,r3⟩:=Lk.more I L e1 e4 e5;exact k (v::vs) Gy L3 ⟨⟨d,rfl,r3⟩,a.mono f3⟩
theorem ziZ (j:Nat)(bc:BkC X.K)(hr:SGS X js ls es r)(hN:autoParam (X.N[j]? =some x) zu3._auto_1)(hv:autoParam (Vis X.env.scope x) zu6._auto_1)(hd:autoParam ((x==("__debug__":Str))=false) zu1._auto_1)
  (hcd:autoParam ((x==("__classdict__":Str))=false) zu1._auto_1) (hb:autoParam (attributeBase (.Name x p) "kept" X.env (eval (.Name x p) X.env)=eval (.Name x p) X.env) zu3._auto_1) (hs:autoParam (starEach (.Attribute (.Name x p) "kept" ap::es) X.env=(false,eval (.Attribute (.Name x p) "kept" ap) X.env)::starEach es X.env) zu3._auto_1):SGS X (none::js) (j::ls) (.Attribute (.Name x p) "kept" ap::es) (zmL j r):=by
 obtain⟨C,c1,c2,c3,c4⟩:=bc;obtain⟨u,pr,sr⟩:=hr;refine⟨_,zaG (zit (zaX hN hv hd hcd) hb) pr hs,fun B G H σ ρ as Q I hm k=>?_⟩;obtain⟨as1,e2,hm⟩:=zaa hm;obtain⟨⟨n,ds⟩,e3,hm⟩:=zaf hm;cases hm;obtain⟨s,e4,e5⟩:=zaa e3;obtain⟨q,C2,dx,l,xs,h1,b,_,ow⟩:=I.bk e4 e5;have h2:=b.ns;rw[c1]at h2;cases h2;refine⟨.ref q,h1,q,C,dx,_,.ref l,rfl,b.ob,c2,c4,zg5,sr B G H σ ρ as1 _ I e2 fun vs Gx L a=>?_⟩;obtain⟨Gy,f3,L3,r3⟩:=L.addL e4 ((ow l).mpr (by simp)) b.ls b.rp;exact k (.ref l::vs) Gy L3 ⟨⟨_,rfl,r3⟩,a.mono f3⟩
theorem SGS.ga (h:SGS X js ls es r):SGA X js ls es (zh6 r):=by
 obtain⟨u,pr,sr⟩:=h;refine⟨u,pr,fun B G H σ ρ as ρ' Q I hm k=>?_⟩;obtain⟨as1,e2,hm⟩:=zaf hm;cases hm;exact sr B G H σ ρ as _ I e2 fun vs Gx L a=>k G H vs Gx I (Fz.refl G) L a
theorem ss_bkA (j:Nat)(bc:BkC X.K)(he:SE X e me)(hN:autoParam (X.N[j]? =some x) zu3._auto_1)(hv:autoParam (Vis X.env.scope x) zu6._auto_1)(hd:autoParam ((x==("__debug__":Str))=false) zu1._auto_1)
  (hcd:autoParam ((x==("__classdict__":Str))=false) zu1._auto_1) (hb:autoParam (attributeBase (.Name x p) "kept" X.env (eval (.Name x p) X.env)=eval (.Name x p) X.env) zu3._auto_1)
  (hbase:autoParam (attributeBase (.Attribute (.Name x p) "kept" ap) "append" X.env (eval (.Attribute (.Name x p) "kept" ap) X.env)=eval (.Attribute (.Name x p) "kept" ap) X.env) zu3._auto_1)
  (hfew :autoParam (((backTo cpos (starEach [e] X.env)).all (fun x => !x.1) && (backToKw cpos (keywordEach [] X.env)).all (fun x => x.1.isSome)
   &&decide ([e].length+([]:List Keyword).length+(if([]:List Keyword).isEmpty then 0 else 1)<30))=true) zu3._auto_1)
  (hline:autoParam ((apos.endLine==cpos.line)=true) zu3._auto_1) (hs:autoParam (starEach [e] X.env=(false,eval e X.env)::starEach [] X.env) zu3._auto_1):SS X (.Expr (.Call (.Attribute (.Attribute (.Name x p) "kept" ap) "append" apos) [e] [] cpos) pos) (sBkA j me):=by
 obtain⟨C,c1,c2,c3,c4⟩:=bc;obtain⟨te,pe,se⟩:=he;refine⟨_,zhl (pe_bm qbO PySem.F.slot_list_append PySem.F.type_list_append zhD (zit (zaX hN hv hd hcd) hb) (zaG pe zbX hs) hbase hfew hline hs rfl) (by rfl),fun B G H σ ρ fl ρ' E I hm k=>?_⟩;obtain⟨⟨n,ds⟩,e1,hm⟩:=zaa hm;obtain⟨⟨d,ρ1⟩,e2,hm⟩:=zaa hm;dsimp only at hm
 split at hm
 ·rename_i hl;obtain⟨s,e3,hm⟩:=zaf hm;cases hm;obtain⟨s2,e4,e5⟩:=zaa e1;rw[e3]at e4;cases e4;obtain⟨q,C2,dx,l,xs,h1,b,_,ow⟩:=I.bk e3 e5;have h2:=b.ns;rw[c1]at h2;cases h2;refine⟨.ref q,h1,q,C,dx,_,.ref l,rfl,b.ob,c2,c4,zg5,.inl ⟨rfl,_,SqL.of b.ls⟩,?_⟩;refine se _ G H σ _ d _ _ I.onlyV e2 fun G1 H1 v1 J1 f1 r1=>?_
  have kp:Fz H H1:=fun b o q=>J1.keep b o q fun i m=>by simp at m
  have I1:=I.grow f1 J1.fz (fun b o q=>J1.new b o q) kp;obtain⟨q',C',dx',l',xs',g1,b',nd,ow'⟩:=I1.bk e3 e5;rw[h1]at g1;cases g1;have z:=kp _ _ b.ob;rw[b'.ob]at z;cases z;have zl:=kp _ _ b.ls;rw[b'.ls]at zl;cases zl;exact⟨_,_,v1,rfl,rfl,b'.ls,by rw[b'.rp.length,qaM];exact hl,k G1 _ σ (I1.chB e3 e5 h1 b' nd ow' (b'.rp.snoc r1)) f1⟩
 ·cases hm
theorem ss_bkP (j:Nat)(bc:BkC X.K)(hN:autoParam (X.N[j]? =some x) zu3._auto_1)(hv:autoParam (Vis X.env.scope x) zu6._auto_1)(hd:autoParam ((x==("__debug__":Str))=false) zu1._auto_1)
  (hcd:autoParam ((x==("__classdict__":Str))=false) zu1._auto_1) (hb:autoParam (attributeBase (.Name x p) "kept" X.env (eval (.Name x p) X.env)=eval (.Name x p) X.env) zu3._auto_1)
  (hbase:autoParam (attributeBase (.Attribute (.Name x p) "kept" ap) "pop" X.env (eval (.Attribute (.Name x p) "kept" ap) X.env)=eval (.Attribute (.Name x p) "kept" ap) X.env) zu3._auto_1)
  (hline:autoParam ((apos.endLine==cpos.line)=true) zu3._auto_1):SS X (.Expr (.Call (.Attribute (.Attribute (.Name x p) "kept" ap) "pop" apos) [] [] cpos) pos) (sBkP j):=by
 obtain⟨C,c1,c2,c3,c4⟩:=bc;refine⟨_,zhl (pe_bm0 qbO PySem.F.slot_list_pop PySem.F.type_list_pop mt_pop (zit (zaX hN hv hd hcd) hb) hbase hline) (by rfl),fun B G H σ ρ fl ρ' E I hm k=>?_⟩;obtain⟨⟨n,ds⟩,e1,hm⟩:=zaa hm;dsimp only at hm
 split at hm
 ·cases hm
 ·rename_i hl;obtain⟨s,e3,hm⟩:=zaf hm;cases hm;obtain⟨s2,e4,e5⟩:=zaa e1;rw[e3]at e4;cases e4;obtain⟨q,C2,dx,l,xs,h1,b,nd,ow⟩:=I.bk e3 e5;have h2:=b.ns;rw[c1]at h2;cases h2;have lp:0<xs.length:=by rw[b.rp.length];exact List.length_pos_iff.mpr (by simpa using hl)
  refine⟨.ref q,h1,q,C,dx,_,.ref l,rfl,b.ob,c2,c4,zg5,.inl ⟨rfl,_,SqL.of b.ls⟩,l,xs,xs[xs.length-1]'(by lia),rfl,rfl,b.ls,qbN _,k G _ σ (I.chB e3 e5 h1 b nd ow ?_) (Fz.refl G)⟩;rw[qcO,qcO,b.rp.length];exact b.rp.take _
theorem st_isN (j:Nat){j1}{p2:Pos}(hN:autoParam (X.N[j]? =some x) zu3._auto_1)(hv:autoParam (Vis X.env.scope x) zu6._auto_1)(hd:autoParam ((x==("__debug__":Str))=false) zu1._auto_1)
  (hcd:autoParam ((x==("__classdict__":Str))=false) zu1._auto_1) (hm:autoParam (behindInMarks .Is (.Constant .none j1 p2)=false) zu3._auto_1):STt X (.Compare (.Name x p) [.Is] [.Constant .none j1 p2] pos) (tIsN j true):=by
 refine⟨_,znl op_isN (zaX hN hv hd hcd) pe_non hm,fun B G H σ ρ b ρ' Q I hm k=>?_⟩;unfold tIsN at hm
 split at hm
 ·rename_i d e;cases hm;obtain⟨v,h1,h2⟩:=I.slot j _ e;refine⟨v,h1,rfl,_,rfl,?_⟩;rw[isN_ok h2];have:(isN d==true)=isN d:=by cases isN d<;>rfl
  rw[this]at k;exact k G H I (Fz.refl G)
 ·rename_i e;cases hm;obtain⟨l,xs,h1,_⟩:=I.slot j _ e;exact⟨.ref l,h1,rfl,_,rfl,k G H I (Fz.refl G)⟩
 ·rename_i e;cases hm;obtain⟨v,A,h1,h2,_⟩:=I.slot j _ e;obtain⟨q,rfl,_⟩:=h2.head;exact⟨.ref q,h1,rfl,_,rfl,k G H I (Fz.refl G)⟩
 ·cases hm
end
noncomputable def sBkM (i:Nat)(me:ME):MS:=fun ρ=>(me ρ).bind fun p=>match p.1 with
 | .int n=>some (.next,p.2.set i (.tre (bkT n [])))
 |_=>none
noncomputable def spBk (C:Addr):Sp:=fun vs H Q _=>∃p dx n,vs=[.ref p,.int n]/\H p=some (.ins C dx [])/\∀l,H l=none->Q .non (upd (upd (upd H p (.ins C dx [("many",.int n)])) l (.lst [])) p (.ins C dx [("many",.int n),("kept",.ref l)]))
noncomputable def BkM (P:Program)(w:World)(K:W.Frag)(mg:Str->Option Value)(base:Heap)(k:Nat):Prop:=∃C f fd,W.nsIn K mainGlobals "SumBook"=some (some (.ref C))/\mg "SumBook"=some (.ref C)/\Mk K C f/\FnOk P w K mg base CX0 k f fd ["self","many"] (spBk C)/\Binds K fd ["self","many"] []
theorem zow:putF "kept" (.ref l) (putF "many" (.int n) [])=([("many",.int n),("kept",.ref l)]:List (Str×V)):=by
 show(if("many":Str)="kept" then[(("many":Str),V.ref l)]else(("many":Str),V.int n)::putF "kept" (V.ref l) [])=_;rw[if_neg (by decide+kernel)]
 rfl
noncomputable def sDNk (i:Nat)(mk mv:ME):MS:=fun ρ=>(mk ρ).bind fun p=>(mv p.2).bind fun q=>match p.1 with
 | .int k=>some (.next,q.2.set i (.tre (.dic [k] [q.1])))
 |_=>none
section
variable {X:Cx} {x:Str} {p pos tpos p':Pos} {e a b:Expr} {me mk mv:ME} {k k':Nat}
theorem ss_bkM (i:Nat)(bm:BkM X.prog X.w X.K X.mg X.base k)(hr:Room k' X.A)(he:SE X e me)(hN:X.N.Nodup)(hi:autoParam (X.N[i]? =some x) zu3._auto_1)(hx:autoParam (Loc X.env.scope x) zu9._auto_1)(hf:autoParam (X.fn x=true\/X.env.scope.names.lookup x=some .local) zu9._auto_1)(hk:autoParam (k+1<=k') zu1._auto_1)(hg:autoParam (Gl X "SumBook") zu3._auto_1)
  (hs:autoParam (swapsWith (.Call (.Name "SumBook" p) [e] [] pos) (some (.Name x p')) tpos.line X.env=pure false) zu3._auto_1) (hst:autoParam (starEach [e] X.env=(false,eval e X.env)::starEach [] X.env) zu3._auto_1) (hpl:autoParam ((backTo pos (starEach [] X.env)).any (·.1)=false) zu3._auto_1):SS X (.Assign [.Name x p'] (.Call (.Name "SumBook" p) [e] [] pos) tpos) (sBkM i me):=by
 obtain⟨C,f,fd,c1,c2,c3,c4,c5⟩:=bm;obtain⟨te,pe,se⟩:=he;refine⟨_,zgv hN hi hx (pe_make c3 c4 (hr.mono hk) hg c2 c5 .nil zjO (zaG pe zbX hst) (by decide) hst hpl) hs hf,fun B G H σ ρ fl ρ' E I hm kk=>?_⟩;obtain⟨⟨d,ρ1⟩,e1,hm⟩:=zaa hm;dsimp only at hm
 split at hm
 ·rename_i n;cases hm;refine se B G H σ ρ _ ρ1 _ I e1 fun G1 H1 v I1 f1 r1=>?_
  cases(show v=V.int n from r1);intro q dx hq hdx nq;refine⟨q,dx,n,rfl,zal,fun l hl=>⟨rfl,?_⟩⟩;have lq:l≠q:=fun z=>by rw[z,zal]at hl;cases hl
  have ld:l≠dx:=fun z=>by rw[z,zak nq,zal]at hl;cases hl
  have hl1:H1 l=none:=by rw[zak lq,zak ld]at hl;exact hl
  have eH:upd (upd (upd (upd (upd H1 dx (.own q)) q (.ins C dx [])) q (.ins C dx [("many",.int n)])) l (.lst [])) q (.ins C dx [("many",.int n),("kept",.ref l)])=upd (upd (upd H1 dx (.own q)) l (.lst [])) q (.ins C dx [("many",.int n),("kept",.ref l)]):=by
   funext c
   by_cases z:c=q
   ·subst z;rw[zal,zal]
   ·rw[zak z,zak z]
    by_cases z2:c=l
    ·subst z2;rw[zal,zal]
    ·rw[zak z2,zak z2,zak z,zak z]
  show E.nx _ (upd (upd (upd (upd (upd H1 dx (.own q)) q (.ins C dx [])) q (.ins C dx [("many",.int n)])) l (.lst [])) q (.ins C dx [("many",.int n),("kept",.ref l)]));rw[eH];have h2:(upd H1 dx (.own q)) l=none:=by rw[zak ld];exact hl1
  have h3:(upd (upd H1 dx (.own q)) l (.lst [])) q=none:=by rw[zak (Ne.symm lq),zak (Ne.symm nq)];exact hq
  have I2:=((I1.allocO hdx (.own q)).allocO h2 (.lst [])).allocO h3 (.ins C dx [("many",.int n),("kept",.ref l)]);have same:∀a,H1 a≠none->(upd (upd (upd H1 dx (.own q)) l (.lst [])) q (.ins C dx [("many",.int n),("kept",.ref l)])) a=H1 a:=fun a h=>by
   rw[zak (fun z=>h (by rw[z];exact hq)),zak (fun z=>h (by rw[z];exact hl1)),zak (fun z=>h (by rw[z];exact hdx))]
  have nw:∀a,H1 a=none->Nw X.K G1 (upd (upd (upd H1 dx (.own q)) l (.lst [])) q (.ins C dx [("many",.int n),("kept",.ref l)])) σ ρ1 a:=fun a h=>I1.nw_move (I1.nw h) fun i s a _ _ g h=>⟨g,same a h⟩
  have bk:BkAt X.K G1 (upd (upd (upd H1 dx (.own q)) l (.lst [])) q (.ins C dx [("many",.int n),("kept",.ref l)])) q C dx l n [] []:=⟨c1,zal,by rw[zak nq,zak (Ne.symm ld),zal],by rw[zak lq,zal],.nil⟩;refine kk G1 _ _ (I2.setT bk.rep ?_ fun a m=>?_) f1
  ·simp only[qa3,qaq,qce,or_false,not_or,qcP,List.nodup_nil,and_true];exact⟨⟨Ne.symm nq,Ne.symm lq⟩,Ne.symm ld⟩
  ·have fr:H1 a=none:=by
    simp only[qaq,qce,or_false]at m;rcases m with rfl|rfl|rfl
    ·exact hq
    ·exact hdx
    ·exact hl1
   exact⟨I1.fz.free fr,I1.there a fr,nw a fr⟩
 ·cases hm
theorem ss_dNk (i:Nat)(ha:SE X a mk)(hb:SE X b mv)(hN:X.N.Nodup)(hi:autoParam (X.N[i]? =some x) zu3._auto_1)(hx:autoParam (Loc X.env.scope x) zu9._auto_1)(hs:autoParam (swapsWith (.Dict [some a] [b] tpos) (some (.Name x p')) pos.line X.env=pure false) zu3._auto_1)
    (hf:autoParam (X.fn x=true\/X.env.scope.names.lookup x=some .local) zu9._auto_1):SS X (.Assign [.Name x p'] (.Dict [some a] [b] tpos) pos) (sDNk i mk mv):=by
  obtain⟨ta,pa,sa⟩:=ha;obtain⟨tb,pb,sb⟩:=hb;refine⟨_,zgv hN hi hx (pe_disp (pps_cons (k:=a) (v:=b) pa pb pps_nil) rfl rfl (by simp) (by simp)) hs hf,fun B G H σ ρ fl ρ' E I hm k=>?_⟩;obtain⟨⟨d1,ρ1⟩,e1,hm1⟩:=zaa hm;obtain⟨⟨d2,ρ2⟩,e2,hm2⟩:=zaa hm1;clear hm hm1;dsimp only at hm2 e2
  split at hm2
  . rename_i n
    cases hm2;intro p hp;have bg:B.G p=none:=I.g0.free (I.fz.free hp);have bp:=I.there p hp;refine sa ⟨B.G,upd B.H p (.dK []),B.O⟩ G _ σ ρ _ ρ1 _ (I.hold hp (.dK [])) e1 fun G1 H1 v1 I1 f1 r1=>?_
    refine sb _ G1 H1 σ ρ1 _ ρ2 _ I1 e2 fun G2 H2 v2 I2 f2 r2=>?_
    cases(show v1=V.int n from r1);obtain⟨I3,h1,h2,h3⟩:=I2.let I.ob bp bg;refine⟨h1,[(kI n,v2)],rfl,by simp,?_⟩;show E.nx _ (upd H2 p (.dK [(kI n,v2)]));exact k G2 _ _ (I3.chg (i:=i) (ov:=some (.ref p)) (s':= .tre (.dic [n] [d2])) (G':=G2) (H':=upd H2 p (.dK [(kI n,v2)])) (I3.fz.right h2 _) (Fz.refl G2) I3.new (fun c q e nn=>by
        rw[zak (fun z=>by subst z;rw[bp]at e;cases e)];exact I3.keep c q e nn) (fun c e=>by
        by_cases z:c=p
        . subst z;exact bp
        . rw[zak z]at e;exact I3.there c e) (fun j s c z ej w g _=>by
        have nc:c≠p:=fun q=>by subst q;exact h3 j s ej w
        refine⟨g,zak nc,fun⟨v2,A2,k1,k2,k3⟩=>?_⟩;cases k1;obtain⟨p3,_,e4,_,_,_,rfl⟩:=k2;cases e4;exact nc (by simpa using k3)) ⟨.ref p,[p],rfl,⟨p,[(kI n,v2)],rfl,zal,rfl,RepL.cons r2 RepL.nil,rfl⟩,by simp,fun c m=>by
        have:c=p:=by simpa using m
        subst this;exact⟨h2,bp⟩⟩) (f1.trans f2)
  . cases hm2
end
section
variable {P:Program} {w:World} {K:W.Frag} {mg:Str->Option Value} {base hp:Heap} {x mt:Str} {st:Stmt} {f:Addr} {N:List Str} {k n:Nat} {m:MS}
theorem fdG (X:K.In hp)(G:hp.Ns mainGlobals mg)(h:FnAt K x st)(b:Bd P w K mg base x st N k m)(d:DefOk x st N n:=by exact⟨⟨rfl,rfl,rfl,by decide+kernel,rfl,by decide+kernel,by decide+kernel⟩,rfl,by decide,fun _ _ _ _ _ _=>by repeat (first | exact us_0 rfl | refine us_s fun _ => ?_)⟩):FD P w K mg base (k+1) x (spG K n (fG N.length m)):=
 let⟨f,fd,a,T⟩:=h
 ⟨⟨f,fd,_,fnG_ok T d.sc d.len d.le fun cdv A outer s H E hr=>b _ cdv A outer s H E hr d.sc.nd,W.mg_of X G a,T.kp,T.binds d.bs⟩⟩
noncomputable def MAt (K:W.Frag)(mt q:Str)(st:Stmt):Prop:=∃C f fd,W.nsIn K mainGlobals "SumBook"=some (some (.ref C))/\Cls K C/\Meth K C mt f/\Fun K mt q st f fd
theorem MAt.mk {od an:Option Addr}{kV doc pm cdv ct:Value}(n:W.nsIn K mainGlobals "SumBook"=some (some (.ref C)))(cl:Cls K C)(a:W.findIn K (.ref C) mt=some (some (.ref f)))(i:W.isFn K (.ref f)=true)(l:K.lookup f=some ⟨oc,od,.func (W.fnOf mt q (zbt st) (zaO st) (zan st) .none kV doc pm an cdv ct),osl⟩)
  (c:W.codeIn K cdv q=true) (k:W.keepIn K (.ref f)=true):MAt K mt q st:=⟨C,f,_,n,cl,⟨a,i,k⟩,zpj l c k⟩
structure DefOkM (x q:Str) (st:Stmt) (N:List Str) (n:Nat):Prop where
 sc:FnScope N (N.take n) (zan st)
 len:(N.take n).length=n
 le:n<=N.length
 bs:∀(kV doc pm:Value) (an:Option Addr) (cdv ct:Value) (us:List Value),us.length=(N.take n).length->bindArgs (W.fnOf x q (zbt st) (zaO st) (zan st) .none kV doc pm an cdv ct) ⟨us,[]⟩=pure ((N.take n).zip us)
theorem mdG (h:MAt K mt q st)(b:Bd P w K mg base q st N k m)(d:DefOkM mt q st N n:=by exact⟨⟨rfl,rfl,rfl,by decide+kernel,rfl,by decide+kernel,by decide+kernel⟩,rfl,by decide,fun _ _ _ _ _ _=>by repeat (first | exact us_0 rfl | refine us_s fun _ => ?_)⟩):MD P w K mg base (k+1) mt (spG K n (fG N.length m)):=
 let⟨C,f,fd,a1,a2,a3,T⟩:=h
 ⟨⟨C,f,fd,_,a1,a2,a3,fnG_ok T d.sc d.len d.le fun cdv A outer s H E hr=>b _ cdv A outer s H E hr d.sc.nd,T.binds d.bs⟩⟩
theorem bkInit (F:Fun K "__init__" "SumBook.__init__" st f fd)(cl:Cls K C)(n1:NoAttr K C "many")(n2:NoAttr K C "kept")(S:FnScope ["self","many"] ["self","many"] (zan st))
  (body:∀(cdv:Value) (A:Around) (outer:List Env) (s:Shared) (H:Hp) (E:XK),PSs (cxOf CX0 P w K mg base ["self","many"] "SumBook.__init__" (zan st) f cdv A outer s H E).nox (zaO st) (tSeq (sFld K (tVar 0) (tVar 1) "many") (sFld K (tVar 0) (tLst tNil) "kept"))):FnOk P w K mg base CX0 1 f fd ["self","many"] (spBk C):=by
 refine F.ok S (fun vs H Q E h=>?_) (fun cdv A outer s H vs Q E hr h=>?_)
 ·obtain⟨p,dx,n,rfl,_⟩:=h
  rfl
 ·obtain⟨p,dx,n,rfl,hp,k⟩:=h;refine⟨_,body cdv A outer s H E,?_⟩;refine⟨_,rfl,_,rfl,p,C,dx,[],rfl,hp,cl,n1,(by show 0<1000;decide),?_⟩;refine⟨(by rw[qaM];exact(by decide:(0:Nat)<=16777216)),fun l hl=>?_⟩;have lp:p≠l:=fun z=>by rw[<-z,zal]at hl;cases hl
  refine⟨_,rfl,p,C,dx,_,rfl,(by rw[zak lp];exact zal),cl,n2,(by show 1<1000;decide),?_⟩;have:=k l (by rw[zak (Ne.symm lp)]at hl;exact hl);rw[zow];exact this
end
noncomputable def sBkF (j ix iy:Nat)(me:ME):MS:=fun ρ=>(ρ[j]?.bind Sl.bk).bind fun q=>(forM (fun d ρ=>sSet iy me (ρ.set ix (.val d))) q.2 (ρ.set j .emp)).bind fun p=>match p.1 with
 | .next=>(ρ[j]?).map fun s=>(.next,p.2.set j s)
 |_=>none
noncomputable def ePop0 (j:Nat):ME:=fun ρ=>ρ[j]?.bind fun s=>s.items.bind fun ds=>ds.getLast?.map fun d=>(d,ρ.set j (s.put ds.dropLast))
section
variable {K:W.Frag} {B:Bs} {G H:Hp} {σ:St} {ρ:R}
open Classical in
noncomputable def Bs.reA (B:Bs)(K:W.Frag)(G H:Hp)(σ:St)(ρ:R)(A:List Addr):Bs:=⟨G,fun b=>if(∃(i:Nat) (s:Sl),ρ[i]? =some s/\OwS K G H σ[i]? b s)/\B.H b=none then none else H b,B.O.filter fun z=>!A.contains z.2⟩
theorem reA_O:z∈(B.reA K G H σ ρ A).O↔z∈B.O/\z.2∉A:=by
 unfold Bs.reA;simp
theorem zgR (I:SI K B G H σ ρ)(h:(B.reA K G H σ ρ A).H b=none):B.H b=none:=by
 unfold Bs.reA at h;dsimp only at h
 split at h
 ·rename_i w;exact w.2
 ·exact I.there b h
theorem SI.reA (I:SI K B G H σ ρ)(hA:∀a∈A,Nw K G H σ ρ a):SI K (B.reA K G H σ ρ A) G H σ ρ where
 fz:=I.fz
 g0:=Fz.refl G
 new:=fun b o e=> .inl (by show G b≠none;rw[e];simp)
 keep:=fun b o e _=>by
  unfold Bs.reA at e;dsimp only at e
  split at e
  ·cases e
  ·exact e
 there:=fun b e=>by
  unfold Bs.reA;dsimp only
  split
  ·rfl
  ·exact e
 ob:=fun i b m=>by
  have hb:=I.ob i b (reA_O.mp m).1;unfold Bs.reA;dsimp only;rw[if_neg fun w=>hb w.2];exact fun z=>hb (I.there b z)
 len:=I.len
 slot:=fun i s e=>by
  have h:=I.slot i s e;have own:∀{a:Addr},OwS K G H σ[i]? a s->B.H a=none->(B.reA K G H σ ρ A).H a=none:=fun{a} w n=>by
   unfold Bs.reA;dsimp only;rw[if_pos ⟨⟨i,s,e,w⟩,n⟩]
  have inO:∀{n:Nat} {a:Addr},OwS K G H σ[i]? a s->(n,a)∈B.O->(n,a)∈(B.reA K G H σ ρ A).O:=fun{n a} w m=>reA_O.mpr ⟨m,fun z=>hA a z i s e w⟩
  cases s with
  |emp=>trivial
  |two _ _=>trivial
  |val d=>exact h
  |own ds=>obtain⟨l,xs,k1,k2,k3,k4,k5⟩:=h;exact⟨l,xs,k1,k2,k3,k4,own k1 k5⟩
  |par ds=>obtain⟨l,xs,k1,k2,k3,k4,k5⟩:=h;exact⟨l,xs,k1,k2,k3,k4,inO k1 k5⟩
  |tre t=>obtain⟨v,A',k1,k2,k3,k4⟩:=h;exact⟨v,A',k1,k2,k3,fun a m=>⟨(k4 a m).1,own ⟨v,A',k1,k2,m⟩ (k4 a m).2⟩⟩
  |ptr t=>
   obtain⟨v,A',k1,k2,⟨k3,p,rfl,k5⟩,k4⟩:=h;obtain⟨p2,q1,q2⟩:=k2.head;cases q1;exact⟨_,A',k1,k2,⟨k3,p,rfl,inO ⟨_,A',k1,k2,q2⟩ k5⟩,fun a m=>⟨(k4 a m).1,inO ⟨_,A',k1,k2,m⟩ (k4 a m).2⟩⟩
 dis:=I.dis
theorem SI.unreA (I:SI K B G H σ ρ)(J:SI K (B.reA K G H σ ρ A) G' H' σ' ρ'):SI K B G' H' σ' ρ' where
 fz:=J.fz
 g0:=I.g0.trans J.g0
 new:=fun b o e=>by
  rcases J.new b o e with z|z
  ·cases q:G b with
   |none=>exact absurd q z
   |some u=>exact I.new b u q
  ·exact .inr (zgR I z)
 keep:=fun b o e n=>J.keep b o (by
  unfold Bs.reA;dsimp only;rw[if_neg fun w=>by rw[w.2]at e;cases e];exact I.keep b o e n) fun i m=>n i (reA_O.mp m).1
 there:=fun b e=>zgR I (J.there b e)
 ob:=I.ob
 len:=J.len
 slot:=fun i s e=>by
  have h:=J.slot i s e;cases s with
  |emp=>trivial
  |two _ _=>trivial
  |val d=>exact h
  |own ds=>obtain⟨l,xs,k1,k2,k3,k4,k5⟩:=h;exact⟨l,xs,k1,k2,k3,k4,zgR I k5⟩
  |par ds=>obtain⟨l,xs,k1,k2,k3,k4,k5⟩:=h;exact⟨l,xs,k1,k2,k3,k4,(reA_O.mp k5).1⟩
  |tre t=>obtain⟨v,A',k1,k2,k3,k4⟩:=h;exact⟨v,A',k1,k2,k3,fun a m=>⟨(k4 a m).1,zgR I (k4 a m).2⟩⟩
  |ptr t=>
   obtain⟨v,A',k1,k2,⟨k3,p,k6,k5⟩,k4⟩:=h;exact⟨v,A',k1,k2,⟨k3,p,k6,(reA_O.mp k5).1⟩,fun a m=>⟨(k4 a m).1,(reA_O.mp (k4 a m).2).1⟩⟩
 dis:=J.dis
theorem SI.reA_stays (I:SI K B G H σ ρ)(J:SI K (B.reA K G H σ ρ A) G' H' σ' ρ'){o:HO}(m:b∈A)(h:H b=some o)(n:Nw K G H σ ρ b)(hg:G b=none):H' b=some o/\G' b=none/\Nw K G' H' σ' ρ' b:=by
 have hb:(B.reA K G H σ ρ A).H b=some o:=by
  unfold Bs.reA;dsimp only;rw[if_neg fun w=>by obtain⟨⟨i,s,e,w⟩,_⟩:=w;exact n i s e w];exact h
 have hO:∀i,(i,b)∉(B.reA K G H σ ρ A).O:=fun i z=>(reA_O.mp z).2 m
 refine⟨J.keep b o hb hO,?_,fun i s e w=>?_⟩
 ·cases q:G' b with
  |none=>rfl
  |some u=>
   rcases J.new b u q with z|z
   ·exact absurd hg z
   ·rw[hb]at z;cases z
 ·rcases((J.slot i s e).own w).2.2 with z|z
  ·rw[hb]at z;cases z
  ·exact hO i z
end
section
variable {X:Cx} {x y z:Str} {p pos ap py pz tpos cpos apos:Pos} {e:Expr} {me:ME}
theorem ss_bkF (j ix iy:Nat)(bc:BkC X.K)(he:SE X e me)(hN:X.N.Nodup)(hp:PassesOwn (model X.prog X.w) X.A X.env X.xe)(hc:autoParam (X.calm=true) zu3._auto_1)(jx:autoParam (ix≠j) zu1._auto_1)(jy:autoParam (iy≠j) zu1._auto_1)(hj:autoParam (X.N[j]? =some x) zu3._auto_1)(hv:autoParam (Vis X.env.scope x) zu6._auto_1)(hd:autoParam ((x==("__debug__":Str))=false) zu1._auto_1)
  (hcd:autoParam ((x==("__classdict__":Str))=false) zu1._auto_1) (hb:autoParam (attributeBase (.Name x p) "kept" X.env (eval (.Name x p) X.env)=eval (.Name x p) X.env) zu3._auto_1)
  (hix:autoParam (X.N[ix]? =some y) zu3._auto_1) (hxl:autoParam (Loc X.env.scope y) zu9._auto_1) (hxf:autoParam (X.fn y=true\/X.env.scope.names.lookup y=some .local) zu9._auto_1)
  (hiy:autoParam (X.N[iy]? =some z) zu3._auto_1) (hyl:autoParam (Loc X.env.scope z) zu9._auto_1) (hyf:autoParam (X.fn z=true\/X.env.scope.names.lookup z=some .local) zu9._auto_1)
  (hsw:autoParam (swapsWith e (some (.Name z pz)) tpos.line X.env=pure false) zu3._auto_1)
  (hs:autoParam (∀v,foldedSetIterable (.Attribute (.Name x p) "kept" ap) X.env v=pure v) zu8._auto_1):
  SS X (.For (.Name y py) (.Attribute (.Name x p) "kept" ap) [.Assign [.Name z pz] e tpos] [] pos) (sBkF j ix iy me):=by
 obtain⟨C,c1,c2,c3,c4⟩:=bc;obtain⟨te,pe,se⟩:=he;refine⟨_,ps_for hp hc (pi_or (zit (zaX hj hv hd hcd) hb)) (zkx hN hix hxl hxf) (zkn (zgv hN hiy hyl pe hsw hyf)) hs,fun B G H σ ρ fl ρ' E I hm k=>?_⟩;obtain⟨⟨n,ds⟩,e1,hm1⟩:=zaa hm;obtain⟨⟨f,ρ1⟩,e2,hm2⟩:=zaa hm1;clear hm hm1;dsimp only at hm2 e2;cases f with
 |brk=>cases hm2
 |cont=>cases hm2
 |ret _=>cases hm2
 |next=>
  obtain⟨s,e3,hm⟩:=zaf hm2;cases hm;obtain⟨s2,e4,e5⟩:=zaa e1;rw[e3]at e4;cases e4;obtain⟨q,C2,dx,l,xs,h1,b,nd,ow⟩:=I.bk e3 e5;have h2:=b.ns;rw[c1]at h2;cases h2;have sl:=I.slot j s e3;have I0:=I.emp j;have nw:∀a∈[q,dx,l],Nw X.K G H σ (ρ.set j .emp) a:=fun a m=>nw_emp I e3 ((ow a).mpr m)
  have gn:∀a∈[q,dx,l],G a=none:=fun a m=>(sl.own ((ow a).mpr m)).1
  have J0:=I0.reA nw;have hlen:xs.length=ds.length:=b.rp.length;refine⟨.ref q,h1,q,C,dx,_,.ref l,rfl,b.ob,c2,c4,zg5,l,rfl,.inl ⟨⟨xs,SqL.of b.ls⟩,?_⟩⟩;have stl:∀{G2 H2:Hp} {σ2:St} {ρ2:R},SI X.K (B.reA X.K G H σ (ρ.set j .emp) [q,dx,l]) G2 H2 σ2 ρ2->H2 l=some (.lst xs):=fun{G2 H2 σ2 ρ2} J=>(I0.reA_stays J (by simp) b.ls (nw l (by simp)) (gn l (by simp))).1
  refine⟨fun i m σ2 H2=>m=ds.length-i/\i<=ds.length/\σ2[j]? =some (some (.ref q))/\∃G2 ρ2,SI X.K (B.reA X.K G H σ (ρ.set j .emp) [q,dx,l]) G2 H2 σ2 ρ2/\Fz G G2/\forM (fun d ρ=>sSet iy me (ρ.set ix (.val d))) (ds.drop i) ρ2=some (.next,ρ1),⟨ds.length,by simp,qaW _,h1,G,_,J0,Fz.refl _,by simpa using e2⟩,?_⟩;rintro i m σ2 H2 ⟨rfl,hi,hq,G2,ρ2,J2,f2,g2⟩
  by_cases hlt:i<ds.length
  ·rw[qbP hlt]at g2;simp only[forM]at g2;obtain⟨⟨f,ρ3⟩,g3,g4⟩:=zaa g2;obtain⟨⟨d',ρ4⟩,g5,g6⟩:=zaf g3;cases g6;have hx:i<xs.length:=by lia
   refine .inr ⟨⟨xs,xs[i],SqL.of (stl J2),qbN hx⟩,fun σ' H'=>σ'[j]? =some (some (.ref q))/\∃G3,SI X.K (B.reA X.K G H σ (ρ.set j .emp) [q,dx,l]) G3 H' σ' (ρ4.set iy (.val d'))/\Fz G G3,?_,fun v H' yy=>?_⟩
   ·rintro σ' H' ⟨hq',G3,J3,f3⟩;exact⟨ds.length-(i+1),by lia,rfl,hlt,hq',G3,_,J3,f3,g4⟩
   ·obtain⟨rfl,yv⟩:=yy;have ev:=yv xs (SqL.of (stl J2));have rd:RepD X.K G2 v ds[i]:=by
     obtain⟨w,w1,w2⟩:=b.rp.get (qbN hlt);rw[ev]at w1;cases w1;exact w2.mono f2
    refine se _ G2 H' _ _ d' ρ4 _ (J2.set (i:=ix) rd) g5 fun G5 H5 v5 J5 f5 r5=>?_
    refine⟨?_,G5,J5.set r5,f2.trans f5⟩;rw[qav jy,qav jx];exact hq
  ·have:i=ds.length:=by lia
   subst this;rw[List.drop_length]at g2;cases g2;refine .inl ⟨⟨xs,SqL.of (stl J2),by lia⟩,?_⟩;have st:∀a∈[q,dx,l],∀o,H a=some o->H2 a=some o/\G2 a=none/\Nw X.K G2 H2 σ2 ρ1 a:=fun a m o ho=>I0.reA_stays J2 m ho (nw a m) (gn a m)
   have I2:=I0.unreA J2;have hH:∀a∈[q,dx,l],H2 a=H a:=fun a m=>by
    obtain⟨o,ho⟩:=qbG.mp (sl.own ((ow a).mpr m)).2.1;rw[(st a m o ho).1,ho]
   have ng:∀a∈[q,dx,l],G2 a=none/\Nw X.K G2 H2 σ2 ρ1 a:=fun a m=>by
    obtain⟨o,ho⟩:=qbG.mp (sl.own ((ow a).mpr m)).2.1;exact(st a m o ho).2
   have b2:BkAt X.K G2 H2 q C dx l n xs ds:=⟨b.ns,by rw[hH q (by simp)];exact b.ob,by rw[hH dx (by simp)];exact b.dx,by rw[hH l (by simp)];exact b.ls,b.rp.mono f2⟩;have J3:=I2.chg (i:=j) (ov:=some (.ref q)) (s':=s) I2.fz (Fz.refl G2) I2.new I2.keep I2.there (fun i t a zz ei w g _=>⟨g,rfl,fun w'=>?_⟩) ?_
   ·rw[zhB hq]at J3;exact k G2 H2 σ2 J3 f2
   ·have:∃v A,some (some (V.ref q))=some (some v)/\RepT X.K G2 H2 v (bkT n ds) A/\a∈A:=by
     cases s with
     |tre t=>cases T.bk_eq e5;exact w'
     |ptr t=>cases T.bk_eq e5;exact w'
     |_=>cases e5
    obtain⟨v2,A2,k1,k2,k3⟩:=this;cases k1;rw[<-b2.rep.det k2 fun _ _=>rfl]at k3;exact(ng a k3).2 i t ei w
   ·cases s with
    |tre t=>
     cases T.bk_eq e5;obtain⟨v,A,z1,z2,z3,z4⟩:=sl;rw[h1]at z1;cases z1;have eA:[q,dx,l]=A:=b.rep.det z2 fun _ _=>rfl
     subst eA;exact⟨.ref q,_,rfl,b2.rep,z3,fun a m=>⟨(ng a m).1,(z4 a m).2⟩⟩
    |ptr t=>
     cases T.bk_eq e5;obtain⟨v,A,z1,z2,z3,z4⟩:=sl;rw[h1]at z1;cases z1;have eA:[q,dx,l]=A:=b.rep.det z2 fun _ _=>rfl
     subst eA;exact⟨.ref q,_,rfl,b2.rep,z3,fun a m=>⟨(ng a m).1,(z4 a m).2⟩⟩
    |_=>cases e5
theorem se_pop0 (j:Nat)(hN:autoParam (X.N[j]? =some x) zu3._auto_1)(hv:autoParam (Vis X.env.scope x) zu6._auto_1)(hd:autoParam ((x==("__debug__":Str))=false) zu1._auto_1)
  (hcd:autoParam ((x==("__classdict__":Str))=false) zu1._auto_1) (hbase:autoParam (attributeBase (.Name x p) "pop" X.env (eval (.Name x p) X.env)=eval (.Name x p) X.env) zu3._auto_1) (hline:autoParam ((apos.endLine==cpos.line)=true) zu3._auto_1):SE X (.Call (.Attribute (.Name x p) "pop" apos) [] [] cpos) (ePop0 j):=by
 refine⟨_,pe_bm0 qbO PySem.F.slot_list_pop PySem.F.type_list_pop mt_pop (zaX hN hv hd hcd) hbase hline,fun B G H σ ρ d ρ' Q I hm k=>?_⟩;obtain⟨s,e1,hm⟩:=zaa hm;obtain⟨ds,e2,hm⟩:=zaa hm;obtain⟨d',e3,hm⟩:=zaf hm;cases hm;obtain⟨l,xs,h1,h2,h3,h4⟩:=I.wr e1 e2;have hl:ds[ds.length-1]? =some d:=by rw[<-List.getLast?_eq_getElem?];exact e3
 obtain⟨w,w1,w2⟩:=h4.get hl;refine⟨.ref l,h1,.inl ⟨rfl,_,SqL.of h3⟩,l,xs,w,rfl,rfl,h3,by rw[h4.length];exact w1,k G _ w (I.write e1 e2 h1 ?_) (Fz.refl G) w2⟩;rw[qcO,qcO,h4.length];exact h4.take _
end
noncomputable def rCntI (K:W.Frag):V->List V->Hp->VK->Prop:=fun x vs H Q=>∃(l:Addr) (ns:List Int) (k:Int),x= .ref l/\vs=[.int k]/\SqL K H l (ns.map V.int)/\Q (.int (ns.count k:Nat)) H
theorem mt_cntI:MtR X "list.count" (rCntI X.K):=by
 intro pins s σ H x vs v us Q I rx rv h;obtain⟨l,ns,k,rfl,rfl,hq,q⟩:=h;cases rx;obtain⟨u,rfl,ru⟩:=rv.one;obtain⟨t,rfl⟩:=(show ∃t,u=Value.int k t from ru);obtain⟨its,r,p,hz⟩:=I.list hq;exact count_list_ints p.isList (zdD r) ⟨.int (ns.count k:Nat),H,I.tok _,⟨_,rfl⟩,q⟩
noncomputable def dCntI:D->D->Option D
 | .lst ds,.int k=>(za5 ds).map fun ns=> .int (ns.count k:Nat)
 |_,_=>none
theorem zns {o e:Expr}{mo me:ME}{apos cpos:Pos}(ho:SE X o mo)(he:SE X e me)
  (hbase:autoParam (attributeBase o "count" X.env (eval o X.env)=eval o X.env) zu3._auto_1)
  (hfew :autoParam (((backTo cpos (starEach [e] X.env)).all (fun x => !x.1) && (backToKw cpos (keywordEach [] X.env)).all (fun x => x.1.isSome)
   &&decide ([e].length+([]:List Keyword).length+(if([]:List Keyword).isEmpty then 0 else 1)<30))=true) zu3._auto_1)
  (hline:autoParam ((apos.endLine==cpos.line)=true) zu3._auto_1) (hs:autoParam (starEach [e] X.env=(false,eval e X.env)::starEach [] X.env) zu3._auto_1):SE X (.Call (.Attribute o "count" apos) [e] [] cpos) (m2 dCntI mo me):=by
 obtain⟨to,po,so⟩:=ho;obtain⟨te,pe,se⟩:=he;refine⟨_,pe_bm qbO PySem.F.slot_list_count PySem.F.type_list_count mt_cntI po (zaG pe zbX hs) hbase hfew hline hs rfl,fun B G H σ ρ d ρ' Q I hm k=>?_⟩;obtain⟨⟨d1,ρ1⟩,e1,hm⟩:=zaa hm;obtain⟨⟨d2,ρ2⟩,e2,hm⟩:=zaa hm;obtain⟨d3,e3,hm⟩:=zaf hm;cases hm;refine so B G H σ ρ d1 ρ1 _ I e1 fun G1 H1 v I1 f1 r1=>?_
 match d1,d2,e3 with
 | .lst ds,.int b,e3=>
  obtain⟨bs,e4,e3⟩:=zaf e3;cases e3;obtain⟨a,xs,rfl,ha,rr⟩:=r1;refine⟨.inl ⟨rfl,xs,SqL.of (I1.fz _ _ ha)⟩,?_⟩;refine se B G1 H1 σ ρ1 _ ρ2 _ I1 e2 fun G2 H2 u I2 f2 r2=>?_
  cases(show u=V.int b from r2);have e5:=zis e4;subst e5;have ex:xs=bs.map V.int:=RepL.ints_eq (rr.mono f2);subst ex;exact⟨a,bs,b,rfl,rfl,SqL.of (I2.fz _ _ (f2 _ _ ha)),k G2 H2 _ I2 (f1.trans f2) rfl⟩
noncomputable abbrev MXG:=R->Option (Str×R)
noncomputable def upX (c:Str)(F:R->Option (Str×R)):R->Option (Sl×R):=fun as=>(F as).bind fun p=>if p.1=c then some (.val .non,p.2)else none
noncomputable def spGX (K:W.Frag)(n:Nat)(F:R->Option (Str×R)):Sp:=fun vs H _ E=>∃c,spG K n (upX c F) vs H (fun _ H'=>∀C,zn4 K c C->E (.ref C) none H') E
section
variable (X:Cx) (S:St->Prop) (E:XK)
noncomputable def WishG (K:W.Frag)(B:Bs)(G:Hp)(σ:St)(E:XK)(c:Str)(ρ':R):Prop:=∀G' H' C,SI K B G' H' σ ρ'->Fz G G'->zn4 K c C->E (.ref C) none H'
noncomputable def XGE (e:Expr)(x:MXG):Prop:=∃t,PE X e t/\∀B G H σ ρ c ρ',SI X.K B G H σ ρ->S σ->x ρ=some (c,ρ')->WishG X.K B G σ E c ρ'->∀Q,t σ H Q
noncomputable def XGS (st:Stmt)(x:MXG):Prop:=∃t,PS X st t/\∀B G H σ ρ c ρ',SI X.K B G H σ ρ->S σ->x ρ=some (c,ρ')->WishG X.K B G σ E c ρ'->∀D,t D σ H
noncomputable def XGSs (st:List Stmt)(x:MXG):Prop:=∃t,PSs X st t/\∀B G H σ ρ c ρ',SI X.K B G H σ ρ->S σ->x ρ=some (c,ρ')->WishG X.K B G σ E c ρ'->∀D,t D σ H
end
theorem WishG.mono {G G1:Hp}{c:Str}(w:WishG K B G σ E c ρ')(f:Fz G G1):WishG K B G1 σ E c ρ':=fun G' H' C I f' hC=>w G' H' C I (f.trans f') hC
noncomputable def xgIf (c:MT)(a:MXG):MXG:=fun ρ=>(c ρ).bind fun p=>if p.1 then a p.2 else none
noncomputable def zk6 (c:MT)(a b:MXG):MXG:=fun ρ=>(c ρ).bind fun p=>if p.1 then a p.2 else b p.2
noncomputable def zkD (c:Str):MXG:=fun ρ=>some (c,ρ)
noncomputable def zfq (F:R->Option (Str×R))(js:List (Option Nat))(ma:R->Option (R×R)):MXG:=fun ρ=>(ma ρ).bind fun p=>(F p.1).map fun q=>(q.1,zar js q.2 p.2)
noncomputable def fGX (N:Nat)(x:MXG):R->Option (Str×R):=fun as=>(x (as++List.replicate (N-as.length) .emp)).bind fun p=>(outS as p.2).map fun o=>(p.1,o)
noncomputable def KindX (F:R->Option (Str×R)):Prop:=∀c,zke (upX c F)
theorem zfp {N:Nat}:KindX (fGX N x):=fun c as r os h=>by
 obtain⟨⟨c',o'⟩,h1,h2⟩:=zaa h;obtain⟨⟨c2,ρ⟩,_,h3⟩:=zaa h1;obtain⟨o,e,q⟩:=zaf h3;cases q;dsimp only at h2
 split at h2
 ·cases h2;exact zcB e
 ·cases h2
section
variable {X:Cx} {S:St->Prop} {E:XK} {x:Str} {p pos:Pos} {e:Expr} {mx mx':MXG}
theorem zlz (h:XGE X S E e mx)(hs:autoParam (swapsWith e none pos.line X.env=pure false) zu3._auto_1):XGS X S E (.Expr e pos) mx:=by
 obtain⟨t,pt,st⟩:=h;exact⟨_,zhl pt hs,fun B G H σ ρ c ρ' I hS hm w D=>st B G H σ ρ c ρ' I hS hm w _⟩
theorem zkp (i:Nat){pos':Pos}(h:XGE X S E e mx)(hN:X.N.Nodup)(hi:autoParam (X.N[i]? =some y) zu3._auto_1)(hx:autoParam (Loc X.env.scope y) zu9._auto_1)(hs:autoParam (swapsWith e (some (.Name y pos')) pos.line X.env=pure false) zu3._auto_1)(hf:autoParam (X.fn y=true\/X.env.scope.names.lookup y=some .local) zu12._auto_1):
  XGS X S E (.Assign [.Name y pos'] e pos) mx:=by
 obtain⟨t,pt,st⟩:=h;exact⟨_,zgv hN hi hx pt hs hf,fun B G H σ ρ c ρ' I hS hm w D=>st B G H σ ρ c ρ' I hS hm w _⟩
theorem xgs_if {a b:List Stmt}(hc:STt X c mc)(ha:XGSs X S E a mx):XGS X S E (.If c a b pos) (xgIf mc mx):=by
 obtain⟨tc,pc,sc⟩:=hc;obtain⟨t,pt,st⟩:=ha;refine⟨_,ps_if (u:=fun _ _ _=>False) pc pt (fun _ _ _ _ _ _ h=>h.elim),fun B G H σ ρ c ρ' I hS hm w D=>?_⟩;obtain⟨⟨b,ρ1⟩,e1,hm⟩:=zaa hm;refine sc B G H σ ρ b ρ1 _ I e1 fun G1 H1 I1 f1=>?_
 cases b with
 |true=>rw[if_pos rfl];exact st B G1 H1 σ ρ1 c ρ' I1 hS (by simpa using hm) (w.mono f1) D
 |false=>simp at hm
theorem zoi {a b:List Stmt}(hc:STt X c mc)(ha:XGSs X S E a mx)(hb:XGSs X S E b mx'):XGS X S E (.If c a b pos) (zk6 mc mx mx'):=by
 obtain⟨tc,pc,sc⟩:=hc;obtain⟨t,pt,st⟩:=ha;obtain⟨u,pu,su⟩:=hb;refine⟨_,ps_if pc pt pu,fun B G H σ ρ c ρ' I hS hm w D=>?_⟩;obtain⟨⟨b,ρ1⟩,e1,hm⟩:=zaa hm;refine sc B G H σ ρ b ρ1 _ I e1 fun G1 H1 I1 f1=>?_
 cases b with
 |true=>rw[if_pos rfl];exact st B G1 H1 σ ρ1 c ρ' I1 hS (by simpa using hm) (w.mono f1) D
 |false=>rw[if_neg (by decide)];exact su B G1 H1 σ ρ1 c ρ' I1 hS (by simpa using hm) (w.mono f1) D
theorem zbq {st:Stmt}{rest:List Stmt}(h:XGS X S E st mx):XGSs X S E (st::rest) mx:=by
 obtain⟨t,pt,so⟩:=h;exact⟨_,zgU (u:=fun _ _ _=>False) pt (fun _ _ _ _ _ _ h=>h.elim),fun B G H σ ρ c ρ' I hS hm w D=>so B G H σ ρ c ρ' I hS hm w _⟩
theorem zjx {c m:Str}{np cp cpos pos:Pos}{j:Nat}(tp:TopF X)(hxe:X.xe=zkB X E)(hgl:X.env.globals=mainGlobals)(hc:X.calm=true)(hr:RaiOk X.K X.mg c)
  (hg:autoParam (Gl X c) zu3._auto_1) (hd:autoParam ((c==("__debug__":Str))=false) zu1._auto_1)
  (he:autoParam (starEach [Expr.Constant (.str m) j cp] X.env=(false,eval (.Constant (.str m) j cp) X.env)::starEach [] X.env) zu3._auto_1) (hpl:autoParam (((backTo cpos (starEach [] X.env)).any (·.1))=false) zu3._auto_1):
  XGS X S E (.Raise (some (.Call (.Name c np) [.Constant (.str m) j cp] [] cpos)) none pos) (zkD c):=by
 obtain⟨C,hm,hn,hC⟩:=hr;refine⟨fun D σ H=>E (.ref C) none H,fun pins s σ H D I h=>?_,fun B G H σ ρ c' ρ' I hS hm' w D=>?_⟩
 ·obtain⟨mm,fr⟩:=I.fr;have own:=hC X.base X.mg c I.ok.mod.kin hm;have pa:=(zaG (X:=X) (pe_str (X:=X) (x:=m) (j:=j) (pos:=cp)) zbX he) cpos pins s σ H (fun vs H1=>vs.length=1/\H1=H) I ⟨rfl,rfl⟩;have kd:X.env.kindOf c=some .globalImplicit:=hg;have gl:=I.ok.mod.glob.keeps fr.keep;rw[<-hgl]at gl;obtain⟨v1,v2,v3,v4,v5,v6,v7,v8,v9,v10,v11,v12,v13,v14,v15,v16,v17,o1,o2,o3,o4⟩:=own.obj;refine wpAny_Raise_call_subT (bm:=v1) (N:=v2) (nm:=v3) (q:=v4) (bs:=v5) (hdct:=v6) (sn:=v7) (sub:=v8) (ab:=v9) (col:=v10) (dd:=v11) (k0:=v12) (k1:=v13) (k2:=v14) (k3:=v15) (k5:=v16) F.excBase_ValueError (o4.hasType F.excBase_ValueError.hasBase) (I.ok.hd hc) ?pl o3 (qax I.ok.kind kd (Calls.loadGlobal_global gl own.bound ⟨rfl,?_⟩) hd)
  case pl=>rw[he];exact hpl
  rw[he]at pa ⊢;refine Calls.evalArgs_plain (qaw pa (fun us s2 ⟨vs,H1,I1,r,q1,q2⟩=>?_) fun _ _ q=>q);subst q2;refine⟨rfl,?_,I1.bk _ _ o1,o2.keeps I1.bk,o4.keeps I1.bk,fun h' e mk=>raises1 (tk:=s2.toks) tp hxe I1 mk h⟩;rw[<-r.length,q1];decide
 ·cases hm';exact w G H C I (Fz.refl G) hn
end
section
variable {P:Program} {w:World} {K:W.Frag} {mg:Str->Option Value} {base:Heap}
theorem fnGX_ok {x qual:Str}{st:Stmt}{k n:Nat}{m:MXG}(F:Fun K x qual st f fd)(S:FnScope N ps (zan st))(hn:ps.length=n)(hN:n<=N.length)
  (body:∀(cdv:Value) (A:Around) (outer:List Env) (s:Shared) (H:Hp) (E:XK),Room k (A.deeper (envOfC qual (zan st) s.heap.objs.size f cdv))->XGSs (cxOf (CX1 P w) P w K mg base N qual (zan st) f cdv A outer s H E) (fun _=>True) E (zaO st) m):
  FnOk P w K mg base (CX1 P w) (k+1) f fd ps (spGX K n (fGX N.length m)):=by
 obtain⟨oc,od,kV,doc,pm,an,cdv,ct,osl,rfl,lk,hcd⟩:=F.ex;refine fn_of lk hcd S (fun vs H Q E h=>?_) fun A outer s H vs Q E hr h=>?_
 ·obtain⟨c,G,O,as,r,outs,_,h2,I,_⟩:=h;have:=I.len;rw[qaT]at this;lia
 ·obtain⟨c,G,O,as,r,outs,e1,h2,I,kk⟩:=h;obtain⟨t,pt,so⟩:=body cdv A outer s H E hr;obtain⟨⟨c',o'⟩,e2,e3⟩:=zaa e1;obtain⟨⟨c2,ρ'⟩,e4,e5⟩:=zaa e2;obtain⟨o,eo,q⟩:=zaf e5;cases q;dsimp only at e3
  split at e3
  ·rename_i ec;cases e3;subst ec;refine⟨t,pt,so ⟨G,H,O⟩ G H (L2.start N vs) _ _ ρ' (I.startG (by lia)) trivial e4 (fun G' H' C J f hC=>?_) _⟩;exact kk G' H' .non f J.fz J.new (fun b o e n=>J.keep b o e n) J.there (fun i s e=>by
    rcases zfW eo e with rfl|q
    ·exact⟨none,trivial⟩
    ·exact⟨_,J.slot i s q⟩) rfl C hC
  ·cases e3
end
structure MDX (P:Program) (w:World) (K:W.Frag) (mg:Str->Option Value) (base:Heap) (k:Nat) (m:Str) (sp:Sp):Prop where
 ex:∃C f fd ps,W.nsIn K mainGlobals "SumBook"=some (some (.ref C))/\Cls K C/\Meth K C m f/\FnOk P w K mg base (CX1 P w) k f fd ps sp/\Binds K fd ps []
section
variable {X:Cx} {S:St->Prop} {E:XK} {x mt:Str} {p pos ap:Pos} {e:Expr} {es:List Expr} {k k' n:Nat} {F:R->Option (Str×R)} {js:List (Option Nat)} {mg:R->Option (R×R)}
theorem znP {s:Shared}{us ds:List Value}{vs dvs:List V}{sp:Sp}(F:FnOk X.prog X.w X.K X.mg X.base (CX1 X.prog X.w) k f fd ps sp)(hr:Room k X.A)(hb:Binds X.K fd ps ds)(hd:Vals dvs ds)(hx:zfz X S E)(hS:S σ)
  (I:Inv X pins σ H s) (r:Vals vs us) (h:sp (vs++dvs) H Q E):wpAny (model X.prog X.w) X.A (call (.ref f) us) (EP X pins σ Q) X.xe s:=by
 have r2:Vals (vs++dvs) (us++ds):=r.append hd;have hl:(us++ds).length=ps.length:=by rw[<-r2.length];exact F.len _ _ _ _ h
 refine qaZ (qa0 (F.run X.A X.stack s H ⟨us,[]⟩ (us++ds) (vs++dvs) Q E hr I.env0 (hb s us I.kIn hl) r2 h) fun r s' hq=>?_);cases r with
 |error e=>exact hx pins σ H s e s' I hS hq
 |ok fl=>
  cases fl with
  |ret u=>exact I.after hq
  |next=>exact False.elim hq
  |brk=>exact False.elim hq
  |cont=>exact False.elim hq
theorem zgN {pl:Sem Bool}(j:Nat)(md:MDX X.prog X.w X.K X.mg X.base k mt (spGX X.K n F))(kF:KindX F)(hx:zfz X S E)(hr:Room k' X.A)(ha:SGA X js [] (e::es) mg)(hN:autoParam (X.N[j]? =some x) zu3._auto_1)(hv:autoParam (Vis X.env.scope x) zu6._auto_1)(hd:autoParam ((x==("__debug__":Str))=false) zu1._auto_1)
  (hcd:autoParam ((x==("__classdict__":Str))=false) zu1._auto_1) (hn:autoParam (js.length+1=n) zu3._auto_1) (hj:autoParam (jsOk (some j::js) []=true) zu3._auto_1) (lt:autoParam (js.length+1<=4096) zu1._auto_1) (hm1:autoParam (¬mt="many") zu11._auto_1) (hm2:autoParam (¬mt="kept") zu11._auto_1) (hk:autoParam (k<=k') zu1._auto_1)
  (he:autoParam (starEach (e::es) X.env=(false,eval e X.env)::starEach es X.env) zu3._auto_1) (hpl:autoParam ((backTo pos (starEach es X.env)).any (·.1)=false) zu3._auto_1)
  (ht :autoParam (eval (.Call (.Attribute (.Name x p) mt ap) (e :: es) [] pos) X.env = (do
   let ov<-eval (.Name x p) X.env
   standAt ap.atName
   let(f,first)<-holding [ov] (getMethod ov mt pl)
   callWith pos f first (backTo pos (starEach (e::es) X.env)) (backToKw pos (keywordEach [] X.env)))) zu3._auto_1):XGE X S E (.Call (.Attribute (.Name x p) mt ap) (e::es) [] pos) (zfq F (some j::js) (zda j mg)):=by
 obtain⟨C,f,fdd,ps,c1,c2,c3,c4,c5⟩:=md.ex;obtain⟨t,pa,sa⟩:=ha;have pv:=zaX (X:=X) (pos:=p) hN hv hd hcd;refine⟨fun σ H Q=>S σ/\tMeth C mt (spGX X.K n F) [] E (tVar j) t σ H Q,?_,fun B G H σ ρ c ρ' I hS hm w Q=>⟨hS,?_⟩⟩
 ·rintro pins s σ H Q I ⟨hS,h⟩;refine qa2 (pl:=pl) (thn (pv pins s σ H _ I h) fun u s1 ⟨x,H1,I1,rx,a,dx,fs,ex,ea,l,q⟩=>?_) ht;subst ex;obtain rfl:u=Value.ref a:=rx;refine zeL I1 ea c2 c3 l ?_;refine W.callWith_K (first:=[.ref a]) (h₀:=X.base) I.ok.mod.kin c3.kp (thn (pa pos pins s1 σ H1 _ I1 q) fun us s2 ⟨vs,H2,I2,r,q2⟩=>⟨I2.kIn,?_⟩) he hpl;exact znP (us:= .ref a::us) (vs:= .ref a::vs) c4 (hr.mono hk) c5 .nil hx hS I2 (.cons rfl r) q2
 ·obtain⟨⟨as,ρ1⟩,e1,hz1⟩:=zaa hm;obtain⟨⟨c',outs⟩,e2,hz2⟩:=zaf hz1;cases hz2;unfold zda at e1
  split at e1
  ·rename_i hi;obtain⟨⟨n0,ds0⟩,hi⟩:=qa4.mp hi;obtain⟨s0,i1,i2⟩:=zaa hi;obtain⟨q,C2,dx,l0,xs0,h1,b0,_⟩:=I.bk i1 i2;have h2:=b0.ns;rw[c1]at h2;cases h2;obtain⟨⟨as1,ρ2⟩,e3,e1⟩:=zaa e1;obtain⟨s,e4,e1⟩:=zaf e1;cases e1;refine⟨.ref q,h1,q,dx,_,rfl,b0.ob,bk_no (C:=C) (dx:=dx) hm1 hm2,sa B G H σ ρ as1 ρ2 _ I e3 fun G1 H1 vs Gx I1 f1 L A=>?_⟩;show spGX X.K n F (V.ref q::(vs++[])) H1 Q E;rw[qaY];have e5:upX c' F (s::as1)=some (.val .non,outs):=by unfold upX;rw[e2];exact if_pos rfl
   exact⟨c',zmv (js:=some j::js) I1 L (show ArgsOk X.K Gx σ ρ2 (some j::js) (V.ref q::vs) (s::as1)from⟨⟨h1,e4⟩,A⟩) e5 (by rw[qaQ,<-A.len.2,hn]) (kF c') hj (by simpa using lt) rfl fun G' H' v I' f' rr _ C hC=>w G' H' C I' (f1.trans f') hC⟩
  ·cases e1
theorem znE {pl:Sem Bool}(j:Nat)(md:MDX X.prog X.w X.K X.mg X.base k mt (spGX X.K 1 F))(kF:KindX F)(hx:zfz X S E)(hr:Room k' X.A)(hN:autoParam (X.N[j]? =some x) zu3._auto_1)(hv:autoParam (Vis X.env.scope x) zu6._auto_1)(hd:autoParam ((x==("__debug__":Str))=false) zu1._auto_1)
  (hcd:autoParam ((x==("__classdict__":Str))=false) zu1._auto_1) (hm1:autoParam (¬mt="many") zu11._auto_1) (hm2:autoParam (¬mt="kept") zu11._auto_1) (hk:autoParam (k<=k') zu1._auto_1)
  (ht :autoParam (eval (.Call (.Attribute (.Name x p) mt ap) [] [] pos) X.env = (do
   let ov<-eval (.Name x p) X.env
   standAt ap.atName
   let(f,first)<-holding [ov] (getMethod ov mt pl)
   callWith pos f first (backTo pos (starEach [] X.env)) (backToKw pos (keywordEach [] X.env)))) zu3._auto_1):XGE X S E (.Call (.Attribute (.Name x p) mt ap) [] [] pos) (zfq F [some j] (zda j hNil)):=by
 obtain⟨C,f,fdd,ps,c1,c2,c3,c4,c5⟩:=md.ex;have pv:=zaX (X:=X) (pos:=p) hN hv hd hcd;refine⟨fun σ H Q=>S σ/\tMeth C mt (spGX X.K 1 F) [] E (tVar j) tNil σ H Q,?_,fun B G H σ ρ c ρ' I hS hm w Q=>⟨hS,?_⟩⟩
 ·rintro pins s σ H Q I ⟨hS,h⟩;refine qa2 (pl:=pl) (thn (pv pins s σ H _ I h) fun u s1 ⟨x,H1,I1,rx,a,dx,fs,ex,ea,l,q⟩=>?_) ht;subst ex;obtain rfl:u=Value.ref a:=rx;refine zeL I1 ea c2 c3 l ?_;exact W.callWith_K0 (first:=[.ref a]) I1.kIn c3.kp (znP (us:=[.ref a]) (vs:=[.ref a]) c4 (hr.mono hk) c5 .nil hx hS I1 (.cons rfl .nil) q)
 ·obtain⟨⟨as,ρ1⟩,e1,hz1⟩:=zaa hm;obtain⟨⟨c',outs⟩,e2,hz2⟩:=zaf hz1;cases hz2;unfold zda at e1
  split at e1
  ·rename_i hi;obtain⟨⟨n0,ds0⟩,hi⟩:=qa4.mp hi;obtain⟨s0,i1,i2⟩:=zaa hi;obtain⟨q,C2,dx,l0,xs0,h1,b0,_⟩:=I.bk i1 i2;have h2:=b0.ns;rw[c1]at h2;cases h2;obtain⟨⟨as1,ρ2⟩,e3,e1⟩:=zaa e1;obtain⟨s,e4,e1⟩:=zaf e1;cases e1;cases e3;refine⟨.ref q,h1,q,dx,_,rfl,b0.ob,bk_no (C:=C) (dx:=dx) hm1 hm2,?_⟩;show spGX X.K 1 F (V.ref q::([]++[])) H Q E;have e5:upX c' F [s]=some (.val .non,outs):=by unfold upX;rw[e2];exact if_pos rfl
   exact⟨c',zmv (js:=[some j]) (ls:=[]) (Gx:=G) I ⟨Fz.refl G,I.fz,fun a g n=>absurd g n,fun a o g n=>by rw[g]at n;cases n⟩ (show ArgsOk X.K G σ ρ [some j] [V.ref q] [s]from⟨⟨h1,e4⟩,trivial⟩) e5 rfl (kF c') rfl (by show 1<=4096;decide) rfl fun G' H' v I' f' rr _ C hC=>w G' H' C I' f' hC⟩
  ·cases e1
end
noncomputable def zkk (m:MS)(x:MXG)(ok:List Str)(i j:Nat):MS:=fun ρ=>match x ρ with
 |some p=>if ok.contains p.1 then some (.next,(p.2.set i (.val (.exc p.1))).set j .emp)else none
 |none=>m ρ
theorem ss_tryG {ok:List Str}(i j:Nat){y n hc:Str}{hp p1 p2 p3 pos tpos:Pos}(tp:TopF X)
  (hb:∀pins,SSs (tryB X pins fun _ _=>False) body m) (hx:∀pins F S E,zfz (tryB X pins F) S E->XGSs (tryB X pins F) S E body x)
  (hcat:CatOk X.K X.mg hc ok)
  (hN:X.N.Nodup) (hi:autoParam (X.N[i]? =some y) zu3._auto_1) (hj:autoParam (X.N[j]? =some n) zu3._auto_1) (hij:autoParam (i≠j) zu1._auto_1)
  (ly:autoParam (X.env.scope.names.lookup y=some .local) zu3._auto_1) (ln:autoParam (X.env.scope.names.lookup n=some .local) zu3._auto_1) (hdn:autoParam ((n==("__debug__":Str))=false) zu1._auto_1) (hcn:autoParam ((n==("__classdict__":Str))=false) zu1._auto_1) (hg:autoParam (Gl X hc) zu3._auto_1) (hdh:autoParam ((hc==("__debug__":Str))=false) zu1._auto_1) (hsw:autoParam (swapsWith (.Name n p2) (some (.Name y p1)) p3.line X.env=pure false) zu3._auto_1):
  SS X (.Try body [.ExceptHandler (some (.Name hc hp)) (some n) [.Assign [.Name y p1] (.Name n p2) p3] pos] [] [] tpos) (zkk m x ok i j):=by
 refine⟨fun D σ H=>∀pins s,Inv X pins σ H s->wpAny (model X.prog X.w) X.A (exec (.Try body [.ExceptHandler (some (.Name hc hp)) (some n) [.Assign [.Name y p1] (.Name n p2) p3] pos] [] [] tpos) X.env) (SP X pins D) X.xe s,fun pins s σ H D I h=>h pins s I,fun B G H σ ρ fl ρ' D I hmm k pins s J=>wpAny_Try_except ?_⟩;unfold zkk at hmm;obtain⟨CS,hm,hok⟩:=hcat;cases ex:x ρ with
 |none=>
  rw[ex]at hmm;obtain⟨t,pt,so⟩:=hb pins;refine qaw (pt [] s σ H D (znd J) (so B G H σ ρ fl ρ' D I hmm k)) (fun f s1 q=>?_) fun _ _ q=>q.elim
  have q:=sp_untry q;cases f with
  |next=>exact qaA q
  |brk=>exact q
  |cont=>exact q
  |ret u=>exact q
 |some c=>
  obtain⟨c,ρ1⟩:=c;rw[ex]at hmm;dsimp only at hmm
  split at hmm
  ·rename_i okc;cases hmm;obtain⟨C',hC,hS⟩:=hok c okc
   let E2:XK:=fun C _ H'=>∃C',C= .ref C'/\W.exmOne X.K (.ref C') (.ref CS)=some true/\∀a,H' a=none->D.nx ((σ.set i (some (.ref a))).set j none) (upd H' a (.ext (zkR a C')))
   obtain⟨t,pt,so⟩:=hx pins (fun e s₁=>wpAny (model X.prog X.w) X.A (noteFrame e X.env) (fun _ s₂=>wpAny (model X.prog X.w) X.A (setFlight e none) (fun _ s₃=>wpAny (model X.prog X.w) X.A (handleBy e X.env [.ExceptHandler (some (.Name hc hp)) (some n) [.Assign [.Name y p1] (.Name n p2) p3] pos]) (SP X pins D) X.xe s₃) X.xe s₂) X.xe s₁) (fun σ'=>σ'=σ) E2
    (fun pins' σ' H1 s1 e s' J1 hσ cx => by
     subst hσ;exact caught tp (zeD J1) hN hi hj hij ly ln hdn hcn hg hm hdh hsw (fun C H' q=>q) cx)
   refine qaw (pt [] s σ H {nx:=fun _ _=>False,rt:=fun _ _=>False} (znd J) (so B G H σ ρ c ρ1 I rfl ex (fun G' H' C I2 f2 hC2=>?_) _)) (fun f s1 q=>?_) fun _ _ q=>q
   ·have hC2:W.nsIn X.K mainGlobals c=some (some (.ref C)):=hC2;have:C=C':=by rw[hC]at hC2;cases hC2;rfl
    subst this;refine⟨C,rfl,hS,fun a ha=>?_⟩;have I3:=(I2.allocF ha (.ext (zkR a C))).set (i:=i) (v:= .ref a) (d:= .exc c) ⟨a,C,rfl,hC,zal⟩;exact k _ _ _ (I3.drop j) (f2.trans (Fz.new (I2.fz.free ha) _))
   ·cases f with
    |next=>obtain⟨_,_,_,z⟩:=q;exact z.elim
    |brk=>obtain⟨_,_,_,z⟩:=q;exact z.elim
    |cont=>obtain⟨_,_,_,z⟩:=q;exact z.elim
    |ret u=>obtain⟨_,_,_,_,_,z⟩:=q;exact z.elim
  ·cases hmm
section
variable {P:Program} {w:World} {K:W.Frag} {mg:Str->Option Value} {base:Heap} {mt q:Str} {st:Stmt} {N:List Str} {k n:Nat} {m:MXG}
noncomputable abbrev BdX (P:Program)(w:World)(K:W.Frag)(mg:Str->Option Value)(base:Heap)(x:Str)(st:Stmt)(N:List Str)(k:Nat)(m:MXG):Prop:=∀(f:Addr) (cdv:Value) (A:Around) (outer:List Env) (s:Shared) (H:Hp) (E:XK),Room k (A.deeper (PyProof.Rows.envOfC x (zan st) s.heap.objs.size f cdv))->N.Nodup->XGSs (cxOf (CX1 P w) P w K mg base N x (zan st) f cdv A outer s H E) (fun _=>True) E (zaO st) m
theorem mdGX (h:MAt K mt q st)(b:BdX P w K mg base q st N k m)(d:DefOkM mt q st N n:=by exact⟨⟨rfl,rfl,rfl,by decide+kernel,rfl,by decide+kernel,by decide+kernel⟩,rfl,by decide,fun _ _ _ _ _ _=>by repeat (first | exact us_0 rfl | refine us_s fun _ => ?_)⟩):MDX P w K mg base (k+1) mt (spGX K n (fGX N.length m)):=
 let⟨C,f,fd,a1,a2,a3,T⟩:=h
 ⟨⟨C,f,fd,_,a1,a2,a3,fnGX_ok T d.sc d.len d.le fun cdv A outer s H E hr=>b _ cdv A outer s H E hr d.sc.nd,T.binds d.bs⟩⟩
end
end M
namespace M
open L2 PySem
variable {c d x:D} {b:MS} {z:Bool} {Q:Fl×R->Prop} {a i n j N:Nat} {f:D->R->Option (Option D×R)} {g:D->R->Option R} {mt:MT} {me m:ME} {ρ:R} {r:Sl} {h:List D->R->Option R} {ds xs ys:List D} {mi ma:MA} {t:Option Sl} {F:List D->Option Sl} {cap:List Nat} {I:R->Prop}
noncomputable abbrev Rt {α:Type}(_:α->Prop):Type:=Option α
noncomputable def OkQ {α:Type}(Q:α->Prop)(o:Rt Q):Prop:=∃a,o=some a/\Q a
noncomputable def Ok {α:Type}(o:Option α)(Q:α->Prop):Prop:=OkQ Q o
noncomputable abbrev RtS {α:Sort u}(_:α):Type:=Option Sl
section
variable {α β:Type} {o:Option α} {Q Q':α->Prop}
theorem ok_some {a:α}:OkQ Q (some a)=Q a:=propext ⟨fun⟨_,e,q⟩=>by cases e;exact q,fun q=>⟨a,rfl,q⟩⟩
theorem ok_none:OkQ Q (none:Option α)=False:=propext ⟨fun⟨_,e,_⟩=>(by cases e),False.elim⟩
theorem ok_bind {f:α->Option β}{Q:β->Prop}:OkQ Q (o.bind f)=OkQ (fun a=>OkQ Q (f a)) o:=by
 cases o with
 |none=>exact propext ⟨fun⟨_,e,_⟩=>(by cases e),fun⟨_,e,_⟩=>(by cases e)⟩
 |some a=>exact propext ⟨fun h=>⟨a,rfl,h⟩,fun⟨_,e,h⟩=>by cases e;exact h⟩
theorem ok_map {f:α->β}{Q:β->Prop}:OkQ Q (o.map f)=OkQ (fun a=>Q (f a)) o:=by
 cases o with
 |none=>exact propext ⟨fun⟨_,e,_⟩=>(by cases e),fun⟨_,e,_⟩=>(by cases e)⟩
 |some a=>exact propext ⟨fun h=>⟨a,rfl,ok_some.mp h⟩,fun⟨_,e,h⟩=>by cases e;exact ok_some.mpr h⟩
theorem zdv {c:Prop}[Decidable c]:OkQ Q (if c then o else none)=(c/\OkQ Q o):=by
 by_cases h:c
 ·rw[if_pos h];exact propext ⟨fun k=>⟨h,k⟩,fun k=>k.2⟩
 ·rw[if_neg h];exact propext ⟨fun k=>(ok_none.mp k).elim,fun k=>absurd k.1 h⟩
theorem ok_Q:Ok o Q=OkQ Q o:=rfl
noncomputable def gd {α:Type}(b:Bool)(o:Option α):Option α:=if b then o else none
theorem ok_gd {b:Bool}(h:b=true):OkQ Q (gd b o)=OkQ Q o:=by subst h;rfl
theorem Ok.mono (h:Ok o Q)(k:∀a,Q a->Q' a):Ok o Q':=by
 obtain⟨a,e,q⟩:=h;exact⟨a,e,k a q⟩
theorem zaA {Q':α->Prop}(h:∀a,Q a=Q' a):OkQ Q o=OkQ Q' o:=by rw[funext h]
end
section
variable {c:MT} {a b:MS} {ρ:R}
theorem zjD {α:Type}{o u:Option α}{Q:α->Prop}:OkQ Q (if z then o else u)=((z=true->OkQ Q o)/\(z=false->OkQ Q u)):=by cases z<;>simp
theorem ok_sIf:OkQ Q (sIf c a b ρ)=(OkQ (fun p=>(p.1=true->OkQ Q (a p.2))/\(p.1=false->OkQ Q (b p.2))) (c ρ)):=by
 unfold sIf;rw[ok_bind];exact zaA fun p=>zjD
theorem ok_eIf {a b:ME}{Q:D×R->Prop}:OkQ Q (eIf c a b ρ)=(OkQ (fun p=>(p.1=true->OkQ Q (a p.2))/\(p.1=false->OkQ Q (b p.2))) (c ρ)):=by
 unfold eIf;rw[ok_bind];exact zaA fun p=>zjD
theorem ok_tAnd {a b:MT}{Q:Bool×R->Prop}:OkQ Q (zo2 a b ρ)=(OkQ (fun p=>(p.1=true->OkQ Q (b p.2))/\(p.1=false->Q (false,p.2))) (a ρ)):=by
 unfold zo2;rw[ok_bind];exact zaA fun p=>by rw[zjD,ok_some]
theorem ok_tOr {a b:MT}{Q:Bool×R->Prop}:OkQ Q (tOrM a b ρ)=(OkQ (fun p=>(p.1=true->Q (true,p.2))/\(p.1=false->OkQ Q (b p.2))) (a ρ)):=by
 unfold tOrM;rw[ok_bind];exact zaA fun p=>by rw[zjD,ok_some]
theorem ok_eAnd {a b:ME}{Q:D×R->Prop}:OkQ Q (eAnd a b ρ)=(OkQ (fun p=>∃z,p.1= .bl z/\(z=true->OkQ Q (b p.2))/\(z=false->Q (.bl false,p.2))) (a ρ)):=by
 unfold eAnd;rw[ok_bind];have:∀p:D×R,Ok (match p.1 with
  | .bl true=>b p.2
  | .bl false=>some (.bl false,p.2)
  |_=>none) Q↔∃z,p.1= .bl z/\(z=true->Ok (b p.2) Q)/\(z=false->Q (.bl false,p.2)):=by
  rintro⟨d,ρ⟩;cases d with
  |bl z=>cases z<;>simp[ok_Q,ok_some]
  |_=>simp[ok_Q,ok_none]
 exact zaA fun p=>propext (this p)
theorem ok_eOr {a b:ME}{Q:D×R->Prop}:OkQ Q (eOr a b ρ)=(OkQ (fun p=>∃z,p.1= .bl z/\(z=true->Q (.bl true,p.2))/\(z=false->OkQ Q (b p.2))) (a ρ)):=by
 unfold eOr;rw[ok_bind];have:∀p:D×R,Ok (match p.1 with
  | .bl true=>some (.bl true,p.2)
  | .bl false=>b p.2
  |_=>none) Q↔∃z,p.1= .bl z/\(z=true->Q (.bl true,p.2))/\(z=false->Ok (b p.2) Q):=by
  rintro⟨d,ρ⟩;cases d with
  |bl z=>cases z<;>simp[ok_Q,ok_some]
  |_=>simp[ok_Q,ok_none]
 exact zaA fun p=>propext (this p)
theorem ok_chain {f g:D->D->Option D}{a b c:ME}{Q:D×R->Prop}:OkQ Q (zhI f g a b c ρ)=(OkQ (fun p=>OkQ (fun q=>OkQ (fun t=>∃z,t= .bl z/\(z=true->OkQ (fun r=>OkQ (fun d=>Q (d,r.2)) (g q.1 r.1)) (c q.2))/\(z=false->Q (.bl false,q.2))) (f p.1 q.1)) (b p.2)) (a ρ)):=by
 unfold zhI;rw[ok_bind];have:∀(p q:D×R) (t:D),Ok (match t with
  | .bl true=>(c q.2).bind fun r=>(g q.1 r.1).map fun d=>(d,r.2)
  | .bl false=>some (.bl false,q.2)
  |_=>none) Q↔∃z,t= .bl z/\(z=true->Ok (c q.2) fun r=>Ok (g q.1 r.1) fun d=>Q (d,r.2))/\(z=false->Q (.bl false,q.2)):=by
  intro p q t;cases t with
  |bl z=>
   cases z
   ·simp[ok_Q,ok_some]
   ·simp only[ok_Q,ok_bind,D.bl.injEq,qcQ,forall_const,reduceCtorEq,qcR,and_true];exact iff_of_eq (zaA fun r=>ok_map)
  |_=>simp[ok_Q,ok_none]
 exact zaA fun p=>by rw[ok_bind];exact zaA fun q=>by rw[ok_bind];exact zaA fun t=>propext (this p q t)
theorem ok_turnM {Q:Option D×R->Prop}:OkQ Q (zmo g mt me d ρ)=(OkQ (fun ρ1=>OkQ (fun p=>(p.1=true->OkQ (fun q=>zdF q.2=true/\Q (some q.1,q.2)) (me p.2))/\(p.1=false->zdF p.2=true/\Q (none,p.2))) (mt ρ1)) (g d ρ)):=by
 unfold zmo;rw[ok_bind];exact zaA fun ρ1=>by rw[ok_bind];exact zaA fun p=>by rw[zjD,ok_bind,zdv,ok_some];congr 1;exact propext (imp_congr Iff.rfl (iff_of_eq (zaA fun q=>by rw[zdv,ok_some])))
theorem ok_turnP {bk:Nat}{Q:Option D×R->Prop}:OkQ Q (turnP bk g mt me d ρ)=(OkQ (fun ρ1=>OkQ (fun p=>(p.1=true->OkQ (fun q=>zoE bk q.2=true/\Q (some q.1,q.2)) (me p.2))/\(p.1=false->zoE bk p.2=true/\Q (none,p.2))) (mt ρ1)) (g d ρ)):=by
 unfold turnP;rw[ok_bind];exact zaA fun ρ1=>by rw[ok_bind];exact zaA fun p=>by rw[zjD,ok_bind,zdv,ok_some];congr 1;exact propext (imp_congr Iff.rfl (iff_of_eq (zaA fun q=>by rw[zdv,ok_some])))
theorem zmC (n:Nat):Int.natAbs (no_index (OfNat.ofNat n))=n:=rfl
end
section
theorem ok_sNext:OkQ Q (zcd ρ)=(Q (.next,ρ)):=ok_some
noncomputable def SeqK (b:MS)(Q:Fl×R->Prop)(p:Fl×R):Prop:=OkQ Q (match p.1 with
 | .next=>b p.2
 |f=>some (f,p.2))
theorem znC:SeqK b Q (.next,ρ)=(OkQ Q (b ρ)):=rfl
theorem seqK_ret:SeqK b Q (.ret r,ρ)=(Q (.ret r,ρ)):=ok_some
theorem seqK_brk:SeqK b Q (.brk,ρ)=(Q (.brk,ρ)):=ok_some
theorem znf:SeqK b Q (.cont,ρ)=(Q (.cont,ρ)):=ok_some
theorem ok_sSeq {a b:MS}:OkQ Q (sSeq a b ρ)=(OkQ (SeqK b Q) (a ρ)):=ok_bind
theorem ok_sExpr:OkQ Q (znb m ρ)=(OkQ (fun p=>Q (.next,p.2)) (m ρ)):=ok_map
theorem ok_sRet:OkQ Q (sRet m ρ)=(OkQ (fun p=>Q (.ret (.val p.1),p.2)) (m ρ)):=ok_map
theorem ok_sRetO {m:MO}:OkQ Q (zk9 m ρ)=(OkQ (fun p=>Q (.ret (.own p.1),p.2)) (m ρ)):=ok_map
theorem ok_sRetV:OkQ Q (zkC i ρ)=OkQ Q (match ρ[i]? with
 |some (.val d)=>some (.ret (.val d),ρ)
 |some (.own ds)=>some (.ret (.own ds),ρ.set i .emp)
 |_=>none):=rfl
theorem ok_gN {Q:R->Prop}:OkQ Q (gN i d ρ)=(Q (ρ.set i (.val d))):=ok_some
theorem ok_gsNil {ds:List D}{ρ:R}{Q:R->Prop}:OkQ Q (zfY ds ρ)=OkQ Q (match ds with
 |[]=>some ρ
 |_=>none):=rfl
theorem zo0 {Q:R->Prop}:OkQ Q (zbd g h ds ρ)=OkQ Q (match ds with
 |d::ds=>(g d ρ).bind fun ρ1=>h ds ρ1
 |[]=>none):=rfl
theorem ok_gT {g:List D->R->Option R}{Q:R->Prop}:OkQ Q (gT n g d ρ)=OkQ Q (match d with
 | .tup ds=>if ds.length=n then g ds ρ else none
 |_=>none):=rfl
theorem ok_sAsg:OkQ Q (sAsg m g ρ)=(OkQ (fun p=>OkQ (fun ρ'=>Q (.next,ρ')) (g p.1 p.2)) (m ρ)):=ok_bind.trans (zaA fun _=>ok_map)
theorem ok_sSet:OkQ Q (sSet i m ρ)=(OkQ (fun p=>Q (.next,p.2.set i (.val p.1))) (m ρ)):=ok_map
theorem ok_sSetO {m:MO}:OkQ Q (zi7 i m ρ)=(OkQ (fun p=>Q (.next,p.2.set i (.own p.1))) (m ρ)):=ok_map
theorem ok_sApp:OkQ Q (sApp i m ρ)=OkQ Q (gd ((ρ[i]?.bind Sl.items).isSome) ((m ρ).bind fun p=>p.2[i]?.bind fun s=>s.items.bind fun ds=>if ds.length<16777216 then some (.next,p.2.set i (s.put (ds++[p.1])))else none)):=rfl
theorem ok_sPut {mi me:ME}:OkQ Q (sPut j mi me ρ)=OkQ Q ((me ρ).bind fun p=>gd (hasV p.2 j) ((mi p.2).bind fun q=>match q.1 with
 | .int k=>q.2[j]?.bind fun s=>s.items.bind fun ds=>(ixN ds.length k).bind fun n=>some (.next,q.2.set j (s.put (ds.set n p.1)))
 |_=>none)):=rfl
theorem ok_eC {Q:D×R->Prop}:OkQ Q (eC d ρ)=(Q (d,ρ)):=ok_some
noncomputable def eVQ (Q:D×R->Prop)(s:RtS Q)(ρ:R)(i:Nat):Prop:=match s with
 |some (.val d)=>Q (d,ρ)
 |some (.own ds)=>Q (.lst ds,ρ.set i (.val (.lst ds)))
 |_=>False
theorem zhb {Q:D×R->Prop}:eVQ Q (some (.val d)) ρ i=Q (d,ρ):=rfl
theorem eVQ_own {Q:D×R->Prop}:eVQ Q (some (.own ds)) ρ i=Q (.lst ds,ρ.set i (.val (.lst ds))):=rfl
theorem zgW {Q:D×R->Prop}:OkQ Q (eVar i ρ)=eVQ Q ρ[i]? ρ i:=by
 unfold eVar eVQ;cases ρ[i]? with
 |none=>exact ok_none
 |some s=>cases s<;>first|exact ok_some|exact ok_none
noncomputable def Vb (Q:D->D->Prop)(P:Prop)(s:RtS Q)(t:Option Sl):Prop:=match s,t with
 |some (.val x),some (.val y)=>Q x y
 |_,_=>P
theorem Vb_val {Q:D->D->Prop}{P:Prop}{x y:D}:Vb Q P (some (.val x)) (some (.val y))=Q x y:=rfl
theorem Vb_own {Q:D->D->Prop}{P:Prop}:Vb Q P (some (.own xs)) t=P:=rfl
theorem Vb_own2 {Q:D->D->Prop}{P:Prop}:Vb Q P (some (.val x)) (some (.own ys))=P:=rfl
noncomputable def Va (Q:D->Prop)(P:Prop)(s:RtS Q):Prop:=match s with
 |some (.val x)=>Q x
 |_=>P
theorem Va_val {Q:D->Prop}{P:Prop}:Va Q P (some (.val x))=Q x:=rfl
theorem Va_own {Q:D->Prop}{P:Prop}:Va Q P (some (.own xs))=P:=rfl
theorem ok_aNil {Q:List D×R->Prop}:OkQ Q (aNil ρ)=(Q ([],ρ)):=ok_some
theorem ok_aCons {r:MA}{Q:List D×R->Prop}:OkQ Q (zag m r ρ)=(OkQ (fun p=>OkQ (fun q=>Q (p.1::q.1,q.2)) (r p.2)) (m ρ)):=ok_bind.trans (zaA fun _=>ok_map)
theorem ok_m2 {f:D->D->Option D}{ma mb:ME}{Q:D×R->Prop}:OkQ Q (m2 f ma mb ρ)=(OkQ (fun p=>OkQ (fun q=>OkQ (fun d=>Q (d,q.2)) (f p.1 q.1)) (mb p.2)) (ma ρ)):=ok_bind.trans (zaA fun _=>ok_bind.trans (zaA fun _=>ok_map))
theorem ok_m2VV {f:D->D->Option D}{a b:Nat}{Q:D×R->Prop}:OkQ Q (m2 f (eVar a) (eVar b) ρ)=Vb (fun x y=>OkQ (fun d=>Q (d,ρ)) (f x y)) (OkQ (fun p=>OkQ (fun q=>OkQ (fun d=>Q (d,q.2)) (f p.1 q.1)) (eVar b p.2)) (eVar a ρ)) ρ[a]? ρ[b]?:=by
 rw[ok_m2,Vb.eq_def]
 split
 ·rename_i x y h1 h2;rw[zgW,h1,zhb,zgW,h2,zhb]
 ·rfl
theorem ok_m2VC {f:D->D->Option D}{Q:D×R->Prop}:OkQ Q (m2 f (eVar a) (eC c) ρ)=Va (fun x=>OkQ (fun d=>Q (d,ρ)) (f x c)) (OkQ (fun p=>OkQ (fun d=>Q (d,p.2)) (f p.1 c)) (eVar a ρ)) ρ[a]?:=by
 rw[ok_m2,Va.eq_def,show(fun p:D×R=>OkQ (fun q=>OkQ (fun d=>Q (d,q.2)) (f p.1 q.1)) (eC c p.2))=fun p=>OkQ (fun d=>Q (d,p.2)) (f p.1 c)from funext fun p=>ok_eC]
 split
 ·rename_i x h1;rw[zgW,h1,zhb]
 ·rfl
theorem ok_m2CV {f:D->D->Option D}{Q:D×R->Prop}:OkQ Q (m2 f (eC c) (eVar a) ρ)=Va (fun x=>OkQ (fun d=>Q (d,ρ)) (f c x)) (OkQ (fun p=>OkQ (fun d=>Q (d,p.2)) (f c p.1)) (eVar a ρ)) ρ[a]?:=by
 rw[ok_m2,Va.eq_def,ok_eC]
 split
 ·rename_i x h1;rw[zgW,h1,zhb]
 ·rfl
theorem ok_m1 {f:D->Option D}{ma:ME}{Q:D×R->Prop}:OkQ Q (m1 f ma ρ)=(OkQ (fun p=>OkQ (fun d=>Q (d,p.2)) (f p.1)) (ma ρ)):=ok_bind.trans (zaA fun _=>ok_map)
theorem ok_mC {f:List D->Option D}{Q:D×R->Prop}:OkQ Q (mC f ma ρ)=(OkQ (fun p=>OkQ (fun d=>Q (d,p.2)) (f p.1)) (ma ρ)):=ok_bind.trans (zaA fun _=>ok_map)
theorem ok_eIxV {mi:ME}{Q:D×R->Prop}:OkQ Q (eIxV j mi ρ)=OkQ Q (gd (hasV ρ j) ((mi ρ).bind fun p=>(p.2[j]?.bind Sl.read).bind fun d=>(dIx d p.1).map fun e=>(e,p.2))):=Eq.trans rfl rfl
noncomputable def ixR (s:Option Sl)(c:D):Option D:=match s with
 |some (.val d)=>dIx d c
 |some (.own ds)=>dIx (.lst ds) c
 |some (.par ds)=>dIx (.lst ds) c
 |_=>none
theorem ixR_val:ixR (some (.val d)) c=dIx d c:=rfl
theorem ixR_own:ixR (some (.own ds)) c=dIx (.lst ds) c:=rfl
theorem ixR_par:ixR (some (.par ds)) c=dIx (.lst ds) c:=rfl
theorem zlH:(if hasV ρ j then(ρ[j]?.bind Sl.read).bind fun d=>(dIx d c).map fun e=>(e,ρ)else none)=(ixR ρ[j]? c).map fun e=>(e,ρ):=by
 unfold hasV;cases ρ[j]? with
 |none=>rfl
 |some s=>cases s<;>rfl
theorem ok_eIxC {Q:D×R->Prop}:OkQ Q (eIxV j (eC c) ρ)=OkQ (fun e=>Q (e,ρ)) (ixR ρ[j]? c):=by
 rw[show eIxV j (eC c) ρ=(ixR ρ[j]? c).map fun e=>(e,ρ)from zlH,ok_map]
theorem ok_eIxE {Q:D×R->Prop}:OkQ Q (eIxV j (eVar i) ρ)=Va (fun c=>OkQ (fun e=>Q (e,ρ)) (ixR ρ[j]? c)) (OkQ Q (gd (hasV ρ j) ((eVar i ρ).bind fun p=>(p.2[j]?.bind Sl.read).bind fun d=>(dIx d p.1).map fun e=>(e,p.2)))) ρ[i]?:=by
 rw[Va.eq_def]
 split
 ·rename_i x h1;rw[show eIxV j (eVar i) ρ=(ixR ρ[j]? x).map fun e=>(e,ρ) by
   rw[<-zlH];unfold eIxV;rw[show eVar i ρ=some (x,ρ) by unfold eVar;rw[h1]];rfl,ok_map]
 ·rfl
theorem ok_eLenV {Q:D×R->Prop}:OkQ Q (zgl j ρ)=OkQ Q ((ρ[j]?.bind Sl.read).bind fun d=>(dLen [d]).map fun e=>(e,ρ)):=rfl
theorem ok_oC {f:List D->Option (List D)}{Q:List D×R->Prop}:OkQ Q (oC f ma ρ)=(OkQ (fun p=>OkQ (fun d=>Q (d,p.2)) (f p.1)) (ma ρ)):=ok_bind.trans (zaA fun _=>ok_map)
theorem ok_eTup {Q:D×R->Prop}:OkQ Q (eTup ma ρ)=(OkQ (fun p=>p.1.length<=16777216/\Q (.tup p.1,p.2)) (ma ρ)):=ok_bind.trans (zaA fun _=>by rw[zdv,ok_some])
theorem ok_oLst {Q:List D×R->Prop}:OkQ Q (oLst ma ρ)=(OkQ (fun p=>p.1.length<=16777216/\Q (p.1,p.2)) (ma ρ)):=ok_bind.trans (zaA fun _=>by rw[zdv,ok_some])
theorem ok_tTru {ma:ME}{Q:Bool×R->Prop}:OkQ Q (tTru ma ρ)=(OkQ (fun p=>OkQ (fun b=>Q (b,p.2)) (dTru p.1)) (ma ρ)):=ok_bind.trans (zaA fun _=>ok_map)
theorem ok_tNotM {a:MT}{Q:Bool×R->Prop}:OkQ Q (zcx a ρ)=(OkQ (fun p=>Q (!p.1,p.2)) (a ρ)):=ok_map
theorem ok_eCall {Q:D×R->Prop}:OkQ Q (zdY F ma ρ)=OkQ Q ((ma ρ).bind fun p=>(F p.1).bind fun r=>match r with
 | .val d=>some (d,p.2)
 | .own ds=>some (.lst ds,p.2)
 |_=>none):=rfl
theorem ok_oCall {Q:List D×R->Prop}:OkQ Q (oCall F ma ρ)=OkQ Q ((ma ρ).bind fun p=>(F p.1).bind fun r=>match r with
 | .own ds=>some (ds,p.2)
 |_=>none):=rfl
theorem zoI {F:List D->List D->Option (Sl×List D)}{Q:D×R->Prop}:OkQ Q (zcF F j ma ρ)=OkQ Q (gd ((ρ[j]?.bind Sl.items).isSome) ((ma ρ).bind fun p=>p.2[j]?.bind fun s=>s.items.bind fun cs=>(F cs p.1).bind fun r=>match r.1 with
 | .val d=>some (d,p.2.set j (s.put r.2))
 | .own ds=>some (.lst ds,p.2.set j (s.put r.2))
 |_=>none)):=rfl
theorem ok_iR2L {Q:List D×R->Prop}:OkQ Q (iR2L ma ρ)=OkQ Q ((ma ρ).bind fun p=>match p.1 with
 |[.int i,.int j]=>some (zcj i (j-i).toNat,p.2)
 |_=>none):=rfl
theorem ok_eFz {m:MO}{Q:D×R->Prop}:OkQ Q (eFz m ρ)=(OkQ (fun p=>Q (.lst p.1,p.2)) (m ρ)):=ok_map
theorem ok_eCut {ma:ME}{ml mh:MP}{Q:D×R->Prop}:OkQ Q (eCut ma ml mh ρ)=OkQ Q ((ma ρ).bind fun p=>(ml p.2).bind fun q=>(mh q.2).bind fun r=>(dCut p.1 q.1 r.1).map fun d=>(d,r.2)):=rfl
theorem ok_pNo {Q:Option Int×R->Prop}:OkQ Q (pNo ρ)=(Q (none,ρ)):=ok_some
theorem ok_pSome {Q:Option Int×R->Prop}:OkQ Q (zkI m ρ)=OkQ Q ((m ρ).bind fun p=>match p.1 with
 | .int i=>some (some i,p.2)
 |_=>none):=rfl
theorem ok_iSeq {Q:List D×R->Prop}:OkQ Q (iSeq m ρ)=(OkQ (fun p=>OkQ (fun ds=>Q (ds,p.2)) (zcu [p.1])) (m ρ)):=ok_bind.trans (zaA fun _=>ok_map)
theorem ok_iR1 {Q:List D×R->Prop}:OkQ Q (iR1 ma ρ)=OkQ Q ((ma ρ).bind fun p=>match p.1 with
 |[.int j]=>if zed j then some (zcj 0 j.toNat,p.2)else none
 |_=>none):=rfl
theorem ok_iR2 {Q:List D×R->Prop}:OkQ Q (iR2 ma ρ)=OkQ Q ((ma ρ).bind fun p=>match p.1 with
 |[.int i,.int j]=>if zed i&&zed j then some (zcj i (j-i).toNat,p.2)else none
 |_=>none):=rfl
theorem ok_sFor {mb:MS}:OkQ Q (sFor mi g mb ρ)=(OkQ (fun p=>OkQ Q (forM (fun d ρ=>(g d ρ).bind fun ρ'=>mb ρ') p.1 p.2)) (mi ρ)):=ok_bind
theorem ok_oLC {t:Nat}{Q:List D×R->Prop}:OkQ Q (oLC cap t mi g mt me ρ)=OkQ Q ((mi ρ).bind fun p=>if p.1.length<=16777216 then(zgJ (zmo g mt me) p.1 (capR cap t (fzL cap p.2))).map fun q=>(q.1,fzL cap p.2)else none):=rfl
theorem ok_oR {m:MA}{Q:List D×R->Prop}:OkQ Q (oR m ρ)=OkQ Q ((m ρ).bind fun p=>if p.1.length<=16777216 then some p else none):=rfl
theorem ok_tTrue {Q:Bool×R->Prop}:OkQ Q (zhi ρ)=(Q (true,ρ)):=ok_some
theorem ok_eIsI {T:String}{ma:ME}{Q:D×R->Prop}:OkQ Q (eIsI T ma ρ)=OkQ Q ((ma ρ).bind fun p=>if okT T&&eIsI.noS1 p.1 then some (.bl (isI T p.1),p.2)else none):=rfl
theorem ok_oRep {ma mb:ME}{Q:List D×R->Prop}:OkQ Q (oRep ma mb ρ)=OkQ Q ((ma ρ).bind fun p=>(mb p.2).bind fun q=>match p.1,q.1 with
 | .lst xs,.int k=>if zed k&&decide (xs.length*k.toNat<=16777216)then some ((List.replicate k.toNat xs).flatten,q.2)else none
 |_,_=>none):=rfl
theorem ok_iEn {Q:List D×R->Prop}:OkQ Q (iEn ma ρ)=OkQ Q ((ma ρ).bind fun p=>(zcu p.1).map fun xs=>(zkH xs,p.2)):=rfl
noncomputable def zjK:Nat->List D->R
 |N,[]=>List.replicate N .emp
 |N,d::ds=> .val d::zjK (N-1) ds
theorem zid {d:D}:zjK N (d::ds)= .val d::zjK (N-1) ds:=rfl
theorem zok:zjK N []=List.replicate N .emp:=rfl
theorem zgM:∀(N:Nat) (ds:List D),ds.map .val++List.replicate (N-ds.length) .emp=zjK N ds
 |_,[]=>rfl
 |N,d::ds=>by rw[zid,<-zgM (N-1) ds,qaS,qaQ,Nat.sub_sub,Nat.add_comm 1];rfl
theorem zm7 {α β:Type}{f:α->β}{a:α}{l:List α}:(a::l).map f=f a::l.map f:=rfl
theorem map_nilR {α β:Type}{f:α->β}:[].map f=[]:=rfl
theorem ok_fP {m:MS}{Q:Sl->Prop}:OkQ Q (fP N m ds)=OkQ Q ((m (zjK N ds)).bind fun p=>match p.1 with
 | .ret r=>some r
 | .next=>some (.val .non)
 |_=>none):=by rw[<-zgM];rfl
theorem ok_fM {m:MS}{cs:List D}{Q:Sl×List D->Prop}:OkQ Q (fM N m cs ds)=OkQ Q ((m (.par cs::zjK (N-1) ds)).bind fun p=>match p.1,(p.2[0]?:Option Sl)with
 |Fl.ret r,some (Sl.par out)=>some (r,out)
 |Fl.next,some (Sl.par out)=>some (.val .non,out)
 |_,_=>none):=by rw[<-zgM,Nat.sub_sub,Nat.add_comm 1];rfl
end
noncomputable def Turn (I:R->Prop)(Q:Fl×R->Prop)(p:Fl×R):Prop:=match p.1 with
 | .next=>I p.2
 | .cont=>I p.2
 | .brk=>Q (.next,p.2)
 | .ret r=>Q (.ret r,p.2)
theorem zn1:Turn I Q (.next,ρ)=(I ρ):=rfl
theorem zm8:Turn I Q (.cont,ρ)=(I ρ):=rfl
theorem turn_brk:Turn I Q (.brk,ρ)=(Q (.next,ρ)):=rfl
theorem turn_ret:Turn I Q (.ret r,ρ)=(Q (.ret r,ρ)):=rfl
theorem zm5 {α:Type}{f:D->R->Option (Fl×R)}(enc:α->D)(I:Nat->R->Prop):∀(l:List α) (b:Nat) (ρ:R),I b ρ->
  (∀i a ρ,l[i]? =some a->I (b+i) ρ->Ok (f (enc a) ρ) (Turn (I (b+i+1)) Q))->(∀ρ,I (b+l.length) ρ->Q (.next,ρ))->Ok (forM f (l.map enc) ρ) Q
 |[],b,ρ,h0,_,hq=>ok_some.mpr (hq ρ h0)
 |a::l,b,ρ,h0,hs,hq=>by
  obtain⟨p,e,t⟩:=hs 0 a ρ rfl h0;obtain⟨fl,ρ1⟩:=p;have go:∀ρ1,I (b+1) ρ1->Ok (forM f (l.map enc) ρ1) Q:=fun ρ1 h1=>zm5 enc I l (b+1) ρ1 h1 (fun i a' ρ' hi hp=>by
   have:=hs (i+1) a' ρ' (by simpa using hi) (by rw[show b+(i+1)=b+1+i by lia];exact hp);rw[show b+(i+1)+1=b+1+i+1 by lia]at this;exact this) (fun ρ h=>hq ρ (by rw[qaQ,show b+(l.length+1)=b+1+l.length by lia];exact h))
  have e':forM f ((a::l).map enc) ρ=(f (enc a) ρ).bind fun p=>match p.1 with
   | .next=>forM f (l.map enc) p.2
   | .cont=>forM f (l.map enc) p.2
   | .brk=>some (.next,p.2)
   | .ret r=>some (.ret r,p.2):=rfl
  rw[e',e];cases fl with
  |next=>exact go ρ1 t
  |cont=>exact go ρ1 t
  |brk=>exact ok_some.mpr t
  |ret r=>exact ok_some.mpr t
theorem znq {α:Type}{f:D->R->Option (Fl×R)}{enc:α->D}{l:List α}(I:Nat->R->Prop)(h0:I 0 ρ)
  (hs:∀i a ρ,l[i]? =some a->I i ρ->Ok (f (enc a) ρ) (Turn (I (i+1)) Q)) (hq:∀ρ,I l.length ρ->Q (.next,ρ)):Ok (forM f (l.map enc) ρ) Q:=
 zm5 enc I l 0 ρ h0 (fun i a ρ hi h=>by rw[Nat.zero_add]at h ⊢;exact hs i a ρ hi h) (fun ρ h=>hq ρ (by rw[Nat.zero_add]at h;exact h))
theorem ok_range {f:D->R->Option (Fl×R)}{lo:Int}(I:Nat->R->Prop)(h0:I 0 ρ)
  (hs:∀i ρ,i<n->I i ρ->Ok (f (.int (lo+(i:Nat))) ρ) (Turn (I (i+1)) Q)) (hq:∀ρ,I n ρ->Q (.next,ρ)):Ok (forM f (zcj lo n) ρ) Q:=
 znq I h0 (fun i a ρ hi h=>by
  obtain⟨h1,h2⟩:=qat.mp hi;have:a=i:=by simpa using h2.symm
  subst this;exact hs a ρ (by simpa using h1) h) (fun ρ h=>hq ρ (by simpa using h))
theorem zjN {α:Type}(enc:α->D){Q:List D×R->Prop}(I:Nat->List D->R->Prop):∀(l:List α) (b:Nat) (acc:List D) (ρ:R),I b acc ρ->
  (∀i a acc ρ,l[i]? =some a->I (b+i) acc ρ->Ok (f (enc a) ρ) fun p=>I (b+i+1) (acc++p.1.toList) p.2)->(∀ds ρ,I (b+l.length) (acc++ds) ρ->Q (ds,ρ))->Ok (zgJ f (l.map enc) ρ) Q
 |[],b,acc,ρ,h0,_,hq=>ok_some.mpr (hq [] ρ (by rw[qaY];exact h0))
 |a::l,b,acc,ρ,h0,hs,hq=>by
  obtain⟨p,e,t⟩:=hs 0 a acc ρ rfl h0;have go:=zjN enc (Q:=fun q=>Q (p.1.toList++q.1,q.2)) I l (b+1) (acc++p.1.toList) p.2 t (fun i a' acc' ρ' hi hp=>by
   have:=hs (i+1) a' acc' ρ' (by simpa using hi) (by rw[show b+(i+1)=b+1+i by lia];exact hp);rw[show b+(i+1)+1=b+1+i+1 by lia]at this;exact this) (fun ds ρ h=>hq _ ρ (by rw[qaQ,show b+(l.length+1)=b+1+l.length by lia,<-List.append_assoc];exact h))
  have e':zgJ f ((a::l).map enc) ρ=(f (enc a) ρ).bind fun p=>(zgJ f (l.map enc) p.2).map fun q=>(p.1.toList++q.1,q.2):=rfl
  rw[e',e];exact ok_map.mpr go
theorem ok_compI {α:Type}{enc:α->D}{l:List α}{Q:List D×R->Prop}(I:Nat->List D->R->Prop)(h0:I 0 [] ρ)
  (hs:∀i a acc ρ,l[i]? =some a->I i acc ρ->Ok (f (enc a) ρ) fun p=>I (i+1) (acc++p.1.toList) p.2) (hq:∀ds ρ,I l.length ds ρ->Q (ds,ρ)):Ok (zgJ f (l.map enc) ρ) Q:=
 zjN enc I l 0 [] ρ h0 (fun i a acc ρ hi h=>by rw[Nat.zero_add]at h ⊢;exact hs i a acc ρ hi h) (fun ds ρ h=>hq ds ρ (by rw[Nat.zero_add]at h;exact h))
theorem ok_compF {α:Type}{enc:α->D}{l:List α}{Q:List D×R->Prop}(P:R->Prop)(g:α->Option D)(h0:P ρ)
  (hs:∀a ρ,a∈l->P ρ->Ok (f (enc a) ρ) fun p=>p.1=g a/\P p.2) (hq:∀ρ,P ρ->Q (l.filterMap g,ρ)):Ok (zgJ f (l.map enc) ρ) Q:=
 ok_compI (fun i ds ρ=>ds=(l.take i).filterMap g/\P ρ) ⟨rfl,h0⟩ (fun i a acc ρ hi ⟨e,p⟩=>by
  refine(hs a ρ (qbb hi) p).mono fun r h=>⟨?_,h.2⟩
  obtain⟨h1,h2⟩:=qat.mp hi;rw[h.1,e,List.take_add_one,hi,List.filterMap_append];cases q:g a<;>simp[q]) (fun ds ρ ⟨e,p⟩=>by rw[List.take_length]at e;rw[e];exact hq ρ p)
theorem zf3 {α:Type}{enc:α->D}{l:List α}{Q:List D×R->Prop}(P:R->Prop)(g:α->D)(h0:P ρ)
  (hs:∀a ρ,a∈l->P ρ->Ok (f (enc a) ρ) fun p=>p.1=some (g a)/\P p.2) (hq:∀ρ,P ρ->Q (l.map g,ρ)):Ok (zgJ f (l.map enc) ρ) Q:=
 ok_compF P (fun a=>some (g a)) h0 hs (fun ρ p=>by rw[<-qcS some g,List.filterMap_eq_map];exact hq ρ p)
theorem dEq_int (i j:Int):dEq (.int i) (.int j)=some (.bl (i==j)):=by
 unfold dEq;rw[show noS (.int i)=true from rfl,show noS (.int j)=true from rfl,show depth (.int i)=0 from rfl]
 rfl
theorem dNe_int (i j:Int):dNe (.int i) (.int j)=some (.bl (i !=j)):=by
 unfold dNe;rw[show noS (.int i)=true from rfl,show noS (.int j)=true from rfl,show depth (.int i)=0 from rfl]
 rfl
theorem atI_n {α:Type}(xs:List α)(i:Nat):atI xs (i:Int)=xs[i]?:=by
 unfold atI ixN;rw[if_pos (by lia)]
 by_cases h:i<xs.length
 ·rw[if_pos (by lia)];simp
 ·rw[if_neg (by lia)];simp[qb2 (by lia:xs.length<=i)]
theorem atI_lit {α:Type}(xs:List α)(n:Nat):atI xs (no_index (@OfNat.ofNat Int n _))=xs[n]?:=atI_n xs n
theorem atI_n1 {α:Type}(xs:List α)(i:Nat):atI xs ((i:Int)+1)=xs[i+1]?:=atI_n xs (i+1)
theorem ixN_n (n i:Nat):ixN n (i:Int)=if i<n then some i else none:=by
 unfold ixN;rw[if_pos (by lia)]
 by_cases h:i<n
 ·rw[if_pos (by lia),if_pos h];simp
 ·rw[if_neg (by lia),if_neg h]
theorem ixN_lit (n i:Nat):ixN n (no_index (@OfNat.ofNat Int i _))=if i<n then some i else none:=ixN_n n i
theorem zi4 {i j:Int}(h:i.natAbs<18446744073709551616):zkL i j=true:=by
 unfold zkL;have:decide (i.natAbs<2^64)=true:=qbA h;rw[this];rfl
theorem zox {i j:Int}(h:j.natAbs<18446744073709551616):zkL i j=true:=by
 unfold zkL;have:decide (j.natAbs<2^64)=true:=qbA h;rw[this];simp
theorem zbg {j:Int}(h1: -1000000000000<=j)(h2:j<=1000000000000):zed j=true:=by
 unfold zed;rw[qbA h1,qbA h2];rfl
noncomputable def wL (n:Nat)(f:Nat->D):List D:=(List.range n).map f
noncomputable abbrev wI (n:Nat)(f:Nat->Int):List D:=wL n fun i=> .int (f i)
theorem zd5 (n:Nat)(f:Nat->D):(wL n f).length=n:=by simp[wL]
theorem zbf (f:Nat->D)(h:i<n):(wL n f)[i]? =some (f i):=by simp[wL,h]
theorem wL_succ (n:Nat)(f:Nat->D):wL (n+1) f=wL n f++[f n]:=by simp[wL,List.range_succ]
theorem zlD {f g:Nat->D}(h:∀i,i<n->f i=g i):wL n f=wL n g:=qcn fun i hi=>h i (qaj.mp hi)
theorem wL_snoc (n:Nat)(f:Nat->D)(x:D):wL n f++[x]=wL (n+1) fun j=>if j<n then f j else x:=by
 rw[wL_succ];congr 1
 ·exact zlD fun i hi=>by rw[if_pos hi]
 ·rw[if_neg (by lia)]
theorem wL_set (f:Nat->D)(x:D)(h:i<n):(wL n f).set i x=wL n fun j=>if j=i then x else f j:=by
 apply qcw;intro j
 by_cases hj:j<n
 ·rw[zbf _ hj,qbF]
  by_cases e:i=j
  ·subst e;simp[zd5,h]
  ·simp[e,zbf _ hj,Ne.symm e]
 ·rw[qb2 (by simp[zd5];lia),qb2 (by simp[zd5];lia)]
theorem zna (n:Nat)(f:Nat->D):zkH (wL n f)=wL n fun i=> .tup [.int (i:Nat),f i]:=by
 apply qcw;intro j;unfold zkH
 by_cases hj:j<n
 ·rw[qcg,zbf _ hj,zbf _ hj];simp[zd5,hj]
 ·rw[qb2 (by simp[zd5];lia),qb2 (by simp[zd5];lia)]
theorem cut_take {α:Type}(xs:List α)(i:Nat):cutD xs none (some (i:Int))=xs.take i:=by
 unfold cutD;rw[HT.zpi,HT.zld,Nat.sub_zero,List.drop_zero]
 by_cases h:i<=xs.length
 ·rw[Nat.min_eq_left h]
 ·rw[Nat.min_eq_right (by lia),qb1 (qaH _),qb1 (by lia)]
theorem cut_drop {α:Type}(xs:List α)(i:Nat):cutD xs (some (i:Int)) none=xs.drop i:=by
 unfold cutD;rw[HT.zpi,HT.zld]
 by_cases h:i<=xs.length
 ·rw[Nat.min_eq_left h,qb1 (by simp)]
 ·rw[Nat.min_eq_right (by lia),List.drop_of_length_le (qaH _),List.drop_of_length_le (by lia)];simp
theorem zcb:∀(l:List Int),za5 (l.map .int)=some l
 |[]=>rfl
 |i::l=>by simp[za5,zcb l]
mutual
theorem zi3:∀(d:D),noS d=true->eqB d d=true
 | .non,_=>rfl
 | .bl b,_=>by simp[eqB]
 | .int i,_=>by simp[eqB]
 | .str s,_=>by simp[eqB]
 | .lst ds,h=>by simp only[eqB];exact zhc ds (by simpa[noS]using h)
 | .tup ds,h=>by simp only[eqB];exact zhc ds (by simpa[noS]using h)
 | .scr _,h=>by simp[noS]at h
 | .exc _,h=>by simp[noS]at h
theorem zhc:∀(ds:List D),noSL ds=true->eqBL ds ds=true
 |[],_=>rfl
 |d::ds,h=>by
  simp only[noSL,qbo]at h;simp only[eqBL,qbo];exact⟨zi3 d h.1,zhc ds h.2⟩
end
theorem dEq_same (h:noS d=true)(k:depth d<=50):dEq d d=some (.bl true):=by simp[dEq,h,k,zi3 d h]
theorem dNe_same (h:noS d=true)(k:depth d<=50):dNe d d=some (.bl false):=by simp[dNe,h,k,zi3 d h]
theorem zk7:∀{ds:List D},(∀d∈ds,noS d=true)->noSL ds=true
 |[],_=>rfl
 |d::ds,h=>by simp only[noSL,qbo];exact⟨h d qao,zk7 fun e he=>h e (qap _ he)⟩
theorem zhv {k:Nat}:∀{ds:List D},(∀d∈ds,depth d<=k)->ze5 ds<=k
 |[],_=>qaW _
 |d::ds,h=>by simp only[ze5];exact Nat.max_le.mpr ⟨h d qao,zhv fun e he=>h e (qap _ he)⟩
noncomputable def Pl (k:Nat)(d:D):Prop:=noS d=true/\depth d<=k
theorem zli (k:Nat)(i:Int):Pl k (.int i):=⟨rfl,qaW _⟩
theorem pl_lst {k:Nat}(h:∀d∈ds,Pl k d):Pl (k+1) (.lst ds):=⟨by simp only[noS];exact zk7 fun d hd=>(h d hd).1,by simp only[depth];exact Nat.succ_le_succ (zhv fun d hd=>(h d hd).2)⟩
theorem zog {k:Nat}(h:∀d∈ds,Pl k d):Pl (k+1) (.tup ds):=⟨by simp only[noS];exact zk7 fun d hd=>(h d hd).1,by simp only[depth];exact Nat.succ_le_succ (zhv fun d hd=>(h d hd).2)⟩
theorem pl_w {k n:Nat}{f:Nat->D}(h:∀i,Pl k (f i)):∀d∈wL n f,Pl k d:=fun d hd=>by
 obtain⟨i,_,rfl⟩:=qbY.mp hd;exact h i
theorem Pl.eq {k:Nat}(h:Pl k d)(l:k<=50):dEq d d=some (.bl true):=dEq_same h.1 (qal h.2 l)
theorem Pl.ne {k:Nat}(h:Pl k d)(l:k<=50):dNe d d=some (.bl false):=dNe_same h.1 (qal h.2 l)
theorem rangeD_w (n:Nat):zcj 0 n=wL n fun i=> .int (i:Nat):=by unfold zcj wL;simp only[Int.zero_add]
section
variable {n:Nat} {e:Nat->D} {ρ:R}
theorem zcM {f:D->R->Option (Fl×R)}(I:Nat->R->Prop)(h0:I 0 ρ)
  (hs:∀i ρ,i<n->I i ρ->Ok (f (e i) ρ) (Turn (I (i+1)) Q)) (hq:∀ρ,I n ρ->Q (.next,ρ)):Ok (forM f (wL n e) ρ) Q:=
 znq (enc:=e) (l:=List.range n) I h0 (fun i a ρ hi h=>by
  obtain⟨h1,h2⟩:=qat.mp hi;have:a=i:=by simpa using h2.symm
  subst this;exact hs a ρ (by simpa using h1) h) (fun ρ h=>hq ρ (by simpa using h))
variable {f:D->R->Option (Option D×R)} {Q:List D×R->Prop}
theorem zgS (P:R->Prop)(g:Nat->D)(h0:P ρ)
  (hs:∀i ρ,i<n->P ρ->Ok (f (e i) ρ) fun p=>p.1=some (g i)/\P p.2) (hq:∀ρ,P ρ->Q (wL n g,ρ)):Ok (zgJ f (wL n e) ρ) Q:=
 zf3 (enc:=e) (l:=List.range n) P g h0 (fun a ρ ha hp=>hs a ρ (qaj.mp ha) hp) hq
end
theorem zoA (a b c:Int):([b,c]:List Int).contains a=(a==b||a==c):=by simp[qcl];rfl
end M
namespace M
theorem zk3 {j:Int}(h0:0<j)(h1:j<1073741824):zmA j=true:=by
 have h:j.natAbs.log2<9000:=by
  have:j.natAbs.log2<30:=(Nat.log2_lt (by lia)).mpr (by lia);lia
 unfold zmA;rw[qbA h0,qbA h];rfl
theorem zoz {j:Int}(h0:0<j)(h1:j<2^250):zmA j=true:=by
 have h:j.natAbs.log2<9000:=by
  have:j.natAbs.log2<250:=(Nat.log2_lt (by lia)).mpr (by lia);lia
 unfold zmA;rw[qbA h0,qbA h];rfl
theorem wI_set {n i:Nat}(f:Nat->Int)(x:Int)(h:i<n):(wI n f).set i (.int x)=wI n fun j=>if j=i then x else f j:=by
 rw[wI,wL_set _ _ h];exact zlD fun j _=>by dsimp only;split<;>rfl
theorem isN_non:isN .non=true:=rfl
theorem isN_int (i:Int):isN (.int i)=false:=rfl
theorem isN_bl (b:Bool):isN (.bl b)=false:=rfl
theorem isN_str (s:PySem.Str):isN (.str s)=false:=rfl
theorem isN_lst (ds:List D):isN (.lst ds)=false:=rfl
theorem isN_tup (ds:List D):isN (.tup ds)=false:=rfl
end M
namespace M
open L2 PySem
theorem dItems_l (ds:List D):zcu [.lst ds]=some ds:=rfl
theorem dItems_t (ds:List D):zcu [.tup ds]=some ds:=rfl
theorem dItems_s (ns:List Int):zcu [.scr ns]=some (ns.map .int):=rfl
theorem dLen_l (ds:List D):dLen [.lst ds]=some (.int ds.length):=rfl
theorem dLen_t (ds:List D):dLen [.tup ds]=some (.int ds.length):=rfl
theorem dLen_s (ns:List Int):dLen [.scr ns]=some (.int ns.length):=rfl
theorem dTuple_l (ds:List D):zpa [.lst ds]=some (.tup ds):=rfl
theorem dTuple_t (ds:List D):zpa [.tup ds]=some (.tup ds):=rfl
theorem dTuple_s (ns:List Int):zpa [.scr ns]=some (.tup (ns.map .int)):=rfl
theorem dCut_l (ds:List D)(a b:Option Int):dCut (.lst ds) a b=some (.lst (cutD ds a b)):=rfl
theorem dCut_t (ds:List D)(a b:Option Int):dCut (.tup ds) a b=some (.tup (cutD ds a b)):=rfl
theorem dCut_s (ns:List Int)(a b:Option Int):dCut (.scr ns) a b=some (.lst ((cutD ns a b).map .int)):=rfl
theorem dIx_l (ds:List D)(i:Int):dIx (.lst ds) (.int i)=atI ds i:=rfl
theorem dIx_t (ds:List D)(i:Int):dIx (.tup ds) (.int i)=atI ds i:=rfl
theorem dIx_s (ns:List Int)(i:Int):dIx (.scr ns) (.int i)=(atI ns i).map .int:=rfl
theorem dEq_str (a b:Str):dEq (.str a) (.str b)=some (.bl (a==b)):=by
 unfold dEq;rw[show noS (.str a)=true from rfl,show noS (.str b)=true from rfl,show depth (.str a)=0 from rfl]
 rfl
theorem zip3D_w (n:Nat)(f g h:Nat->D):zip3D (wL n f) (wL n g) (wL n h)=wL n fun i=> .tup [f i,g i,h i]:=by
 apply qcw;intro j;unfold zip3D
 by_cases hj:j<n
 ·have e:(List.zip (wL n g) (wL n h))[j]? =some (g j,h j):=by
   rw[List.getElem?_zip_eq_some];exact⟨zbf g hj,zbf h hj⟩
  rw[qcg,e,zbf _ hj,zbf _ hj]
 ·rw[qb2 (by simp[zd5];lia),qb2 (by simp[zd5];lia)]
theorem zor (n:Nat)(f:Nat->Int):wI n f=((List.range n).map f).map .int:=by simp[wL,qb6,qcS]
theorem eqV_int (a b:Int):eqV (.int a) (.int b)=(b==a):=by
 show(a==b)=(b==a)
 by_cases h:a=b
 ·subst h;rfl
 ·rw[qab.mpr h,qab.mpr fun e=>h e.symm]
theorem zgo:∀(l:List Int),zkP (l.map D.int)=some (l.map V.int)
 |[]=>rfl
 |i::l=>by simp[zkP,flV,zgo l]
theorem zi2 (a:Int):∀(l:List Int),inV (.int a) (l.map V.int)=l.contains a
 |[]=>rfl
 |i::l=>by
  have:=zi2 a l;unfold inV at this ⊢;rw[qaS,qbv,this,eqV_int,qcl]
theorem notIn2 (a b c:Int):zjI (.int a) (.tup [.int b,.int c])=some (.bl (!(a==b||a==c))):=by
 have e:zjI (.int a) (.tup [.int b,.int c])=(zkP ([b,c].map D.int)).map fun xs=> .bl (!inV (.int a) xs):=rfl
 rw[e,zgo,qbI,zi2,zoA]
theorem intsOf_w (n:Nat)(f:Nat->Int):za5 (wI n f)=some ((List.range n).map f):=by
 have:wI n f=((List.range n).map f).map .int:=by simp[wL,qb6,qcS]
 rw[this,zcb]
end M
namespace M
open L2 PySem
open PyProof.Rows (step_dedup firstMet)
theorem ok_eIsO {tab:List (Str×Bool)}{ma:ME}{ρ:R}{Q:D×R->Prop}:OkQ Q (eIsO tab ma ρ)=OkQ Q ((ma ρ).bind fun p=>match p.1 with
 | .exc c=>(tab.lookup c).map fun b=>(.bl b,p.2)
 |_=>none):=rfl
end M
namespace M
open L2 PySem
variable {Q:Fl×R->Prop} {m:MS} {is l ls:List Nat} {N i j:Nat} {cs:List Ch} {t:T} {ds:List D} {ma mb me:ME} {F:List D->Option Sl} {g:D->R->Option R} {mt:MT} {mo:MO} {d:D} {b:Bool} {z:Sl×R} {s:Str} {n:Int} {r:R->Option R} {js:List (Option Nat)} {mg:MG} {x:MXG}
theorem inL (j:Int)(ns:List Int):dIn (.int j) (.lst (ns.map .int))=some (.bl (ns.contains j)):=by
 show((zkP (ns.map D.int)).map fun xs=>D.bl (inV (.int j) xs))=_;rw[zgo];show some (D.bl (inV (.int j) (ns.map V.int)))=_;rw[zi2]
theorem like_par (ns:List Int):likeS (.par (ns.map .int)) (.par (ns.map .int))=true:=by
 show(match za5 (ns.map D.int),za5 (ns.map D.int)with
  |some a,some b=>a==b
  |_,_=>false)=true
 rw[zcb];exact qbU ns
section
variable {j:Nat} {mk me:ME} {ρ:R}
theorem ok_tDI {neg:Bool}{Q:Bool×R->Prop}:OkQ Q (tDI j neg mk ρ)=(OkQ (fun p=>OkQ Q (match p.1 with
 | .int k=>(p.2[j]?.bind Sl.dic).map fun q=>(((lkD q.1 q.2 k).isSome !=neg),p.2)
 |_=>none)) (mk ρ)):=ok_bind
theorem ok_eDG {Q:D×R->Prop}:OkQ Q (eDG j mk ρ)=OkQ Q (gd ((ρ[j]?.bind Sl.dic).isSome) ((mk ρ).bind fun p=>match p.1 with
 | .int k=>(p.2[j]?.bind Sl.dic).bind fun q=>(lkD q.1 q.2 k).map fun d=>(d,p.2)
 |_=>none)):=rfl
theorem ok_sDP:OkQ Q (sDP j mk me ρ)=OkQ Q ((me ρ).bind fun p=>gd ((p.2[j]?.bind Sl.dic).isSome) ((mk p.2).bind fun q=>match q.1 with
 | .int k=>q.2[j]?.bind fun s=>match s.tree with
  |some (.dic ks ds)=>if ks.length<16777216 then some (.next,q.2.set j (s.putT (.dic (ptD ks ds k p.1).1 (ptD ks ds k p.1).2)))else none
  |_=>none
 |_=>none)):=rfl
theorem ok_sFzD:OkQ Q (sFzD j m ρ)=OkQ Q (m (fzD j ρ)):=rfl
theorem ok_sUnT:OkQ Q (sUnT j is ρ)=OkQ Q (match ρ[j]? with
 |some (.tre (.lst cs))=>if cs.length=is.length then some (.next,putCs is cs (ρ.set j .emp))else none
 |_=>none):=rfl
theorem ok_cOwn {r:MP'}{Q:List Ch×R->Prop}:OkQ Q (cOwn j r ρ)=OkQ Q (match ρ[j]? with
 |some (.own ds)=>(r (ρ.set j .emp)).map fun q=>(.l ds::q.1,q.2)
 |_=>none):=rfl
theorem ok_fMT {cs:List D}{Q:Sl×List D->Prop}:OkQ Q (fMT N m cs t ds)=OkQ Q ((m (.par cs:: .tre t::zjK (N-2) ds)).bind fun p=>match p.1,(p.2[0]?:Option Sl)with
 |Fl.ret r,some (Sl.par out)=>some (r,out)
 |Fl.next,some (Sl.par out)=>some (.val .non,out)
 |_,_=>none):=by rw[<-zgM,Nat.sub_sub,Nat.add_comm 2];rfl
theorem ok_eCutZ {ml mh ms:MP}{Q:D×R->Prop}:OkQ Q (eCutZ ma ml mh ms ρ)=OkQ Q ((ma ρ).bind fun p=>(ml p.2).bind fun q=>(mh q.2).bind fun r=>(ms r.2).bind fun t=>match p.1 with
 | .scr ns=>if t.1=some 0 then none else some (.lst ((ze7 ns q.1 r.1 t.1).map .int),t.2)
 |_=>none):=rfl
theorem ok_eCallU {ma:MA}{Q:D×R->Prop}:OkQ Q (eCallU F ma ρ)=OkQ Q ((ma ρ).bind fun p=>(F p.1).bind fun r=>match r with
 | .tre (.tup cs)=>some (.tup (cs.map Ch.D),p.2)
 |_=>none):=rfl
theorem ok_turnT {Q:Option (List D)×R->Prop}:OkQ Q (turnT g mt mo d ρ)=(OkQ (fun ρ1=>OkQ (fun p=>(p.1=true->OkQ (fun q=>zdF q.2=true/\Q (some q.1,q.2)) (mo p.2))/\(p.1=false->zdF p.2=true/\Q (none,p.2))) (mt ρ1)) (g d ρ)):=by
 unfold turnT;rw[ok_bind];exact zaA fun ρ1=>by rw[ok_bind];exact zaA fun p=>by rw[zjD,ok_bind,zdv,ok_some];congr 1;exact propext (imp_congr Iff.rfl (iff_of_eq (zaA fun q=>by rw[zdv,ok_some])))
theorem znk:OkQ Q (znH ma mo ρ)=OkQ Q ((ma ρ).bind fun p=>(mo p.2).bind fun r=>some (.ret (.tre (.tup [.d p.1,.l r.1])),r.2)):=rfl
theorem zon:OkQ Q (zlW ma mb ρ)=OkQ Q ((ma ρ).bind fun p=>(mb p.2).bind fun r=>some (.ret (.tre (.tup [.d p.1,.d r.1])),r.2)):=rfl
theorem ok_turnQ {b c:Nat}{Q:Option D×R->Prop}:OkQ Q (turnQ b c g mt me d ρ)=(OkQ (fun ρ1=>OkQ (fun p=>(p.1=true->OkQ (fun q=>zm0 b c q.2=true/\Q (some q.1,q.2)) (me p.2))/\(p.1=false->zm0 b c p.2=true/\Q (none,p.2))) (mt ρ1)) (g d ρ)):=by
 unfold turnQ;rw[ok_bind];exact zaA fun ρ1=>by rw[ok_bind];exact zaA fun p=>by rw[zjD,ok_bind,zdv,ok_some];congr 1;exact propext (imp_congr Iff.rfl (iff_of_eq (zaA fun q=>by rw[zdv,ok_some])))
theorem ok_oSrtS {m:ME}{Q:List D×R->Prop}:OkQ Q (oSrtS m ρ)=OkQ Q ((m ρ).bind fun p=>match p.1 with
 | .lst ds=>(za5 ds).bind fun ns=>if ns.length<64 then some ((HT.usrt ns).map .int,p.2)else none
 | .tup ds=>(za5 ds).bind fun ns=>if ns.length<64 then some ((HT.usrt ns).map .int,p.2)else none
 |_=>none):=rfl
theorem zoy {f g h:D->D->Option D}{a b c d:ME}{Q:D×R->Prop}:OkQ Q (zhu f g h a b c d ρ)=(OkQ (fun p=>OkQ (fun q=>OkQ (fun t=>∃z,t= .bl z/\(z=true->OkQ (fun r=>OkQ (fun t'=>∃z',t'= .bl z'/\(z'=true->OkQ (fun s=>OkQ (fun x=>Q (x,s.2)) (h r.1 s.1)) (d r.2))/\(z'=false->Q (.bl false,r.2))) (g q.1 r.1)) (c q.2))/\(z=false->Q (.bl false,q.2))) (f p.1 q.1)) (b p.2)) (a ρ)):=by
 unfold zhu;rw[ok_bind];refine zaA fun p=>?_
 rw[ok_bind];refine zaA fun q=>?_
 rw[ok_bind];refine zaA fun t=>?_
 cases t with
 |bl z=>
  cases z
  ·simp[ok_some]
  ·simp only[D.bl.injEq,qcQ,forall_const,Bool.true_eq_false,qcR,and_true];rw[ok_bind];refine zaA fun r=>?_
   rw[ok_bind];refine zaA fun t'=>?_
   cases t' with
   |bl z=>
    cases z
    ·simp[ok_some]
    ·simp only[D.bl.injEq,qcQ,forall_const,Bool.true_eq_false,qcR,and_true];rw[ok_bind];exact zaA fun s=>ok_map
   |_=>simp[ok_none]
 |_=>simp[ok_none]
theorem zoM:OkQ Q (zo9 ma mb mo ρ)=OkQ Q ((ma ρ).bind fun p=>(mb p.2).bind fun q=>(mo q.2).bind fun r=>some (.ret (.tre (.tup [.d p.1,.d q.1,.l r.1])),r.2)):=rfl
theorem ok_oMv {Q:List D×R->Prop}:OkQ Q (oMv j ρ)=OkQ Q (match ρ[j]? with
 |some (.own ds)=>some (ds,ρ.set j .emp)
 |_=>none):=rfl
theorem ckG_nil:ckG [] z=true:=rfl
theorem ckG_cons {a:Nat}:ckG (a::l) z=(flS z.1&&z.2.all flS):=rfl
theorem flS_val:flS (.val d)=flD d:=rfl
theorem flS_own:flS (.own ds)=ds.all flD:=rfl
theorem flS_par:flS (.par ds)=ds.all flD:=rfl
theorem flS_tre:flS (.tre t)=flT t:=rfl
theorem flS_ptr:flS (.ptr t)=flT t:=rfl
theorem flS_emp:flS .emp=true:=rfl
theorem flD_bl:flD (.bl b)=true:=rfl
theorem flD_int {i:Int}:flD (.int i)=true:=rfl
theorem flD_non:flD .non=true:=rfl
theorem flD_str:flD (.str s)=true:=rfl
theorem flT_tup:flT (.tup cs)=cs.all flC:=rfl
theorem flC_d:flC (.d d)=flD d:=rfl
theorem flC_l:flC (.l ds)=ds.all flD:=rfl
theorem flT_bk:flT (bkT n ds)=ds.all flD:=by
 show([("many",Ch.d (.int n)),("kept",Ch.l ds)]:List (Str×Ch)).all (fun f=>flC f.2)=ds.all flD;simp[flC,flD]
theorem ok_hNil {Q:R×R->Prop}:OkQ Q (hNil ρ)=Q ([],ρ):=ok_some
theorem ok_hVal {m:ME}{r:MG}{Q:R×R->Prop}:OkQ Q (hVal m r ρ)=OkQ Q ((m ρ).bind fun p=>(r p.2).map fun q=>(.val p.1::q.1,q.2)):=rfl
theorem ok_hHand {r:MG}{Q:R×R->Prop}:OkQ Q (zeU j r ρ)=OkQ Q (gd (hasA ρ j) ((r ρ).bind fun q=>(q.2[j]?.bind Sl.hand).map fun s=>(s::q.1,q.2))):=rfl
theorem ok_hLook {r:MG}{Q:R×R->Prop}:OkQ Q (ziV j r ρ)=OkQ Q (gd (hasA ρ j) ((r ρ).bind fun q=>(q.2[j]?.bind Sl.look).map fun d=>(.val d::q.1,q.2))):=rfl
theorem ok_hSelf {r:MG}{Q:R×R->Prop}:OkQ Q (zda j r ρ)=OkQ Q (gd ((ρ[j]?.bind Sl.bk).isSome) ((r ρ).bind fun q=>(q.2[j]?.bind Sl.hand).map fun s=>(s::q.1,q.2))):=rfl
theorem zob {m:R->Option R}{Q:R×R->Prop}:OkQ Q (zh6 m ρ)=OkQ (fun as=>Q (as,ρ)) (m ρ):=ok_map
theorem ok_yNil {Q:R->Prop}:OkQ Q (yNil ρ)=Q []:=ok_some
theorem ok_yLook {Q:R->Prop}:OkQ Q (zjS j r ρ)=OkQ Q ((r ρ).bind fun as=>(ρ[j]?.bind Sl.look).map fun d=> .val d::as):=rfl
theorem ok_yKept {Q:R->Prop}:OkQ Q (zmL j r ρ)=OkQ Q ((r ρ).bind fun as=>(ρ[j]?.bind Sl.bk).map fun q=> .val (.lst q.2)::as):=rfl
theorem zo8 {F:R->Option (Sl×R)}{Q:D×R->Prop}:OkQ Q (za1 F js ls mg ρ)=OkQ (fun q=>OkQ (fun z=>ckG ls z=true/\OkQ Q (match z.1 with
 | .val d=>some (d,zar js z.2 q.2)
 | .own ds=>some (.lst ds,zar js z.2 q.2)
 | .tre (.tup cs)=>some (.tup (cs.map Ch.D),zar js z.2 q.2)
 |_=>none)) (F q.1)) (mg ρ):=by
 unfold za1;rw[ok_bind];exact zaA fun q=>by rw[ok_bind];exact zaA fun z=>zdv
theorem ok_sSetG {F:R->Option (Sl×R)}:OkQ Q (znt i F js ls mg ρ)=OkQ (fun q=>OkQ (fun z=>ckG ls z=true/\OkQ Q (match z.1 with
 | .val d=>some (.next,(zar js z.2 q.2).set i (.val d))
 | .own ds=>some (.next,(zar js z.2 q.2).set i (.own ds))
 | .tre t=>some (.next,(zar js z.2 q.2).set i (.tre t))
 |_=>none)) (F q.1)) (mg ρ):=by
 unfold znt;rw[ok_bind];exact zaA fun q=>by rw[ok_bind];exact zaA fun z=>zdv
theorem zpo {d1:D}{Q:Sl×R->Prop}:OkQ Q (ze8 F [.val d1])=OkQ (fun r=>Q (r,[.emp])) (F [d1]):=by
 show OkQ Q ((F [d1]).map fun r=>(r,[.emp]))=_;exact ok_map
theorem zn0 {d1 d2:D}{Q:Sl×R->Prop}:OkQ Q (ze8 F [.val d1,.val d2])=OkQ (fun r=>Q (r,[.emp,.emp])) (F [d1,d2]):=by
 show OkQ Q ((F [d1,d2]).map fun r=>(r,[.emp,.emp]))=_;exact ok_map
theorem zn7 {d1 d2 d3:D}{Q:Sl×R->Prop}:OkQ Q (ze8 F [.val d1,.val d2,.val d3])=OkQ (fun r=>Q (r,[.emp,.emp,.emp])) (F [d1,d2,d3]):=by
 show OkQ Q ((F [d1,d2,d3]).map fun r=>(r,[.emp,.emp,.emp]))=_;exact ok_map
theorem znO {d1 d2 d3 d4:D}{Q:Sl×R->Prop}:OkQ Q (ze8 F [.val d1,.val d2,.val d3,.val d4])=OkQ (fun r=>Q (r,[.emp,.emp,.emp,.emp])) (F [d1,d2,d3,d4]):=by
 show OkQ Q ((F [d1,d2,d3,d4]).map fun r=>(r,[.emp,.emp,.emp,.emp]))=_;exact ok_map
theorem zou {d1 d2 d3 d4 d5:D}{Q:Sl×R->Prop}:OkQ Q (ze8 F [.val d1,.val d2,.val d3,.val d4,.val d5])=OkQ (fun r=>Q (r,[.emp,.emp,.emp,.emp,.emp])) (F [d1,d2,d3,d4,d5]):=by
 show OkQ Q ((F [d1,d2,d3,d4,d5]).map fun r=>(r,[.emp,.emp,.emp,.emp,.emp]))=_;exact ok_map
theorem zn3 {d1 d2 d3 d4 d5 d6:D}{Q:Sl×R->Prop}:OkQ Q (ze8 F [.val d1,.val d2,.val d3,.val d4,.val d5,.val d6])=OkQ (fun r=>Q (r,[.emp,.emp,.emp,.emp,.emp,.emp])) (F [d1,d2,d3,d4,d5,d6]):=by
 show OkQ Q ((F [d1,d2,d3,d4,d5,d6]).map fun r=>(r,[.emp,.emp,.emp,.emp,.emp,.emp]))=_;exact ok_map
theorem ok_fG {as:R}{Q:Sl×R->Prop}:OkQ Q (fG N m as)=OkQ (fun p=>OkQ Q (match p.1 with
 | .ret r=>(outS as p.2).map fun o=>(r,o)
 | .next=>(outS as p.2).map fun o=>(.val .non,o)
 |_=>none)) (m (as++List.replicate (N-as.length) .emp)):=ok_bind
theorem ok_eBkN {Q:D×R->Prop}:OkQ Q (eBkN j ρ)=OkQ Q ((ρ[j]?.bind Sl.bk).map fun q=>(.int q.1,ρ)):=rfl
theorem ok_eBkL {Q:D×R->Prop}:OkQ Q (eBkL j ρ)=OkQ Q ((ρ[j]?.bind Sl.bk).map fun q=>(.int q.2.length,ρ)):=rfl
theorem ok_sBkA:OkQ Q (sBkA j me ρ)=OkQ Q ((ρ[j]?.bind Sl.bk).bind fun q=>(me (onlyV ρ)).bind fun p=>if q.2.length<16777216 then(ρ[j]?).map fun s=>(.next,ρ.set j (s.putT (bkT q.1 (q.2++[p.1]))))else none):=rfl
theorem ok_sBkP:OkQ Q (sBkP j ρ)=OkQ Q ((ρ[j]?.bind Sl.bk).bind fun q=>if q.2.isEmpty then none else(ρ[j]?).map fun s=>(.next,ρ.set j (s.putT (bkT q.1 q.2.dropLast)))):=rfl
theorem ok_tIsN {Q:Bool×R->Prop}:OkQ Q (tIsN j b ρ)=OkQ Q (match ρ[j]? with
 |some (.val d)=>some (isN d==b,ρ)
 |some (.own _)=>some (!b,ρ)
 |some (.tre (.tup _))=>some (!b,ρ)
 |_=>none):=rfl
theorem ok_sBkM:OkQ Q (sBkM j me ρ)=OkQ Q ((me ρ).bind fun p=>match p.1 with
 | .int n=>some (.next,p.2.set j (.tre (bkT n [])))
 |_=>none):=rfl
theorem ok_sDNk {mk mv:ME}:OkQ Q (sDNk j mk mv ρ)=OkQ Q ((mk ρ).bind fun p=>(mv p.2).bind fun q=>match p.1 with
 | .int k=>some (.next,q.2.set j (.tre (.dic [k] [q.1])))
 |_=>none):=rfl
theorem ok_sBkF {ix iy:Nat}:OkQ Q (sBkF j ix iy me ρ)=OkQ Q ((ρ[j]?.bind Sl.bk).bind fun q=>(forM (fun d ρ=>sSet iy me (ρ.set ix (.val d))) q.2 (ρ.set j .emp)).bind fun p=>match p.1 with
 | .next=>(ρ[j]?).map fun s=>(.next,p.2.set j s)
 |_=>none):=rfl
theorem ok_ePop0 {Q:D×R->Prop}:OkQ Q (ePop0 j ρ)=OkQ Q (ρ[j]?.bind fun s=>s.items.bind fun ds=>ds.getLast?.map fun d=>(d,ρ.set j (s.put ds.dropLast))):=rfl
end
section
variable {ρ:R} {c:MT} {a b:MXG} {r:Option (Str×R)}
theorem zjQ {ok:List Str}(hx:x ρ=none)(h:Ok (m ρ) Q):Ok (zkk m x ok i j ρ) Q:=by
 unfold zkk;rw[hx];exact h
theorem zhs {ok:List Str}{cc:Str}{ρ1:R}(hx:x ρ=some (cc,ρ1))(hc:ok.contains cc=true)(h:Q (.next,(ρ1.set i (.val (.exc cc))).set j .emp)):Ok (zkk m x ok i j ρ) Q:=by
 unfold zkk;rw[hx];dsimp only;rw[if_pos hc];exact ok_some.mpr h
theorem zmc (h:Ok (c ρ) fun p=>p.1=true/\a p.2=r):xgIf c a ρ=r:=by
 obtain⟨p,e,h1,h2⟩:=h;unfold xgIf;rw[e];show(if p.1=true then a p.2 else none)=_;rw[if_pos h1,h2]
theorem znj (h:Ok (c ρ) fun p=>p.1=false):xgIf c a ρ=none:=by
 obtain⟨p,e,h1⟩:=h;unfold xgIf;rw[e];show(if p.1=true then a p.2 else none)=_;rw[h1];rfl
theorem zhM (h:Ok (c ρ) fun p=>p.1=true/\a p.2=r):zk6 c a b ρ=r:=by
 obtain⟨p,e,h1,h2⟩:=h;unfold zk6;rw[e];show(if p.1=true then a p.2 else b p.2)=_;rw[if_pos h1,h2]
theorem zfQ (h:Ok (c ρ) fun p=>p.1=false/\b p.2=r):zk6 c a b ρ=r:=by
 obtain⟨p,e,h1,h2⟩:=h;unfold zk6;rw[e];show(if p.1=true then a p.2 else b p.2)=_;rw[h1,if_neg (by decide),h2]
theorem zcl {F:R->Option (Str×R)}{ma:R->Option (R×R)}(h:Ok (ma ρ) fun p=>(F p.1).map (fun q=>(q.1,zar js q.2 p.2))=r):zfq F js ma ρ=r:=by
 obtain⟨p,e,h1⟩:=h;unfold zfq;rw[e];exact h1
end
end M
local macro_rules | `(tactic| simp! only [$ls,*]) => do
  let f (d : Bool) (n : String) : Lean.MacroM (Lean.TSyntax `Lean.Parser.Tactic.simpLemma) := let i := Lean.mkIdent n.toName; if d then `(Lean.Parser.Tactic.simpLemma| ↓$i:term) else `(Lean.Parser.Tactic.simpLemma| $i:term)
  let a ← ("M.ok_Q M.ok_sIf M.ok_eIf M.ok_tAnd M.ok_tOr M.ok_eAnd M.ok_eOr M.ok_chain M.zoy M.ok_turnM M.ok_turnP M.ok_turnQ M.ok_bind M.ok_map M.ok_gd M.zdv M.ok_some M.ok_sNext M.ok_sSeq M.ok_sExpr M.ok_sRet M.ok_sRetO M.ok_sRetV M.ok_gN M.ok_gsNil M.zo0 M.ok_gT M.ok_sAsg M.ok_sSet M.ok_sSetO M.ok_sApp M.ok_sPut M.ok_eC M.zgW M.ok_aNil M.ok_aCons M.ok_m1 M.ok_mC M.ok_eLenV M.ok_oC M.ok_eTup M.ok_oLst M.ok_tTru M.ok_tNotM M.ok_eCall M.ok_oCall M.zoI M.ok_eFz M.ok_eCut M.ok_pNo M.ok_pSome M.ok_iSeq M.ok_iR1 M.ok_iR2 M.ok_sFor M.ok_oLC M.ok_oR M.ok_tTrue M.ok_eIsI M.ok_fP M.ok_fM M.ok_oRep M.ok_iEn M.ok_eIsO M.ok_tDI M.ok_eDG M.ok_sDP M.ok_sFzD M.ok_fMT M.ok_eCutZ M.ok_turnT M.znk M.zon M.ok_oSrtS M.zoM M.ok_oMv M.ok_hNil M.ok_hVal M.ok_hHand M.ok_hLook M.ok_hSelf M.zob M.ok_yNil M.ok_yLook M.ok_yKept M.zo8 M.ok_sSetG M.ok_fG M.ok_eBkN M.ok_eBkL M.ok_sBkA M.ok_sBkP M.ok_tIsN M.ok_sBkM M.ok_sDNk M.ok_sBkF M.ok_ePop0 M.ok_eIxC M.ok_eIxE M.ok_m2VV M.ok_m2VC M.ok_m2CV M.zpo M.zn0 M.zn7 M.znO M.zou M.zn3".splitOn " ").toArray.mapM (f true)
  let b ← ("M.ok_m2 M.ok_eIxV M.dI2 M.dSub M.dDiv M.dMod M.dPow M.dLt M.dLe M.dGe M.dNeg M.dMul M.dAdd M.dTru M.dNot M.Sl.read M.Sl.items M.Sl.put M.hasV M.zdF M.fz1 M.fzL M.capS M.capR M.eIsI.noS1 M.okT M.isI M.d2I M.dInt M.dSum M.dAll M.zkV M.zoE M.parAt M.fzD M.putCs M.Ch.sl M.Sl.dic M.Sl.dit M.Sl.tree M.Sl.putT M.Sl.dit M.fzT M.Ch.D M.fzDT M.fzU M.rowsOf M.zm0 M.Sl.hand M.Sl.look M.hasA M.outS M.backS M.zar M.zg1 M.Sl.bk M.onlyV M.znC M.seqK_ret M.seqK_brk M.znf M.zn1 M.zm8 M.turn_brk M.turn_ret List.getElem?_cons_zero List.getElem?_cons_succ List.set_cons_zero List.set_cons_succ Option.bind_some Option.isSome_some Option.map_some if_true M.zm7 M.map_nilR M.zid M.zok M.ixR_val M.ixR_own M.ixR_par M.zhb M.eVQ_own M.Vb_val M.Vb_own M.Vb_own2 M.Va_val M.Va_own List.replicate_succ List.replicate_zero List.length_cons List.length_nil List.cons_append List.nil_append List.all_cons List.all_nil Bool.and_true Bool.true_and Bool.and_self Bool.true_eq_false Bool.false_eq_true if_false M.dEq_int M.dNe_int List.length_map List.length_append M.atI_n M.atI_lit M.ixN_n M.ixN_lit M.atI_n1 M.ok_none M.dItems_l M.dItems_t M.dItems_s M.dLen_l M.dLen_t M.dLen_s M.dTuple_l M.dTuple_t M.dTuple_s M.dCut_l M.dCut_t M.dCut_s M.dIx_l M.dIx_t M.dIx_s M.dEq_str M.zip3D_w M.isN_non M.isN_int M.isN_bl M.isN_str M.isN_lst M.isN_tup M.bkT_bk M.flT_bk M.ckG_nil M.ckG_cons M.flS_val M.flS_own M.flS_tre M.flS_par M.flS_ptr M.flS_emp M.flD_bl M.flD_int M.flD_non M.flD_str M.flT_tup M.flC_d M.flC_l beq_self_eq_true Bool.not_true Bool.not_false M.zcb Int.toNat_natCast M.rangeD_w M.zd5 decide_eq_true_eq Bool.and_eq_true true_and and_true Nat.reduceAdd Nat.reduceLeDiff Int.reduceLT Int.reduceLE Int.reduceNeg Nat.reduceSub Int.reducePow Int.reduceMul Int.reduceAdd Int.reduceSub Int.reduceMod Int.reduceDiv Nat.reduceLT Nat.reduceBNe Nat.reduceEqDiff List.filter_cons List.filter_nil bne_self_eq_false Int.reduceToNat Nat.reducePow M.zmC Int.reduceEq Int.reduceBEq Int.reduceBNe Nat.reduceMod decide_true decide_false beq_iff_eq beq_eq_false_iff_ne bne_iff_ne bne_eq_false_iff_eq decide_eq_false_iff_not Int.not_le Int.not_lt ne_eq forall_const true_implies false_implies reduceCtorEq imp_self implies_true M.D.bl.injEq exists_eq_left' Bool.not_true Bool.not_false".splitOn " ").toArray.mapM (f false)
  `(tactic| simp only [$a,*, $b,*, $ls,*])
namespace Prf
open L2 M PySem
noncomputable def top (i:Nat):Stmt:=PySem.Challenge.pw_tellsum_k80_stretches_refused.main.body.getD i (.Pass ⟨0,0,0,0⟩)
noncomputable def zcg:List (Str×Bool):=[("NoPlace",false),("NoPast",false)]
noncomputable def zfJ:List (Str×Bool):=[("NoPlace",false),("NoPast",false)]
noncomputable def zdd:List (Str×Bool):=[("NoPlace",false),("NoPast",false)]
noncomputable def zeI:List (Str×Bool):=[("NoPlace",false),("NoPast",true)]
noncomputable def zdZ:List (Str×Bool):=[("NoPlace",true),("NoPast",false)]
noncomputable def zfG:List (Str×Bool):=[("NoPlace",false),("NoPast",false)]
noncomputable def zeK:List (Str×Bool):=[("NoPlace",false),("NoPast",false)]
noncomputable def zdW:List (Str×Bool):=[("NoPlace",false),("NoPast",false)]
noncomputable def zdb:List (Str×Bool):=[("NoPlace",true),("NoPast",true)]
noncomputable def zeO:List (Str×Bool):=[("NoPlace",false),("NoPast",false)]
noncomputable def zcf:List (Str×Bool):=[("NoPlace",true),("NoPast",true)]
structure BN (K:W.Frag) (mg:Str->Option Value):Prop where
 bk:BkC K
 r_NoPlace:RaiOk K mg "NoPlace"
 r_NoPast:RaiOk K mg "NoPast"
 t_SumError:CatOk K mg "SumError" ["NoPlace","NoPast"]
 i_BadTelling:IsOk K mg "BadTelling" zcg
 i_NoFit:IsOk K mg "NoFit" zfJ
 i_NoNumber:IsOk K mg "NoNumber" zdd
 i_NoPast:IsOk K mg "NoPast" zeI
 i_NoPlace:IsOk K mg "NoPlace" zdZ
 i_NoRow:IsOk K mg "NoRow" zfG
 i_NoText:IsOk K mg "NoText" zeK
 i_NotTwos:IsOk K mg "NotTwos" zdW
 i_SumError:IsOk K mg "SumError" zdb
 i_Unlike:IsOk K mg "Unlike" zeO
 i_ValueError:zo3 K (.type "ValueError") zcf
 ValueError':mg "ValueError"=none
 all':mg "all"=none
 bool':mg "bool"=none
 enumerate':mg "enumerate"=none
 int':mg "int"=none
 isinstance':mg "isinstance"=none
 len':mg "len"=none
 list':mg "list"=none
 min':mg "min"=none
 range':mg "range"=none
 set':mg "set"=none
 sorted':mg "sorted"=none
 sum':mg "sum"=none
 tuple':mg "tuple"=none
section
variable {P:Program} {w:World} {K:W.Frag} {mg:Str->Option Value} {base hp:Heap} {f:Addr} {fd:FuncData} (X:K.In hp) (G:hp.Ns mainGlobals mg) (bn:BN K mg)
include X G bn
abbrev zkf:Stmt:=top 12
def zhP:ME:=
 (eIf (tTru (m2 dEq (eVar 3) (eIxV 0 (eVar 1)))) (eIxV 0 (eVar 2)) (eVar 3))
def zhe:MO:=
 oLC [0,2,1] 1 (iSeq (eVar 0)) (gN 3) zhi zhP
def zjc:MS:=
 (zk9 zhe)
def zfV:List D->Option Sl:=fP 3 zjc
theorem zom (h:FnAt K "joined" zkf):FD P w K mg base 1 "joined" (spP K 3 zfV):=
 fdP (N:=["groups","first","second"]) (k:=0) (m:=zjc) X G h fun _ _ _ _ _ _ _ hr nd=>(zah (zhn (zkr [0,2,1] 1 ["groups","second","first","group"] rfl (zfT (zac 0)) (fun C s H fp=>(zav 3 ndk)) (fun C s H fp=>zd0) (fun C s H fp=>(zlq (zjM hr.units (zac 3) (zap 0 (zac 1))) (zap 0 (zac 2)) (zac 3))))))
abbrev zgE:Stmt:=top 14
def zbK:MS:=
 (sSeq (sSet 6 (eIxV 5 (eC (.int 0))))
  (sSeq (sSet 7 (m2 dAdd (eIxV 5 (eC (.int 1))) (eC (.int 1))))
  (sIf (zo2 (tDI 2 false (eVar 6)) (tDI 2 true (eVar 7)))
  (sDP 2 (eVar 7) (m2 dAdd (eDG 2 (eVar 6)) (eFz (oLst (zag (eTup (zag (eVar 4) (zag (eC (.int 1)) aNil))) aNil)))))
  (sIf (zo2 (tDI 2 false (eVar 7)) (tDI 2 true (eVar 6)))
  (sDP 2 (eVar 6) (m2 dAdd (eDG 2 (eVar 7)) (eFz (oLst (zag (eTup (zag (eVar 4) (zag (m1 dNeg (eC (.int 1))) aNil))) aNil)))))
  zcd))))
def zeZ:MS:=
 sFor (iEn (zag (eVar 0) aNil)) (gT 2 (zbd (gN 4) (zbd (gN 5) zfY))) zbK
def zeX:MS:=
 zeZ
def ze3:MS:=
 sFor (iR1 (zag (zgl 0) aNil)) (gN 3) zeX
def zfa:MS:=
 (sSeq (sDNk 2 (eVar 1) (eFz (oLst aNil)))
  (sSeq ze3
  (sFzD 2 (zkC 2))))
def zcZ:List D->Option Sl:=fP 8 zfa
theorem zjX (h:FnAt K "ways_from" zgE):FD P w K mg base 1 "ways_from" (spP K 2 zcZ):=
 fdP (N:=["kept","start","ways","turn","number","stretch","ahead","behind"]) (k:=0) (m:=zfa) X G h fun _ _ _ _ _ _ _ hr nd=>(zae (ss_dNk 2 (zac 1) (SO.se (zec zaj)) nd)
  (zae (zd3 qcU rfl (zb2 bn.range' (zab (zdh 0 bn.len') zaj)) (zav 3 nd)
  (zah (zd3 qcU rfl (zfM bn.enumerate' (zab (zac 0) zaj)) (zeE rfl (zaF (zav 4 nd) (zaF (zav 5 nd) zc9)))
  (zae (zbe 6 (zap 5 zad) nd)
  (zae (zbe 7 (zbo (zap 5 zad) zad) nd)
  (zah (zb4 (STw.st (sw_and (st_dIn 2 hr.units (zac 6)) (znI (zgY 2 hr.units (zac 7)))))
  (zah (zoe 2 hr.units (zbo (zk1 2 hr.units (zac 6)) (SO.se (zec (zab (zbx (zab (zac 4) (zab zad zaj))) zaj)))) (zac 7)))
  (zah (zb4 (STw.st (sw_and (st_dIn 2 hr.units (zac 7)) (znI (zgY 2 hr.units (zac 6)))))
  (zah (zoe 2 hr.units (zbo (zk1 2 hr.units (zac 7)) (SO.se (zec (zab (zbx (zab (zac 4) (zab (zho zad) zaj))) zaj)))) (zac 6)))
  zaP)))))))))
  (zah (ss_fzD 2 (zi1 2)))))
abbrev zgw:Stmt:=top 15
def zdf:MS:=
 (zk9 (oC dSrt (zag (eDG 3 (m2 dAdd (eVar 2) (eC (.int 1)))) aNil)))
def zfl:MS:=
 (sSeq (sSet 3 (zdY zcZ (zag (eVar 0) (zag (eVar 1) aNil))))
  (sSeq (sIf (tDI 3 true (m2 dAdd (eVar 2) (eC (.int 1))))
  (sRet (eC .non))
  zcd)
  zdf))
def zbO:List D->Option Sl:=fP 4 zfl
theorem zjq (zez:FD P w K mg base 1 "ways_from" (spP K 2 zcZ))(h:FnAt K "signs_for" zgw):FD P w K mg base 2 "signs_for" (spP K 3 zbO):=
 fdP (N:=["kept","a","b","ways"]) (k:=1) (m:=zfl) X G h fun _ _ _ _ _ _ _ hr nd=>(zae (zbe 3 (zbn zez hr (zab (zac 0) (zab (zac 1) zaj)) (hlen:=(zai (zai zat)))) nd)
  (zae (zb4 (zgY 3 hr.units (zbo (zac 2) zad))
  (zah (zaS zjn))
  zaP)
  (zah (zhn (znD bn.sorted' (zab (zk1 3 hr.units (zbo (zac 2) zad)) zaj))))))
abbrev ze2:Stmt:=top 16
def zeb:ME:=
 (m2 dMul (m2 dIx (eIxV 0 (eVar 1)) (eC (.int 2))) (eVar 2))
def zd8:MO:=
 oLC [0] 2 (iSeq (eVar 1)) (gT 2 (zbd (gN 1) (zbd (gN 2) zfY))) zhi zeb
def zdL:MS:=
 (sRet (mC dSum (zag (eFz zd8) aNil)))
def za9:List D->Option Sl:=fP 2 zdL
theorem zhU (h:FnAt K "signs_total" ze2):FD P w K mg base 1 "signs_total" (spP K 2 za9):=
 fdP (N:=["kept","signs"]) (k:=0) (m:=zdL) X G h fun _ _ _ _ _ _ _ hr nd=>(zah (zaS (zj7 rfl bn.sum' (zab (SO.se (zkr [0] 2 ["kept","number","sign"] rfl (zfT (zac 1)) (fun C s H fp=>(zeE rfl (zaF (zav 1 ndk) (zaF (zav 2 ndk) zc9)))) (fun C s H fp=>zd0) (fun C s H fp=>(zfO (zeg (zap 0 (zac 1)) zad) (zac 2))))) zaj))))
abbrev zaQ:Stmt:=zdj (top 17) 1
def zbN:MS:=
 (sIf (zcx (tTru (zhu dLe dLe dLt (eC (.int 0)) (eVar 1) (eVar 2) (eBkN 0))))
  (fun _=>none)
  zcd)
def zaB:R->Option (Sl×R):=fG 3 zbN
theorem zeS (h:MAt K "refuse_no_stretch" "SumBook.refuse_no_stretch" zaQ):MD P w K mg base 1 "refuse_no_stretch" (spG K 3 zaB):=
 mdG (N:=["self","a","b"]) (k:=0) (m:=zbN) h fun _ _ _ _ _ _ _ hr nd=>(zah (zb4 (zbB (zjJ zkq zkq op_lt zd4 zd4 zd4 zjv zad (zac 1) (zac 2) (zlx 0 bn.bk)))
  (zah zlN)
  zaP))
def zay:MXG:=
 (xgIf (zcx (tTru (zhu dLe dLe dLt (eC (.int 0)) (eVar 1) (eVar 2) (eBkN 0)))) (zkD "NoPlace"))
def zaC:R->Option (Str×R):=fGX 3 zay
theorem zes (h:MAt K "refuse_no_stretch" "SumBook.refuse_no_stretch" zaQ):MDX P w K mg base 1 "refuse_no_stretch" (spGX K 3 zaC):=
 mdGX (N:=["self","a","b"]) (k:=0) (m:=zay) h fun _ _ _ _ _ _ _ hr nd=>(zbq (xgs_if (zbB (zjJ zkq zkq op_lt zd4 zd4 zd4 zjv zad (zac 1) (zac 2) (zlx 0 bn.bk))) (zbq (zjx zn5 rfl rfl rfl bn.r_NoPlace))))
abbrev zcX:Stmt:=zdj (top 17) 2
def zfF:MS:=
 (znH (eIf (tTru (m2 dEq (za1 (ze8 za9) [none,none] [0,4] (zh6 (zmL 0 (zjS 4 yNil)))) (eVar 3))) (eC (.str "known")) (eC (.str "clash"))) (oMv 4))
def zf0:MS:=
 (sSeq (znb (za1 zaB [some 0, none, none] [] (zda 0 (hVal (eVar 1) (hVal (eVar 2) hNil)))))
  (sSeq (znt 4 (ze8 zbO) [none, none, none] [0, 1, 2] (zh6 (zmL 0 (zjS 1 (zjS 2 yNil)))))
  (sSeq (sIf (tIsN 4 true)
  (sSeq (sBkA 0 (eTup (zag (eVar 1) (zag (eVar 2) (zag (eVar 3) aNil)))))
  (zlW (eC (.str "new")) (m2 dSub (eBkL 0) (eC (.int 1)))))
  zcd)
  zfF)))
def zdI:R->Option (Sl×R):=fG 5 zf0
theorem zkv (md_refuse_no_stretch:MD P w K mg base 1 "refuse_no_stretch" (spG K 3 zaB))(zbY:FD P w K mg base 2 "signs_for" (spP K 3 zbO))(zbh:FD P w K mg base 1 "signs_total" (spP K 2 za9))(h:MAt K "tell_sum" "SumBook.tell_sum" zcX):MD P w K mg base 3 "tell_sum" (spG K 4 zdI):=
 mdG (N:=["self","a","b","total","signs"]) (k:=2) (m:=zf0) h fun _ _ _ _ _ _ _ hr nd=>(zae (zkw (zfv 0 md_refuse_no_stretch zbi hr (zas (zac 1) (zas (zac 2) zbC))))
  (zae (znu 4 zbY (fun _ _ _ _ => zgZ) zca hr (SGS.ga (ziZ 0 bn.bk (zgp 1 (zgp 2 zlU)))) nd)
  (zae (zb4 (st_isN 4)
  (zae (ss_bkA 0 bn.bk (zbx (zab (zac 1) (zab (zac 2) (zab (zac 3) zaj)))))
  (zah (zls ze1 (zgz (zlb 0 bn.bk bn.len') zad))))
  zaP)
  (zah (ss_retUl (zlq (zjM hr.units (zbb zbh (fun _ _ _ _=>zgZ) zca hr (SGS.ga (ziZ 0 bn.bk (zgp 4 zlU)))) (zac 3)) ze1 ze1) (so_mv 4))))))
def zbU:MXG:=
 (zfq zaC [some 0,none,none] (zda 0 (hVal (eVar 1) (hVal (eVar 2) hNil))))
def zdC:R->Option (Str×R):=fGX 5 zbU
theorem zjl (mdx_refuse_no_stretch:MDX P w K mg base 1 "refuse_no_stretch" (spGX K 3 zaC))(h:MAt K "tell_sum" "SumBook.tell_sum" zcX):MDX P w K mg base 2 "tell_sum" (spGX K 4 zdC):=
 mdGX (N:=["self","a","b","total","signs"]) (k:=1) (m:=zbU) h fun _ _ _ _ _ _ _ hr nd=>(zbq (zlz (zgN 0 mdx_refuse_no_stretch zfp zj6 hr (zas (zac 1) (zas (zac 2) zbC)))))
abbrev zdr:Stmt:=zdj (top 17) 3
def zgC:MS:=
 (zo9 (eC (.str "sum")) (za1 (ze8 za9) [none,none] [0,3] (zh6 (zmL 0 (zjS 3 yNil)))) (oMv 3))
def zhG:MS:=
 (sSeq (znb (za1 zaB [some 0, none, none] [] (zda 0 (hVal (eVar 1) (hVal (eVar 2) hNil)))))
  (sSeq (znt 3 (ze8 zbO) [none, none, none] [0, 1, 2] (zh6 (zmL 0 (zjS 1 (zjS 2 yNil)))))
  (sSeq (sIf (tIsN 3 true)
  (zlW (eC (.str "free")) (eC .non))
  zcd)
  zgC)))
def zcJ:R->Option (Sl×R):=fG 4 zhG
theorem zmN (md_refuse_no_stretch:MD P w K mg base 1 "refuse_no_stretch" (spG K 3 zaB))(zbY:FD P w K mg base 2 "signs_for" (spP K 3 zbO))(zbh:FD P w K mg base 1 "signs_total" (spP K 2 za9))(h:MAt K "ask_sum" "SumBook.ask_sum" zdr):MD P w K mg base 3 "ask_sum" (spG K 3 zcJ):=
 mdG (N:=["self","a","b","signs"]) (k:=2) (m:=zhG) h fun _ _ _ _ _ _ _ hr nd=>(zae (zkw (zfv 0 md_refuse_no_stretch zbi hr (zas (zac 1) (zas (zac 2) zbC))))
  (zae (znu 3 zbY (fun _ _ _ _ => zgZ) zca hr (SGS.ga (ziZ 0 bn.bk (zgp 1 (zgp 2 zlU)))) nd)
  (zae (zb4 (st_isN 3)
  (zah (zls ze1 zjn))
  zaP)
  (zah (ss_retU3 ze1 (zbb zbh (fun _ _ _ _=>zgZ) zca hr (SGS.ga (ziZ 0 bn.bk (zgp 3 zlU)))) (so_mv 3))))))
def zeu:MXG:=
 (zfq zaC [some 0,none,none] (zda 0 (hVal (eVar 1) (hVal (eVar 2) hNil))))
def zfL:R->Option (Str×R):=fGX 4 zeu
theorem zkW (mdx_refuse_no_stretch:MDX P w K mg base 1 "refuse_no_stretch" (spGX K 3 zaC))(h:MAt K "ask_sum" "SumBook.ask_sum" zdr):MDX P w K mg base 2 "ask_sum" (spGX K 3 zfL):=
 mdGX (N:=["self","a","b","signs"]) (k:=1) (m:=zeu) h fun _ _ _ _ _ _ _ hr nd=>(zbq (zlz (zgN 0 mdx_refuse_no_stretch zfp zj6 hr (zas (zac 1) (zas (zac 2) zbC)))))
abbrev zdQ:Stmt:=zdj (top 17) 4
def zgf:MS:=
 (sRet (m2 dSub (eBkN 0) (eBkL 0)))
def zdy:R->Option (Sl×R):=fG 1 zgf
theorem zla (h:MAt K "can_come" "SumBook.can_come" zdQ):MD P w K mg base 1 "can_come" (spG K 1 zdy):=
 mdG (N:=["self"]) (k:=0) (m:=zgf) h fun _ _ _ _ _ _ _ hr nd=>(zah (zaS (zgz (zlx 0 bn.bk) (zlb 0 bn.bk bn.len'))))
abbrev zcA:Stmt:=zdj (top 17) 5
def zer:ME:=
 (zdY zfV (zag (eVar 1) (zag (eIxV 2 (eC (.int 0))) (zag (m2 dAdd (eIxV 2 (eC (.int 1))) (eC (.int 1))) aNil))))
def zeB:ME:=
 (m2 dCntI (eCut (eVar 0) (zkI (m2 dAdd (eVar 1) (eC (.int 1)))) pNo) (eVar 2))
def zeh:MO:=
 oLC [1] 2 (iEn (zag (eVar 1) aNil)) (gT 2 (zbd (gN 1) (zbd (gN 2) zfY))) zhi zeB
def zei:MS:=
 (sSeq (sSet 1 (eFz (oR (iR1 (zag (m2 dAdd (eBkN 0) (eC (.int 1))) aNil)))))
  (sSeq (sBkF 0 2 1 zer)
  (sRet (mC dSum (zag (eFz zeh) aNil)))))
def zci:R->Option (Sl×R):=fG 3 zei
theorem ziz (zht:FD P w K mg base 1 "joined" (spP K 3 zfV))(h:MAt K "known_many" "SumBook.known_many" zcA):MD P w K mg base 2 "known_many" (spG K 1 zci):=
 mdG (N:=["self","groups","stretch"]) (k:=1) (m:=zei) h fun _ _ _ _ _ _ _ hr nd=>(zae (zbe 1 (SO.se (zju bn.list' bn.range' (zab (zbo (zlx 0 bn.bk) zad) zaj))) nd)
  (zae (ss_bkF 0 2 1 bn.bk (zbn zht hr (zab (zac 1) (zab (zap 2 zad) (zab (zbo (zap 2 zad) zad) zaj))) (hlen := (zai (zai (zai zat))))) nd qcU)
  (zah (zaS (zj7 rfl bn.sum' (zab (SO.se (zkr [1] 2 ["groups","cut","group"] rfl (zfM bn.enumerate' (zab (zac 1) zaj)) (fun C s H fp=>(zeE rfl (zaF (zav 1 ndk) (zaF (zav 2 ndk) zc9)))) (fun C s H fp=>zd0) (fun C s H fp=>(zns (se_cut (zac 0) (zhQ (zbo (zac 1) zad)) zoV) (zac 2))))) zaj))))))
abbrev zch:Stmt:=zdj (top 17) 6
def zeW:MS:=
 (sBkP 0)
def zfk:MS:=
 (sSeq (sIf (tTru (m2 dEq (eBkL 0) (eC (.int 0))))
  (fun _=>none)
  zcd)
  zeW)
def zc3:R->Option (Sl×R):=fG 1 zfk
theorem zka (h:MAt K "take_back" "SumBook.take_back" zch):MD P w K mg base 1 "take_back" (spG K 1 zc3):=
 mdG (N:=["self"]) (k:=0) (m:=zfk) h fun _ _ _ _ _ _ _ hr nd=>(zae (zb4 (zjM hr.units (zlb 0 bn.bk bn.len') zad)
  (zah zlN)
  zaP)
  (zah (ss_bkP 0 bn.bk)))
def zbm:MXG:=
 (xgIf (tTru (m2 dEq (eBkL 0) (eC (.int 0)))) (zkD "NoPast"))
def zcU:R->Option (Str×R):=fGX 1 zbm
theorem ziS (h:MAt K "take_back" "SumBook.take_back" zch):MDX P w K mg base 1 "take_back" (spGX K 1 zcU):=
 mdGX (N:=["self"]) (k:=0) (m:=zbm) h fun _ _ _ _ _ _ _ hr nd=>(zbq (xgs_if (zjM hr.units (zlb 0 bn.bk bn.len') zad) (zbq (zjx zn5 rfl rfl rfl bn.r_NoPast))))
abbrev zgx:Stmt:=top 19
def ze4:MS:=
 (sSeq (sSet 3 (m2 dMod (m2 dAdd (m2 dMul (eVar 3) (eC (.int 48271))) (eC (.int 12345))) (eC (.int 2147483647))))
  (sSet 4 (m2 dAdd (m2 dMul (eVar 4) (eC (.int 16777216))) (m2 dMod (m2 dDiv (m2 dMod (m2 dMul (eVar 3) (eVar 3)) (eC (.int 2147483629))) (eC (.int 64))) (eC (.int 16777216))))))
def zdn:MS:=
 sFor (iR1 (zag (eC (.int 40)) aNil)) (gN 5) ze4
def ze0:MS:=
 (sSeq (sSet 3 (m2 dAdd (m2 dAdd (m2 dMod (eVar 2) (eC (.int 2147483629))) (m2 dMul (eC (.int 7919)) (eVar 1))) (eC (.int 1))))
  (sSeq (sSet 4 (eC (.int 0)))
  (sSeq zdn
  (zk9 (oLst (zag (eVar 4) aNil))))))
def zdp:MS:=
 (sSeq (sIf (tTru (m2 dGe (eVar 2) (m2 dPow (eC (.int 10)) (eC (.int 18)))))
  (zk9 (oLst (zag (m2 dSub (eVar 2) (m2 dPow (eC (.int 10)) (eC (.int 18)))) aNil)))
  zcd)
  ze0)
def zfj:MS:=
 (sSeq (sSet 2 (eC (.int 0)))
  (sSeq (sIf (tTru (m2 dLt (eVar 1) (zgl 0)))
  (sSet 2 (m2 dMod (eIxV 0 (eVar 1)) (m2 dMul (m2 dMul (m2 dMul (m2 dPow (eC (.int 10)) (eC (.int 60))) (m2 dPow (eC (.int 10)) (eC (.int 60)))) (m2 dPow (eC (.int 10)) (eC (.int 60)))) (m2 dPow (eC (.int 10)) (eC (.int 60))))))
  zcd)
  zdp))
def zcT:List D->Option Sl:=fP 6 zfj
theorem zkj (h:FnAt K "_law_deal" zgx):FD P w K mg base 1 "_law_deal" (spP K 2 zcT):=
 fdP (N:=["script","k","cell","seed","number","turn"]) (k:=0) (m:=zfj) X G h fun _ _ _ _ _ _ _ hr nd=>(zae (zbe 2 zad nd)
  (zae (zb4 (st_lt (zac 1) (zdh 0 bn.len'))
  (zah (zbe 2 (zh7 (zap 0 (zac 1)) (zfO (zfO (zfO (zgB zad zad) (zgB zad zad)) (zgB zad zad)) (zgB zad zad))) nd))
  zaP)
  (zae (zb4 (st_ge (zac 2) (zgB zad zad))
  (zah (zhn (zec (zab (zgz (zac 2) (zgB zad zad)) zaj))))
  zaP)
  (zae (zbe 3 (zbo (zbo (zh7 (zac 2) zad) (zfO zad (zac 1))) zad) nd)
  (zae (zbe 4 zad nd)
  (zae (zd3 qcU rfl (zb2 bn.range' (zab zad zaj)) (zav 5 nd)
  (zae (zbe 3 (zh7 (zbo (zfO (zac 3) zad) zad) zad) nd)
  (zah (zbe 4 (zbo (zfO (zac 4) zad) (zh7 (zm4 (zh7 (zfO (zac 3) (zac 3)) zad) zad) zad)) nd))))
  (zah (zhn (zec (zab (zac 4) zaj))))))))))
abbrev zgr:Stmt:=top 20
def zfm:MS:=
 (sSeq (sSet 2 (m2 dMod (eIxV 0 (eC (.int 0))) (eVar 1)))
  (sSeq (sPut 0 (eC (.int 0)) (m2 dDiv (eIxV 0 (eC (.int 0))) (eVar 1)))
  (zkC 2)))
def zaD:List D->List D->Option (Sl×List D):=fM 3 zfm
theorem zjm (h:FnAt K "_law_take" zgr):FD P w K mg base 1 "_law_take" (spM K 2 zaD):=
 fdM (N:=["pot","many","digit"]) (k:=0) (m:=zfm) X G h fun _ _ _ _ _ _ _ hr nd=>(zae (zbe 2 (zh7 (zap 0 zad) (zac 1)) nd)
  (zae (ss_put 0 (zm4 (zap 0 zad) (zac 1)) zad)
  (zah (zi1 2))))
abbrev zfy:Stmt:=top 21
def zgs:MS:=
 (sRet (eAnd (eIsI "int" (eVar 0)) (m1 dNot (eIsI "bool" (eVar 0)))))
def zaI:List D->Option Sl:=fP 1 zgs
theorem ziL (h:FnAt K "_law_whole" zfy):FD P w K mg base 1 "_law_whole" (spP K 1 zaI):=
 fdP (N:=["thing"]) (k:=0) (m:=zgs) X G h fun _ _ _ _ _ _ _ hr nd=>(zah (zaS (zhj (zib "int" bn.isinstance' bn.int' (by decide+kernel) (zac 0)) (zin (se_not (zib "bool" bn.isinstance' bn.bool' (by decide+kernel) (zac 0)))))))
abbrev zfS:Stmt:=top 22
def zc4:MS:=
 (sRet (eAnd (m2 dEq (m2 zlr (eVar 2) (eC (.bl true))) (eC (.int 1))) (eIxV 2 (eVar 1))))
def zdc:MS:=
 (sSeq (zi7 2 (oLst (zag (eIsO zcg (eVar 0)) (zag (eIsO zfJ (eVar 0)) (zag (eIsO zdd (eVar 0)) (zag (eIsO zeI (eVar 0)) (zag (eIsO zdZ (eVar 0)) (zag (eIsO zfG (eVar 0)) (zag (eIsO zeK (eVar 0)) (zag (eIsO zdW (eVar 0)) (zag (eIsO zeO (eVar 0)) aNil)))))))))))
  (sSeq (sIf (tOrM (zcx (tTru (eIsO zdb (eVar 0)))) (zcx (tTru (eIsO zcf (eVar 0)))))
  (sRet (eC (.bl false)))
  zcd)
  zc4))
def zaY:List D->Option Sl:=fP 3 zdc
theorem zi0 (h:FnAt K "_law_alone" zfS):FD P w K mg base 1 "_law_alone" (spP K 2 zaY):=
 fdP (N:=["e","place","some"]) (k:=0) (m:=zdc) X G h fun _ _ _ _ _ _ _ hr nd=>(zae (zhO 2 (zec (zab (zdk bn.isinstance' bn.i_BadTelling (zac 0)) (zab (zdk bn.isinstance' bn.i_NoFit (zac 0)) (zab (zdk bn.isinstance' bn.i_NoNumber (zac 0)) (zab (zdk bn.isinstance' bn.i_NoPast (zac 0)) (zab (zdk bn.isinstance' bn.i_NoPlace (zac 0)) (zab (zdk bn.isinstance' bn.i_NoRow (zac 0)) (zab (zdk bn.isinstance' bn.i_NoText (zac 0)) (zab (zdk bn.isinstance' bn.i_NotTwos (zac 0)) (zab (zdk bn.isinstance' bn.i_Unlike (zac 0)) zaj)))))))))) nd)
  (zae (zb4 (STw.st (zgX (zbB (zaT (zdk bn.isinstance' bn.i_SumError (zac 0)))) (zgt (zbB (zaT (se_isOT bn.isinstance' bn.ValueError' (by decide +kernel) bn.i_ValueError (zac 0)))))))
  (zah (zaS zef))
  zaP)
  (zah (zaS (zhj (ziN hr.units (se_count (zac 2) zef) zad) (zin (zap 2 (zac 1))))))))
abbrev zg9:Stmt:=top 23
def zgd:MS:=
 (zk9 (oLst (zag (mC dSum (zag (eCutZ (eVar 0) pNo pNo (zkI (eC (.int 2)))) aNil)) (zag (mC dSum (zag (eCutZ (eVar 0) (zkI (eC (.int 1))) pNo (zkI (eC (.int 2)))) aNil)) aNil))))
def zdE:List D->Option Sl:=fP 1 zgd
theorem zkM (h:FnAt K "_law_two" zg9):FD P w K mg base 1 "_law_two" (spP K 1 zdE):=
 fdP (N:=["script"]) (k:=0) (m:=zgd) X G h fun _ _ _ _ _ _ _ hr nd=>(zah (zhn (zec (zab (zj7 rfl bn.sum' (zab (zny (zac 0) zoV zoV (zhQ zad)) zaj)) (zab (zj7 rfl bn.sum' (zab (zny (zac 0) (zhQ zad) zoV (zhQ zad)) zaj)) zaj)))))
abbrev ze6:Stmt:=top 24
def zcn:ME:=
 (m2 dIx (eTup (zag (eVar 2) (zag (mC (d2I min2) (zag (eVar 0) (zag (eVar 1) aNil))) aNil))) (mC dInt (zag (m2 dIn (eVar 2) (eTup (zag (eVar 0) (zag (eVar 1) aNil)))) aNil)))
def zee:MO:=
 oLC [6,7] 1 (iSeq (eVar 2)) (gN 2) zhi zcn
def zea:MS:=
 (sSeq (sAsg (eTup (zag (eIxV 2 (eVar 3)) (zag (eIxV 2 (m2 dAdd (eVar 4) (eC (.int 1)))) aNil))) (gT 2 (zbd (gN 6) (zbd (gN 7) zfY))))
  (zi7 2 zee))
def zd6:MS:=
 sFor (iSeq (eVar 1)) (gT 3 (zbd (gN 3) (zbd (gN 4) (zbd (gN 5) zfY)))) zea
def zdP:MS:=
 (sSeq (zi7 2 (oR (iR1 (zag (m2 dAdd (eVar 0) (eC (.int 1))) aNil))))
  (sSeq zd6
  (zkC 2)))
def zaU:List D->Option Sl:=fP 8 zdP
theorem zh2 (h:FnAt K "_law_labels" ze6):FD P w K mg base 1 "_law_labels" (spP K 2 zaU):=
 fdP (N:=["many","kept","labels","a","b","total","one","other"]) (k:=0) (m:=zdP) X G h fun _ _ _ _ _ _ _ hr nd=>(zae (zhO 2 (zju bn.list' bn.range' (zab (zbo (zac 0) zad) zaj)) nd)
  (zae (zd3 qcU rfl (zfT (zac 1)) (zeE rfl (zaF (zav 3 nd) (zaF (zav 4 nd) (zaF (zav 5 nd) zc9))))
  (zae (zlV (zbx (zab (zap 2 (zac 3)) (zab (zap 2 (zbo (zac 4) zad)) zaj))) (zeE rfl (zaF (zav 6 nd) (zaF (zav 7 nd) zc9))))
  (zah (ss_setLC 2 [6,7] 1 ["one","other","label"] rfl (zfT (zac 2)) (fun C s H fp=>(zav 2 ndk)) (fun C s H fp=>zd0) (fun C s H fp=>(zeg (zbx (zab (zac 2) (zab (zoF rfl bn.min' (zab (zac 0) (zab (zac 1) zaj))) zaj))) (zje bn.int' (zab (se_in (zac 2) (zbx (zab (zac 0) (zab (zac 1) zaj)))) zaj)))) nd))))
  (zah (zi1 2))))
abbrev zdz:Stmt:=top 25
def zc7:ME:=
 (eAnd (eIsI "tuple" (eVar 0)) (m2 dEq (zgl 0) (eC (.int 2))))
def zcW:MO:=
 oLC [] 1 (iSeq (eVar 4)) (gN 0) zhi zc7
def zcO:ME:=
 (eVar 0)
def zcQ:MO:=
 oLC [] 2 (iSeq (eVar 4)) (gT 2 (zbd (gN 0) (zbd (gN 1) zfY))) zhi zcO
def zc6:ME:=
 (zdY zaI (zag (eVar 0) aNil))
def zcY:MO:=
 oLC [] 1 (iSeq (eVar 5)) (gN 0) zhi zc6
def zc8:MS:=
 (sPut 6 (eVar 9) (m2 dAdd (eIxV 6 (eVar 9)) (eVar 8)))
def zcP:MS:=
 sFor (iR2 (zag (m2 dIx (eIxV 1 (eVar 7)) (eC (.int 0))) (zag (m2 dAdd (m2 dIx (eIxV 1 (eVar 7)) (eC (.int 1))) (eC (.int 1))) aNil))) (gN 9) zc8
def zcR:MS:=
 zcP
def zc1:MS:=
 (sSeq (sIf (tOrM (zcx (tTru (zhI dLe dLt (eC (.int 0)) (eVar 7) (zgl 1)))) (tOrM (zcx (tTru (zdY zaI (zag (eVar 8) aNil)))) (tTru (m2 zjI (eVar 8) (eTup (zag (eC (.int 1)) (zag (m1 dNeg (eC (.int 1))) aNil)))))))
  (sRet (eC (.bl false)))
  zcd)
  zcR)
def zcN:MS:=
 sFor (iSeq (eVar 4)) (gT 2 (zbd (gN 7) (zbd (gN 8) zfY))) zc1
def zba:ME:=
 (mC dInt (zag (zhI dLe dLe (eVar 0) (eVar 2) (eVar 1)) aNil))
def zcL:MO:=
 oLC [2,3] 1 (iR1 (zag (eVar 0) aNil)) (gN 2) zhi zba
def zcS:MS:=
 (sSeq (zi7 6 (oRep (eFz (oLst (zag (eC (.int 0)) aNil))) (eVar 0)))
  (sSeq zcN
  (sRet (m2 dEq (eVar 6) (eFz zcL)))))
def zc0:MS:=
 (sSeq (sSet 5 (eFz zcQ))
  (sSeq (sIf (tOrM (tTru (m2 dNe (eVar 5) (eFz (oSrtS (eVar 5))))) (zcx (tTru (mC (dAll fun bs => bs.all id) (zag (eFz zcY) aNil)))))
  (sRet (eC (.bl false)))
  zcd)
  zcS))
def zct:MS:=
 (sSeq (sIf (tOrM (zcx (tTru (eIsI "list" (eVar 4)))) (zcx (tTru (mC (dAll fun bs => bs.all id) (zag (eFz zcW) aNil)))))
  (sRet (eC (.bl false)))
  zcd)
  zc0)
def zaN:List D->Option Sl:=fP 10 zct
theorem zgj (zaw:FD P w K mg base 1 "_law_whole" (spP K 1 zaI))(h:FnAt K "_law_are_signs" zdz):FD P w K mg base 2 "_law_are_signs" (spP K 5 zaN):=
 fdP (N:=["many","kept","a","b","signs","numbers","counts","number","sign","place"]) (k:=1) (m:=zct) X G h fun _ _ _ _ _ _ _ hr nd=>(zae (zb4 (STw.st (zgX (zbB (zaT (zib "list" bn.isinstance' bn.list' (by decide+kernel) (zac 4)))) (zgt (zbB (zaT (se_all rfl bn.all' (zab (SO.se (zkr [] 1 ["pair"] rfl (zfT (zac 4)) (fun C s H fp=>(zav 0 ndk)) (fun C s H fp=>zd0) (fun C s H fp=>(zhj (zib "tuple" bn.isinstance' bn.tuple' (by decide+kernel) (zac 0)) (zin (ziN hr.units (zdh 0 bn.len') zad)))))) zaj)))))))
  (zah (zaS zef))
  zaP)
  (zae (zm1 5 [] 2 ["number", "sign"] rfl (zfT (zac 4)) (fun C s H fp => (zeE rfl (zaF (zav 0 ndk) (zaF (zav 1 ndk) zc9)))) (fun C s H fp => zd0) (fun C s H fp => (zac 0)) nd)
  (zae (zb4 (STw.st (zgX (zmB hr.units (zac 5) (SO.se (zmi rfl bn.sorted' bn.set' (zac 5)))) (zgt (zbB (zaT (se_all rfl bn.all' (zab (SO.se (zkr [] 1 ["number"] rfl (zfT (zac 5)) (fun C s H fp => (zav 0 ndk)) (fun C s H fp => zd0) (fun C s H fp => (zbn zaw hr (zab (zac 0) zaj) (hlen := (zai zat)))))) zaj)))))))
  (zah (zaS zef))
  zaP)
  (zae (zhO 6 (so_rep (SO.se (zec (zab zad zaj))) (zac 0)) nd)
  (zae (zd3 qcU rfl (zfT (zac 4)) (zeE rfl (zaF (zav 7 nd) (zaF (zav 8 nd) zc9)))
  (zae (zb4 (STw.st (zgX (zbB (st_chain zkq op_lt zd4 zd4 zjv zad (zac 7) (zdh 1 bn.len'))) (zgX (zbB (zaT (zbn zaw hr (zab (zac 8) zaj) (hlen := (zai zat))))) (zgt (st_notIn (zac 8) (zbx (zab zad (zab (zho zad) zaj))))))))
  (zah (zaS zef))
  zaP)
  (zah (zd3 qcU rfl (zo7 bn.range' (zab (zeg (zap 1 (zac 7)) zad) (zab (zbo (zeg (zap 1 (zac 7)) zad) zad) zaj))) (zav 9 nd)
  (zah (ss_put 6 (zbo (zap 6 (zac 9)) (zac 8)) (zac 9)))))))
  (zah (zaS (ziN hr.units (zac 6) (SO.se (zkr [2,3] 1 ["a","b","place"] rfl (zb2 bn.range' (zab (zac 0) zaj)) (fun C s H fp=>(zav 2 ndk)) (fun C s H fp=>zd0) (fun C s H fp=>(zje bn.int' (zab (se_chain zkq zkq zd4 zd4 (zac 0) (zac 2) (zac 1)) zaj)))))))))))))
abbrev zfA:Stmt:=top 26
def zeA:ME:=
 (m2 dMul (eVar 2) (m2 dIx (eIxV 0 (eVar 1)) (eC (.int 2))))
def zev:MO:=
 oLC [0] 2 (iSeq (eVar 1)) (gT 2 (zbd (gN 1) (zbd (gN 2) zfY))) zhi zeA
def zen:MS:=
 (sRet (mC dSum (zag (eFz zev) aNil)))
def zbu:List D->Option Sl:=fP 2 zen
theorem ziR (h:FnAt K "_law_total" zfA):FD P w K mg base 1 "_law_total" (spP K 2 zbu):=
 fdP (N:=["kept","signs"]) (k:=0) (m:=zen) X G h fun _ _ _ _ _ _ _ hr nd=>(zah (zaS (zj7 rfl bn.sum' (zab (SO.se (zkr [0] 2 ["kept","number","sign"] rfl (zfT (zac 1)) (fun C s H fp=>(zeE rfl (zaF (zav 1 ndk) (zaF (zav 2 ndk) zc9)))) (fun C s H fp=>zd0) (fun C s H fp=>(zfO (zac 2) (zeg (zap 0 (zac 1)) zad))))) zaj))))
abbrev zde:Stmt:=top 27
def zbJ:MS:=
 (sRet (m2 dEq (eIxV 5 (eC (.int 0))) (m2 dIx (eTup (zag (eC (.str "clash")) (zag (eC (.str "known")) aNil))) (mC dInt (zag (m2 dEq (za1 (ze8 zbu) [none,none] [1] (ziV 1 (hVal (eIxV 5 (eC (.int 1))) hNil))) (eVar 4)) aNil)))))
def zbE:MS:=
 (sSeq (sIf (zcx (tTru (za1 (ze8 zaN) [none, none, none, none, none] [1] (hVal (eVar 0) (ziV 1 (hVal (eVar 2) (hVal (eVar 3) (hVal (eIxV 5 (eC (.int 1))) hNil))))))))
  (sRet (eC (.bl false)))
  zcd)
  zbJ)
def zbD:MS:=
 (sSeq (sIf (tTru (m2 dNe (eIxV 6 (eVar 2)) (eIxV 6 (m2 dAdd (eVar 3) (eC (.int 1))))))
  (sSeq (sApp 1 (eTup (zag (eVar 2) (zag (eVar 3) (zag (eVar 4) aNil)))))
  (sRet (eAnd (m2 dEq (eVar 5) (eTup (zag (eC (.str "new")) (zag (m2 dSub (zgl 1) (eC (.int 1))) aNil)))) (zdY zaI (zag (eIxV 5 (eC (.int 1))) aNil)))))
  zcd)
  zbE)
def zbz:MS:=
 (sSeq (sSet 6 (za1 (ze8 zaU) [none, none] [1] (hVal (eVar 0) (ziV 1 hNil))))
  (sSeq (sIf (tOrM (zcx (tTru (eIsI "tuple" (eVar 5)))) (tTru (m2 dNe (zgl 5) (eC (.int 2)))))
  (sRet (eC (.bl false)))
  zcd)
  zbD))
def zaK:R->Option (Sl×R):=fG 7 zbz
theorem zfC (zaV:FD P w K mg base 2 "_law_are_signs" (spP K 5 zaN))(zaL:FD P w K mg base 1 "_law_labels" (spP K 2 zaU))(zbA:FD P w K mg base 1 "_law_total" (spP K 2 zbu))(zaw:FD P w K mg base 1 "_law_whole" (spP K 1 zaI))(h:FnAt K "_law_told_right" zde):FD P w K mg base 3 "_law_told_right" (spG K 6 zaK):=
 fdG (N:=["many","kept","a","b","total","told","labels"]) (k:=2) (m:=zbz) X G h fun _ _ _ _ _ _ _ hr nd=>(zae (zbe 6 (zbb zaL (fun _ _ _ _=>zgZ) zca hr (zas (zac 0) (zf4 1 zbC))) nd)
  (zae (zb4 (STw.st (zgX (zbB (zaT (zib "tuple" bn.isinstance' bn.tuple' (by decide +kernel) (zac 5)))) (zgt (zmB hr.units (zdh 5 bn.len') zad))))
  (zah (zaS zef))
  zaP)
  (zae (zb4 (zmB hr.units (zap 6 (zac 2)) (zap 6 (zbo (zac 3) zad)))
  (zae (ss_app 1 (zbx (zab (zac 2) (zab (zac 3) (zab (zac 4) zaj)))))
  (zah (zaS (zhj (ziN hr.units (zac 5) (zbx (zab ze1 (zab (zgz (zdh 1 bn.len') zad) zaj)))) (zin (zbn zaw hr (zab (zap 5 zad) zaj) (hlen:=(zai zat))))))))
  zaP)
  (zae (zb4 (zbB (zaT (zbb zaV (fun _ _ _ _ => zgZ) zca hr (zas (zac 0) (zf4 1 (zas (zac 2) (zas (zac 3) (zas (zap 5 zad) zbC))))))))
  (zah (zaS zef))
  zaP)
  (zah (zaS (ziN hr.units (zap 5 zad) (zeg (zbx (zab ze1 (zab ze1 zaj))) (zje bn.int' (zab (ziN hr.units (zbb zbA (fun _ _ _ _=>zgZ) zca hr (zf4 1 (zas (zap 5 zad) zbC))) (zac 4)) zaj))))))))))
abbrev zcK:Stmt:=top 28
def zbw:MS:=
 (sRet (eAnd (zdY zaN (zag (eVar 0) (zag (eVar 1) (zag (eVar 2) (zag (eVar 3) (zag (eIxV 4 (eC (.int 2))) aNil)))))) (m2 dEq (eIxV 4 (eC (.int 1))) (zdY zbu (zag (eVar 1) (zag (eIxV 4 (eC (.int 2))) aNil))))))
def zbv:MS:=
 (sSeq (sIf (tOrM (zcx (tTru (eIsI "tuple" (eVar 4)))) (tOrM (tTru (m2 dNe (zgl 4) (eC (.int 3)))) (tOrM (tTru (m2 dNe (eIxV 4 (eC (.int 0))) (eC (.str "sum")))) (zcx (tTru (zdY zaI (zag (eIxV 4 (eC (.int 1))) aNil)))))))
  (sRet (eC (.bl false)))
  zcd)
  zbw)
def zbj:MS:=
 (sSeq (sSet 5 (zdY zaU (zag (eVar 0) (zag (eVar 1) aNil))))
  (sSeq (sIf (tTru (m2 dNe (eIxV 5 (eVar 2)) (eIxV 5 (m2 dAdd (eVar 3) (eC (.int 1))))))
  (sRet (m2 dEq (eVar 4) (eTup (zag (eC (.str "free")) (zag (eC .non) aNil)))))
  zcd)
  zbv))
def zaE:List D->Option Sl:=fP 6 zbj
theorem zfh (zaV:FD P w K mg base 2 "_law_are_signs" (spP K 5 zaN))(zaL:FD P w K mg base 1 "_law_labels" (spP K 2 zaU))(zbA:FD P w K mg base 1 "_law_total" (spP K 2 zbu))(zaw:FD P w K mg base 1 "_law_whole" (spP K 1 zaI))(h:FnAt K "_law_asked_right" zcK):FD P w K mg base 3 "_law_asked_right" (spP K 5 zaE):=
 fdP (N:=["many","kept","a","b","told","labels"]) (k:=2) (m:=zbj) X G h fun _ _ _ _ _ _ _ hr nd=>(zae (zbe 5 (zbn zaL hr (zab (zac 0) (zab (zac 1) zaj)) (hlen:=(zai (zai zat)))) nd)
  (zae (zb4 (zmB hr.units (zap 5 (zac 2)) (zap 5 (zbo (zac 3) zad)))
  (zah (zaS (ziN hr.units (zac 4) (zbx (zab ze1 (zab zjn zaj))))))
  zaP)
  (zae (zb4 (STw.st (zgX (zbB (zaT (zib "tuple" bn.isinstance' bn.tuple' (by decide +kernel) (zac 4)))) (zgX (zmB hr.units (zdh 4 bn.len') zad) (zgX (zmB hr.units (zap 4 zad) ze1) (zgt (zbB (zaT (zbn zaw hr (zab (zap 4 zad) zaj) (hlen := (zai zat))))))))))
  (zah (zaS zef))
  zaP)
  (zah (zaS (zhj (zbn zaV hr (zab (zac 0) (zab (zac 1) (zab (zac 2) (zab (zac 3) (zab (zap 4 zad) zaj))))) (hlen:=(zai (zai (zai (zai (zai zat))))))) (zin (ziN hr.units (zap 4 zad) (zbn zbA hr (zab (zac 1) (zab (zap 4 zad) zaj)) (hlen:=(zai (zai zat))))))))))))
abbrev zcv:Stmt:=top 29
def zb6:MS:=
 (sSet 4 (m2 dAdd (eVar 4) (m2 dCntI (eCut (eVar 3) pNo (zkI (eVar 5))) (eIxV 3 (eVar 5)))))
def zb5:MS:=
 sFor (iR1 (zag (m2 dAdd (eVar 1) (eC (.int 1))) aNil)) (gN 5) zb6
def zbR:MS:=
 (sSeq (sSet 3 (zdY zaU (zag (eVar 1) (zag (eVar 2) aNil))))
  (sSeq (sSet 4 (eC (.int 0)))
  (sSeq zb5
  (sSeq (sSet 6 (eTup (zag (za1 zdy [some 0] [] (zda 0 hNil)) (zag (za1 zci [some 0] [] (zda 0 hNil)) aNil))))
  (sRet (eAnd (m2 dEq (eVar 6) (eTup (zag (m2 dSub (eVar 1) (zgl 2)) (zag (eVar 4) aNil)))) (eAnd (zdY zaI (zag (eIxV 6 (eC (.int 0))) aNil)) (zdY zaI (zag (eIxV 6 (eC (.int 1))) aNil)))))))))
def zaW:R->Option (Sl×R):=fG 7 zbR
theorem zeT (zaL:FD P w K mg base 1 "_law_labels" (spP K 2 zaU))(zaw:FD P w K mg base 1 "_law_whole" (spP K 1 zaI))(md_can_come:MD P w K mg base 1 "can_come" (spG K 1 zdy))(md_known_many:MD P w K mg base 2 "known_many" (spG K 1 zci))(h:FnAt K "_law_counts_right" zcv):FD P w K mg base 3 "_law_counts_right" (spG K 3 zaW):=
 fdG (N:=["book","many","kept","labels","known","other","found"]) (k:=2) (m:=zbR) X G h fun _ _ _ _ _ _ _ hr nd=>(zae (zbe 3 (zbn zaL hr (zab (zac 1) (zab (zac 2) zaj)) (hlen:=(zai (zai zat)))) nd)
  (zae (zbe 4 zad nd)
  (zae (zd3 qcU rfl (zb2 bn.range' (zab (zbo (zac 1) zad) zaj)) (zav 5 nd)
  (zah (zbe 4 (zbo (zac 4) (zns (se_cut (zac 3) zoV (zhQ (zac 5))) (zap 3 (zac 5)))) nd)))
  (zae (zbe 6 (zbx (zab (zhr 0 md_can_come zbi hr) (zab (zhr 0 md_known_many zbi hr) zaj))) nd)
  (zah (zaS (zhj (ziN hr.units (zac 6) (zbx (zab (zgz (zac 1) (zdh 2 bn.len')) (zab (zac 4) zaj)))) (zhj (zbn zaw hr (zab (zap 6 zad) zaj) (hlen:=(zai zat))) (zin (zbn zaw hr (zab (zap 6 zad) zaj) (hlen:=(zai zat))))))))))))
abbrev zgD:Stmt:=top 30
def zfe:MS:=
 (sRet (m2 dAdd (eC (.int 1)) (zcF zaD 0 (zag (m2 dIx (eFz (oLst (zag (eC (.int 8)) (zag (eC (.int 24)) aNil)))) (m2 dDiv (zcF zaD 0 (zag (eC (.int 4)) aNil)) (eC (.int 3)))) aNil))))
def zcV:List D->List D->Option (Sl×List D):=fM 1 zfe
theorem zjC (zau:FD P w K mg base 1 "_law_take" (spM K 2 zaD))(h:FnAt K "_law_many" zgD):FD P w K mg base 2 "_law_many" (spM K 1 zcV):=
 fdM (N:=["pot"]) (k:=1) (m:=zfe) X G h fun _ _ _ _ _ _ _ hr nd=>(zah (zaS (zbo zad (zbM 0 zau hr (zab (zeg (SO.se (zec (zab zad (zab zad zaj)))) (zm4 (zbM 0 zau hr (zab zad zaj) (zgG (zai zat))) zad)) zaj) (zgG (zai zat))))))
abbrev zem:Stmt:=top 31
def zdg:MS:=
 (sSeq (sSet 2 (zcF zaD 0 (zag (eVar 1) aNil)))
  (sRet (eTup (zag (eVar 2) (zag (m2 dAdd (eVar 2) (zcF zaD 0 (zag (m2 dIx (eFz (oLst (zag (m2 dSub (eVar 1) (eVar 2)) (zag (mC (d2I min2) (zag (m2 dSub (eVar 1) (eVar 2)) (zag (eC (.int 4)) aNil))) aNil)))) (zcF zaD 0 (zag (eC (.int 2)) aNil))) aNil))) aNil)))))
def za0:List D->List D->Option (Sl×List D):=fM 3 zdg
theorem zg6 (zau:FD P w K mg base 1 "_law_take" (spM K 2 zaD))(h:FnAt K "_law_stretch" zem):FD P w K mg base 2 "_law_stretch" (spM K 2 za0):=
 fdM (N:=["pot","many","a"]) (k:=1) (m:=zdg) X G h fun _ _ _ _ _ _ _ hr nd=>(zae (zbe 2 (zbM 0 zau hr (zab (zac 1) zaj) (zgG (zai zat))) nd)
  (zah (zaS (zbx (zab (zac 2) (zab (zbo (zac 2) (zbM 0 zau hr (zab (zeg (SO.se (zec (zab (zgz (zac 1) (zac 2)) (zab (zoF rfl bn.min' (zab (zgz (zac 1) (zac 2)) (zab zad zaj))) zaj)))) (zbM 0 zau hr (zab zad zaj) (zgG (zai zat)))) zaj) (zgG (zai zat)))) zaj))))))
abbrev zft:Stmt:=top 32
def zcE:MS:=
 (sIf (tTru (m2 dEq (eVar 1) (eC (.int 0))))
  (sSet 4 (za1 zdI [some 0,none,none,none] [] (zda 0 (hVal (eVar 2) (hVal (eVar 3) (hVal (eC (.int 7)) hNil))))))
  (sIf (tTru (m2 dEq (eVar 1) (eC (.int 1))))
  (sSet 4 (za1 zcJ [some 0,none,none] [] (zda 0 (hVal (eVar 2) (hVal (eVar 3) hNil)))))
  (sSet 4 (za1 zc3 [some 0] [] (zda 0 hNil)))))
def zbs:MXG:=
 (zk6 (tTru (m2 dEq (eVar 1) (eC (.int 0)))) (zfq zdC [some 0,none,none,none] (zda 0 (hVal (eVar 2) (hVal (eVar 3) (hVal (eC (.int 7)) hNil))))) (zk6 (tTru (m2 dEq (eVar 1) (eC (.int 1)))) (zfq zfL [some 0,none,none] (zda 0 (hVal (eVar 2) (hVal (eVar 3) hNil)))) (zfq zcU [some 0] (zda 0 hNil))))
def za3:MS:=
 (zkC 4)
def zbV:MS:=
 (sSeq (sSet 4 (eC .non))
  (sSeq (zkk zcE zbs ["NoPlace", "NoPast"] 4 5)
  za3))
def zax:R->Option (Sl×R):=fG 6 zbV
theorem ziK (md_ask_sum:MD P w K mg base 3 "ask_sum" (spG K 3 zcJ))(md_take_back:MD P w K mg base 1 "take_back" (spG K 1 zc3))(md_tell_sum:MD P w K mg base 3 "tell_sum" (spG K 4 zdI))(mdx_ask_sum:MDX P w K mg base 2 "ask_sum" (spGX K 3 zfL))(mdx_take_back:MDX P w K mg base 1 "take_back" (spGX K 1 zcU))(mdx_tell_sum:MDX P w K mg base 2 "tell_sum" (spGX K 4 zdC))(h:FnAt K "_law_heard" zft):FD P w K mg base 4 "_law_heard" (spG K 4 zax):=
 fdG (N:=["book","way","a","b","told","e"]) (k:=3) (m:=zbV) X G h fun _ _ _ _ _ _ _ hr nd=>(zae (zbe 4 zjn nd)
  (zae (ss_tryG 4 5 ⟨rfl, rfl, rfl⟩ (fun pins => (zah (zb4 (zjM hr.units (zac 1) zad)
  (zah (zbe 4 (zfv 0 md_tell_sum zbi hr (zas (zac 2) (zas (zac 3) (zas zad zbC)))) nd))
  (zah (zb4 (zjM hr.units (zac 1) zad)
  (zah (zbe 4 (zfv 0 md_ask_sum zbi hr (zas (zac 2) (zas (zac 3) zbC))) nd))
  (zah (zbe 4 (zhr 0 md_take_back zbi hr) nd))))))) (fun pins F S E hx=>(zbq (zoi (zjM hr.units (zac 1) zad) (zbq (zkp 4 (zgN 0 mdx_tell_sum zfp hx hr (zas (zac 2) (zas (zac 3) (zas zad zbC)))) nd)) (zbq (zoi (zjM hr.units (zac 1) zad) (zbq (zkp 4 (zgN 0 mdx_ask_sum zfp hx hr (zas (zac 2) (zas (zac 3) zbC))) nd)) (zbq (zkp 4 (znE 0 mdx_take_back zfp hx hr) nd))))))) bn.t_SumError nd)
  (zah (zi1 4))))
abbrev zg3:Stmt:=top 33
def zf7:MS:=
 (sSeq (sSet 2 (m2 dSub (m2 dPow (eC (.int 10)) (eC (.int 59))) (zcF zaD 0 (zag (m2 dPow (eC (.int 10)) (eC (.int 9))) aNil))))
  (sSeq (sSet 3 (eFz (oLst (zag (eTup (zag (m1 dNeg (eC (.int 1))) (zag (eC (.int 0)) aNil))) (zag (eTup (zag (eC (.int 0)) (zag (eVar 1) aNil))) (zag (eTup (zag (eVar 1) (zag (eVar 1) aNil))) (zag (eTup (zag (eC (.int 1)) (zag (eC (.int 0)) aNil))) (zag (eTup (zag (m1 dNeg (eC (.int 1))) (zag (eVar 1) aNil))) (zag (eTup (zag (eVar 2) (zag (eVar 2) aNil))) (zag (eTup (zag (m1 dNeg (eVar 2)) (zag (eVar 2) aNil))) (zag (eTup (zag (eC (.int 0)) (zag (eVar 2) aNil))) (zag (eTup (zag (m1 dNeg (eC (.int 2))) (zag (m1 dNeg (eC (.int 1))) aNil))) aNil))))))))))))
  (sRet (eIxV 3 (zcF zaD 0 (zag (zgl 3) aNil))))))
def zdB:List D->List D->Option (Sl×List D):=fM 4 zf7
theorem zkE (zau:FD P w K mg base 1 "_law_take" (spM K 2 zaD))(h:FnAt K "_law_odd" zg3):FD P w K mg base 2 "_law_odd" (spM K 2 zdB):=
 fdM (N:=["pot","many","far","some"]) (k:=1) (m:=zf7) X G h fun _ _ _ _ _ _ _ hr nd=>(zae (zbe 2 (zgz (zgB zad zad) (zbM 0 zau hr (zab (zgB zad zad) zaj) (zgG (zai zat)))) nd)
  (zae (zbe 3 (SO.se (zec (zab (zbx (zab (zho zad) (zab zad zaj))) (zab (zbx (zab zad (zab (zac 1) zaj))) (zab (zbx (zab (zac 1) (zab (zac 1) zaj))) (zab (zbx (zab zad (zab zad zaj))) (zab (zbx (zab (zho zad) (zab (zac 1) zaj))) (zab (zbx (zab (zac 2) (zab (zac 2) zaj))) (zab (zbx (zab (zho (zac 2)) (zab (zac 2) zaj))) (zab (zbx (zab zad (zab (zac 2) zaj))) (zab (zbx (zab (zho zad) (zab (zho zad) zaj))) zaj))))))))))) nd)
  (zah (zaS (zap 3 (zbM 0 zau hr (zab (zdh 3 bn.len') zaj) (zgG (zai zat))))))))
abbrev zeY:Stmt:=top 34
def zd7:MS:=
 (sSeq (sAsg (zcF za0 0 (zag (eVar 2) aNil)) (gT 2 (zbd (gN 5) (zbd (gN 6) zfY))))
  (sIf (zcx (tTru (zdY zaE (zag (eVar 2) (zag (eVar 3) (zag (eVar 5) (zag (eVar 6) (zag (za1 zcJ [some 1, none, none] [] (zda 1 (hVal (eVar 5) (hVal (eVar 6) hNil)))) aNil))))))))
  (sRet (eC (.bl false)))
  zcd))
def zd1:MS:=
 sFor (iR1 (zag (eC (.int 3)) aNil)) (gN 4) zd7
def zd9:MS:=
 (sSeq zd1
  (sRet (eC (.bl true))))
def zdK:MS:=
 (sSeq (sIf (zcx (tTru (za1 zaW [some 1, none, none] [] (zeU 1 (hVal (eVar 2) (hVal (eVar 3) hNil))))))
  (sRet (eC (.bl false)))
  zcd)
  zd9)
def zbc:R->Option (Sl×R):=fG 7 zdK
theorem zh3 (zbT:FD P w K mg base 3 "_law_asked_right" (spP K 5 zaE))(zbH:FD P w K mg base 3 "_law_counts_right" (spG K 3 zaW))(za4:FD P w K mg base 2 "_law_stretch" (spM K 2 za0))(md_ask_sum:MD P w K mg base 3 "ask_sum" (spG K 3 zcJ))(h:FnAt K "_law_stands" zeY):FD P w K mg base 4 "_law_stands" (spG K 4 zbc):=
 fdG (N:=["pot","book","many","kept","turn","a","b"]) (k:=3) (m:=zdK) X G h fun _ _ _ _ _ _ _ hr nd=>(zae (zb4 (zbB (zaT (zbb zbH (fun _ _ _ _ h=>h) zbi hr (zb8 1 (zas (zac 2) (zas (zac 3) zbC))))))
  (zah (zaS zef))
  zaP)
  (zae (zd3 qcU rfl (zb2 bn.range' (zab zad zaj)) (zav 4 nd)
  (zae (zlV (zbM 0 za4 hr (zab (zac 2) zaj) (zgG (zai zat))) (zeE rfl (zaF (zav 5 nd) (zaF (zav 6 nd) zc9))))
  (zah (zb4 (zbB (zaT (zbn zbT hr (zab (zac 2) (zab (zac 3) (zab (zac 5) (zab (zac 6) (zab (zfv 1 md_ask_sum zbi hr (zas (zac 5) (zas (zac 6) zbC))) zaj))))) (hlen := (zai (zai (zai (zai (zai zat)))))))))
  (zah (zaS zef))
  zaP))))
  (zah (zaS zef))))
abbrev zj0:Stmt:=top 35
def zlt:MS:=
 (sIf (zcx (tTru (zdY zaY (zag (za1 zax [some 4, none, none, none] [] (zeU 4 (hVal (eVar 9) (hVal (eVar 7) (hVal (eVar 8) hNil))))) (zag (eC (.int 4)) aNil)))))
  (sRet (eC (.bl false)))
  zcd)
def zlL:MS:=
 sFor (iR1 (zag (eC (.int 2)) aNil)) (gN 9) zlt
def zlp:MS:=
 (sSeq (sAsg (zcF za0 2 (zag (eVar 3) aNil)) (gT 2 (zbd (gN 7) (zbd (gN 8) zfY))))
  (sIf (zcx (tTru (za1 zaK [none, some 5, none, none, none, none] [] (hVal (eVar 3) (zeU 5 (hVal (eVar 7) (hVal (eVar 8) (hVal (eC (.int 7)) (hVal (za1 zax [some 4, none, none, none] [] (zeU 4 (hVal (eC (.int 0)) (hVal (eVar 7) (hVal (eVar 8) hNil))))) hNil)))))))))
  (sRet (eC (.bl false)))
  zcd))
def zly:MS:=
 (sSeq (sAsg (zcF zdB 2 (zag (eVar 3) aNil)) (gT 2 (zbd (gN 7) (zbd (gN 8) zfY))))
  (sSeq zlL
  (sSeq (sIf (zcx (tTru (za1 zbc [some 2, some 4, none, none] [5] (zeU 2 (zeU 4 (hVal (eVar 3) (ziV 5 hNil)))))))
  (sRet (eC (.bl false)))
  zcd)
  zlp)))
def zlm:MS:=
 sFor (iR1 (zag (m2 dAdd (eC (.int 2)) (zcF zaD 2 (zag (eC (.int 11)) aNil))) aNil)) (gN 6) zly
def zmd:MS:=
 (sSeq (znb (ePop0 5))
  (sIf (tOrM (tTru (m2 zkV (za1 zax [some 4, none, none, none] [] (zeU 4 (hVal (eC (.int 2)) (hVal (eC (.int 0)) (hVal (eC (.int 0)) hNil))))) (eC .non))) (zcx (tTru (za1 zbc [some 2, some 4, none, none] [5] (zeU 2 (zeU 4 (hVal (eVar 3) (ziV 5 hNil))))))))
  (sRet (eC (.bl false)))
  zcd))
def zl6:MS:=
 sFor (iR1 (zag (zgl 5) aNil)) (gN 6) zmd
def zlY:MS:=
 (sSeq zlm
  (sSeq zl6
  (sIf (tOrM (zcx (tTru (zdY zaY (zag (za1 zax [some 4, none, none, none] [] (zeU 4 (hVal (eC (.int 2)) (hVal (eC (.int 0)) (hVal (eC (.int 0)) hNil))))) (zag (eC (.int 3)) aNil))))) (zcx (tTru (za1 zbc [some 2, some 4, none, none] [5] (zeU 2 (zeU 4 (hVal (eVar 3) (ziV 5 hNil))))))))
  (sRet (eC (.bl false)))
  zcd)))
def zlX:MS:=
 (sSeq (zi7 2 (oCall zcT (zag (zdY zdE (zag (eVar 0) aNil)) (zag (eVar 1) aNil))))
  (sSeq (sSet 3 (zcF zcV 2 aNil))
  (sSeq (sBkM 4 (eVar 3))
  (sSeq (zi7 5 (oLst aNil))
  (sSeq (sIf (zcx (tTru (zdY zaY (zag (za1 zax [some 4, none, none, none] [] (zeU 4 (hVal (eC (.int 2)) (hVal (eC (.int 0)) (hVal (eC (.int 0)) hNil))))) (zag (eC (.int 3)) aNil)))))
  (sRet (eC (.bl false)))
  zcd)
  zlY)))))
def zlK:MS:=
 sFor (iR1 (zag (eC (.int 2)) aNil)) (gN 1) zlX
def m_law:MS:=
 (sSeq zlK
  (sRet (eC (.bl true))))
def zjT:List D->Option Sl:=fP 10 m_law
theorem ok_law (bm:BkM P w K mg base 1)(zbZ:FD P w K mg base 1 "_law_alone" (spP K 2 zaY))(zej:FD P w K mg base 1 "_law_deal" (spP K 2 zcT))(za7:FD P w K mg base 4 "_law_heard" (spG K 4 zax))(zeo:FD P w K mg base 2 "_law_many" (spM K 1 zcV))(zfd:FD P w K mg base 2 "_law_odd" (spM K 2 zdB))(zbL:FD P w K mg base 4 "_law_stands" (spG K 4 zbc))(za4:FD P w K mg base 2 "_law_stretch" (spM K 2 za0))(zau:FD P w K mg base 1 "_law_take" (spM K 2 zaD))(zb0:FD P w K mg base 3 "_law_told_right" (spG K 6 zaK))(ze9:FD P w K mg base 1 "_law_two" (spP K 1 zdE))(F:Fun K "law" "law" zj0 f fd):FnOk P w K mg base CX0 5 f fd ["script"] (spP K 1 zjT):=
 lawP (N:=["script","k","pot","many","book","kept","turn","a","b","way"]) (k:=4) (n:=1) (m:=m_law) F fun _ _ _ _ _ _ _ hr nd=>(zae (zd3 qcU rfl (zb2 bn.range' (zab zad zaj)) (zav 1 nd)
  (zae (zhO 2 (so_call zej hr (zab (zbn ze9 hr (zab (zac 0) zaj) (hlen := (zai zat))) (zab (zac 1) zaj)) (hlen := (zai (zai zat)))) nd)
  (zae (zbe 3 (zbM 2 zeo hr zaj (zgG zat)) nd)
  (zae (ss_bkM 4 bm hr (zac 3) nd)
  (zae (zhO 5 (zec zaj) nd)
  (zae (zb4 (zbB (zaT (zbn zbZ hr (zab (zbb za7 (fun _ _ _ _ h => h) zbi hr (zb8 4 (zas zad (zas zad (zas zad zbC))))) (zab zad zaj)) (hlen := (zai (zai zat))))))
  (zah (zaS zef))
  zaP)
  (zae (zd3 qcU rfl (zb2 bn.range' (zab (zbo zad (zbM 2 zau hr (zab zad zaj) (zgG (zai zat)))) zaj)) (zav 6 nd)
  (zae (zlV (zbM 2 zfd hr (zab (zac 3) zaj) (zgG (zai zat))) (zeE rfl (zaF (zav 7 nd) (zaF (zav 8 nd) zc9))))
  (zae (zd3 qcU rfl (zb2 bn.range' (zab zad zaj)) (zav 9 nd)
  (zah (zb4 (zbB (zaT (zbn zbZ hr (zab (zbb za7 (fun _ _ _ _ h => h) zbi hr (zb8 4 (zas (zac 9) (zas (zac 7) (zas (zac 8) zbC))))) (zab zad zaj)) (hlen := (zai (zai zat))))))
  (zah (zaS zef))
  zaP)))
  (zae (zb4 (zbB (zaT (zbb zbL (fun _ _ _ _ h => h) zbi hr (zb8 2 (zb8 4 (zas (zac 3) (zf4 5 zbC)))))))
  (zah (zaS zef))
  zaP)
  (zae (zlV (zbM 2 za4 hr (zab (zac 3) zaj) (zgG (zai zat))) (zeE rfl (zaF (zav 7 nd) (zaF (zav 8 nd) zc9))))
  (zah (zb4 (zbB (zaT (zbb zb0 (fun _ _ _ _ h => h) zbi hr (zas (zac 3) (zb8 5 (zas (zac 7) (zas (zac 8) (zas zad (zas (zbb za7 (fun _ _ _ _ h => h) zbi hr (zb8 4 (zas zad (zas (zac 7) (zas (zac 8) zbC))))) zbC)))))))))
  (zah (zaS zef))
  zaP)))))))
  (zae (zd3 qcU rfl (zb2 bn.range' (zab (zdh 5 bn.len') zaj)) (zav 6 nd)
  (zae (zkw (se_pop0 5))
  (zah (zb4 (STw.st (zgX (st_isNot (zbb za7 (fun _ _ _ _ h => h) zbi hr (zb8 4 (zas zad (zas zad (zas zad zbC))))) zjn) (zgt (zbB (zaT (zbb zbL (fun _ _ _ _ h => h) zbi hr (zb8 2 (zb8 4 (zas (zac 3) (zf4 5 zbC))))))))))
  (zah (zaS zef))
  zaP))))
  (zah (zb4 (STw.st (zgX (zbB (zaT (zbn zbZ hr (zab (zbb za7 (fun _ _ _ _ h => h) zbi hr (zb8 4 (zas zad (zas zad (zas zad zbC))))) (zab zad zaj)) (hlen := (zai (zai zat)))))) (zgt (zbB (zaT (zbb zbL (fun _ _ _ _ h => h) zbi hr (zb8 2 (zb8 4 (zas (zac 3) (zf4 5 zbC))))))))))
  (zah (zaS zef))
  zaP))))))))))
  (zah (zaS zef)))
end
set_option maxHeartbeats 0 in
theorem all_mk {l:W.OpenLaw}{w:World}{K:W.Frag}{h:Heap}{mg:Str->Option Value}{fa:Addr}(X:K.In h)(G:h.Ns mainGlobals mg)(hfa:mg "law"=some (.ref fa))
  (h1:FnAt K "joined" zkf)
  (h2:FnAt K "ways_from" zgE)
  (h3:FnAt K "signs_for" zgw)
  (h4:FnAt K "signs_total" ze2)
  (h11:FnAt K "_law_deal" zgx)
  (h12:FnAt K "_law_take" zgr)
  (h13:FnAt K "_law_whole" zfy)
  (h14:FnAt K "_law_alone" zfS)
  (h15:FnAt K "_law_two" zg9)
  (h16:FnAt K "_law_labels" ze6)
  (h17:FnAt K "_law_are_signs" zdz)
  (h18:FnAt K "_law_total" zfA)
  (h19:FnAt K "_law_told_right" zde)
  (h20:FnAt K "_law_asked_right" zcK)
  (h21:FnAt K "_law_counts_right" zcv)
  (h22:FnAt K "_law_many" zgD)
  (h23:FnAt K "_law_stretch" zem)
  (h24:FnAt K "_law_heard" zft)
  (h25:FnAt K "_law_odd" zg3)
  (h26:FnAt K "_law_stands" zeY)
  (h27:FnAt K "law" zj0)
  {C:Addr} (aC:W.nsIn K mainGlobals "SumBook"=some (some (.ref C))) (pg:W.plainGet K C Str.empty=true) (hd:W.hasDictIn K C=true) (po:W.plainOver K C=true) (sa:W.findIn K (.ref C) "__setattr__"=some (some (.builtin "object.__setattr__"))) (mkC:W.makesIn K C=true) (kc:W.keepIn K (.ref C)=true) (nK:W.findIn K (.ref C) "kept"=some none) (nM:W.findIn K (.ref C) "many"=some none) {finit:Addr} {odinit aninit:Option Addr} {slinit:Array (Option Value)} {ocinit kVinit dcinit pminit cdinit ctinit:Value} (ainit:W.findIn K (.ref C) "__init__"=some (some (.ref finit))) (iinit:W.isFn K (.ref finit)=true) (linit:K.lookup finit=some ⟨ocinit,odinit,.func (W.fnOf "__init__" "SumBook.__init__" (zbt (zdj (top 17) 0)) (zaO (zdj (top 17) 0)) (zan (zdj (top 17) 0)) .none kVinit dcinit pminit aninit cdinit ctinit),slinit⟩) (cinit:W.codeIn K cdinit "SumBook.__init__"=true) (kinit:W.keepIn K (.ref finit)=true) {frefuse_no_stretch:Addr} {odrefuse_no_stretch anrefuse_no_stretch:Option Addr} {slrefuse_no_stretch:Array (Option Value)} {ocrefuse_no_stretch kVrefuse_no_stretch dcrefuse_no_stretch pmrefuse_no_stretch cdrefuse_no_stretch ctrefuse_no_stretch:Value} (arefuse_no_stretch:W.findIn K (.ref C) "refuse_no_stretch"=some (some (.ref frefuse_no_stretch))) (irefuse_no_stretch:W.isFn K (.ref frefuse_no_stretch)=true) (lrefuse_no_stretch:K.lookup frefuse_no_stretch=some ⟨ocrefuse_no_stretch,odrefuse_no_stretch,.func (W.fnOf "refuse_no_stretch" "SumBook.refuse_no_stretch" (zbt zaQ) (zaO zaQ) (zan zaQ) .none kVrefuse_no_stretch dcrefuse_no_stretch pmrefuse_no_stretch anrefuse_no_stretch cdrefuse_no_stretch ctrefuse_no_stretch),slrefuse_no_stretch⟩) (crefuse_no_stretch:W.codeIn K cdrefuse_no_stretch "SumBook.refuse_no_stretch"=true) (krefuse_no_stretch:W.keepIn K (.ref frefuse_no_stretch)=true) {ftell_sum:Addr} {odtell_sum antell_sum:Option Addr} {sltell_sum:Array (Option Value)} {octell_sum kVtell_sum dctell_sum pmtell_sum cdtell_sum cttell_sum:Value} (atell_sum:W.findIn K (.ref C) "tell_sum"=some (some (.ref ftell_sum))) (itell_sum:W.isFn K (.ref ftell_sum)=true) (ltell_sum:K.lookup ftell_sum=some ⟨octell_sum,odtell_sum,.func (W.fnOf "tell_sum" "SumBook.tell_sum" (zbt zcX) (zaO zcX) (zan zcX) .none kVtell_sum dctell_sum pmtell_sum antell_sum cdtell_sum cttell_sum),sltell_sum⟩) (ctell_sum:W.codeIn K cdtell_sum "SumBook.tell_sum"=true) (ktell_sum:W.keepIn K (.ref ftell_sum)=true) {fask_sum:Addr} {odask_sum anask_sum:Option Addr} {slask_sum:Array (Option Value)} {ocask_sum kVask_sum dcask_sum pmask_sum cdask_sum ctask_sum:Value} (aask_sum:W.findIn K (.ref C) "ask_sum"=some (some (.ref fask_sum))) (iask_sum:W.isFn K (.ref fask_sum)=true) (lask_sum:K.lookup fask_sum=some ⟨ocask_sum,odask_sum,.func (W.fnOf "ask_sum" "SumBook.ask_sum" (zbt zdr) (zaO zdr) (zan zdr) .none kVask_sum dcask_sum pmask_sum anask_sum cdask_sum ctask_sum),slask_sum⟩) (cask_sum:W.codeIn K cdask_sum "SumBook.ask_sum"=true) (kask_sum:W.keepIn K (.ref fask_sum)=true) {fcan_come:Addr} {odcan_come ancan_come:Option Addr} {slcan_come:Array (Option Value)} {occan_come kVcan_come dccan_come pmcan_come cdcan_come ctcan_come:Value} (acan_come:W.findIn K (.ref C) "can_come"=some (some (.ref fcan_come))) (ican_come:W.isFn K (.ref fcan_come)=true) (lcan_come:K.lookup fcan_come=some ⟨occan_come,odcan_come,.func (W.fnOf "can_come" "SumBook.can_come" (zbt zdQ) (zaO zdQ) (zan zdQ) .none kVcan_come dccan_come pmcan_come ancan_come cdcan_come ctcan_come),slcan_come⟩) (ccan_come:W.codeIn K cdcan_come "SumBook.can_come"=true) (kcan_come:W.keepIn K (.ref fcan_come)=true) {fknown_many:Addr} {odknown_many anknown_many:Option Addr} {slknown_many:Array (Option Value)} {ocknown_many kVknown_many dcknown_many pmknown_many cdknown_many ctknown_many:Value} (aknown_many:W.findIn K (.ref C) "known_many"=some (some (.ref fknown_many))) (iknown_many:W.isFn K (.ref fknown_many)=true) (lknown_many:K.lookup fknown_many=some ⟨ocknown_many,odknown_many,.func (W.fnOf "known_many" "SumBook.known_many" (zbt zcA) (zaO zcA) (zan zcA) .none kVknown_many dcknown_many pmknown_many anknown_many cdknown_many ctknown_many),slknown_many⟩) (cknown_many:W.codeIn K cdknown_many "SumBook.known_many"=true) (kknown_many:W.keepIn K (.ref fknown_many)=true) {ftake_back:Addr} {odtake_back antake_back:Option Addr} {sltake_back:Array (Option Value)} {octake_back kVtake_back dctake_back pmtake_back cdtake_back cttake_back:Value} (atake_back:W.findIn K (.ref C) "take_back"=some (some (.ref ftake_back))) (itake_back:W.isFn K (.ref ftake_back)=true) (ltake_back:K.lookup ftake_back=some ⟨octake_back,odtake_back,.func (W.fnOf "take_back" "SumBook.take_back" (zbt zch) (zaO zch) (zan zch) .none kVtake_back dctake_back pmtake_back antake_back cdtake_back cttake_back),sltake_back⟩) (ctake_back:W.codeIn K cdtake_back "SumBook.take_back"=true) (ktake_back:W.keepIn K (.ref ftake_back)=true) (z0:W.nsIn K mainGlobals "ValueError"=some none) (z1:W.nsIn K mainGlobals "all"=some none) (z2:W.nsIn K mainGlobals "bool"=some none) (z3:W.nsIn K mainGlobals "enumerate"=some none) (z4:W.nsIn K mainGlobals "int"=some none) (z5:W.nsIn K mainGlobals "isinstance"=some none) (z6:W.nsIn K mainGlobals "len"=some none) (z7:W.nsIn K mainGlobals "list"=some none) (z8:W.nsIn K mainGlobals "min"=some none) (z9:W.nsIn K mainGlobals "range"=some none) (z10:W.nsIn K mainGlobals "set"=some none) (z11:W.nsIn K mainGlobals "sorted"=some none) (z12:W.nsIn K mainGlobals "sum"=some none) (z13:W.nsIn K mainGlobals "tuple"=some none) {zam:Addr} (zaM:W.nsIn K mainGlobals "NoPlace"=some (some (.ref zam))) {zao:Addr} (zaZ:W.nsIn K mainGlobals "NoPast"=some (some (.ref zao))) {za2:Addr} (zeQ:W.nsIn K mainGlobals "SumError"=some (some (.ref za2))) {zbW:Addr} (zex:W.nsIn K mainGlobals "BadTelling"=some (some (.ref zbW))) {zf5:Addr} (zk5:W.nsIn K mainGlobals "NoFit"=some (some (.ref zf5))) {zcC:Addr} (zgh:W.nsIn K mainGlobals "NoNumber"=some (some (.ref zcC))) {zf6:Addr} (zkG:W.nsIn K mainGlobals "NoRow"=some (some (.ref zf6))) {zeG:Addr} (ziQ:W.nsIn K mainGlobals "NoText"=some (some (.ref zeG))) {zdx:Addr} (zhm:W.nsIn K mainGlobals "NotTwos"=some (some (.ref zdx))) {zeJ:Addr} (zjf:W.nsIn K mainGlobals "Unlike"=some (some (.ref zeJ))) (hsp:W.specialIn K (.builtin "object.__class__") "__get__"=some (some (.builtin "getset_descriptor.__get__"))) (htk:W.takesIn K (.builtin "object.__class__")=some true) {nm_NoPlace qn_NoPlace:Str} {N_NoPlace:Addr} {bs_NoPlace sub_NoPlace:List Value} {hd_NoPlace ab_NoPlace:Bool} {sn_NoPlace:List Str} {col_NoPlace:Option Bool} {dd_NoPlace:Option Addr} {j0_NoPlace j1_NoPlace j2_NoPlace j3_NoPlace j5_NoPlace:Option Value} (zcD:K.lookup zam=some (excClassObj nm_NoPlace qn_NoPlace zam N_NoPlace bs_NoPlace (.ref za2::bmV) hd_NoPlace sn_NoPlace sub_NoPlace ab_NoPlace col_NoPlace dd_NoPlace j0_NoPlace j1_NoPlace j2_NoPlace j3_NoPlace j5_NoPlace "ValueError.__new__")) (zgm:W.nsIn K N_NoPlace "__init__"=some none) {cN_NoPlace:Value} {dN_NoPlace:Option Addr} {es_NoPlace:List DictEntry} {ep_NoPlace:Nat} {sN_NoPlace:Array (Option Value)} (zfZ:K.lookup N_NoPlace=some ⟨cN_NoPlace,dN_NoPlace,.dict es_NoPlace.toArray ep_NoPlace,sN_NoPlace⟩) (zgb:(es_NoPlace.all fun e=>match e.key with| .str _ _=>true|_=>false)=true) {nm_NoPast qn_NoPast:Str} {N_NoPast:Addr} {bs_NoPast sub_NoPast:List Value} {hd_NoPast ab_NoPast:Bool} {sn_NoPast:List Str} {col_NoPast:Option Bool} {dd_NoPast:Option Addr} {j0_NoPast j1_NoPast j2_NoPast j3_NoPast j5_NoPast:Option Value} (zdw:K.lookup zao=some (excClassObj nm_NoPast qn_NoPast zao N_NoPast bs_NoPast (.ref za2::bmV) hd_NoPast sn_NoPast sub_NoPast ab_NoPast col_NoPast dd_NoPast j0_NoPast j1_NoPast j2_NoPast j3_NoPast j5_NoPast "ValueError.__new__")) (zhp:W.nsIn K N_NoPast "__init__"=some none) {cN_NoPast:Value} {dN_NoPast:Option Addr} {es_NoPast:List DictEntry} {ep_NoPast:Nat} {sN_NoPast:Array (Option Value)} (zg7:K.lookup N_NoPast=some ⟨cN_NoPast,dN_NoPast,.dict es_NoPast.toArray ep_NoPast,sN_NoPast⟩) (zhk:(es_NoPast.all fun e=>match e.key with| .str _ _=>true|_=>false)=true) {nm_SumError qn_SumError:Str} {N_SumError:Addr} {bs_SumError sub_SumError:List Value} {hd_SumError ab_SumError:Bool} {sn_SumError:List Str} {col_SumError:Option Bool} {dd_SumError:Option Addr} {j0_SumError j1_SumError j2_SumError j3_SumError j5_SumError:Option Value} (zbp:K.lookup za2=some (excClassObj nm_SumError qn_SumError za2 N_SumError bs_SumError bmV hd_SumError sn_SumError sub_SumError ab_SumError col_SumError dd_SumError j0_SumError j1_SumError j2_SumError j3_SumError j5_SumError "ValueError.__new__")) (zdN:W.nsIn K N_SumError "__init__"=some none) {cN_SumError:Value} {dN_SumError:Option Addr} {es_SumError:List DictEntry} {ep_SumError:Nat} {sN_SumError:Array (Option Value)} (zdX:K.lookup N_SumError=some ⟨cN_SumError,dN_SumError,.dict es_SumError.toArray ep_SumError,sN_SumError⟩) (zdU:(es_SumError.all fun e=>match e.key with| .str _ _=>true|_=>false)=true) {oc_BadTelling:Value} {od_BadTelling:Option Addr} {cd_BadTelling:ClassData} {sl_BadTelling:Array (Option Value)} (zcy:K.lookup zbW=some ⟨oc_BadTelling,od_BadTelling,.cls cd_BadTelling,sl_BadTelling⟩) {oc_NoFit:Value} {od_NoFit:Option Addr} {cd_NoFit:ClassData} {sl_NoFit:Array (Option Value)} (zgV:K.lookup zf5=some ⟨oc_NoFit,od_NoFit,.cls cd_NoFit,sl_NoFit⟩) {oc_NoNumber:Value} {od_NoNumber:Option Addr} {cd_NoNumber:ClassData} {sl_NoNumber:Array (Option Value)} (zdR:K.lookup zcC=some ⟨oc_NoNumber,od_NoNumber,.cls cd_NoNumber,sl_NoNumber⟩) {oc_NoRow:Value} {od_NoRow:Option Addr} {cd_NoRow:ClassData} {sl_NoRow:Array (Option Value)} (zgT:K.lookup zf6=some ⟨oc_NoRow,od_NoRow,.cls cd_NoRow,sl_NoRow⟩) {oc_NoText:Value} {od_NoText:Option Addr} {cd_NoText:ClassData} {sl_NoText:Array (Option Value)} (zfK:K.lookup zeG=some ⟨oc_NoText,od_NoText,.cls cd_NoText,sl_NoText⟩) {oc_NotTwos:Value} {od_NotTwos:Option Addr} {cd_NotTwos:ClassData} {sl_NotTwos:Array (Option Value)} (zeP:K.lookup zdx=some ⟨oc_NotTwos,od_NotTwos,.cls cd_NotTwos,sl_NotTwos⟩) {oc_Unlike:Value} {od_Unlike:Option Addr} {cd_Unlike:ClassData} {sl_Unlike:Array (Option Value)} (zfH:K.lookup zeJ=some ⟨oc_Unlike,od_Unlike,.cls cd_Unlike,sl_Unlike⟩) (zds:W.typeIn K (.ref zam)=some (.type "type")) (zel:W.typeIn K (.ref zao)=some (.type "type")) (zb7:W.typeIn K (.ref za2)=some (.type "type")) (zcz:W.typeIn K (.ref zbW)=some (.type "type")) (zgQ:W.typeIn K (.ref zf5)=some (.type "type")) (zdJ:W.typeIn K (.ref zcC)=some (.type "type")) (zgL:W.typeIn K (.ref zf6)=some (.type "type")) (zfE:W.typeIn K (.ref zeG)=some (.type "type")) (zeF:W.typeIn K (.ref zdx)=some (.type "type")) (zfR:W.typeIn K (.ref zeJ)=some (.type "type")) (zdO:W.mroIn K za2 (.type "BaseException")=some true) (zgc:W.mroIn K zam (.type "BaseException")=some true) (zfi:W.findIn K (.ref zam) "__getattribute__"=some (some (.builtin "BaseException.__getattribute__"))) (zfn:W.findIn K (.ref zam) "__getattr__"=some none) (zf8:W.findIn K (.ref zam) "__class__"=some (some (.builtin "object.__class__"))) (zfX:W.mroIn K zam (.type "object")=some true) (zaq:W.mroIn K zam (.ref zam)=some true) (zbk:W.mroIn K zam (.ref za2)=some true) (zbG:W.mroIn K zam (.ref zbW)=some false) (zcG:W.mroIn K zam (.ref zf5)=some false) (zb1:W.mroIn K zam (.ref zcC)=some false) (zcr:W.mroIn K zam (.ref zao)=some false) (zc2:W.mroIn K zam (.ref zf6)=some false) (zcm:W.mroIn K zam (.ref zeG)=some false) (zcc:W.mroIn K zam (.ref zdx)=some false) (zcs:W.mroIn K zam (.ref zeJ)=some false) (zbF:W.mroIn K zam (.type "ValueError")=some true) (zhy:W.mroIn K zao (.type "BaseException")=some true) (zge:W.findIn K (.ref zao) "__getattribute__"=some (some (.builtin "BaseException.__getattribute__"))) (zf1:W.findIn K (.ref zao) "__getattr__"=some none) (zg2:W.findIn K (.ref zao) "__class__"=some (some (.builtin "object.__class__"))) (zhL:W.mroIn K zao (.type "object")=some true) (zaz:W.mroIn K zao (.ref zao)=some true) (zby:W.mroIn K zao (.ref za2)=some true) (zbS:W.mroIn K zao (.ref zbW)=some false) (zdi:W.mroIn K zao (.ref zf5)=some false) (zb9:W.mroIn K zao (.ref zcC)=some false) (zcq:W.mroIn K zao (.ref zam)=some false) (zdo:W.mroIn K zao (.ref zf6)=some false) (zc5:W.mroIn K zao (.ref zeG)=some false) (zco:W.mroIn K zao (.ref zdx)=some false) (zcH:W.mroIn K zao (.ref zeJ)=some false) (zbQ:W.mroIn K zao (.type "ValueError")=some true):
  ∃fd:FuncData,(∀(s:Shared) (v:Value),BindsTo s fd ⟨[v],[]⟩ [("script",v)])/\∀base:Heap,K.In base->base.Ns mainGlobals mg->FnOk l.prog w K mg base CX0 5 fa fd ["script"] (spP K 1 zjT):=by
 have cl:Cls K C:=⟨pg,hd,po,sa⟩;have za6:ExcC K zam:=⟨zlJ zgc,zfi,zfn,zf8,hsp,htk,zfX,zbl zcD,zds⟩;have zbr:ExcC K zao:=⟨zlJ zhy,zge,zf1,zg2,hsp,htk,zhL,zbl zdw,zel⟩;have bn:BN K mg:=⟨⟨C,aC,cl,nM,nK⟩,⟨zam,W.mg_of X G zaM,zaM,zlB zcD zbp zgm zdN (ns_ok zfZ zgb) (ns_ok zdX zdU)⟩,⟨zao,W.mg_of X G zaZ,zaZ,zlB zdw zbp zhp zdN (ns_ok zg7 zhk) (ns_ok zdX zdU)⟩,⟨za2,W.mg_of X G zeQ,(zl7 ⟨zam,zaM,znU zdO (zbl zbp) zb7 zbk⟩ (zl7 ⟨zao,zaZ,znU zdO (zbl zbp) zb7 zby⟩ cat_nil))⟩,⟨zbW,W.mg_of X G zex,(zaJ ⟨zam,zaM,za6,zaR zaq (zbl zcy) zcz zbG⟩ (zaJ ⟨zao,zaZ,zbr,zaR zaz (zbl zcy) zcz zbS⟩ zcI))⟩,⟨zf5,W.mg_of X G zk5,(zaJ ⟨zam,zaM,za6,zaR zaq (zbl zgV) zgQ zcG⟩ (zaJ ⟨zao,zaZ,zbr,zaR zaz (zbl zgV) zgQ zdi⟩ zcI))⟩,⟨zcC,W.mg_of X G zgh,(zaJ ⟨zam,zaM,za6,zaR zaq (zbl zdR) zdJ zb1⟩ (zaJ ⟨zao,zaZ,zbr,zaR zaz (zbl zdR) zdJ zb9⟩ zcI))⟩,⟨zao,W.mg_of X G zaZ,(zaJ ⟨zam,zaM,za6,zaR zaq (zbl zdw) zel zcr⟩ (zaJ ⟨zao,zaZ,zbr,zgK (zbl zdw) zel zaz⟩ zcI))⟩,⟨zam,W.mg_of X G zaM,(zaJ ⟨zam,zaM,za6,zgK (zbl zcD) zds zaq⟩ (zaJ ⟨zao,zaZ,zbr,zaR zaz (zbl zcD) zds zcq⟩ zcI))⟩,⟨zf6,W.mg_of X G zkG,(zaJ ⟨zam,zaM,za6,zaR zaq (zbl zgT) zgL zc2⟩ (zaJ ⟨zao,zaZ,zbr,zaR zaz (zbl zgT) zgL zdo⟩ zcI))⟩,⟨zeG,W.mg_of X G ziQ,(zaJ ⟨zam,zaM,za6,zaR zaq (zbl zfK) zfE zcm⟩ (zaJ ⟨zao,zaZ,zbr,zaR zaz (zbl zfK) zfE zc5⟩ zcI))⟩,⟨zdx,W.mg_of X G zhm,(zaJ ⟨zam,zaM,za6,zaR zaq (zbl zeP) zeF zcc⟩ (zaJ ⟨zao,zaZ,zbr,zaR zaz (zbl zeP) zeF zco⟩ zcI))⟩,⟨za2,W.mg_of X G zeQ,(zaJ ⟨zam,zaM,za6,zgK (zbl zbp) zb7 zbk⟩ (zaJ ⟨zao,zaZ,zbr,zgK (zbl zbp) zb7 zby⟩ zcI))⟩,⟨zeJ,W.mg_of X G zjf,(zaJ ⟨zam,zaM,za6,zaR zaq (zbl zfH) zfR zcs⟩ (zaJ ⟨zao,zaZ,zbr,zaR zaz (zbl zfH) zfR zcH⟩ zcI))⟩,(zaJ ⟨zam,zaM,za6,zl2 (by decide+kernel) zbF⟩ (zaJ ⟨zao,zaZ,zbr,zl2 (by decide+kernel) zbQ⟩ zcI)),qcV X G z0,qcV X G z1,qcV X G z2,qcV X G z3,qcV X G z4,qcV X G z5,qcV X G z6,qcV X G z7,qcV X G z8,qcV X G z9,qcV X G z10,qcV X G z11,qcV X G z12,qcV X G z13⟩;obtain⟨a,b,c,d,e,f,T⟩:=h27.law X G hfa;refine⟨W.fnOf "law" "law" (zbt zj0) (zaO zj0) (zan zj0) .none a b c d e f,fun s v=> .of_eq rfl,fun base _ _=>?_⟩;have Fi:=zpj (st:=zdj (top 17) 0) linit cinit kinit;have bm:BkM l.prog w K mg base 1:=⟨C,finit,_,aC,W.mg_of X G aC,⟨mkC,ainit,iinit,kc⟩,bkInit Fi cl nM nK ⟨rfl,rfl,rfl,by decide+kernel,rfl,by decide+kernel,by decide+kernel⟩ (fun _ _ _ _ _ _=>zgU (ps_fld (pv 0) (pv 1) rfl) (zkn (ps_fld (pv 0) (pe_lst zbX) rfl))),Fi.binds fun _ _ _ _ _ _=>us_s fun _=>us_s fun _=>us_0 rfl⟩;have zht:=zom (P:=l.prog) (w:=w) (base:=base) X G bn h1;have zez:=zjX (P:=l.prog) (w:=w) (base:=base) X G bn h2;have zbY:=zjq (P:=l.prog) (w:=w) (base:=base) X G bn zez h3;have zbh:=zhU (P:=l.prog) (w:=w) (base:=base) X G bn h4;have md_refuse_no_stretch:=zeS (P:=l.prog) (w:=w) (base:=base) X G bn (MAt.mk aC cl arefuse_no_stretch irefuse_no_stretch lrefuse_no_stretch crefuse_no_stretch krefuse_no_stretch);have mdx_refuse_no_stretch:=zes (P:=l.prog) (w:=w) (base:=base) X G bn (MAt.mk aC cl arefuse_no_stretch irefuse_no_stretch lrefuse_no_stretch crefuse_no_stretch krefuse_no_stretch)
 have md_tell_sum:=zkv (P:=l.prog) (w:=w) (base:=base) X G bn md_refuse_no_stretch zbY zbh (MAt.mk aC cl atell_sum itell_sum ltell_sum ctell_sum ktell_sum);have mdx_tell_sum:=zjl (P:=l.prog) (w:=w) (base:=base) X G bn mdx_refuse_no_stretch (MAt.mk aC cl atell_sum itell_sum ltell_sum ctell_sum ktell_sum);have md_ask_sum:=zmN (P:=l.prog) (w:=w) (base:=base) X G bn md_refuse_no_stretch zbY zbh (MAt.mk aC cl aask_sum iask_sum lask_sum cask_sum kask_sum);have mdx_ask_sum:=zkW (P:=l.prog) (w:=w) (base:=base) X G bn mdx_refuse_no_stretch (MAt.mk aC cl aask_sum iask_sum lask_sum cask_sum kask_sum);have md_can_come:=zla (P:=l.prog) (w:=w) (base:=base) X G bn (MAt.mk aC cl acan_come ican_come lcan_come ccan_come kcan_come);have md_known_many:=ziz (P:=l.prog) (w:=w) (base:=base) X G bn zht (MAt.mk aC cl aknown_many iknown_many lknown_many cknown_many kknown_many);have md_take_back:=zka (P:=l.prog) (w:=w) (base:=base) X G bn (MAt.mk aC cl atake_back itake_back ltake_back ctake_back ktake_back);have mdx_take_back:=ziS (P:=l.prog) (w:=w) (base:=base) X G bn (MAt.mk aC cl atake_back itake_back ltake_back ctake_back ktake_back);have zej:=zkj (P:=l.prog) (w:=w) (base:=base) X G bn h11;have zau:=zjm (P:=l.prog) (w:=w) (base:=base) X G bn h12;have zaw:=ziL (P:=l.prog) (w:=w) (base:=base) X G bn h13;have zbZ:=zi0 (P:=l.prog) (w:=w) (base:=base) X G bn h14;have ze9:=zkM (P:=l.prog) (w:=w) (base:=base) X G bn h15;have zaL:=zh2 (P:=l.prog) (w:=w) (base:=base) X G bn h16;have zaV:=zgj (P:=l.prog) (w:=w) (base:=base) X G bn zaw h17;have zbA:=ziR (P:=l.prog) (w:=w) (base:=base) X G bn h18;have zb0:=zfC (P:=l.prog) (w:=w) (base:=base) X G bn zaV zaL zbA zaw h19;have zbT:=zfh (P:=l.prog) (w:=w) (base:=base) X G bn zaV zaL zbA zaw h20;have zbH:=zeT (P:=l.prog) (w:=w) (base:=base) X G bn zaL zaw md_can_come md_known_many h21;have zeo:=zjC (P:=l.prog) (w:=w) (base:=base) X G bn zau h22;have za4:=zg6 (P:=l.prog) (w:=w) (base:=base) X G bn zau h23;have za7:=ziK (P:=l.prog) (w:=w) (base:=base) X G bn md_ask_sum md_take_back md_tell_sum mdx_ask_sum mdx_take_back mdx_tell_sum h24;have zfd:=zkE (P:=l.prog) (w:=w) (base:=base) X G bn zau h25;have zbL:=zh3 (P:=l.prog) (w:=w) (base:=base) X G bn zbT zbH za4 md_ask_sum h26;exact ok_law X G bn bm zbZ zej za7 zeo zfd zbL za4 zau zb0 ze9 T
theorem walk {l:W.OpenLaw}{q:Program}{loose:List Str}{XP:(Str->Option Value)->Heap->Prop}{YP:World->Heap->Prop}{d:DefRec}{K:Params->W.Frag}(hn:l.most=some 63)(hdf:d.params.defaults=[])
  (hm:∀ns:List Int,ns.length<=63->zjT [.scr ns]=some (.val (.bl true)))
  (hY:∀(w:World) (h:Heap),YP w h->(K w.params).In h)
  (F : ∀ (w : World) (mg : Str -> Option Value) (fa : Addr) (h : Heap), (K w.params).In h -> h.Ns mainGlobals mg -> mg d.name = some (.ref fa) ->
   ∃fd:FuncData,(∀(s:Shared) (u:Value),BindsTo s fd ⟨[u],[]⟩ [("script",u)])/\∀base:Heap,(K w.params).In base->base.Ns mainGlobals mg->FnOk l.prog w (K w.params) mg base CX0 5 fa fd ["script"] (spP (K w.params) 1 zjT)):
  W.WalkO q loose XP YP l.row.toRowW d [] (fun f vs=>PySem.call f vs):=
 L2.walk_of (n:=63) (k:=5) (x:="script") (CX:=fun _=>CX0) (sp:=fun w=>spP (K w.params) 1 zjT) hn (by decide) hdf ⟨rfl,by decide,by decide,rfl⟩ hY F
  (fun w H a ns hl _ hS=>⟨H,[.scr ns],.val (.bl true),hm ns hl,rfl,Fz.refl H,.cons ⟨a,rfl,hS⟩ .nil,fun _ _ _ _ _ _ _ rr=>rr⟩) fun _ _ _ _ _ z=>z
end Prf
set_option exponentiation.threshold 5000
namespace Prf
open L2 M PySem
variable {m a i r b n:Nat} {K:Kp} {s u v t:Int} {p q:List (Nat×Int)} {ks ns:List Int} {g:Int->List (Nat×Int)} {L:Nat->Int} {x:Nat×Int} {ds:List D}
abbrev Kp:=List (Nat×Nat×Int)
def pr (x:Nat×Int):D:= .tup [.int x.1,.int x.2]
def hI (K:Kp)(i:Nat):Int:=((K.getD i (0,0,0)).1:Nat)
def lI (K:Kp)(i:Nat):Int:=((K.getD i (0,0,0)).2.1:Nat)
def sI (K:Kp)(i:Nat):Int:=(K.getD i (0,0,0)).2.2
abbrev tI (K:Kp)(i:Nat):Int:=lI K i+1
def Cl (K:Kp)(S:Int->Prop):Prop:=∀i,i<K.length->(S (hI K i)↔S (tI K i))
def zja (K:Kp)(u v:Int):Prop:=∀S:Int->Prop,Cl K S->S u->S v
structure Sg (K:Kp) (a c:Int) (p:List (Nat×Int)):Prop where
 rng:∀x∈p,x.1<K.length/\(x.2=1\/x.2= -1)
 nd:(p.map (·.1)).Nodup
 pot:∀X:Int->Int,(p.map fun x=>x.2*(X (tI K x.1)-X (hI K x.1))).sum=X c-X a
theorem perm_sum {l m:List Int}(h:l.Perm m):l.sum=m.sum:=by
 induction h with
 |nil=>rfl
 |cons x _ ih=>rw[qcW,qcW,ih]
 |swap x y l=>simp only[qcW];lia
 |trans _ _ h1 h2=>exact h1.trans h2
theorem Sg.perm {a c:Int}(h:Sg K a c p)(m:q.Perm p):Sg K a c q:=
 ⟨fun x hx=>h.rng x (m.mem_iff.mp hx),((m.map _).nodup_iff).mpr h.nd,fun X=>by rw[<-h.pot X];exact perm_sum (m.map _)⟩
open Classical in
theorem Sg.reach {a c:Int}(h:Sg K a c p):zja K a c:=fun S cl sa=>by
 have e:=h.pot fun v=>if S v then 1 else 0
 have z:(p.map fun x=>x.2*((if S (tI K x.1)then(1:Int)else 0)-(if S (hI K x.1)then 1 else 0))).sum=0:=by
  have:∀l:List (Nat×Int),(∀x∈l,x.1<K.length)->(l.map fun x=>x.2*((if S (tI K x.1)then(1:Int)else 0)-(if S (hI K x.1)then 1 else 0))).sum=0:=fun l=>by
   induction l with
   |nil=>intro _;rfl
   |cons x l ih=>
    intro hx;rw[qaS,qcW,ih fun y hy=>hx y (by simp[hy])];have:=cl x.1 (hx x (by simp))
    by_cases q:S (tI K x.1)
    ·have q2:=this.mpr q;simp[q,q2]
    ·have q2:¬S (hI K x.1):=fun z=>q (this.mp z)
     simp[q,q2]
  exact this p fun x hx=>(h.rng x hx).1
 rw[z]at e
 by_cases sc:S c
 ·exact sc
 ·simp[sc,sa]at e
theorem fewN:∀(c:Nat) (ks:List Nat),ks.Nodup->(∀x,x∈ks->x<c)->ks.length<=c
 |0,ks,_,h=>by
  cases ks with
  |nil=>simp
  |cons x _=>exact absurd (h x (by simp)) (by lia)
 |c+1,ks,nd,h=>by
  by_cases m:c∈ks
  ·have:=fewN c (ks.erase c) (nd.erase c) fun x hx=>by
    have h1:=h x (List.mem_of_mem_erase hx);have h2:x≠c:=fun z=>by subst z;exact(List.Nodup.not_mem_erase nd) hx
    lia
   rw[List.length_erase_of_mem m]at this;lia
  ·have:=fewN c ks nd fun x hx=>by
    have h1:=h x hx;have h2:x≠c:=fun z=>m (z ▸ hx)
    lia
   lia
theorem Sg.len {a c:Int}(h:Sg K a c p):p.length<=K.length:=by
 have:=fewN K.length (p.map (·.1)) h.nd fun x hx=>by
  obtain⟨y,hy,rfl⟩:=qbY.mp hx;exact(h.rng y hy).1
 simpa using this
structure Wy (K:Kp) (s:Int) (ks:List Int) (g:Int->List (Nat×Int)):Prop where
 st:s∈ks
 sg:∀v∈ks,Sg K s v (g v)
 inn:∀v∈ks,∀x∈g v,hI K x.1∈ks/\tI K x.1∈ks
theorem Wy.start (K:Kp)(s:Int):Wy K s [s] fun _=>[]:=
  ⟨by simp,fun v hv=>by
    have:v=s:=by simpa using hv
    subst this;exact⟨fun x hx=>by simp at hx,by simp,fun X=>by simp⟩,fun v _ x hx=>by simp at hx⟩
theorem Wy.step (w:Wy K s ks g){u v e:Int}(hi:i<K.length)(hu:u∈ks)(hv:v∉ks)(h:(u=hI K i/\v=tI K i/\e=1)\/(u=tI K i/\v=hI K i/\e= -1)):
  Wy K s (ks++[v]) fun y=>if y=v then g u++[(i,e)]else g y:=by
 have new:∀x∈g u,x.1≠i:=fun x hx z=>by
  obtain⟨h1,h2⟩:=w.inn u hu x hx;rw[z]at h1 h2;rcases h with⟨_,rfl,_⟩|⟨_,rfl,_⟩
  ·exact hv h2
  ·exact hv h1
 refine⟨by simp[w.st],fun y hy=>?_,fun y hy x hx=>?_⟩
 ·split
  ·rename_i z;subst z;have q:=w.sg u hu;refine⟨fun x hx=>?_,?_,fun X=>?_⟩
   ·rcases qar.mp hx with m|m
    ·exact q.rng x m
    ·have:x=(i,e):=by simpa using m
     subst this;exact⟨hi,by rcases h with⟨_,_,z⟩|⟨_,_,z⟩<;>simp[z]⟩
   ·rw[qb5,List.nodup_append];refine⟨q.nd,by simp,fun a ha b hb=>?_⟩;obtain⟨x,hx,rfl⟩:=qbY.mp ha;have:b=i:=by simpa using hb
    subst this;exact new x hx
   ·rw[qb5,qb0,q.pot X];simp only[qaS,qbq,qcW,List.sum_nil];rcases h with⟨rfl,rfl,rfl⟩|⟨rfl,rfl,rfl⟩<;>lia
  ·rename_i z;rcases qar.mp hy with m|m
   ·exact w.sg y m
   ·exact absurd (by simpa using m) z
 ·have up:∀z∈ks,z∈ks++[v]:=fun z m=>by simp[m]
  split at hx
  ·rcases qar.mp hx with m|m
   ·exact⟨up _ (w.inn u hu x m).1,up _ (w.inn u hu x m).2⟩
   ·have:x=(i,e):=by simpa using m
    subst this;rcases h with⟨rfl,rfl,_⟩|⟨rfl,rfl,_⟩
    ·exact⟨up _ hu,by simp⟩
    ·exact⟨by simp,up _ hu⟩
  ·rename_i z;rcases qar.mp hy with m|m
   ·exact⟨up _ (w.inn y m x hx).1,up _ (w.inn y m x hx).2⟩
   ·exact absurd (by simpa using m) z
def Clk (K:Kp)(ks:List Int):Prop:=∀i,i<K.length->(hI K i∈ks↔tI K i∈ks)
structure Rd (K:Kp) (ks0:List Int) (i:Nat) (ks:List Int):Prop where
 up:∀v∈ks0,v∈ks
 on:∀j,j<i->(hI K j∈ks0\/tI K j∈ks0)->hI K j∈ks/\tI K j∈ks
 cl:Clk K ks0->ks=ks0
theorem Rd.start (K:Kp)(ks:List Int):Rd K ks 0 ks:=⟨fun _ h=>h,fun j h=>by lia,fun _=>rfl⟩
theorem Rd.step {ks0 ks:List Int}(h:Rd K ks0 i ks)(hi:i<K.length)(hu:u∈ks)(hv:v∉ks)(z:(u=hI K i/\v=tI K i)\/(u=tI K i/\v=hI K i)):Rd K ks0 (i+1) (ks++[v]):=by
 refine⟨fun y hy=>by simp[h.up y hy],fun j hj q=>?_,fun c=>?_⟩
 ·by_cases e:j=i
  ·subst e;rcases z with⟨rfl,rfl⟩|⟨rfl,rfl⟩
   ·exact⟨by simp[hu],by simp⟩
   ·exact⟨by simp,by simp[hu]⟩
  ·have:=h.on j (by lia) q;exact⟨by simp[this.1],by simp[this.2]⟩
 ·exfalso;rw[h.cl c]at hu hv;have:=c i hi;rcases z with⟨rfl,rfl⟩|⟨rfl,rfl⟩
  ·exact hv (this.mp hu)
  ·exact hv (this.mpr hu)
theorem Rd.stay {ks0 ks:List Int}(h:Rd K ks0 i ks)(z:hI K i∈ks↔tI K i∈ks):Rd K ks0 (i+1) ks:=by
 refine⟨h.up,fun j hj q=>?_,h.cl⟩
 by_cases e:j=i
 ·subst e;rcases q with q|q
  ·have:=h.up _ q;exact⟨this,z.mp this⟩
  ·have:=h.up _ q;exact⟨z.mpr this,this⟩
 ·exact h.on j (by lia) q
open Classical in
def cnt (K:Kp)(ks:List Int):Nat:=((List.range K.length).filter fun i=>decide (hI K i∈ks/\tI K i∈ks)).length
theorem zpb {p q:Nat->Bool}(h:∀i,p i=true->q i=true):∀{l:List Nat} {i:Nat},i∈l->p i=false->q i=true->(l.filter p).length+1<=(l.filter q).length:=by
 have le:∀l:List Nat,(l.filter p).length<=(l.filter q).length:=fun l=>by
  induction l with
  |nil=>simp
  |cons x l ih=>
   rw[qcT,qcT]
   by_cases e:p x=true
   ·rw[if_pos e,if_pos (h x e)];simpa using ih
   ·rw[if_neg e]
    split
    ·simp;lia
    ·exact ih
 intro l
 induction l with
 |nil=>intro i m;simp at m
 |cons x l ih=>
  intro i m e1 e2;rw[qcT,qcT];rcases qaq.mp m with rfl|m
  ·rw[if_neg (by simp[e1]),if_pos e2];have:=le l;simp;lia
  ·have:=ih m e1 e2
   by_cases e:p x=true
   ·rw[if_pos e,if_pos (h x e)];simp;lia
   ·rw[if_neg e]
    split
    ·simp;lia
    ·exact this
open Classical in
theorem Rd.more {ks0 ks:List Int}(h:Rd K ks0 K.length ks)(z:Clk K ks0\/r<=cnt K ks0):Clk K ks\/r+1<=cnt K ks:=by
 by_cases c:Clk K ks0
 ·rw[h.cl c];exact .inl c
 ·rcases z with z|z
  ·exact absurd z c
  ·right
   obtain⟨i,q⟩:=Classical.not_forall.mp c;obtain⟨hi,q⟩:=Classical.not_imp.mp q;have one:hI K i∈ks0\/tI K i∈ks0:=by
    by_cases a:hI K i∈ks0
    ·exact .inl a
    ·by_cases b:tI K i∈ks0
     ·exact .inr b
     ·exact absurd ⟨fun x=>absurd x a,fun x=>absurd x b⟩ q
   have nb:¬(hI K i∈ks0/\tI K i∈ks0):=fun x=>q ⟨fun _=>x.2,fun _=>x.1⟩
   refine qal (Nat.succ_le_succ z) ?_;exact zpb (fun j hj=>by
    simp only[qbK]at hj ⊢;exact⟨h.up _ hj.1,h.up _ hj.2⟩) (qaj.mpr hi) (by simpa using nb) (by simpa using h.on i hi one)
open Classical in
theorem all_in (h:Clk K ks\/K.length<=cnt K ks):Clk K ks:=by
 rcases h with h|h
 ·exact h
 ·intro i hi;have al:∀l:List Nat,l.length<=(l.filter fun i=>decide (hI K i∈ks/\tI K i∈ks)).length->∀i∈l,hI K i∈ks/\tI K i∈ks:=fun l=>by
   induction l with
   |nil=>intro _ i m;simp at m
   |cons x l ih=>
    intro hl i m;have le:=List.length_filter_le (fun i=>decide (hI K i∈ks/\tI K i∈ks)) l;rw[qcT]at hl
    split at hl
    ·rename_i q;simp only[qaQ]at hl;rcases qaq.mp m with rfl|m
     ·simpa using q
     ·exact ih (by lia) i m
    ·simp only[qaQ]at hl;lia
  have:=al (List.range K.length) (by rw[qb4];exact h) i (qaj.mpr hi);exact⟨fun _=>this.2,fun _=>this.1⟩
theorem Wy.iff (w:Wy K s ks g)(c:Clk K ks)(v:Int):v∈ks↔zja K s v:=
 ⟨fun h=>(w.sg v h).reach,fun h=>h (fun v=>v∈ks) (fun i hi=>c i hi) w.st⟩
section
variable {J:Type} [DecidableEq J]
theorem zhC (g:J->D)(x:J):∀ks:List J,lkD ks (ks.map g) x=if x∈ks then some (g x)else none
 |[]=>rfl
 |q::ks=>by
  rw[qaS,lkD,zhC g x ks]
  by_cases e:q=x
  ·subst e;simp
  ·have e2:x≠q:=fun z=>e z.symm
   simp[e,e2]
theorem pt_new (g:J->D)(x:J)(d:D)(ks:List J)(h:x∉ks):ptD ks (ks.map g) x d=(ks++[x],(ks++[x]).map fun y=>if y=x then d else g y):=by
 unfold ptD;rw[if_neg (fun c=>h (List.contains_iff_mem.mp c))];congr 1;rw[qb5];congr 1
 ·apply qcn;intro y hy;have:y≠x:=fun z=>h (z ▸ hy)
  simp[this]
 ·simp
end
abbrev kw (K:Kp):List D:=wL K.length fun i=> .tup [.int (hI K i),.int (lI K i),.int (sI K i)]
abbrev gD (g:Int->List (Nat×Int)):Int->D:=fun v=> .lst ((g v).map pr)
theorem gD_put (g:Int->List (Nat×Int))(u v:Int)(i:Nat)(e:Int):(fun y=>if y=v then D.lst ((g u).map pr++[.tup [.int i,.int e]])else gD g y)=gD fun y=>if y=v then g u++[(i,e)]else g y:=by
 funext y
 by_cases z:y=v
 ·simp[gD,z,pr]
 ·simp[gD,z]
theorem ways_ok (K:Kp)(n60:K.length<=60)(s:Int):Ok (zcZ [.lst (kw K),.int s]) fun r=>∃ks g,Wy K s ks g/\Clk K ks/\r= .val (.dic ks (ks.map (gD g))):=by
 simp! only[↓zcZ,↓zfa,↓ze3];refine⟨zbg (by lia) (by lia),zcM (fun r ρ=>∃ks g s3 s4 s5 s6 s7,Wy K s ks g/\(Clk K ks\/r<=cnt K ks)/\ks.length<=1+r*60/\ρ=[.val (.lst (kw K)),.val (.int s),.tre (.dic ks (ks.map (gD g))),s3,s4,s5,s6,s7]) ⟨[s],fun _=>[],.emp,.emp,.emp,.emp,.emp,Wy.start K s,.inr (qaW _),by simp,rfl⟩ ?_ ?_⟩
 ·rintro r _ hr ⟨ks,g,s3,s4,s5,s6,s7,w,c,l,rfl⟩;simp! only[↓zeX,↓zeZ,zna];refine zcM (fun i ρ=>∃ks' g' s4 s5 s6 s7,Wy K s ks' g'/\Rd K ks i ks'/\ks'.length<=ks.length+i/\ρ=[.val (.lst (kw K)),.val (.int s),.tre (.dic ks' (ks'.map (gD g'))),.val (.int r),s4,s5,s6,s7]) ⟨ks,g,s4,s5,s6,s7,w,Rd.start K ks,qaH _,rfl⟩ ?_ ?_
  ·rintro i _ hi ⟨ks',g',s4,s5,s6,s7,w',rd,l',rfl⟩;have len:∀v∈ks',(g' v).length<=60:=fun v hv=>qal (w'.sg v hv).len n60
   by_cases h1:hI K i∈ks'<;>by_cases h2:tI K i∈ks'
   ·simp! only[↓zbK,zhC,if_pos h1,if_pos h2,qcX,qcP];exact⟨ks',g',_,_,_,_,w',rd.stay ⟨fun _=>h2,fun _=>h1⟩,by lia,rfl⟩
   ·simp! only[↓zbK,zhC,if_pos h1,if_neg h2,qcX,qcP,pt_new _ _ _ _ h2,gD_put];have:=len _ h1;exact⟨by lia,by lia,_,_,_,_,_,_,w'.step hi h1 h2 (.inl ⟨rfl,rfl,rfl⟩),rd.step hi h1 h2 (.inl ⟨rfl,rfl⟩),by simp;lia,rfl⟩
   ·simp! only[↓zbK,zhC,if_neg h1,if_pos h2,qcX,qcP,pt_new _ _ _ _ h1,gD_put];have:=len (lI K i+1) h2;exact⟨by lia,by lia,_,_,_,_,_,_,w'.step hi h2 h1 (.inr ⟨rfl,rfl,rfl⟩),rd.step hi h2 h1 (.inr ⟨rfl,rfl⟩),by simp;lia,rfl⟩
   ·simp! only[↓zbK,zhC,if_neg h1,if_neg h2,qcX,qcP];exact⟨ks',g',_,_,_,_,w',rd.stay ⟨fun z=>absurd z h1,fun z=>absurd z h2⟩,by lia,rfl⟩
  ·rintro _ ⟨ks',g',s4,s5,s6,s7,w',rd,l',rfl⟩;simp! only[];exact⟨ks',g',_,_,_,_,_,w',rd.more c,by lia,rfl⟩
 ·rintro _ ⟨ks,g,s3,s4,s5,s6,s7,w,c,l,rfl⟩;simp! only[];exact⟨ks,g,w,all_in c,rfl⟩
theorem ts_pr:∀p:List (Nat×Int),zh9 (p.map pr)=some (p.map fun x=>[(x.1:Int),x.2])
 |[]=>rfl
 |x::p=>by
  show(za5 [D.int (x.1:Int),D.int x.2]).bind (fun ns=>(zh9 (p.map pr)).map fun nss=>ns::nss)=_;rw[ts_pr p];rfl
theorem zoQ (p:List (Nat×Int))(h:p.length<64)(nd:(p.map (·.1)).Nodup):∃q:List (Nat×Int),q.Perm p/\(q.map (·.1)).Pairwise (· < ·)/\dSrt [.lst (p.map pr)]=some (q.map pr):=by
  have ky:zmU (p.map pr)=some (p.map fun x=>[(x.1:Int),x.2]):=by
    unfold zmU;cases p with
    |nil=>rfl
    |cons x p=>
      have:za5 ((x::p).map pr)=none:=rfl;rw[this];show(zh9 ((x::p).map pr)).bind _=_;rw[ts_pr];show(if _ then _ else _)=_;rw[if_pos];rw[List.all_map];simp
  have o:=HT.zhA (p.map fun x=>[(x.1:Int),x.2]);have pm:=zfI (n:=p.length) o;refine⟨(srt p.length (HT.zck (p.map fun x=>[(x.1:Int),x.2]))).map fun i=>p.getD i (0,0),?_,?_,?_⟩
  . have e:(List.range p.length).map (fun i=>p.getD i (0,0))=p:=by
      apply qcw;intro i
      by_cases hi:i<p.length
      . simp[hi]
      . simp[hi]
    have:=pm.map fun i=>p.getD i (0,0)
    rwa[e]at this
  . have nd2:(((srt p.length (HT.zck (p.map fun x=>[(x.1:Int),x.2]))).map fun i=>p.getD i (0,0)).map (·.1)).Nodup:=by
      have e:(List.range p.length).map (fun i=>p.getD i (0,0))=p:=by
        apply qcw;intro i
        by_cases hi:i<p.length
        . simp[hi]
        . simp[hi]
      have:=(pm.map fun i=>p.getD i (0,0)).map (·.1);rw[e]at this;exact this.nodup_iff.mpr nd
    rw[qcz];intro i j hi hj hij;rw[qaT,qaT]at hi hj;have up:=srt_up o (qam hij) (qbN hi) (qbN hj);have ra:=qaj.mp (pm.mem_iff.mp (qcD hi));have rb:=qaj.mp (pm.mem_iff.mp (qcD hj));have ne:=(qcz.mp nd2) i j (by simpa using hi) (by simpa using hj) hij;simp only[qcs]at ne ⊢
    generalize (srt p.length (HT.zck (p.map fun x=>[(x.1:Int),x.2])))[i]=a at up ra ne ⊢
    generalize (srt p.length (HT.zck (p.map fun x=>[(x.1:Int),x.2])))[j]=b at up rb ne ⊢
    unfold HT.zck at up;simp only[List.getD,qba,qbN ra,qbN rb,qbI,Option.getD_some]at up ne ⊢;change (if((p[b].1:Nat):Int)=((p[a].1:Nat):Int)then _ else decide (((p[b].1:Nat):Int)<((p[a].1:Nat):Int)))=false at up;rw[if_neg (by lia),qcN]at up;lia
  . unfold dSrt
    show(if(p.map pr).length<64 then Option.map (fun nss=>srtD nss (p.map pr)) (zmU (p.map pr))else none)=_;rw[qaT,if_pos h,ky];show some (srtD _ _)=_;congr 1;unfold srtD;rw[qaT,qb6];apply qcn;intro i hi;have:=qaj.mp (pm.mem_iff.mp hi);simp[this]
structure Sgs (K:Kp) (a c:Int) (q:List (Nat×Int)):Prop where
  sg:Sg K a c q
  up:(q.map (·.1)).Pairwise (· < ·)
theorem zlZ (K:Kp)(n60:K.length<=60)(a b:Int):Ok (zbO [.lst (kw K),.int a,.int b]) fun r=>(¬zja K a (b+1)/\r= .val .non)\/∃q,Sgs K a (b+1) q/\r= .own (q.map pr):=by
 simp! only[↓zbO,↓zfl];refine(ways_ok K n60 a).mono ?_;rintro _ ⟨ks,g,w,c,rfl⟩
 by_cases h:b+1∈ks
 ·obtain⟨q,pm,up,e⟩:=zoQ (g (b+1)) (qcf (w.sg _ h).len (by lia)) (w.sg _ h).nd;simp! only[zhC,if_pos h,qcX,qcP,↓zdf,e];exact .inr ⟨q,⟨(w.sg _ h).perm pm,up⟩,rfl⟩
 ·simp! only[zhC,if_neg h,qcX,qcP,↓zdf]
  first|exact .inl ⟨fun z=>h ((w.iff c _).mpr z),rfl⟩|exact .inl (fun z=>h ((w.iff c _).mpr z))|(trace_state;exact fun z=>h ((w.iff c _).mpr z))
theorem in2 (x a b:Int):dIn (.int x) (.tup [.int a,.int b])=some (.bl ([a,b].contains x)):=by
 show dIn (.int x) (.lst ([a,b].map .int))=_;exact inL x [a,b]
theorem notin2 (x a b:Int):zjI (.int x) (.tup [.int a,.int b])=some (.bl (!(x==a||x==b))):=notIn2 x a b
def tot (K:Kp)(q:List (Nat×Int)):Int:=(q.map fun x=>sI K x.1*x.2).sum
theorem zmX {α:Type}(q:List α)(h:α->Int):za5 (q.map fun x=> .int (h x))=some (q.map h):=by
 have:(q.map fun x=>D.int (h x))=(q.map h).map .int:=by rw[qb6];rfl
 rw[this,zcb]
section
variable {K:Kp} {a c:Int} {q:List (Nat×Int)}
theorem zll (s:Sg K a c q)(n60:K.length<=60):Ok (za9 [.lst (kw K),.lst (q.map pr)]) fun r=>r= .val (.int (tot K q)):=by
 have ql:=s.len;simp! only[↓za9,↓zdL,↓zd8];refine⟨by lia,zf3 (enc:=pr) (l:=q) (fun ρ=>∃s1 s2,ρ=[.val (.lst (kw K)),s1,s2]) (fun x=> .int (sI K x.1*x.2)) ⟨_,_,rfl⟩ ?_ ?_⟩
 ·rintro⟨i,e⟩ _ hx ⟨s1,s2,rfl⟩;have h:=s.rng _ hx;simp! only[↓zeb,pr,zbf _ h.1];refine⟨zox ?_,_,_,rfl⟩;rcases h.2 with z|z<;>simp only at z<;>rw[z]<;>decide
 ·rintro _ ⟨s1,s2,rfl⟩;simp! only[zmX]
  rfl
theorem zgq (s:Sg K a c q)(n60:K.length<=60):Ok (zbu [.lst (kw K),.lst (q.map pr)]) fun r=>r= .val (.int (tot K q)):=by
 have ql:=s.len;simp! only[↓zbu,↓zen,↓zev];refine⟨by lia,zf3 (enc:=pr) (l:=q) (fun ρ=>∃s1 s2,ρ=[.val (.lst (kw K)),s1,s2]) (fun x=> .int (sI K x.1*x.2)) ⟨_,_,rfl⟩ ?_ ?_⟩
 ·rintro⟨i,e⟩ _ hx ⟨s1,s2,rfl⟩;have h:=s.rng _ hx;simp! only[↓zeA,pr,zbf _ h.1];refine⟨zi4 ?_,by rw[Int.mul_comm],_,_,rfl⟩;rcases h.2 with z|z<;>simp only at z<;>rw[z]<;>decide
 ·rintro _ ⟨s1,s2,rfl⟩;simp! only[zmX]
  rfl
end
def KOk (m:Nat)(K:Kp):Prop:=∀i,i<K.length->0<=hI K i/\hI K i<=lI K i/\lI K i<m
structure Lab (m:Nat) (K:Kp) (i:Nat) (L:Nat->Int):Prop where
 one:∀j,j<i->L (hI K j).toNat=L (tI K j).toNat
 two:∀S:Int->Prop,(∀j,j<i->(S (hI K j)↔S (tI K j)))->∀u v:Nat,u<=m->v<=m->L u=L v->(S u↔S v)
theorem Lab.start (m:Nat)(K:Kp):Lab m K 0 fun v=>(v:Int):=⟨fun j h=>by lia,fun S _ u v _ _ e=>by
 have:u=v:=by lia
 rw[this]⟩
theorem Lab.step (h:Lab m K i L)(ok:KOk m K)(hi:i<K.length){one other:Int}(e1:L (hI K i).toNat=one)(e2:L (tI K i).toNat=other):
  Lab m K (i+1) fun v=>if L v=one\/L v=other then min2 one other else L v:=by
 obtain⟨o1,o2,o3⟩:=ok i hi;refine⟨fun j hj=>?_,fun S cl u v hu hv e=>?_⟩
 ·by_cases z:j=i
  ·subst z;rw[e1,e2,if_pos (.inl rfl),if_pos (.inr rfl)]
  ·rw[h.one j (by lia)]
 ·have two:=h.two S fun j hj=>cl j (by lia)
  have ci:=cl i (by lia);have to:∀u:Nat,u<=m->L u=one\/L u=other->(S u↔S (hI K i)):=fun u hu z=>by
   rcases z with z|z
   ·have:=two u (hI K i).toNat hu (by lia) (by rw[z,e1]);rwa[show(((hI K i).toNat:Nat):Int)=hI K i by lia]at this
   ·have:=two u (tI K i).toNat hu (by show(lI K i+1).toNat<=m;lia) (by rw[z,e2]);rw[show(((tI K i).toNat:Nat):Int)=tI K i from qcY (by show 0<=lI K i+1;lia)]at this;exact this.trans ci.symm
  have mn:min2 one other=one\/min2 one other=other:=by unfold min2;split<;>simp
  by_cases p:L u=one\/L u=other<;>by_cases q:L v=one\/L v=other
  ·exact(to u hu p).trans (to v hv q).symm
  ·rw[if_pos p,if_neg q]at e;exact absurd (by rcases mn with z|z<;>rw[z]at e<;>simp[<-e]) q
  ·rw[if_neg p,if_pos q]at e;exact absurd (by rcases mn with z|z<;>rw[z]at e<;>simp[e]) p
  ·rw[if_neg p,if_neg q]at e;exact two u v hu hv e
theorem Lab.iff (h:Lab m K K.length L)(ok:KOk m K){u v:Nat}(hu:u<=m)(hv:v<=m):L u=L v↔zja K u v:=by
 refine⟨fun e S cl su=>(h.two S cl u v hu hv e).mp su,fun r=>?_⟩;have:=r (fun w=>L u=L w.toNat) (fun i hi=>by
  show L u=L (hI K i).toNat↔L u=L (tI K i).toNat;rw[h.one i hi]) (by simp)
 simpa using this
theorem zek (m:Nat)(m24:m<=100)(K:Kp)(n60:K.length<=60)(ok:KOk m K):Ok (zaU [.int m,.lst (kw K)]) fun r=>∃L,Lab m K K.length L/\r= .own (wI (m+1) L):=by
 simp! only[↓zaU,↓zdP,↓zd6];refine⟨zbg (by lia) (by lia),?_⟩;rw[show((m:Int)+1).toNat=m+1 by lia];refine⟨by lia,zcM (fun i ρ=>∃L s3 s4 s5 s6 s7,Lab m K i L/\ρ=[.val (.int m),.val (.lst (kw K)),.own (wI (m+1) L),s3,s4,s5,s6,s7]) ⟨fun v=>(v:Int),_,_,_,_,_,Lab.start m K,rfl⟩ ?_ ?_⟩
 ·rintro i _ hi ⟨L,s3,s4,s5,s6,s7,h,rfl⟩;obtain⟨o1,o2,o3⟩:=ok i hi;obtain⟨A,eA⟩:∃A:Nat,hI K i=A:=⟨_,(qcY o1).symm⟩;obtain⟨T,eT⟩:∃T:Nat,lI K i+1=T:=⟨_,(qcY (by lia)).symm⟩;simp! only[↓zea,eA,eT,zbf _ (show A<m+1 by lia),zbf _ (show T<m+1 by lia),↓zee];refine⟨by lia,zgS (fun ρ=>∃z,ρ=[.val (.int (L A)),.val (.int (L T)),z]) (fun v=> .int (if L v=L A\/L v=L T then min2 (L A) (L T)else L v)) ⟨_,rfl⟩ ?_ ?_⟩
  ·rintro v _ hv ⟨z,rfl⟩
   by_cases q:L v=L A\/L v=L T
   ·have c:[L A,L T].contains (L v)=true:=by rcases q with q|q<;>simp[q]
    simp! only[↓zcn,in2,c,if_pos q];exact⟨_,rfl⟩
   ·have c:[L A,L T].contains (L v)=false:=by
     simp only[not_or]at q;simp[q.1,q.2]
    simp! only[↓zcn,in2,c,if_neg q];exact⟨_,rfl⟩
  ·rintro _ ⟨z,rfl⟩;refine⟨_,_,_,_,_,_,h.step ok hi (one:=L A) (other:=L T) (by rw[eA];rfl) (by rw[show tI K i=(T:Int)from eT];rfl),rfl⟩
 ·rintro _ ⟨L,s3,s4,s5,s6,s7,h,rfl⟩;simp! only[];exact⟨L,h,rfl⟩
theorem zep (i:Int):zaI [.int i]=some (.val (.bl true)):=by rfl
theorem pl_ints (ns:List Int):Pl 1 (.lst (ns.map .int)):=pl_lst fun d hd=>by
 obtain⟨z,_,rfl⟩:=qbY.mp hd;exact zli 0 _
theorem zk2 {α:Type}:∀q:List α,zey (q.map fun _=>D.bl true)=some (q.map fun _=>true)
 |[]=>rfl
 |x::q=>by
  show(zey (q.map fun _=>D.bl true)).map (true:: ·)=_;rw[zk2 q];rfl
theorem all_t {α:Type}(q:List α):(q.map fun _=>true).all id=true:=by
 rw[List.all_map];simp
theorem usrt_up (h:ns.Pairwise (· < ·)):HT.usrt ns=ns:=HT.eq_up (HT.zhR ns) h fun z=>HT.zfD
def ct (K:Kp)(q:List (Nat×Int))(i:Nat)(p:Nat):Int:=((q.take i).map fun x=>x.2*(if hI K x.1<=(p:Int)/\(p:Int)<=lI K x.1 then 1 else 0)).sum
theorem ct_succ (h:q[i]? =some x)(p:Nat):ct K q (i+1) p=ct K q i p+x.2*(if hI K x.1<=(p:Int)/\(p:Int)<=lI K x.1 then 1 else 0):=by
 unfold ct;rw[List.take_add_one,h,qb5,qb0];simp
theorem ct_end {a b:Int}(ok:KOk m K)(s:Sg K a (b+1) q)(hab:a<=b)(p:Nat):ct K q q.length p=if a<=(p:Int)/\(p:Int)<=b then 1 else 0:=by
 have e:=s.pot fun c=>if(p:Int)<c then 1 else 0
 unfold ct;rw[List.take_length];have e2:(if(p:Int)<b+1 then(1:Int)else 0)-(if(p:Int)<a then 1 else 0)=if a<=(p:Int)/\(p:Int)<=b then 1 else 0:=by
  split<;>split<;>split<;>lia
 rw[<-e2,<-e];congr 1;apply qcn;intro x hx;obtain⟨o1,o2,o3⟩:=ok x.1 (s.rng x hx).1;congr 1;show _=(if(p:Int)<lI K x.1+1 then(1:Int)else 0)-(if(p:Int)<hI K x.1 then 1 else 0)
 split<;>split<;>split<;>lia
theorem rep_w (n:Nat)(x:D):(List.replicate n [x]).flatten=wL n fun _=>x:=by
 induction n with
 |zero=>rfl
 |succ n ih=>rw[qbw,qbx,ih];simp[wL,List.range_succ_eq_map,qcS]
theorem tc_list:(["int","bool","tuple","list","str"]:List String).contains "list"=true:=by decide
theorem zmb:(["int","bool","tuple","list","str"]:List String).contains "tuple"=true:=by decide
theorem are_ok (m24:m<=100)(n60:K.length<=60)(ok:KOk m K){a b:Nat}(s:Sgs K a ((b:Int)+1) q)(hab:a<=b)(hb:b<m):
    Ok (zaN [.int m,.lst (kw K),.int a,.int b,.lst (q.map pr)]) fun r=>r= .val (.bl true):=by
  have ql:=s.sg.len;have up:(q.map fun x=>(x.1:Int)).Pairwise (· < ·):=by
    have:=s.up;rw[List.pairwise_map]at this ⊢;exact this.imp fun h=>by lia
  simp! only[↓zaN,↓zct,tc_list,↓zcW];refine⟨by lia,zf3 (enc:=pr) (l:=q) (fun ρ=>∃s1,ρ=[s1]) (fun x=> .bl true) ⟨_,rfl⟩ ?_ ?_⟩
  . rintro⟨i,e⟩ _ hx ⟨s1,rfl⟩
    simp! only[↓zc7,pr,zmb];exact⟨rfl,_,rfl⟩
  . rintro _ ⟨s1,rfl⟩
    simp! only[zk2,all_t,↓zc0,↓zcQ];refine⟨by lia,zf3 (enc:=pr) (l:=q) (fun ρ=>∃s1 s2,ρ=[s1,s2]) (fun x=> .int x.1) ⟨_,_,rfl⟩ ?_ ?_⟩
    . rintro⟨i,e⟩ _ hx ⟨s1,s2,rfl⟩
      simp! only[↓zcO,pr];exact⟨_,_,rfl⟩
    . rintro _ ⟨s1,s2,rfl⟩
      have eN:(q.map fun x=>D.int (x.1:Int))=(q.map fun x=>(x.1:Int)).map .int:=by rw[qb6];rfl
      rw[eN];simp! only[usrt_up up,(pl_ints _).ne (by decide:1<=50),↓zcY];refine⟨by lia,by lia,zf3 (enc:=D.int) (l:=q.map fun x:Nat×Int=>(x.1:Int)) (fun ρ=>∃s1,ρ=[s1]) (fun x=> .bl true) ⟨_,rfl⟩ ?_ ?_⟩
      . rintro z _ hz ⟨s1,rfl⟩
        simp! only[↓zc6,zep];exact⟨_,rfl⟩
      . rintro _ ⟨s1,rfl⟩
        simp! only[zk2,all_t,↓zcS,↓zcN,rep_w];refine⟨⟨zbg (by lia) (by lia),by lia⟩,znq (enc:=pr) (l:=q) (fun i ρ=>∃s7 s8 s9,ρ=[.val (.int m),.val (.lst (kw K)),.val (.int a),.val (.int b),.val (.lst (q.map pr)),.val (.lst ((q.map fun x=>(x.1:Int)).map .int)),.own (wI m (ct K q i)),s7,s8,s9]) ⟨_,_,_,rfl⟩ ?_ ?_⟩
        . rintro i ⟨x,e⟩ _ hx ⟨s7,s8,s9,rfl⟩
          have hm:=qbb hx;have hr:=s.sg.rng _ hm;simp only at hr;obtain⟨o1,o2,o3⟩:=ok x hr.1;have e1:(e==1||e== -1)=true:=by rcases hr.2 with z|z<;>simp[z]
          have eR:(lI K x+1-hI K x).toNat=(lI K x-hI K x).toNat+1:=by lia
          simp! only[↓zc1,pr,↓zcR,↓zcP,zep,notin2,e1,zbf _ hr.1];obtain⟨A,eA⟩:∃A:Nat,hI K x=A:=⟨_,(qcY o1).symm⟩;refine⟨fun _=>⟨fun z=>absurd z (by simpa using hr.1),fun _=>⟨⟨zbg (by lia) (by lia),zbg (by lia) (by lia)⟩,?_⟩⟩,fun z=>by lia⟩;refine ok_range (fun j ρ=>∃s9,ρ=[.val (.int m),.val (.lst (kw K)),.val (.int a),.val (.int b),.val (.lst (q.map pr)),.val (.lst ((q.map fun x=>(x.1:Int)).map .int)),.own (wI m fun p=>ct K q i p+e*(if hI K x<=(p:Int)/\(p:Int)<hI K x+(j:Int)then 1 else 0)),.val (.int x),.val (.int e),s9]) ⟨s9,?_⟩ ?_ ?_
          . have:(fun p:Nat=>ct K q i p+e*(if hI K x<=(p:Int)/\(p:Int)<hI K x+((0:Nat):Int)then(1:Int)else 0))=ct K q i:=by
              funext p
              rw[if_neg (by lia)];lia
            rw[this]
          . rintro j _ hj ⟨s9,rfl⟩
            rw[show hI K x+((j:Nat):Int)=((A+j:Nat):Int) by lia];have hA:A+j<m:=by lia
            simp! only[↓zc8,zbf _ hA,wI_set _ _ hA,hA];have eF:(fun p=>if p=A+j then ct K q i (A+j)+e*(if hI K x<=((A+j:Nat):Int)/\((A+j:Nat):Int)<((A+j:Nat):Int)then 1 else 0)+e else ct K q i p+e*(if hI K x<=(p:Int)/\(p:Int)<((A+j:Nat):Int)then 1 else 0))=fun p:Nat=>ct K q i p+e*(if hI K x<=(p:Int)/\(p:Int)<hI K x+((j+1:Nat):Int)then(1:Int)else 0):=by
              funext p
              by_cases z:p=A+j
              . rw[if_pos z,z,if_neg (by lia),if_pos (by lia)];lia
              . rw[if_neg z]
                simp only[show((p:Int)<hI K x+((j+1:Nat):Int))↔((p:Int)<((A+j:Nat):Int)) by lia]
            rw[eF];exact⟨_,rfl⟩
          . rintro _ ⟨s9,rfl⟩
            refine⟨.val (.int x),.val (.int e),s9,?_⟩;have:(fun p:Nat=>ct K q i p+e*(if hI K x<=(p:Int)/\(p:Int)<hI K x+(((lI K x+1-hI K x).toNat:Nat):Int)then(1:Int)else 0))=ct K q (i+1):=by
              funext p
              rw[ct_succ hx p];simp only[show((p:Int)<hI K x+(((lI K x+1-hI K x).toNat:Nat):Int))↔(p:Int)<=lI K x by lia]
            rw[this]
        . rintro _ ⟨s7,s8,s9,rfl⟩
          simp! only[↓zcL];refine⟨zbg (by lia) (by lia),by lia,zgS (fun ρ=>∃z,ρ=[.val (.int a),.val (.int b),z]) (fun p=> .int (ct K q q.length p)) ⟨_,rfl⟩ ?_ ?_⟩
          . rintro p _ hp ⟨z,rfl⟩
            rw[ct_end ok s.sg (by lia) p]
            by_cases h1:(a:Int)<=(p:Int)
            . by_cases h2:(p:Int)<=(b:Int)
              . simp! only[↓zba,h1,h2]
                exact⟨_,rfl⟩
              . simp! only[↓zba,h1,h2]
                exact⟨_,rfl⟩
            . simp! only[↓zba,h1,false_and,qbi]
              exact⟨_,rfl⟩
          . rintro _ ⟨z,rfl⟩
            simp! only[(pl_lst (pl_w fun _=>zli 0 _)).eq (by decide:1<=50)]
theorem w_fl (n:Nat)(f:Nat->Int):(wI n f).all flD=true:=by
 rw[qbX];intro d hd;obtain⟨i,_,rfl⟩:=qbY.mp hd
 rfl
theorem zkl (K:Kp):(kw K).all flD=true:=by
 rw[qbX];intro d hd;obtain⟨i,_,rfl⟩:=qbY.mp hd
 rfl
theorem pr_fl (q:List (Nat×Int)):(q.map pr).all flD=true:=by
 rw[qbX];intro d hd;obtain⟨i,_,rfl⟩:=qbY.mp hd
 rfl
theorem zgi (K:Kp)(a b:Nat)(t:Int):kw K++[.tup [.int a,.int b,.int t]]=kw (K++[(a,b,t)]):=by
 rw[wL_snoc];show wL (K.length+1) _=wL (K++[(a,b,t)]).length _;rw[qbc];apply qcn;intro i hi;have hi:=qaj.mp hi
 by_cases z:i<K.length
 ·rw[if_pos z];simp only[hI,lI,sI,List.getD,qa9 z]
 ·have:i=K.length:=by lia
  subst this;rw[if_neg (by lia)];simp[hI,lI,sI]
theorem KOk.snoc (ok:KOk m K)(hab:a<=b)(hb:b<m)(t:Int):KOk m (K++[(a,b,t)]):=fun i hi=>by
 rw[qbc]at hi
 by_cases z:i<K.length
 ·have:=ok i z;simp only[hI,lI,List.getD,qa9 z]at this ⊢;exact this
 ·have:i=K.length:=by simp at hi;lia
  subst this;simp[hI,lI];lia
theorem zj2 (hab:a<=b)(hb:b<m):Ok (zaB [.ptr (bkT m ds),.val (.int a),.val (.int b)]) fun r=>r=(.val .non,[.ptr (bkT m ds),.emp,.emp]):=by
 simp! only[↓zaB,↓zbN];refine⟨fun _=>⟨fun _ z=>?_,fun z=>by lia⟩,fun z=>by lia⟩;simp only[qcL,qcN]at z;lia
theorem tell_ok (n60:K.length<=60)(hab:a<=b)(hb:b<m)(t:Int):Ok (zdI [.ptr (bkT m (kw K)),.val (.int a),.val (.int b),.val (.int t)]) fun r=>
  (¬zja K a ((b:Int)+1)/\r=(.tre (.tup [.d (.str "new"),.d (.int K.length)]),[.ptr (bkT m (kw (K++[(a,b,t)]))),.emp,.emp,.emp]))\/
  ∃q,Sgs K a ((b:Int)+1) q/\r=(.tre (.tup [.d (.str (if tot K q=t then "known" else "clash")),.l (q.map pr)]),[.ptr (bkT m (kw K)),.emp,.emp,.emp]):=by
 simp! only[↓zdI,↓zf0];refine(zj2 hab hb).mono ?_;rintro _ rfl;simp! only[];refine(zlZ K n60 a b).mono ?_;rintro _ (⟨nr,rfl⟩|⟨q,s,rfl⟩)
 ·simp! only[zgi,zkl];exact⟨by lia,.inl ⟨nr,by rw[show((K.length+1:Nat):Int)-1=(K.length:Int) by lia]⟩⟩
 ·simp! only[pr_fl,zkl,↓zfF];refine(zll s.sg n60).mono ?_;rintro _ rfl;simp! only[];exact⟨fun z=> .inr ⟨q,s,by rw[if_pos z]⟩,fun z=> .inr ⟨q,s,by rw[if_neg z]⟩⟩
theorem pl_new (n:Int):Pl 1 (.tup [.str "new",.int n]):=zog fun d hd=>by
 simp only[qaq,qce,or_false]at hd;rcases hd with rfl|rfl
 ·exact⟨rfl,qaW _⟩
 ·exact zli 0 _
section
variable {m:Nat} (m24:m<=100) {K:Kp} (n60:K.length<=60) (ok:KOk m K) {a b:Nat} (hab:a<=b) (hb:b<m) (t:Int)
include m24 n60 ok hab hb
theorem told_new (nr:¬zja K a ((b:Int)+1)):Ok (zaK [.val (.int m),.par (kw K),.val (.int a),.val (.int b),.val (.int t),.val (.tup [.str "new",.int K.length])]) fun r=>r=(.val (.bl true),[.emp,.par (kw (K++[(a,b,t)])),.emp,.emp,.emp,.emp]):=by
 simp! only[↓zaK,↓zbz];refine(zek m m24 K n60 ok).mono ?_;rintro _ ⟨L,lb,rfl⟩;have ne:¬L a=L (b+1):=fun z=>nr (by have:=(lb.iff ok (u:=a) (v:=b+1) (by lia) (by lia)).mp z;simpa using this)
 have eb:((b:Int)+1)=((b+1:Nat):Int):=by lia
 have kl:(kw K).length=K.length:=zd5 _ _;rw[<-zgi K a b t]
 generalize kw K=kd at kl ⊢
 simp! only[zmb,↓zbD,↓zbE,↓zbJ,zbf _ (show a<m+1 by lia),zbf _ (show b+1<m+1 by lia),w_fl,eb,kl,zep,ne,show((K.length+1:Nat):Int)-1=(K.length:Int) by lia,(pl_new (K.length:Int)).eq (by decide:1<=50)];exact⟨fun z=>absurd rfl z,fun _ _=>by lia⟩
theorem told_old (s:Sgs K a ((b:Int)+1) q):Ok (zaK [.val (.int m),.par (kw K),.val (.int a),.val (.int b),.val (.int t),.val (.tup [.str (if tot K q=t then "known" else "clash"),.lst (q.map pr)])]) fun r=>r=(.val (.bl true),[.emp,.par (kw K),.emp,.emp,.emp,.emp]):=by
 simp! only[↓zaK,↓zbz];refine(zek m m24 K n60 ok).mono ?_;rintro _ ⟨L,lb,rfl⟩;have e:L a=L (b+1):=(lb.iff ok (u:=a) (v:=b+1) (by lia) (by lia)).mpr (by simpa using s.sg.reach);have eb:((b:Int)+1)=((b+1:Nat):Int):=by lia
 simp! only[zmb,↓zbD,↓zbE,↓zbJ,zbf _ (show a<m+1 by lia),zbf _ (show b+1<m+1 by lia),w_fl,eb,e];refine⟨fun z=>absurd rfl z,fun _=>?_⟩;refine(are_ok m24 n60 ok (by simpa using s) hab hb).mono ?_;rintro _ rfl;simp! only[];refine(zgq s.sg n60).mono ?_;rintro _ rfl
 by_cases z:tot K q=t
 ·simp! only[z]
 ·simp! only[z]
end
def Pot (ds:List D):Prop:=∃p:Int,ds=[.int p]
theorem zew (h:Pot ds){m:Int}(h0:0<m)(h1:m<2^250):Ok (zaD ds [.int m]) fun r=>∃(i:Nat) (ds':List D),(i:Int)<m/\Pot ds'/\r=(.val (.int i),ds'):=by
 obtain⟨p,rfl⟩:=h;simp! only[↓zaD,↓zfm];have m0:=Int.emod_nonneg p (Int.ne_of_gt h0);refine⟨h0,zoz h0 h1,(p%m).toNat,[.int (p/m)],?_,⟨_,rfl⟩,?_⟩
 ·have:=Int.emod_lt_of_pos p h0;lia
 ·rw[show(((p%m).toNat:Nat):Int)=p%m by lia]
theorem two_ok (ns:List Int):Ok (zdE [.scr ns]) fun x=>∃a b:Int,x= .own [.int a,.int b]:=by
 simp! only[↓zdE,↓zgd,qbJ];exact⟨_,_,rfl⟩
theorem deal2_ok (A B:Int)(k:Nat)(hk:k<2):Ok (zcT [.lst [.int A,.int B],.int k]) fun r=>∃ds,Pot ds/\r= .own ds:=by
 have tail:∀(c b:Int),0<=b->b<4294967296->Ok (zdn [.val (.lst [.int A,.int B]),.val (.int k),.val (.int c),.val (.int b),.val (.int 0),.emp]) fun p=>∃(a:Int) (s3 s5:Sl),p=(.next,[.val (.lst [.int A,.int B]),.val (.int k),.val (.int c),s3,.val (.int a),s5]):=fun c b h0 h1=>by
  simp! only[↓zdn];refine⟨rfl,zcM (fun _ ρ=>∃(a b:Int) (s5:Sl),0<=b/\b<4294967296/\ρ=[.val (.lst [.int A,.int B]),.val (.int k),.val (.int c),.val (.int b),.val (.int a),s5]) ⟨0,_,.emp,h0,h1,rfl⟩ ?_ ?_⟩
  ·rintro i _ hi ⟨a,b,s5,b0,b1,rfl⟩;simp! only[↓ze4];have e1:0<=(b*48271+12345)%2147483647:=Int.emod_nonneg _ (by decide);have e2:(b*48271+12345)%2147483647<2147483647:=Int.emod_lt_of_pos _ (by decide);exact⟨zi4 (by lia),zox (by decide),zi4 (by lia),by decide+kernel,_,_,_,e1,by lia,rfl⟩
  ·rintro _ ⟨a,b,s5,_,_,rfl⟩;exact⟨_,_,_,rfl⟩
 have last:∀c:Int,Ok (zdp [.val (.lst [.int A,.int B]),.val (.int k),.val (.int c),.emp,.emp,.emp]) fun p=>∃ds a,Pot ds/\p=(.ret (.own ds),a):=fun c=>by
  simp! only[↓zdp,↓ze0];refine⟨fun _=>⟨_,_,⟨_,rfl⟩,rfl⟩,fun _=>⟨zi4 (by decide),?_⟩⟩;refine(tail c _ (by lia) (by lia)).mono ?_;rintro _ ⟨a,s3,s5,rfl⟩;simp! only[];exact⟨_,_,⟨_,rfl⟩,rfl⟩
 have:k=0\/k=1:=by lia
 simp! only[↓zcT,↓zfj];refine⟨fun h=>?_,fun h=>by lia⟩;obtain⟨w,ew⟩:∃w:Int,[D.int A,.int B][k]? =some (.int w):=by
  rcases this with rfl|rfl<;>exact⟨_,rfl⟩
 simp! only[ew];refine⟨by decide+kernel,by decide+kernel,by decide+kernel,(last _).mono ?_⟩;rintro _ ⟨d,a,h,rfl⟩;simp! only[];exact⟨_,h,rfl⟩
theorem many_ok (h:Pot ds):Ok (zcV ds []) fun r=>∃(m:Nat) (ds':List D),1<=m/\m<=24/\Pot ds'/\r=(.val (.int m),ds'):=by
 simp! only[↓zcV,↓zfe];refine(zew h (m:=4) (by lia) (by lia)).mono ?_;rintro _ ⟨y,d2,hy,h2,rfl⟩;have hy':∃w:Nat,8<=w/\w<=24/\[D.int 8,D.int 24][y/3]? =some (.int w):=by
  have:y/3=0\/y/3=1:=by lia
  rcases this with e|e<;>rw[e]
  ·exact⟨8,by lia,by lia,rfl⟩
  ·exact⟨24,by lia,by lia,rfl⟩
 obtain⟨w,hw,hw',ew⟩:=hy';have ey:(y:Int)/3=((y/3:Nat):Int):=by lia
 simp! only[ey,ew];refine⟨zk3 (by lia) (by lia),?_⟩;refine(zew h2 (m:=(w:Int)) (by lia) (by lia)).mono ?_;rintro _ ⟨v,d3,hv,h3,rfl⟩;simp! only[];exact⟨1+v,d3,by lia,by lia,h3,by rw[show(1:Int)+(v:Int)=((1+v:Nat):Int) by lia]⟩
theorem zik (h:Pot ds){m:Nat}(m1:1<=m)(m24:m<=24):Ok (za0 ds [.int m]) fun r=>∃(a b:Nat) (ds':List D),a<=b/\b<m/\Pot ds'/\r=(.val (.tup [.int a,.int b]),ds'):=by
 simp! only[↓za0,↓zdg];refine(zew h (m:=(m:Int)) (by lia) (by lia)).mono ?_;rintro _ ⟨a,d2,ha,h2,rfl⟩;simp! only[];refine(zew h2 (m:=2) (by lia) (by lia)).mono ?_;rintro _ ⟨y,d3,hy,h3,rfl⟩;have hy':∃w:Nat,1<=w/\w<=m-a/\[D.int ((m:Int)-a),D.int (min2 ((m:Int)-a) 4)][y]? =some (.int w):=by
  have:y=0\/y=1:=by lia
  rcases this with e|e<;>rw[e]
  ·exact⟨m-a,by lia,by lia,by simp;lia⟩
  ·exact⟨(min2 ((m:Int)-a) 4).toNat,by unfold min2;split<;>lia,by unfold min2;split<;>lia,by simp;unfold min2;split<;>lia⟩
 obtain⟨w,hw,hw',ew⟩:=hy';simp! only[ew];refine(zew h3 (m:=(w:Int)) (by lia) (by lia)).mono ?_;rintro _ ⟨v,d4,hv,h4,rfl⟩;simp! only[];exact⟨a,a+v,d4,by lia,by lia,h4,by rw[show(a:Int)+(v:Int)=((a+v:Nat):Int) by lia]⟩
theorem Lab.join (h:Lab m K i L)(ok:KOk m K)(hi:i<K.length){one other:Int}(e1:L (hI K i).toNat=one)(e2:L (tI K i).toNat=other):
  Lab m K (i+1) fun v=>if L v=other then one else L v:=by
 obtain⟨o1,o2,o3⟩:=ok i hi;refine⟨fun j hj=>?_,fun S cl u v hu hv e=>?_⟩
 ·by_cases z:j=i
  ·subst z;rw[e1,e2,if_pos rfl]
   split<;>rfl
  ·rw[h.one j (by lia)]
 ·have two:=h.two S fun j hj=>cl j (by lia)
  have ci:=cl i (by lia);have t1:∀u:Nat,u<=m->L u=one->(S u↔S (hI K i)):=fun u hu z=>by
   have:=two u (hI K i).toNat hu (by lia) (by rw[z,e1]);rwa[show(((hI K i).toNat:Nat):Int)=hI K i by lia]at this
  have t2:∀u:Nat,u<=m->L u=other->(S u↔S (hI K i)):=fun u hu z=>by
   have:=two u (tI K i).toNat hu (by show(lI K i+1).toNat<=m;lia) (by rw[z,e2]);rw[show(((tI K i).toNat:Nat):Int)=tI K i from qcY (by show 0<=lI K i+1;lia)]at this;exact this.trans ci.symm
  by_cases p:L u=other<;>by_cases q:L v=other
  ·exact(t2 u hu p).trans (t2 v hv q).symm
  ·rw[if_pos p,if_neg q]at e;exact(t2 u hu p).trans (t1 v hv e.symm).symm
  ·rw[if_neg p,if_pos q]at e;exact(t1 u hu e).trans (t2 v hv q).symm
  ·rw[if_neg p,if_neg q]at e;exact two u v hu hv e
def bef (h:Nat->Int):Nat->Int
 |0=>0
 |n+1=>bef h n+(((List.range n).map h).count (h n):Nat)
def aft (g:Nat->Int)(n:Nat):Int:=((List.range n).map fun u=>(((((List.range n).map g).drop (u+1)).count (g u):Nat):Int)).sum
theorem zjF {g h:Nat->Int}{x:Nat}:∀{l:List Nat},(∀u∈l,g u=g x↔h u=h x)->(l.map g).count (g x)=(l.map h).count (h x)
 |[],_=>rfl
 |u::l,a=>by
  rw[qaS,qaS,qcm,qcm,zjF fun v hv=>a v (by simp[hv])];have:=a u (by simp)
  by_cases z:g u=g x
  ·simp[z,this.mp z]
  ·have z2:¬h u=h x:=fun q=>z (this.mpr q)
   simp[z,z2]
theorem znX:∀(l:List Nat) (f g:Nat->Int),(l.map fun u=>f u+g u).sum=(l.map f).sum+(l.map g).sum
 |[],_,_=>rfl
 |u::l,f,g=>by
  simp only[qaS,qcW,znX l f g];lia
theorem zmW (g:Nat->Int)(x:Int):∀l:List Nat,(l.map fun u=>if x=g u then(1:Int)else 0).sum=((l.map g).count x:Nat)
 |[]=>rfl
 |u::l=>by
  rw[qaS,qaS,qcW,zmW g x l,qcm]
  by_cases z:x=g u
  ·simp[z];lia
  ·have:(g u==x)=false:=by simpa using fun q=>z q.symm
   simp[z,this]
theorem aft_succ (g:Nat->Int)(n:Nat):aft g (n+1)=aft g n+(((List.range n).map g).count (g n):Nat):=by
 unfold aft;rw[<-zmW,<-znX,List.range_succ,qb5,qb0];have e0:(((List.range n++[n]).map g).drop (n+1))=[]:=by simp
 simp only[qaS,qbq,qcW,List.sum_nil];rw[e0];simp only[List.count_nil];have:∀l:List Nat,(∀u∈l,u<n)->(l.map fun u=>((((List.map g (List.range n)++[g n]).drop (u+1)).count (g u):Nat):Int)).sum=(l.map fun u=>(((((List.range n).map g).drop (u+1)).count (g u):Nat):Int)+if g n=g u then(1:Int)else 0).sum:=fun l=>by
  induction l with
  |nil=>intro _;rfl
  |cons u l ih=>
   intro hl;simp only[qaS,qcW];rw[ih fun v hv=>hl v (by simp[hv])];have hu:=hl u (by simp);rw[List.drop_append_of_le_length (by simp;lia),List.count_append];congr 1
   by_cases z:g n=g u
   ·simp[z]
   ·have:(g n==g u)=false:=by simpa using z
    simp[z,qcm,this]
 have t:=this (List.range n) fun u hu=>qaj.mp hu
 simp only[qb5,qaS,qbq]at t ⊢;lia
theorem znr {g h:Nat->Int}:∀{n:Nat},(∀u v,u<n->v<n->(g u=g v↔h u=h v))->aft g n=bef h n
 |0,_=>rfl
 |n+1,a=>by
  rw[aft_succ,znr fun u v hu hv=>a u v (by lia) (by lia)];show _=bef h n+_;rw[zjF fun u hu=>a u n (by have:=qaj.mp hu;lia) (by lia)]
theorem zop (n99:n<=101)(g:Nat->Int)(ha:a<n)(hb:b<n):Ok (zfV [.lst (wI n g),.int a,.int b]) fun r=>r= .own (wI n fun v=>if g v=g b then g a else g v):=by
 simp! only[↓zfV,↓zjc,↓zhe];refine⟨by lia,zgS (fun ρ=>∃z,ρ=[.val (.lst (wI n g)),.val (.int b),.val (.int a),z]) (fun v=> .int (if g v=g b then g a else g v)) ⟨_,rfl⟩ ?_ ?_⟩
 ·rintro v _ hv ⟨z,rfl⟩;simp! only[↓zhP,zbf _ ha,zbf _ hb];exact⟨fun q=>⟨by rw[if_pos q],_,rfl⟩,fun q=>⟨by rw[if_neg q],_,rfl⟩⟩
 ·rintro _ ⟨z,rfl⟩;simp! only[]
theorem cnt_ok (l:List Int)(x:Int):dCntI (.lst (l.map .int)) (.int x)=some (.int (l.count x:Nat)):=by
 show(za5 (l.map .int)).map _=_;rw[zcb];rfl
theorem pl_two (a b:Int):Pl 1 (.tup [.int a,.int b]):=zog fun d hd=>by
 simp only[qaq,qce,or_false]at hd;rcases hd with rfl|rfl<;>exact zli 0 _
theorem zor (n:Nat)(g:Nat->Int):wI n g=((List.range n).map g).map .int:=by rw[qb6];rfl
section
variable {m:Nat} (m24:m<=100) {K:Kp} (n60:K.length<=60) (ok:KOk m K)
include m24 n60 ok
theorem known_ok:Ok (zci [.ptr (bkT m (kw K))]) fun r=>∃g,Lab m K K.length g/\r=(.val (.int (aft g (m+1))),[.ptr (bkT m (kw K))]):=by
 simp! only[↓zci,↓zei];refine⟨zbg (by lia) (by lia),?_⟩;rw[show((m:Int)+1).toNat=m+1 by lia];refine⟨by lia,zcM (fun i ρ=>∃g s2,Lab m K i g/\ρ=[.emp,.val (.lst (wI (m+1) g)),s2]) ⟨fun v=>(v:Int),_,Lab.start m K,rfl⟩ ?_ ?_⟩
 ·rintro i _ hi ⟨g,s2,h,rfl⟩;obtain⟨o1,o2,o3⟩:=ok i hi;obtain⟨A,eA⟩:∃A:Nat,hI K i=A:=⟨_,(qcY o1).symm⟩;obtain⟨T,eT⟩:∃T:Nat,lI K i+1=T:=⟨_,(qcY (by lia)).symm⟩;simp! only[↓zer,eA,eT];refine(zop (n:=m+1) (by lia) g (a:=A) (b:=T) (by lia) (by lia)).mono ?_;rintro _ rfl;simp! only[];exact⟨_,_,h.join ok hi (one:=g A) (other:=g T) (by rw[eA];rfl) (by rw[show tI K i=(T:Int)from eT];rfl),rfl⟩
 ·rintro _ ⟨g,s2,h,rfl⟩;simp! only[↓zeh,zna];refine⟨by lia,zgS (fun ρ=>∃s1 s2,ρ=[.val (.lst (wI (m+1) g)),s1,s2]) (fun u=> .int ((((List.range (m+1)).map g).drop (u+1)).count (g u):Nat)) ⟨_,_,rfl⟩ ?_ ?_⟩
  ·rintro u _ hu ⟨s1,s2,rfl⟩;have e1:cutD (wI (m+1) g) (some ((u:Int)+1)) none=(((List.range (m+1)).map g).drop (u+1)).map .int:=by
    rw[show((u:Int)+1)=((u+1:Nat):Int) by lia,cut_drop,zor,List.map_drop]
   simp! only[↓zeB,e1,cnt_ok];exact⟨_,_,rfl⟩
  ·rintro _ ⟨s1,s2,rfl⟩;simp! only[intsOf_w];exact⟨g,h,rfl⟩
theorem can_ok:Ok (zdy [.ptr (bkT m (kw K))]) fun r=>r=(.val (.int ((m:Int)-K.length)),[.ptr (bkT m (kw K))]):=by
 simp! only[↓zdy,↓zgf]
theorem zpg:Ok (zaW [.ptr (bkT m (kw K)),.val (.int m),.val (.lst (kw K))]) fun r=>r=(.val (.bl true),[.ptr (bkT m (kw K)),.emp,.emp]):=by
 simp! only[↓zaW,↓zbR];refine(zek m m24 K n60 ok).mono ?_;rintro _ ⟨L,lb,rfl⟩;simp! only[↓zb5];refine⟨zbg (by lia) (by lia),?_⟩;rw[show((m:Int)+1).toNat=m+1 by lia];refine zcM (fun i ρ=>∃s5,ρ=[.ptr (bkT m (kw K)),.val (.int m),.val (.lst (kw K)),.val (.lst (wI (m+1) L)),.val (.int (bef L i)),s5,.emp]) ⟨_,rfl⟩ ?_ ?_
 ·rintro i _ hi ⟨s5,rfl⟩;have e1:cutD (wI (m+1) L) none (some (i:Int))=((List.range i).map L).map .int:=by
   rw[cut_take,zor,<-List.map_take,<-List.map_take,List.take_range,Nat.min_eq_left (by lia)]
  simp! only[↓zb6,e1,zbf _ hi,cnt_ok];exact⟨_,rfl⟩
 ·rintro _ ⟨s5,rfl⟩;simp! only[];refine(can_ok m24 n60 ok).mono ?_;rintro _ rfl;simp! only[];refine(known_ok m24 n60 ok).mono ?_;rintro _ ⟨g,lg,rfl⟩;have e2:aft g (m+1)=bef L (m+1):=znr fun u v hu hv=>(lg.iff ok (by lia) (by lia)).trans (lb.iff ok (by lia) (by lia)).symm
  simp! only[e2,zep,(pl_two _ _).eq (by decide:1<=50)]
end
theorem ask_ok (n60:K.length<=60)(hab:a<=b)(hb:b<m):Ok (zcJ [.ptr (bkT m (kw K)),.val (.int a),.val (.int b)]) fun r=>
  (¬zja K a ((b:Int)+1)/\r=(.tre (.tup [.d (.str "free"),.d .non]),[.ptr (bkT m (kw K)),.emp,.emp]))\/
  ∃q,Sgs K a ((b:Int)+1) q/\r=(.tre (.tup [.d (.str "sum"),.d (.int (tot K q)),.l (q.map pr)]),[.ptr (bkT m (kw K)),.emp,.emp]):=by
 simp! only[↓zcJ,↓zhG];refine(zj2 hab hb).mono ?_;rintro _ rfl;simp! only[];refine(zlZ K n60 a b).mono ?_;rintro _ (⟨nr,rfl⟩|⟨q,s,rfl⟩)
 ·simp! only[zkl]
  first|exact .inl ⟨nr,rfl⟩|exact .inl nr
 ·simp! only[pr_fl,zkl,↓zgC];refine(zll s.sg n60).mono ?_;rintro _ rfl;simp! only[];exact .inr ⟨q,s,rfl⟩
theorem ne_sum:dNe (.str "sum") (.str "sum")=some (.bl false):=(show Pl 0 (.str "sum")from⟨rfl,qaW _⟩).ne (by decide)
theorem pl_free:Pl 1 (.tup [.str "free",.non]):=zog fun d hd=>by
 simp only[qaq,qce,or_false]at hd;rcases hd with rfl|rfl<;>exact⟨rfl,qaW _⟩
section
variable {m:Nat} (m24:m<=100) {K:Kp} (n60:K.length<=60) (ok:KOk m K) {a b:Nat} (hab:a<=b) (hb:b<m)
include m24 n60 ok hab hb
theorem zmR (nr:¬zja K a ((b:Int)+1)):Ok (zaE [.int m,.lst (kw K),.int a,.int b,.tup [.str "free",.non]]) fun r=>r= .val (.bl true):=by
 simp! only[↓zaE,↓zbj];refine(zek m m24 K n60 ok).mono ?_;rintro _ ⟨L,lb,rfl⟩;have ne:¬L a=L (b+1):=fun z=>nr (by have:=(lb.iff ok (u:=a) (v:=b+1) (by lia) (by lia)).mp z;simpa using this)
 have eb:((b:Int)+1)=((b+1:Nat):Int):=by lia
 simp! only[↓zbv,↓zbw,zbf _ (show a<m+1 by lia),zbf _ (show b+1<m+1 by lia),eb,ne,pl_free.eq (by decide:1<=50)]
theorem znw (s:Sgs K a ((b:Int)+1) q):Ok (zaE [.int m,.lst (kw K),.int a,.int b,.tup [.str "sum",.int (tot K q),.lst (q.map pr)]]) fun r=>r= .val (.bl true):=by
 simp! only[↓zaE,↓zbj];refine(zek m m24 K n60 ok).mono ?_;rintro _ ⟨L,lb,rfl⟩;have e:L a=L (b+1):=(lb.iff ok (u:=a) (v:=b+1) (by lia) (by lia)).mpr (by simpa using s.sg.reach);have eb:((b:Int)+1)=((b+1:Nat):Int):=by lia
 simp! only[zmb,↓zbv,↓zbw,zbf _ (show a<m+1 by lia),zbf _ (show b+1<m+1 by lia),eb,e,zep,ne_sum];refine⟨fun z=>absurd rfl z,fun _=>?_⟩;refine(are_ok m24 n60 ok (by simpa using s) hab hb).mono ?_;rintro _ rfl;simp! only[];refine(zgq s.sg n60).mono ?_;rintro _ rfl;simp! only[]
end
theorem back1_ok (a b:Nat)(t:Int)(hl:K.length<=60):Ok (zc3 [.ptr (bkT m (kw (K++[(a,b,t)])))]) fun r=>r=(.val .non,[.ptr (bkT m (kw K))]):=by
 rw[<-zgi];have kl:(kw K).length=K.length:=zd5 _ _
 generalize kw K=kd at kl ⊢
 have e1:(kd++[D.tup [.int a,.int b,.int t]]).isEmpty=false:=by simp
 have e2:(kd++[D.tup [.int a,.int b,.int t]]).dropLast=kd:=List.dropLast_concat;simp! only[↓zc3,↓zfk,↓zeW,kl,e1,e2];exact fun z=>by lia
theorem kw_last (K:Kp)(a b:Nat)(t:Int):(kw (K++[(a,b,t)])).getLast? =some (.tup [.int a,.int b,.int t]):=by rw[<-zgi];simp
theorem kw_drop (K:Kp)(a b:Nat)(t:Int):(kw (K++[(a,b,t)])).dropLast=kw K:=by rw[<-zgi];exact List.dropLast_concat
theorem KOk.pre (ok:KOk m (K++[(a,b,t)])):KOk m K/\a<=b/\b<m:=by
 refine⟨fun i hi=>?_,?_⟩
 ·have:=ok i (by simp;lia);simp only[hI,lI,List.getD,qa9 hi]at this ⊢;exact this
 ·have:=ok K.length (by simp);simp[hI,lI]at this;lia
theorem alone_past:Ok (zaY [.exc "NoPast",.int 3]) fun x=>x= .val (.bl true):=by
 have e1:List.lookup ("NoPast":Str) zcg=some false:=by decide+kernel
 have e2:List.lookup ("NoPast":Str) zfJ=some false:=by decide+kernel
 have e3:List.lookup ("NoPast":Str) zdd=some false:=by decide+kernel
 have e4:List.lookup ("NoPast":Str) zdZ=some false:=by decide+kernel
 have e5:List.lookup ("NoPast":Str) zdW=some false:=by decide+kernel
 have e6:List.lookup ("NoPast":Str) zeI=some true:=by decide+kernel
 have e7:List.lookup ("NoPast":Str) zeK=some false:=by decide+kernel
 have e8:List.lookup ("NoPast":Str) zfG=some false:=by decide+kernel
 have e9:List.lookup ("NoPast":Str) zeO=some false:=by decide+kernel
 have e10:List.lookup ("NoPast":Str) zdb=some true:=by decide+kernel
 have e11:List.lookup ("NoPast":Str) zcf=some true:=by decide+kernel
 have ec:zlr (.lst [.bl false,.bl false,.bl false,.bl true,.bl false,.bl false,.bl false,.bl false,.bl false]) (.bl true)=some (.int 1):=rfl;simp! only[↓zaY,↓zdc,e1,e2,e3,e4,e5,e6,e7,e8,e9,e10,e11,↓zc4,ec]
theorem alone_place:Ok (zaY [.exc "NoPlace",.int 4]) fun x=>x= .val (.bl true):=by
 have e1:List.lookup ("NoPlace":Str) zcg=some false:=by decide+kernel
 have e2:List.lookup ("NoPlace":Str) zfJ=some false:=by decide+kernel
 have e3:List.lookup ("NoPlace":Str) zdd=some false:=by decide+kernel
 have e4:List.lookup ("NoPlace":Str) zdZ=some true:=by decide+kernel
 have e5:List.lookup ("NoPlace":Str) zdW=some false:=by decide+kernel
 have e6:List.lookup ("NoPlace":Str) zeI=some false:=by decide+kernel
 have e7:List.lookup ("NoPlace":Str) zeK=some false:=by decide+kernel
 have e8:List.lookup ("NoPlace":Str) zfG=some false:=by decide+kernel
 have e9:List.lookup ("NoPlace":Str) zeO=some false:=by decide+kernel
 have e10:List.lookup ("NoPlace":Str) zdb=some true:=by decide+kernel
 have e11:List.lookup ("NoPlace":Str) zcf=some true:=by decide+kernel
 have ec:zlr (.lst [.bl false,.bl false,.bl false,.bl false,.bl true,.bl false,.bl false,.bl false,.bl false]) (.bl true)=some (.int 1):=rfl;simp! only[↓zaY,↓zdc,e1,e2,e3,e4,e5,e6,e7,e8,e9,e10,e11,↓zc4,ec]
section
variable {m:Nat} {ds:List D} {a b:Int}
theorem zhg (h:¬(0<=a/\a<=b/\b<m)):zaC [.ptr (bkT m ds),.val (.int a),.val (.int b)]=some (("NoPlace":Str),[.ptr (bkT m ds),.emp,.emp]):=by
 have:zay [.ptr (bkT m ds),.val (.int a),.val (.int b)]=some (("NoPlace":Str),[.ptr (bkT m ds),.val (.int a),.val (.int b)]):=by
  unfold zay;refine zmc ?_;simp! only[];refine⟨fun p=>⟨fun q=>⟨?_,rfl⟩,fun _=>rfl⟩,fun _=>rfl⟩;rw[qaa (by lia)];rfl
 show(zay [.ptr (bkT m ds),.val (.int a),.val (.int b)]).bind _=_;rw[this];rfl
theorem zjZ (h:0<=a/\a<=b/\b<m):zaC [.ptr (bkT m ds),.val (.int a),.val (.int b)]=none:=by
 have:zay [.ptr (bkT m ds),.val (.int a),.val (.int b)]=none:=by
  unfold zay;refine znj ?_;simp! only[];refine⟨fun p=>⟨fun q=>?_,fun z=>by lia⟩,fun z=>by lia⟩;rw[qbA (by lia)];rfl
 show(zay [.ptr (bkT m ds),.val (.int a),.val (.int b)]).bind _=_;rw[this];rfl
theorem zm6 (t:Int)(h:¬(0<=a/\a<=b/\b<m)):zdC [.ptr (bkT m ds),.val (.int a),.val (.int b),.val (.int t)]=some (("NoPlace":Str),[.ptr (bkT m ds),.emp,.emp,.emp]):=by
 have:zbU [.ptr (bkT m ds),.val (.int a),.val (.int b),.val (.int t),.emp]=some (("NoPlace":Str),[.ptr (bkT m ds),.val (.int a),.val (.int b),.val (.int t),.emp]):=by
  unfold zbU;refine zcl ?_;simp! only[zhg h]
 show(zbU [.ptr (bkT m ds),.val (.int a),.val (.int b),.val (.int t),.emp]).bind _=_;rw[this];rfl
theorem zmS (t:Int)(h:0<=a/\a<=b/\b<m):zdC [.ptr (bkT m ds),.val (.int a),.val (.int b),.val (.int t)]=none:=by
 have:zbU [.ptr (bkT m ds),.val (.int a),.val (.int b),.val (.int t),.emp]=none:=by
  unfold zbU;refine zcl ?_;simp! only[zjZ h]
  rfl
 show(zbU [.ptr (bkT m ds),.val (.int a),.val (.int b),.val (.int t),.emp]).bind _=_;rw[this];rfl
theorem xask_bad (h:¬(0<=a/\a<=b/\b<m)):zfL [.ptr (bkT m ds),.val (.int a),.val (.int b)]=some (("NoPlace":Str),[.ptr (bkT m ds),.emp,.emp]):=by
 have:zeu [.ptr (bkT m ds),.val (.int a),.val (.int b),.emp]=some (("NoPlace":Str),[.ptr (bkT m ds),.val (.int a),.val (.int b),.emp]):=by
  unfold zeu;refine zcl ?_;simp! only[zhg h]
 show(zeu [.ptr (bkT m ds),.val (.int a),.val (.int b),.emp]).bind _=_;rw[this];rfl
theorem zmn:zcU [.ptr (bkT m [])]=some (("NoPast":Str),[.ptr (bkT m [])]):=by
 have:zbm [.ptr (bkT m [])]=some (("NoPast":Str),[.ptr (bkT m [])]):=by
  unfold zbm;refine zmc ?_;simp! only[];exact⟨rfl,rfl⟩
 show(zbm [.ptr (bkT m [])]).bind _=_;rw[this];rfl
theorem zmq {d:D}:zcU [.ptr (bkT m (ds++[d]))]=none:=by
 have:zbm [.ptr (bkT m (ds++[d]))]=none:=by
  unfold zbm;refine znj ?_;simp! only[];lia
 show(zbm [.ptr (bkT m (ds++[d]))]).bind _=_;rw[this];rfl
theorem zod {way:Nat}(hw:way<2)(h:¬(0<=a/\a<=b/\b<m)):Ok (zax [.ptr (bkT m ds),.val (.int way),.val (.int a),.val (.int b)]) fun r=>r=(.val (.exc "NoPlace"),[.ptr (bkT m ds),.emp,.emp,.emp]):=by
 simp! only[↓zax,↓zbV];refine zhs (cc:="NoPlace") (ρ1:=[.ptr (bkT m ds),.val (.int way),.val (.int a),.val (.int b),.val .non,.emp]) ?_ (by decide+kernel) ?_
 ·unfold zbs
  by_cases z:way=0
  ·subst z;refine zhM ?_;simp! only[];refine⟨by decide,?_⟩;refine zcl ?_;simp! only[zm6 _ h]
  ·obtain rfl:way=1:=by lia
   refine zfQ ?_;simp! only[];refine⟨by decide,?_⟩;refine zhM ?_;simp! only[];refine⟨by decide,?_⟩;refine zcl ?_;simp! only[xask_bad h]
 ·simp! only[↓za3]
theorem heard_none:Ok (zax [.ptr (bkT m []),.val (.int 2),.val (.int a),.val (.int b)]) fun r=>r=(.val (.exc "NoPast"),[.ptr (bkT m []),.emp,.emp,.emp]):=by
 simp! only[↓zax,↓zbV];refine zhs (cc:="NoPast") (ρ1:=[.ptr (bkT m []),.val (.int 2),.val (.int a),.val (.int b),.val .non,.emp]) ?_ (by decide+kernel) ?_
 ·unfold zbs;refine zfQ ?_;simp! only[];refine zfQ ?_;simp! only[];refine zcl ?_;simp! only[zmn]
 ·simp! only[↓za3]
end
theorem zmx {m:Nat}(a b:Nat)(t:Int)(hl:K.length<=60){x y:Int}:Ok (zax [.ptr (bkT m (kw (K++[(a,b,t)]))),.val (.int 2),.val (.int x),.val (.int y)]) fun r=>r=(.val .non,[.ptr (bkT m (kw K)),.emp,.emp,.emp]):=by
 simp! only[↓zax,↓zbV];refine zjQ ?_ ?_
 ·unfold zbs;refine zfQ ?_;simp! only[];refine zfQ ?_;simp! only[];refine zcl ?_;simp! only[<-zgi,zmq]
  rfl
 ·simp! only[↓zcE];refine(back1_ok (m:=m) a b t hl).mono ?_;rintro _ rfl;simp! only[↓za3]
theorem zmP {m:Nat}(n60:K.length<=60)(hab:a<=b)(hb:b<m):Ok (zax [.ptr (bkT m (kw K)),.val (.int 0),.val (.int a),.val (.int b)]) fun r=>
  (¬zja K a ((b:Int)+1)/\r=(.val (.tup [.str "new",.int K.length]),[.ptr (bkT m (kw (K++[(a,b,7)]))),.emp,.emp,.emp]))\/
  ∃q,Sgs K a ((b:Int)+1) q/\r=(.val (.tup [.str (if tot K q=7 then "known" else "clash"),.lst (q.map pr)]),[.ptr (bkT m (kw K)),.emp,.emp,.emp]):=by
 simp! only[↓zax,↓zbV];refine zjQ ?_ ?_
 ·unfold zbs;refine zhM ?_;simp! only[];refine zcl ?_;simp! only[zmS (m:=m) (ds:=kw K) 7 (show 0<=(a:Int)/\(a:Int)<=b/\(b:Int)<m by lia)]
  rfl
 ·simp! only[↓zcE];refine(tell_ok (m:=m) n60 hab hb 7).mono ?_;rintro _ (⟨nr,rfl⟩|⟨q,s,rfl⟩)
  ·simp! only[↓za3]
   first|exact .inl ⟨nr,rfl⟩|exact .inl nr
  ·simp! only[↓za3];exact .inr ⟨q,s,rfl⟩
theorem odd_ok (h:Pot ds){m:Nat}(m24:m<=24):Ok (zdB ds [.int m]) fun r=>∃(a b:Int) (ds':List D),¬(0<=a/\a<=b/\b<m)/\Pot ds'/\r=(.val (.tup [.int a,.int b]),ds'):=by
 simp! only[↓zdB,↓zf7];refine(zew h (m:=1000000000) (by lia) (by lia)).mono ?_;rintro _ ⟨y,d2,hy,h2,rfl⟩;simp! only[];refine(zew h2 (m:=9) (by lia) (by lia)).mono ?_;rintro _ ⟨i,d3,hi,h3,rfl⟩;have:i=0\/i=1\/i=2\/i=3\/i=4\/i=5\/i=6\/i=7\/i=8:=by lia
 rcases this with rfl|rfl|rfl|rfl|rfl|rfl|rfl|rfl|rfl<;>(simp! only[];exact⟨_,_,_,by lia,h3,rfl⟩)
theorem zhf (h:Pot ds){m:Nat}(m1:1<=m)(m24:m<=24){K:Kp}(n60:K.length<=60)(ok:KOk m K):Ok (zbc [.par ds,.ptr (bkT m (kw K)),.val (.int m),.val (.lst (kw K))]) fun r=>∃ds',Pot ds'/\r=(.val (.bl true),[.par ds',.ptr (bkT m (kw K)),.emp,.emp]):=by
 simp! only[↓zbc,↓zdK];refine(zpg (m:=m) (by lia) n60 ok).mono ?_;rintro _ rfl;simp! only[↓zd9,↓zd1];refine⟨zbg (by lia) (by lia),zcM (fun i ρ=>∃d s4 s5 s6,Pot d/\ρ=[.par d,.ptr (bkT m (kw K)),.val (.int m),.val (.lst (kw K)),s4,s5,s6]) ⟨ds,_,_,_,h,rfl⟩ ?_ ?_⟩
 ·rintro i _ hi ⟨d,s4,s5,s6,hd,rfl⟩;simp! only[↓zd7];refine(zik hd m1 m24).mono ?_;rintro _ ⟨a,b,d7,hab,hb,h7,rfl⟩;simp! only[];refine(ask_ok (m:=m) (K:=K) n60 hab hb).mono ?_;rintro _ (⟨nr,rfl⟩|⟨q,s,rfl⟩)
  ·simp! only[];refine(zmR (m:=m) (by lia) n60 ok hab hb nr).mono ?_;rintro _ rfl;simp! only[];exact⟨d7,_,_,_,h7,rfl⟩
  ·simp! only[];refine(znw (m:=m) (by lia) n60 ok hab hb s).mono ?_;rintro _ rfl;simp! only[];exact⟨d7,_,_,_,h7,rfl⟩
 ·rintro _ ⟨d,s4,s5,s6,hd,rfl⟩;simp! only[];exact⟨d,hd,rfl⟩
theorem znh (h:Pot ds):ds.all flD=true:=by
 obtain⟨p,rfl⟩:=h
 rfl
theorem math (ns:List Int)(hl:ns.length<=63):zjT [.scr ns]=some (.val (.bl true)):=by
 have:Ok (zjT [.scr ns]) fun x=>x= .val (.bl true):=by
  simp! only[↓zjT,↓m_law,↓zlK];refine⟨rfl,zcM (fun i ρ=>∃s1 s2 s3 s4 s5 s6 s7 s8 s9,ρ=[.val (.scr ns),s1,s2,s3,s4,s5,s6,s7,s8,s9]) ⟨_,_,_,_,_,_,_,_,_,rfl⟩ ?_ ?_⟩
  ·rintro k _ hk ⟨s1,s2,s3,s4,s5,s6,s7,s8,s9,rfl⟩;simp! only[↓zlX];refine(two_ok ns).mono ?_;rintro _ ⟨A,B,rfl⟩;simp! only[];refine(deal2_ok A B k hk).mono ?_;rintro _ ⟨d1,h1,rfl⟩;simp! only[];refine(many_ok h1).mono ?_;rintro _ ⟨m,d2,m1,m24,h2,rfl⟩;simp! only[];refine heard_none.mono ?_;rintro _ rfl;simp! only[];refine alone_past.mono ?_;rintro _ rfl;simp! only[↓zlY,↓zlm];refine(zew h2 (m:=11) (by lia) (by lia)).mono ?_;rintro _ ⟨x,d4,hx,h4,rfl⟩;simp! only[];rw[show(2:Int)+(x:Int)=((2+x:Nat):Int) by lia];refine⟨zbg (by lia) (by lia),?_⟩;simp! only[];refine zcM (fun i ρ=>∃(K:Kp) (d:List D) (s6 s7 s8 s9:Sl),KOk m K/\K.length<=i/\Pot d/\ρ=[.val (.scr ns),.val (.int k),.own d,.val (.int m),.tre (bkT m (kw K)),.own (kw K),s6,s7,s8,s9]) ⟨[],d4,s6,s7,s8,s9,fun i hi=>by simp at hi,qaH _,h4,rfl⟩ ?_ ?_
   ·rintro i _ hi ⟨K,d6,s6,s7,s8,s9,ok,kl,h6,rfl⟩;simp! only[↓zly];refine(odd_ok h6 m24).mono ?_;rintro _ ⟨a,b,d7,hab,h7,rfl⟩;simp! only[↓zlL];refine⟨zbg (by lia) (by lia),zcM (fun j ρ=>∃(s9:Sl),ρ=[.val (.scr ns),.val (.int k),.own d7,.val (.int m),.tre (bkT m (kw K)),.own (kw K),.val (.int i),.val (.int a),.val (.int b),s9]) ⟨_,rfl⟩ ?_ ?_⟩
    ·rintro j _ hj ⟨s9,rfl⟩;simp! only[↓zlt];refine(zod hj hab).mono ?_;rintro _ rfl;simp! only[];refine alone_place.mono ?_;rintro _ rfl;simp! only[];exact⟨_,rfl⟩
    ·rintro _ ⟨s9,rfl⟩;simp! only[];refine(zhf h7 m1 m24 (K:=K) (by lia) ok).mono ?_;rintro _ ⟨d8,h8,rfl⟩;simp! only[zkl,↓zlp,znh h8];refine(zik h8 m1 m24).mono ?_;rintro _ ⟨a,b,d9,hab,hb,h9,rfl⟩;simp! only[];refine(zmP (m:=m) (K:=K) (by lia) hab hb).mono ?_;rintro _ (⟨nr,rfl⟩|⟨q,s,rfl⟩)
     ·simp! only[];refine(told_new (m:=m) (by lia) (by lia) ok hab hb 7 nr).mono ?_;rintro _ rfl;simp! only[];exact⟨_,d9,_,_,_,_,ok.snoc hab hb 7,by simp;lia,h9,rfl⟩
     ·simp! only[];refine(told_old (m:=m) (by lia) (by lia) ok hab hb 7 s).mono ?_;rintro _ rfl;simp! only[];exact⟨K,d9,_,_,_,_,ok,by lia,h9,rfl⟩
   ·rintro _ ⟨K,d6,s6,s7,s8,s9,ok,kl,h6,rfl⟩;have kwl:(kw K).length=K.length:=zd5 _ _;simp! only[↓zl6,kwl];refine⟨zbg (by lia) (by lia),zcM (fun i ρ=>∃(K':Kp) (d:List D) (s6:Sl),KOk m K'/\K'.length+i=K.length/\Pot d/\ρ=[.val (.scr ns),.val (.int k),.own d,.val (.int m),.tre (bkT m (kw K')),.own (kw K'),s6,s7,s8,s9]) ⟨K,d6,_,ok,by lia,h6,rfl⟩ ?_ ?_⟩
    ·rintro i _ hi ⟨K',d,s6,ok',kl',hd,rfl⟩;rcases List.eq_nil_or_concat K' with rfl|⟨K0,⟨a,b,t⟩,rfl⟩
     ·simp at kl';lia
     ·rw[List.concat_eq_append]at ok' kl' ⊢;obtain⟨ok0,hab,hb⟩:=ok'.pre;simp only[qbc,qaQ,qbC]at kl';simp! only[↓zmd,kw_last,kw_drop];refine(zmx (m:=m) (K:=K0) a b t (by lia)).mono ?_;rintro _ rfl;simp! only[];refine(zhf hd m1 m24 (K:=K0) (by lia) ok0).mono ?_;rintro _ ⟨d8,h8,rfl⟩;simp! only[zkl,znh h8];exact⟨K0,d8,_,ok0,by lia,h8,rfl⟩
    ·rintro _ ⟨K',d,s6,ok',kl',hd,rfl⟩;obtain rfl:K'=[]:=qbM (by lia);simp! only[];refine(heard_none (m:=m)).mono ?_;rintro _ rfl;simp! only[];refine alone_past.mono ?_;rintro _ rfl;simp! only[];refine(zhf hd m1 m24 (K:=[]) (by simp) ok').mono ?_;rintro _ ⟨d8,h8,rfl⟩;simp! only[zkl,znh h8];exact⟨_,_,_,_,_,_,_,_,_,rfl⟩
  ·rintro _ ⟨s1,s2,s3,s4,s5,s6,s7,s8,s9,rfl⟩;simp! only[]
 obtain⟨_,e,rfl⟩:=this;exact e
end Prf
def PySem.W.Fast.tw2821792320661554134:Nat:=0
def PySem.W.Fast.tw8334585985436522497:Nat:=0
def PySem.W.Fast.tw16393125098124432466:Nat:=0
def PySem.W.Fast.tw2723586703881815460:Nat:=0
def PySem.W.Fast.tw11417513919254385386:Nat:=0
def PySem.W.Fast.tw13758869457503659768:Nat:=0
def PySem.W.Fast.tw6800372783862927962:Nat:=0
def PySem.W.Fast.tw5193584682821787132:Nat:=0
def PySem.W.Fast.tw3164272676455843392:Nat:=0
def PySem.W.Fast.tw1609342361593437720:Nat:=0
def PySem.W.Fast.tw16927957800513868363:Nat:=0
def PySem.W.Fast.tw13681387874303337089:Nat:=0
def PySem.W.Fast.tw11619145876748284814:Nat:=0
def PySem.W.Fast.tw2843365214911974730:Nat:=0
def PySem.W.Fast.tw1640933235390735689:Nat:=0
def PySem.W.Fast.tw1743763292621807407:Nat:=0
def PySem.W.Fast.tw11850214974641538967:Nat:=0
def PySem.W.Fast.tw11244018104317369573:Nat:=0
def PySem.W.Fast.tw4735606847796038979:Nat:=0
def PySem.W.Fast.tw1936004818983238372:Nat:=0
def PySem.W.Fast.tw9003793284545954327:Nat:=0
def PySem.W.Fast.tw16645210464341446617:Nat:=0
def PySem.W.Fast.tw910100064892070275:Nat:=0
def PySem.W.Fast.tw10824982079269332147:Nat:=0
def PySem.W.Fast.tw2753486216431755603:Nat:=0
def PySem.W.Fast.tw6381421058574607999:Nat:=0
def PySem.W.Fast.tw9176853861405644621:Nat:=0
def PySem.W.Fast.tw13282243851359027435:Nat:=0
def PySem.W.Fast.tw11670948326592694914:Nat:=0
def PySem.W.Fast.tw12303594981857514355:Nat:=0
def PySem.W.Fast.tw463236623112795517:Nat:=0
def PySem.W.Fast.tw2915122301422361301:Nat:=0
def PySem.W.Fast.tw8058228053583200130:Nat:=0
def PySem.W.Fast.tw16589283812211095322:Nat:=0
def PySem.W.Fast.tw18029492576109026543:Nat:=0
def PySem.W.Fast.tw4356174905786030801:Nat:=0
def PySem.W.Fast.tw11416224651873209041:Nat:=0
def PySem.W.Fast.tw16728918009951956913:Nat:=0
def PySem.W.Fast.tw17113924724564325333:Nat:=0
def PySem.W.Fast.tw15744236522440667749:Nat:=0
def PySem.W.Fast.tw2057145593553848443:Nat:=0
def PySem.W.Fast.tw5691953833831847515:Nat:=0
def PySem.W.Fast.tw3820328961190730256:Nat:=0
def PySem.W.Fast.tw17437638667136280293:Nat:=0
def PySem.W.Fast.tw17448741111730699020:Nat:=0
def PySem.W.Fast.tw14987994094041259913:Nat:=0
def PySem.W.Fast.tw10193699139104839379:Nat:=0
def PySem.W.Fast.tw2623803057176440782:Nat:=0
def PySem.W.Fast.tw17721627696265406801:Nat:=0
def PySem.W.Fast.tw15519315624623552214:Nat:=0
def PySem.W.Fast.tw8878187706708780181:Nat:=0
def PySem.W.Fast.tw2847694876378255691:Nat:=0
def PySem.W.Fast.tw11812216207556490:Nat:=0
def PySem.W.Fast.tw1164040984745565896:Nat:=0
def PySem.W.Fast.tw2736643484028583008:Nat:=0
def PySem.W.Fast.tw15190416971326762819:Nat:=0
def PySem.W.Fast.tw10794522702636855104:Nat:=0
def PySem.W.Fast.tw17472154054986491182:Nat:=0
def PySem.W.Fast.tw6665349096392491073:Nat:=0
def PySem.W.Fast.tw2327086619197113834:Nat:=0
def PySem.W.Fast.tw9847913749073880340:Nat:=0
def PySem.W.Fast.tw14295580793056653907:Nat:=0
def PySem.W.Fast.tw4885345723144083720:Nat:=0
def PySem.W.Fast.tw17085331161536146675:Nat:=0
def PySem.W.Fast.tw1726556651635070069:Nat:=0
def PySem.W.Fast.tw17303544730495381365:Nat:=0
def PySem.W.Fast.tw11029330585276509499:Nat:=0
def PySem.W.Fast.tw12827579479313350842:Nat:=0
def PySem.W.Fast.tw12583446049526016947:Nat:=0
def PySem.W.Fast.tw15083429761283632423:Nat:=0
def PySem.W.Fast.tw6173912196294312961:Nat:=0
def PySem.W.Fast.tw17519194961157872510:Nat:=0
def PySem.W.Fast.tw18131259665939305893:Nat:=0
def PySem.W.Fast.tw850022019409877120:Nat:=0
def PySem.W.Fast.tw10819248227241343093:Nat:=0
def PySem.W.Fast.tw1991588078030631222:Nat:=0
def PySem.W.Fast.tw4484801491523085700:Nat:=0
def PySem.W.Fast.tw12950193270583601987:Nat:=0
def PySem.W.Fast.tw3310452748100851782:Nat:=0
def PySem.W.Fast.tw17650928252954415264:Nat:=0
def PySem.W.Fast.tw4131156512684772031:Nat:=0
def PySem.W.Fast.tw8273107412798013281:Nat:=0
def PySem.W.Fast.tw1808800297634485650:Nat:=0
def PySem.W.Fast.tw15796453007755046229:Nat:=0
def PySem.W.Fast.tw16838656219656519298:Nat:=0
def PySem.W.Fast.tw7438323812731734674:Nat:=0
def PySem.W.Fast.tw5866612739921249693:Nat:=0
def PySem.W.Fast.tw4667889087392192837:Nat:=0
def PySem.W.Fast.tw5240595702757962540:Nat:=0
def PySem.W.Fast.tw4725913336797415137:Nat:=0
def PySem.W.Fast.tw558523391037970809:Nat:=0
def PySem.W.Fast.tw11452470479765265983:Nat:=0
def PySem.W.Fast.tw5183853636370328481:Nat:=0
def PySem.W.Fast.tw8500061770622210037:Nat:=0
def PySem.W.Fast.tw18405915699729071095:Nat:=0
def PySem.W.Fast.tw6708319215553463718:Nat:=0
def PySem.W.Fast.tw7701876573643859706:Nat:=0
def PySem.W.Fast.tw200008658294709271:Nat:=0
def PySem.W.Fast.tw9088604288809970524:Nat:=0
def PySem.W.Fast.tw16315660321086078522:Nat:=0
def PySem.W.Fast.tw13824442283273064415:Nat:=0
def PySem.W.Fast.tw7730440472696980179:Nat:=0
def PySem.W.Fast.tw6181203252560354727:Nat:=0
def PySem.W.Fast.tw2868992924684021311:Nat:=0
def PySem.W.Fast.tw13810499617304647050:Nat:=0
def PySem.W.Fast.tw2747534204496456769:Nat:=0
def PySem.W.Fast.tw15090327044034601384:Nat:=0
def PySem.W.Fast.tw1610784323714183592:Nat:=0
def PySem.W.Fast.tw13693040591241910190:Nat:=0
def PySem.W.Fast.tw15886181015310900409:Nat:=0
def PySem.W.Fast.tw15774778652811972746:Nat:=0
def PySem.W.Fast.tw2488681414268236328:Nat:=0
def PySem.W.Fast.tw8807580828778958292:Nat:=0
def PySem.W.Fast.tw6683671803451030494:Nat:=0
def PySem.W.Fast.tw10069182708382016185:Nat:=0
def PySem.W.Fast.tw5395597886947808219:Nat:=0
def PySem.W.Fast.tw12786871563959827749:Nat:=0
def PySem.W.Fast.tw107243373383198518:Nat:=0
def PySem.W.Fast.tw16289907639594680243:Nat:=0
def PySem.W.Fast.tw9318759263850043249:Nat:=0
def PySem.W.Fast.tw12050310681062329587:Nat:=0
def PySem.W.Fast.tw2056388834367510038:Nat:=0
def PySem.W.Fast.tw2700770455821397221:Nat:=0
def PySem.W.Fast.tw14947856210607181252:Nat:=0
def PySem.W.Fast.tw6166816371369953613:Nat:=0
def PySem.W.Fast.tw15915083057698941490:Nat:=0
def PySem.W.Fast.tw12622188897576629169:Nat:=0
def PySem.W.Fast.tw4964239067367894179:Nat:=0
def PySem.W.Fast.tw15532696406685588061:Nat:=0
def PySem.W.Fast.tw10536713918786123986:Nat:=0
def PySem.W.Fast.tw11066235479799224017:Nat:=0
def PySem.W.Fast.tw12473802457009637054:Nat:=0
def PySem.W.Fast.tw13667508216602615598:Nat:=0
def PySem.W.Fast.tw1278227782311419534:Nat:=0
def PySem.W.Fast.tw3694038539864917774:Nat:=0
def PySem.W.Fast.tw2589711967523996265:Nat:=0
def PySem.W.Fast.tw9481070711662298706:Nat:=0
def PySem.W.Fast.tw7328909670208234258:Nat:=0
def PySem.W.Fast.tw10518360043622582306:Nat:=0
def PySem.W.Fast.tw7050251237612183227:Nat:=0
def PySem.W.Fast.tw14353159867351469777:Nat:=0
def PySem.W.Fast.tw1443856098500702936:Nat:=0
def PySem.W.Fast.tw4965039411830821811:Nat:=0
def PySem.W.Fast.tw16669144992712129336:Nat:=0
def PySem.W.Fast.tw6463299387809565531:Nat:=0
def PySem.W.Fast.tw9145292281886286821:Nat:=0
def PySem.W.Fast.tw12846397609802991551:Nat:=0
def PySem.W.Fast.tw14138954045661907563:Nat:=0
def PySem.W.Fast.tw8511257643527346816:Nat:=0
def PySem.W.Fast.tw11732830713336501093:Nat:=0
def PySem.W.Fast.tw11649862426952731844:Nat:=0
def PySem.W.Fast.tw6199700911584119454:Nat:=0
def PySem.W.Fast.tw8448771239214524569:Nat:=0
def PySem.W.Fast.tw614780848106703287:Nat:=0
def PySem.W.Fast.tw12267453849101593503:Nat:=0
def PySem.W.Fast.tw12141865396416901690:Nat:=0
def PySem.W.Fast.tw16696035554192255423:Nat:=0
def PySem.W.Fast.tw2370020681628544746:Nat:=0
def PySem.W.Fast.tw17599101691983967777:Nat:=0
def PySem.W.Fast.tw12820847622402371284:Nat:=0
def PySem.W.Fast.tw9524552503737224604:Nat:=0
def PySem.W.Fast.tw688104034205236105:Nat:=0
def PySem.W.Fast.tw17353174552954862067:Nat:=0
def PySem.W.Fast.tw17897102436543404112:Nat:=0
def PySem.W.Fast.tw5044856432072783234:Nat:=0
def PySem.W.Fast.tw11833119455679650211:Nat:=0
def PySem.W.Fast.tw16460948227921907426:Nat:=0
def PySem.W.Fast.tw16300402267249992681:Nat:=0
def PySem.W.Fast.tw3311986499709964623:Nat:=0
def PySem.W.Fast.tw11968779785219092144:Nat:=0
def PySem.W.Fast.tw687076682044851952:Nat:=0
def PySem.W.Fast.tw5820902609866816110:Nat:=0
def PySem.W.Fast.tw15180704586020691204:Nat:=0
def PySem.W.Fast.tw3264775757104226353:Nat:=0
def PySem.W.Fast.tw12268322443529756459:Nat:=0
def PySem.W.Fast.tw18233151935001886010:Nat:=0
def PySem.W.Fast.tw15372378848229343450:Nat:=0
def PySem.W.Fast.tw13682895625805879148:Nat:=0
def PySem.W.Fast.tw8421382318379404031:Nat:=0
def PySem.W.Fast.tw8290817934956888226:Nat:=0
def PySem.W.Fast.tw15513768080926585804:Nat:=0
def PySem.W.Fast.tw12436623281190402122:Nat:=0
def PySem.W.Fast.tw9794619055896998172:Nat:=0
def PySem.W.Fast.tw2281369598356619802:Nat:=0
def PySem.W.Fast.tw14185959146964559439:Nat:=0
open PyProof.Rows PySem PySem.W
set_option maxRecDepth 100000 in
set_option maxHeartbeats 0 in
theorem PySem.Challenge.cw_tellsum_k80_stretches_refused_holds : PySem.Challenge.rw_tellsum_k80_stretches_refused.Holds := by
  w_on; o_law; k_head; (case hw => w_witness2)
  k_fill
  refine Prf.walk (l := PySem.Challenge.rw_tellsum_k80_stretches_refused) rfl rfl Prf.math (fun w h Y => W.kIn_of Y) ?F
  case F =>
    intro w mg fa h KX G hmg
    refine' Prf.all_mk KX G hmg ?h1 ?h2 ?h3 ?h4 ?h11 ?h12 ?h13 ?h14 ?h15 ?h16 ?h17 ?h18 ?h19 ?h20 ?h21 ?h22 ?h23 ?h24 ?h25 ?h26 ?h27 ?aC ?pg ?hd ?po ?sa ?mkC ?kc ?nK ?nM ?ainit ?iinit ?linit ?cinit ?kinit ?arefuse_no_stretch ?irefuse_no_stretch ?lrefuse_no_stretch ?crefuse_no_stretch ?krefuse_no_stretch ?atell_sum ?itell_sum ?ltell_sum ?ctell_sum ?ktell_sum ?aask_sum ?iask_sum ?lask_sum ?cask_sum ?kask_sum ?acan_come ?ican_come ?lcan_come ?ccan_come ?kcan_come ?aknown_many ?iknown_many ?lknown_many ?cknown_many ?kknown_many ?atake_back ?itake_back ?ltake_back ?ctake_back ?ktake_back ?z0 ?z1 ?z2 ?z3 ?z4 ?z5 ?z6 ?z7 ?z8 ?z9 ?z10 ?z11 ?z12 ?z13 ?zaM ?zaZ ?zeQ ?zex ?zk5 ?zgh ?zkG ?ziQ ?zhm ?zjf ?hsp ?htk ?zcD ?zgm ?zfZ ?zgb ?zdw ?zhp ?zg7 ?zhk ?zbp ?zdN ?zdX ?zdU ?zcy ?zgV ?zdR ?zgT ?zfK ?zeP ?zfH ?zds ?zel ?zb7 ?zcz ?zgQ ?zdJ ?zgL ?zfE ?zeF ?zfR ?zdO ?zgc ?zfi ?zfn ?zf8 ?zfX ?zaq ?zbk ?zbG ?zcG ?zb1 ?zcr ?zc2 ?zcm ?zcc ?zcs ?zbF ?zhy ?zge ?zf1 ?zg2 ?zhL ?zaz ?zby ?zbS ?zdi ?zb9 ?zcq ?zdo ?zc5 ?zco ?zcH ?zbQ
    (case h1 | h2 | h3 | h4 | h11 | h12 | h13 | h14 | h15 | h16 | h17 | h18 | h19 | h20 | h21 | h22 | h23 | h24 | h25 | h26 | h27 =>
      refine' M.FnAt.mk ?a ?l ?c ?k
      (case a => k_is)
      (case l => k_is)
      (case c => k_is)
      (case k => k_is))
    (case aC | pg | hd | po | sa | mkC | kc | nK | nM | ainit | iinit | linit | cinit | kinit | arefuse_no_stretch | irefuse_no_stretch | lrefuse_no_stretch | crefuse_no_stretch | krefuse_no_stretch | atell_sum | itell_sum | ltell_sum | ctell_sum | ktell_sum | aask_sum | iask_sum | lask_sum | cask_sum | kask_sum | acan_come | ican_come | lcan_come | ccan_come | kcan_come | aknown_many | iknown_many | lknown_many | cknown_many | kknown_many | atake_back | itake_back | ltake_back | ctake_back | ktake_back | z0 | z1 | z2 | z3 | z4 | z5 | z6 | z7 | z8 | z9 | z10 | z11 | z12 | z13 | zaM | zaZ | zeQ | zex | zk5 | zgh | zkG | ziQ | zhm | zjf | hsp | htk | zcD | zgm | zfZ | zdw | zhp | zg7 | zbp | zdN | zdX | zcy | zgV | zdR | zgT | zfK | zeP | zfH | zds | zel | zb7 | zcz | zgQ | zdJ | zgL | zfE | zeF | zfR | zdO | zgc | zfi | zfn | zf8 | zfX | zaq | zbk | zbG | zcG | zb1 | zcr | zc2 | zcm | zcc | zcs | zbF | zhy | zge | zf1 | zg2 | zhL | zaz | zby | zbS | zdi | zb9 | zcq | zdo | zc5 | zco | zcH | zbQ => k_is)
    (case zgb | zhk | zdU => rfl)
end
