import PyProof.Rows.All
import Wide.All
import OpenK.AllK
import Wide.FinOn
import Lean
import PyProof.EqAt
import PyProof.EqKinds
import PyProof.TupleCall
import PyProof.Rows.Range3
import PyProof.ZipIter
import PyProof.Draws
import PyProof.EnumMake
import PyProof.Rows.FactsTup
import PyProof.LayNew
import PyProof.Rows.SeqMore2
import PyProof.Rows.RuleIs
import KE.KRevIter
import PyProof.P3In
import KE.KSortTup
import PyProof.Rows.SortWalk
import PySem.Challenge.RW_tellsum_k32_rows_of_rings_numbered
set_option Elab.async false
set_option linter.all false
set_option bootstrap.genMatcherCode false
set_option compiler.extract_closed false
set_option maxRecDepth 100000
noncomputable section
abbrev qaa:=@decide_eq_false
abbrev qab:=@beq_eq_false_iff_ne
abbrev qac:=@PySem.Paired.length
abbrev qad:=@List.getElem?_eq_none_iff
abbrev qae:=@PySem.Heap.lt_size
abbrev qaf:=@Nat.lt_of_lt_of_le
abbrev qag:=@Nat.lt_irrefl
abbrev qah:=@Nat.ne_of_lt
abbrev qai:=@PySem.W.hideAll_get
abbrev qaj:=@List.mem_range
abbrev qak:=@Nat.le_trans
abbrev qal:=@List.filterMap_cons
abbrev qam:=@List.mem_cons_self
abbrev qan:=@List.mem_cons_of_mem
abbrev qao:=@List.mem_cons
abbrev qap:=@List.mem_append
abbrev qaq:=@List.mem_append_left
abbrev qar:=@List.getElem?_eq_some_iff
abbrev qas:=@List.getElem?_set_self
abbrev qat:=@List.getElem?_set_ne
abbrev qau:=@PySem.wpAny_mono
abbrev qav:=@PySem.Calls.Name_function_global
abbrev qaw:=@PySem.wpAny_truthy_bool
abbrev qax:=@Array.length_toList
abbrev qay:=@PySem.wpAny_execs_nil
abbrev qaz:=@PySem.wpAny_bind
abbrev qaA:=@PySem.wpAny_holding
abbrev qaB:=@PySem.wpAny_standAt
abbrev qaC:=@PySem.wpAny_pure
abbrev qaD:=@PySem.wpAny_newObj_type
abbrev qaE:=@PySem.Heap.get?_push_of_some
abbrev qaF:=@PySem.wpAny_rule
abbrev qaG:=@PySem.wpAny_passesOwn
abbrev qaH:=@Bool.false_ne_true
abbrev qaI:=@PySem.Heap.get?_push_size
abbrev qaJ:=@Nat.le_refl
abbrev qaK:=@PyProof.Rows.callWith_type1
abbrev qaL:=@List.mem_filterMap
abbrev qaM:=@List.mem_append_right
abbrev qaN:=@PySem.sizeLine_eq
abbrev qaO:=@List.size_toArray
abbrev qaP:=@PySem.W.kia_one
abbrev qaQ:=@List.append_nil
abbrev qaR:=@PySem.wpAny_Call_Name_kw
abbrev qaS:=@List.nodup_cons
abbrev qaT:=@Option.isSome_iff_exists
abbrev qaU:=@List.length_take
abbrev qaV:=@PySem.mem_of_lookup
abbrev qaW:=@List.getElem?_append_right
abbrev qaX:=@List.getElem?_replicate
abbrev qaY:=@List.getElem?_append_left
abbrev qaZ:=@List.getElem?_map
abbrev qa0:=@List.getElem?_take_of_lt
abbrev qa1:=@List.mem_of_getElem?
abbrev qa2:=@List.length_append
abbrev qa3:=@List.length_map
abbrev qa4:=@List.length_replicate
abbrev qa5:=@List.length_cons
abbrev qa6:=@List.length_nil
abbrev qa7:=@decide_eq_true
abbrev qa8:=@PySem.F.slot_tuple_add
abbrev qa9:=@PySem.F.entry_tuple_add
abbrev qba:=@PySem.F.args_tuple_add_2
abbrev qbb:=@Int.toNat_natCast
abbrev qbc:=@if_false
abbrev qbd:=@PySem.wpAny_field
abbrev qbe:=@List.length_drop
abbrev qbf:=@PySem.wpAny_callSpecial?_slot
abbrev qbg:=@PyProof.Rows.slot_tuple_getitem
abbrev qbh:=@PySem.wpAny_call_entry
abbrev qbi:=@Bool.and_eq_true
abbrev qbj:=@List.map_cons
abbrev qbk:=@PySem.Heap.get?_update_self
abbrev qbl:=@PySem.Heap.get?_update_other
abbrev qbm:=@List.length_set
abbrev qbn:=@List.all_cons
abbrev qbo:=@List.any_cons
abbrev qbp:=@List.replicate_succ
abbrev qbq:=@List.flatten_cons
abbrev qbr:=@List.foldl_cons
abbrev qbs:=@List.length_singleton
abbrev qbt:=@List.find?_cons
abbrev qbu:=@PySem.tupleKind_room_in1
abbrev qbv:=@Nat.zero_le
abbrev qbw:=@List.getElem?_set
abbrev qbx:=@Option.ne_none_iff_exists'
abbrev qby:=@Option.bind_some
abbrev qbz:=@Option.map_some
abbrev qbA:=@decide_eq_true_eq
abbrev qbB:=@Bool.or_eq_true
abbrev qbC:=@of_decide_eq_true
abbrev qbD:=@List.getElem?_eq_getElem
abbrev qbE:=@PySem.F.plainAttrs_list
abbrev qbF:=@List.drop_eq_getElem_cons
abbrev qbG:=@PySem.wpAny_pyIter_tuple
abbrev qbH:=@List.getElem?_cons_succ
abbrev qbI:=@List.cons_append
abbrev qbJ:=@List.forIn_cons
abbrev qbK:=@List.lookup_cons
abbrev qbL:=@beq_iff_eq
abbrev qbM:=@Nat.lt_succ_self
abbrev qbN:=@Nat.lt_succ_of_lt
abbrev qbO:=@PySem.Heap.size_push
abbrev qbP:=@List.forIn_nil
abbrev qbQ:=@Bool.false_eq_true
abbrev qbR:=@List.all_eq_true
abbrev qbS:=@List.mem_map
abbrev qbT:=@List.take_of_length_le
abbrev qbU:=@List.getElem?_eq_none
abbrev qbV:=@List.drop_zero
abbrev qbW:=@List.length_pos_iff
abbrev qbX:=@Nat.add_left_cancel
abbrev qbY:=@PySem.wpAny_seqItems
abbrev qbZ:=@PySem.Obj.data_mapFields
abbrev qb0:=@PySem.Heap.SameBut.update
abbrev qb1:=@PySem.wpAny_setField_rec
abbrev qb2:=@List.zipIdx_cons
abbrev qb3:=@List.zipIdx_nil
abbrev qb4:=@PySem.wpAny_onRaise
abbrev qb5:=@PySem.wpAny_letGo
abbrev qb6:=@PySem.wpAny_newTuple
abbrev qb7:=@PySem.AutoSeq1.wpAny_loadPart'
abbrev qb8:=@List.not_mem_nil
abbrev qb9:=@PySem.wpAny_attempt
abbrev qca:=@PySem.F.slot_zip_next
abbrev qcb:=@PySem.F.entry_zip_next
abbrev qcc:=@PySem.F.args_zip_next_1
abbrev qcd:=@Nat.lt_of_le_of_lt
abbrev qce:=@List.getElem?_zipWith
abbrev qcf:=@List.getElem?_range
abbrev qcg:=@PySem.wpAny_ite_false
abbrev qch:=@List.map_map
abbrev qci:=@List.map_congr_left
abbrev qcj:=@List.map_append
abbrev qck:=@Nat.zero_add
abbrev qcl:=@PySem.wpAny_updateSeq_pair
abbrev qcm:=@Array.getD_eq_getD_getElem?
abbrev qcn:=@List.length_range
abbrev qco:=@Nat.lt_or_eq_of_le
abbrev qcp:=@Nat.le_of_lt_succ
abbrev qcq:=@List.getD_eq_getElem?_getD
abbrev qcr:=@Function.comp_def
abbrev qcs:=@List.ext_getElem?
abbrev qct:=@Nat.min_eq_left
abbrev qcu:=@Nat.le_div_iff_mul_le
abbrev qcv:=@Int.le_refl
abbrev qcw:=@List.getElem?_drop
abbrev qcx:=@Nat.add_mul_mod_self_right
abbrev qcy:=@Nat.mod_eq_of_lt
abbrev qcz:=@decide_eq_false_iff_not
abbrev qcA:=@PySem.PassesOwn.never
abbrev qcB:=@PySem.W.mg_none_of
abbrev qcC:=@Nat.mod_lt
abbrev qcD:=@Nat.one_mul
abbrev qcE:=@Nat.add_zero
abbrev qcF:=@Int.le_trans
abbrev qcG:=@Int.emod_nonneg
abbrev qcH:=@Nat.mul_one
abbrev qcI:=@Nat.pow_le_pow_right
abbrev qcJ:=@Int.emod_lt_of_pos
namespace L2
open PyProof.Rows PySem PySem.Spec
variable {xs vs:List V} {us its:List Value} {x qual:Str} {u cd:Value} {H:Hp} {a b it dx:Addr} {o:HO} {w:World} {h base:Heap} {g':Array GenState} {t' i j n:Nat} {d':Drawn} {ch fp:List Addr} {e c tg:Expr} {pins' pins:List (Addr×Obj)} {N ps:List Str} {A:Around} {E:Value->Shared->Prop} {v:V} {Q:Unit->Shared->Prop} {s' s:Shared} {X:Cx} {t te:TE} {ta:TA} {tb:TS} {σ:St} {pos pos':Pos} {op op':CmpOp} {K:W.Frag} {f:Value->Value->Sem Value} {tc:TT} {es:List Expr} {g:Int->Int->Int} {body:List Stmt} {p:Addr×Obj} {r:V->Hp->VK->Prop} {C:Int->Int->Prop} {mA mg:Str->Option Value} {fd:FuncData} {kindOf:Str->Option NameKind} {sc scope:Scope} {CX:CXT} {outer:List Env} {params:Arguments}
noncomputable abbrev Key:=Sum Int Str
noncomputable def zpC:Key->Value->Bool
 | .inl k,v=>Value.isInt k v
 | .inr x,v=>Value.isStrOf x v
noncomputable def keyH (w:World):Key->Int
 | .inl k=>hashInt k
 | .inr x=>hashStr w x
theorem zbt:∀{k:Key} {v:Value},zpC k v=true->(∃i t,k=Sum.inl i/\v=Value.int i t)\/(∃x t,k=Sum.inr x/\v=Value.str x t)
 | .inl i,v,h=>by
  obtain⟨t,e⟩:=Value.isInt_shape (k:=i) (v:=v) h;exact .inl ⟨i,t,rfl,e⟩
 | .inr x,v,h=>by
  obtain⟨t,e⟩:=Value.isStrOf_shape (x:=x) (v:=v) h;exact .inr ⟨x,t,rfl,e⟩
theorem zrr (i:Int)(t:Tok):zpC (.inl i) (.int i t)=true:=by simp[zpC,Value.isInt]
theorem zrY (x:Str)(t:Tok):zpC (.inr x) (.str x t)=true:=by simp[zpC,Value.isStrOf]
theorem key_ll (a b:Int):decide ((Sum.inl a:Key)=Sum.inl b)=(a==b):=by
 by_cases e:a=b
 ·subst e;simp
 ·have h:¬(Sum.inl a:Key)=Sum.inl b:=fun q=>e (Sum.inl.inj q)
  rw[qaa h];exact(qab.mpr e).symm
theorem key_rr (a b:Str):decide ((Sum.inr a:Key)=Sum.inr b)=decide (a=b):=by
 by_cases e:a=b
 ·subst e;simp
 ·have h:¬(Sum.inr a:Key)=Sum.inr b:=fun q=>e (Sum.inr.inj q)
  rw[qaa h,qaa e]
theorem key_lr (a:Int)(b:Str):decide ((Sum.inl a:Key)=Sum.inr b)=false:=qaa (fun q=>nomatch q)
theorem key_rl (a:Str)(b:Int):decide ((Sum.inr a:Key)=Sum.inl b)=false:=qaa (fun q=>nomatch q)
noncomputable def zcm (prog:Program)(w:World):PySem.KeyKind prog w Key where
 is:=zpC
 hash:=keyH w
 inj:=fun v a b ha hb=>by
  rcases zbt ha with⟨i,t,rfl,rfl⟩|⟨x,t,rfl,rfl⟩
  ·rcases zbt hb with⟨j,u,rfl,e⟩|⟨y,u,rfl,e⟩
   ·injection e with e1 _;rw[e1]
   ·exact nomatch e
  ·rcases zbt hb with⟨j,u,rfl,e⟩|⟨y,u,rfl,e⟩
   ·exact nomatch e
   ·injection e with e1 _;rw[e1]
 byValue:=fun k v h=>by
  rcases zbt h with⟨i,t,rfl,rfl⟩|⟨x,t,rfl,rfl⟩<;>rfl
 pyHash:=fun hv h=>by
  rcases zbt hv with⟨i,t,rfl,rfl⟩|⟨x,t,rfl,rfl⟩
  ·exact wpAny_pyHash_int h
  ·exact wpAny_pyHash_str h
 eqBool:=fun hu hv h=>by
  rcases zbt hu with⟨i,t,rfl,rfl⟩|⟨x,t,rfl,rfl⟩
  ·rcases zbt hv with⟨j,u,rfl,rfl⟩|⟨y,u,rfl,rfl⟩
   ·rw[key_ll]at h;exact wpAny_eqBool_int h
   ·rw[key_lr]at h;exact SeqAt.EqAt.int_str i t y u _ _ _ _ h
  ·rcases zbt hv with⟨j,u,rfl,rfl⟩|⟨y,u,rfl,rfl⟩
   ·rw[key_rl]at h;exact SeqAt.EqAt.str_int x t j u _ _ _ _ h
   ·rw[key_rr]at h;exact wpAny_eqBool_str h
 «strs»:=fun k x t v h=>by
  rcases zbt h with⟨i,u,rfl,e⟩|⟨y,u,rfl,e⟩
  ·exact nomatch e
  ·injection e with e1 _
   subst e1;cases v<;>rfl
theorem zny (prog:Program)(w:World)(i:Int)(t:Tok):(zcm prog w).is (.inl i) (.int i t)=true:=zrr i t
theorem znE (prog:Program)(w:World)(x:Str)(t:Tok):(zcm prog w).is (.inr x) (.str x t)=true:=zrY x t
inductive V where
 |non|bl (b:Bool)|int (i:Int)|str (x:Str)|byt (b:Array UInt8)|flt (b:UInt64)|ref (a:Addr)|ty (n:String)
 deriving DecidableEq
noncomputable def RelV:V->Value->Prop
 | .non,u=>u=Value.none
 | .bl b,u=>u=Value.bool b
 | .int i,u=>∃t,u=Value.int i t
 | .str x,u=>∃t,u=Value.str x t
 | .byt b,u=>∃t,u=Value.bytes b t
 | .flt b,u=>∃t,u=Value.float b t
 | .ref a,u=>u=Value.ref a
 | .ty n,u=>u=Value.type n
noncomputable abbrev Vals:List V->List Value->Prop:=Paired RelV
theorem Vals.length (r:Vals xs us):xs.length=us.length:=qac r
theorem Vals.get:∀{xs:List V} {us:List Value} {i:Nat} {x:V},Vals xs us->xs[i]? =some x->∃u,us[i]? =some u/\RelV x u
 |_,_,_,_,.nil,e=>by simp at e
 |_,_,0,_,.cons r _,e=>by simp at e;subst e;exact⟨_,rfl,r⟩
 |_,_,i+1,x,.cons _ t,e=>by
  obtain⟨u,h1,h2⟩:=Vals.get (i:=i) (x:=x) t (by simpa using e);exact⟨u,by simpa using h1,h2⟩
theorem Vals.set {x:V}(r:RelV x u):∀{xs:List V} {us:List Value} (i:Nat),Vals xs us->Vals (xs.set i x) (us.set i u)
 |_,_,_,.nil=> .nil
 |_,_,0,.cons _ t=> .cons r t
 |_,_,i+1,.cons q t=> .cons q (Vals.set r i t)
theorem Vals.append:∀{xs ys:List V} {us ws:List Value},Vals xs us->Vals ys ws->Vals (xs++ys) (us++ws)
 |_,_,_,_,.nil,s=>s
 |_,_,_,_,.cons r t,s=> .cons r (Vals.append t s)
theorem Vals.take:∀{xs:List V} {us:List Value} (n:Nat),Vals xs us->Vals (xs.take n) (us.take n)
 |_,_,0,_=> .nil
 |_,_,_+1,.nil=> .nil
 |_,_,n+1,.cons r t=> .cons r (Vals.take n t)
theorem Vals.drop:∀{xs:List V} {us:List Value} (n:Nat),Vals xs us->Vals (xs.drop n) (us.drop n)
 |_,_,0,r=>r
 |_,_,_+1,.nil=> .nil
 |_,_,n+1,.cons _ t=>Vals.drop n t
theorem Vals.none_of:∀{xs:List V} {us:List Value} {i:Nat},Vals xs us->xs[i]? =none->us[i]? =none:=fun{xs us i} r e=>by
 have h1:=r.length;have h2:xs.length<=i:=qad.mp e;exact qad.mpr (by lia)
noncomputable def RelO:Option V->Option Value->Prop
 |some v,some u=>RelV v u
 |none,none=>True
 |_,_=>False
noncomputable def KV {κ:Type}:List (κ×V)->List (κ×Value)->Prop:=Paired fun(p:κ×V) (q:κ×Value)=>p.1=q.1/\RelV p.2 q.2
noncomputable def kV:Key->V
 | .inl i=> .int i
 | .inr x=> .str x
inductive HO where
 /-- a list -/
 |lst (xs:List V)
 /-- a tuple (never changes) -/
 |tup (xs:List V)
 /-- a dict whose keys are ints and texts; one whose keys are tuples of ints and texts (the empty one is both) -/
 |dK (kvs:List (Key×V))|dT (kvs:List (List Key×V))
 /-- a set of ints: its members, its size -/
 |set (S:Int->Bool) (n:Nat)
 /-- an instance of the class at C, its dict at dx, its attributes -/
 |ins (C dx:Addr) (fs:List (Str×V))
 /-- the dict of the instance at x -/
 |own (x:Addr)
 /-- the dict of an exception -/
 |xd (fs:List (Str×V))
 /-- a bound method, f of x -/
 |met (f x:Addr)
 /-- a range object lo, lo + 1, .. zbI hi -/
 |rng (lo hi:Int)
 /-- a thing that is known to the object (the script; a dict while a loop walks it): read, never written while it is so -/
 |frz (o:Obj) (u:HO)
 /-- a code object's table -/
 |tbl (ps:Array Value)
 /-- any other thing, by what is true of its one object (a def of one's own: SetO a S n := HO.ext fun h => ..) -/
 |ext (φ:Heap->Prop)
noncomputable abbrev Hp:=Addr->Option HO
noncomputable def upd (H:Hp)(a:Addr)(o:HO):Hp:=fun b=>if b=a then some o else H b
theorem zaF:upd H a o a=some o:=by unfold upd;rw[if_pos rfl]
theorem zav (h:b≠a):upd H a o b=H b:=by unfold upd;rw[if_neg h]
theorem ne_of {o u:HO}(h:H a=some o)(h':H b=some u)(d:o≠u):a≠b:=by
 intro e;subst e;rw[h]at h';exact d (Option.some.inj h')
theorem zaG (h:H a=some o)(h':H b=none):a≠b:=by
 intro e;subst e;rw[h]at h';cases h'
section
variable (P:Program) (w:World)
noncomputable def ObjOk (H:Hp)(h:Heap)(a:Addr):HO->Prop
 | .lst xs=>xs.length<=sizeLine/\∃(its:List Value) (n:Nat),Vals xs its/\h.get? a=some {cls:= .type "list",data:= .seq its.toArray n}
 | .tup xs=>xs.length<=sizeLine/\∃its:List Value,Vals xs its/\IsTup h a its.toArray
 | .dK kvs=>kvs.length<=sizeLine/\(a==sysModules)=false/\∃vs,KV kvs vs/\h.DictOf (zcm P w) a vs
 | .dT kvs=>kvs.length<=sizeLine/\(a==sysModules)=false/\∃xs:List (List Key×Addr×Value),
   Paired (fun(p:List Key×V) (q:List Key×Addr×Value)=>p.1=q.1/\H q.2.1=some (.tup (p.1.map kV))/\RelV p.2 q.2.2) kvs xs/\
   ∃o es ep,h.get? a=some o/\o.ExactDict/\o.data= .dict es ep/\es.toList=xs.map (entryOfKey (tupleKind (zcm P w)))/\(xs.map (·.1)).Nodup
 | .set S n=>h.SetOf (intKind P w) a S n
 | .ins C dx fs=>H dx=some (.own a)/\fs.length<=1000/\dx≠a/\h.get? a=some (W.instObj C dx)/\
   ∃mA,h.Ns1 dx mA/\(∀f,RelO (fs.lookup f) (mA f))/\PySem.Within mA (fs.map (·.1))
 | .own _=>∃o,h.get? a=some o
 | .xd fs=>∃mA,h.Ns1 a mA/\∀f,RelO (fs.lookup f) (mA f)
 | .rng lo hi=>∃t u v,h.get? a=some {cls:= .type "range",data:= .fields #[.int lo t,.int hi u,.int 1 v]}
 | .frz o u=>h.get? a=some o/\ObjOk H h a u
 | .tbl ps=>h.get? a=some {cls:= .none,data:= .fields ps}
 | .met f x=>h.get? a=some (W.methodObj (.ref f) (.ref x))
 | .ext φ=>φ h/\(∃o,h.get? a=some o)/\∀h1 h2:Heap,φ h1->(∀o,h1.get? a=some o->h2.get? a=some o)->φ h2
noncomputable def HOk (H:Hp)(h:Heap):Prop:=∀a o,H a=some o->ObjOk P w H h a o
end
section
variable {P:Program} {w:World} {H H':Hp} {h h':Heap} {a:Addr} {o:HO}
theorem ObjOk.lt (x:ObjOk P w H h a o):a<h.objs.size:=by
 cases o with
 |lst xs=>obtain⟨_,_,_,_,e⟩:=x;exact qae e
 |tup xs=>obtain⟨_,_,_,p⟩:=x;exact p.lt
 |dK kvs=>obtain⟨_,_,_,_,o,_,_,e,_⟩:=x;exact qae e
 |dT kvs=>obtain⟨_,_,_,_,o,_,_,e,_⟩:=x;exact qae e
 |set S n=>obtain⟨o,_,_,_,e,_⟩:=x;exact qae e
 |ins C dx fs=>obtain⟨_,_,_,e,_⟩:=x;exact qae e
 |own y=>obtain⟨_,e⟩:=x;exact qae e
 |xd fs=>obtain⟨_,⟨_,_,_,e,_⟩,_⟩:=x;exact qae e
 |rng lo hi=>obtain⟨_,_,_,e⟩:=x;exact qae e
 |frz ob u=>obtain⟨e,_⟩:=x;exact qae e
 |tbl ps=>exact qae (show h.get? a=some _ from x)
 |met f y=>exact qae (show h.get? a=some _ from x)
 |ext φ=>obtain⟨_,⟨_,e⟩,_⟩:=x;exact qae e
theorem Paired.mapP {α β:Type}{F G:α->β->Prop}:∀{l₁:List α} {l₂:List β},Paired F l₁ l₂->(∀a b,F a b->G a b)->Paired G l₁ l₂
 |_,_,.nil,_=> .nil
 |_,_,.cons r t,f=> .cons (f _ _ r) (Paired.mapP t f)
theorem ObjOk.stay (x:ObjOk P w H h a o)(k:∀b u,(b=a\/H b=some (.own a))->h.get? b=some u->h'.get? b=some u)
  (ho:∀b,H b=some (.own a)->H' b=some (.own a)) (ht:∀b xs,H b=some (.tup xs)->H' b=some (.tup xs)):ObjOk P w H' h' a o:=by
 induction o with
 |lst xs=>obtain⟨z,its,n,r,e⟩:=x;exact⟨z,its,n,r,k _ _ (.inl rfl) e⟩
 |tup xs=>obtain⟨z,its,r,ob,e,c⟩:=x;exact⟨z,its,r,ob,k _ _ (.inl rfl) e,c⟩
 |dK kvs=>obtain⟨z,y,vs,r,ob,es,ep,e,c⟩:=x;exact⟨z,y,vs,r,ob,es,ep,k _ _ (.inl rfl) e,c⟩
 |dT kvs=>
  obtain⟨z,y,xs,r,ob,es,ep,e,c⟩:=x;exact⟨z,y,xs,Paired.mapP r fun p q z=>⟨z.1,ht _ _ z.2.1,z.2.2⟩,ob,es,ep,k _ _ (.inl rfl) e,c⟩
 |set S n=>obtain⟨ob,es,ep,t,e,c⟩:=x;exact⟨ob,es,ep,t,k _ _ (.inl rfl) e,c⟩
 |ins C dx fs=>
  obtain⟨d,z,ne,e,mA,⟨od,es,ep,e2,c⟩,r⟩:=x;exact⟨ho _ d,z,ne,k _ _ (.inl rfl) e,mA,⟨od,es,ep,k _ _ (.inr d) e2,c⟩,r⟩
 |own y=>obtain⟨ob,e⟩:=x;exact⟨ob,k _ _ (.inl rfl) e⟩
 |xd fs=>obtain⟨mA,⟨od,es,ep,e,c⟩,r⟩:=x;exact⟨mA,⟨od,es,ep,k _ _ (.inl rfl) e,c⟩,r⟩
 |rng lo hi=>obtain⟨t,u,v,e⟩:=x;exact⟨t,u,v,k _ _ (.inl rfl) e⟩
 |frz ob u ih=>obtain⟨e,q⟩:=x;exact⟨k _ _ (.inl rfl) e,ih q⟩
 |tbl ps=>
  have e:h.get? a=some {cls:= .none,data:= .fields ps}:=x;show h'.get? a=some {cls:= .none,data:= .fields ps};exact k a _ (.inl rfl) e
 |met f y=>
  have e:h.get? a=some (W.methodObj (.ref f) (.ref y)):=x;show h'.get? a=some (W.methodObj (.ref f) (.ref y));exact k a _ (.inl rfl) e
 |ext φ=>obtain⟨p,⟨o,e⟩,st⟩:=x;exact⟨st _ _ p fun o q=>k _ _ (.inl rfl) q,⟨o,k _ _ (.inl rfl) e⟩,st⟩
theorem HOk.lt (x:HOk P w H h)(e:H a=some o):a<h.objs.size:=(x a o e).lt
theorem HOk.fresh (x:HOk P w H h)(e:h.objs.size<=a):H a=none:=by
 cases q:H a with
 |none=>rfl
 |some u=>exact absurd (qaf (x.lt q) e) (qag _)
theorem HOk.kept (x:HOk P w H h)(k:∀b u,h.get? b=some u->h'.get? b=some u):HOk P w H h':=fun a o e=>
 (x a o e).stay (fun b u _ q=>k b u q) (fun _ q=>q) fun _ _ q=>q
theorem HOk.laid (x:HOk P w H h)(k:∀b u,h.get? b=some u->h'.get? b=some u)(hp:h.objs.size<=a)(new:ObjOk P w (upd H a o) h' a o):HOk P w (upd H a o) h':=fun b u e=>by
 have hn:=x.fresh hp
 by_cases hb:b=a
 ·subst hb;rw[zaF]at e;cases e;exact new
 ·rw[zav hb]at e;exact(x b u e).stay (fun c v _ q=>k c v q) (fun c q=>by rw[zav (zaG q hn)];exact q) fun c xs q=>by rw[zav (zaG q hn)];exact q
end
noncomputable def Rd (H:Hp)(a:Addr)(u:HO):Prop:=H a=some u\/∃o,H a=some (.frz o u)
theorem Rd.ok {P:Program}{u:HO}(r:Rd H a u)(x:HOk P w H h):ObjOk P w H h a u:=by
 rcases r with r|⟨o,r⟩
 ·exact x a u r
 ·obtain⟨_,q⟩:=x a _ r;exact q
noncomputable def Mut:Option HO->Prop
 |some (.lst _)=>True
 |some (.dK _)=>True
 |some (.dT _)=>True
 |some (.set _ _)=>True
 |some (.ins _ _ _)=>True
 |some (.ext _)=>True
 |_=>False
section
variable {P:Program} {w:World} {H:Hp} {h h':Heap} {x e:Addr} {o':HO}
theorem HOk.write (ok:HOk P w H h)(mu:Mut (H x))(he:e=x\/H e=some (.own x))(k:∀b u,b≠e->h.get? b=some u->h'.get? b=some u)(heo:∃u,h'.get? e=some u)
  (new:ObjOk P w (upd H x o') h' x o'):HOk P w (upd H x o') h':=fun b u q=>by
 have nown:∀c y,H c=some (.own y)->c≠x:=fun c y r z=>by subst z;rw[r]at mu;exact mu
 have ntup:∀c xs,H c=some (.tup xs)->c≠x:=fun c xs r z=>by subst z;rw[r]at mu;exact mu
 by_cases hb:b=x
 ·subst hb;rw[zaF]at q;cases q;exact new
 ·rw[zav hb]at q
  by_cases hbe:b=e
  ·have q':H b=some (.own x):=by
    rcases he with z|z
    ·exact absurd (hbe.trans z) hb
    ·rw[hbe];exact z
   rw[q]at q';cases q';obtain⟨v,hv⟩:=heo;exact⟨v,by rw[hbe];exact hv⟩
  ·refine(ok b u q).stay (fun c v hc r=>k c v ?_ r) (fun c r=>by rw[zav (nown c b r)];exact r) fun c xs r=>by rw[zav (ntup c xs r)];exact r
   rcases hc with rfl|hc
   ·exact hbe
   ·rintro rfl;rcases he with z|z
    ·exact nown c b hc z
    ·rw[hc]at z;cases z;exact hb rfl
end
structure Un (fs ex:List Addr) (H H':Hp) (h h':Heap):Prop where
 keep:∀b o,h.get? b=some o->H b=none->b∉fs->b∉ex->h'.get? b=some o
 slot:∀b o,h.get? b=some o->H b=none->b∈fs->b∉ex->∃sl,h'.get? b=some {o with slots:=sl}
 free:∀b o,h.get? b=some o->H b=none->b∉ex->H' b=none
 there:∀b o,h.get? b=some o->b∉ex->∃o',h'.get? b=some o'
 tups:∀b xs,H b=some (.tup xs)->H' b=some (.tup xs)
 frzs:∀b o u,H b=some (.frz o u)->H' b=some (.frz o u)
 tbls:∀b ps,H b=some (.tbl ps)->∃more,H' b=some (.tbl (ps++more))
section
variable {fs fs' ex ex':List Addr} {H H1 H2:Hp} {h h1 h2 h':Heap} {a x e:Addr} {o:HO}
theorem Un.any (u:Un fs ex H H1 h h1){ob:Obj}(q:h.get? b=some ob)(n:H b=none)(hx:b∉ex):∃sl,h1.get? b=some {ob with slots:=sl}:=by
 by_cases hb:b∈fs
 ·exact u.slot b ob q n hb hx
 ·exact⟨ob.slots,u.keep b ob q n hb hx⟩
theorem Un.kept (k:∀b u,h.get? b=some u->h'.get? b=some u):Un fs ex H H h h':=
 ⟨fun b ob q _ _ _=>k b ob q,fun b ob q _ _ _=>⟨ob.slots,k b ob q⟩,fun _ _ _ n _=>n,fun b ob q _=>⟨ob,k b ob q⟩,fun _ _ q=>q,fun _ _ _ q=>q,fun _ ps q=>⟨#[],by rw[q];simp⟩⟩
theorem Un.refl:Un fs ex H H h h:=Un.kept fun _ _ q=>q
theorem Un.laid (k:∀b u,h.get? b=some u->h'.get? b=some u)(hp:h.objs.size<=a)(hn:H a=none):Un fs ex H (upd H a o) h h' where
 keep:=fun b u q _ _ _=>k b u q
 slot:=fun b u q _ _ _=>⟨u.slots,k b u q⟩
 free:=fun b u q n _=>by rw[zav (qah (qaf (qae q) hp))];exact n
 there:=fun b u q _=>⟨u,k b u q⟩
 tups:=fun b xs q=>by rw[zav (zaG q hn)];exact q
 frzs:=fun b u xs q=>by rw[zav (zaG q hn)];exact q
 tbls:=fun b ps q=>⟨#[],by rw[zav (zaG q hn),q];simp⟩
theorem Un.write (mu:Mut (H x))(he:e=x\/H e=some (.own x))(k:∀b u,b≠e->h.get? b=some u->h'.get? b=some u)(heo:∃u,h'.get? e=some u):Un fs ex H (upd H x o) h h':=by
 have hx:∀b,H b=none->b≠x:=fun b n z=>by subst z;rw[n]at mu;exact mu
 have hb:∀b,H b=none->b≠e:=fun b n z=>by
  subst z;rcases he with r|r
  ·exact hx b n r
  ·rw[n]at r;cases r
 have hm:∀b u,H b=some u->¬Mut (some u)->b≠x:=fun b u q nm z=>by subst z;rw[q]at mu;exact nm mu
 refine⟨fun b u q n _ _=>k b u (hb b n) q,fun b u q n _ _=>⟨u.slots,k b u (hb b n) q⟩,fun b u q n _=>by rw[zav (hx b n)];exact n,fun b u q _=>?_,
  fun b xs q=>by rw[zav (hm b _ q fun z=>z)];exact q,fun b u xs q=>by rw[zav (hm b _ q fun z=>z)];exact q,fun b ps q=>⟨#[],by rw[zav (hm b _ q fun z=>z),q];simp⟩⟩
 by_cases hbe:b=e
 ·subst hbe;exact heo
 ·exact⟨u,k b u hbe q⟩
end
noncomputable def trk (h:Heap)(H:Hp):List Addr:=(List.range h.objs.size).filter fun a=>(H a).isSome
noncomputable def hidT (h:Heap)(H:Hp):Heap:=W.hideAll h (trk h H)
theorem zrQ (h:Heap)(H:Hp):(hidT h H).objs.size=h.objs.size:=W.hideAll_size _ _
theorem hidT_get {o:Obj}(e:h.get? b=some o)(n:H b=none):(hidT h H).get? b=some o:=
 qai _ e fun hm=>by
  have q:(H b).isSome=true:=(List.mem_filter.mp hm).2;rw[n]at q;simp at q
theorem of_hidT {o:Obj}(e:(hidT h H).get? b=some o):h.get? b=some o/\H b=none:=by
 have e':h.get? b=some o:=W.of_hideAll (trk h H) e;refine⟨e',?_⟩;cases q:H b with
 |none=>rfl
 |some x=>
  have hm:b∈trk h H:=List.mem_filter.mpr ⟨qaj.mpr (qae e'),by simp[q]⟩;have z:(hidT h H).get? b=none:=W.hideAll_none (trk h H) hm;rw[z]at e;cases e
noncomputable def allNews (g h:Heap)(L:Addr):List (Addr×Obj):=(List.range h.objs.size).filterMap fun a=>if a=L\/(g.get? a).isSome=true then none else(h.get? a).map fun o=>(a,o)
noncomputable def rest (g h:Heap)(L d:Addr):List (Addr×Obj):=(allNews g h L).filter fun p=>decide (p.1≠d)
structure Mod (K:W.Frag) (mg:Str->Option Value) (base:Heap):Prop where
 kin:K.In base
 glob:base.Ns mainGlobals mg
 blt:∃mb,base.Ns builtinsNs mb/\∀x:Str,x≠"__name__"->mb x=bootBuiltins x
 nolimit:base.NoLimit
structure Cx where
 prog:Program
 w:World
 K:W.Frag
 mg:Str->Option Value
 base:Heap
 A:Around
 N:List Str
 s₀:Shared
 H₀:Hp
 env:Env
 outer:List Env
 stack:List Env
 ex:List Addr
 fn:Str->Bool
 calm:Bool
 pn:List (Addr×Obj)
 xe:Value->Shared->Prop
noncomputable def frs (l:List Env):List Addr:=l.filterMap (·.frame)
noncomputable abbrev Cx.fs (X:Cx):List Addr:=frs X.outer
noncomputable def Vis (sc:Scope)(x:Str):Prop:=sc.names.lookup x=some .local\/sc.names.lookup x=some .cell\/sc.names.lookup x=some .free
noncomputable def Loc (sc:Scope)(x:Str):Prop:=sc.names.lookup x=some .local\/sc.names.lookup x=some .cell
noncomputable def Look (env:Env)(h:Heap)(m:Str->Option Value)(x:Str)(u:Value):Prop:=
 (env.kindOf x=some .local/\m x=some u)\/((env.kindOf x=some .cell\/env.kindOf x=some .free)/\∃c,env.cells.lookup x=some c/\h.IsCell c (some u))
structure Cx.Ok (X:Cx):Prop where
 mod:Mod X.K X.mg X.base
 kind:X.env.scope.kind= .function
 glob:X.env.globals=mainGlobals
 blt:X.env.builtins=builtinsNs
 above:X.s₀.heap.objs.size<=X.env.locals
 inj:∀x y c,X.env.cells.lookup x=some c->X.env.cells.lookup y=some c->x=y
 has:∀x,(X.env.kindOf x=some .cell\/X.env.kindOf x=some .free)->∃c,X.env.cells.lookup x=some c
 cab:∀x c,X.fn x=true->X.env.cells.lookup x=some c->X.s₀.heap.objs.size<=c
 hd:X.calm=true->X.A.handled=none
 frames:X.A.frames=some X.stack
 stk:X.stack=X.outer\/(X.stack=X.env::X.outer/\X.env.frame=some X.env.locals)
 exf:∀b∈X.ex,b≠X.env.locals/\∀x c,X.env.cells.lookup x=some c->c≠b
 bs:∀b o,X.base.get? b=some o->X.s₀.heap.get? b=some o/\X.H₀ b=none
 bsz:X.base.objs.size<=X.s₀.heap.objs.size
 noex:∀b o,X.base.get? b=some o->b∉X.ex
 exfs:∀b∈X.ex,b∉X.fs
 funs:X.s₀.heap.FunFrames X.base X.outer
 frf:∀b∈X.fs,X.H₀ b=none
structure Inv (X:Cx) (pins:List (Addr×Obj)) (σ:List (Option V)) (H:Hp) (s:Shared):Prop where
 ok:X.Ok
 os:s.os=X.s₀.os
 bare:AllBare s.gens
 base:Un X.fs X.ex X.H₀ H X.s₀.heap s.heap
 loc:∃m,s.heap.Ns X.env.locals m/\∀(i:Nat) (x:Str) (v:V),X.N[i]? =some x->σ[i]? =some (some v)->Vis X.env.scope x->∃u,RelV v u/\Look X.env s.heap m x u
 cell:∀x c,X.env.cells.lookup x=some c->∃v,s.heap.IsCell c v
 free:H X.env.locals=none
 freeC:∀x c,X.env.cells.lookup x=some c->H c=none
 pin:∀p∈X.pn++pins,s.heap.get? p.1=some p.2/\H p.1=none/\p.1≠X.env.locals/\p.1∉X.fs/\∀v,p.2.data≠ .cell v
 hok:HOk X.prog X.w H s.heap
 len:σ.length=X.N.length
section
variable {X:Cx} {pins:List (Addr×Obj)} {σ:List (Option V)} {H H':Hp} {s:Shared} {h':Heap}
theorem Cx.Ok.nofr (ok:X.Ok){o:Obj}(e:X.base.get? b=some o):b∉X.fs:=fun hb=>by
 have:=(ok.funs.mem hb).1;rw[e]at this;cases this
theorem Inv.bs (I:Inv X pins σ H s):∀b o,X.base.get? b=some o->s.heap.get? b=some o/\H b=none:=fun b o e=>
 ⟨I.base.keep b o (I.ok.bs b o e).1 (I.ok.bs b o e).2 (I.ok.nofr e) (I.ok.noex b o e),I.base.free b o (I.ok.bs b o e).1 (I.ok.bs b o e).2 (I.ok.noex b o e)⟩
theorem Inv.bk (I:Inv X pins σ H s):∀b o,X.base.get? b=some o->s.heap.get? b=some o:=fun b o e=>(I.bs b o e).1
theorem Inv.mod (I:Inv X pins σ H s):Mod X.K X.mg X.base:=I.ok.mod
theorem Inv.kIn (I:Inv X pins σ H s):X.K.In s.heap:=I.ok.mod.kin.keeps I.bk
theorem Inv.fr (I:Inv X pins σ H s):∃m,Fr X.base X.env.locals s.heap m:=
 let⟨m,hn,_⟩:=I.loc
 ⟨m,hn,I.bk,qak I.ok.bsz I.ok.above⟩
theorem Inv.lt (I:Inv X pins σ H s):X.env.locals<s.heap.objs.size:=let⟨_,hn,_⟩:=I.loc;hn.lt
theorem Inv.sz (I:Inv X pins σ H s):X.s₀.heap.objs.size<=s.heap.objs.size:=qak I.ok.above (Nat.le_of_lt I.lt)
theorem Inv.nofs (I:Inv X pins σ H s)(h:s.heap.objs.size<=a):a∉X.fs:=fun hb=>by
 obtain⟨_,o,ho,_⟩:=I.ok.funs.mem hb;exact absurd (qaf (qae ho) (qak I.sz h)) (qag _)
theorem Inv.cne (I:Inv X pins σ H s):∀x c,X.env.cells.lookup x=some c->c≠X.env.locals:=fun x c e z=>by
 obtain⟨v,o,ho,hd⟩:=I.cell x c e;obtain⟨m,⟨o',es,ep,ho',hd',_⟩,_⟩:=I.loc;rw[z,ho']at ho;cases ho;rw[hd']at hd;cases hd
theorem Inv.funs (I:Inv X pins σ H s):s.heap.FunFrames X.base X.outer:=by
 have all:∀(l:List Env),(∀b∈frs l,b∈X.fs)->X.s₀.heap.FunFrames X.base l->s.heap.FunFrames X.base l:=by
  intro l
  induction l with
  |nil=>intro _ _;trivial
  |cons env r ih=>
   intro hs hl;obtain⟨hk,⟨L,o,hf,hn,ho,hd⟩,hr⟩:=hl;have hL:L∈X.fs:=hs L (by unfold frs;rw[qal,hf];exact qam);obtain⟨sl,e⟩:=I.base.slot L o ho (I.ok.frf L hL) hL fun z=>I.ok.exfs L z hL
   exact⟨hk,⟨L,_,hf,hn,e,hd⟩,ih (fun b hb=>hs b (by unfold frs;rw[qal,hf];exact qan _ hb)) hr⟩
 exact all X.outer (fun _ hb=>hb) I.ok.funs
theorem Inv.stack (I:Inv X pins σ H s):s.heap.FunFrames X.base X.stack:=by
 rcases I.ok.stk with e|⟨e,hf⟩
 ·rw[e];exact I.funs
 ·rw[e];obtain⟨m,hn,_⟩:=I.loc;refine .cons (by rw[I.ok.kind];decide) hf hn ?_ I.funs;exact Heap.get?_none_of_le (qak I.ok.bsz I.ok.above)
theorem Inv.stkSub (I:Inv X pins σ H s):∀b∈frs X.stack,b∈X.env.locals::X.fs:=fun b hb=>by
 rcases I.ok.stk with e|⟨e,hf⟩
 ·rw[e]at hb;exact qan _ hb
 ·rw[e]at hb;unfold frs at hb;rw[qal,hf]at hb;exact hb
theorem Inv.stkFree (I:Inv X pins σ H s):∀b∈frs X.stack,H b=none:=fun b hb=>by
 rcases qao.mp (I.stkSub b hb)with e|hb
 ·rw[e];exact I.free
 ·obtain⟨_,o,ho,_⟩:=I.ok.funs.mem hb;exact I.base.free b o ho (I.ok.frf b hb) fun z=>I.ok.exfs b z hb
theorem Inv.step (I:Inv X pins σ H s)
  (hch:∀b∈ch,(b∈X.ex\/X.s₀.heap.objs.size<=b)/\b≠X.env.locals/\(∀x c,X.env.cells.lookup x=some c->c≠b)/\∀p∈X.pn++pins,p.1≠b)
  (keep:∀b o,b≠X.env.locals->b∉X.fs->b∉ch->s.heap.get? b=some o->H b=none->h'.get? b=some o)
  (slot:∀b o,b≠X.env.locals->b∈X.fs->b∉ch->s.heap.get? b=some o->H b=none->∃sl,h'.get? b=some {o with slots:=sl}) (free:∀b o,b∉ch->s.heap.get? b=some o->H b=none->H' b=none)
  (there:∀b o,b∉ch->s.heap.get? b=some o->∃o',h'.get? b=some o')
  (tups:∀b xs,H b=some (.tup xs)->H' b=some (.tup xs)) (frzs:∀b o u,H b=some (.frz o u)->H' b=some (.frz o u)) (tbls:∀b ps,H b=some (.tbl ps)->∃more,H' b=some (.tbl (ps++more)))
  (ns:∀m,s.heap.Ns X.env.locals m->h'.Ns X.env.locals m) (hok:HOk X.prog X.w H' h') (hg:AllBare g'):
  Inv X pins σ H' {s with heap:=h',gens:=g',drawn:=d',toks:=t'}:=by
 have neL:∀b o,X.s₀.heap.get? b=some o->b≠X.env.locals:=fun b o e=>qah (qaf (qae e) I.ok.above)
 have neC:∀b o,X.s₀.heap.get? b=some o->b∉X.ex->b∉ch:=fun b o e hx hb=>by
  rcases(hch b hb).1 with z|z
  ·exact hx z
  ·exact absurd (qaf (qae e) z) (qag _)
 have cellK:∀x c,X.env.cells.lookup x=some c->∀v,s.heap.IsCell c v->h'.IsCell c v:=fun x c e v ⟨o,ho,hd⟩=>by
  have nch:c∉ch:=fun z=>(hch c z).2.2.1 x c e rfl
  by_cases hc:c∈X.fs
  ·obtain⟨sl,q⟩:=slot c o (I.cne x c e) hc nch ho (I.freeC x c e);exact⟨_,q,hd⟩
  ·exact⟨o,keep c o (I.cne x c e) hc nch ho (I.freeC x c e),hd⟩
 refine⟨I.ok,I.os,hg,⟨fun b o e n hb hx=>?_,fun b o e n hb hx=>?_,fun b o e n hx=>?_,fun b o e hx=>?_,fun b xs e=>tups b xs (I.base.tups b xs e),fun b o xs e=>frzs b o xs (I.base.frzs b o xs e),fun b ps e=>?_⟩,?_,fun x c e=>?_,?_,fun x c e=>?_,fun p hp=>?_,hok,I.len⟩
 ·exact keep b o (neL b o e) hb (neC b o e hx) (I.base.keep b o e n hb hx) (I.base.free b o e n hx)
 ·obtain⟨sl,e1⟩:=I.base.slot b o e n hb hx;obtain⟨sl',e2⟩:=slot b _ (neL b o e) hb (neC b o e hx) e1 (I.base.free b o e n hx);exact⟨sl',e2⟩
 ·obtain⟨o',e1⟩:=I.base.there b o e hx;exact free b o' (neC b o e hx) e1 (I.base.free b o e n hx)
 ·obtain⟨o',e1⟩:=I.base.there b o e hx;exact there b o' (neC b o e hx) e1
 ·obtain⟨m1,e1⟩:=I.base.tbls b ps e;obtain⟨m2,e2⟩:=tbls b _ e1;exact⟨m1++m2,by rw[e2,Array.append_assoc]⟩
 ·obtain⟨m,hn,hl⟩:=I.loc;refine⟨m,ns m hn,fun i x v e1 e2 e3=>?_⟩;obtain⟨u,r,l⟩:=hl i x v e1 e2 e3;refine⟨u,r,?_⟩;rcases l with l|⟨k,c,e,z⟩
  ·exact .inl l
  ·exact .inr ⟨k,c,e,cellK x c e _ z⟩
 ·obtain⟨v,z⟩:=I.cell x c e;exact⟨v,cellK x c e v z⟩
 ·obtain⟨m,⟨o,_,_,ho,_⟩,_⟩:=I.loc;exact free _ o (fun z=>(hch _ z).2.1 rfl) ho I.free
 ·obtain⟨v,o,ho,hd⟩:=I.cell x c e;exact free c o (fun z=>(hch c z).2.2.1 x c e rfl) ho (I.freeC x c e)
 ·obtain⟨e,n,ne,nf,d⟩:=I.pin p hp;have nch:p.1∉ch:=fun z=>(hch p.1 z).2.2.2 p hp rfl
  exact⟨keep p.1 p.2 ne nf nch e n,free p.1 p.2 nch e n,ne,nf,d⟩
theorem Inv.un (I:Inv X pins σ H s)(u:Un X.fs [] H H' s.heap h')(hok:HOk X.prog X.w H' h'):Inv X pins σ H' {s with heap:=h',toks:=t'}:=by
  obtain⟨m,⟨o,es,ep,ho,r⟩,_⟩:=id I.loc;obtain⟨sl,hL⟩:=u.any ho I.free (by simp);exact I.step (g':=s.gens) (d':=s.drawn) (ch:=[]) (fun _ z=>nomatch z) (fun b o _ hb _ e n=>u.keep b o e n hb (by simp)) (fun b o _ hb _ e n=>u.slot b o e n hb (by simp)) (fun b o _ e n=>u.free b o e n (by simp)) (fun b o _ e=>u.there b o e (by simp)) u.tups u.frzs u.tbls (fun m' hm=>by
    obtain⟨o',es',ep',ho',r'⟩:=hm;rw[ho]at ho';cases ho';exact⟨_,es',ep',hL,r'⟩) hok I.bare
theorem Inv.call {ch:List Addr}(I:Inv X pins σ H s)(u:Un (frs X.stack) ch H H' s.heap h')(hok:HOk X.prog X.w H' h')(hg:AllBare g')
  (hch:∀b∈ch,(b∈X.ex\/X.s₀.heap.objs.size<=b)/\b≠X.env.locals/\(∀x c,X.env.cells.lookup x=some c->c≠b)/\∀p∈X.pn++pins,p.1≠b):
  Inv X pins σ H' {s with heap:=h',gens:=g',drawn:=d',toks:=t'}:=by
 obtain⟨m,⟨o,es,ep,ho,r⟩,_⟩:=id I.loc;obtain⟨sl,hL⟩:=u.any ho I.free fun z=>(hch _ z).2.1 rfl
 exact I.step (ch:=ch) hch (fun b o hL hb hc e n=>u.keep b o e n (fun z=>(qao.mp (I.stkSub b z)).elim hL hb) hc) (fun b o _ _ hc e n=>u.any e n hc) (fun b o hc e n=>u.free b o e n hc) (fun b o hc e=>u.there b o e hc) u.tups u.frzs u.tbls (fun m' hm=>by
  obtain⟨o',es',ep',ho',r'⟩:=hm;rw[ho]at ho';cases ho';exact⟨_,es',ep',hL,r'⟩) hok hg
theorem Inv.turned (I:Inv X pins σ H s)(k:∀b o,b≠it->s.heap.get? b=some o->h'.get? b=some o)(hn:H it=none)(hL:it≠X.env.locals)
  (h1:it∈X.ex\/X.s₀.heap.objs.size<=it) (h2:∀x c,X.env.cells.lookup x=some c->c≠it) (h3:∀p∈X.pn++pins,p.1≠it):Inv X pins σ H {s with heap:=h',toks:=t'}:=by
 have nit:∀b u,H b=some u->b≠it:=fun b u e z=>by rw[z,hn]at e;cases e
 refine I.step (g':=s.gens) (d':=s.drawn) (ch:=[it]) (fun b hb=>?_) (fun b o _ _ hc e _=>k b o (fun z=>hc (by simp[z])) e) (fun b o _ _ hc e _=>⟨o.slots,k b o (fun z=>hc (by simp[z])) e⟩) (fun _ _ _ _ n=>n)
  (fun b o hc e=>⟨o,k b o (fun z=>hc (by simp[z])) e⟩) (fun _ _ e=>e) (fun _ _ _ e=>e) (fun b ps e=>⟨#[],by rw[e];simp⟩) (fun m hm=>?_) (fun b u e=>?_) I.bare
 ·have e:b=it:=by simpa using hb
  subst e;exact⟨h1,hL,h2,h3⟩
 ·obtain⟨o,es,ep,ho,r⟩:=hm;exact⟨o,es,ep,k _ o (Ne.symm hL) ho,r⟩
 ·refine(I.hok b u e).stay (fun c v hc q=>k c v ?_ q) (fun _ q=>q) fun _ _ q=>q
  rcases hc with z|z
  ·rw[z];exact nit b u e
  ·exact nit c _ z
theorem Inv.tok (I:Inv X pins σ H s)(t:Nat):Inv X pins σ H {s with toks:=t}:=I.un (h':=s.heap) (t':=t) Un.refl I.hok
theorem Inv.kept (I:Inv X pins σ H s)(k:∀b u,s.heap.get? b=some u->h'.get? b=some u):Inv X pins σ H {s with heap:=h',toks:=t'}:=I.un (Un.kept k) (I.hok.kept k)
theorem Inv.laid (I:Inv X pins σ H s)(k:∀b u,s.heap.get? b=some u->h'.get? b=some u)(hp:s.heap.objs.size<=a)(new:ObjOk X.prog X.w (upd H a o) h' a o):
  Inv X pins σ (upd H a o) {s with heap:=h',toks:=t'}:=I.un (Un.laid k hp (I.hok.fresh hp)) (I.hok.laid k hp new)
theorem Inv.write {x e:Addr}(I:Inv X pins σ H s)(mu:Mut (H x))(he:e=x\/H e=some (.own x))(k:∀b u,b≠e->s.heap.get? b=some u->h'.get? b=some u)(heo:∃u,h'.get? e=some u)
  (new:ObjOk X.prog X.w (upd H x o) h' x o):Inv X pins σ (upd H x o) {s with heap:=h',toks:=t'}:=I.un (Un.write mu he k heo) (I.hok.write mu he k heo new)
theorem Inv.pins_of (I:Inv X pins σ H s)(h:∀p∈pins',s.heap.get? p.1=some p.2/\H p.1=none/\p.1≠X.env.locals/\p.1∉X.fs/\∀v,p.2.data≠ .cell v):Inv X pins' σ H s:=
 ⟨I.ok,I.os,I.bare,I.base,I.loc,I.cell,I.free,I.freeC,fun p hp=>(qap.mp hp).elim (fun z=>I.pin p (qaq _ z)) (h p),I.hok,I.len⟩
theorem zmf (hN:N.Nodup)(a:N[i]? =some x)(b:N[j]? =some x):i=j:=by
 obtain⟨h1,e1⟩:=qar.mp a;obtain⟨h2,e2⟩:=qar.mp b;exact(List.getElem_inj hN).mp (e1.trans e2.symm)
theorem zpZ {M:Model}(I:Inv X pins σ H s)(hN:X.N.Nodup)(hi:X.N[i]? =some x)(hx:Loc X.env.scope x)(r:RelV v u)
    (h:∀s',Inv X pins (σ.set i (some v)) H s'->(∃a,Heap.SameBut a s.heap s'.heap/\(a=X.env.locals\/X.env.cells.lookup x=some a))->Q () s') (hf:X.fn x=true\/X.env.scope.names.lookup x=some .local:=by first|exact .inl rfl|exact .inr rfl|assumption):wpAny M A (storeName X.env x u) Q E s:=by
  obtain⟨m,hn,hl⟩:=id I.loc;have hcls:(X.env.scope.kind== .class||(X.env.scope.kind== .module&&X.env.locals !=X.env.globals))=false:=by rw[I.ok.kind];rfl
  have hiσ:i<σ.length:=by rw[I.len];exact(qar.mp hi).1
  have cne:=I.cne;have tracked:∀{a:Addr} {h':Heap},(∃o,s.heap.get? a=some o/\H a=none)->Heap.SameBut a s.heap h'->HOk X.prog X.w H h':=fun{a h'} ha hs b ob e=>by
    obtain⟨_,_,hfree⟩:=ha;refine(I.hok b ob e).stay (fun c w' hc q=>(hs.2 c ?_).trans q) (fun _ q=>q) fun _ _ q=>q
    rintro rfl;rcases hc with rfl|hc
    . rw[hfree]at e;cases e
    . rw[hfree]at hc;cases hc
  rcases hx with hk|hk
  . refine wpAny_storeName_local hk hn (fun h' hn' hs=>?_) hcls
    obtain⟨oL,_,_,hoL,_⟩:=id hn;refine h _ ⟨I.ok,I.os,I.bare,⟨fun b o e n hb hx=>?_,fun b o e n hb hx=>?_,I.base.free,fun b o e hx=>?_,I.base.tups,I.base.frzs,I.base.tbls⟩,⟨_,hn',fun j y v' e1 e2 e3=>?_⟩,fun y c e=>?_,I.free,I.freeC,fun p hp=>?_,tracked ⟨oL,hoL,I.free⟩ hs,by simpa using I.len⟩ ⟨_,hs,.inl rfl⟩
    . exact(hs.2 b (qah (qaf (qae e) I.ok.above))).trans (I.base.keep b o e n hb hx)
    . obtain⟨sl,e1⟩:=I.base.slot b o e n hb hx
      exact⟨sl,(hs.2 b (qah (qaf (qae e) I.ok.above))).trans e1⟩
    . obtain⟨o',e1⟩:=I.base.there b o e hx
      exact⟨o',(hs.2 b (qah (qaf (qae e) I.ok.above))).trans e1⟩
    . by_cases hj:j=i
      . subst hj
        rw[hi]at e1;cases e1;rw[qas hiσ]at e2;cases e2;exact⟨u,r,.inl ⟨hk,by simp⟩⟩
      . rw[qat (Ne.symm hj)]at e2
        obtain⟨u',r',q⟩:=hl j y v' e1 e2 e3;refine⟨u',r',?_⟩;rcases q with⟨k,e⟩|⟨k,c,e,z⟩
        . refine .inl ⟨k,?_⟩
          have:y≠x:=fun e=>hj (zmf hN e1 (e ▸ hi))
          simp[this,e]
        . exact .inr ⟨k,c,e,z.sameBut hs (cne y c e)⟩
    . obtain⟨w',z⟩:=I.cell y c e
      exact⟨w',z.sameBut hs (cne y c e)⟩
    . obtain⟨e,n,ne,nf,d⟩:=I.pin p hp
      exact⟨(hs.2 p.1 ne).trans e,n,ne,nf,d⟩
  . have hfn:X.fn x=true:=by
      rcases hf with z|z
      . exact z
      . rw[z]at hk;cases hk
    obtain⟨c,hc⟩:=I.ok.has x (.inl hk);obtain⟨w',z⟩:=I.cell x c hc;refine wpAny_storeName_cell I.ok.kind hk hc z (fun h' hc' hs=>?_);obtain⟨oc,hoc,hocd⟩:=id z;refine h {s with heap:=h'} ⟨I.ok,I.os,I.bare,⟨fun b o e n hb hx=>?_,fun b o e n hb hx=>?_,I.base.free,fun b o e hx=>?_,I.base.tups,I.base.frzs,I.base.tbls⟩,⟨m,hn.sameBut hs (Ne.symm (cne x c hc)),fun j y v' e1 e2 e3=>?_⟩,fun y c' e=>?_,I.free,I.freeC,fun p hp=>?_,tracked ⟨oc,hoc,I.freeC x c hc⟩ hs,by simpa using I.len⟩ ⟨c,hs,.inr hc⟩
    . exact(hs.2 b (qah (qaf (qae e) (I.ok.cab x c hfn hc)))).trans (I.base.keep b o e n hb hx)
    . obtain⟨sl,e1⟩:=I.base.slot b o e n hb hx
      exact⟨sl,(hs.2 b (qah (qaf (qae e) (I.ok.cab x c hfn hc)))).trans e1⟩
    . obtain⟨o',e1⟩:=I.base.there b o e hx
      exact⟨o',(hs.2 b (qah (qaf (qae e) (I.ok.cab x c hfn hc)))).trans e1⟩
    . by_cases hj:j=i
      . subst hj
        rw[hi]at e1;cases e1;rw[qas hiσ]at e2;cases e2;exact⟨u,r,.inr ⟨.inl hk,c,hc,hc'⟩⟩
      . rw[qat (Ne.symm hj)]at e2
        obtain⟨u',r',q⟩:=hl j y v' e1 e2 e3;refine⟨u',r',?_⟩;rcases q with q|⟨k,c',e,z'⟩
        . exact .inl q
        . refine .inr ⟨k,c',e,z'.sameBut hs ?_⟩
          rintro rfl;exact hj (zmf hN e1 (I.ok.inj _ _ _ e hc ▸ hi))
    . by_cases hcc:c'=c
      . subst hcc;exact⟨_,hc'⟩
      . obtain⟨w2,z2⟩:=I.cell y c' e
        exact⟨w2,z2.sameBut hs hcc⟩
    . obtain⟨e,n,ne,nf,d⟩:=I.pin p hp
      refine⟨(hs.2 p.1 ?_).trans e,n,ne,nf,d⟩;intro q;rw[q,hoc]at e;have q':oc=p.2:=Option.some.inj e;exact d w' (by rw[<-q'];exact hocd)
theorem zg8 {M:Model}(I:Inv X pins σ H s)(hN:X.N.Nodup)(hi:X.N[i]? =some x)(hx:Loc X.env.scope x)(r:RelV v u)
  (h:∀s',Inv X pins (σ.set i (some v)) H s'->Q () s') (hf:X.fn x=true\/X.env.scope.names.lookup x=some .local:=by first|exact .inl rfl|exact .inr rfl|assumption):wpAny M A (storeName X.env x u) Q E s:=
 zpZ I hN hi hx r (fun s' I' _=>h s' I') hf
theorem Inv.call' (I:Inv X pins σ H s)(ho:s'.os=s.os)(u:Un (frs X.stack) ch H H' s.heap s'.heap)(hok:HOk X.prog X.w H' s'.heap)(hg:AllBare s'.gens)
  (hch:∀b∈ch,(b∈X.ex\/X.s₀.heap.objs.size<=b)/\b≠X.env.locals/\(∀x c,X.env.cells.lookup x=some c->c≠b)/\∀p∈X.pn++pins,p.1≠b):Inv X pins σ H' s':=by
 obtain⟨h',g',d',t',o'⟩:=s';have e:o'=s.os:=ho;subst e;exact I.call (g':=g') (t':=t') (d':=d') u hok hg hch
end
noncomputable abbrev XK:=Value->Option Addr->Hp->Prop
noncomputable abbrev St:=List (Option V)
noncomputable abbrev VK:=V->Hp->Prop
noncomputable abbrev TE:=St->Hp->VK->Prop
noncomputable abbrev TT:=St->Hp->(Bool->Hp->Prop)->Prop
noncomputable abbrev TA:=St->Hp->(List V->Hp->Prop)->Prop
structure Ends where
 nx:St->Hp->Prop
 rt:VK
 bk:St->Hp->Prop:=fun _ _=>False
 ct:St->Hp->Prop:=fun _ _=>False
noncomputable abbrev TS:=Ends->St->Hp->Prop
noncomputable def EP (X:Cx)(pins:List (Addr×Obj))(σ:St)(Q:VK)(u:Value)(s':Shared):Prop:=∃v H',Inv X pins σ H' s'/\RelV v u/\Q v H'
noncomputable def TP (X:Cx)(pins:List (Addr×Obj))(σ:St)(Q:Bool->Hp->Prop)(b:Bool)(s':Shared):Prop:=∃H',Inv X pins σ H' s'/\Q b H'
noncomputable def AP (X:Cx)(pins:List (Addr×Obj))(σ:St)(Q:List V->Hp->Prop)(us:List Value)(s':Shared):Prop:=∃vs H',Inv X pins σ H' s'/\Vals vs us/\Q vs H'
noncomputable def SP (X:Cx)(pins:List (Addr×Obj))(D:Ends)(f:Flow)(s':Shared):Prop:=
 match f with
 | .next=>∃σ' H',Inv X pins σ' H' s'/\D.nx σ' H'
 | .brk=>∃σ' H',Inv X pins σ' H' s'/\D.bk σ' H'
 | .cont=>∃σ' H',Inv X pins σ' H' s'/\D.ct σ' H'
 | .ret u=>∃v σ' H',Inv X pins σ' H' s'/\RelV v u/\D.rt v H'
noncomputable def PE (X:Cx)(e:Expr)(t:TE):Prop:=
 ∀(pins:List (Addr×Obj)) (s:Shared) (σ:St) (H:Hp) (Q:VK),Inv X pins σ H s->t σ H Q->wpAny (model X.prog X.w) X.A (eval e X.env) (EP X pins σ Q) X.xe s
noncomputable def PT (X:Cx)(e:Expr)(t:TT):Prop:=
 ∀(pins:List (Addr×Obj)) (s:Shared) (σ:St) (H:Hp) (Q:Bool->Hp->Prop),Inv X pins σ H s->t σ H Q->wpAny (model X.prog X.w) X.A (isTrue e X.env (eval e X.env)) (TP X pins σ Q) X.xe s
noncomputable def PW (X:Cx)(e:Expr)(t:TT):Prop:=
 ∀(whole:Sem Value) (pins:List (Addr×Obj)) (s:Shared) (σ:St) (H:Hp) (Q:Bool->Hp->Prop),Inv X pins σ H s->t σ H Q->wpAny (model X.prog X.w) X.A (isTrue e X.env whole) (TP X pins σ Q) X.xe s
theorem PW.pt {t:TT}(h:PW X e t):PT X e t:=h _
noncomputable def PA (X:Cx)(es:List Expr)(t:TA):Prop:=
 ∀(pos:Pos) (pins:List (Addr×Obj)) (s:Shared) (σ:St) (H:Hp) (Q:List V->Hp->Prop),Inv X pins σ H s->t σ H Q->wpAny (model X.prog X.w) X.A (spliced (backTo pos (starEach es X.env))) (AP X pins σ Q) X.xe s
noncomputable def PS (X:Cx)(st:Stmt)(t:TS):Prop:=
 ∀(pins:List (Addr×Obj)) (s:Shared) (σ:St) (H:Hp) (D:Ends),Inv X pins σ H s->t D σ H->wpAny (model X.prog X.w) X.A (exec st X.env) (SP X pins D) X.xe s
noncomputable def PSs (X:Cx)(st:List Stmt)(t:TS):Prop:=
 ∀(pins:List (Addr×Obj)) (s:Shared) (σ:St) (H:Hp) (D:Ends),Inv X pins σ H s->t D σ H->wpAny (model X.prog X.w) X.A (execs st X.env) (SP X pins D) X.xe s
theorem thn {α:Type}{t:Sem α}{Q Q':α->Shared->Prop}{M:Model}(h:wpAny M A t Q E s)(hQ:∀a s,Q a s->Q' a s):wpAny M A t Q' E s:=qau h hQ fun _ _ x=>x
section
variable {X:Cx}
theorem bin {a b:Expr}{ta tb:TE}(ha:PE X a ta)(hb:PE X b tb){R:V->V->Hp->Prop}(I:Inv X pins σ H s)(h:ta σ H fun x H1=>tb σ H1 fun y H2=>R x y H2)
  {α:Type} {Q:α->Shared->Prop} {f:Value->Value->Sem α}
  (hf:∀v u s2 x y H2,Inv X pins σ H2 s2->RelV x v->RelV y u->R x y H2->wpAny (model X.prog X.w) X.A (f v u) Q X.xe s2):
  wpAny (model X.prog X.w) X.A (eval a X.env) (fun v s₁=>wpAny (model X.prog X.w) X.A (eval b X.env) (fun u s₂=>wpAny (model X.prog X.w) X.A (f v u) Q X.xe s₂) X.xe s₁) X.xe s:=by
 refine thn (ha pins s σ H _ I h) fun v s1 ⟨x,H1,I1,r1,q1⟩=>?_
 refine thn (hb pins s1 σ H1 _ I1 q1) fun u s2 ⟨y,H2,I2,r2,q2⟩=>?_
 exact hf v u s2 x y H2 I2 r1 r2 q2
noncomputable def tVar (i:Nat):TE:=fun σ H Q=>∃v,σ[i]? =some (some v)/\Q v H
noncomputable def tC (v:V):TE:=fun _ H Q=>Q v H
theorem zc1 (hN:X.N[i]? =some x)(hv:Vis X.env.scope x)(hd:(x==("__debug__":Str))=false:=by decide)(hcd:(x==("__classdict__":Str))=false:=by decide):PE X (.Name x pos) (tVar i):=by
 intro pins s σ H Q I h;obtain⟨v,e,h⟩:=h;obtain⟨m,hn,hl⟩:=I.loc;obtain⟨u,r,l⟩:=hl i x v hN e hv;have fin:EP X pins σ Q u s:=⟨v,H,I,r,h⟩;rcases l with⟨hk,hm⟩|⟨hk,c,hc,hcell⟩
 ·exact wpAny_Name (wpAny_loadName_local I.ok.kind hk hn hm fin) hd
 ·rcases hk with hk|hk
  ·exact wpAny_Name (wpAny_loadName_cell I.ok.kind hk hc hcell fin) hd
  ·exact wpAny_Name (wpAny_loadName_free I.ok.kind hk hc hcell fin hcd) hd
theorem pe_int {i j pos}:PE X (.Constant (.int i) j pos) (tC (.int i)):=fun _ _ _ H _ I h=>wpAny_Constant_int ⟨.int i,H,I.tok _,⟨_,rfl⟩,h⟩
theorem pe_bl {b j pos}:PE X (.Constant (.bool b) j pos) (tC (.bl b)):=fun _ _ _ H _ I h=>Constant_bool ⟨.bl b,H,I,rfl,h⟩
theorem pe_non {j pos}:PE X (.Constant .none j pos) (tC .non):=fun _ _ _ H _ I h=>Constant_none ⟨.non,H,I,rfl,h⟩
theorem pe_str {x j pos}:PE X (.Constant (.str x) j pos) (tC (.str x)):=fun _ _ _ H _ I h=>Calls.Constant_str ⟨.str x,H,I.tok _,⟨_,rfl⟩,h⟩
noncomputable def Gl (X:Cx)(x:Str):Prop:=X.env.kindOf x=some .globalImplicit
theorem zlZ {Q:Value->Shared->Prop}(I:Inv X pins σ H s)(hg:Gl X x)(hm:X.mg x=some u)(h:Q u s)
  (hd:(x==("__debug__":Str))=false:=by decide):wpAny (model X.prog X.w) X.A (eval (.Name x pos) X.env) Q E s:=
 qav I.ok.kind hg (Calls.loadGlobal_global (by rw[I.ok.glob];exact I.mod.glob.keeps I.bk) hm h) hd
theorem ziy {Q:Value->Shared->Prop}(I:Inv X pins σ H s)(hg:Gl X x)(hm:X.mg x=none)(hv:bootBuiltins x=some u)(h:Q u s)
  (hn:x≠"__name__":=by decide) (hd:(x==("__debug__":Str))=false:=by decide):wpAny (model X.prog X.w) X.A (eval (.Name x pos) X.env) Q E s:=by
 obtain⟨mb,h1,h2⟩:=I.mod.blt;exact qav I.ok.kind hg (Calls.loadGlobal_builtin (by rw[I.ok.glob];exact I.mod.glob.keeps I.bk) hm (by rw[I.ok.blt];exact h1.keeps I.bk) ((h2 x hn).trans hv) h) hd
theorem pe_glob (hg:Gl X x)(hm:X.mg x=some u)(r:RelV v u)(hd:(x==("__debug__":Str))=false:=by decide):PE X (.Name x pos) (tC v):=
 fun _ _ _ H _ I h=>zlZ I hg hm ⟨v,H,I,r,h⟩ hd
theorem zrl (hg:Gl X x)(hm:X.mg x=none)(hv:bootBuiltins x=some u)(r:RelV v u)(hn:x≠"__name__":=by decide)(hd:(x==("__debug__":Str))=false:=by decide):PE X (.Name x pos) (tC v):=
 fun _ _ _ H _ I h=>ziy I hg hm hv ⟨v,H,I,r,h⟩ hn hd
variable {a b:Expr} {ta tb:TE} {pos:Pos}
noncomputable def PC (X:Cx)(op:CmpOp)(a b:Expr)(t:TE):Prop:=
 ∀(pins:List (Addr×Obj)) (s:Shared) (σ:St) (H:Hp) (Q:VK),Inv X pins σ H s->t σ H Q->
  wpAny (model X.prog X.w) X.A (eval a X.env) (fun v s₁=>wpAny (model X.prog X.w) X.A (eval b X.env) (fun u s₂=>wpAny (model X.prog X.w) X.A (compareOp op v u) (EP X pins σ Q) X.xe s₂) X.xe s₁) X.xe s
theorem nobehind (b:Expr)(h:op≠ .In)(h2:op≠ .NotIn):behindInMarks op b=false:=by
 have e1:(op==CmpOp.In)=false:=by cases op<;>first|rfl|exact absurd rfl h
 have e2:(op==CmpOp.NotIn)=false:=by cases op<;>first|rfl|exact absurd rfl h2
 cases b<;>simp[behindInMarks,e1,e2]
noncomputable def tB (t:TE):TT:=fun σ H Q=>t σ H fun x H1=>∃c,x= .bl c/\Q c H1
theorem pt_cmp (h:PC X op a b t)(h1:behindInMarks op b=false:=by first|exact nobehind _ (by decide) (by decide)|rfl):PT X (.Compare a [op] [b] pos) (tB t):=by
  intro pins s σ H Q I hw;refine wpAny_isTrue_Compare1 (thn (h pins s σ H _ I hw) fun v s1 h1=>thn h1 fun u s2 h2=>thn h2 fun c s3 ⟨x,H1,I1,r1,q1⟩=>?_) h1;obtain⟨d,rfl,q⟩:=q1;cases r1;exact qaw ⟨H1,I1,q⟩
variable {tA tB':TT} {rest:List Expr}
noncomputable def tAnd (t u:TT):TT:=fun σ H Q=>t σ H fun c H1=>if c=true then u σ H1 Q else Q false H1
noncomputable def tOr (t u:TT):TT:=fun σ H Q=>t σ H fun c H1=>if c=true then Q true H1 else u σ H1 Q
noncomputable def tNot (t:TT):TT:=fun σ H Q=>t σ H fun c H1=>Q (!c) H1
theorem pw_and1 (ha:PT X a tA):PW X (.BoolOp .And [a] pos) tA:=by
 intro wh pins s σ H Q I h;refine isTrue_and (thn (ha pins s σ H Q I h) fun c s1 e=>?_);cases c with
 |true=>exact isTrue_and_nil e
 |false=>exact e
theorem pw_or1 (ha:PT X a tA):PW X (.BoolOp .Or [a] pos) tA:=by
 intro wh pins s σ H Q I h;refine isTrue_or (thn (ha pins s σ H Q I h) fun c s1 e=>?_);cases c with
 |false=>exact isTrue_or_nil e
 |true=>exact e
theorem pw_and (ha:PT X a tA)(hb:PW X (.BoolOp .And (b::rest) pos) tB'):PW X (.BoolOp .And (a::b::rest) pos) (tAnd tA tB'):=by
 intro wh pins s σ H Q I h;refine isTrue_and (thn (ha pins s σ H _ I h) fun c s1 ⟨H1,I1,q1⟩=>?_);cases c with
 |true=>exact hb wh pins s1 σ H1 Q I1 q1
 |false=>exact⟨H1,I1,q1⟩
theorem pw_or (ha:PT X a tA)(hb:PW X (.BoolOp .Or (b::rest) pos) tB'):PW X (.BoolOp .Or (a::b::rest) pos) (tOr tA tB'):=by
 intro wh pins s σ H Q I h;refine isTrue_or (thn (ha pins s σ H _ I h) fun c s1 ⟨H1,I1,q1⟩=>?_);cases c with
 |true=>exact⟨H1,I1,q1⟩
 |false=>exact hb wh pins s1 σ H1 Q I1 q1
theorem pt_not (ha:PT X a tA):PT X (.UnaryOp .Not a pos) (tNot tA):=by
 intro pins s σ H Q I h;exact isTrue_not (ha pins s σ H (fun c H1=>Q (!c) H1) I h)
noncomputable def tAndV (ta tb:TE):TE:=fun σ H Q=>ta σ H fun x H1=>∃c,x= .bl c/\if c=true then tb σ H1 Q else Q (.bl false) H1
noncomputable def tNotV (ta:TE):TE:=fun σ H Q=>ta σ H fun x H1=>∃c,x= .bl c/\Q (.bl (!c)) H1
theorem pe_one {op}(h:PE X a t):PE X (.BoolOp op [a] pos) t:=fun pins s σ H Q I hw=>BoolOp_one (h pins s σ H Q I hw)
theorem pe_and (ha:PE X a ta)(hb:PE X (.BoolOp .And (b::rest) pos) tb):PE X (.BoolOp .And (a::b::rest) pos) (tAndV ta tb):=by
 intro pins s σ H Q I h;refine BoolOp_and (thn (ha pins s σ H _ I h) fun v s1 ⟨x,H1,I1,r1,q1⟩=>?_);obtain⟨c,rfl,q1⟩:=q1;cases r1;refine qaw ?_;cases c with
 |true=>exact hb pins s1 σ H1 Q I1 q1
 |false=>exact⟨.bl false,H1,I1,rfl,q1⟩
theorem pe_not (ha:PE X a ta):PE X (.UnaryOp .Not a pos) (tNotV ta):=by
 intro pins s σ H Q I h;refine UnaryOp_ (thn (ha pins s σ H _ I h) fun v s1 ⟨x,H1,I1,r1,q1⟩=>?_);obtain⟨c,rfl,q1⟩:=q1;cases r1;exact not_of (qaw ⟨.bl (!c),H1,I1,rfl,q1⟩)
noncomputable def tIf (t:TT)(ta tb:TE):TE:=fun σ H Q=>t σ H fun c H1=>if c=true then ta σ H1 Q else tb σ H1 Q
theorem pe_ifExp (hc:PT X c tA)(ha:PE X a ta)(hb:PE X b tb):PE X (.IfExp c a b pos) (tIf tA ta tb):=by
 intro pins s σ H Q I h;refine wpAny_IfExp (thn (hc pins s σ H _ I h) fun d s1 ⟨H1,I1,q1⟩=>?_);cases d with
 |true=>exact ha pins s1 σ H1 Q I1 q1
 |false=>exact hb pins s1 σ H1 Q I1 q1
end
noncomputable def SqL (K:W.Frag)(H:Hp)(a:Addr)(xs:List V):Prop:=
 Rd H a (.lst xs)\/
  ∃(o:Obj) (its:Array Value) (n:Nat),K.lookup a=some o/\o.cls= .type "list"/\o.dict=none/\o.data= .seq its n/\its.size<=sizeLine/\Vals xs its.toList
noncomputable def SqT (K:W.Frag)(H:Hp)(a:Addr)(xs:List V):Prop:=
 Rd H a (.tup xs)\/
  ∃(o:Obj) (its:Array Value) (n:Nat),K.lookup a=some o/\o.cls= .type "tuple"/\o.data= .seq its n/\its.size<=sizeLine/\Vals xs its.toList
noncomputable def absV:Value->Option V
 | .none=>some .non
 | .bool b=>some (.bl b)
 | .int i _=>some (.int i)
 | .str x _=>some (.str x)
 | .bytes b _=>some (.byt b)
 | .float b _=>some (.flt b)
 | .ref a=>some (.ref a)
 | .type n=>some (.ty n)
 |_=>none
theorem RelV.abs {x:V}(r:RelV x u):absV u=some x:=by
 cases x with
 |non=>cases r;rfl
 |bl _=>cases r;rfl
 |int _=>obtain⟨t,rfl⟩:=r;rfl
 |str _=>obtain⟨t,rfl⟩:=r;rfl
 |byt _=>obtain⟨t,rfl⟩:=r;rfl
 |flt _=>obtain⟨t,rfl⟩:=r;rfl
 |ref _=>cases r;rfl
 |ty _=>cases r;rfl
theorem RelV.inj {x y:V}(r:RelV x u)(q:RelV y u):x=y:=Option.some.inj (r.abs.symm.trans q.abs)
theorem Vals.inj:∀{xs ys:List V} {us:List Value},Vals xs us->Vals ys us->xs=ys
 |_,_,_,.nil,.nil=>rfl
 |_,_,_,.cons r t,.cons r' t'=>by rw[r.inj r',Vals.inj t t']
section
variable {X:Cx} {pins:List (Addr×Obj)} {σ:St} {H:Hp} {s:Shared} {a:Addr} {xs ys:List V}
theorem SqL.of (h:H a=some (.lst xs)):SqL K H a xs:= .inl (.inl h)
theorem SqT.of (h:H a=some (.tup xs)):SqT K H a xs:= .inl (.inl h)
theorem Inv.list (I:Inv X pins σ H s)(h:SqL X.K H a xs):∃its:List Value,Vals xs its/\PlainL s.heap a its.toArray/\xs.length<=sizeLine:=by
 rcases h with h|⟨o,its,n,hk,hc,hd,hs,hz,r⟩
 ·obtain⟨z,its,n,r,e⟩:=h.ok I.hok;exact⟨its,r,⟨_,n,e,rfl,rfl,rfl⟩,z⟩
 ·refine⟨its.toList,r,⟨o,n,I.kIn a o hk,hc,hd,by simpa using hs⟩,?_⟩;have e:=r.length;simp only[qax]at e;lia
theorem Inv.tuple (I:Inv X pins σ H s)(h:SqT X.K H a xs):∃its:List Value,Vals xs its/\IsTup s.heap a its.toArray/\xs.length<=sizeLine:=by
 rcases h with h|⟨o,its,n,hk,hc,hs,hz,r⟩
 ·obtain⟨z,its,r,p⟩:=h.ok I.hok;exact⟨its,r,p,z⟩
 ·refine⟨its.toList,r,⟨o,I.kIn a o hk,hc,n,by simpa using hs⟩,?_⟩;have e:=r.length;simp only[qax]at e;lia
theorem Inv.list_inj (I:Inv X pins σ H s)(h:SqL X.K H a xs)(h':SqL X.K H a ys):xs=ys:=by
 obtain⟨its,r,⟨o,n,e,_,_,d⟩,_⟩:=I.list h;obtain⟨its',r',⟨o',n',e',_,_,d'⟩,_⟩:=I.list h';rw[e]at e';cases e';rw[d]at d';injection d' with d1 _
 have:its=its':=by simpa using congrArg Array.toList d1
 subst this;exact r.inj r'
theorem Inv.tuple_inj (I:Inv X pins σ H s)(h:SqT X.K H a xs)(h':SqT X.K H a ys):xs=ys:=by
 obtain⟨its,r,⟨o,e,_,n,d⟩,_⟩:=I.tuple h;obtain⟨its',r',⟨o',e',_,n',d'⟩,_⟩:=I.tuple h';rw[e]at e';cases e';rw[d]at d';injection d' with d1 _
 have:its=its':=by simpa using congrArg Array.toList d1
 subst this;exact r.inj r'
end
noncomputable abbrev Cx.wish (X:Cx)(E:Value->Shared->Prop):Cx:={X with xe:=E}
noncomputable abbrev Cx.nox (X:Cx):Cx:=X.wish fun _ _=>False
theorem Cx.Ok.wish (ok:X.Ok)(E:Value->Shared->Prop):(X.wish E).Ok:=
 ⟨ok.mod,ok.kind,ok.glob,ok.blt,ok.above,ok.inj,ok.has,ok.cab,ok.hd,ok.frames,ok.stk,ok.exf,ok.bs,ok.bsz,ok.noex,ok.exfs,ok.funs,ok.frf⟩
theorem Cx.Ok.unwish (ok:(X.wish E).Ok):X.Ok:=
 ⟨ok.mod,ok.kind,ok.glob,ok.blt,ok.above,ok.inj,ok.has,ok.cab,ok.hd,ok.frames,ok.stk,ok.exf,ok.bs,ok.bsz,ok.noex,ok.exfs,ok.funs,ok.frf⟩
section
variable {X:Cx} {pins:List (Addr×Obj)} {σ:St} {H:Hp} {s:Shared} {E:Value->Shared->Prop}
theorem Inv.wish (I:Inv X pins σ H s)(E:Value->Shared->Prop):Inv (X.wish E) pins σ H s:=⟨I.ok.wish E,I.os,I.bare,I.base,I.loc,I.cell,I.free,I.freeC,I.pin,I.hok,I.len⟩
theorem Inv.unwish (I:Inv (X.wish E) pins σ H s):Inv X pins σ H s:=⟨I.ok.unwish,I.os,I.bare,I.base,I.loc,I.cell,I.free,I.freeC,I.pin,I.hok,I.len⟩
theorem SP.unwish {D:Ends}{f:Flow}(h:SP (X.wish E) pins D f s'):SP X pins D f s':=by
 cases f with
 |next=>obtain⟨σ',H',I,q⟩:=h;exact⟨σ',H',I.unwish,q⟩
 |brk=>obtain⟨σ',H',I,q⟩:=h;exact⟨σ',H',I.unwish,q⟩
 |cont=>obtain⟨σ',H',I,q⟩:=h;exact⟨σ',H',I.unwish,q⟩
 |ret u=>obtain⟨v,σ',H',I,r,q⟩:=h;exact⟨v,σ',H',I.unwish,r,q⟩
theorem PSs.nox {st:List Stmt}{t:TS}(h:PSs X.nox st t):PSs X st t:=fun pins s σ H D I hw=>
 qau (h pins s σ H D (I.wish _) hw) (fun _ _ q=>q.unwish) fun _ _ z=>False.elim z
end
section
variable {X:Cx} {st:Stmt} {rest:List Stmt} {t u:TS} {e:Expr} {te:TE} {pos:Pos}
noncomputable def tNext:TS:=fun D σ H=>D.nx σ H
noncomputable def tSeq (t u:TS):TS:=fun D σ H=>t {D with nx:=u D} σ H
theorem zqS:PSs X [] tNext:=fun _ _ σ H _ I h=>qay ⟨σ,H,I,h⟩
theorem zk4 (h1:PS X st t)(h2:PSs X rest u):PSs X (st::rest) (tSeq t u):=by
 intro pins s σ H D I h;refine wpAny_execs_cons (thn (h1 pins s σ H {D with nx:=u D} I h) fun f s1 q=>?_);cases f with
 |next=>
  obtain⟨σ',H',I',q⟩:=q;exact h2 pins s1 σ' H' D I' q
 |ret v=>exact q
 |brk=>exact q
 |cont=>exact q
theorem pss_one (h1:PS X st t):PSs X [st] t:=by
 intro pins s σ H D I h;refine wpAny_execs_cons (thn (h1 pins s σ H D I h) fun f s1 q=>?_);cases f with
 |next=>exact qay q
 |ret v=>exact q
 |brk=>exact q
 |cont=>exact q
theorem Inv.quiet (I:Inv X pins σ H s):interactive X.env=false:=by simp[interactive,I.ok.kind]
noncomputable def tDrop (te:TE):TS:=fun D σ H=>te σ H fun _ H1=>D.nx σ H1
theorem znQ (he:PE X e te)(hs:swapsWith e none pos.line X.env=pure false:=by rfl):PS X (.Expr e pos) (tDrop te):=by
 intro pins s σ H D I h;exact wpAny_Expr_any (thn (he pins s σ H _ I h) fun v s1 ⟨x,H1,I1,r1,q1⟩=>⟨σ,H1,I1,q1⟩) I.quiet hs
noncomputable def tRet (te:TE):TS:=fun D σ H=>te σ H D.rt
theorem zpJ (he:PE X e te):PS X (.Return (some e) pos) (tRet te):=by
 intro pins s σ H D I h;exact wpAny_Return_some (thn (he pins s σ H _ I h) fun v s1 ⟨x,H1,I1,r1,q1⟩=>⟨x,σ,H1,I1,r1,q1⟩)
noncomputable def tIfS (c:TT)(t u:TS):TS:=fun D σ H=>c σ H fun b H1=>if b=true then t D σ H1 else u D σ H1
theorem ps_if {a b:List Stmt}(hc:PT X c tc)(ha:PSs X a t)(hb:PSs X b u):PS X (.If c a b pos) (tIfS tc t u):=by
 intro pins s σ H D I h;refine wpAny_If (thn (hc pins s σ H _ I h) fun d s1 ⟨H1,I1,q1⟩=>?_);cases d with
 |true=>exact ha pins s1 σ H1 D I1 q1
 |false=>exact hb pins s1 σ H1 D I1 q1
noncomputable def tNever:TS:=fun _ _ _=>False
theorem ps_never:PS X st tNever:=fun _ _ _ _ _ _ h=>h.elim
end
noncomputable abbrev TG:=V->St->Hp->(St->Hp->Prop)->Prop
noncomputable abbrev TGs:=List V->St->Hp->(St->Hp->Prop)->Prop
noncomputable def PG (X:Cx)(target:Expr)(t:TG):Prop:=
 ∀(pins:List (Addr×Obj)) (s:Shared) (σ:St) (H:Hp) (v:V) (u:Value) (Q:St->Hp->Prop),Inv X pins σ H s->RelV v u->t v σ H Q->
  wpAny (model X.prog X.w) X.A (assign target X.env u) (fun _ s'=>∃σ' H',Inv X pins σ' H' s'/\Q σ' H') X.xe s
noncomputable def PGs (X:Cx)(ts:List Expr)(t:TGs):Prop:=
 ∀(pins:List (Addr×Obj)) (s:Shared) (σ:St) (H:Hp) (vs:List V) (us:List Value) (Q:St->Hp->Prop),Inv X pins σ H s->Vals vs us->t vs σ H Q->
  wpAny (model X.prog X.w) X.A (assignInOrder ((assignEach ts X.env).map (·.2)) us) (fun _ s'=>∃σ' H',Inv X pins σ' H' s'/\Q σ' H') X.xe s
noncomputable abbrev TSet:=V->V->V->Hp->(Hp->Prop)->Prop
noncomputable def PSet (X:Cx)(t:TSet):Prop:=
 ∀(pins:List (Addr×Obj)) (s:Shared) (σ:St) (H:Hp) (o i v:V) (ov iv u:Value) (Q:Hp->Prop),Inv X pins σ H s->RelV o ov->RelV i iv->RelV v u->t o i v H Q->
  wpAny (model X.prog X.w) X.A (setItem ov iv u) (fun _ s'=>∃H',Inv X pins σ H' s'/\Q H') X.xe s
noncomputable abbrev TIp:=V->V->Hp->VK->Prop
noncomputable def PIp (X:Cx)(op:Operator)(t:TIp):Prop:=
 ∀(pins:List (Addr×Obj)) (s:Shared) (σ:St) (H:Hp) (x y:V) (v u:Value) (Q:VK),Inv X pins σ H s->RelV x v->RelV y u->t x y H Q->
  wpAny (model X.prog X.w) X.A (inplaceOp op v u) (EP X pins σ Q) X.xe s
section
variable {X:Cx} {pos:Pos}
noncomputable def gName (i:Nat):TG:=fun v σ H Q=>Q (σ.set i (some v)) H
theorem znA (hN:X.N.Nodup)(hi:X.N[i]? =some x)(hx:Loc X.env.scope x)(hf:X.fn x=true\/X.env.scope.names.lookup x=some .local:=by first|exact .inl rfl|exact .inr rfl|assumption):PG X (.Name x pos) (gName i):=by
  intro pins s σ H v u Q I r h;exact wpAny_assign_Name (zg8 I hN hi hx r (fun s' I'=>⟨_,H,I',h⟩) hf)
noncomputable def gNil:TGs:=fun vs σ H Q=>vs=[]/\Q σ H
noncomputable def gCons (t:TG)(u:TGs):TGs:=fun vs σ H Q=>∃v r,vs=v::r/\t v σ H fun σ' H'=>u r σ' H' Q
theorem zqt:PGs X [] gNil:=by
 intro pins s σ H vs us Q I r h;obtain⟨e,h⟩:=h;subst e;cases r;exact assignInOrder_nil ⟨σ,H,I,h⟩
theorem zoq {t:TG}{u:TGs}(h1:PG X e t)(h2:PGs X es u)
  (hs:(assignEach (e::es) X.env).map (·.2)=assign e X.env::(assignEach es X.env).map (·.2):=by rfl):PGs X (e::es) (gCons t u):=by
 intro pins s σ H vs us Q I r h;obtain⟨v,vr,e1,h⟩:=h;subst e1;cases r with
 |cons r rr=>
  rw[hs];refine assignInOrder_cons (thn (h1 pins s σ H _ _ _ I r h) fun _ s1 ⟨σ1,H1,I1,q1⟩=>?_);exact h2 pins s1 σ1 H1 _ _ Q I1 rr q1
noncomputable def gTup (K:W.Frag)(n:Nat)(t:TGs):TG:=fun v σ H Q=>∃a xs,v= .ref a/\SqT K H a xs/\xs.length=n/\t xs σ H Q
theorem pg_tup {k:Nat}{t:TGs}(hc:X.calm=true)(h:PGs X es t)
  (hn:(assignEach es X.env).length=n:=by rfl) (hst:(assignEach es X.env).findIdx? (·.1)=none:=by rfl):PG X (.Tuple es k pos) (gTup X.K n t):=by
 intro pins s σ H v u Q I r hw;obtain⟨a,xs,e1,hq,hl,hw⟩:=hw;subst e1;cases r;obtain⟨its,rv,ht,hz⟩:=I.tuple hq;refine assign_Tuple_tuple (I.ok.hd hc) ht (by simp[hn,<-hl,rv.length]) hst fun h' hx=>?_
 have I1:Inv X pins σ H {s with heap:=h'}:=I.kept (t':=s.toks) fun b o e=>hx b o (qah (qae e)) e
 exact h pins _ σ H xs _ Q I1 (by simpa using rv) hw
noncomputable def gSub (to ti:TE)(t:TSet):TG:=fun v σ H Q=>to σ H fun o H1=>ti σ H1 fun i H2=>t o i v H2 fun H3=>Q σ H3
theorem pg_sub {o i:Expr}{to ti:TE}{t:TSet}(ho:PE X o to)(hi:PE X i ti)(hs:PSet X t)
    (ha : ∀ v, assign (.Subscript o i pos) X.env v = (do
      let ov<-holding [v] (eval o X.env)
      let iv<-holding [v,ov] (eval i X.env)
      standAt pos
      holding [v,ov,iv] (setItem ov iv v)
      release [v,ov,iv] []):=by intro _;rfl):PG X (.Subscript o i pos) (gSub to ti t):=by
  intro pins s σ H v u Q I r h;rw[ha];refine qaz (qaA (thn (ho pins s σ H _ I h) fun ov s1 ⟨x,H1,I1,r1,q1⟩=>?_));refine qaz (qaA (thn (hi pins s1 σ H1 _ I1 q1) fun iv s2 ⟨y,H2,I2,r2,q2⟩=>?_));refine qaz (qaB (qaz (qaA (thn (hs pins s2 σ H2 x y v ov iv u _ I2 r1 r2 r q2) fun _ s3 ⟨H3,I3,q3⟩=>?_))));exact wpAny_release ⟨σ,H3,I3,q3⟩
noncomputable def tAsg (te:TE)(g:TG):TS:=fun D σ H=>te σ H fun x H1=>g x σ H1 D.nx
theorem zrC {g:TG}(he:PE X e te)(hg:PG X tg g)(hs:swapsWithSole [tg] e pos.line X.env=pure false:=by rfl)(hw:swappedStores [tg] e X.env=pure none:=by rfl)
  (h1:(assignEach [tg] X.env).map (·.2)=[assign tg X.env]:=by rfl):PS X (.Assign [tg] e pos) (tAsg te g):=by
 intro pins s σ H D I h;refine wpAny_Assign_stores (thn (he pins s σ H _ I h) fun v s1 ⟨x,H1,I1,r1,q1⟩=>?_) hs hw;rw[h1];exact thn (hg pins s1 σ H1 x v _ I1 r1 q1) fun _ s2 q=>q
theorem znq (hN:X.N.Nodup)(hi:X.N[i]? =some x)(hx:Loc X.env.scope x)(he:PE X e te)(hs:swapsWith e (some (.Name x pos')) pos.line X.env=pure false:=by rfl)(hf:X.fn x=true\/X.env.scope.names.lookup x=some .local:=by first|exact .inl rfl|exact .inr rfl|assumption):
  PS X (.Assign [.Name x pos'] e pos) (tAsg te (gName i)):=by
 intro pins s σ H D I h;refine wpAny_Assign_Name (thn (he pins s σ H _ I h) fun v s1 ⟨y,H1,I1,r1,q1⟩=>?_) hs;exact zg8 I1 hN hi hx r1 (fun s2 I2=>⟨_,H1,I2,q1⟩) hf
noncomputable def tPar (i j:Nat)(ta:TA):TS:=fun D σ H=>ta σ H fun vs H1=>∃v w,vs=[v,w]/\D.nx ((σ.set i (some v)).set j (some w)) H1
theorem ps_par {x y:Str}{a b:Expr}{px py pt:Pos}{kt k2 pt2}(hc:X.calm=true)(hN:X.N.Nodup)(hi:X.N[i]? =some x)(hj:X.N[j]? =some y)(hij:i≠j)
  (hx:X.env.scope.names.lookup x=some .local) (hy:X.env.scope.names.lookup y=some .local) (ha:PA X [a,b] ta)
  (hw:swappedStores [.Tuple [.Name x px,.Name y py] kt pt] (.Tuple [a,b] k2 pt2) X.env=pure (some [x,y]))
  (hs:swapsWithSole [.Tuple [.Name x px,.Name y py] kt pt] (.Tuple [a,b] k2 pt2) pos.line X.env=pure false:=by rfl):
  PS X (.Assign [.Tuple [.Name x px,.Name y py] kt pt] (.Tuple [a,b] k2 pt2) pos) (tPar i j ta):=by
 intro pins s σ H D I h;rw[exec_Assign_arm];refine qaz (qaB ?_);rw[hs];refine qaz (qaC ?_);rw[if_neg (by decide)];refine qaz (Tuple_ (thn (ha _ pins s σ H _ I h) fun us s1 ⟨vs,H1,I1,r1,q1⟩=>?_));obtain⟨v,w,e1,q1⟩:=q1;subst e1;obtain⟨u1,u2,rfl,rv,rw'⟩:∃u1 u2,us=[u1,u2]/\RelV v u1/\RelV w u2:=by
  cases r1 with
  |cons p q=>
   cases q with
   |cons p' q'=>
    cases q';exact⟨_,_,rfl,p,p'⟩
 refine qaD ?_ (by show 2<=sizeLine;decide);have I2:Inv X pins σ H1 {s1 with heap:=s1.heap.push {cls:= .type "tuple",data:= .seq [u1,u2].toArray}}:=I1.kept (t':=s1.toks) fun b o e=>qaE _ e
 rw[hw];refine qaz (qaC ?_);show wpAny (model X.prog X.w) X.A (do rule "assign.swapped-stores";let items<-unpackItems (.ref s1.heap.objs.size) 2 none;assignInOrder [fun v=>bindName X.env y v,fun v=>bindName X.env x v] items.reverse;pure Flow.next) _ _ _;refine qaz (qaF (qaz (unpackItems_tuple (items:= #[u1,u2]) (I.ok.hd hc) (IsTup.new s1.heap _) fun h' hx'=>?_)));have I3:=I2.kept (h':=h') (t':=s1.toks) fun b o e=>hx' b o (qah (qae e)) e
 show wpAny _ _ (assignInOrder [fun v=>bindName X.env y v,fun v=>bindName X.env x v] [u2,u1]>>=fun _=>pure Flow.next) _ _ _;refine qaz (assignInOrder_cons (wpAny_bindName (zg8 I3 hN hj (.inl hy) rw' (fun s2 I4=>?_) (.inr hy))));refine assignInOrder_cons (wpAny_bindName (zg8 I4 hN hi (.inl hx) rv (fun s3 I5=>assignInOrder_nil (qaC ?_)) (.inr hx)));rw[List.set_comm _ _ (Ne.symm hij)]at I5;exact⟨_,H1,I5,q1⟩
noncomputable def tAug (i:Nat)(te:TE)(ti:TIp):TS:=fun D σ H=>∃x,σ[i]? =some (some x)/\te σ H fun y H1=>ti x y H1 fun z H2=>D.nx (σ.set i (some z)) H2
theorem ps_aug {op:Operator}{ti:TIp}(hN:X.N.Nodup)(hi:X.N[i]? =some x)(hx:Loc X.env.scope x)(he:PE X e te)(ho:PIp X op ti)(hf:X.fn x=true\/X.env.scope.names.lookup x=some .local:=by first|exact .inl rfl|exact .inr rfl|assumption):
  PS X (.AugAssign (.Name x pos') op e pos) (tAug i te ti):=by
 intro pins s σ H D I h;obtain⟨v,e1,h⟩:=h;obtain⟨m,hn,hl⟩:=I.loc;have vis:Vis X.env.scope x:=by rcases hx with k|k;exact .inl k;exact .inr (.inl k)
 obtain⟨u,r,l⟩:=hl i x v hi e1 vis;refine wpAny_AugAssign_Name ?_;have go:wpAny (model X.prog X.w) X.A (eval e X.env) (fun w s₂=>wpAny (model X.prog X.w) X.A (inplaceOp op u w) (fun r s₃=>wpAny (model X.prog X.w) X.A (storeName X.env x r) (fun _=>SP X pins D .next) X.xe s₃) X.xe s₂) X.xe s:=by
  refine thn (he pins s σ H _ I h) fun w s1 ⟨y,H1,I1,r1,q1⟩=>?_
  refine thn (ho pins s1 σ H1 v y u w _ I1 r r1 q1) fun z s2 ⟨zv,H2,I2,r2,q2⟩=>?_
  exact zg8 I2 hN hi hx r2 (fun s3 I3=>⟨_,H2,I3,q2⟩) hf
 rcases l with⟨hk,hm⟩|⟨hk,c,hc,hcell⟩
 ·exact wpAny_loadName_local I.ok.kind hk hn hm go
 ·rcases hk with hk|hk
  ·exact wpAny_loadName_cell I.ok.kind hk hc hcell go
  ·rcases hx with k|k
   ·have:X.env.scope.names.lookup x=some .free:=hk;rw[k]at this;cases this
   ·have:X.env.scope.names.lookup x=some .free:=hk;rw[k]at this;cases this
noncomputable def ipI (f:Int->Int->Int):TIp:=fun x y H Q=>∃i j,x= .int i/\y= .int j/\Q (.int (f i j)) H
theorem ip_add:PIp X .Add (ipI fun i j=>i+j):=by
 intro pins s σ H x y v u Q I r1 r2 h;obtain⟨i,j,e1,e2,q⟩:=h;subst e1;subst e2;obtain⟨t,rfl⟩:=r1;obtain⟨t',rfl⟩:=r2;exact iadd_int ⟨.int _,H,I.tok _,⟨_,rfl⟩,q⟩
theorem ip_sub:PIp X .Sub (ipI fun i j=>i-j):=by
 intro pins s σ H x y v u Q I r1 r2 h;obtain⟨i,j,e1,e2,q⟩:=h;subst e1;subst e2;obtain⟨t,rfl⟩:=r1;obtain⟨t',rfl⟩:=r2;exact isub_int ⟨.int _,H,I.tok _,⟨_,rfl⟩,q⟩
end
section
variable {X:Cx} {pos:Pos}
noncomputable def tWhile (c:TT)(tb:TS):TS:=fun D σ H=>∃W:Nat->St->Hp->Prop,(∃m,W m σ H)/\∀m σ H,W m σ H->
 c σ H fun b H1=>if b=true then ∃N:St->Hp->Prop,(∀σ' H',N σ' H'->∃m',m'<m/\W m' σ' H')/\tb {D with nx:=N,ct:=N,bk:=D.nx} σ H1 else D.nx σ H1
theorem ps_while (hp:PassesOwn (model X.prog X.w) X.A X.env X.xe)(hc:PT X c tc)(hb:PSs X body tb):PS X (.While c body [] pos) (tWhile tc tb):=by
 intro pins s σ H D I h;obtain⟨W,⟨m0,w0⟩,turn⟩:=h;refine wpAny_While (codeAny_whileLoop (fun n s'=>∃σ' H',Inv X pins σ' H' s'/\W n σ' H') ?_ m0 ⟨σ,H,I,w0⟩);rintro n s1 ⟨σ1,H1,I1,w1⟩;refine qaG hp (thn (hc pins s1 σ1 H1 _ I1 (turn n σ1 H1 w1)) fun b s2 ⟨H2,I2,q2⟩=>?_);cases b with
 |true=>
  obtain⟨N,hN,q2⟩:=q2;rw[if_pos rfl];refine qaG hp (thn (hb pins s2 σ1 H2 _ I2 q2) fun f s3 q3=>?_);cases f with
  |next=>
   obtain⟨σ3,H3,I3,n3⟩:=q3;obtain⟨m',hm,w3⟩:=hN σ3 H3 n3;exact⟨m',hm,σ3,H3,I3,w3⟩
  |cont=>
   obtain⟨σ3,H3,I3,n3⟩:=q3;obtain⟨m',hm,w3⟩:=hN σ3 H3 n3;exact⟨m',hm,σ3,H3,I3,w3⟩
  |brk=>exact q3
  |ret v=>exact q3
 |false=>
  rw[if_neg qaH];exact qay ⟨σ1,H2,I2,q2⟩
end
structure It where
 go:Nat->Hp->Prop
 yld:Nat->Hp->V->Hp->Prop
 stop:Nat->Hp->Prop
noncomputable def FpOk (X:Cx)(pins:List (Addr×Obj))(H:Hp)(b:Addr):Prop:=
 H b=none/\b≠X.env.locals/\b∉X.fs/\(b∈X.ex\/X.s₀.heap.objs.size<=b)/\(∀x c,X.env.cells.lookup x=some c->c≠b)/\∀p∈X.pn++pins,p.1≠b
theorem Inv.fpOk {H H':Hp}(I:Inv X pins σ H s)(hb:s.heap.objs.size<=b)(hn:H' b=none):FpOk X pins H' b:=by
 refine⟨hn,Nat.ne_of_gt (qaf I.lt hb),I.nofs hb,.inr (qak I.sz hb),fun x c e z=>?_,fun p hp z=>?_⟩
 ·obtain⟨v,q⟩:=I.cell x c e;exact absurd (qaf q.lt (by rw[z];exact hb)) (qag _)
 ·exact absurd (qaf (qae (I.pin p hp).1) (by rw[z];exact hb)) (qag _)
structure Turn (P:Program) (w:World) (K:W.Frag) (tg:Expr) (J:It) (fp:List Addr) (it:Addr) (tn:Nat->Heap->Prop):Prop where
 mem:it∈fp
 obj:∀i h,tn i h->∀b∈fp,∃o,h.get? b=some o/\∀v,o.data≠ .cell v
 keep:∀i h h',tn i h->(∀b∈fp,∀o,h.get? b=some o->h'.get? b=some o)->tn i h'
 item:∀(X:Cx),X.prog=P->X.w=w->X.K=K->X.calm=true->∀(i:Nat) (pins:List (Addr×Obj)) (s:Shared) (σ:St) (H:Hp) (E:Value->Shared->Prop),Inv X pins σ H s->(∀b∈fp,FpOk X pins H b)->tn i s.heap->J.go i H->
  wpAny (model P w) X.A (pyNext (.ref it)) (fun r s1=>∃u,r=some u/\
   wpAny (model P w) X.A (letOwnedTupleGo tg (.ref it) u) (fun _ s2=>∃x H',Inv X pins σ H' s2/\RelV x u/\J.yld i H x H'/\tn (i+1) s2.heap/\∀b∈fp,H' b=none) E s1) E s
 done:∀(X:Cx),X.prog=P->X.w=w->X.K=K->X.calm=true->∀(i:Nat) (pins:List (Addr×Obj)) (s:Shared) (σ:St) (H:Hp) (E:Value->Shared->Prop),Inv X pins σ H s->(∀b∈fp,FpOk X pins H b)->tn i s.heap->J.stop i H->
  wpAny (model P w) X.A (pyNext (.ref it)) (fun r s1=>r=none/\Inv X pins σ H s1) E s
 self:∀(A:Around) (i:Nat) (s:Shared) (Q:Value->Shared->Prop) (E:Value->Shared->Prop),tn i s.heap->Q (.ref it) s->wpAny (model P w) A (pyIter (.ref it)) Q E s
noncomputable abbrev TI:=St->Hp->(It->Hp->Prop)->Prop
noncomputable def PIE (X:Cx)(pins:List (Addr×Obj))(σ:St)(tg:Expr)(R:It->Hp->Prop)(itv:Value)(s2:Shared):Prop:=
 ∃(it:Addr) (fp:List Addr) (tn:Nat->Heap->Prop) (J:It) (H':Hp),itv= .ref it/\Inv X pins σ H' s2/\Turn X.prog X.w X.K tg J fp it tn/\tn 0 s2.heap/\(∀b∈fp,FpOk X pins H' b)/\R J H'
noncomputable def PI (X:Cx)(tg iter:Expr)(wi:TI):Prop:=
 ∀(pins:List (Addr×Obj)) (s:Shared) (σ:St) (H:Hp) (R:It->Hp->Prop),Inv X pins σ H s->wi σ H R->
  wpAny (model X.prog X.w) X.A (eval iter X.env) (fun v s1=>wpAny (model X.prog X.w) X.A (pyIter v) (PIE X pins σ tg R) X.xe s1) X.xe s
theorem go_of {M:Model}{o:Obj}{n:String}{vs:Array Value}(ho:s.heap.get? it=some o)(hc:o.cls= .type n)(hd:o.data= .fields vs)
    (hn:["enumerate","zip","dict_itemiterator","dict_reverseitemiterator","odict_iterator","itertools.zip_longest","itertools.pairwise"].contains n=false) (hQ:Q () s):wpAny M A (letOwnedTupleGo tg (.ref it) u) Q E s:=by
  unfold letOwnedTupleGo;cases tg<;>first
    |exact qaC hQ
    | (cases u <;> first
        |exact qaC hQ
        | (refine qaz (wpAny_load ho ?_)
           rw[hc,hd];show wpAny M A (if(["enumerate","zip","dict_itemiterator","dict_reverseitemiterator","odict_iterator","itertools.zip_longest","itertools.pairwise"].contains n&&vs[0]? ==some (rawInt _))=true then _ else _) Q E s;rw[if_neg (by intro h;rw[hn,Bool.false_and]at h;cases h)];exact qaC hQ))
noncomputable def Itl (K:W.Frag)(a:Addr):It:=
 ⟨fun i H=>∃xs x,SqL K H a xs/\xs[i]? =some x,fun i H x H'=>H'=H/\∀xs,SqL K H a xs->xs[i]? =some x,fun i H=>∃xs,SqL K H a xs/\xs.length<=i⟩
noncomputable def Itt (K:W.Frag)(a:Addr):It:=
 ⟨fun i H=>∃xs x,SqT K H a xs/\xs[i]? =some x,fun i H x H'=>H'=H/\∀xs,SqT K H a xs->xs[i]? =some x,fun i H=>∃xs,SqT K H a xs/\xs.length<=i⟩
noncomputable def Itr (lo:Int)(n:Nat):It:=⟨fun i _=>i<n,fun i H x H'=>H'=H/\x= .int (lo+i),fun i _=>n<=i⟩
theorem zq2 {P:Program}(a it:Addr):Turn P w K tg (Itl K a) [it] it (fun i h=>h.IsListIter it a i) where
 mem:=by simp
 obj:=fun i h st b hb=>by
  have e:b=it:=by simpa using hb
  subst e;obtain⟨o,e,c,d⟩:=st;exact⟨o,e,fun v z=>by rw[d]at z;cases z⟩
 keep:=fun i h h' st k=>st.at fun o e=>k it (by simp) o e
 item:=by
  intro X hP hw hK hc i pins s σ H E I hf st hg;subst hP hw hK;obtain⟨xs,x,hq,hx⟩:=hg;obtain⟨its,rv,p,hz⟩:=I.list hq;obtain⟨u,hu,ru⟩:=rv.get hx;obtain⟨f0,f1,f2,f3,f4,f5⟩:=hf it (by simp);refine wpAny_pyNext_list_item st p.isList (x:=u) (by simpa using hu) fun h' st' sb=>?_
  have I1:Inv X pins σ H {s with heap:=h'}:=I.turned (t':=s.toks) (fun b o hb e=>(sb.2 b hb).trans e) f0 f1 f3 f4 f5;obtain⟨o,e,c,d⟩:=id st';exact⟨u,rfl,go_of (s:={s with heap:=h'}) e c d (by decide) ⟨x,H,I1,ru,⟨rfl,fun ys hy=>by rw[I.list_inj hy hq];exact hx⟩,st',fun b hb=>(hf b hb).1⟩⟩
 done:=by
  intro X hP hw hK hc i pins s σ H E I hf st hg;subst hP hw hK;obtain⟨xs,hq,hx⟩:=hg;obtain⟨its,rv,p,hz⟩:=I.list hq;obtain⟨f0,f1,f2,f3,f4,f5⟩:=hf it (by simp);have hl:=rv.length;exact wpAny_pyNext_list_end (I.ok.hd hc) st p.isList (by simp;lia) fun h' eb=>⟨rfl,I.turned (t':=s.toks) (fun b o hb e=>eb b o hb e) f0 f1 f3 f4 f5⟩
 self:=fun _ _ _ _ _ st h=>wpAny_pyIter_listiter st h
theorem zpp {P:Program}(a it:Addr):Turn P w K tg (Itt K a) [it] it (fun i h=>h.IsTupleIter it a i) where
 mem:=by simp
 obj:=fun i h st b hb=>by
  have e:b=it:=by simpa using hb
  subst e;obtain⟨o,e,c,d⟩:=st;exact⟨o,e,fun v z=>by rw[d]at z;cases z⟩
 keep:=fun i h h' st k=>st.at fun o e=>k it (by simp) o e
 item:=by
  intro X hP hw hK hc i pins s σ H E I hf st hg;subst hP hw hK;obtain⟨xs,x,hq,hx⟩:=hg;obtain⟨its,rv,p,hz⟩:=I.tuple hq;obtain⟨u,hu,ru⟩:=rv.get hx;obtain⟨f0,f1,f2,f3,f4,f5⟩:=hf it (by simp);refine wpAny_pyNext_tuple_item st (show s.heap.IsTuple a its.toArray from p) (x:=u) (by simpa using hu) fun h' st' sb=>?_
  have I1:Inv X pins σ H {s with heap:=h'}:=I.turned (t':=s.toks) (fun b o hb e=>(sb.2 b hb).trans e) f0 f1 f3 f4 f5;obtain⟨o,e,c,d⟩:=id st';exact⟨u,rfl,go_of (s:={s with heap:=h'}) e c d (by decide) ⟨x,H,I1,ru,⟨rfl,fun ys hy=>by rw[I.tuple_inj hy hq];exact hx⟩,st',fun b hb=>(hf b hb).1⟩⟩
 done:=by
  intro X hP hw hK hc i pins s σ H E I hf st hg;subst hP hw hK;obtain⟨xs,hq,hx⟩:=hg;obtain⟨its,rv,p,hz⟩:=I.tuple hq;obtain⟨f0,f1,f2,f3,f4,f5⟩:=hf it (by simp);have hl:=rv.length;exact wpAny_pyNext_tuple_end (I.ok.hd hc) st (show s.heap.IsTuple a its.toArray from p) (by simp;lia) fun h' eb=>⟨rfl,I.turned (t':=s.toks) (fun b o hb e=>eb b o hb e) f0 f1 f3 f4 f5⟩
 self:=fun _ _ _ _ _ st h=>wpAny_pyIter_tupleiter st h
theorem zpa {P:Program}{w:World}(it:Addr)(lo:Int)(n:Nat):Turn P w K tg (Itr lo n) [it] it (fun i h=>IsRangeIter h it (lo+(i:Nat)*1) ((n:Int)-(i:Nat)) 1) where
 mem:=by simp
 obj:=fun i h st b hb=>by
  have e:b=it:=by simpa using hb
  subst e;exact⟨_,st,fun v z=>by
   have z':Data.fields _=Data.cell v:=z;cases z'⟩
 keep:=fun i h h' st k=>k it (by simp) _ st
 item:=by
  intro X hP hw hK hc i pins s σ H E I hf st hg;subst hP hw hK;obtain⟨f0,f1,f2,f3,f4,f5⟩:=hf it (by simp);have W:=Walks.range (prog:=X.prog) (w:=X.w) (I.ok.hd hc) it lo 1 n;refine W.item i s _ _ hg st fun v h' tk hv st' kk=>?_
  obtain⟨t,rfl⟩:=hv;have I1:Inv X pins σ H {s with heap:=h',toks:=tk}:=I.turned (fun b o hb e=>kk b o (by simpa using hb) e) f0 f1 f3 f4 f5;refine⟨_,rfl,go_of (s:={s with heap:=h',toks:=tk}) (n:="range_iterator") st' rfl rfl (by decide) ⟨.int (lo+i),H,I1,⟨t,?_⟩,⟨rfl,rfl⟩,st',fun b hb=>(hf b hb).1⟩⟩;rw[Int.mul_one]
 done:=by
  intro X hP hw hK hc i pins s σ H E I hf st hg;subst hP hw hK;obtain⟨f0,f1,f2,f3,f4,f5⟩:=hf it (by simp);exact wpAny_pyNext_range_end (I.ok.hd hc) st (by have:n<=i:=hg;lia) fun h' eb=>⟨rfl,I.turned (t':=s.toks) (fun b o hb e=>eb b o hb e) f0 f1 f3 f4 f5⟩
 self:=fun _ _ _ _ _ st h=>wpAny_pyIter_rangeiter st h
section
variable {X:Cx} {tg:Expr}
theorem zob {R:It->Hp->Prop}{lo hi:Int}{t u v:Tok}{tk:Nat}(I:Inv X pins σ H s)(h1: -(2^62)<=lo)(h2:lo<2^62)(h3: -(2^62)<=hi)(h4:hi<2^62)
  (q:R (Itr lo (hi-lo).toNat) H):wpAny (model X.prog X.w) X.A (pyIter (.ref s.heap.objs.size)) (PIE X pins σ tg R) E {s with heap:=s.heap.push {cls:= .type "range",data:= .fields #[.int lo t,.int hi u,.int 1 v]},toks:=tk}:=by
 refine wpAny_pyIter_range (IsRange.new ..) (small_one h1 h2 h3 h4) ?_;have I1:Inv X pins σ H {s with heap:=s.heap.push {cls:= .type "range",data:= .fields #[.int lo t,.int hi u,.int 1 v]},toks:=tk}:=I.kept fun b o e=>qaE _ e
 refine⟨(s.heap.push {cls:= .type "range",data:= .fields #[.int lo t,.int hi u,.int 1 v]}).objs.size,[(s.heap.push {cls:= .type "range",data:= .fields #[.int lo t,.int hi u,.int 1 v]}).objs.size],_,_,H,rfl,
  I1.kept (t':=tk) fun b o e=>qaE _ e,zpa _ lo (hi-lo).toNat,?_,fun b hb=>?_,q⟩
 ·have e1:lo+((0:Nat):Int)*1=lo:=by simp
  have e2:(((hi-lo).toNat:Nat):Int)-((0:Nat):Int)=Builtin.Range.rangeSize lo hi 1:=by rw[rangeSize_one];split<;>lia
  show IsRangeIter _ _ (lo+((0:Nat):Int)*1) ((((hi-lo).toNat:Nat):Int)-((0:Nat):Int)) 1;rw[e1,e2];exact qaI _ rfl
 ·have e:b=(s.heap.push {cls:= .type "range",data:= .fields #[.int lo t,.int hi u,.int 1 v]}).objs.size:=by simpa using hb
  subst e;exact I1.fpOk (qaJ _) (I1.hok.fresh (qaJ _))
noncomputable def iRng1 (ta:TA):TI:=fun σ H R=>ta σ H fun vs H1=>∃j:Int,vs=[.int j]/\ -(2^62)<=j/\j<2^62/\R (Itr 0 j.toNat) H1
noncomputable def iRng2 (ta:TA):TI:=fun σ H R=>ta σ H fun vs H1=>∃i j:Int,vs=[.int i,.int j]/\(-(2^62)<=i/\i<2^62/\ -(2^62)<=j/\j<2^62)/\R (Itr i (j-i).toNat) H1
theorem zqX {a:Expr}{p pos:Pos}(hg:Gl X "range")(hm:X.mg "range"=none)(ha:PA X [a] ta)(hs:starEach [a] X.env=[(false,eval a X.env)]:=by rfl):PI X tg (.Call (.Name "range" p) [a] [] pos) (iRng1 ta):=by
 intro pins s σ H R I h;refine Call_ (ziy I hg hm boot_range (qaK (thn (ha pos pins s σ H _ I h) fun us s1 ⟨vs,H1,I1,r1,q1⟩=>?_) hs rfl));obtain⟨j,e,q1,q2,q⟩:=q1;subst e;cases r1 with
 |cons r rr=>
  cases rr;obtain⟨t,rfl⟩:=r;exact call_range_1 (zob I1 (by lia) (by lia) q1 q2 (by simpa using q))
theorem zp9 {a b:Expr}{p pos:Pos}(hg:Gl X "range")(hm:X.mg "range"=none)(ha:PA X [a,b] ta)(hs:starEach [a,b] X.env=[(false,eval a X.env),(false,eval b X.env)]:=by rfl)(hs2:starEach [b] X.env=[(false,eval b X.env)]:=by rfl):
  PI X tg (.Call (.Name "range" p) [a,b] [] pos) (iRng2 ta):=by
 intro pins s σ H R I h;refine Call_ (ziy I hg hm boot_range (qaK (thn (ha pos pins s σ H _ I h) fun us s1 ⟨vs,H1,I1,r1,q1⟩=>?_) (by rw[hs,hs2]) (by rw[hs2];rfl)));obtain⟨i,j,e,⟨q1,q2,q3,q4⟩,q⟩:=q1;subst e;cases r1 with
 |cons r rr=>
  cases rr with
  |cons r' rr=>
   cases rr;obtain⟨t,rfl⟩:=r;obtain⟨t',rfl⟩:=r';exact call_range_2 (zob I1 q1 q2 q3 q4 q)
noncomputable def tFor (wi:TI)(g:TG)(tb:TS):TS:=fun D σ H=>wi σ H fun J H1=>∃W:Nat->Nat->St->Hp->Prop,(∃m,W 0 m σ H1)/\∀i m σ H,W i m σ H->
 (J.stop i H/\D.nx σ H)\/(J.go i H/\∃N:St->Hp->Prop,(∀σ' H',N σ' H'->∃m',m'<m/\W (i+1) m' σ' H')/\∀x H',J.yld i H x H'->g x σ H' fun σ2 H2=>tb {D with nx:=N,ct:=N,bk:=D.nx} σ2 H2)
noncomputable def znh (fp:List Addr)(h:Heap):List (Addr×Obj):=fp.filterMap fun b=>(h.get? b).map fun o=>(b,o)
theorem zhc {o:Obj}(hb:b∈fp)(e:h.get? b=some o):(b,o)∈znh fp h:=qaL.mpr ⟨b,hb,by rw[e];rfl⟩
theorem zqq (hp:p∈znh fp h):p.1∈fp/\h.get? p.1=some p.2:=by
 obtain⟨b,hb,e⟩:=qaL.mp hp;cases q:h.get? b with
 |none=>rw[q]at e;cases e
 |some o=>
  rw[q]at e;have e':(b,o)=p:=Option.some.inj e;subst e';exact⟨hb,q⟩
theorem Inv.pinned (I:Inv X pins σ H s)(hf:∀b∈fp,FpOk X pins H b)(ho:∀b∈fp,∃o,s.heap.get? b=some o/\∀v,o.data≠ .cell v):Inv X (pins++znh fp s.heap) σ H s:=
 I.pins_of fun p hp=>(qap.mp hp).elim (fun z=>I.pin p (qaM _ z)) fun z=>by
  obtain⟨hb,e⟩:=zqq z;obtain⟨f0,f1,f2,_⟩:=hf p.1 hb;obtain⟨o,e',d⟩:=ho p.1 hb;rw[e]at e';cases e';exact⟨e,f0,f1,f2,d⟩
theorem Inv.unpinned {pins pl:List (Addr×Obj)}(I:Inv X (pins++pl) σ H s):Inv X pins σ H s:=I.pins_of fun p hp=>I.pin p (qaM _ (qaq _ hp))
theorem ps_for {iter:Expr}{wi:TI}{g:TG}(hp:PassesOwn (model X.prog X.w) X.A X.env X.xe)(hc:X.calm=true)(hi:PI X tg iter wi)(hg:PG X tg g)(hb:PSs X body tb)
    (hs:∀x,foldedSetIterable iter X.env x=pure x:=by intro _;rfl):PS X (.For tg iter body [] pos) (tFor wi g tb):=by
  intro pins s σ H D I h;refine wpAny_For (thn (hi pins s σ H _ I h) fun v s1 h1=>thn h1 fun itv s2 h2=>?_) hs;obtain⟨it,fp,tn,J,H2,e,I2,T,st2,f2,W,⟨m0,w0⟩,turn⟩:=h2;subst e;have stat:∀{H':Hp},(∀b∈fp,H' b=none)->∀b∈fp,FpOk X pins H' b:=fun hn b hb=>⟨hn b hb,(f2 b hb).2⟩
  refine codeAny_forLoop_any (fun n s'=>∃i σ' H',Inv X pins σ' H' s'/\tn i s'.heap/\(∀b∈fp,H' b=none)/\W i n σ' H') ?_ m0 ⟨0,σ,H2,I2,st2,fun b hb=>(f2 b hb).1,w0⟩;rintro n s3 ⟨i,σ3,H3,I3,st3,fr3,w3⟩;rcases turn i n σ3 H3 w3 with⟨stop,qn⟩|⟨go,N,hN,step⟩
  . refine qaG hp (thn (T.done X rfl rfl rfl hc i pins s3 σ3 H3 X.xe I3 (stat fr3) st3 stop) fun r s4 ⟨hr,I4⟩=>?_)
    subst hr;exact qay ⟨σ3,H3,I4,qn⟩
  . refine qaG hp (thn (T.item X rfl rfl rfl hc i pins s3 σ3 H3 X.xe I3 (stat fr3) st3 go) fun r s4 ⟨u,hr,h4⟩=>?_)
    subst hr;refine qaG hp (thn h4 fun _ s5 ⟨x,H5,I5,r5,y5,st5,fr5⟩=>?_);have I5':=I5.pinned (stat fr5) (T.obj _ _ st5);refine qaG hp (thn (hg _ s5 σ3 H5 x u _ I5' r5 (step x H5 y5)) fun _ s6 ⟨σ6,H6,I6,q6⟩=>?_);refine qaG hp (thn (hb _ s6 σ6 H6 _ I6 q6) fun f s7 q7=>?_);have again:∀{σ7:St} {H7:Hp},Inv X (pins++znh fp s5.heap) σ7 H7 s7->N σ7 H7->∃m,m<n/\∃i σ' H',Inv X pins σ' H' s7/\tn i s7.heap/\(∀b∈fp,H' b=none)/\W i m σ' H':=fun{σ7 H7} I7 n7=>by
      obtain⟨m',hm,w7⟩:=hN σ7 H7 n7;refine⟨m',hm,i+1,σ7,H7,I7.unpinned,T.keep _ _ _ st5 fun b hb o e=>(I7.pin (b,o) (qaM _ (qaM _ (zhc hb e)))).1,fun b hb=>?_,w7⟩;obtain⟨o,e,d⟩:=T.obj _ _ st5 b hb;exact(I7.pin (b,o) (qaM _ (qaM _ (zhc hb e)))).2.1
    cases f with
    |next=>obtain⟨σ7,H7,I7,n7⟩:=q7;exact again I7 n7
    |cont=>obtain⟨σ7,H7,I7,n7⟩:=q7;exact again I7 n7
    |brk=>obtain⟨σ7,H7,I7,q7⟩:=q7;exact⟨σ7,H7,I7.unpinned,q7⟩
    |ret v=>obtain⟨x7,σ7,H7,I7,r7,q7⟩:=q7;exact⟨x7,σ7,H7,I7.unpinned,r7,q7⟩
end
noncomputable abbrev R2:=V->V->Hp->VK->Prop
noncomputable def OpR (X:Cx)(f:Value->Value->Sem Value)(r:R2):Prop:=
 ∀(pins:List (Addr×Obj)) (s:Shared) (σ:St) (H:Hp) (x y:V) (v u:Value) (Q:VK),Inv X pins σ H s->RelV x v->RelV y u->r x y H Q->
  wpAny (model X.prog X.w) X.A (f v u) (EP X pins σ Q) X.xe s
noncomputable def UnR (X:Cx)(f:Value->Sem Value)(r:V->Hp->VK->Prop):Prop:=
 ∀(pins:List (Addr×Obj)) (s:Shared) (σ:St) (H:Hp) (x:V) (v:Value) (Q:VK),Inv X pins σ H s->RelV x v->r x H Q->
  wpAny (model X.prog X.w) X.A (f v) (EP X pins σ Q) X.xe s
noncomputable def zge (X:Cx)(f:Value)(r:List V->Hp->VK->Prop):Prop:=
 ∀(pins:List (Addr×Obj)) (s:Shared) (σ:St) (H:Hp) (xs:List V) (us:List Value) (Q:VK),Inv X pins σ H s->Vals xs us->r xs H Q->
  wpAny (model X.prog X.w) X.A (call f us) (EP X pins σ Q) X.xe s
noncomputable def TruR (X:Cx)(r:V->Hp->(Bool->Hp->Prop)->Prop):Prop:=
 ∀(pins:List (Addr×Obj)) (s:Shared) (σ:St) (H:Hp) (x:V) (v:Value) (Q:Bool->Hp->Prop),Inv X pins σ H s->RelV x v->r x H Q->
  wpAny (model X.prog X.w) X.A (truthy v) (TP X pins σ Q) X.xe s
noncomputable def tOp (r:R2)(ta tb:TE):TE:=fun σ H Q=>ta σ H fun x H1=>tb σ H1 fun y H2=>r x y H2 Q
noncomputable def tUn (r:V->Hp->VK->Prop)(ta:TE):TE:=fun σ H Q=>ta σ H fun x H1=>r x H1 Q
noncomputable def rI (C:Int->Int->Prop)(g:Int->Int->V):R2:=fun x y H Q=>∃i j,x= .int i/\y= .int j/\C i j/\Q (g i j) H
noncomputable def rI0 (g:Int->Int->V):R2:=fun x y H Q=>∃i j,x= .int i/\y= .int j/\Q (g i j) H
noncomputable def rU (g:Int->V):V->Hp->VK->Prop:=fun x H Q=>∃i,x= .int i/\Q (g i) H
section
variable {X:Cx} {a b c:Expr} {ta tb tc:TE} {pos:Pos}
theorem binT (ha:PE X a ta)(hb:PE X b tb){R:V->V->Hp->Prop}(I:Inv X pins σ H s)
  (h:ta σ H fun x H1=>tb σ H1 fun y H2=>R x y H2) {Q:Value->Shared->Prop} {f:Value->Value->Sem Value}
  (hf:∀v u s2 x y H2,Inv X pins σ H2 s2->RelV x v->RelV y u->R x y H2->wpAny (model X.prog X.w) X.A (f v u) Q X.xe s2):
  wpAny (model X.prog X.w) X.A (eval a X.env) (fun v s₁=>wpAny (model X.prog X.w) X.A (eval b X.env) (fun u s₂=>wpAny (model X.prog X.w) X.A (f v u) Q X.xe s₂) X.xe s₁) X.xe s:=by
 refine thn (ha pins s σ H _ I h) fun v s1 ⟨x,H1,I1,r1,q1⟩=>?_
 refine thn (hb pins s1 σ H1 _ I1 q1) fun u s2 ⟨y,H2,I2,r2,q2⟩=>?_
 exact hf v u s2 x y H2 I2 r1 r2 q2
theorem pe_op {op:Operator}{r:R2}(ho:OpR X (binaryOp op) r)(ha:PE X a ta)(hb:PE X b tb):PE X (.BinOp a op b pos) (tOp r ta tb):=by
 intro pins s σ H Q I h;exact wpAny_BinOp (binT ha hb I h fun v u s2 x y H2 I2 rx ry q=>ho pins s2 σ H2 x y v u Q I2 rx ry q)
theorem pe_un {op:UnaryOp}(ho:UnR X (unaryOp op) r)(ha:PE X a ta):PE X (.UnaryOp op a pos) (tUn r ta):=by
 intro pins s σ H Q I h;exact UnaryOp_ (thn (ha pins s σ H _ I h) fun v s1 ⟨x,H1,I1,r1,q1⟩=>ho pins s1 σ H1 x v Q I1 r1 q1)
theorem opI
  (rule:∀(i j:Int) (t u:Tok) (s:Shared) (Q:Value->Shared->Prop) (E:Value->Shared->Prop),C i j->Q (.int (g i j) s.toks) {s with toks:=s.toks+1}->wpAny (model X.prog X.w) X.A (f (.int i t) (.int j u)) Q E s):
  OpR X f (rI C fun i j=> .int (g i j)):=by
 intro pins s σ H x y v u Q I rx ry h;obtain⟨i,j,rfl,rfl,hc,q⟩:=h;obtain⟨t,rfl⟩:=rx;obtain⟨t',rfl⟩:=ry;exact rule i j t t' s _ _ hc ⟨.int (g i j),H,I.tok _,⟨_,rfl⟩,q⟩
theorem opI0
  (rule:∀(i j:Int) (t u:Tok) (s:Shared) (Q:Value->Shared->Prop) (E:Value->Shared->Prop),Q (.int (g i j) s.toks) {s with toks:=s.toks+1}->wpAny (model X.prog X.w) X.A (f (.int i t) (.int j u)) Q E s):
  OpR X f (rI0 fun i j=> .int (g i j)):=by
 intro pins s σ H x y v u Q I rx ry h;obtain⟨i,j,rfl,rfl,q⟩:=h;obtain⟨t,rfl⟩:=rx;obtain⟨t',rfl⟩:=ry;exact rule i j t t' s _ _ ⟨.int (g i j),H,I.tok _,⟨_,rfl⟩,q⟩
theorem opB0 {g:Int->Int->Bool}
  (rule:∀(i j:Int) (t u:Tok) (s:Shared) (Q:Value->Shared->Prop) (E:Value->Shared->Prop),Q (.bool (g i j)) s->wpAny (model X.prog X.w) X.A (f (.int i t) (.int j u)) Q E s):
  OpR X f (rI0 fun i j=> .bl (g i j)):=by
 intro pins s σ H x y v u Q I rx ry h;obtain⟨i,j,rfl,rfl,q⟩:=h;obtain⟨t,rfl⟩:=rx;obtain⟨t',rfl⟩:=ry;exact rule i j t t' s _ _ ⟨.bl (g i j),H,I,rfl,q⟩
noncomputable def CPow (i j:Int):Prop:=0<=j/\j<=1000000/\i.natAbs<2^64
theorem op_add:OpR X (binaryOp .Add) (rI0 fun i j=> .int (i+j)):=opI0 fun _ _ _ _ _ _ _ q=>add_int q
theorem op_sub:OpR X (binaryOp .Sub) (rI0 fun i j=> .int (i-j)):=opI0 fun _ _ _ _ _ _ _ q=>sub_int q
theorem op_mod:OpR X (binaryOp .Mod) (rI (fun _ j=>0<j) fun i j=> .int (i%j)):=opI fun i j _ _ _ _ _ hc q=>by
 have h1:(0:Int)<j:=hc;exact mod_int' (by lia) (by rw[Int.fmod_eq_emod_of_nonneg i (by lia)];exact q)
theorem op_pow:OpR X (binaryOp .Pow) (rI CPow fun i j=> .int (i^j.toNat)):=opI fun _ _ _ _ _ _ _ hc q=>pow_int_small hc.1 hc.2.1 hc.2.2 q
theorem unI {f:Value->Sem Value}{g:Int->Int}
  (rule:∀(i:Int) (t:Tok) (s:Shared) (Q:Value->Shared->Prop) (E:Value->Shared->Prop),Q (.int (g i) s.toks) {s with toks:=s.toks+1}->wpAny (model X.prog X.w) X.A (f (.int i t)) Q E s):
  UnR X f (rU fun i=> .int (g i)):=by
 intro pins s σ H x v Q I rx h;obtain⟨i,rfl,q⟩:=h;obtain⟨t,rfl⟩:=rx;exact rule i t s _ _ ⟨.int (g i),H,I.tok _,⟨_,rfl⟩,q⟩
theorem un_neg:UnR X (unaryOp .USub) (rU fun i=> .int (-i)):=unI fun _ _ _ _ _ q=>neg_int q
end
section
variable {X:Cx} {a b c:Expr} {ta tb tc:TE} {pos:Pos}
theorem fin_bl {Q:VK}{k k':Bool}(I:Inv X pins σ H s)(q:Q (.bl k) H)(e:k=k'):EP X pins σ Q (.bool k') s:=by
 subst e;exact⟨.bl k,H,I,rfl,q⟩
theorem op_lt:OpR X (compareOp .Lt) (rI0 fun i j=> .bl (decide (i<j))):=opB0 fun _ _ _ _ _ _ _ q=>lt_int q
theorem zn9:OpR X (compareOp .LtE) (rI0 fun i j=> .bl (decide (i<=j))):=opB0 fun _ _ _ _ _ _ _ q=>le_int q
theorem op_gt:OpR X (compareOp .Gt) (rI0 fun i j=> .bl (decide (j<i))):=opB0 fun _ _ _ _ _ _ _ q=>gt_int q
theorem op_ge:OpR X (compareOp .GtE) (rI0 fun i j=> .bl (decide (j<=i))):=opB0 fun _ _ _ _ _ _ _ q=>ge_int q
theorem op_isN:OpR X (compareOp .Is) (fun x y H Q=>y= .non/\Q (.bl (decide (x= .non))) H):=by
 intro pins s σ H x y v u Q I rx ry h;obtain⟨rfl,q⟩:=h;cases ry;refine is_none_gen (fin_bl I q ?_);cases x<;>first
  |(cases rx;rfl)
  |(obtain⟨t,rfl⟩:=rx;rfl)
theorem op_notN:OpR X (compareOp .IsNot) (fun x y H Q=>y= .non/\Q (.bl (!decide (x= .non))) H):=by
 intro pins s σ H x y v u Q I rx ry h;obtain⟨rfl,q⟩:=h;cases ry;refine isnot_none_gen (fin_bl I q ?_);cases x<;>first
  |(cases rx;rfl)
  |(obtain⟨t,rfl⟩:=rx;rfl)
theorem OpR.or {r r':R2}(h:OpR X f r)(h':OpR X f r'):OpR X f (fun x y H Q=>r x y H Q\/r' x y H Q):=by
 intro pins s σ H x y v u Q I rx ry q;rcases q with q|q
 ·exact h pins s σ H x y v u Q I rx ry q
 ·exact h' pins s σ H x y v u Q I rx ry q
theorem zhE (b:Expr)(h:op≠ .In:=by decide)(h2:op≠ .NotIn:=by decide):behindInMarks op b=false:=by
 have e1:(op==CmpOp.In)=false:=by cases op<;>first|rfl|exact absurd rfl h
 have e2:(op==CmpOp.NotIn)=false:=by cases op<;>first|rfl|exact absurd rfl h2
 cases b<;>simp[behindInMarks,e1,e2]
theorem pe_cmpR {r:R2}(ho:OpR X (compareOp op) r)(ha:PE X a ta)(hb:PE X b tb)(hm:behindInMarks op b=false):PE X (.Compare a [op] [b] pos) (tOp r ta tb):=by
 intro pins s σ H Q I h;exact wpAny_Compare1 (binT ha hb I h fun v u s2 x y H2 I2 rx ry q=>ho pins s2 σ H2 x y v u Q I2 rx ry q) hm
noncomputable def tTest (t:TE):TT:=fun σ H Q=>t σ H fun x H'=>∃k,x= .bl k/\Q k H'
theorem pt_cmpR {r:R2}(ho:OpR X (compareOp op) r)(ha:PE X a ta)(hb:PE X b tb)(hm:behindInMarks op b=false):PT X (.Compare a [op] [b] pos) (tTest (tOp r ta tb)):=by
 intro pins s σ H Q I h;refine wpAny_isTrue_Compare1 (thn (ha pins s σ H _ I h) fun v s1 ⟨x,H1,I1,r1,q1⟩=>thn (hb pins s1 σ H1 _ I1 q1) fun u s2 ⟨y,H2,I2,r2,q2⟩=>
  thn (ho pins s2 σ H2 x y v u _ I2 r1 r2 q2) fun c s3 ⟨z,H3,I3,r3,k,e,q3⟩=>?_) hm
 subst e;cases r3;exact qaw ⟨H3,I3,q3⟩
noncomputable def zpL (r r':R2)(ta tb tc:TE):TE:=fun σ H Q=>ta σ H fun x H1=>tb σ H1 fun y H2=>r x y H2 fun z H3=>∃k,z= .bl k/\
 (if k=true then tc σ H3 fun w' H4=>r' y w' H4 Q else Q (.bl false) H3)
theorem pe_chain {r r':R2}(ho:OpR X (compareOp op) r)(ho':OpR X (compareOp op') r')(ha:PE X a ta)(hb:PE X b tb)(hc:PE X c tc)
  (hm:lastMarks [op,op'] [b,c]=false:=by with_unfolding_all rfl):PE X (.Compare a [op,op'] [b,c] pos) (zpL r r' ta tb tc):=by
 intro pins s σ H Q I h;refine Compare_chain (thn (ha pins s σ H _ I h) fun v s1 ⟨x,H1,I1,r1,q1⟩=>chain_link (thn (hb pins s1 σ H1 _ I1 q1) fun u s2 ⟨y,H2,I2,r2,q2⟩=>
  thn (ho pins s2 σ H2 x y v u _ I2 r1 r2 q2) fun d s3 ⟨z,H3,I3,r3,k,e,q3⟩=>?_)) hm
 subst e;cases r3;refine qaw ?_;cases k with
 |false=>exact ite_ff ⟨.bl false,H3,I3,rfl,q3⟩
 |true=>exact ite_tt (chain_last (thn (hc pins s3 σ H3 _ I3 q3) fun w' s4 ⟨z',H4,I4,r4,q4⟩=>ho' pins s4 σ H4 y z' u w' Q I4 r2 r4 q4))
theorem pt_chain {r r':R2}(ho:OpR X (compareOp op) r)(ho':OpR X (compareOp op') r')(ha:PE X a ta)(hb:PE X b tb)(hc:PE X c tc)
  (hm:lastMarks [op,op'] [b,c]=false:=by with_unfolding_all rfl):PT X (.Compare a [op,op'] [b,c] pos) (tTest (zpL r r' ta tb tc)):=by
 intro pins s σ H Q I h;refine isTrue_chain (thn (ha pins s σ H _ I h) fun v s1 ⟨x,H1,I1,r1,q1⟩=>test_link (thn (hb pins s1 σ H1 _ I1 q1) fun u s2 ⟨y,H2,I2,r2,q2⟩=>
  thn (ho pins s2 σ H2 x y v u _ I2 r1 r2 q2) fun d s3 ⟨z,H3,I3,r3,k,e,q3⟩=>?_)) hm
 subst e;cases r3;refine qaw ?_;cases k with
 |false=>
  obtain⟨k',e',q'⟩:=q3;cases e';exact ite_ff ⟨H3,I3,q'⟩
 |true=>
  refine ite_tt (test_last (thn (hc pins s3 σ H3 _ I3 q3) fun w' s4 ⟨z',H4,I4,r4,q4⟩=>thn (ho' pins s4 σ H4 y z' u w' _ I4 r2 r4 q4) fun d' s5 ⟨z2,H5,I5,r5,k2,e2,q5⟩=>?_));subst e2;cases r5;exact qaw ⟨H5,I5,q5⟩
noncomputable def TruV (K:W.Frag)(x:V)(H:Hp)(k:Bool):Prop:=
 match x with
 | .non=>k=false
 | .bl b=>k=b
 | .int i=>k=(i !=0)
 | .str y=>y.length<=sizeLine/\k=((y.length:Int) !=0)
 | .byt y=>y.size<=sizeLine/\k=((y.size:Int) !=0)
 | .ref p=>(∃xs,SqL K H p xs/\k=!xs.isEmpty)\/(∃xs,SqT K H p xs/\k=!xs.isEmpty)\/∃kvs,H p=some (.dK kvs)/\k=!kvs.isEmpty
 |_=>False
theorem zpx {κ:Type}{kvs:List (κ×V)}{vs:List (κ×Value)}(r:KV kvs vs):(!vs.isEmpty)=!kvs.isEmpty:=by
 cases r<;>rfl
theorem zkL (r:Vals xs its):(!its.toArray.isEmpty)=!xs.isEmpty:=by
 cases r<;>simp
theorem zjN:(sizeLine:Nat)<2^63:=by rw[qaN];decide
theorem tru_ok:TruR X (fun x H Q=>∃k,TruV X.K x H k/\Q k H):=by
 intro pins s σ H x v Q I rx h;obtain⟨k,e,q⟩:=h;have hl:=zjN;have hs:sizeLine=16777216:=qaN;cases x with
 |non=>
  cases rx;have e':k=false:=e;subst e';exact truthy_none ⟨H,I,q⟩
 |bl b=>
  cases rx;have e':k=b:=e;subst e';exact qaw ⟨H,I,q⟩
 |int i=>
  obtain⟨t,rfl⟩:=rx;have e':k=(i !=0):=e;subst e';exact PySem.P.truthy_int ⟨H,I,q⟩
 |str y=>
  obtain⟨t,rfl⟩:=rx;obtain⟨hy,e'⟩:y.length<=sizeLine/\k=((y.length:Int) !=0):=e;subst e';exact PySem.P.truthy_str (by lia) ⟨H,I.tok _,q⟩
 |byt y=>
  obtain⟨t,rfl⟩:=rx;obtain⟨hy,e'⟩:y.size<=sizeLine/\k=((y.size:Int) !=0):=e;subst e';exact W.truthy_bytes (by lia) ⟨H,I.tok _,q⟩
 |ref p=>
  cases rx;have e':(∃xs,SqL X.K H p xs/\k=!xs.isEmpty)\/(∃xs,SqT X.K H p xs/\k=!xs.isEmpty)\/∃kvs,H p=some (.dK kvs)/\k=!kvs.isEmpty:=e;rcases e' with⟨xs,hx,e'⟩|⟨xs,hx,e'⟩|⟨kvs,hx,e'⟩
  ·subst e';obtain⟨its,r,pl,hz⟩:=I.list hx;have hlen:=r.length;exact wpAny_truthy_list pl.isList (by simp only[qaO];lia) ⟨H,I.tok _,by rw[zkL r];exact q⟩
  ·subst e';obtain⟨its,r,pl,hz⟩:=I.tuple hx;have hlen:=r.length;exact truthy_tuple pl (by simp only[qaO];lia) ⟨H,I.tok _,by rw[zkL r];exact q⟩
  ·subst e';obtain⟨hz,hS,vs,r,m⟩:kvs.length<=sizeLine/\(p==sysModules)=false/\∃vs,KV kvs vs/\s.heap.DictOf (zcm X.prog X.w) p vs:=I.hok p _ hx;have hlen:kvs.length=vs.length:=qac r;exact wpAny_truthy_dict hS m (by lia) ⟨H,I.tok _,by rw[zpx r];exact q⟩
 |_=>exact(show False from e).elim
theorem pt_truth (ha:PE X a ta)(he:∀whole,isTrue a X.env whole=(do let v<-whole;standAt a.pos;holding [v] (truthy v))):
  PT X a (fun σ H Q=>ta σ H fun x H'=>∃k,TruV X.K x H' k/\Q k H'):=by
 intro pins s σ H Q I h;exact isTrue_plain (thn (ha pins s σ H _ I h) fun v s1 ⟨x,H1,I1,r1,q1⟩=>tru_ok pins s1 σ H1 x v Q I1 r1 q1) (he _)
theorem zpg:OpR X (binaryOp .Add) (fun x y H Q=>∃i j,x= .str i/\y= .str j/\i.length+j.length<=sizeLine/\Q (.str (i++j)) H):=by
 intro pins s σ H x y v u Q I rx ry h;obtain⟨i,j,rfl,rfl,hz,q⟩:=h;obtain⟨t,rfl⟩:=rx;obtain⟨t',rfl⟩:=ry;exact add_str (fun t' tk=>⟨.str (i++j),H,I.tok _,⟨_,rfl⟩,q⟩) hz
theorem zk6 {x:V}(r:Vals [x] us):∃u,us=[u]/\RelV x u:=by
 cases r with
 |cons r1 r2=>cases r2;exact⟨_,rfl,r1⟩
theorem vals2 {x y:V}(r:Vals [x,y] us):∃u w',us=[u,w']/\RelV x u/\RelV y w':=by
 cases r with
 |cons r1 r2=>
  cases r2 with
  |cons r3 r4=>cases r4;exact⟨_,_,rfl,r1,r3⟩
theorem zqz (hc:X.calm=true):zge X (.builtin "max") (fun xs H Q=>∃i j,xs=[.int i,.int j]/\Q (.int (if j>i then j else i)) H):=by
 intro pins s σ H xs us Q I r h;obtain⟨i,j,rfl,q⟩:=h;obtain⟨u,w',rfl,⟨t,rfl⟩,⟨t',rfl⟩⟩:=vals2 r;refine max_two_ints (I.ok.hd hc) fun h' tk k=>⟨_,H,I.kept k,?_,q⟩
 by_cases hj:j>i
 ·rw[if_pos hj,if_pos hj];exact⟨_,rfl⟩
 ·rw[if_neg hj,if_neg hj];exact⟨_,rfl⟩
theorem zrE (hc:X.calm=true):zge X (.builtin "min") (fun xs H Q=>∃i j,xs=[.int i,.int j]/\Q (.int (if j<i then j else i)) H):=by
 intro pins s σ H xs us Q I r h;obtain⟨i,j,rfl,q⟩:=h;obtain⟨u,w',rfl,⟨t,rfl⟩,⟨t',rfl⟩⟩:=vals2 r;refine min_two_ints (I.ok.hd hc) fun h' tk k=>⟨_,H,I.kept k,?_,q⟩
 by_cases hj:j<i
 ·rw[if_pos hj,if_pos hj];exact⟨_,rfl⟩
 ·rw[if_neg hj,if_neg hj];exact⟨_,rfl⟩
end
structure ObjM (h:Heap) (x dx C:Addr) (mA:Str->Option Value):Prop where
 obj:h.get? x=some (W.instObj C dx)
 ns:h.Ns1 dx mA
 ne:dx≠x
theorem zrn (n:h.Ns1 dx mA):∃od,h.get? dx=some od/\∀name,W.lookIn name od=some (mA name):=by
 obtain⟨o,es,ep,ho,hd,hk,_,hm⟩:=n;refine⟨o,ho,fun name=>?_⟩;have e:=hm name;unfold nsFind findBy at e;rw[<-Array.find?_toList]at e;unfold W.lookIn;rw[hd];dsimp only
 split
 ·rename_i y q;rw[q]at e;exact congrArg some e
 ·rename_i q;rw[q]at e;have a:es.toList.any (·.refKey)=false:=by
   rw[List.any_eq_false];intro y hy;obtain⟨z,t,hkey⟩:=hk y (Array.mem_toList_iff.mp hy);simp[DictEntry.refKey,hkey]
  have a':¬es.toList.any (·.refKey)=true:=by rw[a];exact qaH
  rw[if_neg a'];exact congrArg some e
theorem ObjM.look {x dx C:Addr}(I:ObjM h x dx C mA):∃od,W.InstAt h x (W.instObj C dx) C (some od)/\∀name,W.lookIn name od=some (mA name):=
 let⟨od,ho,hl⟩:=zrn I.ns
 ⟨od,⟨I.obj,rfl,rfl,ho⟩,hl⟩
theorem RelO.some_of {o:Option Value}(r:RelO (some v) o):∃u,o=some u/\RelV v u:=by
 cases o with
 |none=>exact(show False from r).elim
 |some u=>exact⟨u,rfl,r⟩
section
variable {P:Program} {w:World} {H H':Hp} {h h':Heap} {a C dx:Addr} {fs fs':List (Str×V)}
theorem ins_get (hok:HOk P w H h)(e:H a=some (.ins C dx fs)):∃mA,ObjM h a dx C mA/\(∀f,RelO (fs.lookup f) (mA f))/\PySem.Within mA (fs.map (·.1))/\fs.length<=1000/\H dx=some (.own a):=by
 obtain⟨d,z,ne,ob,mA,n,r,q⟩:=(show ObjOk P w H h a (.ins C dx fs)from hok a _ e);exact⟨mA,⟨ob,n,ne⟩,r,q,z,d⟩
end
structure Cls (K:W.Frag) (C:Addr):Prop where
 pg:W.plainGet K C Str.empty=true
 hd:W.hasDictIn K C=true
 po:W.plainOver K C=true
 sa:W.findIn K (.ref C) "__setattr__"=some (some (.builtin "object.__setattr__"))
theorem Cls.get {C:Addr}(c:Cls K C)(f:Str):W.plainGet K C f=true:=c.pg
section
variable {X:Cx} {pins:List (Addr×Obj)} {σ:St} {H:Hp} {s:Shared} {A:Around} {E:Value->Shared->Prop} {Q:Value->Shared->Prop} {c:Value} {b:Bool}
inductive TyOf (K:W.Frag) (H:Hp):V->Value->Prop where
 |non:TyOf K H .non (.type "NoneType")
 |bl (x:Bool):TyOf K H (.bl x) (.type "bool")
 |int (i:Int):TyOf K H (.int i) (.type "int")
 |str (x:Str):TyOf K H (.str x) (.type "str")
 |flt (x:UInt64):TyOf K H (.flt x) (.type "float")
 |lst {a:Addr} {xs:List V} (e:H a=some (.lst xs)):TyOf K H (.ref a) (.type "list")
 |frz {a:Addr} {o:Obj} {xs:List V} (e:H a=some (.frz o (.lst xs))):TyOf K H (.ref a) (.type "list")
 |tup {a:Addr} {xs:List V} (e:H a=some (.tup xs)):TyOf K H (.ref a) (.type "tuple")
 |dK {a:Addr} {kvs:List (Key×V)} (e:H a=some (.dK kvs)):TyOf K H (.ref a) (.type "dict")
 |dT {a:Addr} {kvs:List (List Key×V)} (e:H a=some (.dT kvs)):TyOf K H (.ref a) (.type "dict")
 |ins {a C dx:Addr} {fs:List (Str×V)} (e:H a=some (.ins C dx fs)) (cl:Cls K C) (ha:W.findIn K (.ref C) "__class__"=some (some (.builtin "object.__class__")))
   (hn:W.specialIn K (.builtin "object.__class__") "__get__"=some (some (.builtin "getset_descriptor.__get__"))) (htk:W.takesIn K (.builtin "object.__class__")=some true)
   (hm:W.mroIn K C (.type "object")=some true):TyOf K H (.ref a) (.ref C)
theorem zqi {x:V}{u t:Value}(I:Inv X pins σ H s)(rx:RelV x u)(ty:TyOf X.K H x t)(e:W.kitOne X.K t c=some b)(h:∀tk,Q (.bool b) {s with toks:=tk}):
  wpAny (model X.prog X.w) A (call (.builtin "isinstance") [u,c]) Q E s:=by
 cases ty with
 |non=>cases(show u=Value.none from rx);exact qaP W.kitx_none I.kIn True.intro e (fun z=>nomatch z) h
 |bl y=>cases(show u=Value.bool y from rx);exact qaP W.kitx_bool I.kIn True.intro e (fun z=>nomatch z) h
 |int i=>obtain⟨t,q⟩:=(show ∃t,u=Value.int i t from rx);cases q;exact qaP W.kitx_int I.kIn True.intro e (fun z=>nomatch z) h
 |str y=>obtain⟨t,q⟩:=(show ∃t,u=Value.str y t from rx);cases q;exact qaP W.kitx_str I.kIn True.intro e (fun z=>nomatch z) h
 |flt y=>obtain⟨t,q⟩:=(show ∃t,u=Value.float y t from rx);cases q;exact qaP W.kitx_float I.kIn True.intro e (fun z=>nomatch z) h
 | @lst a xs ea=>
  cases(show u=Value.ref a from rx);obtain⟨_,_,n,_,h1⟩:=(show ObjOk X.prog X.w H s.heap a (.lst xs)from I.hok a _ ea);exact qaP W.kitx_list I.kIn ⟨_,h1,rfl⟩ e (fun z=>nomatch z) h
 | @frz a ob xs ea=>
  cases(show u=Value.ref a from rx);obtain⟨_,_,_,n,_,h1⟩:=(show ObjOk X.prog X.w H s.heap a (.frz ob (.lst xs))from I.hok a _ ea);exact qaP W.kitx_list I.kIn ⟨_,h1,rfl⟩ e (fun z=>nomatch z) h
 | @tup a xs ea=>
  cases(show u=Value.ref a from rx);obtain⟨_,_,_,p⟩:=(show ObjOk X.prog X.w H s.heap a (.tup xs)from I.hok a _ ea);obtain⟨o,h1,h2,_⟩:=p;exact qaP W.kitx_tuple I.kIn ⟨o,h1,h2⟩ e (fun z=>nomatch z) h
 | @dK a kvs ea=>
  cases(show u=Value.ref a from rx);obtain⟨_,_,vs,_,p⟩:=(show ObjOk X.prog X.w H s.heap a (.dK kvs)from I.hok a _ ea);obtain⟨o,es,ep,h1,h2,_⟩:=p;exact qaP W.kitx_dict I.kIn ⟨o,h1,h2.1⟩ e (fun z=>nomatch z) h
 | @dT a kvs ea=>
  cases(show u=Value.ref a from rx);obtain⟨_,_,xs,_,o,es,ep,h1,h2,_⟩:=(show ObjOk X.prog X.w H s.heap a (.dT kvs)from I.hok a _ ea);exact qaP W.kitx_dict I.kIn ⟨o,h1,h2.1⟩ e (fun z=>nomatch z) h
 | @ins a C dx fs ea cl ha hn htk hm=>
  cases(show u=Value.ref a from rx);obtain⟨mA,O,_⟩:=ins_get I.hok ea;obtain⟨od,J,_⟩:=O.look;exact qaP (W.kitx_own (cl.get _) cl.hd ha hn htk hm) I.kIn J e (fun z=>nomatch z) h
end
structure Room (k:Nat) (A:Around):Prop where
 hd:A.handled=none
 dp:A.depth+3*k+5<recursionLimit
 un:A.units+16*k+200<cLine
 gd:A.guards=some []
theorem Room.mono {j k:Nat}(r:Room k A)(h:j<=k):Room j A:=⟨r.hd,by have:=r.dp;lia,by have:=r.un;lia,r.gd⟩
theorem Room.deeper {k:Nat}(r:Room (k+1) A)(env:Env):Room k (A.deeper env):=
 ⟨r.hd,by have:=r.dp;show A.depth+1+3*k+5<_;lia,by have:=r.un;show A.units+3+16*k+200<_;lia,r.gd⟩
theorem Room.depth {k:Nat}(r:Room k A):A.depth<recursionLimit:=by have:=r.dp;lia
theorem Room.units {k:Nat}(r:Room k A):A.units+64<cLine:=by have:=r.un;lia
noncomputable def tNil:TA:=fun _ H Q=>Q [] H
noncomputable def tCons (ta:TE)(tr:TA):TA:=fun σ H Q=>ta σ H fun x H1=>tr σ H1 fun xs H2=>Q (x::xs) H2
section
variable {X:Cx} {e:Expr} {es:List Expr} {te:TE} {t:TA} {pos:Pos}
theorem ziz:PA X [] tNil:=fun _ _ _ _ H Q I h=>Calls.spliced_nil ⟨[],H,I,.nil,h⟩
theorem zb4 (ha:PE X e te)(hr:PA X es t)(hs:starEach (e::es) X.env=(false,eval e X.env)::starEach es X.env:=by rfl):PA X (e::es) (tCons te t):=by
 intro pos pins s σ H Q I h;rw[hs];show wpAny _ _ (spliced ((false,eval e X.env)::backTo pos (starEach es X.env))) _ _ s;refine Calls.spliced_cons (thn (ha pins s σ H _ I h) fun u s1 ⟨x,H1,I1,r1,q1⟩=>?_);exact thn (hr pos pins s1 σ H1 _ I1 q1) fun us s2 ⟨xs,H2,I2,r2,q2⟩=>⟨x::xs,H2,I2,.cons r1 r2,q2⟩
noncomputable def tTup (t:TA):TE:=fun σ H Q=>t σ H fun xs H1=>xs.length<=sizeLine/\∀p,H1 p=none->Q (.ref p) (upd H1 p (.tup xs))
noncomputable def tLst (t:TA):TE:=fun σ H Q=>t σ H fun xs H1=>xs.length<=sizeLine/\∀p,H1 p=none->Q (.ref p) (upd H1 p (.lst xs))
theorem pe_tup {x1}(h:PA X es t):PE X (.Tuple es x1 pos) (tTup t):=by
 intro pins s σ H Q I hq;refine wpAny_Tuple_spliced (thn (h pos pins s σ H _ I hq) fun us s1 ⟨xs,H1,I1,r,z,q⟩=>⟨by rw[<-r.length];exact z,?_⟩);have hf:H1 s1.heap.objs.size=none:=I1.hok.fresh (qaJ _);refine⟨.ref s1.heap.objs.size,upd H1 s1.heap.objs.size (.tup xs),I1.laid (t':=s1.toks) (fun b u e=>qaE _ e) (qaJ _) ?_,rfl,q _ hf⟩;exact⟨z,us,r,⟨_,qaI _ rfl,rfl,_,rfl⟩⟩
theorem pe_lst (h:PA X es t):PE X (.List es pos) (tLst t):=by
 intro pins s σ H Q I hq;refine wpAny_List_spliced (thn (h pos pins s σ H _ I hq) fun us s1 ⟨xs,H1,I1,r,z,q⟩=>⟨by rw[<-r.length];exact z,?_⟩);have hf:H1 s1.heap.objs.size=none:=I1.hok.fresh (qaJ _);refine⟨.ref s1.heap.objs.size,upd H1 s1.heap.objs.size (.lst xs),I1.laid (t':=s1.toks) (fun b u e=>qaE _ e) (qaJ _) ?_,rfl,q _ hf⟩;exact⟨z,us,0,r,qaI _ rfl⟩
end
noncomputable abbrev Sp:=List V->Hp->VK->XK->Prop
noncomputable abbrev CXT:=List Env->Hp->Shared->XK->Value->Shared->Prop
structure Env0 (P:Program) (w:World) (K:W.Frag) (mg:Str->Option Value) (base:Heap) (A:Around) (outer:List Env) (s:Shared) (H:Hp):Prop where
 frames:A.frames=some outer
 mod:Mod K mg base
 bs:∀b o,base.get? b=some o->s.heap.get? b=some o/\H b=none
 bsz:base.objs.size<=s.heap.objs.size
 funs:s.heap.FunFrames base outer
 frf:∀b∈frs outer,H b=none
 hok:HOk P w H s.heap
 bare:AllBare s.gens
noncomputable def CE (outer:List Env)(P:Program)(w:World)(H:Hp)(s:Shared)(Q:VK)(u:Value)(s':Shared):Prop:=
 ∃v H',s'.os=s.os/\AllBare s'.gens/\Un (frs outer) [] H H' s.heap s'.heap/\HOk P w H' s'.heap/\RelV v u/\Q v H'
noncomputable def CR (CX:CXT)(outer:List Env)(P:Program)(w:World)(H:Hp)(s:Shared)(Q:VK)(E:XK)(r:Result)(s':Shared):Prop:=
 match r with
 | .ok (.ret u)=>CE outer P w H s Q u s'
 | .ok _=>False
 | .error e=>CX outer H s E e s'
structure FnOk (P:Program) (w:World) (K:W.Frag) (mg:Str->Option Value) (base:Heap) (CX:CXT) (k:Nat) (f:Addr) (fd:FuncData) (ps:List Str) (sp:Sp):Prop where
 len:∀vs H Q E,sp vs H Q E->vs.length=ps.length
 run:∀(A:Around) (outer:List Env) (s:Shared) (H:Hp) (args:Args) (us:List Value) (vs:List V) (Q:VK) (E:XK),Room k A->Env0 P w K mg base A outer s H->BindsTo s fd args (ps.zip us)->Vals vs us->sp vs H Q E->
  codeAny (model P w) A (.call (.ref f) args) (CR CX outer P w H s Q E) s
section
variable {X:Cx} {pins:List (Addr×Obj)} {σ:St} {H:Hp} {s s':Shared}
theorem Inv.env0 (I:Inv X pins σ H s):Env0 X.prog X.w X.K X.mg X.base X.A X.stack s H:=
 ⟨I.ok.frames,I.ok.mod,I.bs,qak I.ok.bsz I.sz,I.stack,I.stkFree,I.hok,I.bare⟩
theorem Inv.after {Q:VK}(I:Inv X pins σ H s)(h:CE X.stack X.prog X.w H s Q u s'):EP X pins σ Q u s':=by
 obtain⟨v,H',os,bare,un,hok,r,q⟩:=h;obtain⟨hh,g,d,t,os'⟩:=s';obtain rfl:os'=s.os:=os;exact⟨v,H',I.call (h':=hh) (g':=g) (d':=d) (t':=t) (ch:=[]) un hok bare (fun b z=>absurd z (by simp)),r,q⟩
end
noncomputable def tCall (sp:Sp)(dvs:List V)(E:XK)(t:TA):TE:=fun σ H Q=>t σ H fun vs H1=>sp (vs++dvs) H1 Q E
noncomputable def Binds (K:W.Frag)(fd:FuncData)(ps:List Str)(ds:List Value):Prop:=
 ∀(s:Shared) (us:List Value),K.In s.heap->(us++ds).length=ps.length->BindsTo s fd ⟨us,[]⟩ (ps.zip (us++ds))
theorem Binds.all (h:∀us:List Value,us.length=ps.length->bindArgs fd ⟨us,[]⟩=pure (ps.zip us)):Binds K fd ps []:=fun s us _ hl=>by
 rw[qaQ]at hl ⊢;exact .of_eq (h us hl)
noncomputable def zp4 (CX:CXT)(X:Cx)(E:XK):Prop:=∀(pins:List (Addr×Obj)) (σ:St) (H:Hp) (s:Shared) (e:Value) (s':Shared),Inv X pins σ H s->CX X.stack H s E e s'->X.xe e s'
section
variable {X:Cx} {CX:CXT} {k:Nat} {f C:Addr} {fd:FuncData} {ps:List Str} {sp:Sp} {dvs:List V} {ds:List Value} {E:XK} {x m:Str} {p pos apos:Pos} {e o:Expr} {es:List Expr} {ta:TE} {t:TA}
theorem run_fn {Q:VK}(F:FnOk X.prog X.w X.K X.mg X.base CX k f fd ps sp)(hr:Room k X.A)(hb:Binds X.K fd ps ds)(hd:Vals dvs ds)(hx:zp4 CX X E)
  (I:Inv X pins σ H s) (r:Vals vs us) (h:sp (vs++dvs) H Q E):wpAny (model X.prog X.w) X.A (call (.ref f) us) (EP X pins σ Q) X.xe s:=by
 have r2:Vals (vs++dvs) (us++ds):=r.append hd;have hl:(us++ds).length=ps.length:=by rw[<-r2.length];exact F.len _ _ _ _ h
 refine wpAny_call (codeAny_mono (F.run X.A X.stack s H ⟨us,[]⟩ (us++ds) (vs++dvs) Q E hr I.env0 (hb s us I.kIn hl) r2 h) fun r s' hq=>?_);cases r with
 |error e=>exact hx pins σ H s e s' I hq
 |ok fl=>
  cases fl with
  |ret u=>exact I.after hq
  |next=>exact False.elim hq
  |brk=>exact False.elim hq
  |cont=>exact False.elim hq
theorem zmk (F:FnOk X.prog X.w X.K X.mg X.base CX k f fd ps sp)(hr:Room k X.A)(hg:Gl X x)(hm:X.mg x=some (.ref f))(hk:W.keepIn X.K (.ref f)=true)(hb:Binds X.K fd ps ds)(hd:Vals dvs ds)(hx:zp4 CX X E)
  (ha:PA X (e::es) t) (hdb:(x==("__debug__":Str))=false:=by decide) (he:starEach (e::es) X.env=(false,eval e X.env)::starEach es X.env:=by rfl) (hpl:(backTo pos (starEach es X.env)).any (·.1)=false:=by rfl):
  PE X (.Call (.Name x p) (e::es) [] pos) (tCall sp dvs E t):=by
 intro pins s σ H Q I h;refine qaR (zlZ I hg hm ?_ hdb);refine W.callWith_K (h₀:=X.base) I.ok.mod.kin hk (thn (ha pos pins s σ H _ I h) fun us s1 ⟨vs,H1,I1,r,q⟩=>⟨I1.kIn,?_⟩) he hpl;exact run_fn F hr hb hd hx I1 r q
end
structure FnScope (N P:List Str) (sc:Scope):Prop where
 kind:sc.kind= .function
 co:sc.isCoroutine=false
 gen:sc.isGenerator=false
 nd:N.Nodup
 pre:N.take P.length=P
 par:∀x∈P,sc.names.lookup x=some .local\/sc.names.lookup x=some .cell
 nofree:∀y∈sc.names,y.2≠ .free
theorem zmE:∀{binds:List (Str×Value)} {m:Str->Option Value},(∀v,(x,v)∉binds)->bindL kindOf binds m x=m x
 |[],_,_=>rfl
 |(n,v)::r,m,h=>by
  unfold bindL;rw[zmE fun w hw=>h w (qan _ hw)]
  split
  ·have:x≠n:=by rintro rfl;exact h v qam
   simp[this]
  ·rfl
theorem zmt:∀{binds:List (Str×Value)} {m:Str->Option Value},(∀v,(x,v)∉binds)->bindC kindOf binds m x=m x
 |[],_,_=>rfl
 |(n,v)::r,m,h=>by
  unfold bindC;rw[zmt fun w hw=>h w (qan _ hw)]
  split
  ·rfl
  ·have:x≠n:=by rintro rfl;exact h v qam
   simp[this]
theorem zmU {v:Value}:∀{P:List Str} {vs:List Value} {i:Nat} {m:Str->Option Value},P.Nodup->P[i]? =some x->vs[i]? =some v->kindOf x=some .local->
  bindL kindOf (P.zip vs) m x=some v
 |[],_,_,_,_,h,_,_=>by simp at h
 |_::_,[],_,_,_,_,h,_=>by simp at h
 |p::P,w::vs,0,m,nd,h1,h2,hk=>by
  simp at h1 h2;subst h1;subst h2;show bindL kindOf ((p,w)::P.zip vs) m p=_;unfold bindL;rw[zmE fun v hv=>(qaS.mp nd).1 (List.of_mem_zip hv).1,if_pos hk];simp
 |p::P,w::vs,i+1,m,nd,h1,h2,hk=>by
  show bindL kindOf ((p,w)::P.zip vs) m x=_;unfold bindL;exact zmU (i:=i) (qaS.mp nd).2 (by simpa using h1) (by simpa using h2) hk
theorem zmB {v:Value}:∀{P:List Str} {vs:List Value} {i:Nat} {m:Str->Option Value},P.Nodup->P[i]? =some x->vs[i]? =some v->kindOf x≠some .local->
  bindC kindOf (P.zip vs) m x=some v
 |[],_,_,_,_,h,_,_=>by simp at h
 |_::_,[],_,_,_,_,h,_=>by simp at h
 |p::P,w::vs,0,m,nd,h1,h2,hk=>by
  simp at h1 h2;subst h1;subst h2;show bindC kindOf ((p,w)::P.zip vs) m p=_;unfold bindC;rw[zmt fun v hv=>(qaS.mp nd).1 (List.of_mem_zip hv).1,if_neg hk];simp
 |p::P,w::vs,i+1,m,nd,h1,h2,hk=>by
  show bindC kindOf ((p,w)::P.zip vs) m x=_;unfold bindC;exact zmB (i:=i) (qaS.mp nd).2 (by simpa using h1) (by simpa using h2) hk
noncomputable def start (N:List Str)(vs:List V):St:=vs.map some++List.replicate (N.length-vs.length) none
noncomputable def cxOf (CX:CXT)(P:Program)(w:World)(K:W.Frag)(mg:Str->Option Value)(base:Heap)(N:List Str)(qual:Str)(scope:Scope)(f:Addr)(cd:Value)(A:Around)(outer:List Env)(s:Shared)(H:Hp)(E:XK):Cx where
 prog:=P
 w:=w
 K:=K
 mg:=mg
 base:=base
 A:=A.deeper (envOfC qual scope s.heap.objs.size f cd)
 N:=N
 s₀:=s
 H₀:=H
 env:=envOfC qual scope s.heap.objs.size f cd
 outer:=outer
 stack:=envOfC qual scope s.heap.objs.size f cd::outer
 ex:=[]
 calm:=true
 fn:=fun _=>true
 pn:=[]
 xe:=fun e s'=>wpAny (model P w) (A.deeper (envOfC qual scope s.heap.objs.size f cd)) (leaving (envOfC qual scope s.heap.objs.size f cd) e) (fun _ s''=>CX outer H s E e s'') (fun e' s''=>CX outer H s E e' s'') s'
theorem zor (h:sc.names.lookup x=some .cell):∃c,(cellsFrom n sc.names []).lookup x=some c:=by
 have q:=W.cellsFrom_some sc.names n [] (.inl h);exact qaT.mp q
theorem zqL {P:Program}{f:Addr}{s s1:Shared}{E:XK}
  (S:FnScope N ps scope) (hd:A.handled=none) (e0:Env0 P w K mg base A outer s H) (hl:vs.length=ps.length) (r:Vals vs us)
  (x:InCallC s s.heap.objs.size (bindL (envOfC qual scope s.heap.objs.size f cd).kindOf (ps.zip us) fun _=>none) (cellsFrom (s.heap.objs.size+1) scope.names []) (bindC (envOfC qual scope s.heap.objs.size f cd).kindOf (ps.zip us) fun _=>none) s1):
  Inv (cxOf CX P w K mg base N qual scope f cd A outer s H E) [] (start N vs) H s1:=by
 have hpl:ps.length<=N.length:=by have:=congrArg List.length S.pre;rw[qaU]at this;lia
 obtain⟨h1,tk,rfl,hk⟩:=x.done;have noA:∀b:Addr,b∉(cxOf CX P w K mg base N qual scope f cd A outer s H E).ex:=fun b z=>absurd (show b∈([]:List Addr)from z) (by simp)
 refine⟨⟨e0.mod,S.kind,rfl,rfl,qaJ _,fun y z c h1 h2=>?_,fun y hy=>?_,fun y c _ h=>?_,fun _=>hd,Around.frames_deeper e0.frames,.inr ⟨rfl,rfl⟩,fun b z=>absurd z (noA b),e0.bs,e0.bsz,fun b _ _=>noA b,fun b z=>absurd z (noA b),e0.funs,e0.frf⟩,
  rfl,e0.bare,Un.kept hk,⟨_,x.toInCall.ns,fun i y v h1 h2 h3=>?_⟩,fun y c h=>⟨_,x.cell y c h⟩,e0.hok.fresh (qaJ _),fun y c h=>?_,fun p hp=>absurd (show p∈([]:List (Addr×Obj))from hp) (by simp),e0.hok.kept hk,?_⟩
 ·exact name_of_addr x.apart (qaV h1) (qaV h2)
 ·have hy:scope.names.lookup y=some .cell\/scope.names.lookup y=some .free:=hy;rcases hy with hy|hy
  ·exact zor hy
  ·exact absurd rfl (S.nofree _ (qaV hy))
 ·exact Nat.le_of_lt (x.above y c (qaV h))
 ·have hi:i<vs.length:=by
   unfold start at h2
   by_cases hi:i<vs.length
   ·exact hi
   ·rw[qaW (by simpa using hi)]at h2;rw[qaX]at h2
    split at h2<;>cases h2
  have ha:vs[i]? =some v:=by
   unfold start at h2;rw[qaY (by simpa using hi),qaZ]at h2;cases e:vs[i]? with
   |none=>rw[e]at h2;cases h2
   |some a=>rw[e]at h2;cases h2;rfl
  obtain⟨u,hu,rv⟩:=r.get ha;have hp:ps[i]? =some y:=by
   rw[<-S.pre,qa0 (by lia)];exact h1
  have ndP:ps.Nodup:=by rw[<-S.pre];exact S.nd.sublist (List.take_sublist _ _)
  refine⟨u,rv,?_⟩;rcases S.par y (qa1 hp)with k|k
  ·exact .inl ⟨k,zmU ndP hp hu k⟩
  ·obtain⟨c,e⟩:=zor (n:=s.heap.objs.size+1) k;refine .inr ⟨.inl k,c,e,?_⟩;have q:=x.cell y c e;rw[zmB ndP hp hu (by show scope.names.lookup y≠_;rw[k];decide)]at q;exact q
 ·exact e0.hok.fresh (Nat.le_of_lt (x.above y c (qaV h)))
 ·unfold start;show _=N.length;rw[qa2,qa3,qa4];lia
theorem fn_of {P:Program}{k:Nat}{f:Addr}{name qual:Str}{dV kV doc pm cdv ct oc:Value}{an od:Option Addr}
  {osl:Array (Option Value)} {N ps:List Str} {sp:Sp} (lk:K.lookup f=some ⟨oc,od,.func (W.fnOf name qual params body scope dV kV doc pm an cdv ct),osl⟩) (hcd:W.codeIn K cdv qual=true) (S:FnScope N ps scope)
  (len:∀vs H Q E,sp vs H Q E->vs.length=ps.length)
  (hbody : ∀ (A : Around) (outer : List Env) (s : Shared) (H : Hp) (vs : List V) (Q : VK) (E : XK), Room k (A.deeper (envOfC qual scope s.heap.objs.size f cdv)) -> sp vs H Q E ->
   ∃t,PSs (cxOf CX P w K mg base N qual scope f cdv A outer s H E) body t/\t {nx:=fun _ H'=>Q .non H',rt:=Q} (start N vs) H):
  FnOk P w K mg base CX (k+1) f (W.fnOf name qual params body scope dV kV doc pm an cdv ct) ps sp:=by
 refine⟨len,fun A outer s H args us vs Q E hr e0 hb r hsp=>?_⟩;have hl:=len _ _ _ _ hsp;have KX:K.In s.heap:=e0.mod.kin.keeps fun b o e=>(e0.bs b o e).1
 have lim:s.heap.NoLimit:=e0.mod.nolimit.keeps fun b o e=>(e0.bs b o e).1
 have hkind:∀y∈ps.zip us,scope.names.lookup y.1=some .local\/(scope.names.lookup y.1=some .cell/\((cellsFrom (s.heap.objs.size+1) scope.names []).lookup y.1).isSome=true):=fun⟨n,v⟩ hy=>by
  rcases S.par n (List.of_mem_zip hy).1 with q|q
  ·exact .inl q
  ·exact .inr ⟨q,W.cellsFrom_some _ _ _ (.inl q)⟩
 refine codeAny_call_function hr.depth (KX _ _ lk) rfl S.co S.gen rfl (W.codeRec_of KX hcd) (hb _ _ _ _ ?_);refine wpAny_newFunctionEnv_cells S.kind hkind fun env he s1 x=>?_
 subst he;refine⟨lim.keeps x.toInCall.keep,codeAny_func ?_⟩;obtain⟨t,ht,hq⟩:=hbody A outer s H vs Q E (hr.deeper _) hsp;have I:Inv (cxOf CX P w K mg base N qual scope f cdv A outer s H E) [] (start N vs) H s1:=zqL S hr.hd e0 hl r x;refine qau (ht [] s1 (start N vs) H _ I hq) (fun fl s' hs=>?_) fun e s' hs=>hs
 have fin:∀{σ':St} {H':Hp} {v:V} {u:Value},Inv (cxOf CX P w K mg base N qual scope f cdv A outer s H E) [] σ' H' s'->RelV v u->Q v H'->CE outer P w H s Q u s':=
  fun{σ' H' v u} J rv q=>⟨v,H',J.os,J.bare,J.base,J.hok,rv,q⟩
 cases fl with
 |ret u=>
  obtain⟨v,σ',H',J,rv,q⟩:=hs;exact fin J rv q
 |next=>
  obtain⟨σ',H',J,q⟩:=hs;exact fin (v:=V.non) (u:=Value.none) J rfl q
 |brk=>
  obtain⟨_,_,_,q⟩:=hs;exact False.elim q
 |cont=>
  obtain⟨_,_,_,q⟩:=hs;exact False.elim q
section
variable {X:Cx} {x:Str} {p pos:Pos} {e:Expr} {es:List Expr} {t:TA} {id T:String} {r:List V->Hp->VK->Prop}
noncomputable def tCB (r:List V->Hp->VK->Prop)(t:TA):TE:=fun σ H Q=>t σ H fun vs H1=>r vs H1 Q
theorem zic (hc:zge X (.builtin id) r)(hg:Gl X x)(hm:X.mg x=none)(hv:bootBuiltins x=some (.builtin id))(ha:PA X (e::es) t)(hn:x≠"__name__":=by decide)(hdb:(x==("__debug__":Str))=false:=by decide)
  (he:starEach (e::es) X.env=(false,eval e X.env)::starEach es X.env:=by rfl) (hpl:(backTo pos (starEach es X.env)).any (·.1)=false:=by rfl):PE X (.Call (.Name x p) (e::es) [] pos) (tCB r t):=by
 intro pins s σ H Q I h;refine qaR (ziy I hg hm hv ?_ hn hdb);exact PyProof.Rows.callWith_builtin1 (thn (ha pos pins s σ H _ I h) fun us s1 ⟨vs,H1,I1,r1,q1⟩=>hc pins s1 σ H1 vs us Q I1 r1 q1) he hpl
theorem zmR (hc:zge X (.type T) r)(hg:Gl X x)(hm:X.mg x=none)(hv:bootBuiltins x=some (.type T))(ha:PA X (e::es) t)(hn:x≠"__name__":=by decide)(hdb:(x==("__debug__":Str))=false:=by decide)
  (he:starEach (e::es) X.env=(false,eval e X.env)::starEach es X.env:=by rfl) (hpl:(backTo pos (starEach es X.env)).any (·.1)=false:=by rfl):PE X (.Call (.Name x p) (e::es) [] pos) (tCB r t):=by
 intro pins s σ H Q I h;refine qaR (ziy I hg hm hv ?_ hn hdb);exact qaK (thn (ha pos pins s σ H _ I h) fun us s1 ⟨vs,H1,I1,r1,q1⟩=>hc pins s1 σ H1 vs us Q I1 r1 q1) he hpl
end
end L2
namespace HT
open PyProof.Rows PySem
noncomputable def zbl:List Int->List Int->Bool
 |[],[]=>false
 |[],_::_=>true
 |_::_,[]=>false
 |x::xs,y::ys=>if x=y then zbl xs ys else decide (x<y)
theorem zfc (x y:Int)(xs ys:List Int):zbl (x::xs) (y::ys)=if x=y then zbl xs ys else decide (x<y):=rfl
theorem zl6:zbl [] []=false:=rfl
theorem zkA (y:Int)(ys:List Int):zbl [] (y::ys)=true:=rfl
theorem zky (x:Int)(xs:List Int):zbl (x::xs) []=false:=rfl
theorem eqAt_int (A:Around)(s:Shared)(a:Int)(t:Tok)(c:Int)(u:Tok):∃e,SeqAt.EqAt A s (.int a t) (.int c u) e/\(e=true↔a=c):=
 ⟨(a==c),SeqAt.EqAt.int_int a t c u,by simp⟩
theorem rcLt_int (A:Around)(s:Shared)(a:Int)(t:Tok)(c:Int)(u:Tok)(prog:Program)(w:World)(E:Value->Shared->Prop)(Q:Value->Shared->Prop)(h:Q (.bool (decide (a<c))) s):
  wpAny (model prog w) A (richCompare .Lt (.int a t) (.int c u)) Q E s:=
 (PyProof.Rows.lt_int h:wpAny (model prog w) A (compareOp .Lt (.int a t) (.int c u)) Q E s)
section
open PySem.SeqAt
open PySem.AutoSeq1 (wpAny_loadPart')
open PySem.MeetsSeq PySem.MeetsSeq2 PySem.MeetsSeq3
theorem zlx (l b:Addr)(items items2:Array Value)(n n2:Nat)(dd dd2:Option Addr)(sl sl2:Array (Option Value))(ns ms:List Int)(hi:IntsAre items.toList ns)(hj:IntsAre items2.toList ms):
  Meets (Builtin.«tuple.__lt__» ⟨[.ref l,.ref b],[]⟩)
   (fun _ R s => s.heap.get? l = some { cls := .type "tuple", dict := dd, data := .seq items n, slots := sl } /\ s.heap.get? b = some { cls := .type "tuple", dict := dd2, data := .seq items2 n2, slots := sl2 } /\
    R (.ok (.ret (.bool (zbl ns ms)))) s):=
 .of_wp fun prog w A R s h=>by
  obtain⟨hp,g,d,tk,os⟩:=s;obtain⟨hl,hb,h⟩:=h;have f2:=AutoSeq1.sub_tuple_tuple;have z1:items.size=ns.length:=by rw[<-hi.length];simp
  have z2:items2.size=ms.length:=by rw[<-hj.length];simp
  wp_walk using wpAny_loadPart' hl,wpAny_loadPart' hb,wpAny_forIn_list _ (fun rest b s'=>b.1=none/\s'=⟨hp,g,d,tk,os⟩/\∃(vs ws:List Value) (ns' ms':List Int),rest=vs.zip ws/\
   IntsAre vs ns'/\IntsAre ws ms'/\ns'.length+items2.size=ms'.length+items.size/\R (.ok (.ret (.bool (zbl ns' ms')))) ⟨hp,g,d,tk,os⟩) _
  case turn=>
   rintro⟨y,x⟩ rest b s' ⟨hb',rfl,vs,ws,ns',ms',hz,hvi,hwi,hlen,hR⟩;cases hvi with
   |nil=>rw[List.zip_nil_left]at hz;cases hz
   |cons a t hvi'=>
    cases hwi with
    |nil=>rw[List.zip_nil_right]at hz;cases hz
    |cons c u hwi'=>
     rw[List.zip_cons_cons]at hz;injection hz with hyx hrest
     injection hyx with hy hx
     subst hy hx;rw[zfc]at hR;simp only[qa5]at hlen;obtain⟨e,he,hiff⟩:=eqAt_int A.in1 ⟨hp,g,d,tk,os⟩ a t c u;refine qaz (he prog w _ _ ?_);cases e with
     |true=>
      rw[if_pos (hiff.mp rfl)]at hR
      wp_walk
      exact⟨rfl,rfl,_,_,_,_,hrest,hvi',hwi',by lia,hR⟩
     |false=>
      rw[if_neg (fun q=>absurd (hiff.mpr q) qaH)]at hR;have hri:=rcLt_int A.in1 ⟨hp,g,d,tk,os⟩ a t c u prog w
      wp_walk using hri
      exact⟨_,rfl,by simpa using hR⟩
  case fin=>
   rintro⟨b1,b2⟩ s' ⟨hb',rfl,vs,ws,ns',ms',hz,hvi,hwi,hlen,hR⟩;simp only at hb';subst hb';have hv:zbl ns' ms'=decide (items.size<items2.size):=by
    cases hvi with
    |nil=>
     cases hwi with
     |nil=>
      simp only[qa6]at hlen;rw[zl6];exact(qaa (by lia)).symm
     |cons c u hw=>
      simp only[qa6,qa5]at hlen;rw[zkA];exact(qa7 (by lia)).symm
    |cons a t hv=>
     cases hwi with
     |nil=>
      simp only[qa6,qa5]at hlen;rw[zky];exact(qaa (by lia)).symm
     |cons c u hw=>
      rw[List.zip_cons_cons]at hz;cases hz
   rw[hv]at hR
   wp_walk
   exact⟨_,rfl,by simpa[Builtin.Tuple.tupleCompareSizes]using hR⟩
  case h=>
   exact⟨rfl,rfl,items.toList,items2.toList,ns,ms,rfl,hi,hj,by lia,h⟩
end
section
variable {prog:Program} {w:World} {A:Around} {E:Value->Shared->Prop} {s:Shared}
theorem zkQ {l b:Addr}{items items2:Array Value}{ns ms:List Int}{Q:Value->Shared->Prop}(hl:IsTup s.heap l items)(hb:IsTup s.heap b items2)(hi:IntsAre items.toList ns)(hj:IntsAre items2.toList ms)
  (hu:A.units<cLine) (h:Q (.bool (zbl ns ms)) s):wpAny (model prog w) A (compareOp .Lt (.ref l) (.ref b)) Q E s:=by
 obtain⟨⟨cls,dd,data,sl⟩,ho,hc,n,hd⟩:=id hl;obtain⟨⟨cls2,dd2,data2,sl2⟩,ho2,hc2,n2,hd2⟩:=id hb;simp only at hc hd hc2 hd2;subst hc hd hc2 hd2;exact richCompare_meets_room (op:= .Lt) ⟨_,ho,rfl⟩ ⟨_,ho2,rfl⟩ PySem.F.slot_tuple_lt PySem.F.entry_tuple_lt (PySem.F.args_tuple_lt_2 _ _) (zlx l b items items2 n n2 dd dd2 sl sl2 ns ms hi hj)
  ⟨ho,ho2,show Value.bool (zbl ns ms)≠Value.notImplemented/\Q (.bool (zbl ns ms)) s from⟨(fun x=>nomatch x),h⟩⟩ hu
theorem cat_tup {t b:Addr}{vs ws:List Value}{Q:Value->Shared->Prop}(ht:IsTup s.heap t vs.toArray)(hb:IsTup s.heap b ws.toArray)(hv:vs≠[])
  (h1:ws=[]->Q (.ref t) s) (h2:ws≠[]->Q (.ref s.heap.objs.size) {s with heap:=s.heap.push {cls:= .type "tuple",data:= .seq (vs++ws).toArray}})
  (hsz:vs.length+ws.length<=sizeLine):wpAny (model prog w) A (binaryOp .Add (.ref t) (.ref b)) Q E s:=by
 obtain⟨⟨cls,dd,data,sl⟩,ho,hc,n,hd⟩:=id ht;obtain⟨⟨cls2,dd2,data2,sl2⟩,ho2,hc2,n2,hd2⟩:=id hb;simp only at hc hd hc2 hd2;subst hc hd hc2 hd2;have e:vs.toArray++ws.toArray=(vs++ws).toArray:=by simp
 by_cases hw:ws=[]
 ·exact concat_meets ⟨_,ho,rfl⟩ ⟨_,ho2,rfl⟩ noFill_tuple_add seq_tuple_add qa8 qa9 (qba _ _)
   (tuple_addW1 t b vs.toArray ws.toArray n n2 dd dd2 sl sl2 (by simpa using hv) (by simp[hw])) ⟨ho,ho2,h1 hw⟩
 ·refine concat_meets ⟨_,ho,rfl⟩ ⟨_,ho2,rfl⟩ noFill_tuple_add seq_tuple_add qa8 qa9 (qba _ _)
   (tuple_addW2 t b vs.toArray ws.toArray n n2 dd dd2 sl sl2 (by simpa using hv) (by simpa using hw) (by rw[qaO,qaO];exact hsz)) ⟨ho,ho2,?_⟩
  rw[e];exact h2 hw
noncomputable def sIx (n d:Nat):Option Int->Nat
 |none=>d
 |some v=>if v<0 then(v+(n:Int)).toNat else min v.toNat n
theorem zlS (n d:Nat):sIx n d none=d:=rfl
theorem zlC (n d k:Nat):sIx n d (some (k:Int))=min k n:=by
 show(if(k:Int)<0 then((k:Int)+(n:Int)).toNat else min (k:Int).toNat n)=min k n;rw[if_neg (by lia),qbb]
theorem sIx_le (n d:Nat)(hd:d<=n)(o:Option Int):sIx n d o<=n:=by
 cases o with
 |none=>exact hd
 |some v=>
  show(if v<0 then(v+(n:Int)).toNat else min v.toNat n)<=n
  by_cases hv:v<0
  ·rw[if_pos hv];lia
  ·rw[if_neg hv];exact Nat.min_le_right _ _
theorem zqc (v:Int)(n d:Nat):(if v<0 then max (v+(n:Int)) 0 else min v (n:Int))=((sIx n d (some v):Nat):Int):=by
 show(if v<0 then max (v+(n:Int)) 0 else min v (n:Int))=(((if v<0 then(v+(n:Int)).toNat else min v.toNat n):Nat):Int)
 by_cases hv:v<0
 ·simp only[if_pos hv];lia
 ·simp only[if_neg hv];lia
theorem zpE (lo hi:Option Int)(n:Nat):Builtin.Slice.sliceAdjust lo hi 1 (n:Int)=(((sIx n 0 lo:Nat):Int),((sIx n n hi:Nat):Int)):=by
 have h1:¬((1:Int)<0):=by lia
 unfold Builtin.Slice.sliceAdjust;simp only[h1,qbc];refine Prod.ext ?_ ?_
 ·cases lo with
  |none=>rfl
  |some v=>exact zqc v n 0
 ·cases hi with
  |none=>rfl
  |some v=>exact zqc v n n
theorem zpf (i j:Nat):Builtin.Slice.slicePlaces (i:Int) (j:Int) 1=j-i:=by
 unfold Builtin.Slice.slicePlaces;have h1:(1:Int)>0:=by lia
 simp only[h1,if_true,Int.ediv_one]
 split<;>lia
theorem zkZ {v:Value}{o:Option Int}{Q:Option Int->Shared->Prop}(p:IsPart v o)(h:Q o s):wpAny (model prog w) A (Builtin.Slice.slicePartIndex v) Q E s:=by
 cases p with
 |none=>exact slicePart_none h
 |int i t=>exact slicePart_int h
theorem zfP {sl:Addr}{vl vu:Value}{lo hi:Option Int}{n:Nat}{Q:Int×Int×Nat->Shared->Prop}(hs:s.heap.IsSliceOf sl vl vu .none)(pl:IsPart vl lo)(pu:IsPart vu hi)
  (h:Q (((sIx n 0 lo:Nat):Int),1,sIx n n hi-sIx n 0 lo) s):wpAny (model prog w) A (Builtin.Slice.sliceApplied (.ref sl) (pure (n:Int))) Q E s:=by
 obtain⟨os,hos,hcs,hds⟩:=id hs;unfold Builtin.Slice.sliceApplied Builtin.Slice.sliceFields;refine qaz (qaz (qbd hos hds (x:=vl) rfl (qaz (qbd hos hds (x:=vu) rfl (qaz (qbd hos hds (x:= .none) rfl (qaC ?_)))))));refine qaz (slicePart_none ?_);show wpAny _ _ (if((1:Int)==0)=true then _ else _) _ _ s;rw[if_neg (by decide)];refine qaz (zkZ pl (qaz (zkZ pu (qaz (qaC ?_)))));show wpAny _ _ (match Builtin.Slice.sliceAdjust lo hi 1 (n:Int)with|(lo,hi)=>pure (lo,(1:Int),Builtin.Slice.slicePlaces lo hi 1)) _ _ s;rw[zpE lo hi n];show wpAny _ _ (pure (((sIx n 0 lo:Nat):Int),(1:Int),Builtin.Slice.slicePlaces ((sIx n 0 lo:Nat):Int) ((sIx n n hi:Nat):Int) 1)) _ _ s;rw[zpf];exact qaC h
theorem pick_gen (xs:Array Value)(i k:Nat):((List.range k).filterMap fun(m:Nat)=>xs[((i:Int)+(m:Int)*1).toNat]?).toArray=((xs.toList.drop i).take k).toArray:=by
 have e:(fun(m:Nat)=>xs[((i:Int)+(m:Int)*1).toNat]?)=fun m=>xs[i+m]?:=by
  funext m
  have:((i:Int)+(m:Int)*1).toNat=i+m:=by lia
  rw[this]
 rw[e];have:=pick_run xs i k;rw[List.filterMap_map]at this;have e2:((fun x=>xs[x]?) ∘ fun x=>i+x)=fun m=>xs[i+m]?:=rfl
 rw[e2]at this;rw[this]
theorem zi1 {t sl:Addr}{items:Array Value}{vl vu:Value}{lo hi:Option Int}{Q:Value->Shared->Prop}(ht:IsTup s.heap t items)(hs:s.heap.IsSliceOf sl vl vu .none)(pl:IsPart vl lo)(pu:IsPart vu hi)
  (hw:¬(sIx items.size 0 lo=0/\sIx items.size items.size hi=items.size))
  (h:Q (.ref s.heap.objs.size) {s with heap:=s.heap.push {cls:= .type "tuple",data:= .seq ((items.toList.drop (sIx items.size 0 lo)).take (sIx items.size items.size hi-sIx items.size 0 lo)).toArray}})
  (hsz:items.size<=sizeLine):wpAny (model prog w) A (getItem (.ref t) (.ref sl)) Q E s:=by
 have htake:sizeOk (.seq ((items.toList.drop (sIx items.size 0 lo)).take (sIx items.size items.size hi-sIx items.size 0 lo)).toArray):=by
  show((items.toList.drop (sIx items.size 0 lo)).take (sIx items.size items.size hi-sIx items.size 0 lo)).toArray.size<=sizeLine;rw[qaO,qaU,qbe,qax];lia
 have hj:sIx items.size items.size hi<=items.size:=sIx_le _ _ (qaJ _) hi;obtain⟨os,hos,hcs,hds⟩:=id hs;have hTs:s.TypeIs (.ref sl) "slice":=⟨os,hos,hcs⟩;unfold getItem
 try with_reducible refine qaA ?_
 first|refine qaz (qaC ?_)|skip
 refine qaz (wpAny_sequenceKey ht.typeIs (by decide) ?_);refine qaz (qbf (name:=Str.ofString "__getitem__") ht.typeIs qbg
  (qbh qbg ht.typeIs entry_tuple_getitem ?_ (args_tuple_getitem _ _)))
 show wpAny _ _ (Builtin.Tuple.tupleItemsOf (.ref t)>>=_) _ _ s;refine qaz (tupleItemsOf_ ht ?_);refine qaz (wpAny_typeOf hTs ?_);rw[if_pos (by decide)];refine qaz (zfP hs pl pu ?_);have hno:¬((((sIx items.size 0 lo:Nat):Int)==0&&(1:Int)==1&&(sIx items.size items.size hi-sIx items.size 0 lo)==items.size)=true):=by
  intro q;rw[qbi,qbi]at q;have q1:((sIx items.size 0 lo:Nat):Int)=0:=eq_of_beq q.1.1;have q2:sIx items.size items.size hi-sIx items.size 0 lo=items.size:=eq_of_beq q.2;exact hw ⟨by lia,by lia⟩
 show wpAny _ _ (if(((sIx items.size 0 lo:Nat):Int)==0&&(1:Int)==1&&(sIx items.size items.size hi-sIx items.size 0 lo)==items.size)=true then _ else _) _ _ s;rw[if_neg hno,pick_gen]
 first
  |exact qaz (m:=Builtin.Tuple.tupleExact _) (qaD (qaC ⟨_,rfl,qaC h⟩) htake)
  |exact qaz (m:=Builtin.Tuple.tupleExact _) (qaD (qaz (qaC (qaC ⟨_,rfl,qaC h⟩))) htake)
  |exact qaz (qaz (m:=Builtin.Tuple.tupleExact _) (qaD (qaC (qaC ⟨_,rfl,qaC h⟩)) htake))
  |exact qaz (qaz (m:=Builtin.Tuple.tupleExact _) (qaD (qaC ⟨_,rfl,qaC h⟩) htake))
end
end HT
namespace L2
open PyProof.Rows PySem PySem.Spec
variable {ns:List Int} {r r':V->Option Int->Option Int->Hp->VK->Prop} {xs:List V} {us its its':List Value} {n j t':Nat} {i:Int} {pins:List (Addr×Obj)} {σ:St} {H:Hp} {s:Shared} {p:Addr} {f:Array Value->Array Value} {A:Around} {y x:V} {u v:Value}
noncomputable abbrev TO:=St->Hp->(Option Int->Hp->Prop)->Prop
noncomputable def PO (X:Cx)(e:Option Expr)(t:TO):Prop:=
 ∀(pins:List (Addr×Obj)) (s:Shared) (σ:St) (H:Hp) (Q:Option Int->Hp->Prop),Inv X pins σ H s->t σ H Q->
  wpAny (model X.prog X.w) X.A (evalPart e X.env) (fun u s'=>∃o H',Inv X pins σ H' s'/\IsPart u o/\Q o H') X.xe s
noncomputable def tNoPart:TO:=fun _ H Q=>Q none H
noncomputable def tPart (t:TE):TO:=fun σ H Q=>t σ H fun x H1=>∃i,x= .int i/\Q (some i) H1
theorem zdQ:∀{us:List Value},Vals (ns.map V.int) us->IntsAre us ns:=by
 induction ns with
 |nil=>intro us r;rw[List.map_nil]at r;cases r;exact .nil
 |cons n ns ih=>
  intro us r;rw[qbj]at r;cases r with
  |cons r1 r2=>
   obtain⟨t,e⟩:=r1;subst e;exact .cons n t (ih r2)
section
variable {X:Cx} {e:Expr} {te:TE} {lo hi:Option Expr} {tl th:TO} {pos p2:Pos}
theorem po_none:PO X none tNoPart:=by
 intro pins s σ H Q I h;rw[evalPart_none];exact qaC ⟨none,H,I,.none,h⟩
theorem po_some (h:PE X e te):PO X (some e) (tPart te):=by
 intro pins s σ H Q I hw;rw[evalPart_some];refine thn (h pins s σ H _ I hw) fun u s1 ⟨x,H1,I1,r1,q1⟩=>?_
 obtain⟨i,rfl,q⟩:=q1;obtain⟨t,rfl⟩:=r1;exact⟨some i,H1,I1,.int i t,q⟩
noncomputable def SlR (X:Cx)(r:V->Option Int->Option Int->Hp->VK->Prop):Prop:=
 ∀(pins:List (Addr×Obj)) (s:Shared) (σ:St) (H:Hp) (x:V) (v vl vu:Value) (lo hi:Option Int) (sl:Addr) (Q:VK),Inv X pins σ H s->RelV x v->s.heap.IsSliceOf sl vl vu .none->IsPart vl lo->IsPart vu hi->r x lo hi H Q->
  ∃T id,typeLookup (.type T) "__getitem__"=pure (some (.builtin id))/\s.TypeIs v T/\wpAny (model X.prog X.w) X.A (getItem v (.ref sl)) (EP X pins σ Q) X.xe s
theorem SlR.or (h:SlR X r)(h':SlR X r'):SlR X (fun x lo hi H Q=>r x lo hi H Q\/r' x lo hi H Q):=by
 intro pins s σ H x v vl vu lo hi sl Q I rx hs pl pu q;rcases q with q|q
 ·exact h pins s σ H x v vl vu lo hi sl Q I rx hs pl pu q
 ·exact h' pins s σ H x v vl vu lo hi sl Q I rx hs pl pu q
noncomputable def tSl (r:V->Option Int->Option Int->Hp->VK->Prop)(te:TE)(tl th:TO):TE:=fun σ H Q=>te σ H fun x H1=>tl σ H1 fun l H2=>th σ H2 fun u H3=>r x l u H3 Q
theorem pe_slice (hr:SlR X r)(he:PE X e te)(hl:PO X lo tl)(hu:PO X hi th):PE X (.Subscript e (.Slice lo hi none p2) pos) (tSl r te tl th):=by
 intro pins s σ H Q I h;refine Subscript_ (thn (he pins s σ H _ I h) fun v s1 ⟨x,H1,I1,r1,q1⟩=>?_);refine wpAny_Slice (thn (hl pins s1 σ H1 _ I1 q1) fun vl s2 ⟨l,H2,I2,pl,q2⟩=>thn (hu pins s2 σ H2 _ I2 q2) fun vu s3 ⟨u,H3,I3,pu,q3⟩=>?_);rw[evalPart_none];refine qaC ?_;have I4:Inv X pins σ H3 {s3 with heap:=s3.heap.push {cls:= .type "slice",data:= .fields #[vl,vu,.none]}}:=I3.kept (t':=s3.toks) fun b ob q=>qaE _ q
 obtain⟨T,id,hT,ht,hg⟩:=hr pins {s3 with heap:=s3.heap.push {cls:= .type "slice",data:= .fields #[vl,vu,.none]}} σ H3 x v vl vu l u s3.heap.objs.size Q I4 r1 (Heap.IsSliceOf.new ..) pl pu q3;show wpAny (model X.prog X.w) X.A (subscriptTail e (.Slice lo hi none p2) v (.ref s3.heap.objs.size)) (EP X pins σ Q) X.xe {s3 with heap:=s3.heap.push {cls:= .type "slice",data:= .fields #[vl,vu,.none]}};exact tail_any (ops:=[.ref s3.heap.objs.size,v]) ht hT hg (by with_unfolding_all rfl)
noncomputable def cutV (xs:List V)(lo hi:Option Int):List V:=(xs.drop (HT.sIx xs.length 0 lo)).take (HT.sIx xs.length xs.length hi-HT.sIx xs.length 0 lo)
theorem zkl (xs:List V)(lo hi:Option Int):(cutV xs lo hi).length<=xs.length:=by
 unfold cutV;rw[qaU,qbe];lia
noncomputable def rSlT (K:W.Frag):V->Option Int->Option Int->Hp->VK->Prop:=fun x lo hi H Q=>∃a xs,x= .ref a/\SqT K H a xs/\
 ¬(HT.sIx xs.length 0 lo=0/\HT.sIx xs.length xs.length hi=xs.length)/\∀p,H p=none->Q (.ref p) (upd H p (.tup (cutV xs lo hi)))
theorem sl_tup:SlR X (rSlT X.K):=by
 intro pins s σ H x v vl vu lo hi sl Q I rx hs pl pu h;obtain⟨a,xs,rfl,hx,hw,q⟩:=h;cases rx;obtain⟨its,r,ht,hz⟩:=I.tuple hx;have hlen:its.toArray.size=xs.length:=by rw[qaO];exact r.length.symm
 refine⟨"tuple",_,PyProof.Rows.slot_tuple_getitem.lookup,ht.typeIs,?_⟩;refine HT.zi1 ht hs pl pu (by rw[hlen];exact hw) ?_ (by rw[hlen];exact hz);rw[hlen];refine⟨.ref s.heap.objs.size,_,I.laid (t':=s.toks) (o:= .tup (cutV xs lo hi)) (fun b ob q=>qaE _ q) (qaJ _) ?_,rfl,q _ (I.hok.fresh (qaJ _))⟩;exact⟨qak (zkl xs lo hi) hz,_,(r.drop (HT.sIx xs.length 0 lo)).take (HT.sIx xs.length xs.length hi-HT.sIx xs.length 0 lo),IsTup.new _ _⟩
noncomputable def rLtT (K:W.Frag):R2:=fun x y H Q=>∃a b ns ms,x= .ref a/\y= .ref b/\SqT K H a (ns.map V.int)/\SqT K H b (ms.map V.int)/\Q (.bl (HT.zbl ns ms)) H
theorem op_ltT (hu:X.A.units<cLine):OpR X (compareOp .Lt) (rLtT X.K):=by
 intro pins s σ H x y v u Q I rx ry h;obtain⟨a,b,ns,ms,rfl,rfl,ha,hb,q⟩:=h;cases rx;cases ry;obtain⟨its,r1,p1,_⟩:=I.tuple ha;obtain⟨its2,r2,p2,_⟩:=I.tuple hb;have i1:IntsAre its.toArray.toList ns:=zdQ r1;have i2:IntsAre its2.toArray.toList ms:=zdQ r2;exact HT.zkQ p1 p2 i1 i2 hu ⟨.bl (HT.zbl ns ms),H,I,rfl,q⟩
noncomputable def rCatT (K:W.Frag):R2:=fun x y H Q=>∃a b xs ys,x= .ref a/\y= .ref b/\SqT K H a xs/\SqT K H b ys/\xs≠[]/\xs.length+ys.length<=sizeLine/\
 (ys=[]->Q (.ref a) H)/\(ys≠[]->∀p,H p=none->Q (.ref p) (upd H p (.tup (xs++ys))))
theorem Vals.nil_iff (r:Vals xs us):us=[]↔xs=[]:=by
 cases r with
 |nil=>simp
 |cons _ _=>simp
theorem op_catT:OpR X (binaryOp .Add) (rCatT X.K):=by
 intro pins s σ H x y v u Q I rx ry h;obtain⟨a,b,xs,ys,rfl,rfl,ha,hb,hx,hz,q1,q2⟩:=h;cases rx;cases ry;obtain⟨its,r1,p1,_⟩:=I.tuple ha;obtain⟨its2,r2,p2,_⟩:=I.tuple hb;refine HT.cat_tup p1 p2 (fun z=>hx (r1.nil_iff.mp z)) (fun z=>⟨.ref a,H,I,rfl,q1 (r2.nil_iff.mp z)⟩) (fun z=>?_) (by rw[<-r1.length,<-r2.length];exact hz);refine⟨.ref s.heap.objs.size,_,I.laid (t':=s.toks) (o:= .tup (xs++ys)) (fun b ob q=>qaE _ q) (qaJ _) ?_,rfl,q2 (fun w=>z (r2.nil_iff.mpr w)) _ (I.hok.fresh (qaJ _))⟩;exact⟨by rw[qa2];exact hz,_,r1.append r2,IsTup.new _ _⟩
end
noncomputable def ixN (n:Nat)(i:Int):Option Nat:=if 0<=i then(if i<n then some i.toNat else none)else if-(n:Int)<=i then some (i+n).toNat else none
noncomputable def atI {α:Type}(xs:List α)(i:Int):Option α:=(ixN xs.length i).bind fun j=>xs[j]?
theorem zrU {n:Nat}(h:ixN n i=some j):seqIndex? i n=some j/\j<n/\ -(n:Int)<=i/\i<n:=by
 unfold ixN at h
 by_cases h0:0<=i
 ·rw[if_pos h0]at h
  by_cases h1:i<n
  ·rw[if_pos h1]at h;have e:i.toNat=j:=Option.some.inj h;exact⟨by rw[seqIndex_of h0 h1,e],by lia,by lia,h1⟩
  ·rw[if_neg h1]at h;cases h
 ·rw[if_neg h0]at h
  by_cases h1: -(n:Int)<=i
  ·rw[if_pos h1]at h;have e:(i+n).toNat=j:=Option.some.inj h;exact⟨by rw[seqIndex_neg (by lia) h1,e],by lia,h1,by lia⟩
  ·rw[if_neg h1]at h;cases h
theorem zn8 {α:Type}{xs:List α}{v:α}(h:atI xs i=some v):∃j,seqIndex? i xs.length=some j/\xs[j]? =some v/\j<xs.length/\ -(xs.length:Int)<=i/\i<xs.length:=by
 unfold atI at h;cases e:ixN xs.length i with
 |none=>rw[e]at h;cases h
 |some j=>
  rw[e]at h;obtain⟨h1,h2,h3,h4⟩:=zrU e;exact⟨j,h1,h,h2,h3,h4⟩
theorem zoh {α:Type}(xs:List α)(v:α):atI (xs++[v]) (-1)=some v:=by
 have hl:(xs++[v]).length=xs.length+1:=by simp
 have e:ixN (xs++[v]).length (-1)=some xs.length:=by
  unfold ixN;rw[hl,if_neg (by decide),if_pos (by lia)];congr 1;lia
 unfold atI;rw[e];show(xs++[v])[xs.length]? =some v;simp
noncomputable def zmg (b:Expr):Prop:=∀o i,subscripted b false o i=operate [o,i] (getItem o i)
noncomputable def IxR (X:Cx)(r:R2):Prop:=
 ∀(value slice:Expr) (pins:List (Addr×Obj)) (s:Shared) (σ:St) (H:Hp) (x y:V) (v u:Value) (Q:VK),Inv X pins σ H s->RelV x v->RelV y u->r x y H Q->
  subscripted slice false v u=operate [v,u] (getItem v u)->wpAny (model X.prog X.w) X.A (subscriptTail value slice v u) (EP X pins σ Q) X.xe s
noncomputable def MtR (X:Cx)(id:String)(r:V->List V->Hp->VK->Prop):Prop:=
 ∀(pins:List (Addr×Obj)) (s:Shared) (σ:St) (H:Hp) (x:V) (xs:List V) (v:Value) (us:List Value) (Q:VK),Inv X pins σ H s->RelV x v->Vals xs us->r x xs H Q->
  wpAny (model X.prog X.w) X.A (call (.builtin id) (v::us)) (EP X pins σ Q) X.xe s
section
variable {X:Cx} {a b:Expr} {ta tb:TE} {pos:Pos}
theorem IxR.or {r r':R2}(h:IxR X r)(h':IxR X r'):IxR X (fun x y H Q=>r x y H Q\/r' x y H Q):=by
 intro value slice pins s σ H x y v u Q I rx ry q hs;rcases q with q|q
 ·exact h value slice pins s σ H x y v u Q I rx ry q hs
 ·exact h' value slice pins s σ H x y v u Q I rx ry q hs
theorem pe_ix {r:R2}(hr:IxR X r)(ha:PE X a ta)(hb:PE X b tb)(hs:zmg b):PE X (.Subscript a b pos) (tOp r ta tb):=by
 intro pins s σ H Q I h;exact Subscript_ (binT ha hb I h fun v u s2 x y H2 I2 rx ry q=>hr a b pins s2 σ H2 x y v u Q I2 rx ry q (hs _ _))
noncomputable def rIxL (K:W.Frag):R2:=fun x y H Q=>∃p xs i v,x= .ref p/\y= .int i/\SqL K H p xs/\atI xs i=some v/\Q v H
noncomputable def rIxT (K:W.Frag):R2:=fun x y H Q=>∃p xs i v,x= .ref p/\y= .int i/\SqT K H p xs/\atI xs i=some v/\Q v H
noncomputable def rIxS:R2:=fun x y H Q=>∃z i c,x= .str z/\y= .int i/\z.length<=sizeLine/\atI z.cps.toList i=some c/\Q (.str ⟨#[c]⟩) H
theorem ix_list:IxR X (rIxL X.K):=by
 intro value slice pins s σ H x y v u Q I rx ry h hs;obtain⟨p,xs,i,z,rfl,rfl,hq,he,q⟩:=h;cases rx;obtain⟨t,rfl⟩:=ry;obtain⟨its,r,pl,hz⟩:=I.list hq;obtain⟨j,h1,h2,h3,h4,h5⟩:=zn8 he;obtain⟨w,ew,rw'⟩:=r.get h2;have hl:=r.length;have hn:=zjN;have fin:EP X pins σ Q w s:=⟨z,H,I,rw',q⟩
 by_cases h0:0<=i
 ·have hj:i.toNat=j:=by
   rw[seqIndex_of h0 h5]at h1;exact Option.some.inj h1
  exact item_listR pl.isList h0 (by lia) (by rw[hj];simpa using ew) fin hs
 ·have hj:(i+(its.toArray.size:Int)).toNat=j:=by
   rw[seqIndex_neg (by lia) h4]at h1;rw[qaO,<-hl];exact Option.some.inj h1
  exact subscriptTail_builtinR (x:=w) pl.isList.typeIs slot_list_getitem.lookup
   (wpAny_getItem_list_neg (Q:=fun r s'=>r=w/\EP X pins σ Q r s') pl.isList (by lia) (by rw[qaO]<;>lia) (by lia) (by rw[hj];simpa using ew) ⟨rfl,fin⟩) hs
theorem ix_tup:IxR X (rIxT X.K):=by
 intro value slice pins s σ H x y v u Q I rx ry h hs;obtain⟨p,xs,i,z,rfl,rfl,hq,he,q⟩:=h;cases rx;obtain⟨t,rfl⟩:=ry;obtain⟨its,r,pl,hz⟩:=I.tuple hq;obtain⟨j,h1,h2,h3,h4,h5⟩:=zn8 he;obtain⟨w,ew,rw'⟩:=r.get h2;have hl:=r.length;have hn:=zjN;have fin:EP X pins σ Q w s:=⟨z,H,I,rw',q⟩;exact subscriptTail_builtinR (x:=w) pl.typeIs slot_tuple_getitem.lookup
  (getItem_tuple (j:=j) (Q:=fun r s'=>r=w/\EP X pins σ Q r s') pl (by lia) (by lia) (by rw[qaO,<-hl];exact h1) (by simpa using ew) ⟨rfl,fin⟩) hs
theorem ix_str:IxR X rIxS:=by
 intro value slice pins s σ H x y v u Q I rx ry h hs;obtain⟨z,i,c,rfl,rfl,hz,he,q⟩:=h;obtain⟨t,rfl⟩:=rx;obtain⟨t',rfl⟩:=ry;obtain⟨j,h1,h2,h3,h4,h5⟩:=zn8 he;have hl:z.cps.toList.length=z.length:=by simp[Str.length]
 rw[hl]at h1 h4 h5;have hn:=zjN;exact tail_any (typeIs_str s z t) slot_str_getitem.lookup (getItem_str (c:=c) (by
  have e1:decide (i< -(2^63:Int))=false:=qaa (by lia);have e2:decide (i>=2^63)=false:=qaa (by lia);rw[e1,e2,Bool.or_false]) (by rw[h1];simpa using h2) ⟨.str ⟨#[c]⟩,H,I.tok _,⟨_,rfl⟩,q⟩) hs
noncomputable def rIx (K:W.Frag):R2:=fun x y H Q=>rIxL K x y H Q\/rIxT K x y H Q\/rIxS x y H Q
theorem ix_seq:IxR X (rIx X.K):=ix_list.or (ix_tup.or ix_str)
theorem zpH (its:List Value)(n j:Nat)(u:Value):Obj.mapSeq (·.setIfInBounds j u) {cls:= .type "list",data:= .seq its.toArray n}={cls:= .type "list",data:= .seq (its.set j u).toArray n}:=by
 simp[Obj.mapSeq]
theorem Inv.lst (I:Inv X pins σ H s)(h:H p=some (.lst xs)):
  ∃(its:List Value) (n:Nat),Vals xs its/\s.heap.get? p=some {cls:= .type "list",data:= .seq its.toArray n}/\xs.length<=sizeLine:=by
 obtain⟨z,its,n,r,e⟩:=I.hok p _ h;exact⟨its,n,r,e,z⟩
theorem Inv.lstUpd {xs ys:List V}{n n':Nat}{f:Obj->Obj}(I:Inv X pins σ H s)(h:H p=some (.lst xs))
  (ho:s.heap.get? p=some {cls:= .type "list",data:= .seq its.toArray n}) (hf:f {cls:= .type "list",data:= .seq its.toArray n}={cls:= .type "list",data:= .seq its'.toArray n'}) (r:Vals ys its') (hz:ys.length<=sizeLine) (t:Nat):
  Inv X pins σ (upd H p (.lst ys)) {s with heap:=s.heap.update p f,toks:=t}:=by
 have e:(s.heap.update p f).get? p=some {cls:= .type "list",data:= .seq its'.toArray n'}:=by
  rw[qbk f ho (by rw[hf]<;>rfl),hf]
 refine I.write (x:=p) (e:=p) (by rw[h];trivial) (.inl rfl) (fun b u hb q=>(qbl _ _ (Ne.symm hb)).trans q) ⟨_,e⟩ ?_;exact⟨hz,its',n',r,e⟩
noncomputable def rSetL:V->V->V->Hp->(Hp->Prop)->Prop:=fun o i v H Q=>∃p xs k j,o= .ref p/\i= .int k/\H p=some (.lst xs)/\ixN xs.length k=some j/\Q (upd H p (.lst (xs.set j v)))
theorem zoF:PSet X rSetL:=by
 intro pins s σ H o i v ov iv u Q I ro ri rv h;obtain⟨p,xs,k,j,rfl,rfl,hp,hj,q⟩:=h;cases ro;obtain⟨t,rfl⟩:=ri;obtain⟨its,n,r,ho,hz⟩:=I.lst hp;obtain⟨h1,h2,h3,h4⟩:=zrU hj;have hl:=r.length;have hn:=zjN;have I':Inv X pins σ (upd H p (.lst (xs.set j v))) {s with heap:=s.heap.update p (Obj.mapSeq (·.setIfInBounds j u))}:=
  I.lstUpd hp ho (zpH its n j u) (r.set rv j) (by rw[qbm];exact hz) s.toks
 by_cases h0:0<=k
 ·have hk:k.toNat=j:=by
   rw[seqIndex_of h0 h4]at h1;exact Option.some.inj h1
  exact W.ki_setAt ho h0 (by lia) (by rw[qaO,<-hl];exact h4) (by rw[hk];exact⟨_,I',q⟩)
 ·have hk:(k+(its.toArray.size:Int)).toNat=j:=by
   rw[seqIndex_neg (by lia) h3]at h1;rw[qaO,<-hl];exact Option.some.inj h1
  exact W.ki_setBack ho (by lia) (by rw[qaO,<-hl];exact h3) (by lia) (by rw[hk];exact⟨_,I',q⟩)
theorem znj (lo hi:Option Int)(n:Nat):(sliceBounds lo hi none n).1=((HT.sIx n 0 lo:Nat):Int)/\(sliceBounds lo hi none n).2.1=((HT.sIx n n hi:Nat):Int)/\(sliceBounds lo hi none n).2.2=1:=by
 refine⟨?_,?_,rfl⟩
 ·cases lo with
  |none=>simp[sliceBounds,HT.sIx]
  |some i=>
   simp only[sliceBounds,HT.sIx,Option.getD_none,show(1:Int)>0 by decide,if_true]
   by_cases h:i<0
   ·simp only[h,if_true]<;>lia
   ·simp only[h,qbc]<;>lia
 ·cases hi with
  |none=>simp[sliceBounds,HT.sIx]
  |some i=>
   simp only[sliceBounds,HT.sIx,Option.getD_none,show(1:Int)>0 by decide,if_true]
   by_cases h:i<0
   ·simp only[h,if_true]<;>lia
   ·simp only[h,qbc]<;>lia
theorem zlo (its:List Value)(lo hi:Option Int):slicePick its.toArray lo hi none=((its.drop (HT.sIx its.length 0 lo)).take (HT.sIx its.length its.length hi-HT.sIx its.length 0 lo)).toArray:=by
 obtain⟨h1,h2,h3⟩:=znj lo hi its.toArray.size;unfold slicePick;rw[h1,h2,h3];simp only[sliceRange_one,pick_run,qaO]<;>rfl
noncomputable def rSlL (K:W.Frag):V->Option Int->Option Int->Hp->VK->Prop:=fun x lo hi H Q=>∃a xs,x= .ref a/\SqL K H a xs/\∀p,H p=none->Q (.ref p) (upd H p (.lst (cutV xs lo hi)))
theorem sl_list:SlR X (rSlL X.K):=by
 intro pins s σ H x v vl vu lo hi sl Q I rx hs pl pu h;obtain⟨a,xs,rfl,hx,q⟩:=h;cases rx;obtain⟨its,r,ht,hz⟩:=I.list hx;have hlen:=r.length;refine⟨"list",_,slot_list_getitem.lookup,ht.isList.typeIs,?_⟩;refine wpAny_getItem_list_slice ht.isList hs pl pu .none (by simp) ?_ (by rw[qaO]<;>lia)
 rw[zlo,<-hlen];refine⟨.ref s.heap.objs.size,_,I.laid (t':=s.toks) (o:= .lst (cutV xs lo hi)) (fun b ob q=>qaE _ q) (qaJ _) ?_,rfl,q _ (I.hok.fresh (qaJ _))⟩;exact⟨qak (zkl xs lo hi) hz,_,0,(r.drop (HT.sIx xs.length 0 lo)).take (HT.sIx xs.length xs.length hi-HT.sIx xs.length 0 lo),qaI _ rfl⟩
noncomputable def zkz:V->Bool
 | .non=>true
 | .bl _=>true
 | .int _=>true
 | .str _=>true
 |_=>false
noncomputable def eqV:V->V->Bool
 | .non,.non=>true
 | .bl a,.bl b=>a==b
 | .bl a,.int b=>(if a then 1 else 0)==b
 | .int a,.bl b=>a==(if b then 1 else 0)
 | .int a,.int b=>a==b
 | .str a,.str b=>a==b
 |_,_=>false
theorem eqAt_V (ry:RelV y u)(rx:RelV x v)(fy:zkz y=true)(fx:zkz x=true):SeqAt.EqAt A s u v (eqV y x):=by
 cases y with
 |non=>
  cases ry;cases x with
  |non=>cases rx;exact SeqAt.EqAt.same _
  |bl b=>cases rx;exact SeqAt.EqAt.none_bool b
  |int b=>obtain⟨t,rfl⟩:=rx;exact SeqAt.EqAt.none_int b t
  |str b=>obtain⟨t,rfl⟩:=rx;exact SeqAt.EqAt.none_str b t
  |_=>exact absurd (show false=true from fx) qaH
 |bl a=>
  cases ry;cases x with
  |non=>cases rx;exact SeqAt.EqAt.bool_none a
  |bl b=>cases rx;exact SeqAt.EqAt.bool_bool a b
  |int b=>obtain⟨t,rfl⟩:=rx;exact SeqAt.EqAt.bool_int a b t
  |str b=>obtain⟨t,rfl⟩:=rx;exact SeqAt.EqAt.bool_str a b t
  |_=>exact absurd (show false=true from fx) qaH
 |int a=>
  obtain⟨t',rfl⟩:=ry;cases x with
  |non=>cases rx;exact SeqAt.EqAt.int_none a t'
  |bl b=>cases rx;exact SeqAt.EqAt.int_bool a t' b
  |int b=>obtain⟨t,rfl⟩:=rx;exact SeqAt.EqAt.int_int a t' b t
  |str b=>obtain⟨t,rfl⟩:=rx;exact SeqAt.EqAt.int_str a t' b t
  |_=>exact absurd (show false=true from fx) qaH
 |str a=>
  obtain⟨t',rfl⟩:=ry;cases x with
  |non=>cases rx;exact SeqAt.EqAt.str_none a t'
  |bl b=>cases rx;exact SeqAt.EqAt.str_bool a t' b
  |int b=>obtain⟨t,rfl⟩:=rx;exact SeqAt.EqAt.str_int a t' b t
  |str b=>obtain⟨t,rfl⟩:=rx;exact SeqAt.EqAt.str_str a t' b t
  |_=>exact absurd (show false=true from fx) qaH
 |_=>exact absurd (show false=true from fy) qaH
noncomputable def eqU (x:V)(u:Value):Bool:=match u with
 | .none=>eqV .non x
 | .bool b=>eqV (.bl b) x
 | .int i _=>eqV (.int i) x
 | .str z _=>eqV (.str z) x
 |_=>false
theorem eqU_of (r:RelV y u)(f:zkz y=true):eqU x u=eqV y x:=by
 cases y with
 |non=>cases r;rfl
 |bl b=>cases r;rfl
 |int i=>obtain⟨t,rfl⟩:=r;rfl
 |str z=>obtain⟨t,rfl⟩:=r;rfl
 |_=>exact absurd (show false=true from f) qaH
theorem zn2:∀{xs:List V} {us:List Value},Vals xs us->xs.all zkz=true->us.any (eqU x)=xs.any fun y=>eqV y x
 |_,_,.nil,_=>rfl
 |y::xs,u::us,.cons r t,f=>by
  rw[qbn,qbi]at f;rw[qbo,qbo,eqU_of r f.1,zn2 t f.2]
theorem zmb (rx:RelV x v)(fx:zkz x=true):∀{xs:List V} {us:List Value},Vals xs us->xs.all zkz=true->∀u∈us,SeqAt.EqAt A s u v (eqU x u)
 |_,_,.nil,_=>fun u hu=>by cases hu
 |y::xs,u::us,.cons r t,f=>fun u' hu=>by
  rw[qbn,qbi]at f;rcases qao.mp hu with rfl|hu
  ·rw[eqU_of r f.1];exact eqAt_V r rx f.1 fx
  ·exact zmb rx fx t f.2 u' hu
noncomputable def inV (x:V)(xs:List V):Bool:=xs.any fun y=>eqV y x
noncomputable def rIn (K:W.Frag)(neg:Bool):R2:=fun x y H Q=>∃p xs,y= .ref p/\(SqL K H p xs\/SqT K H p xs)/\zkz x=true/\xs.all zkz=true/\Q (.bl (if neg then !inV x xs else inV x xs)) H
theorem zqP:OpR X (compareOp .In) (rIn X.K false):=by
 intro pins s σ H x y v u Q I rx ry h;obtain⟨p,xs,rfl,hq,fx,fs,q⟩:=h;cases ry;rcases hq with hq|hq
 ·obtain⟨its,r,pl,hz⟩:=I.list hq;refine SeqAt.in_listAt (eqU x) pl.isList (fun w hw=>zmb rx fx r fs w (by simpa using hw)) ⟨.bl _,H,I,rfl,?_⟩;rw[show its.toArray.any (eqU x)=its.any (eqU x) by simp,zn2 r fs];exact q
 ·obtain⟨its,r,pl,hz⟩:=I.tuple hq;refine SeqAt.in_tupleAt (eqU x) pl (fun w hw=>zmb rx fx r fs w (by simpa using hw)) ⟨.bl _,H,I,rfl,?_⟩;rw[show its.toArray.any (eqU x)=its.any (eqU x) by simp,zn2 r fs];exact q
theorem zjk:zge X (.builtin "len") (fun xs H Q=>∃p ys,xs=[.ref p]/\(SqL X.K H p ys\/SqT X.K H p ys)/\Q (.int ys.length) H):=by
 intro pins s σ H xs us Q I r h;obtain⟨p,ys,rfl,hq,q⟩:=h;obtain⟨u,rfl,rx⟩:=zk6 r;cases rx;have hn:=zjN;rcases hq with hq|hq
 ·obtain⟨its,r',pl,hz⟩:=I.list hq;have hlen:=r'.length;exact Calls.call_len_list pl.isList (by simp only[qaO]<;>lia) ⟨.int ys.length,H,I.tok _,⟨s.toks+1,by rw[qaO,hlen]⟩,q⟩
 ·obtain⟨its,r',pl,hz⟩:=I.tuple hq;have hlen:=r'.length;exact len_tuple pl (by simp only[qaO]<;>lia) ⟨.int ys.length,H,I.tok _,⟨s.toks+1,by rw[qaO,hlen]⟩,q⟩
theorem zng:zge X (.type "list") (fun xs H Q=>∃p ys,xs=[.ref p]/\(SqL X.K H p ys\/SqT X.K H p ys)/\∀l,H l=none->Q (.ref l) (upd H l (.lst ys))):=by
 intro pins s σ H xs us Q I r h;obtain⟨p,ys,rfl,hq,q⟩:=h;obtain⟨u,rfl,rx⟩:=zk6 r;cases rx;have fin:∀(its:List Value),Vals ys its->ys.length<=sizeLine->∀(h':Heap) (c':Nat),(∀b o',s.heap.get? b=some o'->h'.get? b=some o')->
   h'.get? s.heap.objs.size=some {cls:= .type "list",dict:=none,data:= .seq its.toArray c',slots:= #[]}->EP X pins σ Q (.ref s.heap.objs.size) {s with heap:=h'}:=fun its r' hz h' c' kp e=>
  ⟨.ref s.heap.objs.size,_,I.laid (t':=s.toks) kp (qaJ _) (show ObjOk X.prog X.w _ h' _ (.lst ys)from⟨hz,its,c',r',e⟩),rfl,q _ (I.hok.fresh (qaJ _))⟩
 rcases hq with hq|hq
 ·obtain⟨its,r',pl,hz⟩:=I.list hq;have hlen:=r'.length;obtain⟨o,ho,hc,n,hd⟩:=pl.isList;exact call_list_seq p (.inl rfl) ho hc hd (fun h' c' kp e=>fin its r' hz h' c' kp e) (by simp only[qaO]<;>lia)
 ·obtain⟨its,r',pl,hz⟩:=I.tuple hq;have hlen:=r'.length;obtain⟨o,ho,hc,n,hd⟩:=pl;exact call_list_seq p (.inr rfl) ho hc hd (fun h' c' kp e=>fin its r' hz h' c' kp e) (by simp only[qaO]<;>lia)
theorem zle:zge X (.type "tuple") (fun xs H Q=>∃p ys,xs=[.ref p]/\((SqL X.K H p ys/\∀l,H l=none->Q (.ref l) (upd H l (.tup ys)))\/(SqT X.K H p ys/\Q (.ref p) H))):=by
 intro pins s σ H xs us Q I r h;obtain⟨p,ys,rfl,h⟩:=h;obtain⟨u,rfl,rx⟩:=zk6 r;cases rx;rcases h with⟨hq,q⟩|⟨hq,q⟩
 ·obtain⟨its,r',pl,hz⟩:=I.list hq;have hlen:=r'.length;refine call_tuple_list pl.isList (fun h' kp=>?_) (by simp only[qaO]<;>lia)
  have I1:Inv X pins σ H {s with heap:=h'}:=I.kept (t':=s.toks) kp;have I2:Inv X pins σ (upd H h'.objs.size (.tup ys)) {s with heap:=h'.push {cls:= .type "tuple",data:= .seq its.toArray}}:=
   I1.laid (t':=s.toks) (fun b o e=>qaE _ e) (qaJ _) (show ObjOk X.prog X.w _ _ _ (.tup ys)from⟨hz,its,r',IsTup.new _ _⟩)
  exact⟨.ref h'.objs.size,_,I2,rfl,q _ (I1.hok.fresh (qaJ _))⟩
 ·obtain⟨its,r',pl,hz⟩:=I.tuple hq;exact call_tuple_same pl ⟨.ref p,H,I,rfl,q⟩
noncomputable def tyV (K:W.Frag)(T:String)(x:V)(H:Hp):Prop:=match x with
 | .str _=>T="str"
 | .int _=>T="int"
 | .ref p=>(T="list"/\∃xs,SqL K H p xs)\/(T="tuple"/\∃o,K.lookup p=some o/\o.cls= .type "tuple"/\o.dict=none)\/
   (T="dict"/\((∃kvs,H p=some (.dK kvs))\/∃kvs,H p=some (.dT kvs)))\/(T="set"/\∃S n,H p=some (.set S n))
 |_=>False
theorem tyV_is {T:String}(I:Inv X pins σ H s)(r:RelV x v)(ty:tyV X.K T x H):
  s.TypeIs v T/\∀a,v= .ref a->∃ob,s.heap.get? a=some ob/\ob.dict=none:=by
 cases x with
 |str z=>
  obtain⟨t,rfl⟩:=r;cases(show T="str" from ty);exact⟨typeIs_str s z t,fun _ e=>nomatch e⟩
 |int i=>
  obtain⟨t,rfl⟩:=r;cases(show T="int" from ty);exact⟨typeIs_int s i t,fun _ e=>nomatch e⟩
 |ref p=>
  cases r;rcases ty with⟨rfl,xs,hq⟩|⟨rfl,o,hk,hc,hd⟩|⟨rfl,hk⟩|⟨rfl,S,n,hk⟩
  ·obtain⟨its,_,pl,_⟩:=I.list hq;refine⟨pl.isList.typeIs,fun a e=>?_⟩;cases e;obtain⟨o,n,e,c,hd,_⟩:=pl;exact⟨o,e,hd⟩
  ·refine⟨⟨o,I.kIn p o hk,hc⟩,fun a e=>?_⟩;cases e;exact⟨o,I.kIn _ o hk,hd⟩
  ·have z:∃o,s.heap.get? p=some o/\o.ExactDict:=by
    rcases hk with⟨kvs,hk⟩|⟨kvs,hk⟩
    ·obtain⟨_,_,_,_,o,_,_,e,ex,_⟩:=I.hok p _ hk;exact⟨o,e,ex⟩
    ·obtain⟨_,_,_,_,o,_,_,e,ex,_⟩:=I.hok p _ hk;exact⟨o,e,ex⟩
   obtain⟨o,e,ex⟩:=z;refine⟨⟨o,e,ex.1⟩,fun a e2=>?_⟩;cases e2;exact⟨o,e,ex.2.1⟩
  ·obtain⟨o,_,_,_,e,ex,_⟩:=I.hok p _ hk;refine⟨⟨o,e,ex.1⟩,fun a e2=>?_⟩;cases e2;exact⟨o,e,ex.2.1⟩
 |_=>exact False.elim ty
noncomputable def tBM (K:W.Frag)(T:String)(r:V->List V->Hp->VK->Prop)(to:TE)(t:TA):TE:=fun σ H Q=>to σ H fun x H1=>tyV K T x H1/\t σ H1 fun xs H2=>r x xs H2 Q
variable {o e:Expr} {es:List Expr} {to:TE} {t:TA} {name:Str} {apos cpos:Pos} {T id:String} {r:V->List V->Hp->VK->Prop}
theorem pe_bm (pa:PlainAttrs T)(slot:Slot T name id)(hty:typeOf (.builtin id)=pure (.type "method_descriptor"))(hm:MtR X id r)(ho:PE X o to)(ha:PA X (e::es) t)
  (hbase:attributeBase o name X.env (eval o X.env)=eval o X.env:=by rfl)
  (hfew : ((backTo cpos (starEach (e :: es) X.env)).all (fun x => !x.1) && (backToKw cpos (keywordEach [] X.env)).all (fun x => x.1.isSome)
   &&decide ((e::es).length+([]:List Keyword).length+(if([]:List Keyword).isEmpty then 0 else 1)<30))=true:=by rfl)
  (hline:(apos.endLine==cpos.line)=true:=by rfl) (hs:starEach (e::es) X.env=(false,eval e X.env)::starEach es X.env:=by rfl) (hplain:(backTo cpos (starEach es X.env)).any (·.1)=false:=by rfl):
  PE X (.Call (.Attribute o name apos) (e::es) [] cpos) (tBM X.K T r to t):=by
 intro pins s σ H Q I h;refine wpAny_Call_method_late hbase hfew hline rfl (thn (ho pins s σ H _ I h) fun v s1 ⟨x,H1,I1,r1,ty,q1⟩=>?_);obtain⟨h1,h2⟩:=tyV_is I1 r1 ty;refine⟨T,id,pa,slot,hty,h1,h2,?_⟩;have hA:=ha cpos pins s1 σ H1 _ I1 q1;rw[hs]at hA ⊢;refine Calls.callWith_builtin (by show(false||(backTo cpos (starEach es X.env)).any (·.1))=false;rw[hplain]<;>rfl) (Calls.evalArgs_plain ?_)
 exact thn hA fun us s2 ⟨vs,H2,I2,r2,q2⟩=>hm pins s2 σ H2 x vs v us Q I2 r1 r2 q2
end
noncomputable def MtM (X:Cx)(id:String)(r:V->List V->Hp->VK->Prop):Prop:=
 ∀(pins:List (Addr×Obj)) (s:Shared) (σ:St) (H:Hp) (x:V) (xs:List V) (v:Value) (us:List Value) (Q:VK),Inv X pins σ H s->RelV x v->Vals xs us->r x xs H Q->
  wpAny (model X.prog X.w) X.A (call (.builtin id) (v::us)) (EP X pins σ Q) X.xe s
theorem Vals.one:∀{x:V} {us:List Value},Vals [x] us->∃u,us=[u]/\RelV x u
 |_,_,.cons r .nil=>⟨_,rfl,r⟩
theorem Vals.two:∀{x y:V} {us:List Value},Vals [x,y] us->∃u v,us=[u,v]/\RelV x u/\RelV y v
 |_,_,_,.cons r (.cons q .nil)=>⟨_,_,rfl,r,q⟩
theorem Vals.eraseIdx:∀{xs:List V} {us:List Value} (i:Nat),Vals xs us->Vals (xs.eraseIdx i) (us.eraseIdx i)
 |_,_,_,.nil=> .nil
 |_,_,0,.cons _ t=>t
 |_,_,i+1,.cons r t=> .cons r (Vals.eraseIdx i t)
theorem Vals.rep (h:Vals xs us):∀k:Nat,Vals (List.replicate k xs).flatten (List.replicate k us).flatten
 |0=> .nil
 |k+1=>by
  rw[qbp,qbp,qbq,qbq];exact Vals.append h (Vals.rep h k)
theorem zmy {α:Type}:∀(l:List α) (i:Nat),(l.eraseIdx i).length<=l.length
 |[],_=>qaJ _
 |_::_,0=>Nat.le_succ _
 |_::r,i+1=>Nat.succ_le_succ (zmy r i)
theorem zmT (its:List Value):∀(k:Nat) (acc:List Value),
  List.foldl (fun x1 x2=>x1++x2) acc.toArray (List.replicate k its.toArray)=(acc++(List.replicate k its).flatten).toArray
 |0,acc=>by simp
 |k+1,acc=>by
  have e:acc.toArray++its.toArray=(acc++its).toArray:=by simp
  have e2:(acc++its)++(List.replicate k its).flatten=acc++(List.replicate (k+1) its).flatten:=by
   rw[qbp,qbq,List.append_assoc]
  rw[<-e2,<-zmT its k (acc++its),<-e,qbp,qbr]
section
variable {X:Cx} {pins:List (Addr×Obj)} {σ:St} {H:Hp} {s:Shared} {l b:Addr} {xs ys zs:List V}
theorem Inv.lset (I:Inv X pins σ H s)(hH:H l=some (.lst xs))
  (e:s.heap.get? l=some {cls:= .type "list",data:= .seq its.toArray n}) (hf:f its.toArray=its'.toArray) (hv:Vals ys its') (hz:ys.length<=sizeLine):
  Inv X pins σ (upd H l (.lst ys)) {s with heap:=s.heap.update l (Obj.mapSeq f),toks:=t'}:=by
 have q:=PySem.IsL.update e f;rw[hf]at q;refine I.write (x:=l) (e:=l) (by rw[hH];exact trivial) (.inl rfl) (fun b' u hb hu=>(qbl s.heap (Obj.mapSeq f) (Ne.symm hb)).trans hu) ⟨_,q⟩ ?_;exact⟨hz,its',_,hv,q⟩
theorem Inv.lnew (I:Inv X pins σ H s)(hv:Vals ys its)(hz:ys.length<=sizeLine):
  Inv X pins σ (upd H s.heap.objs.size (.lst ys)) {s with heap:=s.heap.push {cls:= .type "list",data:= .seq its.toArray},toks:=t'}:=
 I.laid (fun _ _ q=>qaE _ q) (qaJ _) ⟨hz,its,0,hv,qaI _ rfl⟩
theorem Inv.fresh (I:Inv X pins σ H s):H s.heap.objs.size=none:=I.hok.fresh (qaJ _)
theorem Inv.lstM (I:Inv X pins σ H s)(hH:H l=some (.lst xs)):xs.length<=sizeLine/\∃(its:List Value) (n:Nat),Vals xs its/\xs.length=its.length/\s.heap.get? l=some {cls:= .type "list",data:= .seq its.toArray n}:=by
 obtain⟨z,its,n,r,e⟩:=I.hok l _ hH;exact⟨z,its,n,r,r.length,e⟩
theorem notLongL (h:n<=sizeLine):Builtin.List.listTooLong n=false:=by
 unfold Builtin.List.listTooLong;exact qaa (by lia)
end
section
variable {X:Cx}
noncomputable def rAppend:V->List V->Hp->VK->Prop:=fun x vs H Q=>∃l xs y,x= .ref l/\vs=[y]/\H l=some (.lst xs)/\xs.length<sizeLine/\Q .non (upd H l (.lst (xs++[y])))
theorem zmo:MtM X "list.append" rAppend:=by
 intro pins s σ H x vs v us Q I rx rv h;obtain⟨l,xs,y,rfl,rfl,hH,hz,q⟩:=h;cases rx;obtain⟨u,rfl,ru⟩:=rv.one;obtain⟨z,its,n,r,hl,e⟩:=I.lstM hH;refine call_meets F.slot_list_append ⟨_,e,rfl⟩ F.entry_list_append (F.args_list_append_2 _ _) (PySem.list_append l its.toArray n u (by rw[qaO];lia)) ⟨e,?_⟩;refine⟨.non,_,I.lset (its':=its++[u]) hH e (by simp) (r.append (.cons ru .nil)) ?_,rfl,q⟩;rw[qa2,qbs];lia
noncomputable def rPopAt:V->List V->Hp->VK->Prop:=fun x vs H Q=>∃l xs i k y,x= .ref l/\vs=[.int i]/\H l=some (.lst xs)/\ -(2^63)<=i/\i<2^63/\seqIndex? i xs.length=some k/\xs[k]? =some y/\Q y (upd H l (.lst (xs.eraseIdx k)))
theorem mt_popAt:MtM X "list.pop" rPopAt:=by
 intro pins s σ H x vs v us Q I rx rv h;obtain⟨l,xs,i,k,y,rfl,rfl,hH,h1,h2,hk,hy,q⟩:=h;cases rx;obtain⟨u,rfl,ru⟩:=rv.one;obtain⟨t,rfl⟩:=ru;obtain⟨z,its,n,r,hl,e⟩:=I.lstM hH;obtain⟨w,hw,rw'⟩:=r.get hy;refine call_meets F.slot_list_pop ⟨_,e,rfl⟩ F.entry_list_pop (F.args_list_pop_2 _ _)
  (MeetsSeq.list_pop_at l its.toArray n i t k w (fitsIndex_both h1 h2) (by rw[qaO,<-hl];exact hk) (by rw[<-Array.getElem?_toList];exact hw) (by rw[qaO];lia)) ⟨e,?_⟩
 refine⟨y,_,I.lset (its':=its.eraseIdx k) hH e ?_ (r.eraseIdx k) ?_,rw',q⟩
 ·show its.toArray.eraseIdxIfInBounds k=(its.eraseIdx k).toArray;rw[List.eraseIdxIfInBounds_toArray]
 ·have:=zmy xs k;lia
noncomputable def rCat:R2:=fun x y H Q=>∃l b xs zs,x= .ref l/\y= .ref b/\H l=some (.lst xs)/\H b=some (.lst zs)/\xs.length+zs.length<=sizeLine/\∀p,H p=none->Q (.ref p) (upd H p (.lst (xs++zs)))
theorem op_cat:OpR X (binaryOp .Add) rCat:=by
 intro pins s σ H x y v u Q I rx ry h;obtain⟨l,b,xs,zs,rfl,rfl,hH,hB,hz,q⟩:=h;cases rx;cases ry;obtain⟨z,its,n,r,hl,e⟩:=I.lstM hH;obtain⟨z2,its2,n2,r2,hl2,e2⟩:=I.lstM hB;refine PySem.P.add_list e e2 ?_ (by rw[qaO,qaO];lia);have ea:its.toArray++its2.toArray=(its++its2).toArray:=by simp
 rw[ea];exact⟨.ref _,_,I.lnew (t':=s.toks) (r.append r2) (by rw[qa2];lia),rfl,q _ I.fresh⟩
noncomputable def rRep:R2:=fun x y H Q=>∃l k xs,x= .ref l/\y= .int k/\H l=some (.lst xs)/\ -(2^63)<=k/\k<2^63/\xs.length*k.toNat<=sizeLine/\
 ∀p,H p=none->Q (.ref p) (upd H p (.lst (List.replicate k.toNat xs).flatten))
theorem len_rep {α:Type}(xs:List α)(k:Nat):(List.replicate k xs).flatten.length=k*xs.length:=by
 induction k with
 |zero=>simp
 |succ k ih=>rw[qbp,qbq,qa2,ih,Nat.succ_mul,Nat.add_comm]
theorem op_rep:OpR X (binaryOp .Mult) rRep:=by
 intro pins s σ H x y v u Q I rx ry h;obtain⟨l,k,xs,rfl,rfl,hH,h1,h2,hz,q⟩:=h;cases rx;obtain⟨t,rfl⟩:=ry;obtain⟨z,its,n,r,hl,e⟩:=I.lstM hH;have hlen:its.toArray.size*k.toNat<=sizeLine:=by rw[qaO,<-hl];exact hz
 have hcap:¬its.toArray.size*k.toNat>(2^63-1)/8:=by
  have:(sizeLine:Nat)<=(2^63-1)/8:=by decide
  lia
 have hfit:¬(!Builtin.List.listFitsIndex k)=true:=by
  rw[fitsIndex_both h1 h2];exact qaH
 have hlong:¬Builtin.List.listTooLong (its.toArray.size*k.toNat)=true:=by
  rw[notLongL hlen];exact qaH
 have hnew:List.foldl (fun x1 x2=>x1++x2) #[] (List.replicate (if its.toArray.isEmpty=true then 0 else k.toNat) its.toArray)=(List.replicate k.toNat its).flatten.toArray:=by
  have f0:∀m:Nat,List.foldl (fun x1 x2=>x1++x2) #[] (List.replicate m its.toArray)=(List.replicate m its).flatten.toArray:=fun m=>by
   have:=zmT its m [];rw[List.nil_append]at this;exact this
  rw[f0];cases its with
  |nil=>simp
  |cons a r'=>rw[if_neg (by simp)]
 refine wpAny_binaryOp_repeat_ref (T:="list") (U:="int") (by decide) ⟨_,e,rfl⟩ (fun s'=>typeIs_int s' k t) noFill_list_mul F.fills_int_mul F.slot_int_rmul repeat_list F.slot_int_index.lookup
  (call_meets F.slot_int_rmul (typeIs_int s k t) F.entry_int_rmul (F.args_int_rmul_2 _ _) (int___rmul___int_list k t l its.toArray n)
   ⟨e,rfl,⟨_,e,rfl⟩,call_meets F.slot_list_mul ⟨_,e,rfl⟩ F.entry_list_mul (F.args_list_mul_2 _ _) (AutoListH.list___mul___list_int_3 l its.toArray n k t hfit hcap hlong) ⟨e,?_⟩⟩)
 rw[hnew];exact⟨.ref _,_,I.lnew (t':=s.toks) (r.rep k.toNat) (by rw[len_rep,Nat.mul_comm];exact hz),rfl,q _ I.fresh⟩
end
end L2
namespace Att
open PyProof.Rows PySem PySem.Calls PySem.W
theorem zki {P:Params}{h:Heap}:∀(ns:List Int) (vs:List Value),WellAll P h vs (ns.map WData.int)->IntsAre vs ns:=by
 intro ns
 induction ns with
 |nil=>
  intro vs w;rw[List.map_nil]at w;cases w;exact .nil
 |cons n ns ih=>
  intro vs w;rw[qbj]at w;cases w with
  |cons a b=>
   cases a;exact .cons _ _ (ih _ b)
theorem zqr {l:OpenLaw}{n:Nat}(hn:l.most=some n){P:Params}{h:Heap}{args:List WData}{vals:List Value}
  (hpre:l.row.toRowW.claim.pre args=true) (hwl:WellAll P h vals args):
  ∃a vs ns,vals=[Value.ref a]/\args=[WData.list (ns.map WData.int)]/\h.get? a=some {cls:= .type "list",data:= .seq vs.toArray}/\IntsAre vs ns/\ns.length<=n:=by
 have hsh:WShape.hasAll [] args [.list .int]=true:=(pre_splitW hpre).1;have hc:l.pre.holds [] {args:=args}=true:=(pre_splitW hpre).2;obtain⟨d,r,rfl,h1,h2⟩:=hasAllW_cons hsh;obtain rfl:=hasAllW_nil h2;obtain⟨xs,rfl,h3⟩:=hasW_list h1;obtain⟨ns,rfl⟩:=items_int h3;have hlen:ns.length<=n:=by
  unfold OpenLaw.pre at hc;have h4:(WTm.not (.lt (.lit (.int (n:Int))) (.len (.arg 0)))).holds [] {args:=[.list (ns.map .int)]}=true:=by
   have h4:=(holds_andW hc).1;rw[hn]at h4;exact h4
  have h5:=condW_of h4 (w_not (w_lt w_lit (w_len_list (w_arg rfl))));rw[qa3]at h5;refine Nat.le_of_not_lt fun q=>?_
  have q':(n:Int)<((ns.length:Nat):Int):=by lia
  first
   |(rw[qa7 q']at h5;exact absurd h5 (by decide))
   |(simp at h5;lia)
 cases hwl with
 |cons w1 w2=>
  cases w2;cases w1 with
  |list ho hall=>exact⟨_,_,ns,rfl,rfl,ho,zki ns _ hall,hlen⟩
theorem zqH (l:OpenLaw)(args:List WData):l.row.toRowW.claim.post args (.bool true) args=true:=
 postW_of (r:=l.row.toRowW) (X:=(true==true))
  (show WShape.has [] (.bool true) .bool=true by first|rfl|decide|simp[WShape.has,WShape.arms,WShape.armsAll])
  (show(WTm.eq .res (.lit (.bool true))).value [] {args:=args,res:=some (.bool true),after:=args}=some (.bool (true==true))from w_eq_bool (w_res rfl) w_lit) rfl
theorem attach_call {l:OpenLaw}{n:Nat}{q:Program}{loose:List Str}{XP:(Str->Option Value)->Heap->Prop}{YP:World->Heap->Prop}{d:DefRec}
  (hn:l.most=some n) (hdf:d.params.defaults=[])
  (call : ∀ (w : World) (s₀ s₁ : Shared) (mg mb : Str -> Option Value) (fa : Addr) (o : Obj) (pm cd doc : Value) (a : Addr) (vs : List Value) (ns : List Int),
   Ground q loose [] XP w s₀ mg mb s₁.heap->YP w s₁.heap->
   s₁.heap.get? fa=some o->o.data= .func (docDef d.name d.params d.body d.scope pm cd doc)->s₁.heap.CodeRec cd d.name->mg d.name=some (.ref fa)->
   s₁.heap.get? a=some {cls:= .type "list",data:= .seq vs.toArray}->IntsAre vs ns->ns.length<=n->s₁.gens= #[]->
   codeAny (model l.prog w) callerA (.call (.ref fa) ⟨[.ref a],[]⟩) (fun r s'=>r= .ok (.ret (.bool true))/\OldK s₁.heap s'.heap/\s'.os=s₁.os/\AllBare s'.gens) s₁):
  WalkO q loose XP YP l.row.toRowW d [] (fun f vs=>PySem.call f vs):=by
 intro w s₀ s₁ mg mb G Y fa o pm cd doc dV kV ho hd hcd hD hmg hg args vals as hpre hlay hrd hwl hlo;obtain rfl:dV= .none:=Dflts.none hD hdf;obtain rfl:kV= .none:=Dflts.noKw hD;obtain⟨a,vs,ns,rfl,rfl,hobj,hints,hlen⟩:=zqr hn hpre hwl;refine enter_call (codeAny_mono (call w s₀ s₁ mg mb fa o pm cd doc a vs ns G Y ho (fd_plain hd) hcd hmg hobj hints hlen hg) fun r s' hq=>?_);obtain⟨rfl,h2,h3,h4⟩:=hq;exact⟨.inl ⟨.bool true,.bool true,[],rfl,fun _=>rfl,.bool true,zqH l _,fun _=>⟨List.Pairwise.nil,fun _ hm=>(nomatch hm)⟩⟩,h2,h3,h4⟩
end Att
namespace L2
open PyProof.Rows PySem PySem.Spec
variable {w:World} {K:W.Frag} {mg mb:Str->Option Value} {CX:World->CXT} {a f b:Addr} {fd:FuncData} {x qual:Str} {sp:Sp} {vs:List (Key×Value)} {ns:List Int} {l:W.OpenLaw} {q prog:Program} {loose ps:List Str} {XP:(Str->Option Value)->Heap->Prop} {YP:World->Heap->Prop} {d:DefRec} {X:Cx} {oc u:Value} {osl:Array (Option Value)} {H H':Hp} {xs:List (List Key×Addr×Value)} {o:Option V} {y:V} {kvs:List (List Key×V)} {ks:List Key} {Q E:Value->Shared->Prop} {h':Heap} {A:Around} {s:Shared} {pins:List (Addr×Obj)}
theorem zm1:∀{vs:List Value} {ns:List Int},IntsAre vs ns->Vals (ns.map V.int) vs
 |_,_,.nil=> .nil
 |_,_,.cons n t h=> .cons ⟨t,rfl⟩ (zm1 h)
noncomputable def Only (H:Hp):Prop:=∀b,H b=none\/∃o xs,H b=some (.frz o (.lst xs))
theorem law_call {P:Program}{CX:CXT}{k:Nat}{fa a:Addr}{s₁:Shared}{vs:List Value}
  (KX:K.In s₁.heap) (hns:s₁.heap.Ns mainGlobals mg) (hb:s₁.heap.Ns builtinsNs mb) (hbb:∀x:Str,x≠"__name__"->mb x=bootBuiltins x) (hlim:s₁.heap.NoLimit) (hg:s₁.gens= #[])
  (ha:s₁.heap.get? a=some {cls:= .type "list",data:= .seq vs.toArray}) (hi:IntsAre vs ns) (hl:ns.length<=sizeLine) (hr:Room k callerA)
  (F:∀base:Heap,K.In base->base.Ns mainGlobals mg->FnOk P w K mg base CX k fa fd [x] sp) (hbind:∀(s:Shared) (u:Value),BindsTo s fd ⟨[u],[]⟩ [(x,u)])
  (hsp:∀H:Hp,Only H->SqL K H a (ns.map V.int)->sp [.ref a] H (fun v _=>v= .bl true) fun _ _ _=>False)
  (hCX:∀H e s',CX [] H s₁ (fun _ _ _=>False) e s'->False):
  codeAny (model P w) callerA (.call (.ref fa) ⟨[.ref a],[]⟩) (fun r s'=>r= .ok (.ret (.bool true))/\OldK s₁.heap s'.heap/\s'.os=s₁.os/\AllBare s'.gens) s₁:=by
 have rv:=zm1 hi;have lenV:=hi.length;have core:∀H:Hp,Only H->SqL K H a (ns.map V.int)->HOk P w H s₁.heap->(∀b,H b≠none->b=a)->(H a≠none->K.lookup a=none)->
   codeAny (model P w) callerA (.call (.ref fa) ⟨[.ref a],[]⟩) (fun r s'=>r= .ok (.ret (.bool true))/\OldK s₁.heap s'.heap/\s'.os=s₁.os/\AllBare s'.gens) s₁:=by
  intro H hO hS hok hA hK;have base_of:∀{b:Addr} {o:Obj},s₁.heap.get? b=some o->H b=none->(hidT s₁.heap H).get? b=some o:=fun e n=>hidT_get e n
  have noA:∀{b:Addr} {o:Obj} {es:Array DictEntry} {ep:Nat},s₁.heap.get? b=some o->o.data= .dict es ep->H b=none:=fun{b o es ep} e d=>by
   cases q:H b with
   |none=>rfl
   |some u=>
    have e':b=a:=hA b (by rw[q];simp);subst e';rw[ha]at e;cases e;have d':Data.seq vs.toArray _=Data.dict es ep:=d;cases d'
  have nsK:∀{b:Addr} {m:Str->Option Value},s₁.heap.Ns b m->(hidT s₁.heap H).Ns b m:=fun{b m} ⟨o,es,ep,e,d,r⟩=>⟨o,es,ep,base_of e (noA e d),d,r⟩
  have hKb:K.In (hidT s₁.heap H):=fun b o e=>base_of (KX b o e) (by
   cases q:H b with
   |none=>rfl
   |some u=>
    have e':b=a:=hA b (by rw[q];simp);subst e';rw[hK (by rw[q];simp)]at e;cases e)
  have hM:Mod K mg (hidT s₁.heap H):=⟨hKb,nsK hns,⟨mb,nsK hb,hbb⟩,let⟨mc,h1,h2⟩:=hlim;⟨mc,nsK h1,h2⟩⟩;have e0:Env0 P w K mg (hidT s₁.heap H) callerA [] s₁ H:=⟨rfl,hM,fun b o e=>of_hidT e,Nat.le_of_eq (zrQ _ _),trivial,fun b hb=>absurd (show b∈([]:List Addr)from hb) (by simp),hok,.of_eq hg⟩;refine codeAny_mono ((F _ hKb (nsK hns)).run callerA [] s₁ H ⟨[.ref a],[]⟩ [.ref a] [.ref a] _ _ hr e0 (hbind s₁ (.ref a)) (.cons rfl .nil) (hsp H hO hS)) fun r s' h=>?_
  cases r with
  |error e=>exact(hCX H e s' h).elim
  |ok fl=>
   cases fl with
   |next=>exact False.elim h
   |brk=>exact False.elim h
   |cont=>exact False.elim h
   |ret u=>
    obtain⟨v,H',os,bare,un,hok',r',q⟩:=h;have q':v= .bl true:=q;subst q';obtain rfl:u=Value.bool true:=r';refine⟨rfl,OldK.of_keep fun b o e=>?_,os,bare⟩;cases q:H b with
    |none=>exact un.keep b o e q (by intro z;exact absurd (show b∈([]:List Addr)from z) (by simp)) (by simp)
    |some u=>
     rcases hO b with z|⟨ob,xs,z⟩
     ·rw[q]at z;cases z
     ·have z2:=un.frzs b ob _ z;obtain⟨e1,_⟩:=hok b _ z;obtain⟨e2,_⟩:=hok' b _ z2;rw[e]at e1;cases e1;exact e2
 cases hk:K.lookup a with
 |some o=>
  have e:=KX a o hk;rw[ha]at e;cases e;refine core (fun _=>none) (fun _=> .inl rfl) (.inr ⟨_,vs.toArray,_,hk,rfl,rfl,rfl,by rw[qaO,lenV];exact hl,by simpa using rv⟩) (fun b u z=>by have z':(none:Option HO)=some u:=z;cases z') (fun b z=>absurd rfl z) fun z=>absurd rfl z
 |none=>
  refine core (fun b=>if b=a then some (.frz {cls:= .type "list",data:= .seq vs.toArray} (.lst (ns.map V.int)))else none) (fun b=>?_) (.inl (.inr ⟨{cls:= .type "list",data:= .seq vs.toArray},if_pos rfl⟩)) (fun b u z=>?_) (fun b z=>?_) fun _=>hk
  ·by_cases hb:b=a
   ·exact .inr ⟨_,_,if_pos hb⟩
   ·exact .inl (if_neg hb)
  ·by_cases hb:b=a
   ·have z':=(if_pos hb).symm.trans z;cases z';subst hb;exact⟨ha,by rw[qa3];exact hl,vs,_,rv,ha⟩
   ·have z':=(if_neg hb).symm.trans z;cases z'
  ·by_cases hb:b=a
   ·exact hb
   ·exact absurd (if_neg hb) z
theorem walk_of {n k:Nat}{K:Params->W.Frag}{sp:World->Sp}
  (hn:l.most=some n) (hn2:n<=sizeLine) (hdf:d.params.defaults=[]) (hr:Room k callerA)
  (hY:∀(w:World) (h:Heap),YP w h->(K w.params).In h)
  (F : ∀ (w : World) (mg : Str -> Option Value) (fa : Addr) (h : Heap), (K w.params).In h -> h.Ns mainGlobals mg -> mg d.name = some (.ref fa) ->
   ∃fd:FuncData,(∀(s:Shared) (u:Value),BindsTo s fd ⟨[u],[]⟩ [(x,u)])/\
    ∀base:Heap,(K w.params).In base->base.Ns mainGlobals mg->FnOk l.prog w (K w.params) mg base (CX w) k fa fd [x] (sp w))
  (hsp:∀(w:World) (H:Hp) (a:Addr) (ns:List Int),ns.length<=n->Only H->SqL (K w.params) H a (ns.map V.int)->sp w [.ref a] H (fun v _=>v= .bl true) fun _ _ _=>False)
  (hCX:∀(w:World) (H:Hp) (s:Shared) (e:Value) (s':Shared),CX w [] H s (fun _ _ _=>False) e s'->False):
  W.WalkO q loose XP YP l.row.toRowW d [] (fun f vs=>PySem.call f vs):=by
 refine Att.attach_call hn hdf fun w s₀ s₁ mg mb fa o pm cd doc a vs ns G Y ho hd hcd hmg hobj hints hlen hg=>?_
 have KX:=hY w _ Y;obtain⟨fd,hb,hF⟩:=F w mg fa _ KX G.T.g hmg;exact law_call KX G.T.g G.T.b G.T.builtins G.T.nolimit hg hobj hints (qak hlen hn2) hr hF hb (fun H hO hS=>hsp w H a ns hlen hO hS) fun H e s'=>hCX w H s₁ e s'
noncomputable def zgQ (s:Stmt):Arguments:=match s with
 | .FunctionDef _ a _ _ _ _ _ _ _ _=>a
 |_=>{posonlyargs:=[],args:=[],vararg:=none,kwonlyargs:=[],kw_defaults:=[],kwarg:=none,defaults:=[]}
noncomputable def zca (s:Stmt):List Stmt:=match s with
 | .FunctionDef _ _ b _ _ _ _ _ _ _=>b
 |_=>[]
noncomputable def zaA (s:Stmt):Scope:=match s with
 | .FunctionDef _ _ _ _ _ _ sc _ _ _=>sc
 |_=>{kind:= .function,names:=[],isGenerator:=false,isCoroutine:=false}
noncomputable abbrev CX0:CXT:=fun _ _ _ _ _ _=>False
noncomputable abbrev E0:XK:=fun _ _ _=>False
theorem pass0:zp4 CX0 X E0:=fun _ _ _ _ _ _ _ h=>h.elim
structure Fun (K:W.Frag) (x qual:Str) (st:Stmt) (f:Addr) (fd:FuncData):Prop where
 ex:∃(oc:Value) (od:Option Addr) (kV doc pm:Value) (an:Option Addr) (cdv ct:Value) (osl:Array (Option Value)),
  fd=W.fnOf x qual (zgQ st) (zca st) (zaA st) .none kV doc pm an cdv ct/\K.lookup f=some ⟨oc,od,.func fd,osl⟩/\W.codeIn K cdv qual=true
 kp:W.keepIn K (.ref f)=true
section
variable {P:Program} {w:World} {K:W.Frag} {mg:Str->Option Value} {base:Heap}
theorem Fun.ok {st:Stmt}{N ps:List Str}{k:Nat}(F:Fun K x qual st f fd)(S:FnScope N ps (zaA st))(len:∀vs H Q E,sp vs H Q E->vs.length=ps.length)
  (hbody : ∀ (cdv : Value) (A : Around) (outer : List Env) (s : Shared) (H : Hp) (vs : List V) (Q : VK) (E : XK), Room k (A.deeper (envOfC qual (zaA st) s.heap.objs.size f cdv)) -> sp vs H Q E ->
   ∃t,PSs (cxOf CX0 P w K mg base N qual (zaA st) f cdv A outer s H E).nox (zca st) t/\t {nx:=fun _ H'=>Q .non H',rt:=Q} (start N vs) H):FnOk P w K mg base CX0 (k+1) f fd ps sp:=by
 obtain⟨oc,od,kV,doc,pm,an,cdv,ct,osl,rfl,lk,hcd⟩:=F.ex;refine fn_of lk hcd S len fun A outer s H vs Q E hr hsp=>?_
 obtain⟨t,h,q⟩:=hbody cdv A outer s H vs Q E hr hsp;exact⟨t,h.nox,q⟩
theorem Fun.binds {st:Stmt}(F:Fun K x qual st f fd)
  (h:∀(kV doc pm:Value) (an:Option Addr) (cdv ct:Value) (us:List Value),us.length=ps.length->bindArgs (W.fnOf x qual (zgQ st) (zca st) (zaA st) .none kV doc pm an cdv ct) ⟨us,[]⟩=pure (ps.zip us)):Binds K fd ps []:=by
 obtain⟨oc,od,kV,doc,pm,an,cdv,ct,osl,rfl,lk,hcd⟩:=F.ex;exact .all (h kV doc pm an cdv ct)
theorem fun_mk {st:Stmt}{od an:Option Addr}{kV doc pm cdv ct:Value}(l:K.lookup f=some ⟨oc,od,.func (W.fnOf x qual (zgQ st) (zca st) (zaA st) .none kV doc pm an cdv ct),osl⟩)
  (c:W.codeIn K cdv qual=true) (k:W.keepIn K (.ref f)=true):Fun K x qual st f (W.fnOf x qual (zgQ st) (zca st) (zaA st) .none kV doc pm an cdv ct):=⟨⟨oc,od,kV,doc,pm,an,cdv,ct,osl,rfl,l,c⟩,k⟩
end
noncomputable def Same (H H':Hp):Prop:=∀b o,H b=some o->H' b=some o
theorem Same.seq {xs:List V}(e:Same H H')(h:SqL K H a xs):SqL K H' a xs:=by
 rcases h with(h|⟨o,h⟩)|h
 ·exact .inl (.inl (e _ _ h))
 ·exact .inl (.inr ⟨o,e _ _ h⟩)
 ·exact .inr h
section
variable {κ:Type} [DecidableEq κ]
noncomputable def valV (kvs:List (κ×V))(k:κ):Option V:=(kvs.find? fun kv=>decide (kv.1=k)).map (·.2)
noncomputable def putK (kvs:List (κ×V))(k:κ)(v:V):List (κ×V):=
 if(kvs.any fun kv=>decide (kv.1=k))=true then kvs.map (fun kv=>if kv.1=k then(kv.1,v)else kv)else kvs++[(k,v)]
theorem zjx {p:κ×V}{r:List (κ×V)}{k:κ}(e:p.1=k):valV (p::r) k=some p.2:=by simp[valV,qbt,e]
theorem zig {p:κ×V}{r:List (κ×V)}{k:κ}(e:¬p.1=k):valV (p::r) k=valV r k:=by simp[valV,qbt,e]
theorem zoe (k:κ):∀kvs:List (κ×V),(kvs.any fun kv=>decide (kv.1=k))=(valV kvs k).isSome
 |[]=>rfl
 |p::r=>by
  rw[qbo]
  by_cases e:p.1=k
  ·simp only[zjx e,qa7 e,Bool.true_or,Option.isSome_some]
  ·rw[zig e,qaa e,Bool.false_or];exact zoe k r
theorem zjK (kvs:List (κ×V))(k:κ)(v:V):(putK kvs k v).length<=kvs.length+1:=by
 unfold putK
 split
 ·rw[qa3];lia
 ·rw[qa2,qa5,qa6];lia
theorem RelO.isSome_eq {u:Option Value}(r:RelO o u):o.isSome=u.isSome:=by
 cases o with
 |none=>cases u with
  |none=>rfl
  |some _=>exact(show False from r).elim
 |some _=>cases u with
  |none=>exact(show False from r).elim
  |some _=>rfl
theorem KV.val {kvs:List (κ×V)}{vs:List (κ×Value)}(r:KV kvs vs)(k:κ):RelO (valV kvs k) (valueAt vs k):=by
 unfold KV at r
 induction r with
 |nil=>exact True.intro
 | @cons p q ps qs h t ih=>
  obtain⟨h1,h2⟩:=h
  by_cases e:p.1=k
  ·have e':q.1=k:=h1.symm.trans e;have b:valueAt (q::qs) k=some q.2:=by simp[valueAt,qbt,e']
   rw[zjx e,b];exact h2
  ·have e':¬q.1=k:=fun z=>e (h1.trans z)
   have b:valueAt (q::qs) k=valueAt qs k:=by simp[valueAt,qbt,e']
   rw[zig e,b];exact ih
theorem KV.any {kvs:List (κ×V)}{vs:List (κ×Value)}(r:KV kvs vs)(k:κ):(kvs.any fun kv=>decide (kv.1=k))=vs.any fun kv=>decide (kv.1=k):=by
 unfold KV at r
 induction r with
 |nil=>rfl
 |cons h t ih=>rw[qbo,qbo,ih,h.1]
theorem KV.repl {kvs:List (κ×V)}{vs:List (κ×Value)}(r:KV kvs vs)(k:κ)(ry:RelV y u):
  KV (kvs.map fun kv=>if kv.1=k then(kv.1,y)else kv) (vs.map fun kv=>if kv.1=k then(kv.1,u)else kv):=by
 unfold KV at r ⊢
 induction r with
 |nil=>exact .nil
 | @cons p q ps qs h t ih=>
  rw[qbj,qbj];refine .cons ?_ ih;obtain⟨h1,h2⟩:=h
  by_cases e:p.1=k
  ·rw[if_pos e,if_pos (h1.symm.trans e)];exact⟨h1,ry⟩
  ·rw[if_neg e,if_neg (fun z=>e (h1.trans z))];exact⟨h1,h2⟩
theorem KV.put {kvs:List (κ×V)}{vs:List (κ×Value)}(r:KV kvs vs)(k:κ)(ry:RelV y u):KV (putK kvs k y) (stored vs k u):=by
 unfold putK stored;rw[r.any k]
 by_cases e:(vs.any fun kv=>decide (kv.1=k))=true
 ·rw[if_pos e,if_pos e];exact r.repl k ry
 ·rw[if_neg e,if_neg e];exact Paired.snoc r ⟨rfl,ry⟩
theorem KV.length {kvs:List (κ×V)}{vs:List (κ×Value)}(r:KV kvs vs):kvs.length=vs.length:=qac r
end
theorem kV_is {P:Program}{k:Key}(r:RelV (kV k) u):(zcm P w).is k u=true:=by
 cases k with
 |inl i=>obtain⟨t,e⟩:=(show ∃t,u=Value.int i t from r);subst e;exact zny P w i t
 |inr x=>obtain⟨t,e⟩:=(show ∃t,u=Value.str x t from r);subst e;exact znE P w x t
theorem zm6 {P:Program}:∀{ks:List Key} {us:List Value},Vals (ks.map kV) us->ItemsAre (zcm P w) ks us
 |[],_,r=>by rw[List.map_nil]at r;cases r;exact .nil
 |k::ks,_,r=>by
  rw[qbj]at r;cases r with
  |cons h t=>exact .cons (kV_is h) (zm6 t)
noncomputable abbrev KT (H:Hp):List (List Key×V)->List (List Key×Addr×Value)->Prop:=Paired fun p q=>p.1=q.1/\H q.2.1=some (.tup (p.1.map kV))/\RelV p.2 q.2.2
theorem KT.val (r:KT H kvs xs)(k:List Key):RelO (valV kvs k) ((atKey xs k).map (·.2)):=by
 induction r with
 |nil=>exact True.intro
 | @cons p q ps qs h t ih=>
  obtain⟨h1,_,h2⟩:=h
  by_cases e:p.1=k
  ·have e':q.1=k:=h1.symm.trans e;have b:atKey (q::qs) k=some q.2:=by simp[atKey,qbt,e']
   rw[zjx e,b];exact h2
  ·have e':¬q.1=k:=fun z=>e (h1.trans z)
   have b:atKey (q::qs) k=atKey qs k:=by simp[atKey,qbt,e']
   rw[zig e,b];exact ih
theorem KT.repl (r:KT H kvs xs)(k:List Key)(ry:RelV y u):
  KT H (kvs.map fun kv=>if kv.1=k then(kv.1,y)else kv) (xs.map (putAt k u)):=by
 induction r with
 |nil=>exact .nil
 | @cons p q ps qs h t ih=>
  rw[qbj,qbj];refine .cons ?_ ih;obtain⟨h1,h2,h3⟩:=h;unfold putAt
  by_cases e:p.1=k
  ·rw[if_pos e,if_pos (h1.symm.trans e)];exact⟨h1,h2,ry⟩
  ·rw[if_neg e,if_neg (fun z=>e (h1.trans z))];exact⟨h1,h2,h3⟩
theorem KT.put (r:KT H kvs xs)(k:List Key)(hb:H b=some (.tup (k.map kV)))(ry:RelV y u):
  KT H (putK kvs k y) (storedH xs k b u):=by
 have e:(kvs.any fun kv=>decide (kv.1=k))=(atKey xs k).isSome:=by
  rw[zoe,(r.val k).isSome_eq,Option.isSome_map]
 unfold putK storedH;rw[e]
 by_cases q:(atKey xs k).isSome=true
 ·rw[if_pos q,if_pos q];exact r.repl k ry
 ·rw[if_neg q,if_neg q];exact Paired.snoc r ⟨rfl,hb,ry⟩
theorem KT.keeps (r:KT H kvs xs)(ht:∀b ys,H b=some (.tup ys)->H' b=some (.tup ys)):KT H' kvs xs:=
 Paired.mapP r fun _ _ z=>⟨z.1,ht _ _ z.2.1,z.2.2⟩
section
variable {P:Program} {w:World} {H:Hp} {h:Heap} {a:Addr}
theorem rd_of {u:HO}(ok:HOk P w H h)(e:Rd H a u):ObjOk P w H h a u:=e.ok ok
theorem dk_rd {kvs:List (Key×V)}(ok:HOk P w H h)(e:Rd H a (.dK kvs)):kvs.length<=sizeLine/\(a==sysModules)=false/\∃vs,KV kvs vs/\h.DictOf (zcm P w) a vs:=
 show ObjOk P w H h a (.dK kvs)from rd_of ok e
theorem dk_of {kvs:List (Key×V)}(ok:HOk P w H h)(e:H a=some (.dK kvs)):kvs.length<=sizeLine/\(a==sysModules)=false/\∃vs,KV kvs vs/\h.DictOf (zcm P w) a vs:=dk_rd ok (.inl e)
theorem zoC (ok:HOk P w H h)(e:H a=some (.tup (ks.map kV))):(tupleKind (zcm P w)).is h ks a:=by
 obtain⟨_,its,r,o,h1,h2,n,h3⟩:=(show ObjOk P w H h a (.tup (ks.map kV))from ok a _ e);exact⟨o,its.toArray,n,h1,h2,h3,by simpa using zm6 r⟩
theorem dt_rd (ok:HOk P w H h)(e:Rd H a (.dT kvs)):kvs.length<=sizeLine/\(a==sysModules)=false/\
  ∃xs,KT H kvs xs/\h.DictOfH (tupleKind (zcm P w)) a xs:=by
 obtain⟨z,y,xs,r,o,es,ep,h1,h2,h3,h4,h5⟩:=(show ObjOk P w H h a (.dT kvs)from rd_of ok e);refine⟨z,y,xs,r,o,es,ep,h1,h2,h3,h4,fun x hx=>?_,h5⟩;have all:∀{l:List (List Key×V)} {m:List (List Key×Addr×Value)},KT H l m->∀x∈m,(tupleKind (zcm P w)).is h x.1 x.2.1:=by
  intro l m q
  induction q with
  |nil=>intro x hx;exact nomatch hx
  | @cons p q ps qs hq t ih=>
   intro x hx;rcases qao.mp hx with e|hx
   ·subst e;exact zoC ok (by rw[<-hq.1];exact hq.2.1)
   ·exact ih x hx
 exact all r x hx
theorem dt_of (ok:HOk P w H h)(e:H a=some (.dT kvs)):kvs.length<=sizeLine/\(a==sysModules)=false/\
  ∃xs,KT H kvs xs/\h.DictOfH (tupleKind (zcm P w)) a xs:=dt_rd ok (.inl e)
end
noncomputable def DGet (H:Hp)(a:Addr)(y:V)(r:Option V):Prop:=
 (∃kvs k,Rd H a (.dK kvs)/\y=kV k/\r=valV kvs k)\/∃kvs k b,Rd H a (.dT kvs)/\y= .ref b/\H b=some (.tup (k.map kV))/\r=valV kvs k
noncomputable def DPut (H:Hp)(a:Addr)(y v:V)(H':Hp):Prop:=
 (∃kvs k,H a=some (.dK kvs)/\y=kV k/\kvs.length<sizeLine/\H'=upd H a (.dK (putK kvs k v)))\/
 ∃kvs k b,H a=some (.dT kvs)/\y= .ref b/\H b=some (.tup (k.map kV))/\kvs.length<sizeLine/\H'=upd H a (.dT (putK kvs k v))
theorem DPut.k {kvs:List (Key×V)}{k:Key}{v:V}(e:H a=some (.dK kvs))(hl:kvs.length<sizeLine):DPut H a (kV k) v (upd H a (.dK (putK kvs k v))):= .inl ⟨kvs,k,e,rfl,hl,rfl⟩
section
variable {X:Cx} {pins:List (Addr×Obj)} {σ:St} {H:Hp} {s:Shared} {a:Addr} {y v:V} {u r:Value} {o:Option V} {A:Around} {E:Value->Shared->Prop}
theorem Inv.big (I:Inv X pins σ H s):sysModules<s.heap.objs.size:=by
 have h:mainGlobals<s.heap.objs.size:=(I.mod.glob.keeps I.bk).lt;exact Nat.lt_trans (by decide) h
theorem zrj (hu:A.units+1<cLine)(I:Inv X pins σ H s)(g:DGet H a y (some v))(ry:RelV y u)(h:∀w' s',Inv X pins σ H s'->RelV v w'->Q w' s'):
  wpAny (model X.prog X.w) A (getItem (.ref a) u) Q E s:=by
 rcases g with⟨kvs,k,e,ey,l⟩|⟨kvs,k,b,e,ey,eb,l⟩
 ·subst ey;obtain⟨z,hd,vs,rel,dd⟩:=dk_rd I.hok e;obtain⟨w',hw,rw'⟩:=RelO.some_of (v:=v) (o:=valueAt vs k) (by rw[l];exact rel.val k);exact wpAny_getItem_of (kV_is ry) dd.mapOf hw (h w' _ (I.tok _) rw')
 ·subst ey;cases(show u=Value.ref b from ry);obtain⟨z,hd,xs,rel,dd⟩:=dt_rd I.hok e;obtain⟨w',hw,rw'⟩:=RelO.some_of (v:=v) (o:=(atKey xs k).map (·.2)) (by rw[l];exact rel.val k);obtain⟨p,hp,hp2⟩:=Option.map_eq_some_iff.mp hw;refine wpAny_getItem_heap (qbu hu) (zoC I.hok eb) dd hp ?_;rw[hp2];exact h w' _ (I.tok _) rw'
theorem d_notIn (hu:A.units+1<cLine)(I:Inv X pins σ H s)(g:DGet H a y o)(ry:RelV y u)(h:∀s',Inv X pins σ H s'->Q (.bool (!o.isSome)) s'):
  wpAny (model X.prog X.w) A (compareOp .NotIn u (.ref a)) Q E s:=by
 rcases g with⟨kvs,k,e,ey,l⟩|⟨kvs,k,b,e,ey,eb,l⟩
 ·subst ey;obtain⟨z,hd,vs,rel,dd⟩:=dk_rd I.hok e;refine wpAny_notIn_of (kV_is ry) hd dd.mapOf ?_;rw[<-(rel.val k).isSome_eq,<-l];exact h _ (I.tok _)
 ·subst ey;cases(show u=Value.ref b from ry);obtain⟨z,hd,xs,rel,dd⟩:=dt_rd I.hok e;refine wpAny_notIn_heap (qbu hu) (zoC I.hok eb) hd dd ?_;have q:=(rel.val k).isSome_eq;rw[Option.isSome_map]at q;rw[<-q,<-l];exact h _ (I.tok _)
theorem zq4 {t':Nat}{ob:HO}(I:Inv X pins σ H s)(mu:Mut (H a))(hs:Heap.SameBut a s.heap h')(he:∃q,h'.get? a=some q)(new:ObjOk X.prog X.w (upd H a ob) h' a ob):
  Inv X pins σ (upd H a ob) {s with heap:=h',toks:=t'}:=
 I.write (x:=a) (e:=a) mu (.inl rfl) (fun b q hb z=>(hs.2 b hb).trans z) he new
theorem dk_new {P:Program}{kvs:List (Key×V)}(z:kvs.length<=sizeLine)(hd:(a==sysModules)=false)(rel:KV kvs vs)(dd:h'.DictOf (zcm P w) a vs):
  ObjOk P w H' h' a (.dK kvs):=⟨z,hd,vs,rel,dd⟩
theorem zqv {Q:Unit->Shared->Prop}(hu:A.units+1<cLine)(I:Inv X pins σ H s)(g:DPut H a y v H')(ry:RelV y u)(rv:RelV v r)(h:∀s',Inv X pins σ H' s'->Q () s'):
  wpAny (model X.prog X.w) A (setItem (.ref a) u r) Q E s:=by
 rcases g with⟨kvs,k,e,ey,l,eH⟩|⟨kvs,k,b,e,ey,eb,l,eH⟩
 ·subst ey eH;obtain⟨z,hd,vs,rel,dd⟩:=dk_of I.hok e;have hz:vs.length<=sizeLine:=by rw[<-rel.length];exact z
  have hl:(putK kvs k v).length<=sizeLine:=by have:=zjK kvs k v;lia
  refine wpAny_setItem_pairs (hsz:=hz) (kV_is ry) dd fun h' dd' hs=>h _ ?_
  have he:∃q,h'.get? a=some q:=let⟨q,_,_,hq,_⟩:=dd';⟨q,hq⟩;exact zq4 I (by rw[e];exact True.intro) hs he (dk_new hl hd (rel.put k rv) dd')
 ·subst ey eH;cases(show u=Value.ref b from ry);obtain⟨z,hd,xs,rel,dd⟩:=dt_of I.hok e;have hz:xs.length<=sizeLine:=by rw[<-qac rel];exact z
  have hl:(putK kvs k v).length<=sizeLine:=by have:=zjK kvs k v;lia
  refine wpAny_setItem_heap (hsz:=hz) (qbu hu) (zoC I.hok eb) dd fun h' dd' hs=>h _ ?_
  obtain⟨q,es,ep,hq,h2,h3,h4,_,h5⟩:=dd';refine zq4 I (by rw[e];exact True.intro) hs ⟨q,hq⟩ ⟨hl,hd,_,(rel.put k eb rv).keeps fun c ys ec=>?_,q,es,ep,hq,h2,h3,h4,h5⟩;rw[zav (ne_of ec e (fun z=>nomatch z))];exact ec
end
noncomputable def NoSl (i:Expr):Prop:=∀ov iv,subscripted i false ov iv=operate [ov,iv] (getItem ov iv)
theorem subD_of {env:Env}{value slice:Expr}{pos:Pos}{T id:String}
  (hl:typeLookup (.type T) "__getitem__"=pure (some (.builtin id))) (hs:NoSl slice)
  (h:wpAny (model prog w) A (eval value env) (fun o s₁=>wpAny (model prog w) A (eval slice env) (fun i s₂=>s₂.TypeIs o T/\wpAny (model prog w) A (getItem o i) Q E s₂) E s₁) E s):
  wpAny (model prog w) A (eval (.Subscript value slice pos) env) Q E s:=by
 refine Subscript_ (qau h (fun o s₁ h₁=>qau h₁ (fun i s₂ h₂=>?_) fun _ _ x=>x) fun _ _ x=>x);obtain⟨hT,h₂⟩:=h₂;unfold subscriptTail;refine qaz ?_;rw[getitemInPython_of_ne hT.not_modules];refine qaz (wpAny_specialOf hT hl ?_);have fin:wpAny (model prog w) A (subscripted slice false o i) (fun r s₃=>wpAny (model prog w) A (letTemporaryGo value o r>>=fun _=>pure r) Q E s₃) E s₂:=by
  rw[hs o i];exact wpAny_operating (qau h₂ (fun r s₃ h₃=>qaz (wpAny_letTemporaryGo (qaC h₃))) fun _ _ x=>x)
 first
  |exact qaC (qaz fin)
  |exact qaz (qaC (qaz fin))
  |exact qaz fin
theorem znU {σ:St}(I:Inv X pins σ H s)(g:DGet H a y o):s.TypeIs (.ref a) "dict":=by
 rcases g with⟨kvs,k,e,_,_⟩|⟨kvs,k,b,e,_,_,_⟩
 ·obtain⟨_,_,vs,_,dd⟩:=dk_rd I.hok e;exact dd.typeIs
 ·obtain⟨_,_,xs,_,dd⟩:=dt_rd I.hok e;exact dd.typeIs
noncomputable def tDGet (td ty:TE):TE:=fun σ H Q=>td σ H fun x H1=>ty σ H1 fun y H2=>∃a v,x= .ref a/\DGet H2 a y (some v)/\Q v H2
noncomputable def tDNotIn (ty td:TE):TE:=fun σ H Q=>ty σ H fun y H1=>td σ H1 fun x H2=>∃a o,x= .ref a/\DGet H2 a y o/\Q (.bl (!o.isSome)) H2
noncomputable def sDPut (td ty tv:TE):TS:=fun D σ H=>tv σ H fun v H1=>td σ H1 fun x H2=>ty σ H2 fun y H3=>∃a H4,x= .ref a/\DPut H3 a y v H4/\D.nx σ H4
section
variable {X:Cx} {o i e value:Expr} {pos pos' tpos:Pos} {td ty tv:TE}
theorem pe_dget (hu:X.A.units+1<cLine)(ho:PE X o td)(hi:PE X i ty)(hs:NoSl i):PE X (.Subscript o i pos) (tDGet td ty):=by
 intro pins s σ H Q I h;refine subD_of PySem.F.slot_dict_getitem.lookup hs (thn (ho pins s σ H _ I h) fun u s1 ⟨x,H1,I1,rx,q1⟩=>thn (hi pins s1 σ H1 _ I1 q1) fun iv s2 ⟨y,H2,I2,ry,a,v,ex,g,q2⟩=>?_);subst ex;obtain rfl:u=Value.ref a:=rx;exact⟨znU I2 g,zrj hu I2 g ry fun w' s3 I3 rw'=>⟨v,H2,I3,rw',q2⟩⟩
theorem zp6 (hu:X.A.units+1<cLine)(hi:PE X i ty)(ho:PE X o td):PC X .NotIn i o (tDNotIn ty td):=by
 intro pins s σ H Q I h;refine thn (hi pins s σ H _ I h) fun iv s1 ⟨y,H1,I1,ry,q1⟩=>thn (ho pins s1 σ H1 _ I1 q1) fun u s2 ⟨x,H2,I2,rx,a,ov,ex,g,q2⟩=>?_
 subst ex;obtain rfl:u=Value.ref a:=rx;exact d_notIn hu I2 g ry fun s3 I3=>⟨.bl (!ov.isSome),H2,I3,rfl,q2⟩
theorem ps_dput (hu:X.A.units+1<cLine)(ho:PE X o td)(hi:PE X i ty)(hv:PE X value tv)(hs:swapsWith value (some (.Subscript o i pos')) pos.line X.env=pure false):
  PS X (.Assign [.Subscript o i pos'] value pos) (sDPut td ty tv):=by
 intro pins s σ H D I h;refine wpAny_Assign_Subscript (thn (hv pins s σ H _ I h) fun r s1 ⟨v,H1,I1,rv,q1⟩=>thn (ho pins s1 σ H1 _ I1 q1) fun u s2 ⟨x,H2,I2,rx,q2⟩=>thn (hi pins s2 σ H2 _ I2 q2) fun iv s3 ⟨y,H3,I3,ry,a,H4,ex,g,q3⟩=>?_) hs;subst ex;obtain rfl:u=Value.ref a:=rx;exact zqv hu I3 g ry rv fun s4 I4=>⟨σ,H4,I4,q3⟩
end
theorem dk_empty {P:Program}(h:Heap)(hb:sysModules<h.objs.size):ObjOk P w H (h.push {cls:= .type "dict",data:= .dict #[]}) h.objs.size (.dK []):=
 ⟨qbv _,qab.mpr (Ne.symm (qah hb)),[],.nil,Heap.DictOf.new h⟩
noncomputable def tDNewK:TE:=fun _ H Q=>∀p,H p=none->Q (.ref p) (upd H p (.dK []))
section
variable {X:Cx} {pos:Pos}
theorem pe_dnewK:PE X (.Dict [] [] pos) tDNewK:=fun pins s σ H Q I h=>
 wpAny_Dict_empty ⟨.ref s.heap.objs.size,_,I.laid (a:=s.heap.objs.size) (o:= .dK []) (t':=s.toks) (fun _ _ q=>qaE _ q) (qaJ _) (dk_empty s.heap I.big),rfl,h _ (I.hok.fresh (qaJ _))⟩
end
end L2
namespace M
open L2 PySem
variable {G G' H:Hp} {a p l:Addr} {o:Obj} {xs ys:List V} {ks:List (List Int)} {A A':List Addr} {K:W.Frag} {x v:V} {d:D} {ds es:List D} {i:Nat} {c:Ch} {t:T} {ov:Option (Option V)} {s:Sl} {ρ ρ':R} {e:Expr} {b:Bool} {f:D->D->Option D} {ma:ME} {op:Operator} {r:V->Hp->VK->Prop} {g:D->Option D}
inductive D where
 |non|bl (b:Bool)|int (i:Int)|str (x:Str)|lst (ds:List D)|tup (ds:List D)|scr (ns:List Int)|exc (c:Str)|dic (ks:List Int) (ds:List D)|dit (ks:List (List Int)) (ds:List D)
noncomputable def znL (a C:Addr)(h:Heap):Prop:=∃o,h.get? a=some o/\o.cls= .ref C
noncomputable def kI (n:Int):Key:=Sum.inl n
noncomputable def kn (a:Addr)(o:Obj):HO:= .ext (fun h=>h.get? a=some o)
noncomputable def hI:Key->Int
 | .inl k=>hashInt k
 | .inr _=>0
noncomputable def DtN (o:Obj)(xs:List (List Key×Addr×Value)):Prop:=o.ExactDict/\(∃es ep,o.data= .dict es ep/\es.toList=xs.map fun x=>⟨reduceHash (Builtin.Tuple.tupleHashOf (x.1.map hI)),.ref x.2.1,x.2.2⟩)/\(xs.map (·.1)).Nodup
structure DtI (G:Hp) (a:Addr) (o:Obj) (xs:List (List Key×Addr×Value)) (ks:List (List Int)) (ys:List (List Key×V)):Prop where
 sys:(a==sysModules)=false
 dn:DtN o xs
 len:ys.length<=sizeLine
 key:ys.map (·.1)=ks.map (·.map kI)
 kt:Paired (fun(p:List Key×V) (q:List Key×Addr×Value)=>p.1=q.1/\G q.2.1=some (.tup (p.1.map kV))/\RelV p.2 q.2.2) ys xs
mutual
noncomputable def RepD (K:W.Frag)(G:Hp)(v:V):D->Prop
 | .non=>v= .non
 | .bl b=>v= .bl b
 | .int i=>v= .int i
 | .str x=>v= .str x
 | .lst ds=>∃a xs,v= .ref a/\G a=some (.lst xs)/\RepL K G xs ds
 | .tup ds=>∃a xs,v= .ref a/\G a=some (.tup xs)/\RepL K G xs ds
 | .scr ns=>∃a,v= .ref a/\SqL K G a (ns.map V.int)
 | .exc c=>∃a C,v= .ref a/\W.nsIn K mainGlobals c=some (some (.ref C))/\G a=some (.ext (znL a C))
 | .dic ks ds=>∃a ys,v= .ref a/\Rd G a (.dK ys)/\ys.map (·.1)=ks.map kI/\RepL K G (ys.map (·.2)) ds
 | .dit ks ds=>∃a ys o xs,v= .ref a/\G a=some (kn a o)/\DtI G a o xs ks ys/\RepL K G (ys.map (·.2)) ds
noncomputable def RepL (K:W.Frag)(G:Hp)(xs:List V):List D->Prop
 |[]=>xs=[]
 |d::ds=>∃x ys,xs=x::ys/\RepD K G x d/\RepL K G ys ds
end
noncomputable def Fz (G H:Hp):Prop:=∀a o,G a=some o->H a=some o
theorem DtI.mono {xs:List (List Key×Addr×Value)}{ys:List (List Key×V)}(d:DtI G a o xs ks ys)(h:Fz G G'):DtI G' a o xs ks ys:={d with kt:=Paired.mapP d.kt fun _ _ z=>⟨z.1,h _ _ z.2.1,z.2.2⟩}
theorem Fz.refl (G:Hp):Fz G G:=fun _ _ h=>h
theorem Fz.trans {A B C:Hp}(h:Fz A B)(k:Fz B C):Fz A C:=fun a o e=>k a o (h a o e)
theorem Fz.free (h:Fz G H)(e:H p=none):G p=none:=by
 cases q:G p with
 |none=>rfl
 |some o=>rw[h p o q]at e;cases e
theorem Fz.new (e:G p=none)(o:HO):Fz G (upd G p o):=fun a u q=>by
 rw[zav (zaG q e)];exact q
theorem Fz.upd2 (h:Fz G H)(p:Addr)(o:HO):Fz (upd G p o) (upd H p o):=fun a u q=>by
 by_cases e:a=p
 ·subst e;rw[zaF]at q ⊢;exact q
 ·rw[zav e]at q ⊢;exact h a u q
theorem Fz.right (h:Fz G H)(e:G p=none)(o:HO):Fz G (upd H p o):=fun a u q=>by
 rw[zav (zaG q e)];exact h a u q
theorem Fz.sql {G H:Hp}(h:Fz G H)(q:SqL K G a xs):SqL K H a xs:=Same.seq (H:=G) (H':=H) h q
mutual
theorem RepD.mono (h:Fz G G'):∀{v:V} {d:D},RepD K G v d->RepD K G' v d
 |_,.non,e=>e
 |_,.bl _,e=>e
 |_,.int _,e=>e
 |_,.str _,e=>e
 |_,.lst _,⟨a,xs,e,q,r⟩=>⟨a,xs,e,h a _ q,RepL.mono h r⟩
 |_,.tup _,⟨a,xs,e,q,r⟩=>⟨a,xs,e,h a _ q,RepL.mono h r⟩
 |_,.scr _,⟨a,e,q⟩=>⟨a,e,h.sql q⟩
 |_,.exc _,⟨a,C,e,n,q⟩=>⟨a,C,e,n,h a _ q⟩
 |_,.dic _ _,⟨a,ys,e,q,f,r⟩=>⟨a,ys,e,q.imp (h a _) fun⟨o,z⟩=>⟨o,h a _ z⟩,f,RepL.mono h r⟩
 |_,.dit _ _,⟨a,ys,o,xs,e,q,f,r⟩=>⟨a,ys,o,xs,e,h a _ q,f.mono h,RepL.mono h r⟩
theorem RepL.mono (h:Fz G G'):∀{xs:List V} {ds:List D},RepL K G xs ds->RepL K G' xs ds
 |_,[],e=>e
 |_,_::_,⟨x,ys,e,q,r⟩=>⟨x,ys,e,RepD.mono h q,RepL.mono h r⟩
end
section
variable {K:W.Frag} {G:Hp}
theorem RepL.nil:RepL K G [] []:=rfl
theorem RepL.cons {x:V}{d:D}(h:RepD K G x d)(t:RepL K G xs ds):RepL K G (x::xs) (d::ds):=⟨x,xs,rfl,h,t⟩
theorem RepL.length:∀{xs:List V} {ds:List D},RepL K G xs ds->xs.length=ds.length
 |_,[],e=>by cases e;rfl
 |_,_::_,⟨x,ys,e,_,r⟩=>by subst e;rw[qa5,qa5,RepL.length r]
theorem RepL.get:∀{xs:List V} {ds:List D} {i:Nat} {d:D},RepL K G xs ds->ds[i]? =some d->∃x,xs[i]? =some x/\RepD K G x d
 |_,[],_,_,_,h=>by simp at h
 |_,_::_,0,_,⟨x,ys,e,q,r⟩,h=>by subst e;simp at h;subst h;exact⟨x,rfl,q⟩
 |_,_::_,i+1,_,⟨x,ys,e,q,r⟩,h=>by
  subst e;obtain⟨y,h1,h2⟩:=RepL.get (i:=i) r (by simpa using h);exact⟨y,by simpa using h1,h2⟩
theorem RepL.append:∀{xs ys:List V} {ds es:List D},RepL K G xs ds->RepL K G ys es->RepL K G (xs++ys) (ds++es)
 |_,_,[],_,e,r=>by cases e;exact r
 |_,_,_::_,_,⟨x,zs,e,q,r⟩,s=>by subst e;exact⟨x,zs++_,rfl,q,RepL.append r s⟩
theorem RepL.snoc (h:RepL K G xs ds)(q:RepD K G x d):RepL K G (xs++[x]) (ds++[d]):=h.append (.cons q .nil)
theorem RepL.take:∀{xs:List V} {ds:List D} (n:Nat),RepL K G xs ds->RepL K G (xs.take n) (ds.take n)
 |_,_,0,_=>by simp;exact .nil
 |_,[],n+1,e=>by cases e;exact .nil
 |_,_::_,n+1,⟨x,zs,e,q,r⟩=>by subst e;exact⟨x,zs.take n,rfl,q,RepL.take n r⟩
theorem RepL.drop:∀{xs:List V} {ds:List D} (n:Nat),RepL K G xs ds->RepL K G (xs.drop n) (ds.drop n)
 |_,_,0,r=>by simpa using r
 |_,[],n+1,e=>by cases e;exact .nil
 |_,_::_,n+1,⟨x,zs,e,q,r⟩=>by subst e;exact RepL.drop n r
theorem RepL.set:∀{xs:List V} {ds:List D} (i:Nat) {x:V} {d:D},RepL K G xs ds->RepD K G x d->RepL K G (xs.set i x) (ds.set i d)
 |_,[],_,_,_,e,_=>by cases e;exact .nil
 |_,_::_,0,_,_,⟨x,zs,e,q,r⟩,h=>by subst e;exact⟨_,zs,rfl,h,r⟩
 |_,_::_,i+1,_,_,⟨x,zs,e,q,r⟩,h=>by subst e;exact⟨x,_,rfl,q,RepL.set i r h⟩
theorem RepL.rep (h:RepL K G xs ds):∀k:Nat,RepL K G (List.replicate k xs).flatten (List.replicate k ds).flatten
 |0=> .nil
 |k+1=>by rw[qbp,qbp,qbq,qbq];exact h.append (RepL.rep h k)
theorem RepL.ints:∀(ns:List Int),RepL K G (ns.map V.int) (ns.map D.int)
 |[]=> .nil
 |n::ns=>⟨.int n,ns.map V.int,rfl,rfl,RepL.ints ns⟩
theorem RepL.ints_eq:∀{ns:List Int} {xs:List V},RepL K G xs (ns.map D.int)->xs=ns.map V.int
 |[],_,e=>e
 |n::ns,_,⟨x,ys,e,q,r⟩=>by subst e;cases(show x=V.int n from q);rw[RepL.ints_eq r];rfl
theorem RepL.at {i:Int}(h:RepL K G xs ds)(e:atI ds i=some d):∃x,atI xs i=some x/\RepD K G x d:=by
 unfold atI at e ⊢;rw[h.length];cases q:ixN ds.length i with
 |none=>rw[q]at e;cases e
 |some j=>rw[q]at e;exact h.get e
end
inductive Ch where
 |d (x:D)|l (xs:List D)|t (xss:List (List D))
inductive T where
 |lst (cs:List Ch)|tup (cs:List Ch)|ins (c:Str) (fs:List (Str×Ch))|dic (ks:List Int) (ds:List D)|dit (ks:List (List Int)) (ds:List D)
inductive Sl where
 |emp|val (d:D)|own (ds:List D)|par (ds:List D)|two (ds es:List D)|tre (t:T)|ptr (t:T)
noncomputable abbrev R:=List Sl
noncomputable def Sl.items:Sl->Option (List D)
 | .own ds=>some ds
 | .par ds=>some ds
 |_=>none
structure Bs where
 G:Hp
 H:Hp
 O:List (Nat×Addr)
noncomputable def RepTb (K:W.Frag)(G H:Hp):List V->List (List D)->List Addr->Prop
 |[],[],A=>A=[]
 |x::xs,ds::dss,A=>∃r ys A2,x= .ref r/\H r=some (.lst ys)/\RepL K G ys ds/\RepTb K G H xs dss A2/\A=r::A2
 |_,_,_=>False
noncomputable def RepC (K:W.Frag)(G H:Hp)(x:V):Ch->List Addr->Prop
 | .d y,A=>RepD K G x y/\A=[]
 | .l ds,A=>∃l xs,x= .ref l/\H l=some (.lst xs)/\RepL K G xs ds/\A=[l]
 | .t xss,A=>∃p xs A',x= .ref p/\H p=some (.lst xs)/\RepTb K G H xs xss A'/\A=p::A'
noncomputable def RepCs (K:W.Frag)(G H:Hp):List V->List Ch->List Addr->Prop
 |[],[],A=>A=[]
 |x::xs,c::cs,A=>∃A1 A2,RepC K G H x c A1/\RepCs K G H xs cs A2/\A=A1++A2
 |_,_,_=>False
noncomputable def RepT (K:W.Frag)(G H:Hp)(v:V):T->List Addr->Prop
 | .lst cs,A=>∃p xs A',v= .ref p/\H p=some (.lst xs)/\RepCs K G H xs cs A'/\A=p::A'
 | .tup cs,A=>∃p xs A',v= .ref p/\H p=some (.tup xs)/\RepCs K G H xs cs A'/\A=p::A'
 | .ins c fs,A=>∃p C dx vs A',v= .ref p/\W.nsIn K mainGlobals c=some (some (.ref C))/\H p=some (.ins C dx vs)/\H dx=some (.own p)/\vs.map (·.1)=fs.map (·.1)/\RepCs K G H (vs.map (·.2)) (fs.map (·.2)) A'/\A=p::dx::A'
 | .dic ks ds,A=>∃p ys,v= .ref p/\H p=some (.dK ys)/\ys.map (·.1)=ks.map kI/\RepL K G (ys.map (·.2)) ds/\A=[p]
 | .dit ks ds,A=>∃p ys o xs,v= .ref p/\H p=some (kn p o)/\DtI G p o xs ks ys/\RepL K G (ys.map (·.2)) ds/\A=[p]
section
variable {K:W.Frag} {G G' H H':Hp}
theorem RepTb.move:∀{xs:List V} {dss:List (List D)} {A:List Addr},RepTb K G H xs dss A->Fz G G'->(∀a∈A,H' a=H a)->RepTb K G' H' xs dss A
 |[],[],_,h,_,_=>h
 |x::xs,ds::dss,A,⟨r,ys,A2,e1,e2,e3,e4,e5⟩,hg,hh=>⟨r,ys,A2,e1,by rw[hh r (by rw[e5];simp)];exact e2,e3.mono hg,e4.move hg fun a m=>hh a (by rw[e5];simp[m]),e5⟩
 |[],_::_,_,h,_,_=>h.elim
 |_::_,[],_,h,_,_=>h.elim
theorem RepTb.det:∀{xs:List V} {dss:List (List D)} {A A':List Addr},RepTb K G H xs dss A->RepTb K G' H' xs dss A'->A=A'
 |[],[],_,_,h,h'=>by rw[show _=[]from h,show _=[]from h']
 |x::xs,ds::dss,_,_,⟨r,ys,A2,e1,_,_,e4,e5⟩,⟨r',ys',A2',e1',_,_,e4',e5'⟩=>by
  rw[e1]at e1';cases e1';rw[e5,e5',e4.det e4']
 |[],_::_,_,_,h,_=>h.elim
 |_::_,[],_,_,h,_=>h.elim
theorem RepTb.here:∀{xs:List V} {dss:List (List D)} {A:List Addr},RepTb K G H xs dss A->∀{a:Addr},a∈A->∃xs,H a=some (.lst xs)
 |[],[],_,h,a,m=>by rw[show _=[]from h]at m;cases m
 |x::xs,ds::dss,_,⟨r,ys,A2,e1,e2,_,e4,e5⟩,a,m=>by
  rw[e5]at m;rcases qao.mp m with rfl|m
  ·exact⟨ys,e2⟩
  ·exact e4.here m
 |[],_::_,_,h,_,_=>h.elim
 |_::_,[],_,h,_,_=>h.elim
theorem RepC.move (h:RepC K G H x c A)(hg:Fz G G')(hh:∀a∈A,H' a=H a):RepC K G' H' x c A:=by
 cases c with
 |d y=>exact⟨h.1.mono hg,h.2⟩
 |l ds=>obtain⟨l,xs,e,q,r,rfl⟩:=h;exact⟨l,xs,e,by rw[hh l (by simp)];exact q,r.mono hg,rfl⟩
 |t xss=>obtain⟨p,xs,A',e,q,r,rfl⟩:=h;exact⟨p,xs,A',e,by rw[hh p (by simp)];exact q,r.move hg fun a m=>hh a (by simp[m]),rfl⟩
theorem RepCs.move:∀{xs:List V} {cs:List Ch} {A:List Addr},RepCs K G H xs cs A->Fz G G'->(∀a∈A,H' a=H a)->RepCs K G' H' xs cs A
 |[],[],_,h,_,_=>h
 |x::xs,c::cs,A,⟨A1,A2,h1,h2,e⟩,hg,hh=>⟨A1,A2,h1.move hg fun a m=>hh a (by rw[e];exact qaq _ m),h2.move hg fun a m=>hh a (by rw[e];exact qaM _ m),e⟩
 |[],_::_,_,h,_,_=>h.elim
 |_::_,[],_,h,_,_=>h.elim
theorem RepT.move (h:RepT K G H v t A)(hg:Fz G G')(hh:∀a∈A,H' a=H a):RepT K G' H' v t A:=by
 cases t with
 |lst cs=>obtain⟨p,xs,A',e,q,r,rfl⟩:=h;exact⟨p,xs,A',e,by rw[hh p (by simp)];exact q,r.move hg fun a m=>hh a (by simp[m]),rfl⟩
 |tup cs=>obtain⟨p,xs,A',e,q,r,rfl⟩:=h;exact⟨p,xs,A',e,by rw[hh p (by simp)];exact q,r.move hg fun a m=>hh a (by simp[m]),rfl⟩
 |ins c fs=>obtain⟨p,C,dx,vs,A',e,n,q,q2,f,r,rfl⟩:=h;exact⟨p,C,dx,vs,A',e,n,by rw[hh p (by simp)];exact q,by rw[hh dx (by simp)];exact q2,f,r.move hg fun a m=>hh a (by simp[m]),rfl⟩
 |dic ks ds=>obtain⟨p,ys,e,q,f,r,rfl⟩:=h;exact⟨p,ys,e,by rw[hh p (by simp)];exact q,f,r.mono hg,rfl⟩
 |dit ks ds=>obtain⟨p,ys,o,xs,e,q,f,r,rfl⟩:=h;exact⟨p,ys,o,xs,e,by rw[hh p (by simp)];exact q,f.mono hg,r.mono hg,rfl⟩
theorem RepC.det (h:RepC K G H x c A)(h':RepC K G' H' x c A')(hh:∀a∈A,H' a=H a):A=A':=by
 cases c with
 |d y=>rw[h.2,h'.2]
 |l ds=>obtain⟨l,xs,e,_,_,rfl⟩:=h;obtain⟨l',xs',e',_,_,rfl⟩:=h';rw[e]at e';cases e';rfl
 |t xss=>
  obtain⟨p,xs,B,e,q,r,rfl⟩:=h;obtain⟨p',xs',B',e',q',r',rfl⟩:=h';rw[e]at e';cases e';rw[hh p (by simp),q]at q';cases q';rw[r.det r']
theorem RepCs.det:∀{xs:List V} {cs:List Ch} {A A':List Addr},RepCs K G H xs cs A->RepCs K G' H' xs cs A'->(∀a∈A,H' a=H a)->A=A'
 |[],[],_,_,h,h',_=>by rw[show _=[]from h,show _=[]from h']
 |x::xs,c::cs,_,_,⟨A1,A2,h1,h2,e⟩,⟨B1,B2,k1,k2,e'⟩,hh=>by rw[e,e',h1.det k1 fun a m=>hh a (by rw[e];exact qaq _ m),h2.det k2 fun a m=>hh a (by rw[e];exact qaM _ m)]
 |[],_::_,_,_,h,_,_=>h.elim
 |_::_,[],_,_,h,_,_=>h.elim
theorem RepT.det (h:RepT K G H v t A)(h':RepT K G' H' v t A')(hh:∀a∈A,H' a=H a):A=A':=by
 cases t with
 |lst cs=>
  obtain⟨p,xs,B,e,q,r,rfl⟩:=h;obtain⟨p',xs',B',e',q',r',rfl⟩:=h';rw[e]at e';cases e';rw[hh p (by simp),q]at q';cases q';rw[r.det r' fun a m=>hh a (by simp[m])]
 |tup cs=>
  obtain⟨p,xs,B,e,q,r,rfl⟩:=h;obtain⟨p',xs',B',e',q',r',rfl⟩:=h';rw[e]at e';cases e';rw[hh p (by simp),q]at q';cases q';rw[r.det r' fun a m=>hh a (by simp[m])]
 |ins c fs=>
  obtain⟨p,C,dx,vs,B,e,n,q,q2,f,r,rfl⟩:=h;obtain⟨p',C',dx',vs',B',e',n',q',q2',f',r',rfl⟩:=h';rw[e]at e';cases e';rw[hh p (by simp),q]at q';cases q';rw[r.det r' fun a m=>hh a (by simp[m])]
 |dic ks ds=>obtain⟨p,ys,e,q,f,r,rfl⟩:=h;obtain⟨p',ys',e',q',f',r',rfl⟩:=h';rw[e]at e';cases e';rfl
 |dit ks ds=>obtain⟨p,ys,o,xs,e,q,f,r,rfl⟩:=h;obtain⟨p',ys',o',xs',e',q',f',r',rfl⟩:=h';rw[e]at e';cases e';rfl
theorem RepC.here (h:RepC K G H x c A)(m:a∈A):∃xs,H a=some (.lst xs):=by
 cases c with
 |d y=>rw[h.2]at m;cases m
 |l ds=>obtain⟨l,xs,_,q,_,rfl⟩:=h;simp at m;subst m;exact⟨xs,q⟩
 |t xss=>
  obtain⟨p,xs,A',_,q,r,rfl⟩:=h;rcases qao.mp m with rfl|m
  ·exact⟨xs,q⟩
  ·exact r.here m
theorem RepCs.here:∀{xs:List V} {cs:List Ch} {A:List Addr},RepCs K G H xs cs A->∀{a:Addr},a∈A->∃xs,H a=some (.lst xs)
 |[],[],_,h,a,m=>by rw[show _=[]from h]at m;cases m
 |x::xs,c::cs,_,⟨A1,A2,h1,h2,e⟩,a,m=>by
  rw[e]at m;rcases qap.mp m with m|m
  ·exact h1.here m
  ·exact h2.here m
 |[],_::_,_,h,_,_=>h.elim
 |_::_,[],_,h,_,_=>h.elim
theorem RepT.here (h:RepT K G H v t A)(m:a∈A):H a≠none:=by
 cases t with
 |lst cs=>
  obtain⟨p,xs,B,e,q,r,rfl⟩:=h;rcases qao.mp m with rfl|m
  ·rw[q];simp
  ·obtain⟨ys,z⟩:=r.here m;rw[z];simp
 |tup cs=>
  obtain⟨p,xs,B,e,q,r,rfl⟩:=h;rcases qao.mp m with rfl|m
  ·rw[q];simp
  ·obtain⟨ys,z⟩:=r.here m;rw[z];simp
 |ins c fs=>
  obtain⟨p,C,dx,vs,B,e,n,q,q2,f,r,rfl⟩:=h;rcases qao.mp m with rfl|m
  ·rw[q];simp
  rcases qao.mp m with rfl|m
  ·rw[q2];simp
  ·obtain⟨ys,z⟩:=r.here m;rw[z];simp
 |dic ks ds=>obtain⟨p,ys,e,q,f,r,rfl⟩:=h;simp at m;subst m;rw[q];simp
 |dit ks ds=>obtain⟨p,ys,o,xs,e,q,f,r,rfl⟩:=h;simp at m;subst m;rw[q];simp
end
noncomputable def SlotOk (K:W.Frag)(B:Bs)(G H:Hp)(i:Nat)(ov:Option (Option V)):Sl->Prop
 | .emp=>True
 | .two _ _=>True
 | .val d=>∃v,ov=some (some v)/\RepD K G v d
 | .own ds=>∃l xs,ov=some (some (.ref l))/\G l=none/\H l=some (.lst xs)/\RepL K G xs ds/\B.H l=none
 | .par ds=>∃l xs,ov=some (some (.ref l))/\G l=none/\H l=some (.lst xs)/\RepL K G xs ds/\(i,l)∈B.O
 | .tre t=>∃v A,ov=some (some v)/\RepT K G H v t A/\A.Nodup/\∀a∈A,G a=none/\B.H a=none
 | .ptr t=>∃v A,ov=some (some v)/\RepT K G H v t A/\A.Nodup/\∀a∈A,G a=none/\(B.H a=none\/(i,a)∈B.O)
noncomputable def Wr (ρ:R)(i:Nat):Prop:=∃s ds,ρ[i]? =some s/\s.items=some ds
noncomputable def OwS (K:W.Frag)(G H:Hp)(ov:Option (Option V))(a:Addr):Sl->Prop
 | .own _=>ov=some (some (.ref a))
 | .par _=>ov=some (some (.ref a))
 | .tre t=>∃v A,ov=some (some v)/\RepT K G H v t A/\a∈A
 | .ptr t=>∃v A,ov=some (some v)/\RepT K G H v t A/\a∈A
 |_=>False
noncomputable def Nw (K:W.Frag)(G H:Hp)(σ:St)(ρ:R)(a:Addr):Prop:=∀(i:Nat) (s:Sl),ρ[i]? =some s->¬OwS K G H σ[i]? a s
structure SI (K:W.Frag) (B:Bs) (G H:Hp) (σ:St) (ρ:R):Prop where
 fz:Fz G H
 g0:Fz B.G G
 new:∀b o,G b=some o->B.G b≠none\/B.H b=none
 keep:∀b o,B.H b=some o->(∀i,(i,b)∉B.O)->H b=some o
 there:∀b,H b=none->B.H b=none
 len:σ.length=ρ.length
 ob:∀i b,(i,b)∈B.O->B.H b≠none
 slot:∀i s,ρ[i]? =some s->SlotOk K B G H i σ[i]? s
 dis:∀(i j:Nat) (s t:Sl) (a:Addr),i≠j->ρ[i]? =some s->ρ[j]? =some t->OwS K G H σ[i]? a s->¬OwS K G H σ[j]? a t
section
variable {K:W.Frag} {B:Bs} {G G' H H':Hp} {σ:St} {ρ:R}
theorem SlotOk.own (h:SlotOk K B G H i ov s)(w:OwS K G H ov a s):G a=none/\H a≠none/\(B.H a=none\/(i,a)∈B.O):=by
 cases s with
 |emp=>exact w.elim
 |two _ _=>exact w.elim
 |val d=>exact w.elim
 |own ds=>obtain⟨l,xs,e,g,k,r,n⟩:=h;rw[show ov=_ from w]at e;cases e;exact⟨g,by rw[k];simp,.inl n⟩
 |par ds=>obtain⟨l,xs,e,g,k,r,n⟩:=h;rw[show ov=_ from w]at e;cases e;exact⟨g,by rw[k];simp,.inr n⟩
 |tre t=>
  obtain⟨v,A,e,r,nd,f⟩:=h;obtain⟨v',A',e',r',m⟩:=w;rw[e]at e';cases e';rw[<-r.det r' fun _ _=>rfl]at m;exact⟨(f a m).1,r.here m,.inl (f a m).2⟩
 |ptr t=>
  obtain⟨v,A,e,r,nd,f⟩:=h;obtain⟨v',A',e',r',m⟩:=w;rw[e]at e';cases e';rw[<-r.det r' fun _ _=>rfl]at m;exact⟨(f a m).1,r.here m,(f a m).2⟩
theorem SlotOk.mono (h:SlotOk K B G H i ov s)(hg:Fz G G')(hw:∀a,OwS K G H ov a s->G a=none->H a≠none->G' a=none/\H' a=H a):SlotOk K B G' H' i ov s:=by
 have ow:=fun a (w:OwS K G H ov a s)=>h.own w
 cases s with
 |emp=>trivial
 |two _ _=>trivial
 |val d=>obtain⟨v,e,r⟩:=h;exact⟨v,e,r.mono hg⟩
 |own ds=>
  obtain⟨l,xs,e,g,k,r,n⟩:=h;obtain⟨h1,h2⟩:=hw l e g (by rw[k];simp);exact⟨l,xs,e,h1,h2.trans k,r.mono hg,n⟩
 |par ds=>
  obtain⟨l,xs,e,g,k,r,n⟩:=h;obtain⟨h1,h2⟩:=hw l e g (by rw[k];simp);exact⟨l,xs,e,h1,h2.trans k,r.mono hg,n⟩
 |tre t=>
  obtain⟨v,A,e,r,nd,f⟩:=h;have w:=fun a m=>hw a ⟨v,A,e,r,m⟩ (f a m).1 (r.here m)
  exact⟨v,A,e,r.move hg fun a m=>(w a m).2,nd,fun a m=>⟨(w a m).1,(f a m).2⟩⟩
 |ptr t=>
  obtain⟨v,A,e,r,nd,f⟩:=h;have w:=fun a m=>hw a ⟨v,A,e,r,m⟩ (f a m).1 (r.here m)
  exact⟨v,A,e,r.move hg fun a m=>(w a m).2,nd,fun a m=>⟨(w a m).1,(f a m).2⟩⟩
theorem SlotOk.back (h:SlotOk K B G H i ov s)(hw:∀a,OwS K G H ov a s->G a=none->H a≠none->G' a=none/\H' a=H a)(w:OwS K G' H' ov a s):OwS K G H ov a s:=by
 cases s with
 |emp=>exact w
 |two _ _=>exact w
 |val d=>exact w
 |own ds=>exact w
 |par ds=>exact w
 |tre t=>
  obtain⟨v,A,e,r,nd,f⟩:=h;obtain⟨v',A',e',r',m⟩:=w;rw[e]at e';cases e';have q:=r.det r' fun a m=>(hw a ⟨v,A,e,r,m⟩ (f a m).1 (r.here m)).2
  subst q;exact⟨v,A,e,r,m⟩
 |ptr t=>
  obtain⟨v,A,e,r,nd,f⟩:=h;obtain⟨v',A',e',r',m⟩:=w;rw[e]at e';cases e';have q:=r.det r' fun a m=>(hw a ⟨v,A,e,r,m⟩ (f a m).1 (r.here m)).2
  subst q;exact⟨v,A,e,r,m⟩
theorem SI.move (I:SI K B G H σ ρ)(fz:Fz G' H')(fg:Fz G G')(new:∀b o,G' b=some o->B.G b≠none\/B.H b=none)(keep:∀b o,B.H b=some o->(∀i,(i,b)∉B.O)->H' b=some o)(there:∀b,H' b=none->B.H b=none)
  (ow:∀(i:Nat) (s:Sl) (a:Addr),ρ[i]? =some s->OwS K G H σ[i]? a s->G a=none->H a≠none->G' a=none/\H' a=H a):SI K B G' H' σ ρ where
 fz:=fz
 g0:=I.g0.trans fg
 new:=new
 keep:=keep
 there:=there
 len:=I.len
 ob:=I.ob
 slot:=fun i s e=>(I.slot i s e).mono fg fun a w g h=>ow i s a e w g h
 dis:=fun i j s t a n e1 e2 w1 w2=>I.dis i j s t a n e1 e2 ((I.slot i s e1).back (fun a w g h=>ow i s a e1 w g h) w1) ((I.slot j t e2).back (fun a w g h=>ow j t a e2 w g h) w2)
theorem SI.chg (I:SI K B G H σ ρ){ov:Option V}{s':Sl}(fz:Fz G' H')(fg:Fz G G')(new:∀b o,G' b=some o->B.G b≠none\/B.H b=none)(keep:∀b o,B.H b=some o->(∀i,(i,b)∉B.O)->H' b=some o)(there:∀b,H' b=none->B.H b=none)
  (ow:∀(j:Nat) (s:Sl) (a:Addr),j≠i->ρ[j]? =some s->OwS K G H σ[j]? a s->G a=none->H a≠none->G' a=none/\H' a=H a/\¬OwS K G' H' (some ov) a s') (sl:SlotOk K B G' H' i (some ov) s'):SI K B G' H' (σ.set i ov) (ρ.set i s'):=by
 have atI:∀{s},(ρ.set i s')[i]? =some s->s=s'/\(σ.set i ov)[i]? =some ov:=fun{s} e=>by
  rw[qbw,if_pos rfl]at e ⊢
  split at e
  ·rename_i h;cases e;rw[if_pos (by rw[I.len];exact h)];exact⟨rfl,rfl⟩
  ·cases e
 have atJ:∀{j s},j≠i->(ρ.set i s')[j]? =some s->ρ[j]? =some s/\(σ.set i ov)[j]? =σ[j]?:=fun{j s} n e=>by
  rw[qat (Ne.symm n)]at e ⊢;exact⟨e,rfl⟩
 refine⟨fz,I.g0.trans fg,new,keep,there,by rw[qbm,qbm];exact I.len,I.ob,fun j s e=>?_,fun j k s t a n e1 e2 w1 w2=>?_⟩
 ·by_cases z:j=i
  ·subst z;obtain⟨rfl,q⟩:=atI e;rw[q];exact sl
  ·obtain⟨e1,q⟩:=atJ z e;rw[q];exact(I.slot j s e1).mono fg fun a w g h=>⟨(ow j s a z e1 w g h).1,(ow j s a z e1 w g h).2.1⟩
 ·have one:∀j s,j≠i->(ρ.set i s')[j]? =some s->OwS K G' H' (σ.set i ov)[j]? a s->ρ[j]? =some s/\OwS K G H σ[j]? a s:=fun j s z e w=>by
   obtain⟨e1,q⟩:=atJ z e;rw[q]at w;exact⟨e1,(I.slot j s e1).back (fun a w g h=>⟨(ow j s a z e1 w g h).1,(ow j s a z e1 w g h).2.1⟩) w⟩
  by_cases z1:j=i
  ·subst z1;obtain⟨rfl,q1⟩:=atI e1;obtain⟨f2,w2⟩:=one k t (Ne.symm n) e2 w2;obtain⟨o1,o2,_⟩:=(I.slot k t f2).own w2;rw[q1]at w1;exact(ow k t a (Ne.symm n) f2 w2 o1 o2).2.2 w1
  ·have p1:=one j s z1 e1 w1
   by_cases z2:k=i
   ·subst z2;obtain⟨rfl,q2⟩:=atI e2;obtain⟨o1,o2,_⟩:=(I.slot j s p1.1).own p1.2;rw[q2]at w2;exact(ow j s a z1 p1.1 p1.2 o1 o2).2.2 w2
   ·have p2:=one k t z2 e2 w2;exact I.dis j k s t a n p1.1 p2.1 p1.2 p2.2
theorem SI.nw (I:SI K B G H σ ρ)(hp:H p=none):Nw K G H σ ρ p:=fun i s e w=>((I.slot i s e).own w).2.1 hp
theorem SI.nw_move (I:SI K B G H σ ρ)(n:Nw K G H σ ρ p)(ow:∀(i:Nat) (s:Sl) (a:Addr),ρ[i]? =some s->OwS K G H σ[i]? a s->G a=none->H a≠none->G' a=none/\H' a=H a):Nw K G' H' σ ρ p:=
 fun i s e w=>n i s e ((I.slot i s e).back (fun a w g h=>ow i s a e w g h) w)
theorem SI.allocF (I:SI K B G H σ ρ)(hp:H p=none)(o:HO):SI K B (upd G p o) (upd H p o) σ ρ:=
 I.move (I.fz.upd2 p o) (Fz.new (I.fz.free hp) o) (fun b u e=>by
  by_cases q:b=p
  ·subst q;exact .inr (I.there b hp)
  ·rw[zav q]at e;exact I.new b u e) (fun b u e n=>by
  have q:=I.keep b u e n;rw[zav (zaG q hp)];exact q) (fun b e=>by
  by_cases q:b=p
  ·subst q;rw[zaF]at e;cases e
  ·rw[zav q]at e;exact I.there b e) (fun i s a _ _ g h=>by
  have q:a≠p:=fun z=>h (by rw[z];exact hp)
  rw[zav q,zav q];exact⟨g,rfl⟩)
theorem SI.allocO (I:SI K B G H σ ρ)(hp:H p=none)(o:HO):SI K B G (upd H p o) σ ρ:=
 I.move (I.fz.right (I.fz.free hp) o) (Fz.refl G) I.new (fun b u e n=>by
  have q:=I.keep b u e n;rw[zav (zaG q hp)];exact q) (fun b e=>by
  by_cases q:b=p
  ·subst q;rw[zaF]at e;cases e
  ·rw[zav q]at e;exact I.there b e) (fun i s a _ _ g h=>by
  have q:a≠p:=fun z=>h (by rw[z];exact hp)
  rw[zav q];exact⟨g,rfl⟩)
theorem SI.frz (I:SI K B G H σ ρ){o:HO}(hl:H l=some o)(hB:B.H l=none)(hn:Nw K G H σ ρ l)(hg:G l=none):SI K B (upd G l o) H σ ρ:=
 I.move (fun a u q=>by
  by_cases e:a=l
  ·subst e;rw[zaF]at q;cases q;exact hl
  ·rw[zav e]at q;exact I.fz a u q) (Fz.new hg o) (fun b u e=>by
  by_cases q:b=l
  ·subst q;exact .inr hB
  ·rw[zav q]at e;exact I.new b u e) I.keep I.there (fun i s a e w g _=>by
  refine⟨?_,rfl⟩;rw[zav (fun z=>?_)]
  ·exact g
  ·subst z;exact hn i s e w)
theorem SI.set (I:SI K B G H σ ρ)(h:RepD K G v d):SI K B G H (σ.set i (some v)) (ρ.set i (.val d)):=
 I.chg I.fz (Fz.refl G) I.new I.keep I.there (fun _ _ _ _ _ _ g _=>⟨g,rfl,id⟩) ⟨v,rfl,h⟩
theorem SI.setO (I:SI K B G H σ ρ)(hg:G l=none)(hl:H l=some (.lst xs))(h:RepL K G xs ds)(hB:B.H l=none)(hn:Nw K G H σ ρ l):
  SI K B G H (σ.set i (some (.ref l))) (ρ.set i (.own ds)):=
 I.chg I.fz (Fz.refl G) I.new I.keep I.there (fun j s a _ e w g _=>⟨g,rfl,fun z=>by cases(show some (some (V.ref l))=some (some (.ref a))from z);exact hn j s e w⟩) ⟨l,xs,rfl,hg,hl,h,hB⟩
theorem SI.wr (I:SI K B G H σ ρ)(e:ρ[i]? =some s)(q:s.items=some ds):∃l xs,σ[i]? =some (some (.ref l))/\G l=none/\H l=some (.lst xs)/\RepL K G xs ds:=by
 have h:=I.slot i s e;cases s with
 |emp=>cases q
 |two _ _=>cases q
 |val d=>cases q
 |tre _=>cases q
 |ptr _=>cases q
 |own es=>cases q;obtain⟨l,xs,h1,h2,h3,h4,_⟩:=h;exact⟨l,xs,h1,h2,h3,h4⟩
 |par es=>cases q;obtain⟨l,xs,h1,h2,h3,h4,_⟩:=h;exact⟨l,xs,h1,h2,h3,h4⟩
noncomputable def Sl.put (s:Sl)(ds:List D):Sl:=match s with
 | .own _=> .own ds
 | .par _=> .par ds
 |s=>s
theorem zbv (q:s.items=some ds):OwS K G H ov a s↔ov=some (some (.ref a)):=by
 cases s with
 |own _=>exact Iff.rfl
 |par _=>exact Iff.rfl
 |_=>cases q
theorem zif (q:s.items=some ds)(es:List D):(s.put es).items=some es:=by
 cases s with
 |own _=>rfl
 |par _=>rfl
 |_=>cases q
theorem zkH {α:Type}{l:List α}{x:α}(e:l[i]? =some x):l.set i x=l:=by
 obtain⟨h,rfl⟩:=qar.mp e;exact List.set_getElem_self h
theorem SI.chgW (I:SI K B G H σ ρ){i:Nat}(e:ρ[i]? =some s)(q:s.items=some ds)(hl:σ[i]? =some (some (.ref l)))(fz:Fz G' H')(fg:Fz G G')(nw:∀b o,G' b=some o->G b≠none\/H b=none)
  (kp:∀b o,b≠l->H b=some o->H' b=some o) (gl:G' l=none) (hl':H' l=some (.lst ys)) (r:RepL K G' ys es):SI K B G' H' σ (ρ.set i (s.put es)):=by
 obtain⟨l',xs,e1,e2,e3,e4⟩:=I.wr e q;rw[hl]at e1;cases e1;have sl:=I.slot i s e;have nb:∀b o,B.H b=some o->(∀i,(i,b)∉B.O)->b≠l:=fun b o h1 h2 z=>by
  subst z;rcases(sl.own ((zbv q).mpr hl)).2.2 with z|z
  ·rw[h1]at z;cases z
  ·exact h2 i z
 have h:=I.chg (i:=i) (ov:=some (.ref l)) (s':=s.put es) (G':=G') (H':=H') fz fg (fun b o k=>?_) (fun b o k1 k2=>kp b o (nb b o k1 k2) (I.keep b o k1 k2)) (fun b k=>?_) (fun j t a z ej w g ha=>?_) ?_
 ·rwa[zkH hl]at h
 ·rcases nw b o k with h|h
  ·cases q2:G b with
   |none=>exact absurd q2 h
   |some u=>exact I.new b u q2
  ·exact .inr (I.there b h)
 ·refine I.there b ?_;cases q2:H b with
  |none=>rfl
  |some u=>
   by_cases z:b=l
   ·subst z;rw[hl']at k;cases k
   ·rw[kp b u z q2]at k;cases k
 ·have na:a≠l:=fun w'=>by subst w';exact I.dis j i t s a z ej e w ((zbv q).mpr hl)
  obtain⟨u,hu⟩:=qbx.mp ha;refine⟨?_,(kp a u na hu).trans hu.symm,fun z=>na ?_⟩
  ·cases q2:G' a with
   |none=>rfl
   |some u=>
    rcases nw a u q2 with z|z
    ·exact absurd g z
    ·exact absurd z ha
  ·cases(zbv (zif q es)).mp z;rfl
 ·cases s with
  |own es'=>obtain⟨l',xs',k1,k2,k3,k4,k5⟩:=sl;rw[hl]at k1;cases k1;exact⟨_,ys,rfl,gl,hl',r,k5⟩
  |par es'=>obtain⟨l',xs',k1,k2,k3,k4,k5⟩:=sl;rw[hl]at k1;cases k1;exact⟨_,ys,rfl,gl,hl',r,k5⟩
  |_=>cases q
theorem SI.write (I:SI K B G H σ ρ)(e:ρ[i]? =some s)(q:s.items=some ds)(hl:σ[i]? =some (some (.ref l)))(h:RepL K G ys es):
  SI K B G (upd H l (.lst ys)) σ (ρ.set i (s.put es)):=by
 obtain⟨l',xs,e1,e2,e3,e4⟩:=I.wr e q;rw[hl]at e1;cases e1;exact I.chgW e q hl (I.fz.right e2 _) (Fz.refl G) (fun b o k=> .inl (by rw[k];simp)) (fun b o z k=>by rw[zav z];exact k) e2 zaF h
theorem SI.freeze (I:SI K B G H σ ρ){i:Nat}(e:ρ[i]? =some (.own ds)):∃l xs,σ[i]? =some (some (.ref l))/\Fz G (upd G l (.lst xs))/\RepD K (upd G l (.lst xs)) (.ref l) (.lst ds)/\
  SI K B (upd G l (.lst xs)) H σ (ρ.set i (.val (.lst ds))):=by
 obtain⟨l,xs,h1,h2,h3,h4,h5⟩:=I.slot i _ e;have fz:=Fz.new h2 (.lst xs);have rep:RepD K (upd G l (.lst xs)) (.ref l) (.lst ds):=⟨l,xs,rfl,zaF,h4.mono fz⟩;refine⟨l,xs,h1,fz,rep,?_⟩;have h:=I.chg (i:=i) (ov:=some (.ref l)) (s':= .val (.lst ds)) (G':=upd G l (.lst xs)) (H':=H) (fun a u q=>?_) fz (fun b u q=>?_) I.keep I.there (fun j t a z ej w g _=>⟨?_,rfl,id⟩) ⟨.ref l,rfl,rep⟩
 ·rwa[zkH h1]at h
 ·by_cases z:a=l
  ·subst z;rw[zaF]at q;cases q;exact h3
  ·rw[zav z]at q;exact I.fz a u q
 ·by_cases z:b=l
  ·subst z;exact .inr h5
  ·rw[zav z]at q;exact I.new b u q
 ·rw[zav (fun q=>by subst q;exact I.dis j i t _ a z ej e w h1)];exact g
end
noncomputable abbrev ME:=R->Option (D×R)
noncomputable abbrev MO:=R->Option (List D×R)
noncomputable abbrev MT:=R->Option (Bool×R)
noncomputable abbrev MA:=R->Option (List D×R)
noncomputable def SE (X:Cx)(e:Expr)(m:ME):Prop:=
 ∃t,PE X e t/\∀B G H σ ρ d ρ' (Q:VK),SI X.K B G H σ ρ->m ρ=some (d,ρ')->(∀G' H' v,SI X.K B G' H' σ ρ'->Fz G G'->RepD X.K G' v d->Q v H')->t σ H Q
noncomputable def SO (X:Cx)(e:Expr)(m:MO):Prop:=
 ∃t,PE X e t/\∀B G H σ ρ ds ρ' (Q:VK),SI X.K B G H σ ρ->m ρ=some (ds,ρ')->
  (∀G' H' l xs,SI X.K B G' H' σ ρ'->Fz G G'->G' l=none->H' l=some (.lst xs)->RepL X.K G' xs ds->B.H l=none->Nw X.K G' H' σ ρ' l->Q (.ref l) H')->t σ H Q
noncomputable def STt (X:Cx)(e:Expr)(m:MT):Prop:=
 ∃t,PT X e t/\∀B G H σ ρ d ρ' (Q:Bool->Hp->Prop),SI X.K B G H σ ρ->m ρ=some (d,ρ')->(∀G' H',SI X.K B G' H' σ ρ'->Fz G G'->Q d H')->t σ H Q
noncomputable def SA (X:Cx)(es:List Expr)(m:MA):Prop:=
 ∃t,PA X es t/\∀B G H σ ρ ds ρ' (Q:List V->Hp->Prop),SI X.K B G H σ ρ->m ρ=some (ds,ρ')->(∀G' H' vs,SI X.K B G' H' σ ρ'->Fz G G'->RepL X.K G' vs ds->Q vs H')->t σ H Q
theorem zkT {B:Bs}{σ:St}(I:SI K B G H σ ρ)(hg:G l=none)(hl:H l=some (.lst xs))(h:RepL K G xs ds)(hB:B.H l=none)(hn:Nw K G H σ ρ l):
  SI K B (upd G l (.lst xs)) H σ ρ/\Fz G (upd G l (.lst xs))/\RepD K (upd G l (.lst xs)) (.ref l) (.lst ds):=
 ⟨I.frz hl hB hn hg,Fz.new hg _,⟨l,xs,rfl,zaF,h.mono (Fz.new hg _)⟩⟩
noncomputable def eFz (m:MO):ME:=fun ρ=>(m ρ).map fun p=>(.lst p.1,p.2)
theorem SO.se {X:Cx}{m:MO}(h:SO X e m):SE X e (eFz m):=by
 obtain⟨t,p,s⟩:=h;refine⟨t,p,fun B G H σ ρ d ρ' Q I hm k=>?_⟩;unfold eFz at hm;cases q:m ρ with
 |none=>rw[q]at hm;cases hm
 |some r=>
  obtain⟨ds,ρ1⟩:=r;rw[q]at hm;cases hm;refine s B G H σ ρ ds _ Q I q fun G' H' l xs I' fz hg hl hr hB hn=>?_
  obtain⟨I2,f2,r2⟩:=zkT I' hg hl hr hB hn;exact k _ _ _ I2 (fz.trans f2) r2
noncomputable def eC (d:D):ME:=fun ρ=>some (d,ρ)
noncomputable def eVar (i:Nat):ME:=fun ρ=>match ρ[i]? with
 |some (.val d)=>some (d,ρ)
 |some (.own ds)=>some (.lst ds,ρ.set i (.val (.lst ds)))
 |_=>none
section
variable {X:Cx} {pos:Pos}
theorem zab (i:Nat){x:Str}(hN:X.N[i]? =some x:=by rfl)(hv:Vis X.env.scope x:=by first|exact Or.inl rfl|exact Or.inr (Or.inl rfl)|exact Or.inr (Or.inr rfl))(hd:(x==("__debug__":Str))=false:=by decide)
  (hcd:(x==("__classdict__":Str))=false:=by decide):SE X (.Name x pos) (eVar i):=by
 refine⟨_,zc1 hN hv hd hcd,fun B G H σ ρ d ρ' Q I hm k=>?_⟩;unfold eVar at hm;cases e:ρ[i]? with
 |none=>rw[e]at hm;cases hm
 |some s=>
  rw[e]at hm;cases s with
  |emp=>cases hm
  |two _ _=>cases hm
  |tre _=>cases hm
  |ptr _=>cases hm
  |par ds=>cases hm
  |val d'=>
   cases hm;obtain⟨v,h1,h2⟩:=I.slot i _ e;exact⟨v,h1,k G H v I (Fz.refl G) h2⟩
  |own ds=>
   cases hm;obtain⟨l,xs,h1,f,r,I'⟩:=I.freeze e;exact⟨.ref l,h1,k _ H _ I' f r⟩
theorem zah {i:Int}{j}:SE X (.Constant (.int i) j pos) (eC (.int i)):=⟨_,pe_int,fun B G H σ ρ d ρ' Q I hm k=>by cases hm;exact k G H _ I (Fz.refl G) rfl⟩
theorem zjq {j}:SE X (.Constant (.bool b) j pos) (eC (.bl b)):=⟨_,pe_bl,fun B G H σ ρ d ρ' Q I hm k=>by cases hm;exact k G H _ I (Fz.refl G) rfl⟩
theorem zjj {j}:SE X (.Constant .none j pos) (eC .non):=⟨_,pe_non,fun B G H σ ρ d ρ' Q I hm k=>by cases hm;exact k G H _ I (Fz.refl G) rfl⟩
theorem se_str {x:Str}{j}:SE X (.Constant (.str x) j pos) (eC (.str x)):=⟨_,pe_str,fun B G H σ ρ d ρ' Q I hm k=>by cases hm;exact k G H _ I (Fz.refl G) rfl⟩
end
noncomputable def aNil:MA:=fun ρ=>some ([],ρ)
noncomputable def zaf (m:ME)(r:MA):MA:=fun ρ=>(m ρ).bind fun p=>(r p.2).map fun q=>(p.1::q.1,q.2)
section
variable {X:Cx} {e:Expr} {es:List Expr} {m:ME} {r:MA}
theorem zag:SA X [] aNil:=⟨_,ziz,fun B G H σ ρ ds ρ' Q I hm k=>by cases hm;exact k G H [] I (Fz.refl G) .nil⟩
theorem zaa (h:SE X e m)(hr:SA X es r)(hs:starEach (e::es) X.env=(false,eval e X.env)::starEach es X.env:=by rfl):SA X (e::es) (zaf m r):=by
 obtain⟨t,p,s⟩:=h;obtain⟨u,q,z⟩:=hr;refine⟨_,zb4 p q hs,fun B G H σ ρ ds ρ' Q I hm k=>?_⟩;unfold zaf at hm;cases e1:m ρ with
 |none=>rw[e1]at hm;cases hm
 |some a=>
  obtain⟨d,ρ1⟩:=a;rw[e1]at hm;cases e2:r ρ1 with
  |none=>simp[e2]at hm
  |some b=>
   obtain⟨es',ρ2⟩:=b;simp only[qby,e2,qbz,Option.some.injEq,Prod.mk.injEq]at hm;obtain⟨rfl,rfl⟩:=hm;exact s B G H σ ρ d ρ1 _ I e1 fun G1 H1 v I1 f1 r1=>z B G1 H1 σ ρ1 es' ρ2 _ I1 e2 fun G2 H2 vs I2 f2 r2=>k G2 H2 (v::vs) I2 (f1.trans f2) (.cons (r1.mono f2) r2)
end
noncomputable def V2 (X:Cx)(r:R2)(f:D->D->Option D):Prop:=∀B G H σ ρ x y a b d (Q:VK),SI X.K B G H σ ρ->RepD X.K G x a->RepD X.K G y b->f a b=some d->(∀G' H' v,SI X.K B G' H' σ ρ->Fz G G'->RepD X.K G' v d->Q v H')->r x y H Q
noncomputable def V1 (X:Cx)(r:V->Hp->VK->Prop)(f:D->Option D):Prop:=∀B G H σ ρ x a d (Q:VK),SI X.K B G H σ ρ->RepD X.K G x a->f a=some d->(∀G' H' v,SI X.K B G' H' σ ρ->Fz G G'->RepD X.K G' v d->Q v H')->r x H Q
noncomputable def VC (X:Cx)(r:List V->Hp->VK->Prop)(f:List D->Option D):Prop:=∀B G H σ ρ xs ds d (Q:VK),SI X.K B G H σ ρ->RepL X.K G xs ds->f ds=some d->(∀G' H' v,SI X.K B G' H' σ ρ->Fz G G'->RepD X.K G' v d->Q v H')->r xs H Q
noncomputable def m2 (f:D->D->Option D)(ma mb:ME):ME:=fun ρ=>(ma ρ).bind fun p=>(mb p.2).bind fun q=>(f p.1 q.1).map fun d=>(d,q.2)
noncomputable def m1 (f:D->Option D)(ma:ME):ME:=fun ρ=>(ma ρ).bind fun p=>(f p.1).map fun d=>(d,p.2)
noncomputable def mC (f:List D->Option D)(ma:MA):ME:=fun ρ=>(ma ρ).bind fun p=>(f p.1).map fun d=>(d,p.2)
theorem m2_inv {ma mb:ME}(h:m2 f ma mb ρ=some (d,ρ')):∃a ρ1 b,ma ρ=some (a,ρ1)/\mb ρ1=some (b,ρ')/\f a b=some d:=by
 unfold m2 at h;cases e1:ma ρ with
 |none=>rw[e1]at h;cases h
 |some p=>
  obtain⟨a,ρ1⟩:=p;rw[e1]at h;cases e2:mb ρ1 with
  |none=>simp[e2]at h
  |some q=>
   obtain⟨b,ρ2⟩:=q;simp only[qby,e2]at h;cases e3:f a b with
   |none=>rw[e3]at h;cases h
   |some c=>rw[e3]at h;cases h;exact⟨a,ρ1,b,rfl,e2,e3⟩
theorem m1_inv {f:D->Option D}(h:m1 f ma ρ=some (d,ρ')):∃a,ma ρ=some (a,ρ')/\f a=some d:=by
 unfold m1 at h;cases e1:ma ρ with
 |none=>rw[e1]at h;cases h
 |some p=>
  obtain⟨a,ρ1⟩:=p;rw[e1]at h;simp only[qby]at h;cases e3:f a with
  |none=>rw[e3]at h;cases h
  |some c=>rw[e3]at h;cases h;exact⟨a,rfl,e3⟩
theorem mC_inv {f:List D->Option D}{ma:MA}(h:mC f ma ρ=some (d,ρ')):∃a,ma ρ=some (a,ρ')/\f a=some d:=by
 unfold mC at h;cases e1:ma ρ with
 |none=>rw[e1]at h;cases h
 |some p=>
  obtain⟨a,ρ1⟩:=p;rw[e1]at h;simp only[qby]at h;cases e3:f a with
  |none=>rw[e3]at h;cases h
  |some c=>rw[e3]at h;cases h;exact⟨a,rfl,e3⟩
section
variable {X:Cx} {a b:Expr} {ma mb:ME} {pos:Pos} {f:D->D->Option D}
theorem zox {r:R2}{ta tb:TE}(hv:V2 X r f)
  (sa:∀B G H σ ρ d ρ' (Q:VK),SI X.K B G H σ ρ->ma ρ=some (d,ρ')->(∀G' H' v,SI X.K B G' H' σ ρ'->Fz G G'->RepD X.K G' v d->Q v H')->ta σ H Q)
  (sb:∀B G H σ ρ d ρ' (Q:VK),SI X.K B G H σ ρ->mb ρ=some (d,ρ')->(∀G' H' v,SI X.K B G' H' σ ρ'->Fz G G'->RepD X.K G' v d->Q v H')->tb σ H Q):
  ∀B G H σ ρ d ρ' (Q:VK),SI X.K B G H σ ρ->m2 f ma mb ρ=some (d,ρ')->(∀G' H' v,SI X.K B G' H' σ ρ'->Fz G G'->RepD X.K G' v d->Q v H')->tOp r ta tb σ H Q:=by
 intro B G H σ ρ d ρ' Q I hm k;obtain⟨x,ρ1,y,e1,e2,e3⟩:=m2_inv hm;exact sa B G H σ ρ x ρ1 _ I e1 fun G1 H1 v I1 f1 r1=>sb B G1 H1 σ ρ1 y ρ' _ I1 e2 fun G2 H2 u I2 f2 r2=>
  hv B G2 H2 σ ρ' v u x y d Q I2 (r1.mono f2) r2 e3 fun G3 H3 z I3 f3 r3=>k G3 H3 z I3 (f1.trans (f2.trans f3)) r3
theorem zpD {r:R2}(ho:OpR X (binaryOp op) r)(hv:V2 X r f)(ha:SE X a ma)(hb:SE X b mb):SE X (.BinOp a op b pos) (m2 f ma mb):=by
 obtain⟨ta,pa,sa⟩:=ha;obtain⟨tb,pb,sb⟩:=hb;exact⟨_,pe_op ho pa pb,zox hv sa sb⟩
theorem zms {op:CmpOp}{r:R2}(ho:OpR X (compareOp op) r)(hv:V2 X r f)(ha:SE X a ma)(hb:SE X b mb)(hm:behindInMarks op b=false):SE X (.Compare a [op] [b] pos) (m2 f ma mb):=by
 obtain⟨ta,pa,sa⟩:=ha;obtain⟨tb,pb,sb⟩:=hb;exact⟨_,pe_cmpR ho pa pb hm,zox hv sa sb⟩
theorem se_un {op:UnaryOp}(ho:UnR X (unaryOp op) r)(hv:V1 X r g)(ha:SE X a ma):SE X (.UnaryOp op a pos) (m1 g ma):=by
 obtain⟨ta,pa,sa⟩:=ha;refine⟨_,pe_un ho pa,fun B G H σ ρ d ρ' Q I hm k=>?_⟩;obtain⟨x,e1,e2⟩:=m1_inv hm;exact sa B G H σ ρ x ρ' _ I e1 fun G1 H1 v I1 f1 r1=>hv B G1 H1 σ ρ' v x d Q I1 r1 e2 fun G2 H2 z I2 f2 r2=>k G2 H2 z I2 (f1.trans f2) r2
theorem se_ix {r:R2}(hr:IxR X r)(hv:V2 X r f)(ha:SE X a ma)(hb:SE X b mb)(hs:zmg b):SE X (.Subscript a b pos) (m2 f ma mb):=by
 obtain⟨ta,pa,sa⟩:=ha;obtain⟨tb,pb,sb⟩:=hb;exact⟨_,pe_ix hr pa pb hs,zox hv sa sb⟩
end
section
variable {X:Cx} {x:Str} {p pos:Pos} {e:Expr} {es:List Expr} {ma:MA} {id T:String} {r:List V->Hp->VK->Prop} {f:List D->Option D}
theorem soundC {t:TA}(hv:VC X r f)(sa:∀B G H σ ρ ds ρ' (Q:List V->Hp->Prop),SI X.K B G H σ ρ->ma ρ=some (ds,ρ')->(∀G' H' vs,SI X.K B G' H' σ ρ'->Fz G G'->RepL X.K G' vs ds->Q vs H')->t σ H Q):
  ∀B G H σ ρ d ρ' (Q:VK),SI X.K B G H σ ρ->mC f ma ρ=some (d,ρ')->(∀G' H' v,SI X.K B G' H' σ ρ'->Fz G G'->RepD X.K G' v d->Q v H')->tCB r t σ H Q:=by
 intro B G H σ ρ d ρ' Q I hm k;obtain⟨ds,e1,e2⟩:=mC_inv hm;exact sa B G H σ ρ ds ρ' _ I e1 fun G1 H1 vs I1 f1 r1=>hv B G1 H1 σ ρ' vs ds d Q I1 r1 e2 fun G2 H2 z I2 f2 r2=>k G2 H2 z I2 (f1.trans f2) r2
theorem zeD (hc:zge X (.builtin id) r)(hv:VC X r f)(hb:bootBuiltins x=some (.builtin id))(hm:X.mg x=none)(ha:SA X (e::es) ma)(hg:Gl X x:=by rfl)(hn:x≠"__name__":=by decide)(hdb:(x==("__debug__":Str))=false:=by decide)
  (he:starEach (e::es) X.env=(false,eval e X.env)::starEach es X.env:=by rfl) (hpl:(backTo pos (starEach es X.env)).any (·.1)=false:=by rfl):SE X (.Call (.Name x p) (e::es) [] pos) (mC f ma):=by
 obtain⟨t,pa,sa⟩:=ha;exact⟨_,zic hc hg hm hb pa hn hdb he hpl,soundC hv sa⟩
theorem zq5 (hc:zge X (.type T) r)(hv:VC X r f)(hb:bootBuiltins x=some (.type T))(hm:X.mg x=none)(ha:SA X (e::es) ma)(hg:Gl X x:=by rfl)(hn:x≠"__name__":=by decide)(hdb:(x==("__debug__":Str))=false:=by decide)
  (he:starEach (e::es) X.env=(false,eval e X.env)::starEach es X.env:=by rfl) (hpl:(backTo pos (starEach es X.env)).any (·.1)=false:=by rfl):SE X (.Call (.Name x p) (e::es) [] pos) (mC f ma):=by
 obtain⟨t,pa,sa⟩:=ha;exact⟨_,zmR hc hg hm hb pa hn hdb he hpl,soundC hv sa⟩
end
end M
namespace M
open L2 PySem PySem.Spec
open PyProof.Rows hiding St
variable {v:V} {ds cs out:List D} {p pos pos':Pos} {xs vs ys:List V} {X:Cx} {C:Int->Int->Prop} {c l:Addr} {g:D->R->Option R} {a b e:Expr} {ma:MA} {i j n t:Nat} {mb:ME} {K:W.Frag} {G H H' G':Hp} {us its:List Value} {u:Value} {d:D} {B:Bs} {σ σc:St} {ρ ρ':R} {s:Sl} {x qual:Str} {Q E:Value->Shared->Prop} {f:D->D->Option D} {op op':CmpOp} {m mc:MT} {es ifs:List Expr} {h:List D->R->Option R} {body:List Stmt} {N ps:List Str} {fd:FuncData} {env:Env} {scope:Scope} {A:Around} {cl:List (Str×Addr)} {h':Heap} {prog:Program} {w:World} {use:Option (Value->Sem Unit)} {ov:Option (Option V)} {cap:List Nat} {wi:TI} {tg':Addr->Shared->Hp->List Addr->TG} {tt:Addr->Shared->Hp->List Addr->TT} {te:Addr->Shared->Hp->List Addr->TE} {ns:List Int}
section
variable {X:Cx} {K:W.Frag} {B:Bs} {G H:Hp} {σ:St} {ρ:R}
theorem SI.lst (I:SI K B G H σ ρ)(h:RepD K G v (.lst ds)):∃a xs,v= .ref a/\H a=some (.lst xs)/\RepL K G xs ds:=by
 obtain⟨a,xs,e,q,r⟩:=h;exact⟨a,xs,e,I.fz a _ q,r⟩
theorem SI.tup (I:SI K B G H σ ρ)(h:RepD K G v (.tup ds)):∃a xs,v= .ref a/\H a=some (.tup xs)/\RepL K G xs ds:=by
 obtain⟨a,xs,e,q,r⟩:=h;exact⟨a,xs,e,I.fz a _ q,r⟩
theorem SI.newT (I:SI K B G H σ ρ){p:Addr}(hp:H p=none)(h:RepL K G xs ds):SI K B (upd G p (.tup xs)) (upd H p (.tup xs)) σ ρ/\Fz G (upd G p (.tup xs))/\RepD K (upd G p (.tup xs)) (.ref p) (.tup ds):=
 ⟨I.allocF hp _,Fz.new (I.fz.free hp) _,⟨p,xs,rfl,zaF,h.mono (Fz.new (I.fz.free hp) _)⟩⟩
theorem SI.newL (I:SI K B G H σ ρ){p:Addr}(hp:H p=none)(h:RepL K G xs ds):SI K B (upd G p (.lst xs)) (upd H p (.lst xs)) σ ρ/\Fz G (upd G p (.lst xs))/\RepD K (upd G p (.lst xs)) (.ref p) (.lst ds):=
 ⟨I.allocF hp _,Fz.new (I.fz.free hp) _,⟨p,xs,rfl,zaF,h.mono (Fz.new (I.fz.free hp) _)⟩⟩
end
noncomputable def dI2 (c:Int->Int->Bool)(g:Int->Int->D):D->D->Option D
 | .int i,.int j=>if c i j then some (g i j)else none
 |_,_=>none
theorem zpR {c:Int->Int->Bool}{g:Int->Int->Int}(hc:∀i j,c i j=true->C i j):V2 X (rI C fun i j=> .int (g i j)) (dI2 c fun i j=> .int (g i j)):=by
 intro B G H σ ρ x y a b d Q I ra rb hf k;cases a<;>cases b<;>simp only[dI2]at hf<;>try cases hf
 rename_i i j
 split at hf
 ·rename_i h;cases hf;exact⟨i,j,ra,rb,hc i j h,k G H _ I (Fz.refl G) rfl⟩
 ·cases hf
theorem v2_int0 {g:Int->Int->Int}:V2 X (rI0 fun i j=> .int (g i j)) (dI2 (fun _ _=>true) fun i j=> .int (g i j)):=by
 intro B G H σ ρ x y a b d Q I ra rb hf k;cases a<;>cases b<;>simp only[dI2]at hf<;>try cases hf
 rename_i i j;exact⟨i,j,ra,rb,k G H _ I (Fz.refl G) rfl⟩
theorem zey {g:Int->Int->Bool}:V2 X (rI0 fun i j=> .bl (g i j)) (dI2 (fun _ _=>true) fun i j=> .bl (g i j)):=by
 intro B G H σ ρ x y a b d Q I ra rb hf k;cases a<;>cases b<;>simp only[dI2]at hf<;>try cases hf
 rename_i i j;exact⟨i,j,ra,rb,k G H _ I (Fz.refl G) rfl⟩
noncomputable def dSub:D->D->Option D:=dI2 (fun _ _=>true) fun i j=> .int (i-j)
noncomputable def zpr (j:Int):Bool:=decide (0<j)&&decide (j.natAbs.log2<9000)
theorem op_fdivW:OpR X (binaryOp .FloorDiv) (rI (fun _ j=>0<j/\j.natAbs.log2<9000) fun i j=> .int (i/j)):=opI fun i j _ _ _ _ _ hc q=>by
 have h1:(0:Int)<j:=hc.1;exact PyProof.Rows.floordiv_int (by lia) (by rw[Int.fdiv_eq_ediv_of_nonneg i (by lia)];exact q) (.inl (PyProof.noPylong_of_log2 hc.2))
noncomputable def dDiv:D->D->Option D:=dI2 (fun _ j=>zpr j) fun i j=> .int (i/j)
noncomputable def dMod:D->D->Option D:=dI2 (fun _ j=>decide (0<j)) fun i j=> .int (i%j)
noncomputable def dPow:D->D->Option D:=dI2 (fun i j=>decide (0<=j)&&decide (j<=1000000)&&decide (i.natAbs<2^64)) fun i j=> .int (i^j.toNat)
noncomputable def dLt:D->D->Option D:=dI2 (fun _ _=>true) fun i j=> .bl (decide (i<j))
noncomputable def dLe:D->D->Option D:=dI2 (fun _ _=>true) fun i j=> .bl (decide (i<=j))
noncomputable def dGt:D->D->Option D:=dI2 (fun _ _=>true) fun i j=> .bl (decide (j<i))
noncomputable def dGe:D->D->Option D:=dI2 (fun _ _=>true) fun i j=> .bl (decide (j<=i))
section
variable {X:Cx} {a b:Expr} {ma mb:ME} {pos:Pos}
theorem zbJ (ha:SE X a ma)(hb:SE X b mb):SE X (.BinOp a .Sub b pos) (m2 dSub ma mb):=zpD op_sub v2_int0 ha hb
theorem zhq (ha:SE X a ma)(hb:SE X b mb):SE X (.BinOp a .FloorDiv b pos) (m2 dDiv ma mb):=zpD op_fdivW (zpR fun i j h=>by simpa[zpr]using h) ha hb
theorem zbU (ha:SE X a ma)(hb:SE X b mb):SE X (.BinOp a .Mod b pos) (m2 dMod ma mb):=zpD op_mod (zpR fun i j h=>by simpa using h) ha hb
theorem zhl (ha:SE X a ma)(hb:SE X b mb):SE X (.BinOp a .Pow b pos) (m2 dPow ma mb):=zpD op_pow (zpR fun i j h=>by simp only[qbi,qbA]at h;exact⟨h.1.1,h.1.2,h.2⟩) ha hb
theorem se_lt (ha:SE X a ma)(hb:SE X b mb):SE X (.Compare a [.Lt] [b] pos) (m2 dLt ma mb):=zms op_lt zey ha hb (zhE _)
theorem se_le (ha:SE X a ma)(hb:SE X b mb):SE X (.Compare a [.LtE] [b] pos) (m2 dLe ma mb):=zms zn9 zey ha hb (zhE _)
theorem se_gt (ha:SE X a ma)(hb:SE X b mb):SE X (.Compare a [.Gt] [b] pos) (m2 dGt ma mb):=zms op_gt zey ha hb (zhE _)
end
noncomputable def dNeg:D->Option D
 | .int i=>some (.int (-i))
 |_=>none
theorem zj4 {ma:ME}(ha:SE X a ma):SE X (.UnaryOp .USub a pos) (m1 dNeg ma):=
 se_un un_neg (fun B G H σ ρ x a d Q I ra hf k=>by
  cases a<;>simp only[dNeg]at hf<;>try cases hf
  exact⟨_,ra,k G H _ I (Fz.refl G) rfl⟩) ha
noncomputable def zlQ (i j:Int):Bool:=(decide (i.natAbs<2^64)||decide (j.natAbs<2^64))||(decide (i.natAbs<2^4000)&&decide (j.natAbs<2^4000))
noncomputable def dMul:D->D->Option D
 | .int i,.int j=>if zlQ i j then some (.int (i*j))else none
 | .lst ds,.int k=>if decide (-1000000<=k)&&decide (k<=1000000)&&decide (ds.length*k.toNat<=1000000)then some (.lst (List.replicate k.toNat ds).flatten)else none
 |_,_=>none
theorem zkI {k:Int}(h:k.natAbs<2^4000):Builtin.Int.intBits k<=4000:=by
 unfold Builtin.Int.intBits
 split
 ·exact qbv _
 ·have:k.natAbs.log2<4000:=by
   rcases Nat.eq_zero_or_pos k.natAbs with h0|hp
   ·rw[h0];decide
   ·exact(Nat.log2_lt (Nat.ne_of_gt hp)).mpr h
  lia
theorem mulOk_ok {i j:Int}(h:zlQ i j=true):IntMulOk i j:=by
 unfold zlQ at h;simp only[qbB,qbi,qbA]at h;rcases h with(h|h)|⟨h1,h2⟩
 ·exact .of_left (intBits_le_64 (by lia) (by lia))
 ·exact .of_right (intBits_le_64 (by lia) (by lia))
 ·have b1:=zkI h1;have b2:=zkI h2;unfold IntMulOk;intro z;simp only[qbi]at z;have z2:=z.2;unfold Builtin.Int.intTooBig at z2
  revert z2
  generalize Builtin.Int.intBits i=p at*
  generalize Builtin.Int.intBits j=q at*
  intro z2;have z3:=qbC z2;have hb:=bitsLine_eq;lia
theorem op_mulG:OpR X (binaryOp .Mult) (rI IntMulOk fun i j=> .int (i*j)):=opI fun _ _ _ _ _ _ _ hc q=>mul_int q hc
theorem zff {ma mb:ME}(ha:SE X a ma)(hb:SE X b mb):SE X (.BinOp a .Mult b pos) (m2 dMul ma mb):=by
 refine zpD (op_mulG.or op_rep) (fun B G H σ ρ x y a b d Q I ra rb hf k=>?_) ha hb;cases a<;>cases b<;>simp only[dMul]at hf<;>try cases hf
 ·rename_i i j
  split at hf
  ·rename_i h;cases hf;exact .inl ⟨i,j,ra,rb,mulOk_ok h,k G H _ I (Fz.refl G) rfl⟩
  ·cases hf
 ·rename_i ds j
  split at hf
  ·rename_i h;cases hf;simp only[qbi,qbA]at h;obtain⟨a,xs,rfl,ha,r⟩:=I.lst ra;have hl:=r.length;refine .inr ⟨a,j,xs,rfl,rb,ha,by lia,by lia,by rw[hl,qaN];lia,fun p hp=>?_⟩;obtain⟨I2,f2,r2⟩:=I.newL hp (r.rep j.toNat);exact k _ _ _ I2 f2 r2
  ·cases hf
noncomputable def dAdd:D->D->Option D
 | .int i,.int j=>some (.int (i+j))
 | .tup a,.tup b=>if a.length+b.length<=16777216 then some (.tup (a++b))else none
 | .lst a,.lst b=>if a.length+b.length<=16777216 then some (.lst (a++b))else none
 | .str a,.str b=>if a.length+b.length<=16777216 then some (.str (a++b))else none
 |_,_=>none
theorem op_catT0:OpR X (binaryOp .Add) (fun x y H Q=>∃a b ys,x= .ref a/\y= .ref b/\SqT X.K H a []/\SqT X.K H b ys/\Q (.ref b) H):=by
 intro pins s σ H x y v u Q I rx ry h;obtain⟨a,b,ys,rfl,rfl,ha,hb,q⟩:=h;cases rx;cases ry;obtain⟨its,r1,p1,_⟩:=I.tuple ha;obtain⟨its2,r2,p2,_⟩:=I.tuple hb;obtain rfl:its=[]:=by cases r1;rfl
 obtain⟨⟨cls,dd,data,sl⟩,ho,hc,n,hd⟩:=id p1;obtain⟨⟨cls2,dd2,data2,sl2⟩,ho2,hc2,n2,hd2⟩:=id p2;simp only at hc hd hc2 hd2;subst hc hd hc2 hd2;exact concat_meets ⟨_,ho,rfl⟩ ⟨_,ho2,rfl⟩ noFill_tuple_add seq_tuple_add qa8 qa9 (qba _ _)
   (tuple_addW0 a b _ _ n n2 dd dd2 sl sl2 (by simp)) ⟨ho,ho2,⟨.ref b,H,I,rfl,q⟩⟩
theorem zaM {ma mb:ME}(ha:SE X a ma)(hb:SE X b mb):SE X (.BinOp a .Add b pos) (m2 dAdd ma mb):=by
 refine zpD (op_add.or (op_catT.or (op_catT0.or (op_cat.or zpg)))) (fun B G H σ ρ x y a b d Q I ra rb hf k=>?_) ha hb;cases a<;>cases b<;>simp only[dAdd]at hf<;>try cases hf
 ·exact .inl ⟨_,_,ra,rb,k G H _ I (Fz.refl G) rfl⟩
 ·rename_i i j
  split at hf
  ·rename_i h;cases hf;exact .inr (.inr (.inr (.inr ⟨i,j,ra,rb,by rw[qaN];exact h,k G H _ I (Fz.refl G) rfl⟩)))
  ·cases hf
 ·rename_i as bs
  split at hf
  ·rename_i h;cases hf;obtain⟨a,xs,rfl,ha,r⟩:=I.lst ra;obtain⟨b,ys,rfl,hb,r2⟩:=I.lst rb;refine .inr (.inr (.inr (.inl ⟨a,b,xs,ys,rfl,rfl,ha,hb,by rw[r.length,r2.length,qaN];exact h,fun p hp=>?_⟩)));obtain⟨I2,f2,r2⟩:=I.newL hp (r.append r2);exact k _ _ _ I2 f2 r2
  ·cases hf
 ·rename_i as bs
  split at hf
  ·rename_i h;cases hf;obtain⟨a,xs,rfl,ha,r⟩:=I.tup ra;obtain⟨b,ys,rfl,hb,r2⟩:=I.tup rb
   by_cases z:xs=[]
   ·subst z;have z':as=[]:=List.eq_nil_of_length_eq_zero r.length.symm;subst z';exact .inr (.inr (.inl ⟨a,b,ys,rfl,rfl,SqT.of ha,SqT.of hb,k G H _ I (Fz.refl G) rb⟩))
   ·refine .inr (.inl ⟨a,b,xs,ys,rfl,rfl,SqT.of ha,SqT.of hb,z,by rw[r.length,r2.length,qaN];exact h,fun w=>?_,fun w p hp=>?_⟩)
    ·subst w;have w':bs=[]:=List.eq_nil_of_length_eq_zero r2.length.symm;subst w';rw[qaQ]at k;exact k G H _ I (Fz.refl G) ra
    ·obtain⟨I2,f2,r2⟩:=I.newT hp (r.append r2);exact k _ _ _ I2 f2 r2
  ·cases hf
mutual
noncomputable def noS:D->Bool
 | .scr _=>false
 | .exc _=>false
 | .dic _ _=>false
 | .dit _ _=>false
 | .lst ds=>noSL ds
 | .tup ds=>noSL ds
 |_=>true
noncomputable def noSL:List D->Bool
 |[]=>true
 |d::ds=>noS d&&noSL ds
end
mutual
noncomputable def eqB:D->D->Bool
 | .non,.non=>true
 | .bl a,.bl b=>a==b
 | .int a,.int b=>a==b
 | .str a,.str b=>a==b
 | .bl a,.int b=>(if a then 1 else 0)==b
 | .int a,.bl b=>a==(if b then 1 else 0)
 | .lst a,.lst b=>eqBL a b
 | .tup a,.tup b=>eqBL a b
 |_,_=>false
noncomputable def eqBL:List D->List D->Bool
 |[],[]=>true
 |a::as,b::bs=>eqB a b&&eqBL as bs
 |_,_=>false
end
theorem zim:∀{as bs:List D},as.length≠bs.length->eqBL as bs=false
 |[],[],h=>absurd rfl h
 |[],_::_,_=>rfl
 |_::_,[],_=>rfl
 |a::as,b::bs,h=>by
  have:=zim (as:=as) (bs:=bs) (fun e=>h (by simp[e]));simp[eqBL,this]
mutual
theorem zlw:∀d,noS d=true->eqB d d=true
 | .non,_=>rfl
 | .bl b,_=>by simp[eqB]
 | .int b,_=>by simp[eqB]
 | .str b,_=>by simp[eqB]
 | .lst ds,h=>by simp only[noS]at h;simp only[eqB];exact zjU ds h
 | .tup ds,h=>by simp only[noS]at h;simp only[eqB];exact zjU ds h
 | .scr _,h=>by simp[noS]at h
 | .exc _,h=>by simp[noS]at h
 |(.dic _ _),h=>by simp[noS]at h
 |(.dit _ _),h=>by simp[noS]at h
theorem zjU:∀ds,noSL ds=true->eqBL ds ds=true
 |[],_=>rfl
 |d::ds,h=>by
  simp only[noSL,qbi]at h;simp only[eqBL,qbi];exact⟨zlw d h.1,zjU ds h.2⟩
end
mutual
noncomputable def depth:D->Nat
 | .lst ds=>zhw ds+1
 | .tup ds=>zhw ds+1
 |_=>0
noncomputable def zhw:List D->Nat
 |[]=>0
 |d::ds=>max (depth d) (zhw ds)
end
theorem ziU:∀{l:List D} {i:Nat} {d:D},l[i]? =some d->depth d<=zhw l
 |[],_,_,h=>by simp at h
 |c::l,0,d,h=>by simp at h;subst h;simp only[zhw];lia
 |c::l,i+1,d,h=>by
  have:=ziU (l:=l) (i:=i) (d:=d) (by simpa using h);simp only[zhw];lia
theorem zit:∀{l:List D} {i:Nat} {d:D},l[i]? =some d->noSL l=true->noS d=true
 |[],_,_,h,_=>by simp at h
 |c::l,0,d,h,z=>by simp at h;subst h;simp only[noSL,qbi]at z;exact z.1
 |c::l,i+1,d,h,z=>by simp only[noSL,qbi]at z;exact zit (l:=l) (i:=i) (by simpa using h) z.2
mutual
theorem RepD.inj:∀{a b:D} {x:V},noS a=true->noS b=true->RepD K G x a->RepD K G x b->a=b
 | .non,b,x,_,nb,ra,rb=>by
  cases(show x=V.non from ra);cases b<;>simp_all [RepD,noS]
 | .bl c,b,x,_,nb,ra,rb=>by
  cases(show x=V.bl c from ra);cases b<;>simp_all [RepD,noS]
 | .int c,b,x,_,nb,ra,rb=>by
  cases(show x=V.int c from ra);cases b<;>simp_all [RepD,noS]
 | .str c,b,x,_,nb,ra,rb=>by
  cases(show x=V.str c from ra);cases b<;>simp_all [RepD,noS]
 | .lst ds,b,x,na,nb,ra,rb=>by
  obtain⟨p,xs,rfl,q,r⟩:=ra;cases b with
  |lst es=>
   obtain⟨p2,ys,e,q2,r2⟩:=rb;cases e;rw[q]at q2;cases q2;simp only[noS]at na nb;rw[RepL.inj na nb r r2]
  |tup es=>
   obtain⟨p2,ys,e,q2,r2⟩:=rb;cases e;rw[q]at q2;cases q2
  |scr _=>simp[noS]at nb
  |exc _=>simp[noS]at nb
  |dic _ _=>simp[noS]at nb
  |dit _ _=>simp[noS]at nb
  |non=>simp[RepD]at rb
  |bl _=>simp[RepD]at rb
  |int _=>simp[RepD]at rb
  |str _=>simp[RepD]at rb
 | .tup ds,b,x,na,nb,ra,rb=>by
  obtain⟨p,xs,rfl,q,r⟩:=ra;cases b with
  |tup es=>
   obtain⟨p2,ys,e,q2,r2⟩:=rb;cases e;rw[q]at q2;cases q2;simp only[noS]at na nb;rw[RepL.inj na nb r r2]
  |lst es=>
   obtain⟨p2,ys,e,q2,r2⟩:=rb;cases e;rw[q]at q2;cases q2
  |scr _=>simp[noS]at nb
  |exc _=>simp[noS]at nb
  |dic _ _=>simp[noS]at nb
  |dit _ _=>simp[noS]at nb
  |non=>simp[RepD]at rb
  |bl _=>simp[RepD]at rb
  |int _=>simp[RepD]at rb
  |str _=>simp[RepD]at rb
 | .scr _,_,_,na,_,_,_=>by simp[noS]at na
 | .exc _,_,_,na,_,_,_=>by simp[noS]at na
 |(.dic _ _),_,_,na,_,_,_=>by simp[noS]at na
 |(.dit _ _),_,_,na,_,_,_=>by simp[noS]at na
theorem RepL.inj:∀{as bs:List D} {xs:List V},noSL as=true->noSL bs=true->RepL K G xs as->RepL K G xs bs->as=bs
 |[],[],_,_,_,_,_=>rfl
 |[],_::_,xs,_,_,e,h=>by
  obtain⟨_,_,e2,_⟩:=h;cases(show xs=[]from e);cases e2
 |_::_,[],xs,_,_,h,e=>by
  obtain⟨_,_,e2,_⟩:=h;cases(show xs=[]from e);cases e2
 |a::as,b::bs,xs,na,nb,h,h2=>by
  obtain⟨x,ys,e,q,r⟩:=h;obtain⟨x2,ys2,e2,q2,r2⟩:=h2;subst e;cases e2;simp only[noSL,qbi]at na nb;rw[RepD.inj na.1 nb.1 q q2,RepL.inj na.2 nb.2 r r2]
end
noncomputable def eqJ (ds es:List D)(j:Nat):Bool:=match ds[j]?,es[j]? with
 |some a,some b=>eqB a b
 |_,_=>false
theorem zfd:∀(as bs:List D),as.length=bs.length->(List.range as.length).all (eqJ as bs)=eqBL as bs
 |[],[],_=>by simp[eqBL]
 |a::as,b::bs,h=>by
  have ih:=zfd as bs (by simpa using h);rw[qa5,List.range_succ_eq_map,qbn,List.all_map];simp only[eqBL,<-ih];congr 1
 |[],_::_,h=>by simp at h
 |_::_,[],h=>by simp at h
section
variable {X:Cx} {pins:List (Addr×Obj)} {σ:St} {H G:Hp} {s:Shared}
theorem zlL (r:Vals xs us)(h:RepL X.K G xs ds)(e:us[j]? =some u):∃x d,ds[j]? =some d/\RelV x u/\RepD X.K G x d:=by
 have hl:=r.length;have hl2:=h.length;have hj:j<us.length:=(qar.mp e).1;have ej:ds[j]? =some ds[j]:=qbD (by lia);obtain⟨x,q1,q2⟩:=h.get ej;obtain⟨u',h1,h2⟩:=r.get q1;have:u'=u:=by rw[h1]at e;exact Option.some.inj e
 subst this;exact⟨x,_,ej,h2,q2⟩
theorem eqAt_D (I:Inv X pins σ H s)(fz:Fz G H):∀(n:Nat) (A:Around) (a b:D) (x y:V) (u v:Value),depth a<=n->noS a=true->noS b=true->A.units+n+1<cLine->RepD X.K G x a->RepD X.K G y b->RelV x u->RelV y v->
  SeqAt.EqAt A s u v (eqB a b)/\SeqAt.RcAt A s u v (eqB a b):=by
 intro n
 induction n with
 |zero=>
  intro A a b x y u v hd na nb hu ra rb rx ry;have hu':A.units<cLine:=by lia
  cases a with
  |non=>
   cases(show x=V.non from ra);cases(show u=Value.none from rx);cases b with
   |non=>cases(show y=V.non from rb);cases(show v=Value.none from ry);exact⟨.same _,.none_none⟩
   |bl c=>cases(show y=V.bl c from rb);cases(show v=Value.bool c from ry);exact⟨.none_bool _,.none_bool _⟩
   |int c=>cases(show y=V.int c from rb);obtain⟨t,rfl⟩:=ry;exact⟨.none_int _ _,.none_int _ _⟩
   |str c=>cases(show y=V.str c from rb);obtain⟨t,rfl⟩:=ry;exact⟨.none_str _ _,.none_str _ _⟩
   |lst ds=>
    obtain⟨p,xs,rfl,q,r⟩:=rb;cases(show v=Value.ref p from ry);obtain⟨its,rv,pl,hz⟩:=I.list (SqL.of (fz _ _ q));exact⟨.none_list pl.isList hu',.none_list pl.isList hu'⟩
   |tup ds=>
    obtain⟨p,xs,rfl,q,r⟩:=rb;cases(show v=Value.ref p from ry);obtain⟨its,rv,pl,hz⟩:=I.tuple (SqT.of (fz _ _ q));exact⟨.none_tuple pl hu',.none_tuple pl hu'⟩
   |scr _=>simp[noS]at nb
   |exc _=>simp[noS]at nb
   |dic _ _=>simp[noS]at nb
   |dit _ _=>simp[noS]at nb
  |bl c0=>
   cases(show x=V.bl c0 from ra);cases(show u=Value.bool c0 from rx);cases b with
   |non=>cases(show y=V.non from rb);cases(show v=Value.none from ry);exact⟨.bool_none _,.bool_none _⟩
   |bl c=>cases(show y=V.bl c from rb);cases(show v=Value.bool c from ry);exact⟨.bool_bool _ _,.bool_bool _ _⟩
   |int c=>cases(show y=V.int c from rb);obtain⟨t,rfl⟩:=ry;exact⟨.bool_int _ _ _,.bool_int _ _ _⟩
   |str c=>cases(show y=V.str c from rb);obtain⟨t,rfl⟩:=ry;exact⟨.bool_str _ _ _,.bool_str _ _ _⟩
   |lst ds=>
    obtain⟨p,xs,rfl,q,r⟩:=rb;cases(show v=Value.ref p from ry);obtain⟨its,rv,pl,hz⟩:=I.list (SqL.of (fz _ _ q));exact⟨.bool_list _ pl.isList hu',.bool_list _ pl.isList hu'⟩
   |tup ds=>
    obtain⟨p,xs,rfl,q,r⟩:=rb;cases(show v=Value.ref p from ry);obtain⟨its,rv,pl,hz⟩:=I.tuple (SqT.of (fz _ _ q));exact⟨.bool_tuple _ pl hu',.bool_tuple _ pl hu'⟩
   |scr _=>simp[noS]at nb
   |exc _=>simp[noS]at nb
   |dic _ _=>simp[noS]at nb
   |dit _ _=>simp[noS]at nb
  |int c0=>
   cases(show x=V.int c0 from ra);obtain⟨t0,rfl⟩:=rx;cases b with
   |non=>cases(show y=V.non from rb);cases(show v=Value.none from ry);exact⟨.int_none _ _,.int_none _ _⟩
   |bl c=>cases(show y=V.bl c from rb);cases(show v=Value.bool c from ry);exact⟨.int_bool _ _ _,.int_bool _ _ _⟩
   |int c=>cases(show y=V.int c from rb);obtain⟨t,rfl⟩:=ry;exact⟨.int_int _ _ _ _,.int_int _ _ _ _⟩
   |str c=>cases(show y=V.str c from rb);obtain⟨t,rfl⟩:=ry;exact⟨.int_str _ _ _ _,.int_str _ _ _ _⟩
   |lst ds=>
    obtain⟨p,xs,rfl,q,r⟩:=rb;cases(show v=Value.ref p from ry);obtain⟨its,rv,pl,hz⟩:=I.list (SqL.of (fz _ _ q));exact⟨.int_list _ _ pl.isList hu',.int_list _ _ pl.isList hu'⟩
   |tup ds=>
    obtain⟨p,xs,rfl,q,r⟩:=rb;cases(show v=Value.ref p from ry);obtain⟨its,rv,pl,hz⟩:=I.tuple (SqT.of (fz _ _ q));exact⟨.int_tuple _ _ pl hu',.int_tuple _ _ pl hu'⟩
   |scr _=>simp[noS]at nb
   |exc _=>simp[noS]at nb
   |dic _ _=>simp[noS]at nb
   |dit _ _=>simp[noS]at nb
  |str c0=>
   cases(show x=V.str c0 from ra);obtain⟨t0,rfl⟩:=rx;cases b with
   |non=>cases(show y=V.non from rb);cases(show v=Value.none from ry);exact⟨.str_none _ _,.str_none _ _⟩
   |bl c=>cases(show y=V.bl c from rb);cases(show v=Value.bool c from ry);exact⟨.str_bool _ _ _,.str_bool _ _ _⟩
   |int c=>cases(show y=V.int c from rb);obtain⟨t,rfl⟩:=ry;exact⟨.str_int _ _ _ _,.str_int _ _ _ _⟩
   |str c=>cases(show y=V.str c from rb);obtain⟨t,rfl⟩:=ry;exact⟨.str_str _ _ _ _,.str_str _ _ _ _⟩
   |lst ds=>
    obtain⟨p,xs,rfl,q,r⟩:=rb;cases(show v=Value.ref p from ry);obtain⟨its,rv,pl,hz⟩:=I.list (SqL.of (fz _ _ q));exact⟨.str_list _ _ pl.isList hu',.str_list _ _ pl.isList hu'⟩
   |tup ds=>
    obtain⟨p,xs,rfl,q,r⟩:=rb;cases(show v=Value.ref p from ry);obtain⟨its,rv,pl,hz⟩:=I.tuple (SqT.of (fz _ _ q));exact⟨.str_tuple _ _ pl hu',.str_tuple _ _ pl hu'⟩
   |scr _=>simp[noS]at nb
   |exc _=>simp[noS]at nb
   |dic _ _=>simp[noS]at nb
   |dit _ _=>simp[noS]at nb
  |lst ds=>simp[depth]at hd
  |tup ds=>simp[depth]at hd
  |scr _=>simp[noS]at na
  |exc _=>simp[noS]at na
  |dic _ _=>simp[noS]at na
  |dit _ _=>simp[noS]at na
 |succ n ih=>
  intro A a b x y u v hd na nb hu ra rb rx ry;have hu':A.units<cLine:=by lia
  have items:∀(ds es:List D) (xs ys:List V) (its its2:List Value),zhw ds<=n->noSL ds=true->noSL es=true->RepL X.K G xs ds->RepL X.K G ys es->Vals xs its->Vals ys its2->
    ∀j (h1:j<its.toArray.size) (h2:j<its2.toArray.size),SeqAt.EqAt A.in1 s its.toArray[j] its2.toArray[j] (eqJ ds es j):=by
   intro ds es xs ys its its2 hd nd ne r r2 rv rv2 j h1 h2;simp only[qaO]at h1 h2;obtain⟨x1,d1,e1,k1,m1⟩:=zlL rv r (j:=j) (u:=its[j]) (qbD h1);obtain⟨x2,d2,e2,k2,m2⟩:=zlL rv2 r2 (j:=j) (u:=its2[j]) (qbD h2);have e:eqJ ds es j=eqB d1 d2:=by unfold eqJ;rw[e1,e2]
   rw[e];have:=ziU e1;simpa using(ih A.in1 d1 d2 x1 x2 _ _ (by lia) (zit e1 nd) (zit e2 ne) (by show A.units+1+n+1<cLine;lia) m1 m2 k1 k2).1
  cases a with
  |scr _=>simp[noS]at na
  |exc _=>simp[noS]at na
  |dic _ _=>simp[noS]at na
  |dit _ _=>simp[noS]at na
  |non=>exact ih A .non b x y u v (qbv _) na nb (by lia) ra rb rx ry
  |bl c=>exact ih A (.bl c) b x y u v (qbv _) na nb (by lia) ra rb rx ry
  |int c=>exact ih A (.int c) b x y u v (qbv _) na nb (by lia) ra rb rx ry
  |str c=>exact ih A (.str c) b x y u v (qbv _) na nb (by lia) ra rb rx ry
  |lst ds=>
   have ra0:=ra;obtain⟨p,xs,rfl,q,r⟩:=ra;cases(show u=Value.ref p from rx);obtain⟨its,rv,pl,hz⟩:=I.list (SqL.of (fz _ _ q));cases b with
   |non=>cases(show y=V.non from rb);cases(show v=Value.none from ry);exact⟨.list_none pl.isList hu',.list_none pl.isList hu'⟩
   |bl c=>cases(show y=V.bl c from rb);cases(show v=Value.bool c from ry);exact⟨.list_bool _ pl.isList hu',.list_bool _ pl.isList hu'⟩
   |int c=>cases(show y=V.int c from rb);obtain⟨t,rfl⟩:=ry;exact⟨.list_int _ _ pl.isList hu',.list_int _ _ pl.isList hu'⟩
   |str c=>cases(show y=V.str c from rb);obtain⟨t,rfl⟩:=ry;exact⟨.list_str _ _ pl.isList hu',.list_str _ _ pl.isList hu'⟩
   |scr _=>simp[noS]at nb
   |exc _=>simp[noS]at nb
   |dic _ _=>simp[noS]at nb
   |dit _ _=>simp[noS]at nb
   |tup es=>
    obtain⟨p2,ys,rfl,q2,r2⟩:=rb;cases(show v=Value.ref p2 from ry);obtain⟨its2,rv2,pl2,hz2⟩:=I.tuple (SqT.of (fz _ _ q2));exact⟨.list_tuple pl.isList pl2 hu',.list_tuple pl.isList pl2 hu'⟩
   |lst es=>
    have rb0:=rb;obtain⟨p2,ys,rfl,q2,r2⟩:=rb;cases(show v=Value.ref p2 from ry);obtain⟨its2,rv2,pl2,hz2⟩:=I.list (SqL.of (fz _ _ q2));simp only[depth]at hd;have l1:=rv.length;have l2:=r.length;have l3:=rv2.length;have l4:=r2.length;have rc:SeqAt.RcAt A s (.ref p) (.ref p2) (eqBL ds es):=by
     by_cases hl:ds.length=es.length
     ·have z:=SeqAt.RcAt.lists (A:=A) (s:=s) (e:=eqJ ds es) pl.isList pl2.isList (by simp only[qaO];lia) hu' (items ds es xs ys its its2 (by lia) (by simpa only[noS]using na) (by simpa only[noS]using nb) r r2 rv rv2);rw[qaO,<-l1,l2,zfd ds es hl]at z;exact z
     ·rw[zim hl];refine .lists_lengths pl.isList pl2.isList ?_ hu';simp only[qaO,bne_iff_ne,ne_eq];lia
    refine⟨?_,by simp only[eqB];exact rc⟩
    by_cases hp:p=p2
    ·subst hp;have e:=RepD.inj na nb ra0 rb0;cases e;rw[zlw _ na];exact .same _
    ·simp only[eqB];exact .of_refs hp rc
  |tup ds=>
   have ra0:=ra;obtain⟨p,xs,rfl,q,r⟩:=ra;cases(show u=Value.ref p from rx);obtain⟨its,rv,pl,hz⟩:=I.tuple (SqT.of (fz _ _ q));cases b with
   |non=>cases(show y=V.non from rb);cases(show v=Value.none from ry);exact⟨.tuple_none pl hu',.tuple_none pl hu'⟩
   |bl c=>cases(show y=V.bl c from rb);cases(show v=Value.bool c from ry);exact⟨.tuple_bool _ pl hu',.tuple_bool _ pl hu'⟩
   |int c=>cases(show y=V.int c from rb);obtain⟨t,rfl⟩:=ry;exact⟨.tuple_int _ _ pl hu',.tuple_int _ _ pl hu'⟩
   |str c=>cases(show y=V.str c from rb);obtain⟨t,rfl⟩:=ry;exact⟨.tuple_str _ _ pl hu',.tuple_str _ _ pl hu'⟩
   |scr _=>simp[noS]at nb
   |exc _=>simp[noS]at nb
   |dic _ _=>simp[noS]at nb
   |dit _ _=>simp[noS]at nb
   |lst es=>
    obtain⟨p2,ys,rfl,q2,r2⟩:=rb;cases(show v=Value.ref p2 from ry);obtain⟨its2,rv2,pl2,hz2⟩:=I.list (SqL.of (fz _ _ q2));exact⟨.tuple_list pl pl2.isList hu',.tuple_list pl pl2.isList hu'⟩
   |tup es=>
    have rb0:=rb;obtain⟨p2,ys,rfl,q2,r2⟩:=rb;cases(show v=Value.ref p2 from ry);obtain⟨its2,rv2,pl2,hz2⟩:=I.tuple (SqT.of (fz _ _ q2));simp only[depth]at hd;have l1:=rv.length;have l2:=r.length;have l3:=rv2.length;have l4:=r2.length;have rc:SeqAt.RcAt A s (.ref p) (.ref p2) (eqBL ds es):=by
     have z:=SeqAt.RcAt.tuples (A:=A) (s:=s) (e:=eqJ ds es) pl pl2 hu' (items ds es xs ys its its2 (by lia) (by simpa only[noS]using na) (by simpa only[noS]using nb) r r2 rv rv2);simp only[qaO]at z
     by_cases hl:ds.length=es.length
     ·have e1:min its.length its2.length=ds.length:=by lia
      have e2:(its.length==its2.length)=true:=by simp;lia
      rw[e1,e2,Bool.and_true,zfd ds es hl]at z;exact z
     ·have e2:(its.length==its2.length)=false:=by simp;lia
      rw[e2,Bool.and_false]at z;rw[zim hl];exact z
    refine⟨?_,by simp only[eqB];exact rc⟩
    by_cases hp:p=p2
    ·subst hp;have e:=RepD.inj na nb ra0 rb0;cases e;rw[zlw _ na];exact .same _
    ·simp only[eqB];exact .of_refs hp rc
end
noncomputable def dEq (a b:D):Option D:=if noS a&&noS b&&decide (depth a<=50)then some (.bl (eqB a b))else none
noncomputable def dNe (a b:D):Option D:=if noS a&&noS b&&decide (depth a<=50)then some (.bl (!eqB a b))else none
noncomputable def rEqD (K:W.Frag)(c:Bool->Bool):R2:=fun x y H Q=>∃G a b,Fz G H/\RepD K G x a/\RepD K G y b/\noS a=true/\noS b=true/\depth a<=50/\Q (.bl (c (eqB a b))) H
theorem op_eqD (hu:X.A.units+64<cLine):OpR X (compareOp .Eq) (rEqD X.K id):=by
 intro pins s σ H x y v u Q I rx ry h;obtain⟨G,a,b,fz,ra,rb,na,nb,hd,q⟩:=h;exact(eqAt_D I fz 50 X.A a b x y v u hd na nb (by lia) ra rb rx ry).2 _ _ _ _ ⟨.bl _,H,I,rfl,q⟩
theorem zrH {ma mb:ME}(hu:X.A.units+64<cLine)(ha:SE X a ma)(hb:SE X b mb):SE X (.Compare a [.Eq] [b] pos) (m2 dEq ma mb):=by
 refine zms (op_eqD hu) (fun B G H σ ρ x y a b d Q I ra rb hf k=>?_) ha hb (zhE _);unfold dEq at hf
 split at hf
 ·rename_i h;simp only[qbi,qbA]at h;cases hf;exact⟨G,a,b,I.fz,ra,rb,h.1.1,h.1.2,h.2,k G H _ I (Fz.refl G) rfl⟩
 ·cases hf
section
variable {X:Cx} {pins:List (Addr×Obj)} {σ:St} {H G:Hp} {s:Shared}
theorem neAt_D (I:Inv X pins σ H s)(fz:Fz G H)(A:Around)(a b:D)(x y:V)(u v:Value)(hd:depth a<=50)(na:noS a=true)(nb:noS b=true)(hu:A.units+64<cLine)(ra:RepD X.K G x a)(rb:RepD X.K G y b)(rx:RelV x u)(ry:RelV y v):
  SeqAt.RcNeAt A s u v (!eqB a b):=by
 have hu':A.units<cLine:=by lia
 have items:∀(ds es:List D) (xs ys:List V) (its its2:List Value),zhw ds<=49->noSL ds=true->noSL es=true->RepL X.K G xs ds->RepL X.K G ys es->Vals xs its->Vals ys its2->
   ∀j (h1:j<its.toArray.size) (h2:j<its2.toArray.size),SeqAt.EqAt A.in1 s its.toArray[j] its2.toArray[j] (eqJ ds es j):=by
  intro ds es xs ys its its2 hd nd ne r r2 rv rv2 j h1 h2;simp only[qaO]at h1 h2;obtain⟨x1,d1,e1,k1,m1⟩:=zlL rv r (j:=j) (u:=its[j]) (qbD h1);obtain⟨x2,d2,e2,k2,m2⟩:=zlL rv2 r2 (j:=j) (u:=its2[j]) (qbD h2);have e:eqJ ds es j=eqB d1 d2:=by unfold eqJ;rw[e1,e2]
  rw[e];have:=ziU e1;simpa using(eqAt_D I fz 49 A.in1 d1 d2 x1 x2 _ _ (by lia) (zit e1 nd) (zit e2 ne) (by show A.units+1+49+1<cLine;lia) m1 m2 k1 k2).1
 cases a with
 |scr _=>simp[noS]at na
 |exc _=>simp[noS]at na
 |dic _ _=>simp[noS]at na
 |dit _ _=>simp[noS]at na
 |non=>
  cases(show x=V.non from ra);cases(show u=Value.none from rx);cases b with
  |non=>cases(show y=V.non from rb);cases(show v=Value.none from ry);exact .none_none
  |bl c=>cases(show y=V.bl c from rb);cases(show v=Value.bool c from ry);exact .none_bool _
  |int c=>cases(show y=V.int c from rb);obtain⟨t,rfl⟩:=ry;exact .none_int _ _
  |str c=>cases(show y=V.str c from rb);obtain⟨t,rfl⟩:=ry;exact .none_str _ _
  |lst ds=>
   obtain⟨p,xs,rfl,q,r⟩:=rb;cases(show v=Value.ref p from ry);obtain⟨its,rv,pl,hz⟩:=I.list (SqL.of (fz _ _ q));exact .none_list pl.isList hu'
  |tup ds=>
   obtain⟨p,xs,rfl,q,r⟩:=rb;cases(show v=Value.ref p from ry);obtain⟨its,rv,pl,hz⟩:=I.tuple (SqT.of (fz _ _ q));exact .none_tuple pl hu'
  |scr _=>simp[noS]at nb
  |exc _=>simp[noS]at nb
  |dic _ _=>simp[noS]at nb
  |dit _ _=>simp[noS]at nb
 |bl c0=>
  cases(show x=V.bl c0 from ra);cases(show u=Value.bool c0 from rx);cases b with
  |non=>cases(show y=V.non from rb);cases(show v=Value.none from ry);exact .bool_none _
  |bl c=>cases(show y=V.bl c from rb);cases(show v=Value.bool c from ry);exact .bool_bool _ _
  |int c=>cases(show y=V.int c from rb);obtain⟨t,rfl⟩:=ry;exact .bool_int _ _ _
  |str c=>cases(show y=V.str c from rb);obtain⟨t,rfl⟩:=ry;exact .bool_str _ _ _
  |lst ds=>
   obtain⟨p,xs,rfl,q,r⟩:=rb;cases(show v=Value.ref p from ry);obtain⟨its,rv,pl,hz⟩:=I.list (SqL.of (fz _ _ q));exact .bool_list _ pl.isList hu'
  |tup ds=>
   obtain⟨p,xs,rfl,q,r⟩:=rb;cases(show v=Value.ref p from ry);obtain⟨its,rv,pl,hz⟩:=I.tuple (SqT.of (fz _ _ q));exact .bool_tuple _ pl hu'
  |scr _=>simp[noS]at nb
  |exc _=>simp[noS]at nb
  |dic _ _=>simp[noS]at nb
  |dit _ _=>simp[noS]at nb
 |int c0=>
  cases(show x=V.int c0 from ra);obtain⟨t0,rfl⟩:=rx;cases b with
  |non=>cases(show y=V.non from rb);cases(show v=Value.none from ry);exact .int_none _ _
  |bl c=>cases(show y=V.bl c from rb);cases(show v=Value.bool c from ry);exact .int_bool _ _ _
  |int c=>cases(show y=V.int c from rb);obtain⟨t,rfl⟩:=ry;exact .int_int _ _ _ _
  |str c=>cases(show y=V.str c from rb);obtain⟨t,rfl⟩:=ry;exact .int_str _ _ _ _
  |lst ds=>
   obtain⟨p,xs,rfl,q,r⟩:=rb;cases(show v=Value.ref p from ry);obtain⟨its,rv,pl,hz⟩:=I.list (SqL.of (fz _ _ q));exact .int_list _ _ pl.isList hu'
  |tup ds=>
   obtain⟨p,xs,rfl,q,r⟩:=rb;cases(show v=Value.ref p from ry);obtain⟨its,rv,pl,hz⟩:=I.tuple (SqT.of (fz _ _ q));exact .int_tuple _ _ pl hu'
  |scr _=>simp[noS]at nb
  |exc _=>simp[noS]at nb
  |dic _ _=>simp[noS]at nb
  |dit _ _=>simp[noS]at nb
 |str c0=>
  cases(show x=V.str c0 from ra);obtain⟨t0,rfl⟩:=rx;cases b with
  |non=>cases(show y=V.non from rb);cases(show v=Value.none from ry);exact .str_none _ _
  |bl c=>cases(show y=V.bl c from rb);cases(show v=Value.bool c from ry);exact .str_bool _ _ _
  |int c=>cases(show y=V.int c from rb);obtain⟨t,rfl⟩:=ry;exact .str_int _ _ _ _
  |str c=>cases(show y=V.str c from rb);obtain⟨t,rfl⟩:=ry;exact .str_str _ _ _ _
  |lst ds=>
   obtain⟨p,xs,rfl,q,r⟩:=rb;cases(show v=Value.ref p from ry);obtain⟨its,rv,pl,hz⟩:=I.list (SqL.of (fz _ _ q));exact .str_list _ _ pl.isList hu'
  |tup ds=>
   obtain⟨p,xs,rfl,q,r⟩:=rb;cases(show v=Value.ref p from ry);obtain⟨its,rv,pl,hz⟩:=I.tuple (SqT.of (fz _ _ q));exact .str_tuple _ _ pl hu'
  |scr _=>simp[noS]at nb
  |exc _=>simp[noS]at nb
  |dic _ _=>simp[noS]at nb
  |dit _ _=>simp[noS]at nb
 |lst ds=>
  obtain⟨p,xs,rfl,q,r⟩:=ra;cases(show u=Value.ref p from rx);obtain⟨its,rv,pl,hz⟩:=I.list (SqL.of (fz _ _ q));cases b with
  |non=>cases(show y=V.non from rb);cases(show v=Value.none from ry);exact .list_none pl.isList hu'
  |bl c=>cases(show y=V.bl c from rb);cases(show v=Value.bool c from ry);exact .list_bool _ pl.isList hu'
  |int c=>cases(show y=V.int c from rb);obtain⟨t,rfl⟩:=ry;exact .list_int _ _ pl.isList hu'
  |str c=>cases(show y=V.str c from rb);obtain⟨t,rfl⟩:=ry;exact .list_str _ _ pl.isList hu'
  |scr _=>simp[noS]at nb
  |exc _=>simp[noS]at nb
  |dic _ _=>simp[noS]at nb
  |dit _ _=>simp[noS]at nb
  |tup es=>
   obtain⟨p2,ys,rfl,q2,r2⟩:=rb;cases(show v=Value.ref p2 from ry);obtain⟨its2,rv2,pl2,hz2⟩:=I.tuple (SqT.of (fz _ _ q2));exact .list_tuple pl.isList pl2 hu'
  |lst es=>
   obtain⟨p2,ys,rfl,q2,r2⟩:=rb;cases(show v=Value.ref p2 from ry);obtain⟨its2,rv2,pl2,hz2⟩:=I.list (SqL.of (fz _ _ q2));simp only[depth]at hd;have l1:=rv.length;have l2:=r.length;have l3:=rv2.length;have l4:=r2.length;simp only[eqB]
   by_cases hl:ds.length=es.length
   ·have z:=SeqAt.RcNeAt.lists (A:=A) (s:=s) (e:=eqJ ds es) pl.isList pl2.isList (by simp only[qaO];lia) hu' (items ds es xs ys its its2 (by lia) (by simpa only[noS]using na) (by simpa only[noS]using nb) r r2 rv rv2);rw[qaO,<-l1,l2,zfd ds es hl]at z;exact z
   ·rw[zim hl];refine .lists_lengths pl.isList pl2.isList ?_ hu';simp only[qaO,bne_iff_ne,ne_eq];lia
 |tup ds=>
  obtain⟨p,xs,rfl,q,r⟩:=ra;cases(show u=Value.ref p from rx);obtain⟨its,rv,pl,hz⟩:=I.tuple (SqT.of (fz _ _ q));cases b with
  |non=>cases(show y=V.non from rb);cases(show v=Value.none from ry);exact .tuple_none pl hu'
  |bl c=>cases(show y=V.bl c from rb);cases(show v=Value.bool c from ry);exact .tuple_bool _ pl hu'
  |int c=>cases(show y=V.int c from rb);obtain⟨t,rfl⟩:=ry;exact .tuple_int _ _ pl hu'
  |str c=>cases(show y=V.str c from rb);obtain⟨t,rfl⟩:=ry;exact .tuple_str _ _ pl hu'
  |scr _=>simp[noS]at nb
  |exc _=>simp[noS]at nb
  |dic _ _=>simp[noS]at nb
  |dit _ _=>simp[noS]at nb
  |lst es=>
   obtain⟨p2,ys,rfl,q2,r2⟩:=rb;cases(show v=Value.ref p2 from ry);obtain⟨its2,rv2,pl2,hz2⟩:=I.list (SqL.of (fz _ _ q2));exact .tuple_list pl pl2.isList hu'
  |tup es=>
   obtain⟨p2,ys,rfl,q2,r2⟩:=rb;cases(show v=Value.ref p2 from ry);obtain⟨its2,rv2,pl2,hz2⟩:=I.tuple (SqT.of (fz _ _ q2));simp only[depth]at hd;have l1:=rv.length;have l2:=r.length;have l3:=rv2.length;have l4:=r2.length;have z:=SeqAt.RcNeAt.tuples (A:=A) (s:=s) (e:=eqJ ds es) pl pl2 hu' (items ds es xs ys its its2 (by lia) (by simpa only[noS]using na) (by simpa only[noS]using nb) r r2 rv rv2);simp only[qaO]at z;simp only[eqB]
   by_cases hl:ds.length=es.length
   ·have e1:min its.length its2.length=ds.length:=by lia
    have e2:(its.length==its2.length)=true:=by simp;lia
    rw[e1,e2,Bool.and_true,zfd ds es hl]at z;exact z
   ·have e2:(its.length==its2.length)=false:=by simp;lia
    rw[e2,Bool.and_false]at z;rw[zim hl];exact z
end
theorem op_neD (hu:X.A.units+64<cLine):OpR X (compareOp .NotEq) (rEqD X.K not):=by
 intro pins s σ H x y v u Q I rx ry h;obtain⟨G,a,b,fz,ra,rb,na,nb,hd,q⟩:=h;exact neAt_D I fz X.A a b x y v u hd na nb hu ra rb rx ry _ _ _ _ ⟨.bl _,H,I,rfl,q⟩
theorem v2_ne:V2 X (rEqD X.K not) dNe:=by
 intro B G H σ ρ x y a b d Q I ra rb hf k;unfold dNe at hf
 split at hf
 ·rename_i h;simp only[qbi,qbA]at h;cases hf;exact⟨G,a,b,I.fz,ra,rb,h.1.1,h.1.2,h.2,k G H _ I (Fz.refl G) rfl⟩
 ·cases hf
theorem v2_eq:V2 X (rEqD X.K id) dEq:=by
 intro B G H σ ρ x y a b d Q I ra rb hf k;unfold dEq at hf
 split at hf
 ·rename_i h;simp only[qbi,qbA]at h;cases hf;exact⟨G,a,b,I.fz,ra,rb,h.1.1,h.1.2,h.2,k G H _ I (Fz.refl G) rfl⟩
 ·cases hf
noncomputable def dIx:D->D->Option D
 | .lst ds,.int i=>atI ds i
 | .tup ds,.int i=>atI ds i
 | .scr ns,.int i=>(atI ns i).map .int
 |_,_=>none
theorem atI_map {α β:Type}(f:α->β){xs:List α}{i:Int}{v:α}(h:atI xs i=some v):atI (xs.map f) i=some (f v):=by
 unfold atI at h ⊢;rw[qa3];cases q:ixN xs.length i with
 |none=>rw[q]at h;cases h
 |some j=>
  rw[q]at h;show(xs.map f)[j]? =_;rw[qaZ,show xs[j]? =some v from h]
  rfl
noncomputable def ReadD (K:W.Frag)(G H:Hp)(v:V):D->Prop
 | .lst ds=>∃a xs,v= .ref a/\H a=some (.lst xs)/\RepL K G xs ds
 |d=>RepD K G v d
theorem ReadD.of (fz:Fz G H)(h:RepD K G v d):ReadD K G H v d:=by
 cases d with
 |lst ds=>obtain⟨a,xs,e,q,r⟩:=h;exact⟨a,xs,e,fz a _ q,r⟩
 |_=>exact h
noncomputable def Sl.read:Sl->Option D
 | .emp=>none
 | .two _ _=>none
 | .tre _=>none
 | .ptr _=>none
 | .val d=>some d
 | .own ds=>some (.lst ds)
 | .par ds=>some (.lst ds)
noncomputable def hasV (ρ:R)(j:Nat):Bool:=match ρ[j]? with
 |some (.val _)=>true
 |some (.own _)=>true
 |some (.par _)=>true
 |_=>false
theorem SI.has (I:SI K B G H σ ρ)(h:hasV ρ j=true):∃v,σ[j]? =some (some v):=by
 unfold hasV at h;cases e:ρ[j]? with
 |none=>rw[e]at h;cases h
 |some s=>
  rw[e]at h;have q:=I.slot j s e;cases s with
  |emp=>cases h
  |two _ _=>cases h
  |tre _=>cases h
  |ptr _=>cases h
  |val d=>obtain⟨v,e,_⟩:=q;exact⟨v,e⟩
  |own d=>obtain⟨l,_,e,_⟩:=q;exact⟨_,e⟩
  |par d=>obtain⟨l,_,e,_⟩:=q;exact⟨_,e⟩
theorem SI.read (I:SI K B G H σ ρ)(hv:σ[j]? =some (some v))(e:ρ[j]? =some s)(q:s.read=some d):ReadD K G H v d:=by
 have h:=I.slot j s e;cases s with
 |emp=>cases q
 |two _ _=>cases q
 |tre _=>cases q
 |ptr _=>cases q
 |val d'=>
  cases q;obtain⟨w,e1,r⟩:=h;rw[hv]at e1;cases e1;exact .of I.fz r
 |own ds=>
  cases q;obtain⟨l,xs,e1,_,h3,h4,_⟩:=h;rw[hv]at e1;cases e1;exact⟨l,xs,rfl,h3,h4⟩
 |par ds=>
  cases q;obtain⟨l,xs,e1,_,h3,h4,_⟩:=h;rw[hv]at e1;cases e1;exact⟨l,xs,rfl,h3,h4⟩
theorem zq0 {x y:V}{a b d:D}{Q:VK}(I:SI K B G H σ ρ)(ra:ReadD K G H x a)(rb:RepD K G y b)(hf:dIx a b=some d)(k:∀v,RepD K G v d->Q v H):rIx K x y H Q:=by
 cases a<;>cases b<;>simp only[dIx]at hf<;>try cases hf
 ·rename_i ds i;obtain⟨p,xs,rfl,hp,r⟩:=ra;obtain⟨v,e,q⟩:=r.at hf;exact .inl ⟨p,xs,i,v,rfl,rb,SqL.of hp,e,k _ q⟩
 ·rename_i ds i;obtain⟨p,xs,rfl,hp,r⟩:=I.tup ra;obtain⟨v,e,q⟩:=r.at hf;exact .inr (.inl ⟨p,xs,i,v,rfl,rb,SqT.of hp,e,k _ q⟩)
 ·rename_i ns i;obtain⟨p,rfl,hp⟩:=ra;cases e:atI ns i with
  |none=>rw[e]at hf;cases hf
  |some n=>
   rw[e]at hf;cases hf;exact .inl ⟨p,_,i,.int n,rfl,rb,I.fz.sql hp,atI_map V.int e,k _ rfl⟩
theorem v2_ix:V2 X (rIx X.K) dIx:=fun B G H σ ρ x y a b d Q I ra rb hf k=>zq0 I (.of I.fz ra) rb hf fun v q=>k G H v I (Fz.refl G) q
theorem zce {ma mb:ME}(ha:SE X a ma)(hb:SE X b mb)(hs:zmg b:=by exact fun _ _=>rfl):SE X (.Subscript a b pos) (m2 dIx ma mb):=se_ix ix_seq v2_ix ha hb hs
noncomputable def eIxV (j:Nat)(mi:ME):ME:=fun ρ=>if hasV ρ j then(mi ρ).bind fun p=>(p.2[j]?.bind Sl.read).bind fun d=>(dIx d p.1).map fun e=>(e,p.2)else none
theorem zak (j:Nat)(hb:SE X b mb)(hN:X.N[j]? =some x:=by rfl)(hv:Vis X.env.scope x:=by first|exact Or.inl rfl|exact Or.inr (Or.inl rfl)|exact Or.inr (Or.inr rfl))(hd:(x==("__debug__":Str))=false:=by decide)
    (hcd:(x==("__classdict__":Str))=false:=by decide) (hs:zmg b:=by exact fun _ _=>rfl):SE X (.Subscript (.Name x pos') b pos) (eIxV j mb):=by
  obtain⟨tb,pb,sb⟩:=hb;refine⟨_,pe_ix ix_seq (zc1 hN hv hd hcd) pb hs,fun B G H σ ρ d ρ' Q I hm k=>?_⟩;unfold eIxV at hm
  split at hm
  . rename_i hh
    obtain⟨v,ev⟩:=I.has hh;cases e1:mb ρ with
    |none=>rw[e1]at hm;cases hm
    |some q=>
      obtain⟨i,ρ1⟩:=q;rw[e1]at hm;simp only[qby]at hm;cases e2:ρ1[j]? with
      |none=>rw[e2]at hm;cases hm
      |some s=>
        rw[e2]at hm;simp only[qby]at hm;cases e3:s.read with
        |none=>rw[e3]at hm;cases hm
        |some a=>
          rw[e3]at hm;simp only[qby]at hm;cases e4:dIx a i with
          |none=>rw[e4]at hm;cases hm
          |some c=>
            rw[e4]at hm;cases hm;exact⟨v,ev,sb B G H σ ρ i ρ' _ I e1 fun G1 H1 y I1 f1 r1=>zq0 I1 (I1.read ev e2 e3) r1 e4 fun w q=>k G1 H1 w I1 f1 q⟩
  . cases hm
noncomputable def dLen:List D->Option D
 |[.lst ds]=>some (.int ds.length)
 |[.tup ds]=>some (.int ds.length)
 |[.scr ns]=>some (.int ns.length)
 |_=>none
theorem zoj {x:V}{a d:D}{Q:VK}(I:SI K B G H σ ρ)(ra:ReadD K G H x a)(hf:dLen [a]=some d)(k:∀v,RepD K G v d->Q v H):
  ∃p ys,[x]=[V.ref p]/\(SqL K H p ys\/SqT K H p ys)/\Q (.int ys.length) H:=by
 cases a<;>simp only[dLen]at hf<;>try cases hf
 ·obtain⟨p,xs,rfl,hp,r⟩:=ra;exact⟨p,xs,rfl,.inl (SqL.of hp),by rw[r.length];exact k _ rfl⟩
 ·obtain⟨p,xs,rfl,hp,r⟩:=I.tup ra;exact⟨p,xs,rfl,.inr (SqT.of hp),by rw[r.length];exact k _ rfl⟩
 ·obtain⟨p,rfl,hp⟩:=ra;exact⟨p,_,rfl,.inl (I.fz.sql hp),by rw[qa3];exact k _ rfl⟩
theorem RepL.one (h:RepL K G xs [d]):∃x,xs=[x]/\RepD K G x d:=by
 obtain⟨x,ys,e,q,r⟩:=h;cases(show ys=[]from r);exact⟨x,e,q⟩
theorem RepL.two {a b:D}(h:RepL K G xs [a,b]):∃x y,xs=[x,y]/\RepD K G x a/\RepD K G y b:=by
 obtain⟨x,ys,e,q,r⟩:=h;obtain⟨y,e2,q2⟩:=r.one;subst e2;exact⟨x,y,e,q,q2⟩
theorem dLen_one (h:dLen ds=some d):∃a,ds=[a]:=by
 match ds,h with
 |[a],_=>exact⟨a,rfl⟩
 |[],h=>cases h
 |_::_::_,h=>simp[dLen]at h
theorem vc_len:VC X (fun xs H Q=>∃p ys,xs=[.ref p]/\(SqL X.K H p ys\/SqT X.K H p ys)/\Q (.int ys.length) H) dLen:=by
 intro B G H σ ρ xs ds d Q I r hf k;obtain⟨a,rfl⟩:=dLen_one hf;obtain⟨x,rfl,ra⟩:=r.one;exact zoj I (.of I.fz ra) hf fun v q=>k G H v I (Fz.refl G) q
theorem se_len (ml:X.mg "len"=none)(ha:SA X [e] ma)(hg:Gl X "len":=by rfl)(he:starEach [e] X.env=(false,eval e X.env)::starEach [] X.env:=by rfl):SE X (.Call (.Name "len" p) [e] [] pos) (mC dLen ma):=
 zeD zjk vc_len PySem.boot_len ml ha hg (by decide) (by decide) he rfl
noncomputable def zcY (j:Nat):ME:=fun ρ=>(ρ[j]?.bind Sl.read).bind fun d=>(dLen [d]).map fun e=>(e,ρ)
theorem za8 (j:Nat)(ml:X.mg "len"=none)(hN:X.N[j]? =some x:=by rfl)(hv:Vis X.env.scope x:=by first|exact Or.inl rfl|exact Or.inr (Or.inl rfl)|exact Or.inr (Or.inr rfl))(hd:(x==("__debug__":Str))=false:=by decide)
  (hcd:(x==("__classdict__":Str))=false:=by decide) (hg:Gl X "len":=by rfl) (he:starEach [.Name x pos'] X.env=(false,eval (.Name x pos') X.env)::starEach [] X.env:=by rfl):SE X (.Call (.Name "len" p) [.Name x pos'] [] pos) (zcY j):=by
 refine⟨_,zic zjk hg ml PySem.boot_len (zb4 (zc1 hN hv hd hcd) ziz he) (by decide) (by decide) he rfl,fun B G H σ ρ d ρ' Q I hm k=>?_⟩;unfold zcY at hm;cases e2:ρ[j]? with
 |none=>rw[e2]at hm;cases hm
 |some s=>
  rw[e2]at hm;simp only[qby]at hm;cases e3:s.read with
  |none=>rw[e3]at hm;cases hm
  |some a=>
   rw[e3]at hm;simp only[qby]at hm;cases e4:dLen [a]with
   |none=>rw[e4]at hm;cases hm
   |some c=>
    rw[e4]at hm;cases hm;have hh:hasV ρ j=true:=by
     unfold hasV;rw[e2];cases s<;>first|rfl|cases e3
    obtain⟨v,ev⟩:=I.has hh;exact⟨v,ev,zoj I (I.read ev e2 e3) e4 fun w q=>k G H w I (Fz.refl G) q⟩
noncomputable def zcG:List D->Option D
 |[.lst ds]=>some (.tup ds)
 |[.tup ds]=>some (.tup ds)
 |[.scr ns]=>some (.tup (ns.map .int))
 |_=>none
theorem vc_tuple:VC X (fun xs H Q=>∃p ys,xs=[.ref p]/\((SqL X.K H p ys/\∀l,H l=none->Q (.ref l) (upd H l (.tup ys)))\/(SqT X.K H p ys/\Q (.ref p) H))) zcG:=by
 intro B G H σ ρ xs ds d Q I r hf k
 match ds,hf with
 |[a],hf=>
  obtain⟨x,rfl,ra⟩:=r.one;cases a<;>simp only[zcG]at hf<;>try cases hf
  ·obtain⟨p,ys,rfl,hp,q⟩:=I.lst ra;refine⟨p,ys,rfl,.inl ⟨SqL.of hp,fun l hl=>?_⟩⟩;obtain⟨I2,f2,r2⟩:=I.newT hl q;exact k _ _ _ I2 f2 r2
  ·obtain⟨p,ys,e,hp,q⟩:=I.tup ra;subst e;exact⟨p,ys,rfl,.inr ⟨SqT.of hp,k G H _ I (Fz.refl G) ra⟩⟩
  ·obtain⟨p,rfl,hp⟩:=ra;refine⟨p,_,rfl,.inl ⟨I.fz.sql hp,fun l hl=>?_⟩⟩;obtain⟨I2,f2,r2⟩:=I.newT hl (RepL.ints _);exact k _ _ _ I2 f2 r2
 |[],hf=>cases hf
 |_::_::_,hf=>simp[zcG]at hf
theorem zcX (ml:X.mg "tuple"=none)(ha:SA X [e] ma)(hg:Gl X "tuple":=by rfl)(he:starEach [e] X.env=(false,eval e X.env)::starEach [] X.env:=by rfl)(hb:bootBuiltins "tuple"=some (.type "tuple"):=by decide+kernel):
  SE X (.Call (.Name "tuple" p) [e] [] pos) (mC zcG ma):=
 zq5 zle vc_tuple hb ml ha hg (by decide) (by decide) he rfl
noncomputable def zaR:List D->Option (List D)
 |[.lst ds]=>some ds
 |[.tup ds]=>some ds
 |[.scr ns]=>some (ns.map .int)
 |_=>none
noncomputable def oC (f:List D->Option (List D))(ma:MA):MO:=fun ρ=>(ma ρ).bind fun p=>(f p.1).map fun d=>(d,p.2)
theorem oC_inv {f:List D->Option (List D)}{d:List D}(h:oC f ma ρ=some (d,ρ')):∃a,ma ρ=some (a,ρ')/\f a=some d:=by
 unfold oC at h;cases e1:ma ρ with
 |none=>rw[e1]at h;cases h
 |some p=>
  obtain⟨a,ρ1⟩:=p;rw[e1]at h;simp only[qby]at h;cases e3:f a with
  |none=>rw[e3]at h;cases h
  |some c=>rw[e3]at h;cases h;exact⟨a,rfl,e3⟩
theorem SI.newO (I:SI K B G H σ ρ){p:Addr}(hp:H p=none)(xs:List V):SI K B G (upd H p (.lst xs)) σ ρ/\G p=none/\(upd H p (.lst xs)) p=some (.lst xs)/\B.H p=none/\Nw K G (upd H p (.lst xs)) σ ρ p:=
 ⟨I.allocO hp _,I.fz.free hp,zaF,I.there p hp,I.nw_move (I.nw hp) fun i s a _ _ g h=>⟨g,zav fun z=>h (by rw[z];exact hp)⟩⟩
theorem zlT (ml:X.mg "list"=none)(ha:SA X [e] ma)(hg:Gl X "list":=by rfl)(he:starEach [e] X.env=(false,eval e X.env)::starEach [] X.env:=by rfl)(hb:bootBuiltins "list"=some (.type "list"):=by decide+kernel):
  SO X (.Call (.Name "list" p) [e] [] pos) (oC zaR ma):=by
 obtain⟨t,pa,sa⟩:=ha;refine⟨_,zmR zng hg ml hb pa (by decide) (by decide) he rfl,fun B G H σ ρ ds ρ' Q I hm k=>?_⟩;obtain⟨as,e1,e2⟩:=oC_inv hm;refine sa B G H σ ρ as ρ' _ I e1 fun G1 H1 vs I1 f1 r1=>?_
 match as,e2 with
 |[a],e2=>
  obtain⟨x,rfl,ra⟩:=r1.one;have fin:∀(q:Addr) (ys:List V) (sq:SqL X.K H1 q ys\/SqT X.K H1 q ys),x= .ref q->RepL X.K G1 ys ds->∃p ys,[x]=[V.ref p]/\(SqL X.K H1 p ys\/SqT X.K H1 p ys)/\∀l,H1 l=none->Q (.ref l) (upd H1 l (.lst ys)):=fun q ys sq ex r=>by
   refine⟨q,ys,by rw[ex],sq,fun l hl=>?_⟩;obtain⟨I2,g2,h2,b2,n2⟩:=I1.newO hl ys;exact k G1 _ l ys I2 f1 g2 h2 r b2 n2
  cases a<;>simp only[zaR]at e2<;>try cases e2
  ·obtain⟨p,ys,ex,hp,q⟩:=I1.lst ra;exact fin p ys (.inl (SqL.of hp)) ex q
  ·obtain⟨p,ys,ex,hp,q⟩:=I1.tup ra;exact fin p ys (.inr (SqT.of hp)) ex q
  ·obtain⟨p,ex,hp⟩:=ra;exact fin p _ (.inl (I1.fz.sql hp)) ex (RepL.ints _)
 |[],e2=>cases e2
 |_::_::_,e2=>simp[zaR]at e2
section
variable {X:Cx} {es:List Expr} {ma:MA} {pos:Pos}
noncomputable def eTup (ma:MA):ME:=fun ρ=>(ma ρ).bind fun p=>if p.1.length<=16777216 then some (.tup p.1,p.2)else none
theorem zbV {x1}(h:SA X es ma):SE X (.Tuple es x1 pos) (eTup ma):=by
 obtain⟨t,pa,sa⟩:=h;refine⟨_,pe_tup pa,fun B G H σ ρ d ρ' Q I hm k=>?_⟩;unfold eTup at hm;cases e1:ma ρ with
 |none=>rw[e1]at hm;cases hm
 |some q=>
  obtain⟨ds,ρ1⟩:=q;rw[e1]at hm;simp only[qby]at hm
  split at hm
  ·rename_i hl;cases hm;refine sa B G H σ ρ ds ρ' _ I e1 fun G1 H1 vs I1 f1 r1=>⟨by rw[r1.length,qaN];exact hl,fun p hp=>?_⟩
   obtain⟨I2,f2,r2⟩:=I1.newT hp r1;exact k _ _ _ I2 (f1.trans f2) r2
  ·cases hm
noncomputable def oLst (ma:MA):MO:=fun ρ=>(ma ρ).bind fun p=>if p.1.length<=16777216 then some (p.1,p.2)else none
theorem zfM (h:SA X es ma):SO X (.List es pos) (oLst ma):=by
 obtain⟨t,pa,sa⟩:=h;refine⟨_,pe_lst pa,fun B G H σ ρ d ρ' Q I hm k=>?_⟩;unfold oLst at hm;cases e1:ma ρ with
 |none=>rw[e1]at hm;cases hm
 |some q=>
  obtain⟨ds,ρ1⟩:=q;rw[e1]at hm;simp only[qby]at hm
  split at hm
  ·rename_i hl;cases hm;refine sa B G H σ ρ _ ρ' _ I e1 fun G1 H1 vs I1 f1 r1=>⟨by rw[r1.length,qaN];exact hl,fun p hp=>?_⟩
   obtain⟨I2,g2,h2,b2,n2⟩:=I1.newO hp vs;exact k G1 _ p vs I2 f1 g2 h2 r1 b2 n2
  ·cases hm
end
theorem zae {α β:Type}{o:Option α}{f:α->Option β}{b:β}(h:o.bind f=some b):∃a,o=some a/\f a=some b:=by
 cases o with
 |none=>cases h
 |some a=>exact⟨a,rfl,h⟩
theorem zat {α β:Type}{o:Option α}{f:α->β}{b:β}(h:o.map f=some b):∃a,o=some a/\f a=b:=by
 cases o with
 |none=>cases h
 |some a=>cases h;exact⟨a,rfl,rfl⟩
noncomputable def dTru:D->Option Bool
 | .bl b=>some b
 | .int i=>some (i !=0)
 | .non=>some false
 | .lst ds=>some (!ds.isEmpty)
 | .tup ds=>some (!ds.isEmpty)
 |_=>none
noncomputable def tTru (ma:ME):MT:=fun ρ=>(ma ρ).bind fun p=>(dTru p.1).map fun b=>(b,p.2)
section
variable {X:Cx} {a b c:Expr} {ma mb mc:ME} {pos:Pos}
theorem zpQ (h:RepL K G xs ds):(!xs.isEmpty)=!ds.isEmpty:=by
 have:=h.length;cases xs<;>cases ds<;>simp_all
theorem zbs (ha:SE X a ma)(he:∀whole,isTrue a X.env whole=(do let v<-whole;standAt a.pos;holding [v] (truthy v)):=by exact fun _=>rfl):STt X a (tTru ma):=by
  obtain⟨ta,pa,sa⟩:=ha;refine⟨_,pt_truth pa he,fun B G H σ ρ d ρ' Q I hm k=>?_⟩;obtain⟨⟨x,ρ1⟩,e1,e2⟩:=zae hm;obtain⟨t,e3,e4⟩:=zat e2;obtain⟨rfl,rfl⟩:=Prod.mk.inj e4;refine sa B G H σ ρ x ρ1 _ I e1 fun G1 H1 v I1 f1 r1=>⟨t,?_,k G1 H1 I1 f1⟩
  cases x<;>simp only[dTru]at e3<;>try cases e3
  . cases r1;exact rfl
  . cases r1;exact rfl
  . cases r1;exact rfl
  . obtain⟨p,xs,rfl,hp,r⟩:=I1.lst r1
    exact .inl ⟨xs,SqL.of hp,(zpQ r).symm⟩
  . obtain⟨p,xs,rfl,hp,r⟩:=I1.tup r1
    exact .inr (.inl ⟨xs,SqT.of hp,(zpQ r).symm⟩)
theorem zjb {r:R2}(ho:OpR X (compareOp op) r)(hv:V2 X r f)(hB:∀x y d,f x y=some d->∃t,d= .bl t)(ha:SE X a ma)(hb:SE X b mb)(hm:behindInMarks op b=false):STt X (.Compare a [op] [b] pos) (tTru (m2 f ma mb)):=by
 obtain⟨ta,pa,sa⟩:=ha;obtain⟨tb,pb,sb⟩:=hb;refine⟨_,pt_cmpR ho pa pb hm,fun B G H σ ρ d ρ' Q I hm k=>?_⟩;obtain⟨⟨x,ρ1⟩,e1,e2⟩:=zae hm;obtain⟨t,e3,e4⟩:=zat e2;obtain⟨rfl,rfl⟩:=Prod.mk.inj e4;obtain⟨_,_,_,_,_,e5⟩:=m2_inv e1;obtain⟨t',rfl⟩:=hB _ _ _ e5;obtain rfl:t'=t:=Option.some.inj e3;refine zox hv sa sb B G H σ ρ (.bl t') ρ1 _ I e1 fun G1 H1 v I1 f1 r1=>?_
 cases(show v=V.bl t' from r1);exact⟨t',rfl,k G1 H1 I1 f1⟩
theorem znn {g:Int->Int->Bool}(x y d:D)(h:dI2 (fun _ _=>true) (fun i j=> .bl (g i j)) x y=some d):∃t,d= .bl t:=by
 cases x<;>cases y<;>simp only[dI2]at h<;>try cases h
 exact⟨_,rfl⟩
theorem bl_eq (x y d:D)(h:dEq x y=some d):∃t,d= .bl t:=by
 unfold dEq at h
 split at h
 ·cases h;exact⟨_,rfl⟩
 ·cases h
theorem bl_ne (x y d:D)(h:dNe x y=some d):∃t,d= .bl t:=by
 unfold dNe at h
 split at h
 ·cases h;exact⟨_,rfl⟩
 ·cases h
theorem st_lt (ha:SE X a ma)(hb:SE X b mb):STt X (.Compare a [.Lt] [b] pos) (tTru (m2 dLt ma mb)):=zjb op_lt zey znn ha hb (zhE _)
theorem zrt (ha:SE X a ma)(hb:SE X b mb):STt X (.Compare a [.Gt] [b] pos) (tTru (m2 dGt ma mb)):=zjb op_gt zey znn ha hb (zhE _)
theorem st_ge (ha:SE X a ma)(hb:SE X b mb):STt X (.Compare a [.GtE] [b] pos) (tTru (m2 dGe ma mb)):=zjb op_ge zey znn ha hb (zhE _)
theorem ziX (hu:X.A.units+64<cLine)(ha:SE X a ma)(hb:SE X b mb):STt X (.Compare a [.Eq] [b] pos) (tTru (m2 dEq ma mb)):=zjb (op_eqD hu) v2_eq bl_eq ha hb (zhE _)
theorem zmW (hu:X.A.units+64<cLine)(ha:SE X a ma)(hb:SE X b mb):STt X (.Compare a [.NotEq] [b] pos) (tTru (m2 dNe ma mb)):=zjb (op_neD hu) v2_ne bl_ne ha hb (zhE _)
end
noncomputable def STw (X:Cx)(e:Expr)(m:MT):Prop:=
 ∃t,PW X e t/\∀B G H σ ρ d ρ' (Q:Bool->Hp->Prop),SI X.K B G H σ ρ->m ρ=some (d,ρ')->(∀G' H',SI X.K B G' H' σ ρ'->Fz G G'->Q d H')->t σ H Q
theorem STw.st (h:STw X e m):STt X e m:=let⟨t,p,s⟩:=h;⟨t,p.pt,s⟩
noncomputable def tAndM (a b:MT):MT:=fun ρ=>(a ρ).bind fun p=>if p.1 then b p.2 else some (false,p.2)
noncomputable def tOrM (a b:MT):MT:=fun ρ=>(a ρ).bind fun p=>if p.1 then some (true,p.2)else b p.2
noncomputable def zgc (a:MT):MT:=fun ρ=>(a ρ).map fun p=>(!p.1,p.2)
section
variable {X:Cx} {a b c:Expr} {ma mb:MT} {pos:Pos} {rest:List Expr}
theorem sw_and1 (h:STt X a ma):STw X (.BoolOp .And [a] pos) ma:=let⟨t,p,s⟩:=h;⟨t,pw_and1 p,s⟩
theorem zkN (h:STt X a ma):STw X (.BoolOp .Or [a] pos) ma:=let⟨t,p,s⟩:=h;⟨t,pw_or1 p,s⟩
theorem sw_and (ha:STt X a ma)(hb:STw X (.BoolOp .And (b::rest) pos) mb):STw X (.BoolOp .And (a::b::rest) pos) (tAndM ma mb):=by
 obtain⟨ta,pa,sa⟩:=ha;obtain⟨tb,pb,sb⟩:=hb;refine⟨_,pw_and pa pb,fun B G H σ ρ d ρ' Q I hm k=>?_⟩;obtain⟨⟨x,ρ1⟩,e1,e2⟩:=zae hm;refine sa B G H σ ρ x ρ1 _ I e1 fun G1 H1 I1 f1=>?_
 cases x with
 |true=>exact sb B G1 H1 σ ρ1 d ρ' Q I1 e2 fun G2 H2 I2 f2=>k G2 H2 I2 (f1.trans f2)
 |false=>cases e2;exact k G1 H1 I1 f1
theorem zmu (ha:STt X a ma)(hb:STw X (.BoolOp .Or (b::rest) pos) mb):STw X (.BoolOp .Or (a::b::rest) pos) (tOrM ma mb):=by
 obtain⟨ta,pa,sa⟩:=ha;obtain⟨tb,pb,sb⟩:=hb;refine⟨_,pw_or pa pb,fun B G H σ ρ d ρ' Q I hm k=>?_⟩;obtain⟨⟨x,ρ1⟩,e1,e2⟩:=zae hm;refine sa B G H σ ρ x ρ1 _ I e1 fun G1 H1 I1 f1=>?_
 cases x with
 |false=>exact sb B G1 H1 σ ρ1 d ρ' Q I1 e2 fun G2 H2 I2 f2=>k G2 H2 I2 (f1.trans f2)
 |true=>cases e2;exact k G1 H1 I1 f1
theorem zd0 (ha:STt X a ma):STt X (.UnaryOp .Not a pos) (zgc ma):=by
 obtain⟨ta,pa,sa⟩:=ha;refine⟨_,pt_not pa,fun B G H σ ρ d ρ' Q I hm k=>?_⟩;obtain⟨⟨x,ρ1⟩,e1,e2⟩:=zat hm;cases e2;exact sa B G H σ ρ x ρ1 _ I e1 fun G1 H1 I1 f1=>k G1 H1 I1 f1
end
noncomputable def eAnd (a b:ME):ME:=fun ρ=>(a ρ).bind fun p=>match p.1 with
 | .bl true=>b p.2
 | .bl false=>some (.bl false,p.2)
 |_=>none
noncomputable def eOr (a b:ME):ME:=fun ρ=>(a ρ).bind fun p=>match p.1 with
 | .bl true=>some (.bl true,p.2)
 | .bl false=>b p.2
 |_=>none
noncomputable def dNot:D->Option D
 | .bl b=>some (.bl (!b))
 |_=>none
section
variable {X:Cx} {a b c:Expr} {ma mb:ME} {pos:Pos} {rest:List Expr} {op:BoolOp}
theorem zmQ (h:SE X a ma):SE X (.BoolOp op [a] pos) ma:=let⟨t,p,s⟩:=h;⟨t,pe_one p,s⟩
theorem zmI (ha:SE X a ma)(hb:SE X (.BoolOp .And (b::rest) pos) mb):SE X (.BoolOp .And (a::b::rest) pos) (eAnd ma mb):=by
 obtain⟨ta,pa,sa⟩:=ha;obtain⟨tb,pb,sb⟩:=hb;refine⟨_,pe_and pa pb,fun B G H σ ρ d ρ' Q I hm k=>?_⟩;obtain⟨⟨x,ρ1⟩,e1,e2⟩:=zae hm;refine sa B G H σ ρ x ρ1 _ I e1 fun G1 H1 v I1 f1 r1=>?_
 cases x<;>try cases e2
 rename_i y;refine⟨y,r1,?_⟩;cases y with
 |true=>exact sb B G1 H1 σ ρ1 d ρ' Q I1 e2 fun G2 H2 v I2 f2 r2=>k G2 H2 v I2 (f1.trans f2) r2
 |false=>cases e2;exact k G1 H1 _ I1 f1 rfl
theorem se_not (ha:SE X a ma):SE X (.UnaryOp .Not a pos) (m1 dNot ma):=by
 obtain⟨ta,pa,sa⟩:=ha;refine⟨_,pe_not pa,fun B G H σ ρ d ρ' Q I hm k=>?_⟩;obtain⟨x,e1,e2⟩:=m1_inv hm;refine sa B G H σ ρ x ρ' _ I e1 fun G1 H1 v I1 f1 r1=>?_
 cases x<;>simp only[dNot]at e2<;>try cases e2
 exact⟨_,r1,k G1 H1 _ I1 f1 rfl⟩
noncomputable def eIf (c:MT)(a b:ME):ME:=fun ρ=>(c ρ).bind fun p=>if p.1 then a p.2 else b p.2
theorem se_ifExp (hc:STt X c mc)(ha:SE X a ma)(hb:SE X b mb):SE X (.IfExp c a b pos) (eIf mc ma mb):=by
 obtain⟨tc,pc,sc⟩:=hc;obtain⟨ta,pa,sa⟩:=ha;obtain⟨tb,pb,sb⟩:=hb;refine⟨_,pe_ifExp pc pa pb,fun B G H σ ρ d ρ' Q I hm k=>?_⟩;obtain⟨⟨x,ρ1⟩,e1,e2⟩:=zae hm;refine sc B G H σ ρ x ρ1 _ I e1 fun G1 H1 I1 f1=>?_
 cases x with
 |true=>exact sa B G1 H1 σ ρ1 d ρ' Q I1 e2 fun G2 H2 v I2 f2 r2=>k G2 H2 v I2 (f1.trans f2) r2
 |false=>exact sb B G1 H1 σ ρ1 d ρ' Q I1 e2 fun G2 H2 v I2 f2 r2=>k G2 H2 v I2 (f1.trans f2) r2
end
noncomputable def zih (f g:D->D->Option D)(a b c:ME):ME:=fun ρ=>(a ρ).bind fun p=>(b p.2).bind fun q=>(f p.1 q.1).bind fun t=>match t with
 | .bl true=>(c q.2).bind fun r=>(g q.1 r.1).map fun d=>(d,r.2)
 | .bl false=>some (.bl false,q.2)
 |_=>none
section
variable {X:Cx} {a b c:Expr} {ma mb mc:ME} {pos:Pos}
theorem zj1 {r r':R2}{f g:D->D->Option D}{ta tb tc:TE}(hv:V2 X r f)(hw:V2 X r' g)
  (sa:∀B G H σ ρ d ρ' (Q:VK),SI X.K B G H σ ρ->ma ρ=some (d,ρ')->(∀G' H' v,SI X.K B G' H' σ ρ'->Fz G G'->RepD X.K G' v d->Q v H')->ta σ H Q)
  (sb:∀B G H σ ρ d ρ' (Q:VK),SI X.K B G H σ ρ->mb ρ=some (d,ρ')->(∀G' H' v,SI X.K B G' H' σ ρ'->Fz G G'->RepD X.K G' v d->Q v H')->tb σ H Q)
  (sc:∀B G H σ ρ d ρ' (Q:VK),SI X.K B G H σ ρ->mc ρ=some (d,ρ')->(∀G' H' v,SI X.K B G' H' σ ρ'->Fz G G'->RepD X.K G' v d->Q v H')->tc σ H Q):
  ∀B G H σ ρ d ρ' (Q:VK),SI X.K B G H σ ρ->zih f g ma mb mc ρ=some (d,ρ')->(∀G' H' v,SI X.K B G' H' σ ρ'->Fz G G'->RepD X.K G' v d->Q v H')->zpL r r' ta tb tc σ H Q:=by
 intro B G H σ ρ d ρ' Q I hm k;obtain⟨⟨x,ρ1⟩,e1,h1⟩:=zae hm;obtain⟨⟨y,ρ2⟩,e2,h2⟩:=zae h1;obtain⟨t,e3,h3⟩:=zae h2;refine sa B G H σ ρ x ρ1 _ I e1 fun G1 H1 v I1 f1 r1=>sb B G1 H1 σ ρ1 y ρ2 _ I1 e2 fun G2 H2 u I2 f2 r2=>hv B G2 H2 σ ρ2 v u x y t _ I2 (r1.mono f2) r2 e3 fun G3 H3 z I3 f3 r3=>?_
 cases t<;>try cases h3
 rename_i t;refine⟨t,r3,?_⟩;cases t with
 |true=>
  obtain⟨⟨w,ρ3⟩,e4,h4⟩:=zae h3;obtain⟨d',e5,e6⟩:=zat h4;cases e6;exact sc B G3 H3 σ ρ2 w ρ3 _ I3 e4 fun G4 H4 s I4 f4 r4=>hw B G4 H4 σ ρ3 u s y w d Q I4 (r2.mono (f3.trans f4)) r4 e5 fun G5 H5 z5 I5 f5 r5=>k G5 H5 z5 I5 (f1.trans (f2.trans (f3.trans (f4.trans f5)))) r5
 |false=>cases h3;exact k G3 H3 _ I3 (f1.trans (f2.trans f3)) rfl
theorem zom {r r':R2}{f g:D->D->Option D}(ho:OpR X (compareOp op) r)(ho':OpR X (compareOp op') r')(hv:V2 X r f)(hw:V2 X r' g)(ha:SE X a ma)(hb:SE X b mb)(hc:SE X c mc)
  (hm:lastMarks [op,op'] [b,c]=false:=by with_unfolding_all rfl):SE X (.Compare a [op,op'] [b,c] pos) (zih f g ma mb mc):=by
 obtain⟨ta,pa,sa⟩:=ha;obtain⟨tb,pb,sb⟩:=hb;obtain⟨tc,pc,sc⟩:=hc;exact⟨_,pe_chain ho ho' pa pb pc hm,zj1 hv hw sa sb sc⟩
theorem zo2 {r r':R2}{f g:D->D->Option D}(ho:OpR X (compareOp op) r)(ho':OpR X (compareOp op') r')(hv:V2 X r f)(hw:V2 X r' g)(hB:∀x y d,g x y=some d->∃t,d= .bl t)(ha:SE X a ma)(hb:SE X b mb)(hc:SE X c mc)
  (hm:lastMarks [op,op'] [b,c]=false:=by with_unfolding_all rfl):STt X (.Compare a [op,op'] [b,c] pos) (tTru (zih f g ma mb mc)):=by
 obtain⟨ta,pa,sa⟩:=ha;obtain⟨tb,pb,sb⟩:=hb;obtain⟨tc,pc,sc⟩:=hc;refine⟨_,pt_chain ho ho' pa pb pc hm,fun B G H σ ρ d ρ' Q I hm k=>?_⟩;obtain⟨⟨x,ρ1⟩,e1,e2⟩:=zae hm;obtain⟨t,e3,e4⟩:=zat e2;obtain⟨rfl,rfl⟩:=Prod.mk.inj e4;have hx:∃t',x= .bl t':=by
  obtain⟨⟨x',ρ1'⟩,_,h1⟩:=zae e1;obtain⟨⟨y',ρ2'⟩,_,h2⟩:=zae h1;obtain⟨t',et',h3⟩:=zae h2;clear et';cases t'<;>try cases h3
  rename_i t';cases t' with
  |true=>
   obtain⟨⟨w,ρ3⟩,e4,h4⟩:=zae h3;obtain⟨d',e5,e6⟩:=zat h4;cases e6;exact hB _ _ _ e5
  |false=>cases h3;exact⟨_,rfl⟩
 obtain⟨t',rfl⟩:=hx;obtain rfl:t'=t:=Option.some.inj e3;refine zj1 hv hw sa sb sc B G H σ ρ (.bl t') ρ1 _ I e1 fun G1 H1 v I1 f1 r1=>?_
 cases(show v=V.bl t' from r1);exact⟨t',rfl,k G1 H1 I1 f1⟩
end
inductive Fl where
 |next|brk|cont|ret (r:Sl)
noncomputable abbrev MS:=R->Option (Fl×R)
noncomputable def ResOk (K:W.Frag)(B:Bs)(G H:Hp)(v:V):Sl->Prop
 | .val d=>RepD K G v d
 | .own ds=>∃l xs,v= .ref l/\G l=none/\H l=some (.lst xs)/\RepL K G xs ds/\B.H l=none
 | .tre t=>∃A,RepT K G H v t A/\A.Nodup/\∀a∈A,G a=none/\B.H a=none
 | .two ds es=>∃t l xs m ys,v= .ref t/\H t=some (.tup [.ref l,.ref m])/\l≠m/\G l=none/\H l=some (.lst xs)/\RepL K G xs ds/\B.H l=none/\G m=none/\H m=some (.lst ys)/\RepL K G ys es/\B.H m=none
 |_=>False
noncomputable def Post (K:W.Frag)(B:Bs)(G:Hp)(E:Ends)(fl:Fl)(ρ':R):Prop:=match fl with
 | .next=>∀G' H' σ',SI K B G' H' σ' ρ'->Fz G G'->E.nx σ' H'
 | .brk=>∀G' H' σ',SI K B G' H' σ' ρ'->Fz G G'->E.bk σ' H'
 | .cont=>∀G' H' σ',SI K B G' H' σ' ρ'->Fz G G'->E.ct σ' H'
 | .ret r=>∀G' H' σ' v,SI K B G' H' σ' ρ'->Fz G G'->ResOk K B G' H' v r->E.rt v H'
theorem Post.mono {G G1:Hp}{E:Ends}{fl:Fl}(h:Post K B G E fl ρ')(f:Fz G G1):Post K B G1 E fl ρ':=by
 cases fl with
 |next=>exact fun G' H' σ' I g=>h G' H' σ' I (f.trans g)
 |brk=>exact fun G' H' σ' I g=>h G' H' σ' I (f.trans g)
 |cont=>exact fun G' H' σ' I g=>h G' H' σ' I (f.trans g)
 |ret r=>exact fun G' H' σ' v I g=>h G' H' σ' v I (f.trans g)
noncomputable def SS (X:Cx)(st:Stmt)(m:MS):Prop:=∃t,PS X st t/\∀B G H σ ρ fl ρ' (E:Ends),SI X.K B G H σ ρ->m ρ=some (fl,ρ')->Post X.K B G E fl ρ'->t E σ H
noncomputable def SSs (X:Cx)(st:List Stmt)(m:MS):Prop:=∃t,PSs X st t/\∀B G H σ ρ fl ρ' (E:Ends),SI X.K B G H σ ρ->m ρ=some (fl,ρ')->Post X.K B G E fl ρ'->t E σ H
noncomputable def zbM:MS:=fun ρ=>some (.next,ρ)
noncomputable def sSeq (a b:MS):MS:=fun ρ=>(a ρ).bind fun p=>match p.1 with
 | .next=>b p.2
 |f=>some (f,p.2)
section
variable {X:Cx} {st:Stmt} {rest:List Stmt} {m n:MS} {e:Expr} {me:ME} {pos:Pos}
theorem zaE:SSs X [] zbM:=⟨_,zqS,fun B G H σ ρ fl ρ' E I hm k=>by cases hm;exact k G H σ I (Fz.refl G)⟩
theorem zaj (h:SS X st m):SSs X [st] m:=let⟨t,p,s⟩:=h;⟨t,pss_one p,s⟩
theorem zad (h:SS X st m)(hr:SSs X rest n):SSs X (st::rest) (sSeq m n):=by
 obtain⟨t,p,s⟩:=h;obtain⟨u,q,z⟩:=hr;refine⟨_,zk4 p q,fun B G H σ ρ fl ρ' E I hm k=>?_⟩;obtain⟨⟨f,ρ1⟩,e1,e2⟩:=zae hm;refine s B G H σ ρ f ρ1 _ I e1 ?_;cases f with
 |next=>exact fun G1 H1 σ1 I1 f1=>z B G1 H1 σ1 ρ1 fl ρ' E I1 e2 (k.mono f1)
 |brk=>cases e2;exact k
 |cont=>cases e2;exact k
 |ret r=>cases e2;exact k
noncomputable def sExpr (m:ME):MS:=fun ρ=>(m ρ).map fun p=>(.next,p.2)
theorem ss_expr (h:SE X e me)(hs:swapsWith e none pos.line X.env=pure false:=by rfl):SS X (.Expr e pos) (sExpr me):=by
 obtain⟨t,p,s⟩:=h;refine⟨_,znQ p hs,fun B G H σ ρ fl ρ' E I hm k=>?_⟩;obtain⟨⟨d,ρ1⟩,e1,e2⟩:=zat hm;cases e2;exact s B G H σ ρ d ρ1 _ I e1 fun G1 H1 v I1 f1 _=>k G1 H1 σ I1 f1
noncomputable def sRet (m:ME):MS:=fun ρ=>(m ρ).map fun p=>(.ret (.val p.1),p.2)
theorem zaI (h:SE X e me):SS X (.Return (some e) pos) (sRet me):=by
 obtain⟨t,p,s⟩:=h;refine⟨_,zpJ p,fun B G H σ ρ fl ρ' E I hm k=>?_⟩;obtain⟨⟨d,ρ1⟩,e1,e2⟩:=zat hm;cases e2;exact s B G H σ ρ d ρ1 _ I e1 fun G1 H1 v I1 f1 r1=>k G1 H1 σ v I1 f1 r1
noncomputable def zlv (m:MO):MS:=fun ρ=>(m ρ).map fun p=>(.ret (.own p.1),p.2)
theorem zhN {mo:MO}(h:SO X e mo):SS X (.Return (some e) pos) (zlv mo):=by
 obtain⟨t,p,s⟩:=h;refine⟨_,zpJ p,fun B G H σ ρ fl ρ' E I hm k=>?_⟩;obtain⟨⟨d,ρ1⟩,e1,e2⟩:=zat hm;cases e2;exact s B G H σ ρ d ρ1 _ I e1 fun G1 H1 l xs I1 f1 g1 h1 r1 b1 _=>k G1 H1 σ _ I1 f1 ⟨l,xs,rfl,g1,h1,r1,b1⟩
theorem SI.emp (I:SI K B G H σ ρ)(i:Nat):SI K B G H σ (ρ.set i .emp):=by
 by_cases hi:i<ρ.length
 ·have hs:σ[i]? =some (σ[i]'(by rw[I.len];exact hi)):=qbD _;have h:=I.chg (i:=i) (ov:=σ[i]'(by rw[I.len];exact hi)) (s':= .emp) I.fz (Fz.refl G) I.new I.keep I.there (fun _ _ _ _ _ _ g _=>⟨g,rfl,id⟩) trivial;rwa[zkH hs]at h
 ·rw[List.set_eq_of_length_le (by lia)];exact I
noncomputable def zij (i:Nat):MS:=fun ρ=>match ρ[i]? with
 |some (.val d)=>some (.ret (.val d),ρ)
 |some (.own ds)=>some (.ret (.own ds),ρ.set i .emp)
 |_=>none
theorem zd1 (i:Nat)(hN:X.N[i]? =some x:=by rfl)(hv:Vis X.env.scope x:=by first|exact Or.inl rfl|exact Or.inr (Or.inl rfl)|exact Or.inr (Or.inr rfl))(hd:(x==("__debug__":Str))=false:=by decide)
  (hcd:(x==("__classdict__":Str))=false:=by decide):SS X (.Return (some (.Name x pos')) pos) (zij i):=by
 refine⟨_,zpJ (zc1 hN hv hd hcd),fun B G H σ ρ fl ρ' E I hm k=>?_⟩;unfold zij at hm;cases e:ρ[i]? with
 |none=>rw[e]at hm;cases hm
 |some s=>
  rw[e]at hm;have h:=I.slot i s e;cases s with
  |emp=>cases hm
  |two _ _=>cases hm
  |tre _=>cases hm
  |ptr _=>cases hm
  |par ds=>cases hm
  |val d=>cases hm;obtain⟨v,h1,h2⟩:=h;exact⟨v,h1,k G H σ v I (Fz.refl G) h2⟩
  |own ds=>
   cases hm;obtain⟨l,xs,h1,h2,h3,h4,h5⟩:=h;exact⟨.ref l,h1,k G H σ _ (I.emp i) (Fz.refl G) ⟨l,xs,rfl,h2,h3,h4,h5⟩⟩
noncomputable def sIf (c:MT)(a b:MS):MS:=fun ρ=>(c ρ).bind fun p=>if p.1 then a p.2 else b p.2
theorem zbD {c:Expr}{a b:List Stmt}{ma mb:MS}(hc:STt X c mc)(ha:SSs X a ma)(hb:SSs X b mb):SS X (.If c a b pos) (sIf mc ma mb):=by
 obtain⟨tc,pc,sc⟩:=hc;obtain⟨ta,pa,sa⟩:=ha;obtain⟨tb,pb,sb⟩:=hb;refine⟨_,ps_if pc pa pb,fun B G H σ ρ fl ρ' E I hm k=>?_⟩;obtain⟨⟨x,ρ1⟩,e1,e2⟩:=zae hm;refine sc B G H σ ρ x ρ1 _ I e1 fun G1 H1 I1 f1=>?_
 cases x with
 |true=>exact sa B G1 H1 σ ρ1 fl ρ' E I1 e2 (k.mono f1)
 |false=>exact sb B G1 H1 σ ρ1 fl ρ' E I1 e2 (k.mono f1)
end
noncomputable def SG (X:Cx)(tg:Expr)(g:D->R->Option R):Prop:=∃t,PG X tg t/\∀B G H σ ρ v d ρ' (Q:St->Hp->Prop),SI X.K B G H σ ρ->RepD X.K G v d->g d ρ=some ρ'->(∀G' H' σ',SI X.K B G' H' σ' ρ'->Fz G G'->Q σ' H')->t v σ H Q
noncomputable def SGs (X:Cx)(tgs:List Expr)(g:List D->R->Option R):Prop:=∃t,PGs X tgs t/\∀B G H σ ρ vs ds ρ' (Q:St->Hp->Prop),SI X.K B G H σ ρ->RepL X.K G vs ds->g ds ρ=some ρ'->(∀G' H' σ',SI X.K B G' H' σ' ρ'->Fz G G'->Q σ' H')->t vs σ H Q
noncomputable def gN (i:Nat):D->R->Option R:=fun d ρ=>some (ρ.set i (.val d))
noncomputable def zhk:List D->R->Option R:=fun ds ρ=>match ds with
 |[]=>some ρ
 |_=>none
noncomputable def zaY (g:D->R->Option R)(h:List D->R->Option R):List D->R->Option R:=fun ds ρ=>match ds with
 |d::ds=>(g d ρ).bind fun ρ1=>h ds ρ1
 |[]=>none
noncomputable def gT (n:Nat)(g:List D->R->Option R):D->R->Option R:=fun d ρ=>match d with
 | .tup ds=>if ds.length=n then g ds ρ else none
 |_=>none
section
variable {X:Cx} {pos:Pos}
theorem zam (i:Nat)(hN:X.N.Nodup)(hi:X.N[i]? =some x:=by rfl)(hx:Loc X.env.scope x:=by first|exact Or.inl rfl|exact Or.inr rfl)(hf:X.fn x=true\/X.env.scope.names.lookup x=some .local:=by first|exact Or.inl rfl|exact Or.inr rfl):SG X (.Name x pos) (gN i):=
 ⟨_,znA hN hi hx hf,fun B G H σ ρ v d ρ' Q I r hm k=>by cases hm;exact k G H _ (I.set r) (Fz.refl G)⟩
theorem zcw:SGs X [] zhk:=⟨_,zqt,fun B G H σ ρ vs ds ρ' Q I r hm k=>by
 cases ds with
 |nil=>cases hm;exact⟨r,k G H σ I (Fz.refl G)⟩
 |cons=>cases hm⟩
theorem zax {e:Expr}(h1:SG X e g)(h2:SGs X es h)(hs:(assignEach (e::es) X.env).map (·.2)=assign e X.env::(assignEach es X.env).map (·.2):=by rfl):SGs X (e::es) (zaY g h):=by
 obtain⟨t,p,s⟩:=h1;obtain⟨u,q,z⟩:=h2;refine⟨_,zoq p q hs,fun B G H σ ρ vs ds ρ' Q I r hm k=>?_⟩;cases ds with
 |nil=>cases hm
 |cons d ds=>
  obtain⟨x,ys,rfl,rx,ry⟩:=r;obtain⟨ρ1,e1,e2⟩:=zae hm;exact⟨x,ys,rfl,s B G H σ ρ x d ρ1 _ I rx e1 fun G1 H1 σ1 I1 f1=>z B G1 H1 σ1 ρ1 ys ds ρ' Q I1 (ry.mono f1) e2 fun G2 H2 σ2 I2 f2=>k G2 H2 σ2 I2 (f1.trans f2)⟩
theorem zez {k:Nat}{g:List D->R->Option R}(hc:X.calm=true)(h:SGs X es g)(hn:(assignEach es X.env).length=n:=by rfl)(hst:(assignEach es X.env).findIdx? (·.1)=none:=by rfl):SG X (.Tuple es k pos) (gT n g):=by
 obtain⟨t,p,s⟩:=h;refine⟨_,pg_tup hc p hn hst,fun B G H σ ρ v d ρ' Q I r hm k=>?_⟩;cases d<;>try cases hm
 rename_i ds;simp only[gT]at hm
 split at hm
 ·rename_i hl;obtain⟨a,xs,e,ha,rx⟩:=I.tup r;exact⟨a,xs,e,SqT.of ha,by rw[rx.length];exact hl,s B G H σ ρ xs ds ρ' Q I rx hm k⟩
 ·cases hm
variable {e tg:Expr} {me:ME} {mo:MO}
noncomputable def sAsg (m:ME)(g:D->R->Option R):MS:=fun ρ=>(m ρ).bind fun p=>(g p.1 p.2).map fun ρ'=>(.next,ρ')
theorem zoM (he:SE X e me)(hg:SG X tg g)(hs:swapsWithSole [tg] e pos.line X.env=pure false:=by rfl)(hw:swappedStores [tg] e X.env=pure none:=by rfl)
  (h1:(assignEach [tg] X.env).map (·.2)=[assign tg X.env]:=by rfl):SS X (.Assign [tg] e pos) (sAsg me g):=by
 obtain⟨t,p,s⟩:=he;obtain⟨u,q,z⟩:=hg;refine⟨_,zrC p q hs hw h1,fun B G H σ ρ fl ρ' E I hm k=>?_⟩;obtain⟨⟨d,ρ1⟩,e1,h2⟩:=zae hm;obtain⟨ρ2,e2,e3⟩:=zat h2;obtain⟨rfl,rfl⟩:=Prod.mk.inj e3;exact s B G H σ ρ d ρ1 _ I e1 fun G1 H1 v I1 f1 r1=>z B G1 H1 σ ρ1 v d ρ2 _ I1 r1 e2 fun G2 H2 σ2 I2 f2=>k G2 H2 σ2 I2 (f1.trans f2)
noncomputable def sSet (i:Nat)(m:ME):MS:=fun ρ=>(m ρ).map fun p=>(.next,p.2.set i (.val p.1))
theorem zap (i:Nat)(he:SE X e me)(hN:X.N.Nodup)(hi:X.N[i]? =some x:=by rfl)(hx:Loc X.env.scope x:=by first|exact Or.inl rfl|exact Or.inr rfl)(hs:swapsWith e (some (.Name x pos')) pos.line X.env=pure false:=by rfl)
    (hf:X.fn x=true\/X.env.scope.names.lookup x=some .local:=by first|exact Or.inl rfl|exact Or.inr rfl):SS X (.Assign [.Name x pos'] e pos) (sSet i me):=by
  obtain⟨t,p,s⟩:=he;refine⟨_,znq hN hi hx p hs hf,fun B G H σ ρ fl ρ' E I hm k=>?_⟩;obtain⟨⟨d,ρ1⟩,e1,e3⟩:=zat hm;cases e3;exact s B G H σ ρ d ρ1 _ I e1 fun G1 H1 v I1 f1 r1=>k G1 H1 _ (I1.set r1) f1
noncomputable def zft (i:Nat)(m:MO):MS:=fun ρ=>(m ρ).map fun p=>(.next,p.2.set i (.own p.1))
theorem zeL (i:Nat)(he:SO X e mo)(hN:X.N.Nodup)(hi:X.N[i]? =some x:=by rfl)(hx:Loc X.env.scope x:=by first|exact Or.inl rfl|exact Or.inr rfl)(hs:swapsWith e (some (.Name x pos')) pos.line X.env=pure false:=by rfl)
    (hf:X.fn x=true\/X.env.scope.names.lookup x=some .local:=by first|exact Or.inl rfl|exact Or.inr rfl):SS X (.Assign [.Name x pos'] e pos) (zft i mo):=by
  obtain⟨t,p,s⟩:=he;refine⟨_,znq hN hi hx p hs hf,fun B G H σ ρ fl ρ' E I hm k=>?_⟩;obtain⟨⟨d,ρ1⟩,e1,e3⟩:=zat hm;cases e3;exact s B G H σ ρ d ρ1 _ I e1 fun G1 H1 l xs I1 f1 g1 h1 r1 b1 n1=>k G1 H1 _ (I1.setO g1 h1 r1 b1 n1) f1
noncomputable def sApp (i:Nat)(m:ME):MS:=fun ρ=>if(ρ[i]?.bind Sl.items).isSome then(m ρ).bind fun p=>p.2[i]?.bind fun s=>s.items.bind fun ds=>if ds.length<16777216 then some (.next,p.2.set i (s.put (ds++[p.1])))else none else none
theorem zk0 (i:Nat){pos' apos cpos:Pos}(he:SE X e me)(hN:X.N[i]? =some x:=by rfl)(hv:Vis X.env.scope x:=by first|exact Or.inl rfl|exact Or.inr (Or.inl rfl)|exact Or.inr (Or.inr rfl))(hd:(x==("__debug__":Str))=false:=by decide)
  (hcd:(x==("__classdict__":Str))=false:=by decide)
  (hbase:attributeBase (.Name x pos') "append" X.env (eval (.Name x pos') X.env)=eval (.Name x pos') X.env:=by rfl)
  (hfew : ((backTo cpos (starEach [e] X.env)).all (fun x => !x.1) && (backToKw cpos (keywordEach [] X.env)).all (fun x => x.1.isSome)
   &&decide ([e].length+([]:List Keyword).length+(if([]:List Keyword).isEmpty then 0 else 1)<30))=true:=by rfl)
  (hline:(apos.endLine==cpos.line)=true:=by rfl) (hs:starEach [e] X.env=(false,eval e X.env)::starEach [] X.env:=by rfl):SS X (.Expr (.Call (.Attribute (.Name x pos') "append" apos) [e] [] cpos) pos) (sApp i me):=by
 obtain⟨t,p,s⟩:=he;refine⟨_,znQ (pe_bm qbE PySem.F.slot_list_append PySem.F.type_list_append zmo (zc1 hN hv hd hcd) (zb4 p ziz hs) hbase hfew hline hs rfl) (by rfl),fun B G H σ ρ fl ρ' E I hm k=>?_⟩;unfold sApp at hm
 split at hm
 ·rename_i hso;obtain⟨ds0,hso⟩:=qaT.mp hso;obtain⟨s0,e0,q0⟩:=zae hso;obtain⟨l,xs0,h1,h2,h3,h4⟩:=I.wr e0 q0;obtain⟨⟨d,ρ1⟩,e1,hm⟩:=zae hm;obtain⟨s1,e2,hm⟩:=zae hm;obtain⟨ds,e3,hm⟩:=zae hm
  split at hm
  ·rename_i hl;cases hm;refine⟨.ref l,h1,.inl ⟨rfl,_,SqL.of h3⟩,s B G H σ ρ d ρ1 _ I e1 fun G1 H1 v I1 f1 r1=>?_⟩;obtain⟨l',xs,k1,k2,k3,k4⟩:=I1.wr e2 e3;rw[h1]at k1;cases k1;refine⟨l,xs,v,rfl,rfl,k3,by rw[k4.length,qaN];exact hl,?_⟩;exact k G1 _ σ (I1.write e2 e3 h1 (k4.snoc r1)) f1
  ·cases hm
 ·cases hm
noncomputable def sPut (j:Nat)(mi me:ME):MS:=fun ρ=>(me ρ).bind fun p=>if hasV p.2 j then(mi p.2).bind fun q=>match q.1 with
 | .int k=>q.2[j]?.bind fun s=>s.items.bind fun ds=>(ixN ds.length k).bind fun n=>some (.next,q.2.set j (s.put (ds.set n p.1)))
 |_=>none else none
theorem ziN (j:Nat){i:Expr}{mi:ME}{pos' tpos:Pos}(he:SE X e me)(hi:SE X i mi)(hN:X.N[j]? =some x:=by rfl)(hv:Vis X.env.scope x:=by first|exact Or.inl rfl|exact Or.inr (Or.inl rfl)|exact Or.inr (Or.inr rfl))(hd:(x==("__debug__":Str))=false:=by decide)
  (hcd:(x==("__classdict__":Str))=false:=by decide)
  (ha : ∀ v, assign (.Subscript (.Name x pos') i tpos) X.env v = (do
   let ov<-holding [v] (eval (.Name x pos') X.env)
   let iv<-holding [v,ov] (eval i X.env)
   standAt tpos
   holding [v,ov,iv] (setItem ov iv v)
   release [v,ov,iv] []):=by exact fun _=>rfl)
  (hs:swapsWithSole [.Subscript (.Name x pos') i tpos] e pos.line X.env=pure false:=by rfl) (hw:swappedStores [.Subscript (.Name x pos') i tpos] e X.env=pure none:=by rfl)
  (h1:(assignEach [.Subscript (.Name x pos') i tpos] X.env).map (·.2)=[assign (.Subscript (.Name x pos') i tpos) X.env]:=by rfl):SS X (.Assign [.Subscript (.Name x pos') i tpos] e pos) (sPut j mi me):=by
 obtain⟨t,p,s⟩:=he;obtain⟨u,q,z⟩:=hi;refine⟨_,zrC p (pg_sub (zc1 hN hv hd hcd) q zoF ha) hs hw h1,fun B G H σ ρ fl ρ' E I hm k=>?_⟩;obtain⟨⟨d,ρ1⟩,e1,hm⟩:=zae hm;refine s B G H σ ρ d ρ1 _ I e1 fun G1 H1 v I1 f1 r1=>?_
 split at hm
 ·rename_i hh;obtain⟨w,ew⟩:=I1.has hh;obtain⟨⟨kd,ρ2⟩,e2,hm⟩:=zae hm;cases kd<;>try cases hm
  rename_i kk;obtain⟨s2,e3,hm⟩:=zae hm;obtain⟨ds,e4,hm⟩:=zae hm;obtain⟨n,e5,hm⟩:=zae hm;cases hm;refine⟨w,ew,z B G1 H1 σ ρ1 (.int kk) ρ2 _ I1 e2 fun G2 H2 y I2 f2 r2=>?_⟩;obtain⟨l,xs,k1,k2,k3,k4⟩:=I2.wr e3 e4;rw[ew]at k1;cases k1;refine⟨l,xs,kk,n,rfl,r2,k3,by rw[k4.length];exact e5,?_⟩;exact k G2 _ σ (I2.write e3 e4 ew (k4.set n (r1.mono f2))) (f1.trans f2)
 ·cases hm
end
structure Itm (K:W.Frag) (J:It) (G:Hp) (items:List D):Prop where
 go:∀H i,Fz G H->i<items.length->J.go i H
 yld:∀H i x H',Fz G H->J.yld i H x H'->∀d,items[i]? =some d->(H'=H/\RepD K G x d)\/∃p xs ds,H p=none/\H'=upd H p (.tup xs)/\x= .ref p/\d= .tup ds/\RepL K G xs ds
 stop:∀H i,Fz G H->items.length<=i->J.stop i H
noncomputable def SIt (X:Cx)(tg it:Expr)(m:MA):Prop:=∃wi,PI X tg it wi/\∀B G H σ ρ ds ρ' (Q:It->Hp->Prop),SI X.K B G H σ ρ->m ρ=some (ds,ρ')->(∀J G' H',SI X.K B G' H' σ ρ'->Fz G G'->Itm X.K J G' ds->Q J H')->wi σ H Q
noncomputable def forM (f:D->R->Option (Fl×R)):List D->R->Option (Fl×R)
 |[],ρ=>some (.next,ρ)
 |d::ds,ρ=>(f d ρ).bind fun p=>match p.1 with
  | .next=>forM f ds p.2
  | .cont=>forM f ds p.2
  | .brk=>some (.next,p.2)
  | .ret r=>some (.ret r,p.2)
noncomputable def sFor (mi:MA)(g:D->R->Option R)(mb:MS):MS:=fun ρ=>(mi ρ).bind fun p=>forM (fun d ρ=>(g d ρ).bind fun ρ'=>mb ρ') p.1 p.2
theorem SI.yld {x:V}(I:SI K B G H σ ρ)
  (h:(H'=H/\RepD K G x d)\/∃p xs ds,H p=none/\H'=upd H p (.tup xs)/\x= .ref p/\d= .tup ds/\RepL K G xs ds):∃G',SI K B G' H' σ ρ/\Fz G G'/\RepD K G' x d:=by
 rcases h with⟨rfl,r⟩|⟨p,xs,ds,hp,rfl,rfl,rfl,r⟩
 ·exact⟨G,I,Fz.refl G,r⟩
 ·obtain⟨I2,f2,r2⟩:=I.newT hp r;exact⟨_,I2,f2,r2⟩
theorem zdt {tg it:Expr}{mi:MA}{mb:MS}(hp:PassesOwn (model X.prog X.w) X.A X.env X.xe)(hc:X.calm=true)(hi:SIt X tg it mi)(hg:SG X tg g)(hb:SSs X body mb)
    (hs:∀x,foldedSetIterable it X.env x=pure x:=by exact fun _=>rfl):SS X (.For tg it body [] pos) (sFor mi g mb):=by
  obtain⟨wi,pi,si⟩:=hi;obtain⟨tg',pg,sg⟩:=hg;obtain⟨tb,pb,sb⟩:=hb;refine⟨_,ps_for hp hc pi pg pb hs,fun B G H σ ρ fl ρ' E I hm k=>?_⟩;obtain⟨⟨ds,ρ1⟩,e1,hm⟩:=zae hm;refine si B G H σ ρ ds ρ1 _ I e1 fun J G1 H1 I1 f1 IT=>?_
  refine⟨fun i m σ H=>m=ds.length-i/\i<=ds.length/\∃G2 ρ2,SI X.K B G2 H σ ρ2/\Fz G1 G2/\forM (fun d ρ=>(g d ρ).bind fun ρ'=>mb ρ') (ds.drop i) ρ2=some (fl,ρ'),⟨ds.length,by simp,qbv _,G1,ρ1,I1,Fz.refl _,by simpa using hm⟩,?_⟩;rintro i m σ2 H2 ⟨rfl,hi,G2,ρ2,I2,f2,e2⟩
  by_cases hlt:i<ds.length
  . rw[qbF hlt]at e2
    simp only[forM]at e2;obtain⟨⟨f,ρ3⟩,e3,e4⟩:=zae e2;obtain⟨ρ2',e5,e6⟩:=zae e3;have fz2:Fz G1 H2:=f2.trans I2.fz;refine .inr ⟨IT.go H2 i fz2 hlt,fun σ' H'=>(∃G3,SI X.K B G3 H' σ' ρ3/\Fz G1 G3)/\(f= .next\/f= .cont),?_,fun x H' y=>?_⟩
    . rintro σ' H' ⟨⟨G3,I3,f3⟩,hf⟩
      refine⟨ds.length-(i+1),by lia,rfl,hlt,G3,ρ3,I3,f3,?_⟩;rcases hf with rfl|rfl<;>exact e4
    . have yy:=IT.yld H2 i x H' fz2 y ds[i] (qbD hlt)
      have yy2:(H'=H2/\RepD X.K G2 x ds[i])\/∃p xs es,H2 p=none/\H'=upd H2 p (.tup xs)/\x= .ref p/\ds[i]= .tup es/\RepL X.K G2 xs es:=by
        rcases yy with⟨a,b⟩|⟨p,xs,es,a,b,c,d,e⟩
        . exact .inl ⟨a,b.mono f2⟩
        . exact .inr ⟨p,xs,es,a,b,c,d,e.mono f2⟩
      obtain⟨G3,I3,f3,r3⟩:=I2.yld yy2;refine sg B G3 H' σ2 ρ2 x ds[i] ρ2' _ I3 r3 e5 fun G4 H4 σ4 I4 f4=>sb B G4 H4 σ4 ρ2' f ρ3 _ I4 e6 ?_
      have ff:Fz G1 G4:=f2.trans (f3.trans f4);cases f with
      |next=>exact fun G5 H5 σ5 I5 f5=>⟨⟨G5,I5,ff.trans f5⟩,.inl rfl⟩
      |cont=>exact fun G5 H5 σ5 I5 f5=>⟨⟨G5,I5,ff.trans f5⟩,.inr rfl⟩
      |brk=>cases e4;exact fun G5 H5 σ5 I5 f5=>k G5 H5 σ5 I5 (f1.trans (ff.trans f5))
      |ret r=>cases e4;exact fun G5 H5 σ5 v I5 f5=>k G5 H5 σ5 v I5 (f1.trans (ff.trans f5))
  . have e:i=ds.length:=by lia
    subst e;rw[List.drop_length]at e2;cases e2;exact .inl ⟨IT.stop H2 _ (f2.trans I2.fz) (qaJ _),k G2 H2 σ2 I2 (f1.trans f2)⟩
section
variable {X:Cx} {tg it:Expr} {me:ME}
noncomputable def iSeq (m:ME):MA:=fun ρ=>(m ρ).bind fun p=>(zaR [p.1]).map fun ds=>(ds,p.2)
theorem pi_or {l:Expr}{tl:TE}(hl:PE X l tl):PI X tg l (fun σ H R=>tl σ H fun x H1=>∃a,x= .ref a/\(((∃xs,SqL X.K H1 a xs)/\R (Itl X.K a) H1)\/((∃xs,SqT X.K H1 a xs)/\R (Itt X.K a) H1))):=by
 intro pins s σ H R I h;refine thn (hl pins s σ H _ I h) fun v s1 ⟨x,H1,I1,r1,q1⟩=>?_
 obtain⟨a,e,q⟩:=q1;subst e;cases r1;rcases q with⟨⟨xs,hq⟩,q⟩|⟨⟨xs,hq⟩,q⟩
 ·obtain⟨its,rv,p,hz⟩:=I1.list hq;refine wpAny_pyIter_list p.isList ?_;refine⟨s1.heap.objs.size,[s1.heap.objs.size],_,_,H1,rfl,I1.kept (t':=s1.toks) fun b o e=>qaE _ e,zq2 a _,⟨_,qaI _ rfl,rfl,rfl⟩,fun b hb=>?_,q⟩;have e:b=s1.heap.objs.size:=by simpa using hb
  subst e;exact I1.fpOk (qaJ _) (I1.hok.fresh (qaJ _))
 ·obtain⟨its,rv,p,hz⟩:=I1.tuple hq;refine qbG (show s1.heap.IsTuple a its.toArray from p) ?_;refine⟨s1.heap.objs.size,[s1.heap.objs.size],_,_,H1,rfl,I1.kept (t':=s1.toks) fun b o e=>qaE _ e,zpp a _,⟨_,qaI _ rfl,rfl,rfl⟩,fun b hb=>?_,q⟩;have e:b=s1.heap.objs.size:=by simpa using hb
  subst e;exact I1.fpOk (qaJ _) (I1.hok.fresh (qaJ _))
theorem zoT {a:Addr}(hg:SqL K G a xs)(r:RepL K G xs ds):Itm K (Itl K a) G ds where
 go:=fun H i f hi=>by
  have hl:=r.length;exact⟨xs,xs[i],f.sql hg,qbD (by lia)⟩
 yld:=fun H i x H' f y d e=>by
  obtain⟨rfl,y⟩:=y;have hx:=y xs (f.sql hg);obtain⟨x',h1,h2⟩:=r.get e;rw[hx]at h1;cases h1;exact .inl ⟨rfl,h2⟩
 stop:=fun H i f hi=>⟨xs,f.sql hg,by rw[r.length];exact hi⟩
theorem itm_tup {a:Addr}(hg:G a=some (.tup xs))(r:RepL K G xs ds):Itm K (Itt K a) G ds where
 go:=fun H i f hi=>by
  have hl:=r.length;exact⟨xs,xs[i],SqT.of (f _ _ hg),qbD (by lia)⟩
 yld:=fun H i x H' f y d e=>by
  obtain⟨rfl,y⟩:=y;have hx:=y xs (SqT.of (f _ _ hg));obtain⟨x',h1,h2⟩:=r.get e;rw[hx]at h1;cases h1;exact .inl ⟨rfl,h2⟩
 stop:=fun H i f hi=>⟨xs,SqT.of (f _ _ hg),by rw[r.length];exact hi⟩
theorem zc3 (h:SE X it me):SIt X tg it (iSeq me):=by
 obtain⟨t,p,s⟩:=h;refine⟨_,pi_or p,fun B G H σ ρ ds ρ' Q I hm k=>?_⟩;obtain⟨⟨d,ρ1⟩,e1,hm⟩:=zae hm;obtain⟨es,e2,e3⟩:=zat hm;cases e3;refine s B G H σ ρ d ρ1 _ I e1 fun G1 H1 v I1 f1 r1=>?_
 cases d<;>simp only[zaR]at e2<;>try cases e2
 ·obtain⟨a,xs,rfl,ha,r⟩:=r1;exact⟨a,rfl,.inl ⟨⟨xs,SqL.of (I1.fz _ _ ha)⟩,k _ G1 H1 I1 f1 (zoT (SqL.of ha) r)⟩⟩
 ·obtain⟨a,xs,rfl,ha,r⟩:=r1;exact⟨a,rfl,.inr ⟨⟨xs,SqT.of (I1.fz _ _ ha)⟩,k _ G1 H1 I1 f1 (itm_tup ha r)⟩⟩
 ·obtain⟨a,rfl,ha⟩:=r1;exact⟨a,rfl,.inl ⟨⟨_,I1.fz.sql ha⟩,k _ G1 H1 I1 f1 (zoT ha (RepL.ints _))⟩⟩
end
noncomputable def zec (lo:Int)(n:Nat):List D:=(List.range n).map fun(i:Nat)=>D.int (lo+(i:Int))
theorem zmL (lo:Int)(n:Nat):Itm K (Itr lo n) G (zec lo n) where
 go:=fun H i f hi=>by show i<n;simpa[zec]using hi
 yld:=fun H i x H' f y d e=>by
  obtain⟨rfl,rfl⟩:=y;unfold zec at e;rw[qaZ]at e;cases q:(List.range n)[i]? with
  |none=>rw[q]at e;cases e
  |some j=>
   rw[q]at e;have hj:j=i:=by
    have:=qar.mp q;obtain⟨h1,h2⟩:=this;simpa using h2.symm
   subst hj;cases e;exact .inl ⟨rfl,rfl⟩
 stop:=fun H i f hi=>by show n<=i;simpa[zec]using hi
noncomputable def zcz (j:Int):Bool:=decide (-1000000000000<=j)&&decide (j<=1000000000000)
theorem zdS {j:Int}(h:zcz j=true): -(2^62)<=j/\j<2^62:=by
 unfold zcz at h;simp only[qbi,qbA]at h;lia
noncomputable def iR1 (ma:MA):MA:=fun ρ=>(ma ρ).bind fun p=>match p.1 with
 |[.int j]=>if zcz j then some (zec 0 j.toNat,p.2)else none
 |_=>none
noncomputable def iR2 (ma:MA):MA:=fun ρ=>(ma ρ).bind fun p=>match p.1 with
 |[.int i,.int j]=>if zcz i&&zcz j then some (zec i (j-i).toNat,p.2)else none
 |_=>none
section
variable {X:Cx} {tg a b:Expr} {ma:MA} {p pos:Pos}
theorem zaP (hm:X.mg "range"=none)(ha:SA X [a] ma)(hg:Gl X "range":=by rfl)(hs:starEach [a] X.env=[(false,eval a X.env)]:=by rfl):SIt X tg (.Call (.Name "range" p) [a] [] pos) (iR1 ma):=by
 obtain⟨t,pa,sa⟩:=ha;refine⟨_,zqX hg hm pa hs,fun B G H σ ρ ds ρ' Q I hm k=>?_⟩;obtain⟨⟨es,ρ1⟩,e1,h2⟩:=zae hm;dsimp only at h2;refine sa B G H σ ρ es ρ1 _ I e1 fun G1 H1 vs I1 f1 r1=>?_
 split at h2
 ·rename_i j
  split at h2
  ·rename_i hj;cases h2;obtain⟨x,rfl,rx⟩:=r1.one;cases(show x=V.int j from rx);exact⟨j,rfl,(zdS hj).1,(zdS hj).2,k _ G1 H1 I1 f1 (zmL 0 _)⟩
  ·cases h2
 ·cases h2
theorem zkb (hm:X.mg "range"=none)(ha:SA X [a,b] ma)(hg:Gl X "range":=by rfl)(hs:starEach [a,b] X.env=[(false,eval a X.env),(false,eval b X.env)]:=by rfl)(hs2:starEach [b] X.env=[(false,eval b X.env)]:=by rfl):SIt X tg (.Call (.Name "range" p) [a,b] [] pos) (iR2 ma):=by
 obtain⟨t,pa,sa⟩:=ha;refine⟨_,zp9 hg hm pa hs hs2,fun B G H σ ρ ds ρ' Q I hm k=>?_⟩;obtain⟨⟨es,ρ1⟩,e1,h2⟩:=zae hm;dsimp only at h2;refine sa B G H σ ρ es ρ1 _ I e1 fun G1 H1 vs I1 f1 r1=>?_
 split at h2
 ·rename_i i j
  split at h2
  ·rename_i hj;simp only[qbi]at hj;cases h2;obtain⟨x,y,rfl,rx,ry⟩:=r1.two;cases(show x=V.int i from rx);cases(show y=V.int j from ry);exact⟨i,j,rfl,⟨(zdS hj.1).1,(zdS hj.1).2,(zdS hj.2).1,(zdS hj.2).2⟩,k _ G1 H1 I1 f1 (zmL i _)⟩
  ·cases h2
 ·cases h2
end
noncomputable def ResF (K:W.Frag)(G' H' H:Hp)(v:V):Sl->Prop
 | .val d=>RepD K G' v d
 | .own ds=>∃l xs,v= .ref l/\G' l=none/\H' l=some (.lst xs)/\RepL K G' xs ds/\H l=none
 | .tre t=>∃A,RepT K G' H' v t A/\A.Nodup/\∀a∈A,G' a=none/\H a=none
 | .two ds es=>∃t l xs m ys,v= .ref t/\H' t=some (.tup [.ref l,.ref m])/\l≠m/\G' l=none/\H' l=some (.lst xs)/\RepL K G' xs ds/\H l=none/\G' m=none/\H' m=some (.lst ys)/\RepL K G' ys es/\H m=none
 |_=>False
noncomputable def spP (K:W.Frag)(n:Nat)(F:List D->Option Sl):Sp:=fun vs H Q _=>∃G ds r,F ds=some r/\ds.length=n/\Fz G H/\RepL K G vs ds/\
 ∀G' H' v,Fz G G'->Fz G' H'->(∀b o,G' b=some o->G b≠none\/H b=none)->Fz H H'->ResF K G' H' H v r->Q v H'
noncomputable def spM (K:W.Frag)(n:Nat)(F:List D->List D->Option (Sl×List D)):Sp:=fun vs H Q _=>∃G l xs cs ws ds r out,vs= .ref l::ws/\F cs ds=some (r,out)/\ds.length+1=n/\Fz G H/\G l=none/\H l=some (.lst xs)/\RepL K G xs cs/\RepL K G ws ds/\
 ∀G' H' v ys,Fz G G'->Fz G' H'->(∀b o,G' b=some o->G b≠none\/H b=none)->(∀b o,b≠l->H b=some o->H' b=some o)->G' l=none->H' l=some (.lst ys)->RepL K G' ys out->ResF K G' H' H v r->Q v H'
noncomputable def fP (N:Nat)(m:MS):List D->Option Sl:=fun ds=>(m (ds.map .val++List.replicate (N-ds.length) .emp)).bind fun p=>match p.1 with
 | .ret r=>some r
 | .next=>some (.val .non)
 |_=>none
noncomputable def fM (N:Nat)(m:MS):List D->List D->Option (Sl×List D):=fun cs ds=>(m (.par cs::(ds.map .val++List.replicate (N-(ds.length+1)) .emp))).bind fun p=>match p.1,(p.2[0]?:Option Sl)with
 |Fl.ret r,some (Sl.par out)=>some (r,out)
 |Fl.next,some (Sl.par out)=>some (.val .non,out)
 |_,_=>none
theorem zjZ (h:vs.length<=N.length):(L2.start N vs).length=N.length:=by
 unfold L2.start;rw[qa2,qa3,qa4];lia
theorem SI.start (fz:Fz G H)(r:RepL K G vs ds)(h:ds.length<=N.length):
  SI K ⟨G,H,[]⟩ G H (L2.start N vs) (ds.map .val++List.replicate (N.length-ds.length) .emp) where
 fz:=fz
 g0:=Fz.refl G
 new:=fun b o e=> .inl (by show G b≠none;rw[e];simp)
 keep:=fun b o e _=>e
 there:=fun b e=>e
 ob:=fun i b m=>by cases m
 len:=by rw[zjZ (by rw[r.length];exact h),qa2,qa3,qa4];lia
 slot:=fun i s e=>by
  by_cases hi:i<ds.length
  ·rw[qaY (by simpa using hi),qaZ,qbD hi]at e;cases e;obtain⟨x,h1,h2⟩:=r.get (qbD hi);refine⟨x,?_,h2⟩;unfold L2.start;rw[qaY (by rw[qa3,r.length];exact hi),qaZ,h1]
   rfl
  ·rw[qaW (by simpa using hi),qaX]at e
   split at e
   ·cases e;trivial
   ·cases e
 dis:=fun i j s _ a _ e _ w=>by
  exfalso
  by_cases hi:i<ds.length
  ·rw[qaY (by simpa using hi),qaZ,qbD hi]at e;cases e;exact w
  ·rw[qaW (by simpa using hi),qaX]at e
   split at e
   ·cases e;exact w
   ·cases e
theorem SI.startM (fz:Fz G H)(hg:G l=none)(hl:H l=some (.lst xs))(rc:RepL K G xs cs)(r:RepL K G vs ds)(h:ds.length+1<=N.length):
  SI K ⟨G,H,[(0,l)]⟩ G H (L2.start N (.ref l::vs)) (.par cs::(ds.map .val++List.replicate (N.length-(ds.length+1)) .emp)) where
 fz:=fz
 g0:=Fz.refl G
 new:=fun b o e=> .inl (by show G b≠none;rw[e];simp)
 keep:=fun b o e _=>e
 there:=fun b e=>e
 ob:=fun i b m=>by
  have:b=l:=((by simpa using m):i=0/\b=l).2;subst this;show H b≠none;rw[hl];simp
 len:=by
  have:=r.length;rw[zjZ (by rw[qa5,r.length];exact h),qa5,qa2,qa3,qa4];lia
 slot:=fun i s e=>by
  cases i with
  |zero=>simp at e;subst e;exact⟨l,xs,rfl,hg,hl,rc,by simp⟩
  |succ i=>
   rw[qbH]at e
   by_cases hi:i<ds.length
   ·rw[qaY (by simpa using hi),qaZ,qbD hi]at e;cases e;obtain⟨x,h1,h2⟩:=r.get (qbD hi);refine⟨x,?_,h2⟩;unfold L2.start;rw[qbj,qbI,qbH,qaY (by rw[qa3,r.length];exact hi),qaZ,h1]
    rfl
   ·rw[qaW (by simpa using hi),qaX]at e
    split at e
    ·cases e;trivial
    ·cases e
 dis:=fun i j s t a hij hi hj w1 w2=>by
  have z:∀(i:Nat) (s:Sl),(Sl.par cs::(ds.map .val++List.replicate (N.length-(ds.length+1)) .emp))[i]? =some s->OwS K G H (L2.start N (.ref l::vs))[i]? a s->i=0:=fun i s e q=>by
   cases i with
   |zero=>rfl
   |succ i=>
    exfalso;rw[qbH]at e
    by_cases hi:i<ds.length
    ·rw[qaY (by simpa using hi),qaZ,qbD hi]at e;cases e;exact q
    ·rw[qaW (by simpa using hi),qaX]at e
     split at e
     ·cases e;exact q
     ·cases e
  exact hij ((z i s hi w1).trans (z j t hj w2).symm)
section
variable {P:Program} {w:World} {K:W.Frag} {mg:Str->Option Value} {base:Heap}
theorem fnP_ok {st:Stmt}{f:Addr}{k n:Nat}{m:MS}(F:Fun K x qual st f fd)(S:FnScope N ps (zaA st))(hn:ps.length=n)(hN:n<=N.length)
  (body:∀(cdv:Value) (A:Around) (outer:List Env) (s:Shared) (H:Hp) (E:XK),Room k (A.deeper (envOfC qual (zaA st) s.heap.objs.size f cdv))->SSs (cxOf CX0 P w K mg base N qual (zaA st) f cdv A outer s H E).nox (zca st) m):
  FnOk P w K mg base CX0 (k+1) f fd ps (spP K n (fP N.length m)):=by
 refine F.ok S (fun vs H Q E h=>?_) (fun cdv A outer s H vs Q E hr h=>?_)
 ·obtain⟨G,ds,r,_,h2,_,h4,_⟩:=h;rw[h4.length,h2,hn]
 ·obtain⟨G,ds,r,e1,h2,fz,h4,kk⟩:=h;obtain⟨t,pt,so⟩:=body cdv A outer s H E hr;refine⟨t,pt,?_⟩;obtain⟨⟨fl,ρ'⟩,e2,e3⟩:=zae e1;refine so ⟨G,H,[]⟩ G H (L2.start N vs) _ fl ρ' _ (SI.start fz h4 (by lia)) e2 ?_;have fin:∀G' H' σ' v,SI K ⟨G,H,[]⟩ G' H' σ' ρ'->Fz G G'->ResF K G' H' H v r->Q v H':=fun G' H' σ' v I f rr=>kk G' H' v f I.fz I.new (fun b o e=>I.keep b o e (by simp)) rr
  cases fl with
  |next=>cases e3;exact fun G' H' σ' I f=>fin G' H' σ' .non I f rfl
  |brk=>cases e3
  |cont=>cases e3
  |ret r'=>
   cases e3;refine fun G' H' σ' v I f rr=>fin G' H' σ' v I f ?_
   cases r with
   |val d=>exact rr
   |own ds=>exact rr
   |emp=>exact rr
   |two _ _=>exact rr
   |tre _=>exact rr
   |ptr _=>exact rr
   |par ds=>exact rr
theorem fnM_ok {st:Stmt}{f:Addr}{k n:Nat}{m:MS}(F:Fun K x qual st f fd)(S:FnScope N ps (zaA st))(hn:ps.length=n)(hN:n<=N.length)
  (body:∀(cdv:Value) (A:Around) (outer:List Env) (s:Shared) (H:Hp) (E:XK),Room k (A.deeper (envOfC qual (zaA st) s.heap.objs.size f cdv))->SSs (cxOf CX0 P w K mg base N qual (zaA st) f cdv A outer s H E).nox (zca st) m):
  FnOk P w K mg base CX0 (k+1) f fd ps (spM K n (fM N.length m)):=by
 refine F.ok S (fun vs H Q E h=>?_) (fun cdv A outer s H vs Q E hr h=>?_)
 ·obtain⟨G,l,xs,cs,ws,ds,r,out,rfl,_,h2,_,_,_,_,h4,_⟩:=h;rw[qa5,h4.length,h2,hn]
 ·obtain⟨G,l,xs,cs,ws,ds,r,out,rfl,e1,h2,fz,hg,hl,rc,h4,kk⟩:=h;obtain⟨t,pt,so⟩:=body cdv A outer s H E hr;refine⟨t,pt,?_⟩;obtain⟨⟨fl,ρ'⟩,e2,e3⟩:=zae e1;refine so ⟨G,H,[(0,l)]⟩ G H _ _ fl ρ' _ (SI.startM fz hg hl rc h4 (by lia)) e2 ?_;have fin:∀G' H' σ' v,ρ'[0]? =some (.par out)->SI K ⟨G,H,[(0,l)]⟩ G' H' σ' ρ'->Fz G G'->ResF K G' H' H v r->Q v H':=fun G' H' σ' v e0 I f rr=>by
   obtain⟨l',ys,k1,k2,k3,k4,k5⟩:=I.slot 0 _ e0;have:l'=l:=by simpa using k5
   subst this;exact kk G' H' v ys f I.fz I.new (fun b o hb e=>I.keep b o e (fun i hm=>by simp at hm;exact hb hm.2)) k2 k3 k4 rr
  cases e0:ρ'[0]? with
  |none=>rw[e0]at e3;cases fl<;>cases e3
  |some s0=>
   rw[e0]at e3;cases s0 with
   |emp=>cases fl<;>cases e3
   |two _ _=>cases fl<;>cases e3
   |tre _=>cases fl<;>cases e3
   |ptr _=>cases fl<;>cases e3
   |val d=>cases fl<;>cases e3
   |own d=>cases fl<;>cases e3
   |par o2=>
    cases fl with
    |next=>cases e3;exact fun G' H' σ' I f=>fin G' H' σ' .non e0 I f rfl
    |brk=>cases e3
    |cont=>cases e3
    |ret r'=>
     cases e3;refine fun G' H' σ' v I f rr=>fin G' H' σ' v e0 I f ?_
     cases r with
     |val d=>exact rr
     |own ds=>exact rr
     |emp=>exact rr
     |two _ _=>exact rr
     |tre _=>exact rr
     |ptr _=>exact rr
     |par ds=>exact rr
end
structure FD (P:Program) (w:World) (K:W.Frag) (mg:Str->Option Value) (base:Heap) (k:Nat) (x:Str) (sp:Sp):Prop where
 ex:∃f fd ps,FnOk P w K mg base CX0 k f fd ps sp/\mg x=some (.ref f)/\W.keepIn K (.ref f)=true/\Binds K fd ps []
theorem zqK (nw:∀b o,G' b=some o->G b≠none\/H b=none)(kp:Fz H H'):∀(i:Nat) (s:Sl) (a:Addr),ρ[i]? =some s->OwS K G H σ[i]? a s->G a=none->H a≠none->G' a=none/\H' a=H a:=fun i s a _ _ g h=>by
 obtain⟨u,hu⟩:=qbx.mp h;refine⟨?_,(kp a u hu).trans hu.symm⟩;cases q:G' a with
 |none=>rfl
 |some u=>
  rcases nw a u q with z|z
  ·exact absurd g z
  ·exact absurd z h
theorem SI.grow (I:SI K B G H σ ρ)(f:Fz G G')(fz:Fz G' H')(nw:∀b o,G' b=some o->G b≠none\/H b=none)(kp:Fz H H'):SI K B G' H' σ ρ:=
 I.move fz f (fun b o e=>by
  rcases nw b o e with h|h
  ·cases q:G b with
   |none=>exact absurd q h
   |some u=>exact I.new b u q
  ·exact .inr (I.there b h)) (fun b o e n=>kp b o (I.keep b o e n)) (fun b e=>I.there b (kp.free e)) (zqK nw kp)
theorem SI.own_ne (I:SI K B G H σ ρ){p:Addr}(hp:H p=none)(nw:∀b o,G' b=some o->G b≠none\/H b=none)(kp:Fz H H'):Nw K G' H' σ ρ p:=I.nw_move (I.nw hp) (zqK nw kp)
noncomputable def zaB (F:List D->Option Sl)(ma:MA):ME:=fun ρ=>(ma ρ).bind fun p=>(F p.1).bind fun r=>match r with
 | .val d=>some (d,p.2)
 | .own ds=>some (.lst ds,p.2)
 |_=>none
noncomputable def zpG (F:List D->Option Sl)(ma:MA):MO:=fun ρ=>(ma ρ).bind fun p=>(F p.1).bind fun r=>match r with
 | .own ds=>some (ds,p.2)
 |_=>none
section
variable {X:Cx} {x:Str} {p pos:Pos} {e:Expr} {es:List Expr} {ma:MA} {k k' n:Nat} {F:List D->Option Sl}
theorem zal (fd:FD X.prog X.w X.K X.mg X.base k x (spP X.K n F))(hr:Room k' X.A)(ha:SA X (e::es) ma)(hn:(e::es).length=n:=by rfl)(hk:k<=k':=by decide)(hg:Gl X x:=by rfl)(hdb:(x==("__debug__":Str))=false:=by decide)
  (he:starEach (e::es) X.env=(false,eval e X.env)::starEach es X.env:=by rfl) (hpl:(backTo pos (starEach es X.env)).any (·.1)=false:=by rfl) (hlen:∀ρ as ρ',ma ρ=some (as,ρ')->as.length=n):SE X (.Call (.Name x p) (e::es) [] pos) (zaB F ma):=by
 obtain⟨f,fdd,ps,G0,h1,h2,h3⟩:=fd.ex;obtain⟨t,pa,sa⟩:=ha;refine⟨_,zmk G0 (hr.mono hk) hg h1 h2 h3 .nil pass0 pa hdb he hpl,fun B G H σ ρ d ρ' Q I hm kk=>?_⟩;obtain⟨⟨as,ρ1⟩,e1,hm⟩:=zae hm;obtain⟨r,e2,hm⟩:=zae hm;refine sa B G H σ ρ as ρ1 _ I e1 fun G1 H1 vs I1 f1 r1=>?_
 show spP X.K n F (vs++[]) H1 Q E0;rw[qaQ];refine⟨G1,as,r,e2,hlen ρ as ρ1 e1,I1.fz,r1,fun G2 H2 v f2 fz2 nw kp rr=>?_⟩;have I2:=I1.grow f2 fz2 nw kp;cases r with
 |val d'=>cases hm;exact kk G2 H2 v I2 (f1.trans f2) rr
 |own ds=>
  cases hm;obtain⟨l,xs,rfl,g3,h3,r3,b3⟩:=rr;obtain⟨I3,f3,r4⟩:=zkT I2 g3 h3 r3 (I1.there l b3) (I1.own_ne b3 nw kp);exact kk _ H2 _ I3 (f1.trans (f2.trans f3)) r4
 |emp=>cases hm
 |two _ _=>cases hm
 |tre _=>cases hm
 |ptr _=>cases hm
 |par _=>cases hm
theorem zlE (fd:FD X.prog X.w X.K X.mg X.base k x (spP X.K n F))(hr:Room k' X.A)(ha:SA X (e::es) ma)(hn:(e::es).length=n:=by rfl)(hk:k<=k':=by decide)(hg:Gl X x:=by rfl)(hdb:(x==("__debug__":Str))=false:=by decide)
  (he:starEach (e::es) X.env=(false,eval e X.env)::starEach es X.env:=by rfl) (hpl:(backTo pos (starEach es X.env)).any (·.1)=false:=by rfl) (hlen:∀ρ as ρ',ma ρ=some (as,ρ')->as.length=n):SO X (.Call (.Name x p) (e::es) [] pos) (zpG F ma):=by
 obtain⟨f,fdd,ps,G0,h1,h2,h3⟩:=fd.ex;obtain⟨t,pa,sa⟩:=ha;refine⟨_,zmk G0 (hr.mono hk) hg h1 h2 h3 .nil pass0 pa hdb he hpl,fun B G H σ ρ d ρ' Q I hm kk=>?_⟩;obtain⟨⟨as,ρ1⟩,e1,hm⟩:=zae hm;obtain⟨r,e2,hm⟩:=zae hm;refine sa B G H σ ρ as ρ1 _ I e1 fun G1 H1 vs I1 f1 r1=>?_
 show spP X.K n F (vs++[]) H1 Q E0;rw[qaQ];refine⟨G1,as,r,e2,hlen ρ as ρ1 e1,I1.fz,r1,fun G2 H2 v f2 fz2 nw kp rr=>?_⟩;have I2:=I1.grow f2 fz2 nw kp;cases r with
 |val d'=>cases hm
 |own ds=>
  cases hm;obtain⟨l,xs,rfl,g3,h3,r3,b3⟩:=rr;exact kk G2 H2 l xs I2 (f1.trans f2) g3 h3 r3 (I1.there l b3) (I1.own_ne b3 nw kp)
 |emp=>cases hm
 |two _ _=>cases hm
 |tre _=>cases hm
 |ptr _=>cases hm
 |par _=>cases hm
end
noncomputable def aLen (ma:MA)(n:Nat):Prop:=∀ρ as ρ',ma ρ=some (as,ρ')->as.length=n
theorem zai:aLen aNil 0:=fun ρ as ρ' h=>by cases h;rfl
theorem zac {m:ME}{r:MA}(h:aLen r n):aLen (zaf m r) (n+1):=fun ρ as ρ' e=>by
 obtain⟨⟨d,ρ1⟩,_,h2⟩:=zae e;obtain⟨⟨ds,ρ2⟩,e3,e4⟩:=zat h2;cases e4;rw[qa5,h ρ1 ds ρ2 e3]
noncomputable def zbz (F:List D->List D->Option (Sl×List D))(j:Nat)(ma:MA):ME:=fun ρ=>if(ρ[j]?.bind Sl.items).isSome then(ma ρ).bind fun p=>p.2[j]?.bind fun s=>s.items.bind fun cs=>(F cs p.1).bind fun r=>match r.1 with
 | .val d=>some (d,p.2.set j (s.put r.2))
 | .own ds=>some (.lst ds,p.2.set j (s.put r.2))
 |_=>none else none
theorem SI.growW (I:SI K B G H σ ρ)(e:ρ[j]? =some s)(q:s.items=some cs)(hl:σ[j]? =some (some (.ref l)))
  (f:Fz G G') (fz:Fz G' H') (nw:∀b o,G' b=some o->G b≠none\/H b=none) (kp:∀b o,b≠l->H b=some o->H' b=some o) (gl:G' l=none) (hl':H' l=some (.lst ys)) (r:RepL K G' ys out):SI K B G' H' σ (ρ.set j (s.put out)):=
 I.chgW e q hl fz f nw kp gl hl' r
theorem SI.own_neW {l p:Addr}(I:SI K B G H σ ρ)(e:ρ[j]? =some s)(q:s.items=some cs)(hl:σ[j]? =some (some (.ref l)))(hp:H p=none)
  (nw:∀b o,G' b=some o->G b≠none\/H b=none) (kp:∀b o,b≠l->H b=some o->H' b=some o):Nw K G' H' σ (ρ.set j (s.put out)) p:=fun i t et w=>by
 obtain⟨l',xs,e1,e2,e3,e4⟩:=I.wr e q;rw[hl]at e1;cases e1;have hpl:p≠l:=fun z=>by rw[z,e3]at hp;cases hp
 by_cases z:i=j
 ·subst z;rw[qbw,if_pos rfl]at et
  split at et
  ·cases et;have:=(zbv (zif q out)).mp w;rw[hl]at this;exact hpl (V.ref.inj (Option.some.inj (Option.some.inj this))).symm
  ·cases et
 ·rw[qat (Ne.symm z)]at et;have sl:=I.slot i t et;refine(sl.own (sl.back (fun a w g h=>?_) w)).2.1 hp;have na:a≠l:=fun w'=>by subst w';exact I.dis i j t s a z et e w ((zbv q).mpr hl)
  obtain⟨u,hu⟩:=qbx.mp h;refine⟨?_,(kp a u na hu).trans hu.symm⟩;cases q2:G' a with
  |none=>rfl
  |some u=>
   rcases nw a u q2 with z|z
   ·exact absurd g z
   ·exact absurd z h
section
variable {X:Cx} {x y:Str} {p py pos:Pos} {es:List Expr} {ma:MA} {k k' n:Nat} {F:List D->List D->Option (Sl×List D)}
theorem soundM {t:TA}{Q:VK}(sa:∀B G H σ ρ ds ρ' (Q:List V->Hp->Prop),SI X.K B G H σ ρ->ma ρ=some (ds,ρ')->(∀G' H' vs,SI X.K B G' H' σ ρ'->Fz G G'->RepL X.K G' vs ds->Q vs H')->t σ H Q)
  (hlen:∀ρ as ρ',ma ρ=some (as,ρ')->as.length+1=n) (I:SI X.K B G H σ ρ) {ds0:List D} (h0:ρ[j]?.bind Sl.items=some ds0) {as:List D} {ρ1:R} (e1:ma ρ=some (as,ρ1)) {s:Sl} (e2:ρ1[j]? =some s) {cs:List D} (e3:s.items=some cs)
  {r:Sl} {out:List D} (e4:F cs as=some (r,out))
  (kk:∀G' H' v,SI X.K B G' H' σ (ρ1.set j (s.put out))->Fz G G'->True->(∃H1,ResF X.K G' H' H1 v r/\(∀b,H1 b=none->B.H b=none)/\∀b,H1 b=none->Nw X.K G' H' σ (ρ1.set j (s.put out)) b)->Q v H'):
  tCall (spM X.K n F) [] E0 (tCons (tVar j) t) σ H Q:=by
 obtain⟨s0,k0,q0⟩:=zae h0;obtain⟨l,xs0,h1,h2,h3,h4⟩:=I.wr k0 q0;refine⟨.ref l,h1,sa B G H σ ρ as ρ1 _ I e1 fun G1 H1 vs I1 f1 r1=>?_⟩;show spM X.K n F ((.ref l::vs)++[]) H1 Q E0;rw[qaQ];obtain⟨l',xs,m1,m2,m3,m4⟩:=I1.wr e2 e3;rw[h1]at m1;cases m1;refine⟨G1,l,xs,cs,vs,as,r,out,rfl,e4,hlen ρ as ρ1 e1,I1.fz,m2,m3,m4,r1,fun G2 H2 v ys f2 fz2 nw kp gl hl r2 rr=>?_⟩;exact kk G2 H2 v (I1.growW e2 e3 h1 f2 fz2 nw kp gl hl r2) (f1.trans f2) trivial ⟨H1,rr,fun b hb=>I1.there b hb,fun b hb=>I1.own_neW e2 e3 h1 hb nw kp⟩
theorem zaT (j:Nat)(fd:FD X.prog X.w X.K X.mg X.base k x (spM X.K n F))(hr:Room k' X.A)(ha:SA X es ma)(hlen:∀ρ as ρ',ma ρ=some (as,ρ')->as.length+1=n)(hN:X.N[j]? =some y:=by rfl)(hv:Vis X.env.scope y:=by first|exact Or.inl rfl|exact Or.inr (Or.inl rfl)|exact Or.inr (Or.inr rfl))(hd:(y==("__debug__":Str))=false:=by decide)
  (hcd:(y==("__classdict__":Str))=false:=by decide) (hk:k<=k':=by decide) (hg:Gl X x:=by rfl) (hdb:(x==("__debug__":Str))=false:=by decide)
  (he:starEach (.Name y py::es) X.env=(false,eval (.Name y py) X.env)::starEach es X.env:=by rfl) (hpl:(backTo pos (starEach es X.env)).any (·.1)=false:=by rfl):SE X (.Call (.Name x p) (.Name y py::es) [] pos) (zbz F j ma):=by
 obtain⟨f,fdd,ps,G0,h1,h2,h3⟩:=fd.ex;obtain⟨t,pa,sa⟩:=ha;refine⟨_,zmk G0 (hr.mono hk) hg h1 h2 h3 .nil pass0 (zb4 (zc1 hN hv hd hcd) pa he) hdb he hpl,fun B G H σ ρ d ρ' Q I hm kk=>?_⟩;unfold zbz at hm
 split at hm
 ·rename_i hso;obtain⟨ds0,hso⟩:=qaT.mp hso;obtain⟨⟨as,ρ1⟩,e1,hm⟩:=zae hm;obtain⟨s,e2,hm⟩:=zae hm;obtain⟨cs,e3,hm⟩:=zae hm;obtain⟨⟨r,out⟩,e4,hm⟩:=zae hm;refine soundM sa hlen I hso e1 e2 e3 e4 fun G' H' v I' f' _ ⟨H1,rr,bb,nn⟩=>?_
  cases r with
  |val d'=>cases hm;exact kk G' H' v I' f' rr
  |own ds=>
   cases hm;obtain⟨l,xs,rfl,g3,h3,r3,b3⟩:=rr;obtain⟨I3,f3,r4⟩:=zkT I' g3 h3 r3 (bb l b3) (nn l b3);exact kk _ H' _ I3 (f'.trans f3) r4
  |emp=>cases hm
  |two _ _=>cases hm
  |tre _=>cases hm
  |ptr _=>cases hm
  |par _=>cases hm
 ·cases hm
end
noncomputable def zgp (env:Env)(cs:List (Str×Addr))(x:Str×NameKind):List (Str×Addr):=if x.2== .free then(x.1,(env.cells.lookup x.1).getD 0)::cs else cs
noncomputable def clOf (scope:Scope)(env:Env):List (Str×Addr):=scope.names.foldl (zgp env) []
theorem zje:∀(names:List (Str×NameKind)) (cs:List (Str×Addr)),(∀y∈names,y.2= .free->∃c,env.cells.lookup y.1=some c)->
  (forIn names cs (fun x r=>if x.2==NameKind.free then do let a<-cellOf env x.1;pure (ForInStep.yield ((x.1,a)::r))else pure (ForInStep.yield r)):Sem (List (Str×Addr)))=pure (names.foldl (zgp env) cs)
 |[],cs,_=>rfl
 |(n,k)::r,cs,h=>by
  have ih:=fun cs'=>zje r cs' (fun y hy=>h y (qan _ hy))
  rw[qbJ,qbr]
  by_cases hk:(k==NameKind.free)=true
  ·obtain⟨c,hc⟩:=h (n,k) qam (by simpa using hk);have e:zgp env cs (n,k)=(n,c)::cs:=by unfold zgp;simp[hk,hc]
   rw[e,<-ih];simp only[hk,if_true];unfold cellOf;simp only at hc;rw[hc]
   rfl
  ·have e:zgp env cs (n,k)=cs:=by unfold zgp;simp[hk]
   rw[e,<-ih];simp only[hk]
   rfl
theorem zpi {env:Env}(h:∀y∈scope.names,y.2= .free->∃c,env.cells.lookup y.1=some c):closureFor scope env=pure (clOf scope env):=by
 unfold closureFor clOf;have e:=zje (env:=env) scope.names [] h;simp only[bind_pure];exact e
theorem zeN:∀{names:List (Str×NameKind)} {cs:List (Str×Addr)},(∀y∈names,y.2= .free->∃c,env.cells.lookup y.1=some c)->(cs.lookup x=some c->env.cells.lookup x=some c)->
  (names.foldl (zgp env) cs).lookup x=some c->env.cells.lookup x=some c
 |[],cs,_,h0,h=>h0 h
 |(n,k)::r,cs,hn,h0,h=>by
  rw[qbr]at h;refine zeN (names:=r) (fun y hy=>hn y (qan _ hy)) ?_ h;intro q;unfold zgp at q
  split at q
  ·rename_i hk;obtain⟨c',hc⟩:=hn (n,k) qam (by simpa using hk);rw[qbK]at q;simp only at hc
   by_cases z:(x==n)=true
   ·rw[z]at q;have zz:x=n:=by simpa using z
    subst zz;simp only[hc,Option.getD_some]at q;rw[hc];exact q
   ·have z':(x==n)=false:=by simpa using z
    rw[z']at q;exact h0 q
  ·exact h0 q
theorem zgE:∀{names:List (Str×NameKind)} {cs:List (Str×Addr)},((x,NameKind.free)∈names\/(cs.lookup x).isSome=true)->((names.foldl (zgp env) cs).lookup x).isSome=true
 |[],cs,h=>by
  rcases h with h|h
  ·simp at h
  ·exact h
 |(n,k)::r,cs,h=>by
  rw[qbr];refine zgE (names:=r) ?_;rcases h with h|h
  ·rcases qao.mp h with h|h
   ·cases h;refine .inr ?_;unfold zgp;simp
   ·exact .inl h
  ·refine .inr ?_;unfold zgp
   split
   ·rw[qbK]
    by_cases z:(x==n)=true
    ·rw[z];rfl
    ·have z':(x==n)=false:=by simpa using z
     rw[z'];exact h
   ·exact h
theorem zj7:∀{names:List (Str×NameKind)} {n:Nat} {acc:List (Str×Addr)},(cellsFrom n names acc).lookup x=some c->(n<=c/\(x,NameKind.cell)∈names)\/acc.lookup x=some c
 |[],n,acc,h=> .inr h
 |(m,k)::r,n,acc,h=>by
  unfold cellsFrom at h
  split at h
  ·rename_i hk;have hk':k= .cell:=by simpa using hk
   subst hk';rcases zj7 h with⟨h1,h2⟩|h1
   ·exact .inl ⟨Nat.le_of_succ_le h1,qan _ h2⟩
   ·rw[qbK]at h1;cases q:x==m with
    |true=>
     rw[q]at h1;cases h1;rw[qbL.mp q];exact .inl ⟨qaJ _,qam⟩
    |false=>rw[q]at h1;exact .inr h1
  ·rcases zj7 h with⟨h1,h2⟩|h1
   ·exact .inl ⟨h1,qan _ h2⟩
   ·exact .inr h1
theorem zoc:∀{names:List (Str×NameKind)} {n:Nat} {acc:List (Str×Addr)},(x,NameKind.cell)∉names->(cellsFrom n names acc).lookup x=acc.lookup x
 |[],n,acc,_=>rfl
 |(m,k)::r,n,acc,h=>by
  unfold cellsFrom
  split
  ·rename_i hk;have hk':k= .cell:=by simpa using hk
   subst hk';rw[zoc fun z=>h (qan _ z),qbK];cases q:x==m with
   |true=>exact absurd (by rw[qbL.mp q];exact qam) h
   |false=>rfl
  ·exact zoc fun z=>h (qan _ z)
theorem zoi:∀{names:List (Str×NameKind)} {n:Nat} {acc:List (Str×Addr)},(x,NameKind.cell)∈names->∃c,(cellsFrom n names acc).lookup x=some c/\n<=c
 |(m,k)::r,n,acc,h=>by
  unfold cellsFrom
  by_cases hr:(x,NameKind.cell)∈r
  ·split
   ·obtain⟨c,h1,h2⟩:=zoi (n:=n+1) (acc:=(m,n)::acc) hr;exact⟨c,h1,Nat.le_of_succ_le h2⟩
   ·exact zoi hr
  ·rcases qao.mp h with e|e
   ·cases e;rw[if_pos (beq_self_eq_true _),zoc hr,qbK,beq_self_eq_true];exact⟨n,rfl,qaJ _⟩
   ·exact absurd e hr
theorem zqN:∀{names:List (Str×NameKind)} {n:Nat} {acc:List (Str×Addr)},(∀x c,acc.lookup x=some c->c<n)->(∀x y c,acc.lookup x=some c->acc.lookup y=some c->x=y)->
  ∀x y c,(cellsFrom n names acc).lookup x=some c->(cellsFrom n names acc).lookup y=some c->x=y
 |[],n,acc,_,hi=>hi
 |(m,k)::r,n,acc,hl,hi=>by
  unfold cellsFrom
  split
  ·refine zqN (fun x c h=>?_) (fun x y c h1 h2=>?_)
   ·rw[qbK]at h;cases q:x==m with
    |true=>rw[q]at h;cases h;exact qbM _
    |false=>rw[q]at h;exact qbN (hl x c h)
   ·rw[qbK]at h1 h2;cases q:x==m with
    |true=>
     rw[q]at h1;cases h1;cases q2:y==m with
     |true=>rw[qbL.mp q,qbL.mp q2]
     |false=>rw[q2]at h2;exact absurd (hl y n h2) (qag _)
    |false=>
     rw[q]at h1;cases q2:y==m with
     |true=>rw[q2]at h2;cases h2;exact absurd (hl x n h1) (qag _)
     |false=>rw[q2]at h2;exact hi x y c h1 h2
  ·exact zqN hl hi
theorem znT:∀{names:List (Str×NameKind)} {h:Heap} {acc:List (Str×Addr)},(∀x c,acc.lookup x=some c->∃v,h.IsCell c v)->∀x c,(cellsFrom h.objs.size names acc).lookup x=some c->∃v,(pushCells h names).IsCell c v
 |[],h,acc,ha=>ha
 |(m,k)::r,h,acc,ha=>by
  unfold cellsFrom pushCells
  split
  ·intro x c e;rw[<-qbO h {cls:= .type "cell",data:= .cell none}]at e;refine znT (fun y d q=>?_) x c e;rw[qbK]at q;cases z:y==m with
   |true=>rw[z]at q;cases q;exact⟨none,_,qaI _ rfl,rfl⟩
   |false=>
    rw[z]at q;obtain⟨v,hv⟩:=ha y d q;exact⟨v,hv.keeps fun b o e=>qaE _ e⟩
  ·exact znT ha
theorem zn6 {M:Model}{s:Shared}{globals:Addr}{Q:Env->Shared->Prop}
  (hQ : ∀ h' : Heap, h'.Ns s.heap.objs.size (fun _ => none) -> (∀ a o, s.heap.get? a = some o -> h'.get? a = some o) ->
   ((∀x c,cl.lookup x=some c->∃v,s.heap.IsCell c v)->∀x c,(cellsFrom (s.heap.objs.size+1) scope.names cl).lookup x=some c->∃v,h'.IsCell c v)->
   Q (newEnv scope s.heap.objs.size globals (cellsFrom (s.heap.objs.size+1) scope.names cl) qual none .none (some env) builtinsNs) {s with heap:=h'}):
  wpAny M A (newFunctionEnv scope globals cl [] qual none .none (some env)) Q E s:=by
 simp only[newFunctionEnv,Option.isSome_some,if_true];refine qaz (wpAny_alloc ?_);refine qaz (wpAny_layCells _ (fun name kind cells=>by cases hkc:kind==NameKind.cell<;>simp[hkc]) _ _ _ _ ?_)
 rw[show({s with heap:=s.heap.push {cls:= .type "dict",data:= .dict #[]}}:Shared).heap.objs.size=s.heap.objs.size+1 from qbO ..];refine qaz ?_;rw[qbP];refine qaC (qaC (hQ _ ((Heap.Ns.new s.heap (.type "dict")).keeps (pushCells_keeps _ _)) (fun a o e=>pushCells_keeps _ _ a o (qaE _ e)) fun hc x c e=>?_));rw[<-qbO s.heap {cls:= .type "dict",data:= .dict #[]}]at e;refine znT (fun y d q=>?_) x c e;obtain⟨v,hv⟩:=hc y d q;exact⟨v,hv.keeps fun b o e=>qaE _ e⟩
noncomputable def clC (scope:Scope)(env:Env)(C:Addr):List (Str×Addr):=cellsFrom (C+1) scope.names (clOf scope env)
noncomputable def ownC (scope:Scope)(x:Str):Bool:=match scope.names.lookup x with
 |some .cell=>true
 |_=>false
noncomputable def cxC (X:Cx)(N:List Str)(scope:Scope)(C:Addr)(s:Shared)(H:Hp)(fp:List Addr):Cx:=
 {X with N:=N,s₀:=s,H₀:=H,env:=compEnvC scope (clC scope X.env C) C X.env,outer:=X.stack,ex:=fp,fn:=ownC scope,pn:=[],xe:=fun _ _=>False}
structure BlkOk (X:Cx) (scope:Scope):Prop where
 kind:scope.kind= .function
 uniq:∀y∈scope.names,scope.names.lookup y.1=some y.2
 free:∀y∈scope.names,y.2= .free->X.env.kindOf y.1=some .cell\/X.env.kindOf y.1=some .free
theorem zg9 {α:Type}{v:α}:∀{l:List (Str×α)},l.lookup x=some v->(x,v)∈l
 |[],h=>by simp at h
 |(n,w)::r,h=>by
  rw[qbK]at h
  by_cases z:(x==n)=true
  ·rw[z]at h;have zz:x=n:=by simpa using z
   subst zz;cases h;exact qam
  ·have z':(x==n)=false:=by simpa using z
   rw[z']at h;exact qan _ (zg9 h)
theorem zeE {env:Env}{x:Str}:∀{names:List (Str×NameKind)},(names.map fun(n,k)=>if(k==NameKind.free&&env.scope.kind== .function&&env.kindOf n==some .cell)then(n,NameKind.cell)else(n,k)).lookup x=
  (names.lookup x).map fun k=>if(k==NameKind.free&&env.scope.kind== .function&&env.kindOf x==some .cell)then NameKind.cell else k
 |[]=>rfl
 |(n,k)::r=>by
  have ih:=zeE (env:=env) (x:=x) (names:=r);show List.lookup x ((if(k==NameKind.free&&env.scope.kind== .function&&env.kindOf n==some .cell)=true then(n,NameKind.cell)else(n,k))::_)=_;cases hx:x==n with
  |true=>
   have zz:x=n:=by simpa using hx
   by_cases hc:(k==NameKind.free&&env.scope.kind== .function&&env.kindOf n==some .cell)=true
   ·rw[if_pos hc];simp only[qbK,hx,qbz];rw[zz,if_pos hc]
   ·rw[if_neg hc];simp only[qbK,hx,qbz];rw[zz,if_neg hc]
  |false=>
   by_cases hc:(k==NameKind.free&&env.scope.kind== .function&&env.kindOf n==some .cell)=true
   ·rw[if_pos hc];simp only[qbK,hx];exact ih
   ·rw[if_neg hc];simp only[qbK,hx];exact ih
section
variable {X:Cx} {pins:List (Addr×Obj)} {σ:St} {H:Hp} {s:Shared} {scope:Scope} {N:List Str} {fp:List Addr} {C:Addr}
theorem zke (I:Inv X pins σ H s)(b:BlkOk X scope):∀y∈scope.names,y.2= .free->∃c,X.env.cells.lookup y.1=some c:=fun y hy hf=>I.ok.has y.1 (b.free y hy hf)
theorem blk_vis (h:(relabel scope X.env).names.lookup x=some .cell\/(relabel scope X.env).names.lookup x=some .free):(x,NameKind.free)∈scope.names\/(x,NameKind.cell)∈scope.names:=by
 have e:(relabel scope X.env).names.lookup x=(scope.names.lookup x).map fun k=>if(k==NameKind.free&&X.env.scope.kind== .function&&X.env.kindOf x==some .cell)then NameKind.cell else k:=zeE
 rw[e]at h;cases q:scope.names.lookup x with
 |none=>rw[q]at h;simp at h
 |some k=>
  have hm:=zg9 q
  by_cases hk:k= .free
  ·subst hk;exact .inl hm
  ·rw[q]at h;have hkf:(k==NameKind.free)=false:=by simpa using hk
   simp only[qbz,hkf,Bool.false_and,qbQ,qbc,Option.some.injEq]at h;rcases h with h|h
   ·subst h;exact .inr hm
   ·exact absurd h hk
theorem ziM (I:Inv X pins σ H s)(b:BlkOk X scope)(h:(clOf scope X.env).lookup x=some c):X.env.cells.lookup x=some c:=zeN (zke I b) (by simp) h
theorem zi0 (I:Inv X pins σ H s)(b:BlkOk X scope)(h:(clC scope X.env C).lookup x=some c):C<c\/X.env.cells.lookup x=some c:=by
 rcases zj7 h with⟨h1,_⟩|h1
 ·exact .inl h1
 ·exact .inr (ziM I b h1)
theorem zoJ (b:BlkOk X scope)(h:(x,NameKind.free)∈scope.names):(clC scope X.env C).lookup x=(clOf scope X.env).lookup x:=zoc fun z=>by
 have h1:=b.uniq _ h;have h2:=b.uniq _ z;simp only at h1 h2;rw[h1]at h2;cases h2
theorem blk_ok (I:Inv X pins σ H s)(b:BlkOk X scope)(hC:s.heap.objs.size<=C)(hf:∀b∈fp,FpOk X pins H b)(hfC:∀b∈fp,b<C):(cxC X N scope C s H fp).Ok where
 mod:=I.ok.mod
 kind:=b.kind
 glob:=I.ok.glob
 blt:=I.ok.blt
 above:=hC
 inj:=zqN (fun x c h=>by
  obtain⟨v,hv⟩:=I.cell x c (ziM I b h);exact qbN (qaf hv.lt hC)) fun x y c h1 h2=>I.ok.inj x y c (ziM I b h1) (ziM I b h2)
 has:=fun x hx=>by
  rcases blk_vis (x:=x) hx with hm|hm
  ·show ∃c,(clC scope X.env C).lookup x=some c;rw[zoJ b hm];exact qaT.mp (zgE (.inl hm))
  ·obtain⟨c,h,_⟩:=zoi (n:=C+1) (acc:=clOf scope X.env) hm;exact⟨c,h⟩
 cab:=fun x c h e=>by
  have h':ownC scope x=true:=h;unfold ownC at h'
  split at h'
  ·rename_i q;obtain⟨c',h1,h2⟩:=zoi (n:=C+1) (acc:=clOf scope X.env) (zg9 q);have e':some c'=some c:=h1.symm.trans e;cases e';exact qak hC (Nat.le_of_succ_le h2)
  ·cases h'
 hd:=I.ok.hd
 frames:=I.ok.frames
 stk:= .inl rfl
 exf:=fun a ha=>⟨qah (hfC a ha),fun x c e z=>by
  rcases zi0 I b e with q|q
  ·exact Nat.lt_asymm q (z ▸ hfC a ha)
  ·exact(hf a ha).2.2.2.2.1 x c q z⟩
 bs:=I.bs
 bsz:=qak I.ok.bsz I.sz
 noex:=fun a o e ha=>by
  rcases(hf a ha).2.2.2.1 with z|z
  ·exact I.ok.noex a o e z
  ·exact absurd (qaf (qae e) (qak I.ok.bsz z)) (qag _)
 exfs:=fun a ha hs=>by
  rcases qao.mp (I.stkSub a hs)with z|z
  ·exact(hf a ha).2.1 z
  ·exact(hf a ha).2.2.1 z
 funs:=I.stack
 frf:=I.stkFree
theorem zrm {tk:Nat}(I:Inv X pins σ H s)(b:BlkOk X scope)(hf:∀b∈fp,FpOk X pins H b)(hfs:∀b∈fp,b<s.heap.objs.size)
  (hns:h'.Ns s.heap.objs.size (fun _=>none)) (hk:∀a o,s.heap.get? a=some o->h'.get? a=some o) (hcl:∀x c,(clC scope X.env s.heap.objs.size).lookup x=some c->∃v,h'.IsCell c v) (hl:σc.length=N.length)
  (hσ:∀(i:Nat) (x:Str) (v:V),N[i]? =some x->σc[i]? =some (some v)->(x,NameKind.free)∈scope.names/\∃j:Nat,X.N[j]? =some x/\σ[j]? =some (some v)) (hloc:∀(i:Nat) (x:Str) (v:V),N[i]? =some x->σc[i]? =some (some v)->¬(relabel scope X.env).names.lookup x=some .local):
  Inv (cxC X N scope s.heap.objs.size s H fp) [] σc H {s with heap:=h',toks:=tk}:=by
 have ok:=blk_ok (N:=N) I b (qaJ _) hf hfs;refine⟨ok,rfl,I.bare,Un.kept hk,⟨_,hns,fun i x v h1 h2 h3=>?_⟩,fun x c e=>?_,I.hok.fresh (qaJ _),fun x c e=>?_,fun p hp=>absurd (show p∈([]:List (Addr×Obj))from hp) (by simp),I.hok.kept hk,hl⟩
 ·obtain⟨hm,j,hj,hv⟩:=hσ i x v h1 h2;have hkind:=b.free _ hm rfl;obtain⟨m,hn,hloc'⟩:=I.loc;have hvis:Vis X.env.scope x:=by
   rcases hkind with z|z
   ·exact .inr (.inl z)
   ·exact .inr (.inr z)
  obtain⟨u,ru,lk⟩:=hloc' j x v hj hv hvis;refine⟨u,ru,?_⟩;rcases lk with⟨z,_⟩|⟨_,c,ec,hc⟩
  ·exfalso;rcases hkind with w|w<;>simp only at w<;>rw[z]at w<;>cases w
  ·refine .inr ⟨?_,c,?_,?_⟩
   ·rcases h3 with z|z|z
    ·exact absurd z (hloc i x v h1 h2)
    ·exact .inl z
    ·exact .inr z
   ·have hs:((clOf scope X.env).lookup x).isSome=true:=zgE (.inl hm);obtain⟨c',ec'⟩:=qaT.mp hs;have:=zeN (zke I b) (by simp) ec';rw[ec]at this;cases this;exact(zoJ b hm).trans ec'
   ·obtain⟨o,ho,hd⟩:=hc;exact⟨o,hk _ _ ho,hd⟩
 ·exact hcl x c e
 ·rcases zi0 I b e with q|q
  ·exact I.hok.fresh (Nat.le_of_lt q)
  ·exact I.freeC x c q
theorem zpU {h':Heap}{s1:Shared}(I:Inv X pins σ H s)(hf:∀b∈fp,FpOk X pins H b)(J:Inv (cxC X N scope s.heap.objs.size s H fp) [] σc H' s1)(hs:Heap.SameBut s.heap.objs.size s1.heap h'):Inv X pins σ H' {s1 with heap:=h'}:=by
 have kp:∀a o,a≠s.heap.objs.size->s1.heap.get? a=some o->h'.get? a=some o:=fun a o ha e=>hs.extBut a o ha e
 have free:H' s.heap.objs.size=none:=J.free;have ntr:∀a u,H' a=some u->a≠s.heap.objs.size:=fun a u e z=>by rw[z,free]at e;cases e
 have lt:∀a o,s.heap.get? a=some o->a≠s.heap.objs.size:=fun a o e=>qah (qae e)
 have u:Un (frs X.stack) fp H H' s.heap s1.heap:=J.base;have u':Un (frs X.stack) fp H H' s.heap h':=by
  refine⟨fun a o e n hb hx=>kp a o (lt a o e) (u.keep a o e n hb hx),fun a o e n hb hx=>?_,u.free,fun a o e hx=>?_,u.tups,u.frzs,u.tbls⟩
  ·obtain⟨sl,q⟩:=u.slot a o e n hb hx;exact⟨sl,kp a _ (lt a o e) q⟩
  ·obtain⟨o',q⟩:=u.there a o e hx;exact⟨o',kp a _ (lt a o e) q⟩
 have hok:HOk X.prog X.w H' h':=fun a o e=>(J.hok a o e).stay (fun c v hc q=>by
  refine kp c v ?_ q;rcases hc with rfl|hc
  ·exact ntr _ _ e
  ·exact ntr _ _ hc) (fun _ q=>q) fun _ _ q=>q
 obtain⟨hh,g,d,t,os'⟩:=s1;have os:os'=s.os:=J.os;subst os;have z:=I.call (h':=h') (g':=g) (d':=d) (t':=t) (ch:=fp) u' hok J.bare (fun a ha=>⟨(hf a ha).2.2.2.1,(hf a ha).2.1,(hf a ha).2.2.2.2.1,(hf a ha).2.2.2.2.2⟩);exact z
end
noncomputable def PTs (X:Cx)(ifs:List Expr)(t:TT):Prop:=∀(pins:List (Addr×Obj)) (s:Shared) (σ:St) (H:Hp) (Q:Bool->Hp->Prop),Inv X pins σ H s->t σ H Q->
 wpAny (model X.prog X.w) X.A (forIn ifs true fun c r=>if r=true then do let ok<-isTrue c X.env (eval c X.env);pure (ForInStep.yield ok)else pure (ForInStep.yield r)) (TP X pins σ Q) X.xe s
theorem pts_nil:PTs X [] (fun _ H Q=>Q true H):=fun pins s σ H Q I h=>wpAny_tests_nil ⟨H,I,h⟩
theorem pts_one {c:Expr}{t:TT}(h:PT X c t):PTs X [c] t:=fun pins s σ H Q I hw=>wpAny_tests_one (h pins s σ H Q I hw)
theorem zn3 {R:Result->Shared->Prop}{s:Shared}{elt target iter:Expr}{it acc:Value}(I:Nat->Shared->Prop)
  (turn : ∀ n s, I n s -> wpAny (model prog w) A (pyNext it) (fun r s₁ => match r with
   |none=>R (.ok .next) s₁
   | some v => wpAny (model prog w) A (letOwnedTupleGo target it v) (fun _ s₁' => wpAny (model prog w) A (assign target env v) (fun _ s₂ =>
     wpAny (model prog w) A (forIn ifs true fun c r=>if r=true then do let ok<-isTrue c env (eval c env);pure (ForInStep.yield ok)else pure (ForInStep.yield r)) (fun ok s₃=>
      if ok=true then wpAny (model prog w) A (eval elt env) (fun x s₄=>
       wpAny (model prog w) A (call (.builtin "list.append") [acc,x]) (fun _ s₅=>∃m,m<n/\I m s₅) (fun _ _=>False) s₄) (fun _ _=>False) s₃
      else ∃m,m<n/\I m s₃) (fun _ _=>False) s₂) (fun _ _=>False) s₁') (fun _ _=>False) s₁) (fun _ _=>False) s)
  (n:Nat) (h:I n s):codeAny (model prog w) A (.compLoop (.ListComp elt [⟨target,iter,ifs,0⟩] scope pos) 0 it acc env) R s:=by
 refine codeAny_loop rfl I (fun n s hI=>?_) n h;show wpAny _ A ((compTurn (.ListComp elt [⟨target,iter,ifs,0⟩] scope pos) 0 it acc env).onRaise (fun x=>do noteFrame x env;theTreesLotGoes x)) _ _ s;refine wpAny_noted ?_;rw[compTurn_list];have no:∀{E:Value->Shared->Prop},∀x s',(fun(_:Value) (_:Shared)=>False) x s'->E x s':=fun _ _ z=>z.elim
 refine qaz (qaB (qaz (qau (turn n s hI) (fun r s₁ h₁=>?_) no)));cases r with
 |none=>exact qaC h₁
 |some v=>
  refine qaz (qau h₁ (fun _ s₁' h₁'=>?_) no);refine qaz (qau h₁' (fun _ s₂ h₂=>qaz (qau h₂ (fun ok s₃ h₃=>?_) no)) no);cases ok with
  |false=>exact qaC ⟨rfl,h₃⟩
  |true=>
   exact qaz (qaz (qau h₃ (fun x s₄ h₄=>qaz (qau h₄ (fun _ s₅ h₅=>qaC (qaC ⟨rfl,h₅⟩)) no)) no))
noncomputable def tLC (σ0:St->St)(wi:TI)(g:Addr->Shared->Hp->List Addr->TG)(tt:Addr->Shared->Hp->List Addr->TT)(te:Addr->Shared->Hp->List Addr->TE):TE:=fun σ H Q=>wi σ H fun J H1=>∀D,H1 D=none->∃W:Nat->Nat->St->Hp->Prop,(∃m,W 0 m (σ0 σ) (upd H1 D (.lst [])))/\∀i m σ H,W i m σ H->
 (J.stop i H /\ Q (.ref D) H) \/ (J.go i H /\ ∀ C s₀ H₀ fp x H', J.yld i H x H' -> g C s₀ H₀ fp x σ H' fun σ2 H2 => tt C s₀ H₀ fp σ2 H2 fun ok H3 => if ok = true then te C s₀ H₀ fp σ2 H3 fun v H4 => ∃ xs, H4 D = some (.lst xs) /\ xs.length < sizeLine /\ ∃ m', m' < m /\ W (i + 1) m' σ2 (upd H4 D (.lst (xs ++ [v])))
  else ∃m',m'<m/\W (i+1) m' σ2 H3)
section
variable {X:Cx} {elt iter tg:Expr} {ifs:List Expr} {scope:Scope} {pos:Pos} {N:List Str} {σ0:St->St} {wi:TI} {g:Addr->Shared->Hp->List Addr->TG} {tt:Addr->Shared->Hp->List Addr->TT} {te:Addr->Shared->Hp->List Addr->TE}
structure Cap (X:Cx) (scope:Scope) (N:List Str) (σ0:St->St):Prop where
 len:∀σ,(σ0 σ).length=N.length
 src:∀(σ:St) (i:Nat) (x:Str) (v:V),N[i]? =some x->(σ0 σ)[i]? =some (some v)->(x,NameKind.free)∈scope.names/\∃j:Nat,X.N[j]? =some x/\σ[j]? =some (some v)
 loc:∀(σ:St) (i:Nat) (x:Str) (v:V),N[i]? =some x->(σ0 σ)[i]? =some (some v)->¬(relabel scope X.env).names.lookup x=some .local
theorem zqy {E:Value->Shared->Prop}(hc:X.calm=true)(b:BlkOk X scope)(cap:Cap X scope N σ0)(hi:PI X tg iter wi)(hg:∀C s H fp,PG (cxC X N scope C s H fp) tg (g C s H fp))(ht:∀C s H fp,PTs (cxC X N scope C s H fp) ifs (tt C s H fp))(he:∀C s H fp,PE (cxC X N scope C s H fp) elt (te C s H fp))
  {pins:List (Addr×Obj)} {s:Shared} {σ:St} {H:Hp} {Q:VK} (I:Inv X pins σ H s) (h:tLC σ0 wi g tt te σ H Q) {QQ:Value->Shared->Prop} {p0:Pos}
  (hs:∀x,foldedSetIterable iter X.env x=pure x)
  (fin : match use with
   |none=>∀u s',EP X pins σ Q u s'->QQ u s'
   |some f=>∀(D:Addr) (fp:List Addr) (C:Addr) (H1 H':Hp) (σc:St) (s1 s':Shared),Inv X pins σ H1 s1->(∀b∈fp,FpOk X pins H1 b)->C=s1.heap.objs.size->Inv (cxC X N scope C s1 H1 fp) [] σc H' s'->Q (.ref D) H'->
     wpAny (model X.prog X.w) X.A (f (.ref D)) (fun _ s''=>∃m,s''.heap.Ns C m/\∀h',Heap.SameBut C s''.heap h'->QQ .none {s'' with heap:=h'}) X.xe s'):
  wpAny (model X.prog X.w) X.A (comprehension (.ListComp elt [⟨tg,iter,ifs,0⟩] scope pos) scope X.env p0 (newList []) false (eval iter X.env) use) QQ X.xe s:=by
 refine wpAny_comprehension_free (cl:=clOf scope X.env) (g:=⟨tg,iter,ifs,0⟩) (gs:=[]) rfl hs (zpi (zke I b)) b.kind (fun x hx hl=>hl ▸ b.uniq x hx) ?_;refine thn (hi pins s σ H _ I h) fun v s1 h1=>thn h1 fun itv s2 h2=>?_
 obtain⟨it,fp,tn,J,H2,e,I2,T,st2,f2,h3⟩:=h2;subst e;refine qaD ?_ (by show(0:Nat)<=sizeLine;exact qbv _);have hD:H2 s2.heap.objs.size=none:=I2.fresh;obtain⟨W,⟨m0,w0⟩,turn⟩:=h3 _ hD;have I3:Inv X pins σ (upd H2 s2.heap.objs.size (.lst [])) {s2 with heap:=s2.heap.push {cls:= .type "list",data:= .seq ([]:List Value).toArray}}:=I2.lnew (t':=s2.toks) .nil (qbv _);have f3:∀b∈fp,FpOk X pins (upd H2 s2.heap.objs.size (.lst [])) b:=fun b hb=>by
  obtain⟨a1,a2⟩:=f2 b hb;obtain⟨o,ho,_⟩:=T.obj _ _ st2 b hb;exact⟨by rw[zav (qah (qae ho))];exact a1,a2⟩
 have st3:tn 0 (s2.heap.push {cls:= .type "list",data:= .seq ([]:List Value).toArray}):=T.keep _ _ _ st2 fun b hb o e=>qaE _ e
 generalize hs3:({s2 with heap:=s2.heap.push {cls:= .type "list",data:= .seq ([]:List Value).toArray}}:Shared)=s3 at I3
 have hs3':s3.heap=s2.heap.push {cls:= .type "list",data:= .seq ([]:List Value).toArray}:=by rw[<-hs3]
 rw[<-hs3']at st3;have hfs:∀b∈fp,b<s3.heap.objs.size:=fun b hb=>by
  obtain⟨o,ho,_⟩:=T.obj _ _ st3 b hb;exact qae ho
 show wpAny _ _ (newFunctionEnv scope X.env.globals (clOf scope X.env) [] X.env.qual none .none (some X.env)) _ _ s3;refine zn6 fun h' hns hk hcl=>?_
 have hcl:=hcl fun x c e=>I3.cell x c (ziM I3 b e)
 generalize hDD:s2.heap.objs.size=DD at*
 have B0:Inv (cxC X N scope s3.heap.objs.size s3 (upd H2 DD (.lst [])) fp) [] (σ0 σ) (upd H2 DD (.lst [])) {s3 with heap:=h'}:=
  zrm (tk:=s3.toks) I3 b f3 hfs hns hk hcl (cap.len σ) (cap.src σ) (cap.loc σ)
 have stat:∀{H':Hp},(∀b∈fp,H' b=none)->∀b∈fp,FpOk (cxC X N scope s3.heap.objs.size s3 (upd H2 DD (.lst [])) fp) [] H' b:=fun hn b' hb=>by
  refine⟨hn b' hb,qah (hfs b' hb),fun z=>?_,.inl hb,fun x c e=>?_,fun p hp=>absurd (show p∈([]:List (Addr×Obj))from hp) (by simp)⟩
  ·rcases qao.mp (I3.stkSub b' z)with w|w
   ·exact(f3 b' hb).2.1 w
   ·exact(f3 b' hb).2.2.1 w
  ·intro z;rcases zi0 I3 b e with q|q
   ·exact Nat.lt_asymm q (z ▸ hfs b' hb)
   ·exact(f3 b' hb).2.2.2.2.1 x c q z
 have tn0:tn 0 h':=T.keep _ _ _ st3 fun b' hb o e=>hk b' o e
 have post:∀(s':Shared) (σc:St) (H':Hp),Inv (cxC X N scope s3.heap.objs.size s3 (upd H2 DD (.lst [])) fp) [] σc H' s'->Q (.ref DD) H'->compPost (model X.prog X.w) X.A X.xe use QQ (.ref DD) s3.heap.objs.size (.ok .next) s':=fun s' σc H' J' q=>by
  cases use with
  |none=>
   obtain⟨m,hn,_⟩:=J'.loc;exact⟨m,hn,fun h'' hs''=>fin _ _ ⟨.ref DD,H',zpU I3 f3 J' hs'',rfl,q⟩⟩
  |some f=>exact fin DD fp _ _ H' σc s3 s' I3 f3 rfl J' q
 have loop:codeAny (model X.prog X.w) X.A (.compLoop (.ListComp elt [⟨tg,iter,ifs,0⟩] scope pos) 0 (.ref it) (.ref DD) (compEnvC scope (clC scope X.env s3.heap.objs.size) s3.heap.objs.size X.env)) (compPost (model X.prog X.w) X.A X.xe use QQ (.ref DD) s3.heap.objs.size) {s3 with heap:=h'}:=by
  refine zn3 (fun n s'=>∃i σ' H',Inv (cxC X N scope s3.heap.objs.size s3 (upd H2 DD (.lst [])) fp) [] σ' H' s'/\tn i s'.heap/\(∀b∈fp,H' b=none)/\W i n σ' H') ?_ m0 ⟨0,σ0 σ,_,B0,tn0,fun b' hb=>(f3 b' hb).1,w0⟩;rintro n s5 ⟨i,σ5,H5,I5,st5,fr5,w5⟩;rcases turn i n σ5 H5 w5 with⟨stop,qn⟩|⟨go,step⟩
  ·refine thn (T.done (cxC X N scope s3.heap.objs.size s3 (upd H2 DD (.lst [])) fp) rfl rfl rfl hc i [] s5 σ5 H5 (fun _ _=>False) I5 (stat fr5) st5 stop) fun r s6 ⟨hr,I6⟩=>?_
   subst hr;exact post s6 σ5 H5 I6 qn
  ·refine thn (T.item (cxC X N scope s3.heap.objs.size s3 (upd H2 DD (.lst [])) fp) rfl rfl rfl hc i [] s5 σ5 H5 (fun _ _=>False) I5 (stat fr5) st5 go) fun r s6 ⟨u,hr,h6⟩=>?_
   subst hr;refine thn h6 fun _ s7 ⟨x,H7,I7,r7,y7,st7,fr7⟩=>?_
   have I7':=I7.pinned (stat fr7) (T.obj _ _ st7);have again:∀{σ8:St} {H8:Hp} {s8:Shared} {m':Nat},Inv (cxC X N scope s3.heap.objs.size s3 (upd H2 DD (.lst [])) fp) ([]++znh fp s7.heap) σ8 H8 s8->m'<n->W (i+1) m' σ8 H8->
     ∃m,m<n/\∃i σ' H',Inv (cxC X N scope s3.heap.objs.size s3 (upd H2 DD (.lst [])) fp) [] σ' H' s8/\tn i s8.heap/\(∀b∈fp,H' b=none)/\W i m σ' H':=fun{σ8 H8 s8 m'} I8 hm w8=>by
    refine⟨m',hm,i+1,σ8,H8,I8.unpinned,T.keep _ _ _ st7 fun b' hb o e=>(I8.pin (b',o) (qaM _ (qaM _ (zhc hb e)))).1,fun b' hb=>?_,w8⟩;obtain⟨o,e,d⟩:=T.obj _ _ st7 b' hb;exact(I8.pin (b',o) (qaM _ (qaM _ (zhc hb e)))).2.1
   refine thn (hg _ _ _ _ _ s7 σ5 H7 x u _ I7' r7 (step _ _ _ _ x H7 y7)) fun _ s8 ⟨σ8,H8,I8,q8⟩=>?_
   refine thn (ht _ _ _ _ _ s8 σ8 H8 _ I8 q8) fun ok s9 ⟨H9,I9,q9⟩=>?_
   cases ok with
   |false=>
    obtain⟨m',hm,w9⟩:=q9;exact again I9 hm w9
   |true=>
    refine thn (he _ _ _ _ _ s9 σ8 H9 _ I9 q9) fun u10 s10 ⟨v10,H10,I10,r10,xs,hx,hz,m',hm,w10⟩=>?_
    refine thn (zmo _ s10 σ8 H10 (.ref DD) [v10] (.ref DD) [u10] (fun v H'=>v= .non/\H'=upd H10 DD (.lst (xs++[v10]))) I10 rfl (.cons r10 .nil) ⟨DD,xs,v10,rfl,rfl,hx,hz,rfl,rfl⟩) fun _ s11 ⟨_,H11,I11,_,_,e11⟩=>?_
    subst e11;exact again I11 hm w10
 exact codeAny_compStart_list loop (T.self _ _ _ _ _ tn0 loop)
theorem pe_lc (hc:X.calm=true)(b:BlkOk X scope)(cap:Cap X scope N σ0)(hi:PI X tg iter wi)(hg:∀C s H fp,PG (cxC X N scope C s H fp) tg (g C s H fp))(ht:∀C s H fp,PTs (cxC X N scope C s H fp) ifs (tt C s H fp))(he:∀C s H fp,PE (cxC X N scope C s H fp) elt (te C s H fp))
    (hs:∀x,foldedSetIterable iter X.env x=pure x:=by exact fun _=>rfl):PE X (.ListComp elt [⟨tg,iter,ifs,0⟩] scope pos) (tLC σ0 wi g tt te):=by
  intro pins s σ H Q I h;rw[eval_ListComp];exact zqy (use:=none) (E:=X.xe) hc b cap hi hg ht he I h hs (fun u s' q=>q)
end
noncomputable def zen (ρ:R):Bool:=ρ.all fun s=>match s with
 | .own _=>false
 | .par _=>false
 | .tre _=>false
 | .ptr _=>false
 |_=>true
theorem zoz (h:zen ρ=true){a:Addr}(e:ρ[i]? =some s):¬OwS K G H ov a s:=fun w=>by
 unfold zen at h;rw[qbR]at h;have:=h s (qa1 e);cases s with
 |emp=>exact w
 |two _ _=>exact w
 |val d=>exact w
 |_=>exact absurd (show false=true from this) qaH
theorem zjz (h:zen ρ=true)(e:ρ[i]? =some s):(∀t,s≠ .tre t)/\∀t,s≠ .ptr t:=by
 unfold zen at h;rw[qbR]at h;have:=h s (qa1 e)
 constructor
 ·rintro t rfl;exact absurd (show false=true from this) qaH
 ·rintro t rfl;exact absurd (show false=true from this) qaH
theorem zjy (h:zen ρ=true):¬Wr ρ i:=fun⟨s,ds,e,q⟩=>by
 unfold zen at h;rw[qbR]at h;have:=h s (qa1 e);cases s with
 |emp=>cases q
 |two _ _=>cases q
 |tre _=>cases q
 |ptr _=>cases q
 |val d=>cases q
 |own d=>exact absurd (show false=true from this) qaH
 |par d=>exact absurd (show false=true from this) qaH
structure VS (K:W.Frag) (G:Hp) (σ:St) (ρ:R):Prop where
 len:σ.length=ρ.length
 no:zen ρ=true
 val:∀(i:Nat) d,ρ[i]? =some (.val d)->∃v,σ[i]? =some (some v)/\RepD K G v d
theorem VS.si (h:VS K G σ ρ)(fz:Fz G H):SI K ⟨G,H,[]⟩ G H σ ρ where
 fz:=fz
 g0:=Fz.refl G
 new:=fun b o e=> .inl (by show G b≠none;rw[e];simp)
 keep:=fun b o e _=>e
 there:=fun b e=>e
 ob:=fun i b m=>by cases m
 len:=h.len
 slot:=fun i s e=>by
  cases s with
  |emp=>trivial
  |two _ _=>trivial
  |tre t=>exact absurd rfl ((zjz h.no e).1 t)
  |ptr t=>exact absurd rfl ((zjz h.no e).2 t)
  |val d=>exact h.val i d e
  |own ds=>exact absurd ⟨_,ds,e,rfl⟩ (zjy h.no (i:=i))
  |par ds=>exact absurd ⟨_,ds,e,rfl⟩ (zjy h.no (i:=i))
 dis:=fun i j s _ a _ e _ w=>absurd w (zoz h.no e)
theorem VS.of (I:SI K B G H σ ρ)(h:zen ρ=true):VS K G σ ρ:=⟨I.len,h,fun i d e=>I.slot i _ e⟩
noncomputable def fz1 (i:Nat)(ρ:R):R:=match ρ[i]? with
 |some (.own ds)=>ρ.set i (.val (.lst ds))
 |_=>ρ
noncomputable def fzL:List Nat->R->R
 |[],ρ=>ρ
 |i::is,ρ=>fzL is (fz1 i ρ)
theorem SI.fz1 (I:SI K B G H σ ρ)(i:Nat):∃G',SI K B G' H σ (M.fz1 i ρ)/\Fz G G':=by
 unfold M.fz1;cases e:ρ[i]? with
 |none=>exact⟨G,I,Fz.refl G⟩
 |some s=>
  cases s with
  |own ds=>obtain⟨l,xs,_,f,_,I'⟩:=I.freeze e;exact⟨_,I',f⟩
  |emp=>exact⟨G,I,Fz.refl G⟩
  |two _ _=>exact⟨G,I,Fz.refl G⟩
  |tre _=>exact⟨G,I,Fz.refl G⟩
  |ptr _=>exact⟨G,I,Fz.refl G⟩
  |val _=>exact⟨G,I,Fz.refl G⟩
  |par _=>exact⟨G,I,Fz.refl G⟩
theorem SI.fzL:∀(is:List Nat) {G:Hp} {ρ:R},SI K B G H σ ρ->∃G',SI K B G' H σ (M.fzL is ρ)/\Fz G G'
 |[],G,ρ,I=>⟨G,I,Fz.refl G⟩
 |i::is,G,ρ,I=>by
  obtain⟨G1,I1,f1⟩:=I.fz1 i;obtain⟨G2,I2,f2⟩:=SI.fzL is I1;exact⟨G2,I2,f1.trans f2⟩
noncomputable def capS (ρ:R)(i:Nat):Sl:=match ρ[i]? with
 |some (.val d)=> .val d
 |_=> .emp
theorem zpm (ρ:R)(i:Nat):capS ρ i= .emp\/∃d,capS ρ i= .val d:=by
 unfold capS
 split
 ·exact .inr ⟨_,rfl⟩
 ·exact .inl rfl
noncomputable def capR (cap:List Nat)(t:Nat)(ρ:R):R:=cap.map (capS ρ)++List.replicate t .emp
noncomputable def capσ (cap:List Nat)(t:Nat)(σ:St):St:=cap.map (fun i=>(σ[i]?).join)++List.replicate t none
theorem cap_vs (I:SI K B G H σ ρ)(cap:List Nat)(t:Nat):VS K G (capσ cap t σ) (capR cap t ρ) where
 len:=by unfold capσ capR;simp
 no:=by
  unfold zen capR;rw[qbR];intro s hs;rcases qap.mp hs with h|h
  ·obtain⟨i,_,rfl⟩:=qbS.mp h;rcases zpm ρ i with e|⟨d,e⟩
   ·rw[e]
   ·rw[e]
  ·rw[List.eq_of_mem_replicate h]
 val:=fun i d e=>by
  unfold capR at e
  by_cases hi:i<cap.length
  ·rw[qaY (by simpa using hi),qaZ,qbD hi]at e;have e':capS ρ cap[i]= .val d:=by simpa using e
   unfold capS at e'
   split at e'
   ·rename_i d' q;cases e';obtain⟨v,h1,h2⟩:=I.slot _ _ q;refine⟨v,?_,h2⟩;unfold capσ;rw[qaY (by simpa using hi),qaZ,qbD hi];simp[h1]
   ·cases e'
  ·rw[qaW (by simpa using hi),qaX]at e
   split at e
   ·cases e
   ·cases e
noncomputable def zfR (f:D->R->Option (Option D×R)):List D->R->Option (List D×R)
 |[],ρ=>some ([],ρ)
 |d::ds,ρ=>(f d ρ).bind fun p=>(zfR f ds p.2).map fun q=>(p.1.toList++q.1,q.2)
noncomputable def zpc (g:D->R->Option R)(mt:MT)(me:ME):D->R->Option (Option D×R):=fun d ρ=>(g d ρ).bind fun ρ1=>(mt ρ1).bind fun p=>if p.1 then(me p.2).bind fun q=>if zen q.2 then some (some q.1,q.2)else none else if zen p.2 then some (none,p.2)else none
noncomputable def oLC (cap:List Nat)(t:Nat)(mi:MA)(g:D->R->Option R)(mt:MT)(me:ME):MO:=fun ρ=>(mi ρ).bind fun p=>if p.1.length<=16777216 then(zfR (zpc g mt me) p.1 (capR cap t (fzL cap p.2))).map fun q=>(q.1,fzL cap p.2)else none
noncomputable def STs (X:Cx)(ifs:List Expr)(m:MT):Prop:=
 ∃t,PTs X ifs t/\∀B G H σ ρ d ρ' (Q:Bool->Hp->Prop),SI X.K B G H σ ρ->m ρ=some (d,ρ')->(∀G' H',SI X.K B G' H' σ ρ'->Fz G G'->Q d H')->t σ H Q
noncomputable def zcx:MT:=fun ρ=>some (true,ρ)
theorem zaS:STs X [] zcx:=⟨_,pts_nil,fun B G H σ ρ d ρ' Q I hm k=>by cases hm;exact k G H I (Fz.refl G)⟩
theorem zqG {c:Expr}(h:STt X c m):STs X [c] m:=let⟨t,p,s⟩:=h;⟨t,pts_one p,s⟩
noncomputable def blkB (env:Env)(scope:Scope):Bool:=(scope.names.all fun x=>scope.names.lookup x.1==some x.2&&(x.2 != .free||(env.kindOf x.1==some .cell||env.kindOf x.1==some .free)))
theorem zkO (hk:scope.kind= .function)(h:blkB X.env scope=true):BlkOk X scope:=by
 unfold blkB at h;rw[qbR]at h;refine⟨hk,fun x hx=>?_,fun x hx hf=>?_⟩
 ·have:=h x hx;simp only[qbi,qbB,bne_iff_ne,qbL]at this;exact this.1
 ·have:=h x hx;simp only[qbi,qbB,bne_iff_ne,qbL]at this;exact(this.2).resolve_left (fun z=>z hf)
noncomputable def capB (names:List (Str×NameKind))(N XN:List Str)(cap:List Nat)(t:Nat):Bool:=N.length==cap.length+t&&(cap.zip N).all fun p=>XN[p.1]? ==some p.2&&names.lookup p.2==some .free
theorem zkG (h:capB scope.names N X.N cap t=true):Cap X scope N (capσ cap t):=by
 unfold capB at h;rw[qbi,qbR]at h;obtain⟨hl,h⟩:=h;have hl:N.length=cap.length+t:=by simpa using hl
 have key:∀(σ:St) (i:Nat) (x:Str) (v:V),N[i]? =some x->(capσ cap t σ)[i]? =some (some v)->∃j,cap[i]? =some j/\σ[j]? =some (some v)/\X.N[j]? =some x/\scope.names.lookup x=some .free:=fun σ i x v h1 h2=>by
  unfold capσ at h2
  by_cases hi:i<cap.length
  ·rw[qaY (by simpa using hi),qaZ,qbD hi]at h2;have h3:(σ[cap[i]]?).join=some v:=by simpa using h2
   have hz:(cap[i],x)∈cap.zip N:=by
    refine qa1 (i:=i) ?_;rw[List.getElem?_zip_eq_some];exact⟨qbD hi,h1⟩
   have:=h _ hz;simp only[qbi,qbL]at this;refine⟨cap[i],qbD hi,?_,this.1,this.2⟩;cases q:σ[cap[i]]? with
   |none=>rw[q]at h3;cases h3
   |some o=>rw[q]at h3;rw[show o=some v from h3]
  ·rw[qaW (by simpa using hi),qaX]at h2
   split at h2<;>cases h2
 refine⟨fun σ=>by unfold capσ;simp[hl],fun σ i x v h1 h2=>?_,fun σ i x v h1 h2 z=>?_⟩
 ·obtain⟨j,_,a,b,c⟩:=key σ i x v h1 h2;exact⟨zg9 c,j,b,a⟩
 ·obtain⟨j,_,a,b,c⟩:=key σ i x v h1 h2;have e:(relabel scope X.env).names.lookup x=(scope.names.lookup x).map fun k=>if(k==NameKind.free&&X.env.scope.kind== .function&&X.env.kindOf x==some .cell)then NameKind.cell else k:=zeE
  rw[e,c]at z;simp only[qbz,Option.some.injEq]at z
  split at z<;>cases z
structure LcV (K:W.Frag) (g:D->R->Option R) (mt:MT) (me:ME) (items all:List D) (G2 H1:Hp) (DD:Addr) (i:Nat) (σc:St) (Hc Gc:Hp) (ρc:R) (acc:List D) (xs:List V) (rest:List D) (ρe:R):Prop where
 fc:Fz G2 Gc
 fcH:Fz Gc Hc
 nw:∀b o,Gc b=some o->G2 b≠none\/H1 b=none
 kp:∀b o,H1 b=some o->Hc b=some o
 gD:Gc DD=none
 hDc:Hc DD=some (.lst xs)
 ra:RepL K Gc xs acc
 hx:xs.length<=i
 vs:VS K Gc σc ρc
 ec:zfR (zpc g mt me) (items.drop i) ρc=some (rest,ρe)
 eall:all=acc++rest
section
variable {X:Cx} {elt iter tg:Expr} {ifs:List Expr} {scope:Scope} {pos:Pos} {N:List Str} {cap:List Nat} {t:Nat} {mi:MA} {g:D->R->Option R} {mt:MT} {me:ME}
theorem zlj
  (si:∀B G H σ ρ ds ρ' (Q:It->Hp->Prop),SI X.K B G H σ ρ->mi ρ=some (ds,ρ')->(∀J G' H',SI X.K B G' H' σ ρ'->Fz G G'->Itm X.K J G' ds->Q J H')->wi σ H Q)
  (sg:∀C s H₀ fp B G H σ ρ v d ρ' (Q:St->Hp->Prop),SI X.K B G H σ ρ->RepD X.K G v d->g d ρ=some ρ'->(∀G' H' σ',SI X.K B G' H' σ' ρ'->Fz G G'->Q σ' H')->tg' C s H₀ fp v σ H Q)
  (st:∀C s H₀ fp B G H σ ρ d ρ' (Q:Bool->Hp->Prop),SI X.K B G H σ ρ->mt ρ=some (d,ρ')->(∀G' H',SI X.K B G' H' σ ρ'->Fz G G'->Q d H')->tt C s H₀ fp σ H Q)
  (se:∀C s H₀ fp B G H σ ρ d ρ' (Q:VK),SI X.K B G H σ ρ->me ρ=some (d,ρ')->(∀G' H' v,SI X.K B G' H' σ ρ'->Fz G G'->RepD X.K G' v d->Q v H')->te C s H₀ fp σ H Q):
  ∀B G H σ ρ ds ρ' (Q:VK),SI X.K B G H σ ρ->oLC cap t mi g mt me ρ=some (ds,ρ')->
   (∀G' H' l xs,SI X.K B G' H' σ ρ'->Fz G G'->G' l=none->H' l=some (.lst xs)->RepL X.K G' xs ds->B.H l=none->Nw X.K G' H' σ ρ' l->Q (.ref l) H')->tLC (capσ cap t) wi tg' tt te σ H Q:=by
 intro B G H σ ρ ds ρ' Q I hm k;obtain⟨⟨items,ρ1⟩,e1,hm⟩:=zae hm;refine si B G H σ ρ items ρ1 _ I e1 fun J G1 H1 I1 f1 IT DD hD=>?_
 dsimp only at hm
 split at hm
 ·rename_i hlen;obtain⟨⟨all,ρf⟩,e2,e3⟩:=zat hm;obtain⟨rfl,rfl⟩:=Prod.mk.inj e3;obtain⟨G2,I2,f2⟩:=SI.fzL cap I1;have hDG:G2 DD=none:=I2.fz.free hD;refine⟨fun i m σc Hc=>m=items.length-i/\i<=items.length/\∃Gc ρc acc xs rest ρe,LcV X.K g mt me items all G2 H1 DD i σc Hc Gc ρc acc xs rest ρe,
   ⟨items.length,by simp,qbv _,G2,capR cap t (M.fzL cap ρ1),[],[],all,ρf,{fc:=Fz.refl _,fcH:=I2.fz.right hDG _,nw:=fun b o e=> .inl (by rw[e];simp),kp:=fun b o e=>by rw[zav (zaG e hD)];exact e,gD:=hDG,hDc:=zaF,ra:= .nil,hx:=qaJ _,vs:=cap_vs I2 cap t,ec:=by simpa using e2,eall:=rfl}⟩,?_⟩
  rintro i m σc Hc ⟨rfl,hi,Gc,ρc,acc,xs,rest,ρe,J0⟩;obtain⟨fc,fcH,nw,kp,gD,hDc,ra,hx,vs,ec,eall⟩:=J0
  by_cases hlt:i<items.length
  ·refine .inr ⟨IT.go Hc i (f2.trans (fc.trans fcH)) hlt,fun C s₀ H₀ fp x H' y=>?_⟩;rw[qbF hlt]at ec;simp only[zfR]at ec;obtain⟨⟨o,ρ3⟩,h3,ec⟩:=zae ec;obtain⟨⟨rest2,ρ4⟩,h4,ec⟩:=zat ec;obtain⟨rfl,rfl⟩:=Prod.mk.inj ec;dsimp only at h4;unfold zpc at h3;obtain⟨ρ5,h5,h3⟩:=zae h3;obtain⟨⟨ok,ρ6⟩,h6,h3⟩:=zae h3;dsimp only at h3;have Ic:SI X.K ⟨Gc,Hc,[]⟩ Gc Hc σc ρc:=vs.si fcH;have fz2:Fz G1 Hc:=f2.trans (fc.trans fcH);have yy:=IT.yld Hc i x H' fz2 y items[i] (qbD hlt);have yy2:(H'=Hc/\RepD X.K Gc x items[i])\/∃p xs es,Hc p=none/\H'=upd Hc p (.tup xs)/\x= .ref p/\items[i]= .tup es/\RepL X.K Gc xs es:=by
    rcases yy with⟨a,b⟩|⟨p,xs,es,a,b,c,d,e⟩
    ·exact .inl ⟨a,b.mono (f2.trans fc)⟩
    ·exact .inr ⟨p,xs,es,a,b,c,d,e.mono (f2.trans fc)⟩
   obtain⟨G3,I3,f3,r3⟩:=Ic.yld yy2;refine sg C s₀ H₀ fp _ G3 H' σc ρc x items[i] ρ5 _ I3 r3 h5 fun G4 H4 σ4 I4 f4=>st C s₀ H₀ fp _ G4 H4 σ4 ρ5 ok ρ6 _ I4 h6 fun G5 H5 I5 f5=>?_
   have facts:∀(G' H':Hp) (σ':St) (ρ':R),SI X.K ⟨Gc,Hc,[]⟩ G' H' σ' ρ'->(∀b o,G' b=some o->G2 b≠none\/H1 b=none)/\(∀b o,H1 b=some o->H' b=some o)/\G' DD=none/\H' DD=some (.lst xs):=fun G' H' σ' ρ' I'=>by
    refine⟨fun b o e=>?_,fun b o e=>I'.keep b o (kp b o e) (by simp),?_,I'.keep DD _ hDc (by simp)⟩
    ·rcases I'.new b o e with h|h
     ·have h:Gc b≠none:=h;cases q:Gc b with
      |none=>exact absurd q h
      |some u=>exact nw b u q
     ·refine .inr ?_;cases q:H1 b with
      |none=>rfl
      |some u=>have:=kp b u q;rw[show Hc b=none from h]at this;cases this
    ·cases q:G' DD with
     |none=>rfl
     |some u=>
      rcases I'.new DD u q with h|h
      ·exact absurd gD h
      ·rw[show Hc DD=none from h]at hDc;cases hDc
   cases ok with
   |false=>
    simp only[qbQ,qbc]at h3
    split at h3
    ·rename_i hno;cases h3;obtain⟨a1,a2,a3,a4⟩:=facts G5 H5 σ4 _ I5;exact⟨items.length-(i+1),by lia,rfl,hlt,G5,_,acc,xs,rest2,ρ4,{fc:=fc.trans (f3.trans (f4.trans f5)),fcH:=I5.fz,nw:=a1,kp:=a2,gD:=a3,hDc:=a4,ra:=ra.mono (f3.trans (f4.trans f5)),hx:=by lia,vs:=VS.of I5 hno,ec:=h4,eall:=by simpa using eall}⟩
    ·cases h3
   |true=>
    simp only[if_true]at h3 ⊢;obtain⟨⟨dv,ρ7⟩,h7,h3⟩:=zae h3;dsimp only at h3
    split at h3
    ·rename_i hno;cases h3;refine se C s₀ H₀ fp _ G5 H5 σ4 ρ6 dv _ _ I5 h7 fun G6 H6 v I6 f6 r6=>?_
     obtain⟨a1,a2,a3,a4⟩:=facts G6 H6 σ4 _ I6;have ff:Fz Gc G6:=f3.trans (f4.trans (f5.trans f6));exact⟨xs,a4,by rw[qaN];lia,items.length-(i+1),by lia,rfl,hlt,G6,_,acc++[dv],xs++[v],rest2,ρ4,{fc:=fc.trans ff,fcH:=I6.fz.right a3 _,nw:=a1,kp:=fun b o e=>by rw[zav (zaG e hD)];exact a2 b o e,gD:=a3,hDc:=zaF,ra:=(ra.mono ff).snoc r6,hx:=by rw[qa2,qbs];lia,vs:=VS.of I6 hno,ec:=h4,eall:=by rw[eall];simp}⟩
    ·cases h3
  ·have e:i=items.length:=by lia
   subst e;rw[List.drop_length]at ec;cases ec;have hall:all=acc:=by rw[eall,qaQ]
   refine .inl ⟨IT.stop Hc _ (f2.trans (fc.trans fcH)) (qaJ _),?_⟩;rw[<-hall]at ra;exact k Gc Hc DD xs (I2.grow fc fcH nw kp) (f1.trans (f2.trans fc)) gD hDc ra (I2.there DD hD) (I2.own_ne hD nw kp)
 ·cases hm
theorem zfG (cap:List Nat)(t:Nat)(N:List Str)(hc:X.calm=true)(hi:SIt X tg iter mi)(hg:∀C s H fp,SG (cxC X N scope C s H fp) tg g)(ht:∀C s H fp,STs (cxC X N scope C s H fp) ifs mt)(he:∀C s H fp,SE (cxC X N scope C s H fp) elt me)
    (hk:scope.kind= .function:=by rfl) (hb:blkB X.env scope=true:=by kernel_rfl) (hcap:capB scope.names N X.N cap t=true:=by kernel_rfl)
    (hs:∀x,foldedSetIterable iter X.env x=pure x:=by exact fun _=>rfl):SO X (.ListComp elt [⟨tg,iter,ifs,0⟩] scope pos) (oLC cap t mi g mt me):=by
  obtain⟨wi,pi,si⟩:=hi;exact⟨_,pe_lc hc (zkO hk hb) (zkG hcap) pi (fun C s H fp=>(hg C s H fp).choose_spec.1) (fun C s H fp=>(ht C s H fp).choose_spec.1) (fun C s H fp=>(he C s H fp).choose_spec.1) hs,
    zlj si (fun C s H fp=>(hg C s H fp).choose_spec.2) (fun C s H fp=>(ht C s H fp).choose_spec.2) (fun C s H fp=>(he C s H fp).choose_spec.2)⟩
end
section
variable {X:Cx} {elt iter tg:Expr} {ifs:List Expr} {scope:Scope} {pos lpos pos':Pos} {N:List Str} {cap:List Nat} {t:Nat} {mi:MA} {g:D->R->Option R} {mt:MT} {me:ME}
theorem zjw {σ0:St->St}(hN:X.N.Nodup)(hxi:X.N[i]? =some x)(hx:Loc X.env.scope x)(hf:X.fn x=true\/X.env.scope.names.lookup x=some .local)
  (hsw:swapsWith (.ListComp elt [⟨tg,iter,ifs,0⟩] scope lpos) (some (.Name x pos')) pos.line X.env=pure true) (hc:X.calm=true) (b:BlkOk X scope) (cap:Cap X scope N σ0) (hi:PI X tg iter wi) (hg:∀C s H fp,PG (cxC X N scope C s H fp) tg (tg' C s H fp)) (ht:∀C s H fp,PTs (cxC X N scope C s H fp) ifs (tt C s H fp)) (he:∀C s H fp,PE (cxC X N scope C s H fp) elt (te C s H fp))
  (hs:∀x,foldedSetIterable iter X.env x=pure x):PS X (.Assign [.Name x pos'] (.ListComp elt [⟨tg,iter,ifs,0⟩] scope lpos) pos) (fun E σ H=>tLC σ0 wi tg' tt te σ H fun v H'=>E.nx (σ.set i (some v)) H'):=by
 intro pins s σ H E I h;rw[exec_Assign_Name_used _ _ _ _ hsw];refine qaz (qaB (qaz ?_));show wpAny _ _ (do let _<-comprehension (.ListComp elt [⟨tg,iter,ifs,0⟩] scope lpos) scope X.env _ (newList []) false (eval iter X.env) (some (assign (.Name x pos') X.env))) _ _ s;refine qaz (thn (zqy (use:=some (assign (.Name x pos') X.env)) (QQ:=fun _ s'=>SP X pins E .next s') (E:=X.xe) hc b cap hi hg ht he I h hs ?_) fun _ s' hq=>qaC (qaC hq));intro D fp C H1 H' σc s1 s' I1 f1 eC J q;subst eC;have I2:Inv X pins σ H' s':=by
  have z:=zpU (h':=s'.heap) I1 f1 J (Heap.SameBut.refl _ _);exact z
 obtain⟨m,⟨o,es,ep,ho,hd,hrest⟩,_⟩:=J.loc;have fpk:FpOk X pins H' s1.heap.objs.size:=I1.fpOk (qaJ _) J.free;have I3:Inv X (pins++[(s1.heap.objs.size,o)]) σ H' s':=I2.pins_of fun p hp=>by
  rcases qap.mp hp with hp|hp
  ·exact I2.pin p (qaM _ hp)
  ·have e:p=(s1.heap.objs.size,o):=by simpa using hp
   subst e;exact⟨ho,fpk.1,fpk.2.1,fpk.2.2.1,fun v z=>by rw[hd]at z;cases z⟩
 refine thn (znA hN hxi hx hf (pins++[(s1.heap.objs.size,o)]) s' σ H' (.ref D) (.ref D) (fun σ2 H2=>E.nx σ2 H2) I3 rfl q) fun _ s'' ⟨σ2,H2,I4,q4⟩=>?_
 have pC:=I4.pin (s1.heap.objs.size,o) (qaM _ (qaM _ (by simp)));refine⟨m,⟨o,es,ep,pC.1,hd,hrest⟩,fun h' hs'=>?_⟩;have I5:Inv X pins σ2 H2 s'':=I4.unpinned;have fp2:FpOk X pins H2 s1.heap.objs.size:=I1.fpOk (qaJ _) pC.2.1;have I6:=I5.turned (t':=s''.toks) (h':=h') (it:=s1.heap.objs.size) (fun b' o' hb e=>hs'.extBut b' o' hb e) fp2.1 fp2.2.1 fp2.2.2.2.1 fp2.2.2.2.2.1 fp2.2.2.2.2.2;exact⟨σ2,H2,I6,q4⟩
theorem zk8 (i:Nat)(cap:List Nat)(t:Nat)(N:List Str)(hc:X.calm=true)(hi:SIt X tg iter mi)(hg:∀C s H fp,SG (cxC X N scope C s H fp) tg g)(ht:∀C s H fp,STs (cxC X N scope C s H fp) ifs mt)(he:∀C s H fp,SE (cxC X N scope C s H fp) elt me)(hN:X.N.Nodup)
    (hxi:X.N[i]? =some x:=by rfl) (hx:Loc X.env.scope x:=by first|exact Or.inl rfl|exact Or.inr rfl) (hf:X.fn x=true\/X.env.scope.names.lookup x=some .local:=by first|exact Or.inl rfl|exact Or.inr rfl)
    (hsw:swapsWith (.ListComp elt [⟨tg,iter,ifs,0⟩] scope lpos) (some (.Name x pos')) pos.line X.env=pure true:=by rfl)
    (hk:scope.kind= .function:=by rfl) (hb:blkB X.env scope=true:=by kernel_rfl) (hcap:capB scope.names N X.N cap t=true:=by kernel_rfl)
    (hs:∀x,foldedSetIterable iter X.env x=pure x:=by exact fun _=>rfl):SS X (.Assign [.Name x pos'] (.ListComp elt [⟨tg,iter,ifs,0⟩] scope lpos) pos) (zft i (oLC cap t mi g mt me)):=by
  obtain⟨wi,pi,si⟩:=hi;refine⟨_,zjw hN hxi hx hf hsw hc (zkO hk hb) (zkG hcap) pi (fun C s H fp=>(hg C s H fp).choose_spec.1) (fun C s H fp=>(ht C s H fp).choose_spec.1) (fun C s H fp=>(he C s H fp).choose_spec.1) hs,fun B G H σ ρ fl ρ' E I hm k=>?_⟩;obtain⟨⟨d,ρ1⟩,e1,e3⟩:=zat hm;obtain⟨rfl,rfl⟩:=Prod.mk.inj e3;exact zlj si (fun C s H fp=>(hg C s H fp).choose_spec.2) (fun C s H fp=>(ht C s H fp).choose_spec.2) (fun C s H fp=>(he C s H fp).choose_spec.2) B G H σ ρ d ρ1 _ I e1 fun G1 H1 l xs I1 f1 g1 h1 r1 b1 n1=>k G1 H1 _ (I1.setO g1 h1 r1 b1 n1) f1
end
section
variable {X:Cx} {pins:List (Addr×Obj)} {σ:St} {H:Hp} {s:Shared}
theorem zhd {A:Around}{p:Addr}(hh:A.handled=none)(I:Inv X pins σ H s)(hq:SqL X.K H p ys\/SqT X.K H p ys)
  (k : ∀ (its : List Value) (s₂ : Shared) (St : Nat -> Heap -> Prop), Vals ys its -> Walks X.prog X.w A s.heap.objs.size [s.heap.objs.size, p] [s.heap.objs.size] its.length (fun i v => its[i]? = some v) St -> St 0 s₂.heap -> (∀ b ∈ [s.heap.objs.size, p], b < s₂.heap.objs.size) ->
   (∀h' tk,(∀b o,b∉[s.heap.objs.size]->s₂.heap.get? b=some o->h'.get? b=some o)->Inv X pins σ H {s₂ with heap:=h',toks:=tk})->Q (.ref s.heap.objs.size) s₂):wpAny (model X.prog X.w) A (pyIter (.ref p)) Q E s:=by
 have fin:∀(o:Obj),∀h' tk,(∀b o',b∉[s.heap.objs.size]->(s.heap.push o).get? b=some o'->h'.get? b=some o')->Inv X pins σ H {({s with heap:=s.heap.push o}:Shared)with heap:=h',toks:=tk}:=fun o h' tk hk=>by
  have z:=I.kept (h':=h') (t':=tk) fun b o' e=>hk b o' (by simpa using qah (qae e)) (qaE _ e)
  exact z
 rcases hq with hq|hq
 ·obtain⟨its,r,pl,hz⟩:=I.list hq;have hlt:p<s.heap.objs.size:=by obtain⟨_,_,e,_⟩:=pl;exact qae e
  refine wpAny_pyIter_list pl.isList (k its _ (fun i h=>h.IsListIter s.heap.objs.size p i/\h.IsList p its.toArray) r ?_ ⟨⟨_,qaI _ rfl,rfl,rfl⟩,pl.isList.push _⟩ (fun b hb=>?_) (fin _))
  ·have w:=Walks.list (prog:=X.prog) (w:=X.w) (A:=A) hh s.heap.objs.size p (qah hlt) its.toArray;simpa using w
  ·show b<(s.heap.push _).objs.size;rw[qbO];simp at hb;rcases hb with z|z
   ·rw[z];exact qbM _
   ·rw[z];exact qbN hlt
 ·obtain⟨its,r,pl,hz⟩:=I.tuple hq;have hlt:p<s.heap.objs.size:=pl.lt;refine qbG (show s.heap.IsTuple p its.toArray from pl) (k its _ (fun i h=>h.IsTupleIter s.heap.objs.size p i/\h.IsTuple p its.toArray) r ?_ ⟨⟨_,qaI _ rfl,rfl,rfl⟩,(show s.heap.IsTuple p its.toArray from pl).push _⟩ (fun b hb=>?_) (fin _))
  ·have w:=Walks.tuple (prog:=X.prog) (w:=X.w) (A:=A) hh s.heap.objs.size p (qah hlt) its.toArray;simpa using w
  ·show b<(s.heap.push _).objs.size;rw[qbO];simp at hb;rcases hb with z|z
   ·rw[z];exact qbM _
   ·rw[z];exact qbN hlt
end
theorem zkX (ns:List Int):∀j,preSum (fun i=>ns.getD i 0) j=(ns.take j).sum
 |0=>by simp[preSum]
 |j+1=>by
  rw[preSum,zkX ns j]
  by_cases h:j<ns.length
  ·rw[List.take_succ_eq_append_getElem h,List.sum_append];simp[h]
  ·rw[qbT (by lia),qbT (by lia)];simp[qbU (by lia:ns.length<=j)]
theorem zh5 (r:Vals (ns.map V.int) its){v:Value}(e:its[i]? =some v):∃t,v= .int (ns.getD i 0) t:=by
 have hl:=r.length;have hi:i<its.length:=(qar.mp e).1;rw[qa3]at hl;have e2:(ns.map V.int)[i]? =some (.int ns[i]):=by rw[qaZ,qbD (by lia)];rfl
 obtain⟨u,h1,t,h2⟩:=r.get e2;rw[e]at h1;cases h1;exact⟨t,by rw[h2];simp[show i<ns.length by lia]⟩
noncomputable def rSum (K:W.Frag):List V->Hp->VK->Prop:=fun xs H Q=>∃(p:Addr) (ns:List Int),xs=[.ref p]/\(SqL K H p (ns.map V.int)\/SqT K H p (ns.map V.int))/\Q (.int ns.sum) H
theorem zrI (hc:X.calm=true):zge X (.builtin "sum") (rSum X.K):=by
 intro pins s σ H xs us Q I r h;obtain⟨p,ns,rfl,hq,q⟩:=h;obtain⟨u,rfl,ru⟩:=zk6 r;cases ru;refine call_sum_walkG (zhd (A:=X.A.in1) (I.ok.hd hc) I hq fun its s₂ St rv W st hfp fin=>?_);refine⟨_,_,_,_,_,_,fun i=>ns.getD i 0,rfl,W,st,hfp,fun i v e=>zh5 rv e,fun h' tk t' hk=>⟨.int ns.sum,H,fin h' tk hk,⟨t',?_⟩,q⟩⟩;have hl:=rv.length;rw[qa3]at hl;rw[zkX,<-hl,qbT (qaJ _)]
noncomputable def zbw:List D->Option (List Int)
 |[]=>some []
 | .int i::ds=>(zbw ds).map (i:: ·)
 |_=>none
theorem zgb:∀{ds:List D} {ns:List Int},zbw ds=some ns->ds=ns.map .int
 |[],ns,h=>by cases h;rfl
 |d::ds,ns,h=>by
  cases d<;>simp only[zbw]at h<;>try cases h
  obtain⟨ms,e1,e2⟩:=zat h;subst e2;rw[zgb e1];rfl
@[simp] theorem intsOf_map:∀(ns:List Int),zbw (ns.map .int)=some ns
 |[]=>rfl
 |n::ns=>by simp[zbw,intsOf_map ns]
noncomputable def dSum:List D->Option D
 |[d]=>(zaR [d]).bind fun ds=>(zbw ds).map fun ns=> .int ns.sum
 |_=>none
theorem zjC (I:SI K B G H σ ρ){x:V}(r:RepD K G x d)(e:zaR [d]=some ds):∃p ys,x= .ref p/\(SqL K H p ys\/SqT K H p ys)/\RepL K G ys ds:=by
 cases d<;>simp only[zaR]at e<;>try cases e
 ·obtain⟨p,ys,ex,hp,q⟩:=I.lst r;exact⟨p,ys,ex,.inl (SqL.of hp),q⟩
 ·obtain⟨p,ys,ex,hp,q⟩:=I.tup r;exact⟨p,ys,ex,.inr (SqT.of hp),q⟩
 ·obtain⟨p,ex,hp⟩:=r;exact⟨p,_,ex,.inl (I.fz.sql hp),RepL.ints _⟩
theorem vc_sum:VC X (rSum X.K) dSum:=by
 intro B G H σ ρ xs ds d Q I r hf k
 match ds,hf with
 |[a],hf=>
  obtain⟨es,e1,hf⟩:=zae hf;obtain⟨ns,e2,e3⟩:=zat hf;subst e3;obtain⟨x,rfl,ra⟩:=r.one;obtain⟨p,ys,rfl,hq,ry⟩:=zjC I ra e1;rw[zgb e2]at ry;rw[RepL.ints_eq ry]at hq;exact⟨p,ns,rfl,hq,k G H _ I (Fz.refl G) rfl⟩
 |[],hf=>cases hf
 |_::_::_,hf=>cases hf
theorem zkf (hc:X.calm=true)(ml:X.mg "sum"=none)(ha:SA X [e] ma)(hg:Gl X "sum":=by rfl)(he:starEach [e] X.env=(false,eval e X.env)::starEach [] X.env:=by rfl):SE X (.Call (.Name "sum" p) [e] [] pos) (mC dSum ma):=
 zeD (zrI hc) vc_sum (by decide+kernel) ml ha hg (by decide) (by decide) he rfl
noncomputable def zfj:List D->Option (List Bool)
 |[]=>some []
 | .bl b::ds=>(zfj ds).map (b:: ·)
 |_=>none
theorem zkP:∀{ds:List D} {bs:List Bool},zfj ds=some bs->ds=bs.map .bl
 |[],ns,h=>by cases h;rfl
 |d::ds,ns,h=>by
  cases d<;>simp only[zfj]at h<;>try cases h
  obtain⟨ms,e1,e2⟩:=zat h;subst e2;rw[zkP e1];rfl
@[simp] theorem boolsOf_map:∀(bs:List Bool),zfj (bs.map .bl)=some bs
 |[]=>rfl
 |n::ns=>by simp[zfj,boolsOf_map ns]
theorem RepL.bools_eq:∀{bs:List Bool} {xs:List V},RepL K G xs (bs.map D.bl)->xs=bs.map V.bl
 |[],_,e=>e
 |n::ns,_,⟨x,ys,e,q,r⟩=>by subst e;cases(show x=V.bl n from q);rw[RepL.bools_eq r];rfl
theorem zmz {bs:List Bool}(r:Vals (bs.map V.bl) its){v:Value}(e:its[i]? =some v):∃b,bs[i]? =some b/\v= .bool b:=by
 have hl:=r.length;have hi:i<its.length:=(qar.mp e).1;rw[qa3]at hl;have e2:(bs.map V.bl)[i]? =some (.bl bs[i]):=by rw[qaZ,qbD (by lia)];rfl
 obtain⟨u,h1,h2⟩:=r.get e2;rw[e]at h1;cases h1;exact⟨bs[i],qbD (by lia),h2⟩
noncomputable def rAll (K:W.Frag)(f:List Bool->Bool):List V->Hp->VK->Prop:=fun xs H Q=>∃(p:Addr) (bs:List Bool),xs=[.ref p]/\(SqL K H p (bs.map V.bl)\/SqT K H p (bs.map V.bl))/\Q (.bl (f bs)) H
theorem zrB (hc:X.calm=true):zge X (.builtin "all") (rAll X.K fun bs=>bs.all id):=by
 intro pins s σ H xs us Q I r h;obtain⟨p,bs,rfl,hq,q⟩:=h;obtain⟨u,rfl,ru⟩:=zk6 r;cases ru;refine call_all_walk (zhd (A:=X.A.in1) (I.ok.hd hc) I hq fun its s₂ St rv W st hfp fin=>?_);have hl:=rv.length;rw[qa3]at hl;refine⟨_,_,_,_,_,_,fun i=>(bs[i]?).getD true,rfl,W,st,fun i v s' Q' E' hP hQ=>?_,fun h' tk hk=>⟨.bl (bs.all id),H,fin h' tk hk,?_,q⟩⟩
 ·obtain⟨b,e,rfl⟩:=zmz rv hP;simp only[e,Option.getD_some]at hQ;exact qaw hQ
 ·rw[<-hl,LSm.range_all];rfl
theorem zqC (hc:X.calm=true):zge X (.builtin "any") (rAll X.K fun bs=>bs.any id):=by
 intro pins s σ H xs us Q I r h;obtain⟨p,bs,rfl,hq,q⟩:=h;obtain⟨u,rfl,ru⟩:=zk6 r;cases ru;refine call_any_walk (zhd (A:=X.A.in1) (I.ok.hd hc) I hq fun its s₂ St rv W st hfp fin=>?_);have hl:=rv.length;rw[qa3]at hl;refine⟨_,_,_,_,_,_,fun i=>(bs[i]?).getD false,rfl,W,st,fun i v s' Q' E' hP hQ=>?_,fun h' tk hk=>⟨.bl (bs.any id),H,fin h' tk hk,?_,q⟩⟩
 ·obtain⟨b,e,rfl⟩:=zmz rv hP;simp only[e,Option.getD_some]at hQ;exact qaw hQ
 ·rw[<-hl,LSm.range_any];rfl
noncomputable def dAll (f:List Bool->Bool):List D->Option D
 |[d]=>(zaR [d]).bind fun ds=>(zfj ds).map fun bs=> .bl (f bs)
 |_=>none
theorem vc_all (f:List Bool->Bool):VC X (rAll X.K f) (dAll f):=by
 intro B G H σ ρ xs ds d Q I r hf k
 match ds,hf with
 |[a],hf=>
  obtain⟨es,e1,hf⟩:=zae hf;obtain⟨ns,e2,e3⟩:=zat hf;subst e3;obtain⟨x,rfl,ra⟩:=r.one;obtain⟨p,ys,rfl,hq,ry⟩:=zjC I ra e1;rw[zkP e2]at ry;rw[RepL.bools_eq ry]at hq;exact⟨p,ns,rfl,hq,k G H _ I (Fz.refl G) rfl⟩
 |[],hf=>cases hf
 |_::_::_,hf=>cases hf
theorem zm0 (hc:X.calm=true)(ml:X.mg "all"=none)(ha:SA X [e] ma)(hg:Gl X "all":=by rfl)(he:starEach [e] X.env=(false,eval e X.env)::starEach [] X.env:=by rfl):SE X (.Call (.Name "all" p) [e] [] pos) (mC (dAll fun bs=>bs.all id) ma):=
 zeD (zrB hc) (vc_all _) (by decide+kernel) ml ha hg (by decide) (by decide) he rfl
theorem se_any (hc:X.calm=true)(ml:X.mg "any"=none)(ha:SA X [e] ma)(hg:Gl X "any":=by rfl)(he:starEach [e] X.env=(false,eval e X.env)::starEach [] X.env:=by rfl):SE X (.Call (.Name "any" p) [e] [] pos) (mC (dAll fun bs=>bs.any id) ma):=
 zeD (zqC hc) (vc_all _) (by decide+kernel) ml ha hg (by decide) (by decide) he rfl
noncomputable def d2I (g:Int->Int->Int):List D->Option D
 |[.int i,.int j]=>some (.int (g i j))
 |_=>none
theorem vc_2I (g:Int->Int->Int):VC X (fun xs H Q=>∃i j,xs=[.int i,.int j]/\Q (.int (g i j)) H) (d2I g):=by
 intro B G H σ ρ xs ds d Q I r hf k;unfold d2I at hf
 split at hf
 ·rename_i i j;cases hf;obtain⟨x,y,rfl,rx,ry⟩:=r.two;cases(show x=V.int i from rx);cases(show y=V.int j from ry);exact⟨i,j,rfl,k G H _ I (Fz.refl G) rfl⟩
 ·cases hf
noncomputable def max2 (i j:Int):Int:=if j>i then j else i
noncomputable def min2 (i j:Int):Int:=if j<i then j else i
theorem zrx (hc:X.calm=true)(ml:X.mg "max"=none)(ha:SA X [a,b] ma)(hg:Gl X "max":=by rfl)(he:starEach [a,b] X.env=(false,eval a X.env)::starEach [b] X.env:=by rfl)(hpl:(backTo pos (starEach [b] X.env)).any (·.1)=false:=by rfl):SE X (.Call (.Name "max" p) [a,b] [] pos) (mC (d2I max2) ma):=
 zeD (zqz hc) (vc_2I max2) (by decide+kernel) ml ha hg (by decide) (by decide) he hpl
theorem zrz (hc:X.calm=true)(ml:X.mg "min"=none)(ha:SA X [a,b] ma)(hg:Gl X "min":=by rfl)(he:starEach [a,b] X.env=(false,eval a X.env)::starEach [b] X.env:=by rfl)(hpl:(backTo pos (starEach [b] X.env)).any (·.1)=false:=by rfl):SE X (.Call (.Name "min" p) [a,b] [] pos) (mC (d2I min2) ma):=
 zeD (zrE hc) (vc_2I min2) (by decide+kernel) ml ha hg (by decide) (by decide) he hpl
theorem zjn (K:W.Frag):W.kitOne K (.type "NoneType") (.type "int")=some false:=by kernel_rfl
theorem ziT (K:W.Frag):W.kitOne K (.type "NoneType") (.type "bool")=some false:=by kernel_rfl
theorem zir (K:W.Frag):W.kitOne K (.type "NoneType") (.type "tuple")=some false:=by kernel_rfl
theorem ziQ (K:W.Frag):W.kitOne K (.type "NoneType") (.type "list")=some false:=by kernel_rfl
theorem zjp (K:W.Frag):W.kitOne K (.type "NoneType") (.type "str")=some false:=by kernel_rfl
theorem zmJ (K:W.Frag):W.kitOne K (.type "bool") (.type "int")=some true:=by kernel_rfl
theorem zl7 (K:W.Frag):W.kitOne K (.type "bool") (.type "bool")=some true:=by kernel_rfl
theorem zkC (K:W.Frag):W.kitOne K (.type "bool") (.type "tuple")=some false:=by kernel_rfl
theorem zld (K:W.Frag):W.kitOne K (.type "bool") (.type "list")=some false:=by kernel_rfl
theorem zmC (K:W.Frag):W.kitOne K (.type "bool") (.type "str")=some false:=by kernel_rfl
theorem znt (K:W.Frag):W.kitOne K (.type "int") (.type "int")=some true:=by kernel_rfl
theorem zmp (K:W.Frag):W.kitOne K (.type "int") (.type "bool")=some false:=by kernel_rfl
theorem zlF (K:W.Frag):W.kitOne K (.type "int") (.type "tuple")=some false:=by kernel_rfl
theorem zmF (K:W.Frag):W.kitOne K (.type "int") (.type "list")=some false:=by kernel_rfl
theorem znN (K:W.Frag):W.kitOne K (.type "int") (.type "str")=some false:=by kernel_rfl
theorem znI (K:W.Frag):W.kitOne K (.type "str") (.type "int")=some false:=by kernel_rfl
theorem zmD (K:W.Frag):W.kitOne K (.type "str") (.type "bool")=some false:=by kernel_rfl
theorem zlJ (K:W.Frag):W.kitOne K (.type "str") (.type "tuple")=some false:=by kernel_rfl
theorem zni (K:W.Frag):W.kitOne K (.type "str") (.type "list")=some false:=by kernel_rfl
theorem zn0 (K:W.Frag):W.kitOne K (.type "str") (.type "str")=some true:=by kernel_rfl
theorem zmq (K:W.Frag):W.kitOne K (.type "list") (.type "int")=some false:=by kernel_rfl
theorem zk2 (K:W.Frag):W.kitOne K (.type "list") (.type "bool")=some false:=by kernel_rfl
theorem zkD (K:W.Frag):W.kitOne K (.type "list") (.type "tuple")=some false:=by kernel_rfl
theorem zl2 (K:W.Frag):W.kitOne K (.type "list") (.type "list")=some true:=by kernel_rfl
theorem zmM (K:W.Frag):W.kitOne K (.type "list") (.type "str")=some false:=by kernel_rfl
theorem zk1 (K:W.Frag):W.kitOne K (.type "tuple") (.type "int")=some false:=by kernel_rfl
theorem zkv (K:W.Frag):W.kitOne K (.type "tuple") (.type "bool")=some false:=by kernel_rfl
theorem zjL (K:W.Frag):W.kitOne K (.type "tuple") (.type "tuple")=some true:=by kernel_rfl
theorem zkr (K:W.Frag):W.kitOne K (.type "tuple") (.type "list")=some false:=by kernel_rfl
theorem zlY (K:W.Frag):W.kitOne K (.type "tuple") (.type "str")=some false:=by kernel_rfl
noncomputable def isI (T:String):D->Bool
 | .non=>false
 | .bl _=>T=="bool"||T=="int"
 | .int _=>T=="int"
 | .str _=>T=="str"
 | .lst _=>T=="list"
 | .tup _=>T=="tuple"
 | .scr _=>T=="list"
 | .exc _=>false
 | .dic _ _=>false
 | .dit _ _=>false
noncomputable def okT (T:String):Bool:=["int","bool","tuple","list","str"].contains T
noncomputable def rIsI (K:W.Frag)(T:String):List V->Hp->VK->Prop:=fun xs H Q=>∃x t b,xs=[x,.ty T]/\TyOf K H x t/\W.kitOne K t (.type T)=some b/\Q (.bl b) H
theorem call_isI (T:String):zge X (.builtin "isinstance") (rIsI X.K T):=by
 intro pins s σ H xs us Q I r h;obtain⟨x,t,b,rfl,ty,e,q⟩:=h;obtain⟨u,w',rfl,r1,r2⟩:=vals2 r;cases(show w'=Value.type T from r2);exact zqi I r1 ty e fun tk=>⟨.bl b,H,I.tok _,rfl,q⟩
noncomputable def eIsI (T:String)(ma:ME):ME:=fun ρ=>(ma ρ).bind fun p=>if okT T&&noS1 p.1 then some (.bl (isI T p.1),p.2)else none
where noS1:D->Bool
 | .scr _=>false
 | .exc _=>false
 | .dic _ _=>false
 | .dit _ _=>false
 |_=>true
theorem kit_all (K:W.Frag){T:String}(hT:okT T=true):W.kitOne K (.type "NoneType") (.type T)=some false/\W.kitOne K (.type "bool") (.type T)=some (T=="bool"||T=="int")/\W.kitOne K (.type "int") (.type T)=some (T=="int")/\
  W.kitOne K (.type "str") (.type T)=some (T=="str")/\W.kitOne K (.type "list") (.type T)=some (T=="list")/\W.kitOne K (.type "tuple") (.type T)=some (T=="tuple"):=by
 have h:T="int"\/T="bool"\/T="tuple"\/T="list"\/T="str":=by simpa[okT]using hT
 rcases h with rfl|rfl|rfl|rfl|rfl
 ·exact⟨zjn K,zmJ K,znt K,znI K,zmq K,zk1 K⟩
 ·exact⟨ziT K,zl7 K,zmp K,zmD K,zk2 K,zkv K⟩
 ·exact⟨zir K,zkC K,zlF K,zlJ K,zkD K,zjL K⟩
 ·exact⟨ziQ K,zld K,zmF K,zni K,zl2 K,zkr K⟩
 ·exact⟨zjp K,zmC K,znN K,zn0 K,zmM K,zlY K⟩
theorem zqO {ma:ME}{p q pos:Pos}(T:String)(ml:X.mg "isinstance"=none)(mT:X.mg x=none)(hbT:bootBuiltins x=some (.type T))(ha:SE X a ma)(hg:Gl X "isinstance":=by rfl)(hgT:Gl X x:=by rfl)(hn:x≠"__name__":=by decide)(hd:(x==("__debug__":Str))=false:=by decide)
  (he:starEach [a,.Name x q] X.env=(false,eval a X.env)::starEach [.Name x q] X.env:=by rfl) (he2:starEach [.Name x q] X.env=(false,eval (.Name x q) X.env)::starEach [] X.env:=by rfl) (hpl:(backTo pos (starEach [.Name x q] X.env)).any (·.1)=false:=by rfl):
  SE X (.Call (.Name "isinstance" p) [a,.Name x q] [] pos) (eIsI T ma):=by
 obtain⟨ta,pa,sa⟩:=ha;refine⟨_,zic (call_isI T) hg ml boot_isinstance (zb4 pa (zb4 (zrl (v:= .ty T) hgT mT hbT rfl hn hd) ziz he2) he) (by decide) (by decide) he hpl,fun B G H σ ρ d ρ' Q I hm k=>?_⟩;obtain⟨⟨y,ρ1⟩,e1,hm⟩:=zae hm;dsimp only at hm
 split at hm
 ·rename_i hT;obtain⟨rfl,rfl⟩:=Prod.mk.inj (Option.some.inj hm);rw[qbi]at hT;obtain⟨hT,hS⟩:=hT;refine sa B G H σ ρ y ρ1 _ I e1 fun G1 H1 v I1 f1 r1=>?_
  obtain⟨k0,k1,k2,k3,k4,k5⟩:=kit_all X.K hT;have fin:∀t,TyOf X.K H1 v t->W.kitOne X.K t (.type T)=some (isI T y)->rIsI X.K T [v,.ty T] H1 Q:=fun t ty e=>⟨v,t,isI T y,rfl,ty,e,k G1 H1 _ I1 f1 rfl⟩
  cases y with
  |non=>cases(show v=V.non from r1);exact fin _ .non k0
  |bl c=>cases(show v=V.bl c from r1);exact fin _ (.bl c) k1
  |int c=>cases(show v=V.int c from r1);exact fin _ (.int c) k2
  |str c=>cases(show v=V.str c from r1);exact fin _ (.str c) k3
  |lst ds=>obtain⟨a,xs,e,hp,r⟩:=I1.lst r1;subst e;exact fin _ (.lst hp) k4
  |tup ds=>obtain⟨a,xs,e,hp,r⟩:=I1.tup r1;subst e;exact fin _ (.tup hp) k5
  |scr _=>cases hS
  |exc _=>cases hS
  |dic _ _=>cases hS
  |dit _ _=>cases hS
 ·cases hm
noncomputable def cutD {α:Type}(xs:List α)(lo hi:Option Int):List α:=(xs.drop (HT.sIx xs.length 0 lo)).take (HT.sIx xs.length xs.length hi-HT.sIx xs.length 0 lo)
theorem RepL.cut (h:RepL K G xs ds)(lo hi:Option Int):RepL K G (cutV xs lo hi) (cutD ds lo hi):=by
 unfold cutV cutD;rw[h.length];exact(h.drop _).take _
section
variable {prog:Program} {w:World} {A:Around} {E:Value->Shared->Prop} {s:Shared}
theorem zh0 {t sl:Addr}{items:Array Value}{vl vu:Value}{lo hi:Option Int}(ht:IsTup s.heap t items)(hs:s.heap.IsSliceOf sl vl vu .none)(pl:IsPart vl lo)(pu:IsPart vu hi)
  (hw:HT.sIx items.size 0 lo=0/\HT.sIx items.size items.size hi=items.size) (h:Q (.ref t) s):wpAny (model prog w) A (getItem (.ref t) (.ref sl)) Q E s:=by
 obtain⟨os,hos,hcs,hds⟩:=id hs;have hTs:s.TypeIs (.ref sl) "slice":=⟨os,hos,hcs⟩;unfold getItem
 try with_reducible refine qaA ?_
 first|refine qaz (qaC ?_)|skip
 refine qaz (wpAny_sequenceKey ht.typeIs (by decide) ?_);refine qaz (qbf (name:=Str.ofString "__getitem__") ht.typeIs qbg
  (qbh qbg ht.typeIs entry_tuple_getitem ?_ (args_tuple_getitem _ _)))
 show wpAny _ _ (Builtin.Tuple.tupleItemsOf (.ref t)>>=_) _ _ s;refine qaz (tupleItemsOf_ ht ?_);refine qaz (wpAny_typeOf hTs ?_);rw[if_pos (by decide)];refine qaz (HT.zfP hs pl pu ?_);have hyes:(((HT.sIx items.size 0 lo:Nat):Int)==0&&(1:Int)==1&&(HT.sIx items.size items.size hi-HT.sIx items.size 0 lo)==items.size)=true:=by
  rw[hw.1,hw.2];simp
 show wpAny _ _ (if(((HT.sIx items.size 0 lo:Nat):Int)==0&&(1:Int)==1&&(HT.sIx items.size items.size hi-HT.sIx items.size 0 lo)==items.size)=true then _ else _) _ _ s;rw[if_pos hyes];refine qaz (m:=Builtin.Tuple.tupleIsExact _) ?_;unfold Builtin.Tuple.tupleIsExact;refine qaz (wpAny_typeOf ht.typeIs (qaC ?_));rw[if_pos (by decide)];refine qaz (qaF ?_);exact qaC ⟨_,rfl,qaC h⟩
end
noncomputable def rSlTW (K:W.Frag):V->Option Int->Option Int->Hp->VK->Prop:=fun x lo hi H Q=>∃a xs,x= .ref a/\SqT K H a xs/\(HT.sIx xs.length 0 lo=0/\HT.sIx xs.length xs.length hi=xs.length)/\Q (.ref a) H
theorem sl_tupW:SlR X (rSlTW X.K):=by
 intro pins s σ H x v vl vu lo hi sl Q I rx hs pl pu h;obtain⟨a,xs,rfl,hx,hw,q⟩:=h;cases rx;obtain⟨its,r,ht,hz⟩:=I.tuple hx;have hlen:its.toArray.size=xs.length:=by rw[qaO];exact r.length.symm
 refine⟨"tuple",_,PyProof.Rows.slot_tuple_getitem.lookup,ht.typeIs,?_⟩;exact zh0 ht hs pl pu (by rw[hlen];exact hw) ⟨.ref a,H,I,rfl,q⟩
noncomputable abbrev MP:=R->Option (Option Int×R)
noncomputable def SPt (X:Cx)(e:Option Expr)(m:MP):Prop:=∃t,PO X e t/\∀B G H σ ρ o ρ' (Q:Option Int->Hp->Prop),SI X.K B G H σ ρ->m ρ=some (o,ρ')->(∀G' H',SI X.K B G' H' σ ρ'->Fz G G'->Q o H')->t σ H Q
noncomputable def pNo:MP:=fun ρ=>some (none,ρ)
noncomputable def zf1 (m:ME):MP:=fun ρ=>(m ρ).bind fun p=>match p.1 with
 | .int i=>some (some i,p.2)
 |_=>none
theorem zjI:SPt X none pNo:=⟨_,po_none,fun B G H σ ρ o ρ' Q I hm k=>by cases hm;exact k G H I (Fz.refl G)⟩
theorem zb5 {m:ME}(h:SE X e m):SPt X (some e) (zf1 m):=by
 obtain⟨t,p,s⟩:=h;refine⟨_,po_some p,fun B G H σ ρ o ρ' Q I hm k=>?_⟩;obtain⟨⟨d,ρ1⟩,e1,hm⟩:=zae hm;refine s B G H σ ρ d ρ1 _ I e1 fun G1 H1 v I1 f1 r1=>?_
 cases d<;>try cases hm
 rename_i i;exact⟨i,r1,k G1 H1 I1 f1⟩
noncomputable def dCut (d:D)(lo hi:Option Int):Option D:=match d with
 | .lst ds=>some (.lst (cutD ds lo hi))
 | .tup ds=>some (.tup (cutD ds lo hi))
 | .scr ns=>some (.lst ((cutD ns lo hi).map .int))
 |_=>none
noncomputable def eCut (ma:ME)(ml mh:MP):ME:=fun ρ=>(ma ρ).bind fun p=>(ml p.2).bind fun q=>(mh q.2).bind fun r=>(dCut p.1 q.1 r.1).map fun d=>(d,r.2)
theorem zrN (ns:List Int)(lo hi:Option Int):cutV (ns.map V.int) lo hi=(cutD ns lo hi).map V.int:=by
 unfold cutV cutD;rw[qa3,<-List.map_drop,<-List.map_take]
theorem zhs {lo hi:Option Expr}{ma:ME}{ml mh:MP}{pos p2:Pos}(he:SE X e ma)(hl:SPt X lo ml)(hu:SPt X hi mh):SE X (.Subscript e (.Slice lo hi none p2) pos) (eCut ma ml mh):=by
 obtain⟨ta,pa,sa⟩:=he;obtain⟨tl,pl,sl⟩:=hl;obtain⟨th,ph,sh⟩:=hu;refine⟨_,pe_slice (sl_list.or (sl_tup.or sl_tupW)) pa pl ph,fun B G H σ ρ d ρ' Q I hm k=>?_⟩;obtain⟨⟨x,ρ1⟩,e1,hm⟩:=zae hm;obtain⟨⟨l,ρ2⟩,e2,hm⟩:=zae hm;obtain⟨⟨u,ρ3⟩,e3,hm⟩:=zae hm;obtain⟨c,e4,e5⟩:=zat hm;obtain⟨rfl,rfl⟩:=Prod.mk.inj e5;refine sa B G H σ ρ x ρ1 _ I e1 fun G1 H1 v I1 f1 r1=>sl B G1 H1 σ ρ1 l ρ2 _ I1 e2 fun G2 H2 I2 f2=>sh B G2 H2 σ ρ2 u ρ3 _ I2 e3 fun G3 H3 I3 f3=>?_
 have r3:=r1.mono (f2.trans f3);dsimp only at e4;cases x with
 |exc _=>cases e4
 |dic _ _=>cases e4
 |dit _ _=>cases e4
 |non=>cases e4
 |bl _=>cases e4
 |int _=>cases e4
 |str _=>cases e4
 |lst ds=>
  cases e4;obtain⟨a,xs,rfl,ha,r⟩:=I3.lst r3;refine .inl ⟨a,xs,rfl,SqL.of ha,fun p hp=>?_⟩;obtain⟨I4,f4,r4⟩:=I3.newL hp (r.cut l u);exact k _ _ _ I4 (f1.trans (f2.trans (f3.trans f4))) r4
 |tup ds=>
  cases e4;obtain⟨a,xs,rfl,ha,r⟩:=I3.tup r3
  by_cases hw:HT.sIx xs.length 0 l=0/\HT.sIx xs.length xs.length u=xs.length
  ·refine .inr (.inr ⟨a,xs,rfl,SqT.of ha,hw,?_⟩);have e:cutD ds l u=ds:=by
    unfold cutD;rw[<-r.length,hw.1,hw.2,qbV,Nat.sub_zero,qbT (by rw[r.length];exact qaJ _)]
   rw[e]at k;exact k G3 H3 _ I3 (f1.trans (f2.trans f3)) r3
  ·refine .inr (.inl ⟨a,xs,rfl,SqT.of ha,hw,fun p hp=>?_⟩);obtain⟨I4,f4,r4⟩:=I3.newT hp (r.cut l u);exact k _ _ _ I4 (f1.trans (f2.trans (f3.trans f4))) r4
 |scr ns=>
  cases e4;obtain⟨a,rfl,ha⟩:=r3;refine .inl ⟨a,_,rfl,I3.fz.sql ha,fun p hp=>?_⟩;rw[zrN];obtain⟨I4,f4,r4⟩:=I3.newL hp (RepL.ints (cutD ns l u));exact k _ _ _ I4 (f1.trans (f2.trans (f3.trans f4))) r4
theorem zeK (h:aLen ma n):∀ρ as ρ',ma ρ=some (as,ρ')->as.length+1=n+1:=fun ρ as ρ' e=>congrArg (· +1) (h ρ as ρ' e)
section
variable {X:Cx} {elt iter tg:Expr} {ifs:List Expr} {scope:Scope} {pos lpos pos':Pos} {N:List Str} {cap:List Nat} {t:Nat} {mi:MA} {g:D->R->Option R} {mt:MT} {me:ME}
theorem zjP (i:Nat)(cap:List Nat)(t:Nat)(N:List Str)(hc:X.calm=true)(hi:SIt X tg iter mi)(hg:∀C s H fp,SG (cxC X N scope C s H fp) tg g)(ht:∀C s H fp,STs (cxC X N scope C s H fp) ifs mt)(he:∀C s H fp,SE (cxC X N scope C s H fp) elt me)(hN:X.N.Nodup)
    (hxi:X.N[i]? =some x:=by rfl) (hx:Loc X.env.scope x:=by first|exact Or.inl rfl|exact Or.inr rfl) (hf:X.fn x=true\/X.env.scope.names.lookup x=some .local:=by first|exact Or.inl rfl|exact Or.inr rfl)
    (hsw:swapsWith (.ListComp elt [⟨tg,iter,ifs,0⟩] scope lpos) (some (.Name x pos')) pos.line X.env=pure true:=by rfl)
    (hk:scope.kind= .function:=by rfl) (hb:blkB X.env scope=true:=by kernel_rfl) (hcap:capB scope.names N X.N cap t=true:=by kernel_rfl)
    (hs:∀x,foldedSetIterable iter X.env x=pure x:=by exact fun _=>rfl):SS X (.Assign [.Name x pos'] (.ListComp elt [⟨tg,iter,ifs,0⟩] scope lpos) pos) (sSet i (eFz (oLC cap t mi g mt me))):=by
  obtain⟨wi,pi,si⟩:=hi;refine⟨_,zjw hN hxi hx hf hsw hc (zkO hk hb) (zkG hcap) pi (fun C s H fp=>(hg C s H fp).choose_spec.1) (fun C s H fp=>(ht C s H fp).choose_spec.1) (fun C s H fp=>(he C s H fp).choose_spec.1) hs,fun B G H σ ρ fl ρ' E I hm k=>?_⟩;obtain⟨⟨d,ρ1⟩,e1,e3⟩:=zat hm;obtain⟨⟨ds,ρ2⟩,e4,e5⟩:=zat e1;obtain⟨rfl,rfl⟩:=Prod.mk.inj e5;obtain⟨rfl,rfl⟩:=Prod.mk.inj e3;refine zlj si (fun C s H fp=>(hg C s H fp).choose_spec.2) (fun C s H fp=>(ht C s H fp).choose_spec.2) (fun C s H fp=>(he C s H fp).choose_spec.2) B G H σ ρ ds ρ2 _ I e4 fun G1 H1 l xs I1 f1 g1 h1 r1 b1 n1=>?_
  obtain⟨I2,f2,r2⟩:=zkT I1 g1 h1 r1 b1 n1;exact k _ H1 _ (I2.set r2) (f1.trans f2)
end
end M
namespace M
open L2 PySem
@[simp] theorem atI_nat' {α:Type} (xs:List α) (i:Nat):atI xs (i:Int)=xs[i]?:=by
 unfold atI ixN;rw[if_pos (by lia)]
 by_cases h:i<xs.length
 ·rw[if_pos (by lia)];simp
 ·rw[if_neg (by lia)];simp[qbU (by lia:xs.length<=i)]
end M
namespace M
open L2 PyProof.Rows PySem PySem.Spec
noncomputable def zkB (i:Nat)(g:Int->Int->Int)(me:ME):MS:=fun ρ=>match ρ[i]? with
 |some (.val (.int a))=>(me ρ).bind fun p=>match p.1 with
  | .int b=>some (.next,p.2.set i (.val (.int (g a b))))
  |_=>none
 |_=>none
section
variable {X:Cx} {e:Expr} {me:ME} {pos:Pos}
theorem zp8 (i:Nat){x:Str}{pos':Pos}{op:Operator}{g:Int->Int->Int}(ho:PIp X op (ipI g))(he:SE X e me)(hN:X.N.Nodup)(hi:X.N[i]? =some x:=by rfl)(hx:Loc X.env.scope x:=by first|exact Or.inl rfl|exact Or.inr rfl)
    (hf:X.fn x=true\/X.env.scope.names.lookup x=some .local:=by first|exact Or.inl rfl|exact Or.inr rfl):SS X (.AugAssign (.Name x pos') op e pos) (zkB i g me):=by
  obtain⟨t,p,s⟩:=he;refine⟨_,ps_aug hN hi hx p ho hf,fun B G H σ ρ fl ρ' E I hm k=>?_⟩;unfold zkB at hm
  split at hm
  . rename_i a e0
    obtain⟨⟨d,ρ1⟩,e1,h2⟩:=zae hm;dsimp only at h2
    split at h2
    . rename_i b
      cases h2;obtain⟨v,h1,hv⟩:=I.slot i _ e0;cases(show v=V.int a from hv);refine⟨_,h1,s B G H σ ρ (.int b) ρ1 _ I e1 fun G1 H1 w I1 f1 r1=>?_⟩;cases(show w=V.int b from r1);exact⟨a,b,rfl,rfl,k G1 H1 _ (I1.set (d:= .int (g a b)) rfl) f1⟩
    . cases h2
  . cases hm
theorem zmG (i:Nat){x:Str}{pos':Pos}(he:SE X e me)(hN:X.N.Nodup)(hi:X.N[i]? =some x:=by rfl)(hx:Loc X.env.scope x:=by first|exact Or.inl rfl|exact Or.inr rfl)
  (hf:X.fn x=true\/X.env.scope.names.lookup x=some .local:=by first|exact Or.inl rfl|exact Or.inr rfl):SS X (.AugAssign (.Name x pos') .Add e pos) (zkB i (fun i j=>i+j) me):=zp8 i ip_add he hN hi hx hf
theorem zjS (i:Nat){x:Str}{pos':Pos}(he:SE X e me)(hN:X.N.Nodup)(hi:X.N[i]? =some x:=by rfl)(hx:Loc X.env.scope x:=by first|exact Or.inl rfl|exact Or.inr rfl)
  (hf:X.fn x=true\/X.env.scope.names.lookup x=some .local:=by first|exact Or.inl rfl|exact Or.inr rfl):SS X (.AugAssign (.Name x pos') .Sub e pos) (zkB i (fun i j=>i-j) me):=zp8 i ip_sub he hN hi hx hf
end
noncomputable def zeT {α:Type}(xs:List α)(lo hi st:Option Int):List α:=
 (sliceRange (sliceBounds lo hi st xs.length).1 (sliceBounds lo hi st xs.length).2.1 (sliceBounds lo hi st xs.length).2.2).filterMap (xs[·]?)
theorem zjh (its:List Value)(lo hi st:Option Int):slicePick its.toArray lo hi st=(zeT its lo hi st).toArray:=by
 unfold slicePick zeT;simp
theorem znp {xs:List V}{its:List Value}(h:xs.length=its.length)(lo hi st:Option Int):(zeT its lo hi st).length<=xs.length:=by
 have:=slicePick_size_le its.toArray lo hi st;rw[zjh]at this;simpa[h]using this
theorem picks {its:List Value}{xs:List V}(r:Vals xs its):∀js:List Nat,Vals (js.filterMap (xs[·]?)) (js.filterMap (its[·]?))
 |[]=> .nil
 |j::js=>by
  have hl:=r.length
  by_cases h:j<xs.length
  ·have h2:j<its.length:=by lia
   obtain⟨u,e1,e2⟩:=r.get (qbD h);rw[qal,qal,qbD h,e1];exact .cons e2 (picks r js)
  ·rw[qal,qal,qbU (by lia),qbU (by lia)];exact picks r js
theorem RepL.pickJ {K:W.Frag}{G:Hp}{xs:List V}{ds:List D}(r:RepL K G xs ds):∀js:List Nat,RepL K G (js.filterMap (xs[·]?)) (js.filterMap (ds[·]?))
 |[]=>RepL.nil
 |j::js=>by
  have hl:=r.length
  by_cases h:j<xs.length
  ·have h2:j<ds.length:=by lia
   obtain⟨u,e1,e2⟩:=r.get (qbD h2);rw[qal,qal,qbD h2,e1];exact RepL.cons e2 (r.pickJ js)
  ·rw[qal,qal,qbU (by lia),qbU (by lia)];exact r.pickJ js
section
variable {X:Cx} {e st:Expr} {lo hi:Option Expr} {te:TE} {tl th ts:TO} {p2 pos:Pos}
theorem zpy (he:PE X e te)(hl:PO X lo tl)(hu:PO X hi th)(hst:PO X (some st) ts):PE X (.Subscript e (.Slice lo hi (some st) p2) pos)
  (fun σ H Q=>te σ H fun x H1=>tl σ H1 fun l H2=>th σ H2 fun u H3=>ts σ H3 fun c H4=>∃a xs,x= .ref a/\SqL X.K H4 a xs/\c≠some 0/\∀p,H4 p=none->Q (.ref p) (upd H4 p (.lst (zeT xs l u c)))):=by
 intro pins s σ H Q I h;refine Subscript_ (thn (he pins s σ H _ I h) fun v s1 ⟨x,H1,I1,r1,q1⟩=>?_);refine wpAny_Slice (thn (hl pins s1 σ H1 _ I1 q1) fun vl s2 ⟨l,H2,I2,pl,q2⟩=>thn (hu pins s2 σ H2 _ I2 q2) fun vu s3 ⟨u,H3,I3,pu,q3⟩=>thn (hst pins s3 σ H3 _ I3 q3) fun vs s4 ⟨c,H4,I4,pc,q4⟩=>?_);have I5:Inv X pins σ H4 {s4 with heap:=s4.heap.push {cls:= .type "slice",data:= .fields #[vl,vu,vs]}}:=I4.kept (t':=s4.toks) fun b ob q=>qaE _ q
 obtain⟨a,xs,rfl,hx,h0,q⟩:=q4;cases r1;obtain⟨its,r,ht,hz⟩:=I5.list hx;have hlen:=r.length;have hg:wpAny (model X.prog X.w) X.A (getItem (.ref a) (.ref s4.heap.objs.size)) (EP X pins σ Q) X.xe {s4 with heap:=s4.heap.push {cls:= .type "slice",data:= .fields #[vl,vu,vs]}}:=by
  refine wpAny_getItem_list_slice ht.isList (Heap.IsSliceOf.new ..) pl pu pc h0 ?_ (by rw[qaO]<;>lia)
  rw[zjh];refine⟨.ref _,_,I5.laid (t':=s4.toks) (o:= .lst (zeT xs l u c)) (fun b ob q=>qaE _ q) (qaJ _) ?_,rfl,q _ (I5.hok.fresh (qaJ _))⟩;refine⟨?_,_,0,?_,qaI _ rfl⟩
  ·have:=znp hlen l u c;have e2:(zeT xs l u c).length=(zeT its l u c).length:=by
    unfold zeT;rw[hlen];exact(picks r _).length
   lia
  ·unfold zeT;rw[hlen];exact picks r _
 show wpAny (model X.prog X.w) X.A (subscriptTail e (.Slice lo hi (some st) p2) (.ref a) (.ref s4.heap.objs.size)) (EP X pins σ Q) X.xe {s4 with heap:=s4.heap.push {cls:= .type "slice",data:= .fields #[vl,vu,vs]}};exact tail_any (ops:=[.ref a,.ref s4.heap.objs.size]) ht.isList.typeIs slot_list_getitem.lookup hg (by with_unfolding_all rfl)
end
noncomputable def dPick (d:D)(lo hi st:Option Int):Option D:=match d with
 | .lst ds=>if st=some 0 then none else some (.lst (zeT ds lo hi st))
 |_=>none
noncomputable def eCutS (ma:ME)(ml mh ms:MP):ME:=fun ρ=>(ma ρ).bind fun p=>(ml p.2).bind fun q=>(mh q.2).bind fun r=>(ms r.2).bind fun t=>(dPick p.1 q.1 r.1 t.1).map fun d=>(d,t.2)
theorem RepL.pick {K:W.Frag}{G:Hp}{xs:List V}{ds:List D}(r:RepL K G xs ds)(lo hi st:Option Int):RepL K G (zeT xs lo hi st) (zeT ds lo hi st):=by
 unfold zeT;rw[r.length];exact r.pickJ _
theorem zrJ {X:Cx}{e st:Expr}{lo hi:Option Expr}{ma:ME}{ml mh ms:MP}{pos p2:Pos}(he:SE X e ma)(hl:SPt X lo ml)(hu:SPt X hi mh)(hs:SPt X (some st) ms):SE X (.Subscript e (.Slice lo hi (some st) p2) pos) (eCutS ma ml mh ms):=by
 obtain⟨ta,pa,sa⟩:=he;obtain⟨tl,pl,sl⟩:=hl;obtain⟨th,ph,sh⟩:=hu;obtain⟨tc,pc,sc⟩:=hs;refine⟨_,zpy pa pl ph pc,fun B G H σ ρ d ρ' Q I hm k=>?_⟩;obtain⟨⟨x,ρ1⟩,e1,hm⟩:=zae hm;obtain⟨⟨l,ρ2⟩,e2,hm⟩:=zae hm;obtain⟨⟨u,ρ3⟩,e3,hm⟩:=zae hm;obtain⟨⟨c,ρ4⟩,e4,hm⟩:=zae hm;obtain⟨y,e5,e6⟩:=zat hm;obtain⟨rfl,rfl⟩:=Prod.mk.inj e6;refine sa B G H σ ρ x ρ1 _ I e1 fun G1 H1 v I1 f1 r1=>sl B G1 H1 σ ρ1 l ρ2 _ I1 e2 fun G2 H2 I2 f2=>sh B G2 H2 σ ρ2 u ρ3 _ I2 e3 fun G3 H3 I3 f3=>sc B G3 H3 σ ρ3 c ρ4 _ I3 e4 fun G4 H4 I4 f4=>?_
 have r3:=r1.mono (f2.trans (f3.trans f4));dsimp only at e5;cases x<;>simp only[dPick]at e5<;>try cases e5
 rename_i ds
 split at e5
 ·cases e5
 ·rename_i h0;cases e5;obtain⟨a,xs,rfl,ha,r⟩:=I4.lst r3;refine⟨a,xs,rfl,SqL.of ha,h0,fun p hp=>?_⟩;obtain⟨I5,f5,r5⟩:=I4.newL hp (r.pick l u c);exact k _ _ _ I5 (f1.trans (f2.trans (f3.trans (f4.trans f5)))) r5
end M
namespace M
open L2 PySem PySem.Spec
open PyProof.Rows hiding St
variable {K:W.Frag} {tg a b e:Expr} {pins:List (Addr×Obj)} {s:Shared} {E:Value->Shared->Prop} {p pos:Pos} {G:Hp} {j:Int} {X:Cx} {ma:MA} {xs:List V} {ds:List D}
noncomputable def cntS (lo hi st:Int):Nat:=if lo<hi then((hi-lo-1)/st+1).toNat else 0
noncomputable def Itrs (lo st:Int)(n:Nat):It:=⟨fun i _=>i<n,fun i H x H'=>H'=H/\x= .int (lo+i*st),fun i _=>n<=i⟩
theorem znD {P:Program}{w:World}(it:Addr)(lo st:Int)(n:Nat):Turn P w K tg (Itrs lo st n) [it] it (fun i h=>IsRangeIter h it (lo+(i:Nat)*st) ((n:Int)-(i:Nat)) st) where
 mem:=by simp
 obj:=fun i h st b hb=>by
  have e:b=it:=by simpa using hb
  subst e;exact⟨_,st,fun v z=>by
   have z':Data.fields _=Data.cell v:=z;cases z'⟩
 keep:=fun i h h' st k=>k it (by simp) _ st
 item:=by
  intro X hP hw hK hc i pins s σ H E I hf st' hg;subst hP hw hK;obtain⟨f0,f1,f2,f3,f4,f5⟩:=hf it (by simp);have W:=Walks.range (prog:=X.prog) (w:=X.w) (I.ok.hd hc) it lo st n;refine W.item i s _ _ hg st' fun v h' tk hv st' kk=>?_
  obtain⟨t,rfl⟩:=hv;have I1:Inv X pins σ H {s with heap:=h',toks:=tk}:=I.turned (fun b o hb e=>kk b o (by simpa using hb) e) f0 f1 f3 f4 f5;exact⟨_,rfl,go_of (s:={s with heap:=h',toks:=tk}) (n:="range_iterator") st' rfl rfl (by decide) ⟨.int (lo+i*st),H,I1,⟨t,rfl⟩,⟨rfl,rfl⟩,st',fun b hb=>(hf b hb).1⟩⟩
 done:=by
  intro X hP hw hK hc i pins s σ H E I hf st' hg;subst hP hw hK;obtain⟨f0,f1,f2,f3,f4,f5⟩:=hf it (by simp);exact wpAny_pyNext_range_end (I.ok.hd hc) st' (by have:n<=i:=hg;lia) fun h' eb=>⟨rfl,I.turned (t':=s.toks) (fun b o hb e=>eb b o hb e) f0 f1 f3 f4 f5⟩
 self:=fun _ _ _ _ _ st h=>wpAny_pyIter_rangeiter st h
theorem zot {lo hi st:Int}(h:0<st):((cntS lo hi st:Nat):Int)=Builtin.Range.rangeSize lo hi st:=by
 unfold cntS Builtin.Range.rangeSize;rw[if_pos h]
 split
 ·have:0<=(hi-lo-1)/st:=Int.ediv_nonneg (by lia) (by lia);lia
 ·rfl
theorem small_st {a b c:Int}(ha: -(2^60)<=a)(ha':a<2^60)(hb: -(2^60)<=b)(hb':b<2^60)(hc:0<c)(hc':c<1073741824):Builtin.Range.small a b c=true:=by
 have h1:=zot (lo:=a) (hi:=b) hc;have h2:Builtin.Range.rangeSize a b c<=2^62:=by
  unfold Builtin.Range.rangeSize;rw[if_pos hc]
  split
  ·have:(b-a-1)/c<=b-a-1:=Int.ediv_le_self _ (by lia);lia
  ·lia
 have h3:0<=Builtin.Range.rangeSize a b c:=by rw[<-h1];lia
 unfold Builtin.Range.small;simp only[Builtin.Range.rangeFitsLong,qbi,qbB,qbA,qbL,show c>0 from hc,if_true]
 generalize Builtin.Range.rangeSize a b c=z at*
 lia
section
variable {X:Cx} {tg:Expr}
theorem zrK {σ:St}{H:Hp}{R:It->Hp->Prop}{lo hi st:Int}{t u v:Tok}{tk:Nat}(I:Inv X pins σ H s)(h1: -(2^60)<=lo)(h2:lo<2^60)(h3: -(2^60)<=hi)(h4:hi<2^60)(h5:0<st)(h6:st<1073741824)
  (q:R (Itrs lo st (cntS lo hi st)) H):wpAny (model X.prog X.w) X.A (pyIter (.ref s.heap.objs.size)) (PIE X pins σ tg R) E {s with heap:=s.heap.push {cls:= .type "range",data:= .fields #[.int lo t,.int hi u,.int st v]},toks:=tk}:=by
 refine wpAny_pyIter_range (IsRange.new ..) (small_st h1 h2 h3 h4 h5 h6) ?_;have I1:Inv X pins σ H {s with heap:=s.heap.push {cls:= .type "range",data:= .fields #[.int lo t,.int hi u,.int st v]},toks:=tk}:=I.kept fun b o e=>qaE _ e
 refine⟨(s.heap.push {cls:= .type "range",data:= .fields #[.int lo t,.int hi u,.int st v]}).objs.size,[(s.heap.push {cls:= .type "range",data:= .fields #[.int lo t,.int hi u,.int st v]}).objs.size],_,_,H,rfl,
  I1.kept (t':=tk) fun b o e=>qaE _ e,znD _ lo st (cntS lo hi st),?_,fun b hb=>?_,q⟩
 ·have e1:lo+((0:Nat):Int)*st=lo:=by simp
  show IsRangeIter _ _ (lo+((0:Nat):Int)*st) (((cntS lo hi st:Nat):Int)-((0:Nat):Int)) st;rw[e1,zot h5,show(((0:Nat):Int))=0 from rfl,Int.sub_zero];exact qaI _ rfl
 ·have e:b=(s.heap.push {cls:= .type "range",data:= .fields #[.int lo t,.int hi u,.int st v]}).objs.size:=by simpa using hb
  subst e;exact I1.fpOk (qaJ _) (I1.hok.fresh (qaJ _))
theorem zqM {a b c:Expr}{ta:TA}(hg:Gl X "range")(hm:X.mg "range"=none)(ha:PA X [a,b,c] ta)(hs:starEach [a,b,c] X.env=(false,eval a X.env)::starEach [b,c] X.env:=by rfl)(hs2:(backTo pos (starEach [b,c] X.env)).any (·.1)=false:=by rfl):
  PI X tg (.Call (.Name "range" p) [a,b,c] [] pos) (fun σ H R=>ta σ H fun vs H1=>∃i j k:Int,vs=[.int i,.int j,.int k]/\(-(2^60)<=i/\i<2^60/\ -(2^60)<=j/\j<2^60/\0<k/\k<1073741824)/\R (Itrs i k (cntS i j k)) H1):=by
 intro pins s σ H R I h;refine Call_ (ziy I hg hm boot_range (qaK (thn (ha pos pins s σ H _ I h) fun us s1 ⟨vs,H1,I1,r1,q1⟩=>?_) hs hs2));obtain⟨i,j,k,e,⟨q1,q2,q3,q4,q5,q6⟩,q⟩:=q1;subst e;cases r1 with
 |cons r rr=>
  cases rr with
  |cons r' rr=>
   cases rr with
   |cons r'' rr=>
    cases rr;obtain⟨t,rfl⟩:=r;obtain⟨t',rfl⟩:=r';obtain⟨t'',rfl⟩:=r'';exact call_range_3 (by lia) (zrK I1 q1 q2 q3 q4 q5 q6 q) (Or.inl (PyProof.noPylong_small (by lia)))
end
noncomputable def zns (lo st:Int)(n:Nat):List D:=(List.range n).map fun(i:Nat)=>D.int (lo+(i:Int)*st)
theorem zpB (lo st:Int)(n:Nat):Itm K (Itrs lo st n) G (zns lo st n) where
 go:=fun H i f hi=>by show i<n;simpa[zns]using hi
 yld:=fun H i x H' f y d e=>by
  obtain⟨rfl,rfl⟩:=y;unfold zns at e;rw[qaZ]at e;cases q:(List.range n)[i]? with
  |none=>rw[q]at e;cases e
  |some j=>
   rw[q]at e;have hj:j=i:=by
    have:=qar.mp q;obtain⟨h1,h2⟩:=this;simpa using h2.symm
   subst hj;cases e;exact .inl ⟨rfl,rfl⟩
 stop:=fun H i f hi=>by show n<=i;simpa[zns]using hi
noncomputable def iR3 (ma:MA):MA:=fun ρ=>(ma ρ).bind fun p=>match p.1 with
 |[.int i,.int j,.int k]=>if zcz i&&zcz j&&decide (0<k)&&decide (k<1073741824)then some (zns i k (cntS i j k),p.2)else none
 |_=>none
theorem zmS (h:zcz j=true): -(2^60)<=j/\j<2^60:=by
 unfold zcz at h;simp only[qbi,qbA]at h;lia
theorem zmX {tg a b c:Expr}(hm:X.mg "range"=none)(ha:SA X [a,b,c] ma)(hg:Gl X "range":=by rfl)(hs:starEach [a,b,c] X.env=(false,eval a X.env)::starEach [b,c] X.env:=by rfl)(hs2:(backTo pos (starEach [b,c] X.env)).any (·.1)=false:=by rfl):SIt X tg (.Call (.Name "range" p) [a,b,c] [] pos) (iR3 ma):=by
 obtain⟨t,pa,sa⟩:=ha;refine⟨_,zqM hg hm pa hs hs2,fun B G H σ ρ ds ρ' Q I hm k=>?_⟩;obtain⟨⟨es,ρ1⟩,e1,h2⟩:=zae hm;dsimp only at h2;refine sa B G H σ ρ es ρ1 _ I e1 fun G1 H1 vs I1 f1 r1=>?_
 split at h2
 ·rename_i i j l
  split at h2
  ·rename_i hj;simp only[qbi,qbA]at hj;cases h2;obtain⟨x,xs,rfl,rx,r2⟩:=r1;obtain⟨y,ys,rfl,ry,r3⟩:=r2;obtain⟨z,zs,rfl,rz,r4⟩:=r3;cases(show x=V.int i from rx);cases(show y=V.int j from ry);cases(show z=V.int l from rz);cases(show zs=[]from r4);have a1:=zmS hj.1.1.1;have a2:=zmS hj.1.1.2;exact⟨i,j,l,rfl,⟨a1.1,a1.2,a2.1,a2.2,hj.1.2,hj.2⟩,k _ G1 H1 I1 f1 (zpB i l _)⟩
  ·cases h2
 ·cases h2
noncomputable def zkj (lt:Int->Int->Bool)(ns:List Int):Int:=ns.getD (argBest (fun i j=>lt (ns.getD i 0) (ns.getD j 0)) (ns.length-1)) 0
noncomputable def rBest (K:W.Frag)(lt:Int->Int->Bool):List V->Hp->VK->Prop:=fun xs H Q=>∃(p:Addr) (ns:List Int),xs=[.ref p]/\ns≠[]/\(SqL K H p (ns.map V.int)\/SqT K H p (ns.map V.int))/\Q (.int (zkj lt ns)) H
theorem zqA (hc:X.calm=true):zge X (.builtin "max") (rBest X.K fun i j=>decide (i>j)):=by
 intro pins s σ H xs us Q I r h;obtain⟨p,ns,rfl,ne,hq,q⟩:=h;obtain⟨u,rfl,ru⟩:=zk6 r;cases ru;refine call_max_walk (zhd (A:=X.A.in1) (I.ok.hd hc) I hq fun its s₂ St rv W st hfp fin=>?_);have hl:=rv.length;rw[qa3]at hl;have hp:0<its.length:=by rw[<-hl];exact qbW.mpr ne
 refine⟨_,_,_,_,_,_,_,rfl,W,st,hfp,hp,CmpOf.ints_gt (fun i=>ns.getD i 0) (fun i v e=>zh5 rv e),fun v h' tk hP hk=>?_⟩;obtain⟨t,rfl⟩:=zh5 rv hP;refine⟨.int (zkj _ ns),H,fin h' tk hk,⟨t,?_⟩,q⟩;unfold zkj;rw[hl]
theorem zq3 (hc:X.calm=true):zge X (.builtin "min") (rBest X.K fun i j=>decide (i<j)):=by
 intro pins s σ H xs us Q I r h;obtain⟨p,ns,rfl,ne,hq,q⟩:=h;obtain⟨u,rfl,ru⟩:=zk6 r;cases ru;refine call_min_walk (zhd (A:=X.A.in1) (I.ok.hd hc) I hq fun its s₂ St rv W st hfp fin=>?_);have hl:=rv.length;rw[qa3]at hl;have hp:0<its.length:=by rw[<-hl];exact qbW.mpr ne
 refine⟨_,_,_,_,_,_,_,rfl,W,st,hfp,hp,CmpOf.ints_lt (fun i=>ns.getD i 0) (fun i v e=>zh5 rv e),fun v h' tk hP hk=>?_⟩;obtain⟨t,rfl⟩:=zh5 rv hP;refine⟨.int (zkj _ ns),H,fin h' tk hk,⟨t,?_⟩,q⟩;unfold zkj;rw[hl]
noncomputable def zp5 (lt:Int->Int->Bool):List D->Option D
 |[d]=>(zaR [d]).bind fun ds=>(zbw ds).bind fun ns=>if ns.isEmpty then none else some (.int (zkj lt ns))
 |_=>none
theorem zqT (lt:Int->Int->Bool):VC X (rBest X.K lt) (zp5 lt):=by
 intro B G H σ ρ xs ds d Q I r hf k
 match ds,hf with
 |[a],hf=>
  obtain⟨es,e1,hf⟩:=zae hf;obtain⟨ns,e2,hf⟩:=zae hf
  split at hf
  ·cases hf
  ·rename_i ne;cases hf;obtain⟨x,rfl,ra⟩:=r.one;obtain⟨p,ys,rfl,hq,ry⟩:=zjC I ra e1;rw[zgb e2]at ry;rw[RepL.ints_eq ry]at hq;exact⟨p,ns,rfl,fun z=>ne (by rw[z];rfl),hq,k G H _ I (Fz.refl G) rfl⟩
 |[],hf=>cases hf
 |_::_::_,hf=>cases hf
noncomputable def zfs:List D->Option D:=zp5 fun i j=>decide (i>j)
noncomputable def zjr:List D->Option D:=zp5 fun i j=>decide (i<j)
theorem zjV (hc:X.calm=true)(ml:X.mg "max"=none)(ha:SA X [e] ma)(hg:Gl X "max":=by rfl)(he:starEach [e] X.env=(false,eval e X.env)::starEach [] X.env:=by rfl):SE X (.Call (.Name "max" p) [e] [] pos) (mC zfs ma):=
 zeD (zqA hc) (zqT _) (by decide+kernel) ml ha hg (by decide) (by decide) he rfl
theorem znv (hc:X.calm=true)(ml:X.mg "min"=none)(ha:SA X [e] ma)(hg:Gl X "min":=by rfl)(he:starEach [e] X.env=(false,eval e X.env)::starEach [] X.env:=by rfl):SE X (.Call (.Name "min" p) [e] [] pos) (mC zjr ma):=
 zeD (zq3 hc) (zqT _) (by decide+kernel) ml ha hg (by decide) (by decide) he rfl
noncomputable def oRep (ma mb:ME):MO:=fun ρ=>(ma ρ).bind fun p=>(mb p.2).bind fun q=>match p.1,q.1 with
 | .lst xs,.int k=>if zcz k&&decide (xs.length*k.toNat<=16777216)then some ((List.replicate k.toNat xs).flatten,q.2)else none
 |_,_=>none
theorem RepL.times (h:RepL K G xs ds):∀n:Nat,RepL K G (List.replicate n xs).flatten (List.replicate n ds).flatten
 |0=>RepL.nil
 |n+1=>by
  rw[qbp,qbq,qbp,qbq];exact h.append (h.times n)
theorem so_rep {ma mb:ME}(ha:SE X a ma)(hb:SE X b mb):SO X (.BinOp a .Mult b pos) (oRep ma mb):=by
 obtain⟨ta,pa,sa⟩:=ha;obtain⟨tb,pb,sb⟩:=hb;refine⟨_,pe_op op_rep pa pb,fun B G H σ ρ d ρ' Q I hm k=>?_⟩;obtain⟨⟨x,ρ1⟩,e1,hm⟩:=zae hm;obtain⟨⟨y,ρ2⟩,e2,hm⟩:=zae hm;refine sa B G H σ ρ x ρ1 _ I e1 fun G1 H1 v I1 f1 r1=>sb B G1 H1 σ ρ1 y ρ2 _ I1 e2 fun G2 H2 u I2 f2 r2=>?_
 dsimp only at hm
 split at hm
 ·rename_i xs n _
  split at hm
  ·rename_i hs;cases hm;simp only[qbi,qbA]at hs;cases(show u=V.int n from r2);obtain⟨l,ys,rfl,hl,r⟩:=I2.lst (r1.mono f2);have a1:=zdS hs.1;refine⟨l,n,ys,rfl,rfl,hl,by lia,by lia,by rw[r.length,qaN];exact hs.2,fun p hp=>?_⟩;obtain⟨I3,g3,h3,b3,n3⟩:=I2.newO hp (List.replicate n.toNat ys).flatten;exact k G2 _ p _ I3 (f1.trans f2) g3 h3 (r.times _) b3 n3
  ·cases hm
 ·cases hm
noncomputable def flV:D->Option V
 | .non=>some .non
 | .bl b=>some (.bl b)
 | .int i=>some (.int i)
 | .str x=>some (.str x)
 |_=>none
noncomputable def flAll:List D->Option (List V)
 |[]=>some []
 |d::ds=>(flV d).bind fun v=>(flAll ds).map (v:: ·)
theorem flV_ok {x v:V}{d:D}(r:RepD K G x d)(e:flV d=some v):x=v/\zkz v=true:=by
 cases d<;>simp only[flV]at e<;>cases e<;>exact⟨r,rfl⟩
theorem zoZ:∀{ys xs:List V} {ds:List D},RepL K G ys ds->flAll ds=some xs->ys=xs/\xs.all zkz=true
 |ys,xs,[],r,e=>by cases e;cases(show ys=[]from r);exact⟨rfl,rfl⟩
 |ys,xs,d::ds,r,e=>by
  obtain⟨y,zs,rfl,ry,rz⟩:=r;obtain⟨v,e1,e⟩:=zae e;obtain⟨vs,e2,rfl⟩:=zat e;obtain⟨rfl,f1⟩:=flV_ok ry e1;obtain⟨rfl,f2⟩:=zoZ rz e2;exact⟨rfl,by rw[qbn,f1,f2];rfl⟩
noncomputable def dInB (neg:Bool)(a b:D):Option D:=(flV a).bind fun x=>(zaR [b]).bind fun ds=>(flAll ds).map fun xs=> .bl (if neg then !inV x xs else inV x xs)
noncomputable def dIn:D->D->Option D:=dInB false
theorem v2_in (neg:Bool):V2 X (rIn X.K neg) (dInB neg):=by
 intro B G H σ ρ x y a b d Q I ra rb hf k;obtain⟨v,e1,hf⟩:=zae hf;obtain⟨ds,e2,hf⟩:=zae hf;obtain⟨xs,e3,rfl⟩:=zat hf;obtain⟨rfl,f1⟩:=flV_ok ra e1;obtain⟨p,ys,rfl,hq,ry⟩:=zjC I rb e2;obtain⟨rfl,f2⟩:=zoZ ry e3;exact⟨p,ys,rfl,hq,f1,f2,k G H _ I (Fz.refl G) rfl⟩
theorem bl_in (neg:Bool):∀x y d,dInB neg x y=some d->∃t,d= .bl t:=by
 intro x y d hf;obtain⟨v,e1,hf⟩:=zae hf;obtain⟨ds,e2,hf⟩:=zae hf;obtain⟨xs,e3,rfl⟩:=zat hf;exact⟨_,rfl⟩
theorem st_in {ma mb:ME}(ha:SE X a ma)(hb:SE X b mb)(hm:behindInMarks .In b=false:=by rfl):STt X (.Compare a [.In] [b] pos) (tTru (m2 dIn ma mb)):=zjb zqP (v2_in false) (bl_in false) ha hb hm
end M
namespace M
open L2 PySem PySem.Spec
open PyProof.Rows hiding St
open Sem (wp)
variable {b N i:Nat} {a it l:Addr} {t:Bool} {h h':Heap} {is xs ys:Array Value} {Q:Value->Shared->Prop}
theorem nin2 {b x y z:Nat}(h:b∈[x,y])(h1:x≠z)(h2:y≠z):b≠z:=by
 simp at h;rcases h with rfl|rfl<;>assumption
theorem nA {N a b:Nat}(h:a≠b):N+a≠N+b:=fun e=>h (qbX e)
theorem nB (h:0≠b):N≠N+b:=fun e=>h (qbX (show N+0=N+b from e))
theorem nC (h:b≠0):N+b≠N:=fun e=>h (qbX (show N+b=N+0 from e))
theorem nL {a N b:Nat}(h:a<N):a≠N+b:=qah (qaf h (Nat.le_add_right _ _))
theorem ne_ {a b:Nat}(h:a≠b):a≠b:=h
local macro_rules | `(tactic| ac_rfl) => `(tactic| first | exact M.nA (by decide) | exact M.nB (by decide) | exact M.nC (by decide) | exact M.nL (by assumption) | exact Nat.ne_of_lt (by assumption) | lia)
noncomputable def SrcIt:Bool->Heap->Addr->Addr->Nat->Prop
 |true,h,it,a,i=>h.IsTupleIter it a i
 |false,h,it,a,i=>h.IsListIter it a i
noncomputable def SrcH:Bool->Heap->Addr->Array Value->Prop
 |true,h,a,its=>h.IsTuple a its
 |false,h,a,its=>h.IsList a its
theorem SrcIt.at (x:SrcIt t h it a i)(e:∀o,h.get? it=some o->h'.get? it=some o):SrcIt t h' it a i:=by
 cases t
 ·exact Heap.IsListIter.at x e
 ·exact Heap.IsTupleIter.at x e
theorem SrcH.at (x:SrcH t h a is)(e:∀o,h.get? a=some o->h'.get? a=some o):SrcH t h' a is:=by
 cases t
 ·exact Heap.IsList.at x e
 ·obtain⟨o,ho,r⟩:=x;exact⟨o,e _ ho,r⟩
theorem SrcIt.obj (x:SrcIt t h it a i):∃o,h.get? it=some o/\∀v,o.data≠ .cell v:=by
 cases t<;>(obtain⟨o,e,c,d⟩:=x;exact⟨o,e,fun v z=>by rw[d]at z;cases z⟩)
theorem SrcH.lt (x:SrcH t h a is):a<h.objs.size:=by
 cases t<;>(obtain⟨o,e,_⟩:=x;exact qae e)
section
variable {prog:Program} {w:World} {A:Around} {E:Value->Shared->Prop} {s:Shared}
theorem zoU {items}(hit:s.heap.IsTupleIter it l i)(hl:s.heap.IsTuple l items)
  (k : (∃ x, items[i]? = some x /\ ∀ h', h'.IsTupleIter it l (i + 1) -> Heap.SameBut it s.heap h' -> Q x { s with heap := h' }) \/
   (items[i]? =none/\A.handled=none/\∀h' e,Heap.ExtBut it s.heap h'->(∃o,h'.get? e=some o/\o.cls= .type "StopIteration")->E (.ref e) {s with heap:=h'})):
  wpAny (model prog w) A (Builtin.SmallTypes.nextOf (.ref it)) Q E s:=by
 obtain⟨o,ho,hc,hd⟩:=id hit;obtain⟨ol,hol,-,nl,hdl⟩:=hl;have ne:¬((Value.ref l==Value.none)=true):=qaH;unfold Builtin.SmallTypes.nextOf;refine qaz (qbf (name:=Str.ofString "__next__") hit.typeIs slot_tupleiter_next (qbh slot_tupleiter_next hit.typeIs entry_tupleiter_next ?_ (args_tupleiter_next _)));refine(?_:wpAny _ _ (field (.ref it) 0>>=_) _ _ s);refine qaz (qbd ho hd (x:= .ref l) rfl (?_:wpAny _ _ (if(Value.ref l==Value.none)=true then _ else _) _ _ s));rw[if_neg ne];refine(?_:wpAny _ _ (field (.ref it) 1>>=_) _ _ s);refine qaz (qbd ho hd (x:= .int i 0) rfl (?_:wpAny _ _ (seqItems? (.ref l)>>=_) _ _ s));refine qaz (qbY hol hdl ?_);rcases k with⟨x,hx,k⟩|⟨hx,hh,k⟩<;>simp only[qbb,hx]
 ·have upd:∀h':Heap,h'.get? it=some (o.mapFields fun a=>a.setIfInBounds 1 (rawInt (((i:Nat):Int)+1)))->h'.IsTupleIter it l (i+1):=fun h' e=>⟨_,e,(Obj.cls_mapFields ..).trans hc,by rw[qbZ hd];simp[rawInt]⟩
  refine qaz (wpAny_setField ho hd (by simp) (qaC ⟨x,rfl,qaC (k _ ?_ (qb0 ..))⟩));refine⟨_,qbk _ ho (Obj.isFreed_of_fields (qbZ hd _)),(Obj.cls_mapFields ..).trans hc,?_⟩;rw[qbZ hd];simp[rawInt]
 ·refine qaz (qaF (qaz (wpAny_setField ho hd (by simp) (?_:wpAny _ _ (newExc (.type "StopIteration") []>>=_) _ _ _))));refine qaz ?_;simp only[newExc,newTuple];refine qaz (qaD (qaz (m:=firstArgMember _ _) (wpAny_of_eq (a:=Value.none) (by first|rfl|(simp only[firstArgMember];rfl)) (qaD ?_ (by size_fits)))) (by size_fits));simp only[raiseNew];refine qaz (wpAny_handled ?_)
  first|rw[show A.in1.handled=none from hh]|rw[hh]
  exact qaz (qaC (wpAny_throw (k _ _ (((qb0 ..).extBut.push _).push _) ⟨_,qaI _ rfl,rfl⟩)))
theorem zbx (hh:A.handled=none)(it l:Addr)(hne:l≠it)(items:Array Value):Draws prog w A it [it,l] items.size (fun i v=>items[i]? =some v) (fun i h=>SrcIt t h it l i/\SrcH t h l items):=by
 cases t
 ·exact Draws.list hh it l hne items
 ·refine⟨fun _ _ st=>?_,fun _ _ _ st hk=>⟨SrcIt.at st.1 fun o e=>hk it (by simp) o e,SrcH.at st.2 fun o e=>hk l (by simp) o e⟩,fun i s Q E hi st hQ=>?_,fun s Q E st hE=>zoU st.1 st.2 (.inr ⟨by simp,hh,hE⟩)⟩
  ·obtain⟨o,e,-⟩:=SrcIt.obj st.1;exact⟨o,e⟩
  ·exact zoU st.1 st.2 (.inl ⟨items[i],by simp[hi],fun h' a b=>hQ _ h' s.toks (by simp[hi]) ⟨a,SrcH.at st.2 fun o e=>(b.2 l hne).trans e⟩ b⟩)
noncomputable def srcO (t:Bool)(a:Addr):Obj:={cls:= .type (if t then "tuple_iterator" else "list_iterator"),data:= .fields #[.ref a,.int 0 0]}
theorem zi4 (e:h.get? it=some (srcO t a)):SrcIt t h it a 0:=by
 cases t<;>exact⟨_,e,rfl,rfl⟩
theorem zeY (t:Bool)(a:Addr):(srcO t a).isFreed=false:=by cases t<;>rfl
theorem zcM {items}(hl:SrcH t s.heap a items)(hQ:Q (.ref s.heap.objs.size) {s with heap:=s.heap.push (srcO t a)}):
  wpAny (model prog w) A (pyIter (.ref a)) Q E s:=by
 cases t
 ·exact wpAny_pyIter_list hl hQ
 ·exact qbG hl hQ
noncomputable abbrev zeM (h:Heap)(T:Addr)(a b c:Value):Prop:=h.get? T=some {cls:= .type "tuple",data:= .seq #[a,b,c]}
theorem zjJ {T:Addr}{a b c x:Value}{k:Nat}{Q:Unit->Shared->Prop}(hT:zeM s.heap T a b c)
  (h:∀h',h'.get? T=some {cls:= .type "tuple",data:= .seq ((#[a,b,c]:Array Value).setIfInBounds k x)}->Heap.SameBut T s.heap h'->Q () {s with heap:=h'}):
  wpAny (model prog w) A (updateSeq T (·.setIfInBounds k x)) Q E s:=
 wpAny_updateSeq hT rfl (h _ (by rw[qbk _ hT rfl];simp[Obj.mapSeq]) (qb0 ..))
section
variable {N a1 a2 a3:Nat} {n1 n2 n3:Nat} {P1 P2 P3:Nat->Value->Prop} {S1 S2 S3:Nat->Heap->Prop}
theorem zp1 {a b c:Value}(D1:Draws prog w A N [N,a1] n1 P1 S1)(D2:Draws prog w A (N+1) [N+1,a2] n2 P2 S2)(D3:Draws prog w A (N+2) [N+2,a3] n3 P3 S3)(l1:a1<N)(l2:a2<N)(l3:a3<N)
  (hz:IsZip s.heap (N+5) (N+3) (N+4) .none) (hTI:zeM s.heap (N+3) (.ref N) (.ref (N+1)) (.ref (N+2))) (hTO:zeM s.heap (N+4) a b c) (h1:S1 i s.heap) (h2:S2 i s.heap) (h3:S3 i s.heap) (i1:i<n1) (i2:i<n2) (i3:i<n3)
  (k : ∀ x y z h' tk, P1 i x -> P2 i y -> P3 i z -> IsZip h' (N + 5) (N + 3) (N + 4) (rawInt s.heap.objs.size) -> zeM h' (N + 4) x y z -> S1 (i + 1) h' -> S2 (i + 1) h' -> S3 (i + 1) h' -> zeM h' s.heap.objs.size x y z ->
   (∀c o,c≠N->c≠N+1->c≠N+2->c≠N+4->c≠N+5->s.heap.get? c=some o->h'.get? c=some o)->Q (.ref s.heap.objs.size) {s with heap:=h',toks:=tk}):
  wpAny (model prog w) A (Builtin.«zip.__next__» ⟨[.ref (N+5)],[]⟩) (fun fin s'=>∃v,fin= .done (.ret v)/\Q v s') E s:=by
 refine(?_:wpAny _ _ (field (.ref (N+5)) 2>>=_) _ _ _);refine qaz (qbd hz rfl (x:= .bool false) rfl (?_:wpAny _ _ (field (.ref (N+5)) 3>>=_) _ _ _));refine qaz (qbd hz rfl (x:= .ref (N+3)) rfl (qaz (qbY hTI rfl (?_:wpAny _ _ (Builtin.SmallTypes.ownedTupleIsFree (.ref (N+5))>>=_) _ _ _))));refine qaz ?_;unfold Builtin.SmallTypes.ownedTupleIsFree;refine qaz (qbd hz rfl (x:= .none) rfl (qaC ?_));simp only[if_true];refine qaz (qaF (qaz (qbd hz rfl (x:= .ref (N+4)) rfl (qaz (qb1 hz (by simp) fun g1 z1 s1=>qaz ?_)))))
 replace z1:IsZip g1 (N+5) (N+3) (N+4) .ellipsis:=z1
 simp only[qb2,qb3,qbJ,qbP];refine qaz (qaz (qb4 (?_:wpAny _ _ (Builtin.SmallTypes.nextOf (.ref N)>>=_) _ _ _)));have e1:S1 i g1:=D1.frame _ _ _ h1 fun b hb o e=>(s1.2 b (nin2 hb (by ac_rfl) (by ac_rfl))).trans e
 refine qaz (D1.item i _ _ _ i1 e1 fun x g2 t2 p1 f2 s2=>qaC ?_);have q2:zeM g2 (N+4) a b c:=(s2.2 _ (ne_ (by ac_rfl))).trans ((s1.2 _ (ne_ (by ac_rfl))).trans hTO);refine qaz (qbY q2 rfl (qaz (zjJ q2 fun g3 q3 s3=>qaz (qb5 (qaC ?_)))))
 replace q3:zeM g3 (N+4) x b c:=q3
 have k3:∀d o,d≠N->d≠N+4->d≠N+5->s.heap.get? d=some o->g3.get? d=some o:=fun d o c1 c2 c3 e=>(s3.2 d c2).trans ((s2.2 d c1).trans ((s1.2 d c3).trans e))
 refine qaz (qaz (qb4 (?_:wpAny _ _ (Builtin.SmallTypes.nextOf (.ref (N+1))>>=_) _ _ _)));have e3:S2 i g3:=D2.frame _ _ _ h2 fun b hb o e=>k3 b o (nin2 hb (by ac_rfl) (by ac_rfl)) (nin2 hb (by ac_rfl) (by ac_rfl)) (nin2 hb (by ac_rfl) (by ac_rfl)) e
 refine qaz (D2.item i _ _ _ i2 e3 fun y g4 t4 p2 f4 s4=>qaC ?_);have q4:zeM g4 (N+4) x b c:=(s4.2 _ (ne_ (by ac_rfl))).trans q3;refine qaz (qbY q4 rfl (qaz (zjJ q4 fun g5 q5 s5=>qaz (qb5 (qaC ?_)))))
 replace q5:zeM g5 (N+4) x y c:=q5
 refine qaz (qaz (qb4 (?_:wpAny _ _ (Builtin.SmallTypes.nextOf (.ref (N+2))>>=_) _ _ _)));have e5:S3 i g5:=D3.frame _ _ _ h3 fun b hb o e=>(s5.2 b (nin2 hb (by ac_rfl) (by ac_rfl))).trans ((s4.2 b (nin2 hb (by ac_rfl) (by ac_rfl))).trans (k3 b o (nin2 hb (by ac_rfl) (by ac_rfl)) (nin2 hb (by ac_rfl) (by ac_rfl)) (nin2 hb (by ac_rfl) (by ac_rfl)) e))
 refine qaz (D3.item i _ _ _ i3 e5 fun z g6 t6 p3 f6 s6=>qaC ?_);have q6:zeM g6 (N+4) x y c:=(s6.2 _ (ne_ (by ac_rfl))).trans q5;refine qaz (qbY q6 rfl (qaz (zjJ q6 fun g7 q7 s7=>qaz (qb5 (qaC (qaC ?_))))))
 replace q7:zeM g7 (N+4) x y z:=q7
 have sz:g7.objs.size=s.heap.objs.size:=by rw[s7.1,s6.1,s5.1,s4.1,s3.1,s2.1,s1.1]
 have z7:IsZip g7 (N+5) (N+3) (N+4) .ellipsis:=(s7.2 _ (ne_ (by ac_rfl))).trans ((s6.2 _ (ne_ (by ac_rfl))).trans ((s5.2 _ (ne_ (by ac_rfl))).trans ((s4.2 _ (ne_ (by ac_rfl))).trans ((s3.2 _ (ne_ (by ac_rfl))).trans ((s2.2 _ (ne_ (by ac_rfl))).trans z1)))));have zl:(N+5:Nat)<g7.objs.size:=qae z7;have k7:∀d o,d≠N->d≠N+1->d≠N+2->d≠N+4->d≠N+5->s.heap.get? d=some o->g7.get? d=some o:=fun d o c1 c2 c3 c4 c5 e=>(s7.2 d c4).trans ((s6.2 d c3).trans ((s5.2 d c4).trans ((s4.2 d c2).trans (k3 d o c1 c4 c5 e))))
 have f7:S1 (i+1) g7:=D1.frame _ _ _ f2 fun b hb o e=>(s7.2 b (nin2 hb (by ac_rfl) (by ac_rfl))).trans ((s6.2 b (nin2 hb (by ac_rfl) (by ac_rfl))).trans ((s5.2 b (nin2 hb (by ac_rfl) (by ac_rfl))).trans ((s4.2 b (nin2 hb (by ac_rfl) (by ac_rfl))).trans ((s3.2 b (nin2 hb (by ac_rfl) (by ac_rfl))).trans e))))
 have f7':S2 (i+1) g7:=D2.frame _ _ _ f4 fun b hb o e=>(s7.2 b (nin2 hb (by ac_rfl) (by ac_rfl))).trans ((s6.2 b (nin2 hb (by ac_rfl) (by ac_rfl))).trans ((s5.2 b (nin2 hb (by ac_rfl) (by ac_rfl))).trans e))
 have f7'':S3 (i+1) g7:=D3.frame _ _ _ f6 fun b hb o e=>(s7.2 b (nin2 hb (by ac_rfl) (by ac_rfl))).trans e
 refine qaz (qbY q7 rfl (qaz (qb6 (?_:wpAny _ _ (Builtin.SmallTypes.ownedTupleHandOut (.ref (N+5)) (.ref g7.objs.size)>>=_) _ _ _))));refine qaz ?_;unfold Builtin.SmallTypes.ownedTupleHandOut;refine qaz (qb1 (show IsZip (g7.push {cls:= .type "tuple",data:= .seq #[x,y,z]}) (N+5) (N+3) (N+4) .ellipsis from qaE _ z7) (by simp) fun g9 z9 s9=>?_)
 replace z9:IsZip g9 (N+5) (N+3) (N+4) (rawInt g7.objs.size):=z9
 refine qb1 z9 (by simp) fun g8 z8 s8=>qaC ⟨_,rfl,?_⟩
 replace z8:IsZip g8 (N+5) (N+3) (N+4) (rawInt g7.objs.size):=z8
 have up:∀c o,c≠N+5->g7.get? c=some o->g8.get? c=some o:=fun c o c1 e=>(s8.2 c c1).trans ((s9.2 c c1).trans (qaE _ e))
 have T8:zeM g8 g7.objs.size x y z:=(s8.2 _ (ne_ (by ac_rfl))).trans ((s9.2 _ (ne_ (by ac_rfl))).trans (qaI _ rfl));rw[sz]at z8 T8;refine(?_:Q (.ref g7.objs.size) _);rw[sz];exact k x y z g8 _ p1 p2 p3 z8 (up _ _ (ne_ (by ac_rfl)) q7) (D1.frame _ _ _ f7 fun b hb o e=>up b o (nin2 hb (by ac_rfl) (by ac_rfl)) e) (D2.frame _ _ _ f7' fun b hb o e=>up b o (nin2 hb (by ac_rfl) (by ac_rfl)) e) (D3.frame _ _ _ f7'' fun b hb o e=>up b o (nin2 hb (by ac_rfl) (by ac_rfl)) e) T8 fun c o c1 c2 c3 c4 c5 e=>up c o c5 (k7 c o c1 c2 c3 c4 c5 e)
theorem zip3_end {a b c:Value}{Q:Fin->Shared->Prop}(D1:Draws prog w A N [N,a1] n1 P1 S1)(D2:Draws prog w A (N+1) [N+1,a2] n2 P2 S2)(D3:Draws prog w A (N+2) [N+2,a3] n3 P3 S3)(l1:a1<N)(l2:a2<N)(l3:a3<N)
  (hz:IsZip s.heap (N+5) (N+3) (N+4) .none) (hTI:zeM s.heap (N+3) (.ref N) (.ref (N+1)) (.ref (N+2))) (hTO:zeM s.heap (N+4) a b c) (h1:S1 i s.heap) (h2:S2 i s.heap) (h3:S3 i s.heap) (hi:i=n1\/(i<n1/\(i=n2\/(i<n2/\i=n3))))
  (k:∀h' e tk,(∀c o,c≠N->c≠N+1->c≠N+2->c≠N+4->c≠N+5->s.heap.get? c=some o->h'.get? c=some o)->(∃o,h'.get? e=some o/\o.cls= .type "StopIteration")->E (.ref e) {s with heap:=h',toks:=tk}):
  wpAny (model prog w) A (Builtin.«zip.__next__» ⟨[.ref (N+5)],[]⟩) Q E s:=by
 refine(?_:wpAny _ _ (field (.ref (N+5)) 2>>=_) _ _ _);refine qaz (qbd hz rfl (x:= .bool false) rfl (?_:wpAny _ _ (field (.ref (N+5)) 3>>=_) _ _ _));refine qaz (qbd hz rfl (x:= .ref (N+3)) rfl (qaz (qbY hTI rfl (?_:wpAny _ _ (Builtin.SmallTypes.ownedTupleIsFree (.ref (N+5))>>=_) _ _ _))));refine qaz ?_;unfold Builtin.SmallTypes.ownedTupleIsFree;refine qaz (qbd hz rfl (x:= .none) rfl (qaC ?_));simp only[if_true];refine qaz (qaF (qaz (qbd hz rfl (x:= .ref (N+4)) rfl (qaz (qb1 hz (by simp) fun g1 z1 s1=>qaz ?_)))))
 replace z1:IsZip g1 (N+5) (N+3) (N+4) .ellipsis:=z1
 simp only[qb2,qb3,qbJ,qbP];refine qaz (qaz (qb4 (?_:wpAny _ _ (Builtin.SmallTypes.nextOf (.ref N)>>=_) _ _ _)));have e1:S1 i g1:=D1.frame _ _ _ h1 fun b hb o e=>(s1.2 b (nin2 hb (by ac_rfl) (by ac_rfl))).trans e
 rcases hi with rfl|⟨i1,hi⟩
 ·refine qaz (D1.done _ _ _ e1 fun g2 e x2 he=>?_);obtain⟨oe,hoe,hce⟩:=he;have z2:IsZip g2 (N+5) (N+3) (N+4) .ellipsis:=x2 _ _ (ne_ (by ac_rfl)) z1;have hez:e≠N+5:=fun x=>by subst x;rw[z2]at hoe;cases hoe;simp at hce
  exact qb1 z2 (by simp) fun g3 _ s3=>k g3 e _ (fun c o c1 c2 c3 c4 c5 x=>(s3.2 c c5).trans (x2 c o c1 ((s1.2 c c5).trans x))) ⟨oe,(s3.2 _ hez).trans hoe,hce⟩
 refine qaz (D1.item i _ _ _ i1 e1 fun x g2 t2 p1 f2 s2=>qaC ?_);have q2:zeM g2 (N+4) a b c:=(s2.2 _ (ne_ (by ac_rfl))).trans ((s1.2 _ (ne_ (by ac_rfl))).trans hTO);refine qaz (qbY q2 rfl (qaz (zjJ q2 fun g3 q3 s3=>qaz (qb5 (qaC ?_)))))
 replace q3:zeM g3 (N+4) x b c:=q3
 have k3:∀d o,d≠N->d≠N+4->d≠N+5->s.heap.get? d=some o->g3.get? d=some o:=fun d o c1 c2 c3 e=>(s3.2 d c2).trans ((s2.2 d c1).trans ((s1.2 d c3).trans e))
 have z3:IsZip g3 (N+5) (N+3) (N+4) .ellipsis:=(s3.2 _ (ne_ (by ac_rfl))).trans ((s2.2 _ (ne_ (by ac_rfl))).trans z1);refine qaz (qaz (qb4 (?_:wpAny _ _ (Builtin.SmallTypes.nextOf (.ref (N+1))>>=_) _ _ _)));have e3:S2 i g3:=D2.frame _ _ _ h2 fun b hb o e=>k3 b o (nin2 hb (by ac_rfl) (by ac_rfl)) (nin2 hb (by ac_rfl) (by ac_rfl)) (nin2 hb (by ac_rfl) (by ac_rfl)) e
 rcases hi with rfl|⟨i2,rfl⟩
 ·refine qaz (D2.done _ _ _ e3 fun g4 e x4 he=>?_);obtain⟨oe,hoe,hce⟩:=he;have z4:IsZip g4 (N+5) (N+3) (N+4) .ellipsis:=x4 _ _ (ne_ (by ac_rfl)) z3;have hez:e≠N+5:=fun x=>by subst x;rw[z4]at hoe;cases hoe;simp at hce
  exact qb1 z4 (by simp) fun g5 _ s5=>k g5 e _ (fun c o c1 c2 c3 c4 c5 x=>(s5.2 c c5).trans (x4 c o c2 (k3 c o c1 c4 c5 x))) ⟨oe,(s5.2 _ hez).trans hoe,hce⟩
 refine qaz (D2.item i _ _ _ i2 e3 fun y g4 t4 p2 f4 s4=>qaC ?_);have q4:zeM g4 (N+4) x b c:=(s4.2 _ (ne_ (by ac_rfl))).trans q3;refine qaz (qbY q4 rfl (qaz (zjJ q4 fun g5 q5 s5=>qaz (qb5 (qaC ?_)))));have z5:IsZip g5 (N+5) (N+3) (N+4) .ellipsis:=(s5.2 _ (ne_ (by ac_rfl))).trans ((s4.2 _ (ne_ (by ac_rfl))).trans z3);refine qaz (qaz (qb4 (?_:wpAny _ _ (Builtin.SmallTypes.nextOf (.ref (N+2))>>=_) _ _ _)));have e5:S3 i g5:=D3.frame _ _ _ h3 fun b hb o e=>(s5.2 b (nin2 hb (by ac_rfl) (by ac_rfl))).trans ((s4.2 b (nin2 hb (by ac_rfl) (by ac_rfl))).trans (k3 b o (nin2 hb (by ac_rfl) (by ac_rfl)) (nin2 hb (by ac_rfl) (by ac_rfl)) (nin2 hb (by ac_rfl) (by ac_rfl)) e))
 refine qaz (D3.done _ _ _ e5 fun g6 e x6 he=>?_);obtain⟨oe,hoe,hce⟩:=he;have z6:IsZip g6 (N+5) (N+3) (N+4) .ellipsis:=x6 _ _ (ne_ (by ac_rfl)) z5;have hez:e≠N+5:=fun x=>by subst x;rw[z6]at hoe;cases hoe;simp at hce
 exact qb1 z6 (by simp) fun g7 _ s7=>k g7 e _ (fun c o c1 c2 c3 c4 c5 x=>(s7.2 c c5).trans (x6 c o c3 ((s5.2 c c4).trans ((s4.2 c c2).trans (k3 c o c1 c4 c5 x))))) ⟨oe,(s7.2 _ hez).trans hoe,hce⟩
end
end
noncomputable abbrev tup_ (vs:Array Value):Obj:={cls:= .type "tuple",data:= .seq vs}
noncomputable abbrev zip_ (ti to:Addr):Obj:={cls:= .type "zip",data:= .fields #[.none,.bool false,.bool false,.ref ti,.ref to]}
noncomputable abbrev z2a (h:Heap)(t1 t2:Bool)(l1 l2:Addr):Heap:=(h.push (srcO t1 l1)).push (srcO t2 l2)
noncomputable abbrev z2b (h:Heap)(t1 t2:Bool)(l1 l2:Addr):Heap:=(z2a h t1 t2 l1 l2).push (tup_ #[.ref h.objs.size,.ref (h.push (srcO t1 l1)).objs.size])
noncomputable abbrev z2c (h:Heap)(t1 t2:Bool)(l1 l2:Addr):Heap:=(z2b h t1 t2 l1 l2).push (tup_ #[.none,.none])
noncomputable abbrev z2d (h:Heap)(t1 t2:Bool)(l1 l2:Addr):Heap:=(z2c h t1 t2 l1 l2).push (zip_ (z2a h t1 t2 l1 l2).objs.size (z2b h t1 t2 l1 l2).objs.size)
theorem zpk (t1 t2:Bool)(l1 l2:Addr)(xs ys:Array Value):Meets (Builtin.«zip.__new__» ⟨[.type "zip",.ref l1,.ref l2],[]⟩) (fun _ R s=>SrcH t1 s.heap l1 xs/\SrcH t2 s.heap l2 ys/\
   R (.ok (.ret (.ref (z2c s.heap t1 t2 l1 l2).objs.size))) {s with heap:=z2d s.heap t1 t2 l1 l2}):=
 .of_wp fun prog w A R s h=>by
  obtain⟨hp,g,d,tk,os⟩:=s;obtain⟨b1,b2,h⟩:=h;have hsub:=sub_zip;have L1:SrcH t1 (Shared.heap ⟨hp,g,d,tk,os⟩) l1 xs:=b1;have L2:SrcH t2 (Shared.heap ⟨hp.push (srcO t1 l1),g,d,tk,os⟩) l2 ys:=SrcH.at b2 fun o e=>qaE _ e
  wp_walk using zcM L1,zcM L2
  exact⟨_,rfl,h⟩
noncomputable abbrev z3a (h:Heap)(t1 t2 t3:Bool)(l1 l2 l3:Addr):Heap:=((h.push (srcO t1 l1)).push (srcO t2 l2)).push (srcO t3 l3)
noncomputable abbrev z3b (h:Heap)(t1 t2 t3:Bool)(l1 l2 l3:Addr):Heap:=(z3a h t1 t2 t3 l1 l2 l3).push (tup_ #[.ref h.objs.size,.ref (h.push (srcO t1 l1)).objs.size,.ref ((h.push (srcO t1 l1)).push (srcO t2 l2)).objs.size])
noncomputable abbrev z3c (h:Heap)(t1 t2 t3:Bool)(l1 l2 l3:Addr):Heap:=(z3b h t1 t2 t3 l1 l2 l3).push (tup_ #[.none,.none,.none])
noncomputable abbrev z3d (h:Heap)(t1 t2 t3:Bool)(l1 l2 l3:Addr):Heap:=(z3c h t1 t2 t3 l1 l2 l3).push (zip_ (z3a h t1 t2 t3 l1 l2 l3).objs.size (z3b h t1 t2 t3 l1 l2 l3).objs.size)
set_option maxHeartbeats 4000000 in
theorem zpt (t1 t2 t3:Bool)(l1 l2 l3:Addr)(xs ys zs:Array Value):Meets (Builtin.«zip.__new__» ⟨[.type "zip",.ref l1,.ref l2,.ref l3],[]⟩) (fun _ R s=>SrcH t1 s.heap l1 xs/\SrcH t2 s.heap l2 ys/\SrcH t3 s.heap l3 zs/\
   R (.ok (.ret (.ref (z3c s.heap t1 t2 t3 l1 l2 l3).objs.size))) {s with heap:=z3d s.heap t1 t2 t3 l1 l2 l3}):=
 .of_wp fun prog w A R s h=>by
  obtain⟨hp,g,d,tk,os⟩:=s;obtain⟨b1,b2,b3,h⟩:=h;have hsub:=sub_zip;have L1:SrcH t1 (Shared.heap ⟨hp,g,d,tk,os⟩) l1 xs:=b1;have L2:SrcH t2 (Shared.heap ⟨hp.push (srcO t1 l1),g,d,tk,os⟩) l2 ys:=SrcH.at b2 fun o e=>qaE _ e
  have L3:SrcH t3 (Shared.heap ⟨(hp.push (srcO t1 l1)).push (srcO t2 l2),g,d,tk,os⟩) l3 zs:=SrcH.at b3 fun o e=>qaE _ (qaE _ e)
  wp_walk using zcM L1,zcM L2,zcM L3
  exact⟨_,rfl,h⟩
theorem zk3 (a b c:Value):checkTypeCall "zip" ⟨[a,b,c],[]⟩=pure ():=by kernel_rfl
theorem zm9 (a b c:Value):checkBuiltinCall "zip.__new__" ⟨[.type "zip",a,b,c],[]⟩=pure ():=by kernel_rfl
theorem zpl (a b c d:Value):argsOk "object.__init__" ⟨[a,b,c,d],[]⟩:=by
 unfold argsOk;rw[signature?_of (id:="object.__init__") (n:=['_','_','t','i','n','i','_','_']) (o:=['t','c','e','j','b','o']) (by kernel_rfl) F.owner_object];kernel_rfl
section
variable {prog:Program} {w:World} {A:Around} {E:Value->Shared->Prop} {s:Shared}
theorem zqW {t1 t2:Bool}{l1 l2:Addr}(h1:SrcH t1 s.heap l1 xs)(h2:SrcH t2 s.heap l2 ys)
  (k : ∀ h', IsZip h' (s.heap.objs.size + 4) (s.heap.objs.size + 2) (s.heap.objs.size + 3) .none -> IsPair h' (s.heap.objs.size + 2) (.ref s.heap.objs.size) (.ref (s.heap.objs.size + 1)) ->
   IsPair h' (s.heap.objs.size+3) .none .none->SrcIt t1 h' s.heap.objs.size l1 0->SrcIt t2 h' (s.heap.objs.size+1) l2 0->
   (∀c o,s.heap.get? c=some o->h'.get? c=some o)->Q (.ref (s.heap.objs.size+4)) {s with heap:=h'}):wpAny (model prog w) A (call (.type "zip") [.ref l1,.ref l2]) Q E s:=by
 refine callType_new F.called_zip (by decide) (F.typeCall_zip_2 _ _) (F.newCall_zip_2 _ _) (fun obj=>F.args_object_init_3 obj _ _) F.entry_zip_new (zpk t1 t2 l1 l2 xs ys) ⟨h1,h2,(?_:_/\_)⟩;have y1:(s.heap.push (srcO t1 l1)).objs.size=s.heap.objs.size+1:=qbO ..;have y2:(z2a s.heap t1 t2 l1 l2).objs.size=s.heap.objs.size+2:=by rw[qbO,y1]
 have y3:(z2b s.heap t1 t2 l1 l2).objs.size=s.heap.objs.size+3:=by rw[qbO,y2]
 have y4:(z2c s.heap t1 t2 l1 l2).objs.size=s.heap.objs.size+4:=by rw[qbO,y3]
 have g5:(z2d s.heap t1 t2 l1 l2).get? (z2c s.heap t1 t2 l1 l2).objs.size=some _:=qaI _ rfl;have g4:(z2d s.heap t1 t2 l1 l2).get? (z2b s.heap t1 t2 l1 l2).objs.size=some _:=qaE _ (qaI _ rfl);have g3:(z2d s.heap t1 t2 l1 l2).get? (z2a s.heap t1 t2 l1 l2).objs.size=some _:=qaE _ (qaE _ (qaI _ rfl));have g2:(z2d s.heap t1 t2 l1 l2).get? (s.heap.push (srcO t1 l1)).objs.size=some (srcO t2 l2):=qaE _ (qaE _ (qaE _ (qaI _ (zeY ..))));have g1:(z2d s.heap t1 t2 l1 l2).get? s.heap.objs.size=some (srcO t1 l1):=qaE _ (qaE _ (qaE _ (qaE _ (qaI _ (zeY ..)))));rw[y2,y3,y4]at g5;rw[y1,y2]at g3;rw[y3]at g4;rw[y1]at g2;rw[y4];exact⟨⟨_,g5,rfl⟩,k _ g5 g3 g4 (zi4 g1) (zi4 g2) fun c o x=>qaE _ (qaE _ (qaE _ (qaE _ (qaE _ x))))⟩
theorem zqj {t1 t2 t3:Bool}{l1 l2 l3:Addr}{xs ys zs:Array Value}(h1:SrcH t1 s.heap l1 xs)(h2:SrcH t2 s.heap l2 ys)(h3:SrcH t3 s.heap l3 zs)
  (k : ∀ h', IsZip h' (s.heap.objs.size + 5) (s.heap.objs.size + 3) (s.heap.objs.size + 4) .none -> zeM h' (s.heap.objs.size + 3) (.ref s.heap.objs.size) (.ref (s.heap.objs.size + 1)) (.ref (s.heap.objs.size + 2)) ->
   zeM h' (s.heap.objs.size+4) .none .none .none->SrcIt t1 h' s.heap.objs.size l1 0->SrcIt t2 h' (s.heap.objs.size+1) l2 0->SrcIt t3 h' (s.heap.objs.size+2) l3 0->
   (∀c o,s.heap.get? c=some o->h'.get? c=some o)->Q (.ref (s.heap.objs.size+5)) {s with heap:=h'}):wpAny (model prog w) A (call (.type "zip") [.ref l1,.ref l2,.ref l3]) Q E s:=by
 refine callType_new F.called_zip (by decide) (zk3 _ _ _) (zm9 _ _ _) (fun obj=>zpl obj _ _ _) F.entry_zip_new (zpt t1 t2 t3 l1 l2 l3 xs ys zs) ⟨h1,h2,h3,(?_:_/\_)⟩;have y1:(s.heap.push (srcO t1 l1)).objs.size=s.heap.objs.size+1:=qbO ..;have y2:((s.heap.push (srcO t1 l1)).push (srcO t2 l2)).objs.size=s.heap.objs.size+2:=by rw[qbO,y1]
 have y3:(z3a s.heap t1 t2 t3 l1 l2 l3).objs.size=s.heap.objs.size+3:=by rw[qbO,y2]
 have y4:(z3b s.heap t1 t2 t3 l1 l2 l3).objs.size=s.heap.objs.size+4:=by rw[qbO,y3]
 have y5:(z3c s.heap t1 t2 t3 l1 l2 l3).objs.size=s.heap.objs.size+5:=by rw[qbO,y4]
 have g6:(z3d s.heap t1 t2 t3 l1 l2 l3).get? (z3c s.heap t1 t2 t3 l1 l2 l3).objs.size=some _:=qaI _ rfl;have g5:(z3d s.heap t1 t2 t3 l1 l2 l3).get? (z3b s.heap t1 t2 t3 l1 l2 l3).objs.size=some _:=qaE _ (qaI _ rfl);have g4:(z3d s.heap t1 t2 t3 l1 l2 l3).get? (z3a s.heap t1 t2 t3 l1 l2 l3).objs.size=some _:=qaE _ (qaE _ (qaI _ rfl));have g3:(z3d s.heap t1 t2 t3 l1 l2 l3).get? ((s.heap.push (srcO t1 l1)).push (srcO t2 l2)).objs.size=some (srcO t3 l3):=qaE _ (qaE _ (qaE _ (qaI _ (zeY ..))));have g2:(z3d s.heap t1 t2 t3 l1 l2 l3).get? (s.heap.push (srcO t1 l1)).objs.size=some (srcO t2 l2):=qaE _ (qaE _ (qaE _ (qaE _ (qaI _ (zeY ..)))));have g1:(z3d s.heap t1 t2 t3 l1 l2 l3).get? s.heap.objs.size=some (srcO t1 l1):=qaE _ (qaE _ (qaE _ (qaE _ (qaE _ (qaI _ (zeY ..))))));rw[y3,y4,y5]at g6;rw[y1,y2,y3]at g4;rw[y4]at g5;rw[y2]at g3;rw[y1]at g2;rw[y5];exact⟨⟨_,g6,rfl⟩,k _ g6 g4 g5 (zi4 g1) (zi4 g2) (zi4 g3) fun c o x=>qaE _ (qaE _ (qaE _ (qaE _ (qaE _ (qaE _ x)))))⟩
noncomputable abbrev en_ (it:Addr):Obj:={cls:= .type "enumerate",data:= .fields #[.none,.bool false,.ref it,rawInt 0,.none,.none]}
theorem zpe (t:Bool)(l:Addr)(o:Obj)(xs:Array Value):Meets (Builtin.«enumerate.__new__» ⟨[.type "enumerate",.ref l],[]⟩) (fun _ R s=>s.heap.get? l=some o/\SrcH t s.heap l xs/\
   R (.ok (.ret (.ref (s.heap.push (srcO t l)).objs.size))) {s with heap:=(s.heap.push (srcO t l)).push (en_ s.heap.objs.size)}):=
 .of_wp fun prog w A R s h=>by
  obtain⟨hp,g,d,tk,os⟩:=s;obtain⟨hl,b,h⟩:=h;have hsub:=sub_enumerate;have hL:SrcH t (Shared.heap ⟨hp,g,d,tk,os⟩) l xs:=b
  wp_walk using qb7 hl
  refine wpAny_stack_any fun st=>qaC ?_
  split
  ·rename_i c _ _ _ _ _;cases(c==Value.type "enumerate")<;>(wp_walk using qb7 hl,zcM hL;exact⟨_,rfl,h⟩)
  ·wp_walk using qb7 hl,zcM hL
   exact⟨_,rfl,h⟩
theorem zrS (h1:SrcH t s.heap l xs)
  (k:∀h',IsEnum h' (s.heap.objs.size+1) s.heap.objs.size 0 .none->SrcIt t h' s.heap.objs.size l 0->(∀b o,s.heap.get? b=some o->h'.get? b=some o)->Q (.ref (s.heap.objs.size+1)) {s with heap:=h'}):
  wpAny (model prog w) A (call (.type "enumerate") [.ref l]) Q E s:=by
 have⟨o,ho⟩:∃o,s.heap.get? l=some o:=by cases t<;>(obtain⟨o,e,-⟩:=h1;exact⟨o,e⟩)
 refine callType_new F.called_enumerate (by decide) (F.typeCall_enumerate_1 _) (F.newCall_enumerate_1 _) (fun obj=>F.args_object_init_2 obj _) F.entry_enumerate_new (zpe t l o xs) ⟨ho,h1,(?_:_/\_)⟩;have y1:(s.heap.push (srcO t l)).objs.size=s.heap.objs.size+1:=qbO ..;have g2:((s.heap.push (srcO t l)).push (en_ s.heap.objs.size)).get? (s.heap.push (srcO t l)).objs.size=some _:=qaI _ rfl;have g1:((s.heap.push (srcO t l)).push (en_ s.heap.objs.size)).get? s.heap.objs.size=some (srcO t l):=qaE _ (qaI _ (zeY ..));rw[y1]at g2;rw[y1];exact⟨⟨_,g2,rfl⟩,k _ g2 (zi4 g1) fun b o x=>qaE _ (qaE _ x)⟩
end
end M
namespace M
local macro_rules | `(tactic| ac_rfl) => `(tactic| first | exact M.nA (by decide) | exact M.nB (by decide) | exact M.nC (by decide) | exact M.nL (by assumption) | exact Nat.ne_of_lt (by assumption) | lia)
open L2 PySem PySem.Spec
open PyProof.Rows hiding St
open Sem (wp)
variable {t' ek:Nat} {h':Heap} {fp:List Addr} {vs xs:List V} {its:List Value} {t:Bool} {X:Cx} {pins:List (Addr×Obj)} {σ:St} {H:Hp} {s:Shared} {a:Expr} {K:W.Frag} {elts:List Expr} {ep p pos:Pos} {ta:TA} {es:List D} {ma:MA}
section
variable {X:Cx} {pins:List (Addr×Obj)} {σ:St} {H:Hp} {s:Shared}
theorem zlh (I:Inv X pins σ H s)(k:∀b o,b∉fp->s.heap.get? b=some o->h'.get? b=some o)(hf:∀b∈fp,FpOk X pins H b):Inv X pins σ H {s with heap:=h',toks:=t'}:=by
 have nit:∀b u,H b=some u->b∉fp:=fun b u e z=>by rw[(hf b z).1]at e;cases e
 refine I.step (g':=s.gens) (d':=s.drawn) (ch:=fp) (fun b hb=>?_) (fun b o _ _ hc e _=>k b o hc e) (fun b o _ _ hc e _=>⟨o.slots,k b o hc e⟩) (fun _ _ _ _ n=>n)
  (fun b o hc e=>⟨o,k b o hc e⟩) (fun _ _ e=>e) (fun _ _ _ e=>e) (fun b ps e=>⟨#[],by rw[e];simp⟩) (fun m hm=>?_) (fun b u e=>?_) I.bare
 ·obtain⟨f0,f1,f2,f3,f4,f5⟩:=hf b hb;exact⟨f3,f1,f4,f5⟩
 ·obtain⟨o,es,ep,ho,r⟩:=hm;exact⟨o,es,ep,k _ o (fun z=>(hf _ z).2.1 rfl) ho,r⟩
 ·refine(I.hok b u e).stay (fun c v hc q=>k c v ?_ q) (fun _ q=>q) fun _ _ q=>q
  rcases hc with z|z
  ·rw[z];exact nit b u e
  ·exact nit c _ z
theorem znu {t':Nat}{h':Heap}{fp:List Addr}(I:Inv X pins σ H s)(k:∀b o,b∉fp->s.heap.get? b=some o->h'.get? b=some o)(hf:∀b∈fp,FpOk X pins H b)(hl:∀b∈fp,b<s.heap.objs.size)
  (hT:h'.get? s.heap.objs.size=some (tup_ its.toArray)) (hz:vs.length<=sizeLine) (r:Vals vs its):Inv X pins σ (upd H s.heap.objs.size (.tup vs)) {s with heap:=h',toks:=t'}:=by
 have I1:=I.laid (t':=s.toks) (a:=s.heap.objs.size) (o:= .tup vs) (h':=s.heap.push (tup_ its.toArray)) (fun b u q=>qaE _ q) (qaJ _) ⟨hz,its,r,IsTup.new _ _⟩;refine zlh (s:={s with heap:=s.heap.push (tup_ its.toArray),toks:=s.toks}) (t':=t') (fp:=fp) I1 (fun b o hb e=>?_) fun b hb=>?_
 ·have e':(s.heap.push (tup_ its.toArray)).get? b=some o:=e;rcases Heap.get?_push_cases e' with⟨rfl,rfl⟩|q
  ·exact hT
  ·exact k b o hb q
 ·obtain⟨f0,fr⟩:=hf b hb;refine⟨?_,fr⟩;rw[zav (qah (hl b hb))];exact f0
end
noncomputable def SrcSq (t:Bool)(K:W.Frag)(H:Hp)(a:Addr)(xs:List V):Prop:=match t with
 |true=>SqT K H a xs
 |false=>SqL K H a xs
theorem SrcSq.heap {a:Addr}(I:Inv X pins σ H s)(h:SrcSq t X.K H a xs):∃its:List Value,Vals xs its/\SrcH t s.heap a its.toArray/\xs.length<=sizeLine:=by
 cases t
 ·obtain⟨its,r,p,z⟩:=I.list h;exact⟨its,r,p.isList,z⟩
 ·obtain⟨its,r,p,z⟩:=I.tuple h;exact⟨its,r,p,z⟩
theorem SrcSq.inj {a:Addr}{xs ys:List V}(I:Inv X pins σ H s)(h:SrcSq t X.K H a xs)(h':SrcSq t X.K H a ys):xs=ys:=by
 cases t
 ·exact I.list_inj h h'
 ·exact I.tuple_inj h h'
noncomputable def Itz2 (K:W.Frag)(t1:Bool)(a1:Addr)(t2:Bool)(a2:Addr)(n:Nat):It where
 go:=fun i H=>i<n/\∃xs ys,SrcSq t1 K H a1 xs/\SrcSq t2 K H a2 ys/\n=min xs.length ys.length
 yld:=fun i H x H'=>∃p x1 x2,H p=none/\H'=upd H p (.tup [x1,x2])/\x= .ref p/\∀xs ys,SrcSq t1 K H a1 xs->SrcSq t2 K H a2 ys->xs[i]? =some x1/\ys[i]? =some x2
 stop:=fun i H=>n<=i/\∃xs ys,SrcSq t1 K H a1 xs/\SrcSq t2 K H a2 ys/\n=min xs.length ys.length
theorem nin4 {c N:Nat}(h:c∉([N,N+1,N+2,N+3,N+4]:List Nat)):c≠N/\c≠N+1/\c≠N+3/\c≠N+4:=
 ⟨fun e=>h (e ▸ .head _),fun e=>h (e ▸ .tail _ (.head _)),fun e=>h (e ▸ .tail _ (.tail _ (.tail _ (.head _)))),fun e=>h (e ▸ .tail _ (.tail _ (.tail _ (.tail _ (.head _)))))⟩
theorem nin5 {c N:Nat}(h:c∉([N,N+1,N+2,N+3,N+4,N+5]:List Nat)):c≠N/\c≠N+1/\c≠N+2/\c≠N+4/\c≠N+5:=
 ⟨fun e=>h (e ▸ .head _),fun e=>h (e ▸ .tail _ (.head _)),fun e=>h (e ▸ .tail _ (.tail _ (.head _))),fun e=>h (e ▸ .tail _ (.tail _ (.tail _ (.tail _ (.head _))))),fun e=>h (e ▸ .tail _ (.tail _ (.tail _ (.tail _ (.tail _ (.head _))))))⟩
noncomputable def Itz3 (K:W.Frag)(t1:Bool)(a1:Addr)(t2:Bool)(a2:Addr)(t3:Bool)(a3:Addr)(n:Nat):It where
 go:=fun i H=>i<n/\∃xs ys zs,SrcSq t1 K H a1 xs/\SrcSq t2 K H a2 ys/\SrcSq t3 K H a3 zs/\n=min xs.length (min ys.length zs.length)
 yld:=fun i H x H'=>∃p x1 x2 x3,H p=none/\H'=upd H p (.tup [x1,x2,x3])/\x= .ref p/\∀xs ys zs,SrcSq t1 K H a1 xs->SrcSq t2 K H a2 ys->SrcSq t3 K H a3 zs->xs[i]? =some x1/\ys[i]? =some x2/\zs[i]? =some x3
 stop:=fun i H=>n<=i/\∃xs ys zs,SrcSq t1 K H a1 xs/\SrcSq t2 K H a2 ys/\SrcSq t3 K H a3 zs/\n=min xs.length (min ys.length zs.length)
theorem zpW {P:Program}{w:World}(t1:Bool)(a1:Nat)(t2:Bool)(a2:Nat)(t3:Bool)(a3:Nat)(n N:Nat)(l1:a1<N)(l2:a2<N)(l3:a3<N):
  Turn P w K (.Tuple elts ek ep) (Itz3 K t1 a1 t2 a2 t3 a3 n) ([N,N+1,N+2,N+3,N+4,N+5]:List Nat) (N+5:Nat)
   (fun i h=>i<=n/\IsZip h (N+5:Nat) (N+3:Nat) (N+4:Nat) .none/\zeM h (N+3:Nat) (.ref N) (.ref (N+1:Nat)) (.ref (N+2:Nat))/\(∃a b c,zeM h (N+4:Nat) a b c)/\SrcIt t1 h N a1 i/\SrcIt t2 h (N+1:Nat) a2 i/\SrcIt t3 h (N+2:Nat) a3 i) where
 mem:=by simp
 obj:=fun i h st b hb=>by
  obtain⟨-,h5,h3,⟨a,c,d,h4⟩,h0,h1,h2⟩:=st;simp only[qao,qb8,or_false]at hb;rcases hb with rfl|rfl|rfl|rfl|rfl|rfl
  ·exact h0.obj
  ·exact h1.obj
  ·exact h2.obj
  ·exact⟨_,h3,fun v z=>by cases z⟩
  ·exact⟨_,h4,fun v z=>by cases z⟩
  ·exact⟨_,h5,fun v z=>by cases z⟩
 keep:=fun i h h' st k=>by
  obtain⟨hi,h5,h3,⟨a,c,d,h4⟩,h0,h1,h2⟩:=st;exact⟨hi,k _ (by simp) _ h5,k _ (by simp) _ h3,⟨a,c,d,k _ (by simp) _ h4⟩,h0.at fun o e=>k _ (by simp) o e,h1.at fun o e=>k _ (by simp) o e,h2.at fun o e=>k _ (by simp) o e⟩
 item:=by
  intro X hP hw hK hc i pins s σ H E I hf st hg;subst hP hw hK;obtain⟨hi,h5,h3,⟨a,c,d,h4⟩,h0,h1,h2⟩:=st;obtain⟨hn,xs,ys,zs,q1,q2,q3,en⟩:=hg;obtain⟨us,ru,hu,zu⟩:=q1.heap I;obtain⟨ws,rw',hw',zw⟩:=q2.heap I;obtain⟨os,ro,ho',zo⟩:=q3.heap I;have lu:=ru.length;have lw:=rw'.length;have lo:=ro.length;have D1:=zbx (prog:=X.prog) (w:=X.w) (A:=X.A.in1) (t:=t1) (I.ok.hd hc) N a1 (ne_ (by ac_rfl)) us.toArray;have D2:=zbx (prog:=X.prog) (w:=X.w) (A:=X.A.in1) (t:=t2) (I.ok.hd hc) (N+1) a2 (ne_ (by ac_rfl)) ws.toArray;have D3:=zbx (prog:=X.prog) (w:=X.w) (A:=X.A.in1) (t:=t3) (I.ok.hd hc) (N+2) a3 (ne_ (by ac_rfl)) os.toArray;have hT:s.TypeIs (.ref (N+5:Nat)) "zip":=⟨_,h5,rfl⟩;unfold pyNext;refine qaz (qb9 (qbf (name:=Str.ofString "__next__") hT qca (qbh qca hT qcb
   (zp1 D1 D2 D3 l1 l2 l3 h5 h3 h4 ⟨h0,hu⟩ ⟨h1,hw'⟩ ⟨h2,ho'⟩ (by simp;lia) (by simp;lia) (by simp;lia) fun x y z h' tk p1 p2 p3 g5 g4 g0 g1 g2 gT kk=>qaC ?_) (qcc _))))
  obtain⟨x1,hx1⟩:∃x1,xs[i]? =some x1:=⟨xs[i]'(by lia),qbD _⟩;obtain⟨x2,hx2⟩:∃x2,ys[i]? =some x2:=⟨ys[i]'(by lia),qbD _⟩;obtain⟨x3,hx3⟩:∃x3,zs[i]? =some x3:=⟨zs[i]'(by lia),qbD _⟩;obtain⟨u1,hu1,r1⟩:=ru.get hx1;obtain⟨u2,hu2,r2⟩:=rw'.get hx2;obtain⟨u3,hu3,r3⟩:=ro.get hx3;have e1:u1=x:=by
   have:us[i]? =some x:=by simpa using p1
   rw[hu1]at this;cases this;rfl
  have e2:u2=y:=by
   have:ws[i]? =some y:=by simpa using p2
   rw[hu2]at this;cases this;rfl
  have e3:u3=z:=by
   have:os[i]? =some z:=by simpa using p3
   rw[hu3]at this;cases this;rfl
  subst e1 e2 e3;refine⟨_,rfl,wpAny_letOwnedTupleGo_zip (s:={s with heap:=h',toks:=tk}) g5 fun h'' g5' sb=>?_⟩
  replace sb:Heap.SameBut (N+5:Nat) h' h'':=sb
  have lz:N+5<s.heap.objs.size:=qae h5;have kk':∀b o,b∉([N,N+1,N+2,N+3,N+4,N+5]:List Nat)->s.heap.get? b=some o->h''.get? b=some o:=fun b o hb e=>by
   obtain⟨c1,c2,c3,c4,c5⟩:=nin5 hb;exact(sb.2 b c5).trans (kk b o c1 c2 c3 c4 c5 e)
  have I1:=znu (t':=tk) (vs:=[x1,x2,x3]) (its:=[u1,u2,u3]) I kk' hf (fun b hb=>by
   have:b=N\/b=N+1\/b=N+2\/b=N+3\/b=N+4\/b=N+5:=by simpa using hb
   exact qcd (show(b:Nat)<=N+5 by rcases this with h|h|h|h|h|h<;>rw[h]<;>simp) lz) ((sb.2 _ (ne_ (by ac_rfl))).trans gT) (by simp;rw[qaN];decide) (.cons r1 (.cons r2 (.cons r3 .nil)))
  refine⟨.ref s.heap.objs.size,_,I1,rfl,⟨_,x1,x2,x3,I.hok.fresh (qaJ _),rfl,rfl,fun xs' ys' zs' b1 b2 b3=>?_⟩,⟨hn,g5',(sb.2 _ (ne_ (by ac_rfl))).trans (kk _ _ (ne_ (by ac_rfl)) (ne_ (by ac_rfl)) (ne_ (by ac_rfl)) (ne_ (by ac_rfl)) (ne_ (by ac_rfl)) h3),⟨_,_,_,(sb.2 _ (ne_ (by ac_rfl))).trans g4⟩,SrcIt.at g0.1 fun o e=>(sb.2 _ (ne_ (by ac_rfl))).trans e,SrcIt.at g1.1 fun o e=>(sb.2 _ (ne_ (by ac_rfl))).trans e,SrcIt.at g2.1 fun o e=>(sb.2 _ (ne_ (by ac_rfl))).trans e⟩,fun b hb=>?_⟩
  ·rw[SrcSq.inj I b1 q1,SrcSq.inj I b2 q2,SrcSq.inj I b3 q3];exact⟨hx1,hx2,hx3⟩
  ·have:b=N\/b=N+1\/b=N+2\/b=N+3\/b=N+4\/b=N+5:=by simpa using hb
   rw[zav (qah (qcd (show(b:Nat)<=N+5 by rcases this with h|h|h|h|h|h<;>rw[h]<;>simp) lz))]
   exact(hf b hb).1
 done:=by
  intro X hP hw hK hc i pins s σ H E I hf st hg;subst hP hw hK;obtain⟨hi,h5,h3,⟨a,c,d,h4⟩,h0,h1,h2⟩:=st;obtain⟨hn,xs,ys,zs,q1,q2,q3,en⟩:=hg;obtain⟨us,ru,hu,zu⟩:=q1.heap I;obtain⟨ws,rw',hw',zw⟩:=q2.heap I;obtain⟨os,ro,ho',zo⟩:=q3.heap I;have lu:=ru.length;have lw:=rw'.length;have lo:=ro.length;have D1:=zbx (prog:=X.prog) (w:=X.w) (A:=X.A.in1) (t:=t1) (I.ok.hd hc) N a1 (ne_ (by ac_rfl)) us.toArray;have D2:=zbx (prog:=X.prog) (w:=X.w) (A:=X.A.in1) (t:=t2) (I.ok.hd hc) (N+1) a2 (ne_ (by ac_rfl)) ws.toArray;have D3:=zbx (prog:=X.prog) (w:=X.w) (A:=X.A.in1) (t:=t3) (I.ok.hd hc) (N+2) a3 (ne_ (by ac_rfl)) os.toArray;have hT:s.TypeIs (.ref (N+5:Nat)) "zip":=⟨_,h5,rfl⟩;unfold pyNext;refine qaz (qb9 (qbf (name:=Str.ofString "__next__") hT qca (qbh qca hT qcb
   (zip3_end D1 D2 D3 l1 l2 l3 h5 h3 h4 ⟨h0,hu⟩ ⟨h1,hw'⟩ ⟨h2,ho'⟩ (by simp;lia) fun h' e tk kk he=>?_) (qcc _))))
  obtain⟨o,ho,hce⟩:=he;refine qaz (wpAny_isInstance (T:="StopIteration") (b:=true) ⟨o,ho,hce⟩ isSubtype_stop (qaC ⟨rfl,zlh I (fun b o hb e=>?_) hf⟩));obtain⟨c1,c2,c3,c4,c5⟩:=nin5 hb;exact kk b o c1 c2 c3 c4 c5 e
 self:=fun _ _ _ _ _ st h=>wpAny_pyIter_zip st.2.1 h
noncomputable def Ite (K:W.Frag)(t1:Bool)(a1:Addr)(n:Nat):It where
 go:=fun i H=>i<n/\∃xs,SrcSq t1 K H a1 xs/\n=xs.length
 yld:=fun i H x H'=>∃p x1,H p=none/\H'=upd H p (.tup [.int i,x1])/\x= .ref p/\∀xs,SrcSq t1 K H a1 xs->xs[i]? =some x1
 stop:=fun i H=>n<=i/\∃xs,SrcSq t1 K H a1 xs/\n=xs.length
theorem zpX {P:Program}{w:World}(t1:Bool)(a1:Nat)(n N:Nat)(l1:a1<N):
  Turn P w K (.Tuple elts ek ep) (Ite K t1 a1 n) ([N+1,N]:List Nat) (N+1:Nat) (fun i h=>i<=n/\(∃old,IsEnum h (N+1:Nat) N i old)/\SrcIt t1 h N a1 i) where
 mem:=by simp
 obj:=fun i h st b hb=>by
  obtain⟨-,⟨old,h1⟩,h0⟩:=st;simp only[qao,qb8,or_false]at hb;rcases hb with rfl|rfl
  ·exact⟨_,h1,fun v z=>by cases z⟩
  ·exact h0.obj
 keep:=fun i h h' st k=>by
  obtain⟨hi,⟨old,h1⟩,h0⟩:=st;exact⟨hi,⟨old,k _ (by simp) _ h1⟩,h0.at fun o e=>k _ (by simp) o e⟩
 item:=by
  intro X hP hw hK hc i pins s σ H E I hf st hg;subst hP hw hK;obtain⟨hi,⟨old,h1⟩,h0⟩:=st;obtain⟨hn,xs,q1,en⟩:=hg;obtain⟨us,ru,hu,zu⟩:=q1.heap I;have lu:=ru.length;have D1:=zbx (prog:=X.prog) (w:=X.w) (A:=X.A.in1) (t:=t1) (I.ok.hd hc) N a1 (ne_ (by ac_rfl)) us.toArray;refine wpAny_pyNext_enum_itemD D1 h1 ⟨h0,hu⟩ (by simp;lia) (ne_ (by ac_rfl)) (fun z=>nin2 (z:=N+1) z (by lia) (by lia) rfl) fun x h' tk p1 ho g0 gT gz kk=>?_
  obtain⟨x1,hx1⟩:∃x1,xs[i]? =some x1:=⟨xs[i]'(by lia),qbD _⟩;obtain⟨u1,hu1,r1⟩:=ru.get hx1;have e1:u1=x:=by
   have:us[i]? =some x:=by simpa using p1
   rw[hu1]at this;cases this;rfl
  subst e1;refine⟨_,rfl,wpAny_letOwnedTupleGo_enum (s:={s with heap:=h',toks:=tk+1}) ho fun h'' he' sb=>?_⟩
  replace sb:Heap.SameBut (N+1:Nat) h' h'':=sb
  have lz:N+1<s.heap.objs.size:=qae h1;have kk':∀b o,b∉([N+1,N]:List Nat)->s.heap.get? b=some o->h''.get? b=some o:=fun b o hb e=>
   (sb.2 b fun z=>hb (by simp[z])).trans (kk b o (fun z=>hb (by simp[z])) (fun z=>hb (by simp[z])) e)
  have I1:=znu (t':=tk+1) (vs:=[.int i,x1]) (its:=[.int i tk,u1]) I kk' hf (fun b hb=>by
   have:b=N+1\/b=N:=by simpa using hb
   exact qcd (show(b:Nat)<=N+1 by rcases this with h|h<;>rw[h]<;>simp) lz) ((sb.2 _ (ne_ (by ac_rfl))).trans gT) (by simp;rw[qaN];decide) (.cons ⟨_,rfl⟩ (.cons r1 .nil))
  refine⟨.ref s.heap.objs.size,_,I1,rfl,⟨_,x1,I.hok.fresh (qaJ _),rfl,rfl,fun xs' b1=>?_⟩,⟨hn,⟨_,by simpa using he'⟩,SrcIt.at g0.1 fun o e=>(sb.2 _ (ne_ (by ac_rfl))).trans e⟩,fun b hb=>?_⟩
  ·rw[SrcSq.inj I b1 q1];exact hx1
  ·have:b=N+1\/b=N:=by simpa using hb
   rw[zav (qah (qcd (show(b:Nat)<=N+1 by rcases this with h|h<;>rw[h]<;>simp) lz))]
   exact(hf b hb).1
 done:=by
  intro X hP hw hK hc i pins s σ H E I hf st hg;subst hP hw hK;obtain⟨hi,⟨old,h1⟩,h0⟩:=st;obtain⟨hn,xs,q1,en⟩:=hg;obtain⟨us,ru,hu,zu⟩:=q1.heap I;have lu:=ru.length;have D1:=zbx (prog:=X.prog) (w:=X.w) (A:=X.A.in1) (t:=t1) (I.ok.hd hc) N a1 (ne_ (by ac_rfl)) us.toArray;have W:=WalksT.enumerateD D1 (N+1:Nat) (ne_ (by ac_rfl)) (fun z=>nin2 (z:=N+1) z (by lia) (by lia) rfl) (by simp);have ei:i=us.toArray.size:=by simp;lia
  subst ei;exact W.done s _ _ ⟨⟨old,h1⟩,h0,hu⟩ fun h' tk kk=>⟨rfl,zlh I kk hf⟩
 self:=fun _ _ _ _ _ st h=>by
  obtain⟨hi,⟨old,h1⟩,h0⟩:=st;exact wpAny_pyIter_enum h1 h
theorem zoW:bootBuiltins "zip"=some (.type "zip"):=by decide+kernel
theorem zkx:bootBuiltins "enumerate"=some (.type "enumerate"):=by decide+kernel
section
variable {X:Cx} {elts:List Expr} {ek:Nat} {ep:Pos}
theorem pi_zip3 {a b c:Expr}(hg:Gl X "zip")(hm:X.mg "zip"=none)(ha:PA X [a,b,c] ta)(hs:starEach [a,b,c] X.env=(false,eval a X.env)::starEach [b,c] X.env:=by rfl)(hs2:(backTo pos (starEach [b,c] X.env)).any (·.1)=false:=by rfl):
  PI X (.Tuple elts ek ep) (.Call (.Name "zip" p) [a,b,c] [] pos) (fun σ H R=>ta σ H fun vs H1=>∃t1 a1 xs t2 a2 ys t3 a3 zs,vs=[.ref a1,.ref a2,.ref a3]/\SrcSq t1 X.K H1 a1 xs/\SrcSq t2 X.K H1 a2 ys/\SrcSq t3 X.K H1 a3 zs/\R (Itz3 X.K t1 a1 t2 a2 t3 a3 (min xs.length (min ys.length zs.length))) H1):=by
 intro pins s σ H R I h;refine Call_ (ziy I hg hm zoW (qaK (thn (ha pos pins s σ H _ I h) fun us s1 ⟨vs,H1,I1,r1,q1⟩=>?_) hs hs2));obtain⟨t1,a1,xs,t2,a2,ys,t3,a3,zs,e,q1,q2,q3,q⟩:=q1;subst e;cases r1 with
 |cons r rr=>
  cases rr with
  |cons r' rr=>
   cases rr with
   |cons r'' rr=>
    cases rr;cases r;cases r';cases r'';obtain⟨us,ru,hu,-⟩:=q1.heap I1;obtain⟨ws,rw',hw',-⟩:=q2.heap I1;obtain⟨os,ro,ho',-⟩:=q3.heap I1;refine zqj hu hw' ho' fun h' g5 g3 g4 g0 g1 g2 kk=>wpAny_pyIter_zip g5 ⟨_,_,_,_,H1,rfl,I1.kept (t':=s1.toks) kk,zpW t1 a1 t2 a2 t3 a3 (min xs.length (min ys.length zs.length)) s1.heap.objs.size hu.lt hw'.lt ho'.lt,⟨qbv _,g5,g3,⟨_,_,_,g4⟩,g0,g1,g2⟩,fun b hb=>?_,q⟩
    have:b=s1.heap.objs.size\/b=s1.heap.objs.size+1\/b=s1.heap.objs.size+2\/b=s1.heap.objs.size+3\/b=s1.heap.objs.size+4\/b=s1.heap.objs.size+5:=by simpa using hb
    have le:s1.heap.objs.size<=b:=by rcases this with h|h|h|h|h|h<;>rw[h]<;>simp
    exact I1.fpOk le (I1.hok.fresh le)
theorem pi_enum (hg:Gl X "enumerate")(hm:X.mg "enumerate"=none)(ha:PA X [a] ta)(hs:starEach [a] X.env=(false,eval a X.env)::starEach [] X.env:=by rfl)(hs2:(backTo pos (starEach [] X.env)).any (·.1)=false:=by rfl):
  PI X (.Tuple elts ek ep) (.Call (.Name "enumerate" p) [a] [] pos) (fun σ H R=>ta σ H fun vs H1=>∃t1 a1 xs,vs=[.ref a1]/\SrcSq t1 X.K H1 a1 xs/\R (Ite X.K t1 a1 xs.length) H1):=by
 intro pins s σ H R I h;refine Call_ (ziy I hg hm zkx (qaK (thn (ha pos pins s σ H _ I h) fun us s1 ⟨vs,H1,I1,r1,q1⟩=>?_) hs hs2));obtain⟨t1,a1,xs,e,q1,q⟩:=q1;subst e;cases r1 with
 |cons r rr=>
  cases rr;cases r;obtain⟨us,ru,hu,-⟩:=q1.heap I1;refine zrS hu fun h' g1 g0 kk=>wpAny_pyIter_enum g1 ⟨_,_,_,_,H1,rfl,I1.kept (t':=s1.toks) kk,zpX t1 a1 xs.length s1.heap.objs.size hu.lt,⟨qbv _,⟨_,g1⟩,g0⟩,fun b hb=>?_,q⟩
  have:b=s1.heap.objs.size+1\/b=s1.heap.objs.size:=by simpa using hb
  have le:s1.heap.objs.size<=b:=by rcases this with h|h<;>rw[h]<;>simp
  exact I1.fpOk le (I1.hok.fresh le)
end
theorem zkJ {G:Hp}{x:V}{d:D}(r:RepD K G x d)(e:zaR [d]=some es):∃t a xs,x= .ref a/\(∀H,Fz G H->SrcSq t K H a xs)/\RepL K G xs es:=by
 cases d<;>simp only[zaR]at e<;>try cases e
 ·obtain⟨a,xs,rfl,ha,r⟩:=r;exact⟨false,a,xs,rfl,fun H f=>SqL.of (f _ _ ha),r⟩
 ·obtain⟨a,xs,rfl,ha,r⟩:=r;exact⟨true,a,xs,rfl,fun H f=>SqT.of (f _ _ ha),r⟩
 ·obtain⟨a,rfl,ha⟩:=r;exact⟨false,a,_,rfl,fun H f=>f.sql ha,RepL.ints _⟩
noncomputable def znY (xs ys:List D):List D:=List.zipWith (fun x y=>D.tup [x,y]) xs ys
noncomputable def znX (xs ys zs:List D):List D:=List.zipWith (fun x (p:D×D)=>D.tup [x,p.1,p.2]) xs (List.zip ys zs)
noncomputable def zn7 (xs:List D):List D:=List.zipWith (fun x (i:Nat)=>D.tup [.int i,x]) xs (List.range xs.length)
noncomputable def iZ2 (ma:MA):MA:=fun ρ=>(ma ρ).bind fun p=>match p.1 with
 |[a,b]=>(zaR [a]).bind fun xs=>(zaR [b]).bind fun ys=>some (znY xs ys,p.2)
 |_=>none
noncomputable def iZ3 (ma:MA):MA:=fun ρ=>(ma ρ).bind fun p=>match p.1 with
 |[a,b,c]=>(zaR [a]).bind fun xs=>(zaR [b]).bind fun ys=>(zaR [c]).bind fun zs=>some (znX xs ys zs,p.2)
 |_=>none
noncomputable def iEn (ma:MA):MA:=fun ρ=>(ma ρ).bind fun p=>(zaR p.1).map fun xs=>(zn7 xs,p.2)
theorem it_zip3 {a b c:Expr}(hm:X.mg "zip"=none)(ha:SA X [a,b,c] ma)(hg:Gl X "zip":=by rfl)(hs:starEach [a,b,c] X.env=(false,eval a X.env)::starEach [b,c] X.env:=by rfl)(hs2:(backTo pos (starEach [b,c] X.env)).any (·.1)=false:=by rfl):
  SIt X (.Tuple elts ek ep) (.Call (.Name "zip" p) [a,b,c] [] pos) (iZ3 ma):=by
 obtain⟨t,pa,sa⟩:=ha;refine⟨_,pi_zip3 hg hm pa hs hs2,fun B G H σ ρ ds ρ' Q I hm k=>?_⟩;obtain⟨⟨es,ρ1⟩,e1,h2⟩:=zae hm;dsimp only at h2;refine sa B G H σ ρ es ρ1 _ I e1 fun G1 H1 vs I1 f1 r1=>?_
 split at h2
 ·obtain⟨xs,ex,h2⟩:=zae h2;obtain⟨ys,ey,h2⟩:=zae h2;obtain⟨zs,ez,h2⟩:=zae h2;cases h2;obtain⟨x,us,rfl,rx,r2⟩:=r1;obtain⟨y,ws,rfl,ry,r3⟩:=r2;obtain⟨z,os,rfl,rz,r4⟩:=r3;cases(show os=[]from r4);obtain⟨t1,a1,us,rfl,s1,c1⟩:=zkJ rx ex;obtain⟨t2,a2,ws,rfl,s2,c2⟩:=zkJ ry ey;obtain⟨t3,a3,os,rfl,s3,c3⟩:=zkJ rz ez;have n1:=c1.length;have n2:=c2.length;have n3:=c3.length;refine⟨t1,a1,us,t2,a2,ws,t3,a3,os,rfl,s1 _ I1.fz,s2 _ I1.fz,s3 _ I1.fz,k _ G1 H1 I1 f1 ⟨fun H i f hi=>?_,fun H i x H' f y d e=>?_,fun H i f hi=>?_⟩⟩
  ·exact⟨by simp[znX]at hi;lia,us,ws,os,s1 _ f,s2 _ f,s3 _ f,rfl⟩
  ·obtain⟨p,x1,x2,x3,hp,eh,ex',q⟩:=y;obtain⟨q1,q2,q3⟩:=q us ws os (s1 _ f) (s2 _ f) (s3 _ f);simp only[znX,List.zip,qce]at e;have hi:i<us.length/\i<ws.length/\i<os.length:=⟨(qar.mp q1).1,(qar.mp q2).1,(qar.mp q3).1⟩;have g1:xs[i]? =some (xs[i]'(by lia)):=qbD _;have g2:ys[i]? =some (ys[i]'(by lia)):=qbD _;have g3:zs[i]? =some (zs[i]'(by lia)):=qbD _;rw[g1,g2,g3]at e;cases e;obtain⟨v1,b1,r1⟩:=c1.get g1;obtain⟨v2,b2,r2⟩:=c2.get g2;obtain⟨v3,b3,r3⟩:=c3.get g3;rw[q1]at b1;cases b1;rw[q2]at b2;cases b2;rw[q3]at b3;cases b3;exact .inr ⟨p,_,_,hp,eh,ex',rfl,⟨_,_,rfl,r1,_,_,rfl,r2,_,_,rfl,r3,rfl⟩⟩
  ·exact⟨by simp[znX]at hi;lia,us,ws,os,s1 _ f,s2 _ f,s3 _ f,rfl⟩
 ·cases h2
theorem zma (hm:X.mg "enumerate"=none)(ha:SA X [a] ma)(hg:Gl X "enumerate":=by rfl)(hs:starEach [a] X.env=(false,eval a X.env)::starEach [] X.env:=by rfl)(hs2:(backTo pos (starEach [] X.env)).any (·.1)=false:=by rfl):
  SIt X (.Tuple elts ek ep) (.Call (.Name "enumerate" p) [a] [] pos) (iEn ma):=by
 obtain⟨t,pa,sa⟩:=ha;refine⟨_,pi_enum hg hm pa hs hs2,fun B G H σ ρ ds ρ' Q I hm k=>?_⟩;obtain⟨⟨es,ρ1⟩,e1,h2⟩:=zae hm;obtain⟨xs,ex,h2⟩:=zat h2;cases h2;refine sa B G H σ ρ es ρ1 _ I e1 fun G1 H1 vs I1 f1 r1=>?_
 match es,ex,r1 with
 |[],ex,_=>cases ex
 |_::_::_,ex,_=>exact absurd ex (by simp[zaR])
 |[d],ex,r1=>
  obtain⟨x,rfl,rx⟩:=r1.one;obtain⟨t1,a1,us,rfl,s1,c1⟩:=zkJ rx ex;have n1:=c1.length;refine⟨t1,a1,us,rfl,s1 _ I1.fz,k _ G1 H1 I1 f1 ⟨fun H i f hi=>?_,fun H i x H' f y d e=>?_,fun H i f hi=>?_⟩⟩
  ·exact⟨by simp[zn7]at hi;lia,us,s1 _ f,rfl⟩
  ·obtain⟨p,x1,hp,eh,ex',q⟩:=y;have q1:=q us (s1 _ f);have hi:i<us.length:=(qar.mp q1).1;have g1:xs[i]? =some (xs[i]'(by lia)):=qbD _;simp only[zn7,qce]at e;rw[g1,show(List.range xs.length)[i]? =some i from by rw[qcf (by lia)]]at e;cases e;obtain⟨v1,b1,r1⟩:=c1.get g1;rw[q1]at b1;cases b1;exact .inr ⟨p,_,_,hp,eh,ex',rfl,⟨_,_,rfl,rfl,_,_,rfl,r1,rfl⟩⟩
  ·exact⟨by simp[zn7]at hi;lia,us,s1 _ f,rfl⟩
end M
namespace M
open L2 PySem PySem.Spec
open PyProof.Rows hiding St
variable {X:Cx} {K:W.Frag} {G H:Hp} {x:Str} {σ:St} {ρ:R} {b:Nat} {cs:List D} {l:Addr} {ys:List V} {tg':Addr->Shared->Hp->List Addr->TG} {tt:Addr->Shared->Hp->List Addr->TT} {te:Addr->Shared->Hp->List Addr->TE} {lpos pos':Pos}
theorem zoH {st:Stmt}:SS X st (fun _=>none):=⟨_,ps_never,fun B G H σ ρ fl ρ' E I hm k=>by cases hm⟩
noncomputable def isN:D->Bool
 | .non=>true
 |_=>false
theorem isN_ok {x:V}{d:D}(r:RepD K G x d):decide (x= .non)=isN d:=by
 cases d with
 |non=>cases(show x=V.non from r);rfl
 |bl b=>cases(show x=V.bl b from r);rfl
 |int i=>cases(show x=V.int i from r);rfl
 |str s=>cases(show x=V.str s from r);rfl
 |lst ds=>obtain⟨a,xs,rfl,-⟩:=r;rfl
 |tup ds=>obtain⟨a,xs,rfl,-⟩:=r;rfl
 |scr ns=>obtain⟨a,rfl,-⟩:=r;rfl
 |exc c=>obtain⟨a,C,rfl,-⟩:=r;rfl
 |dic _ _=>obtain⟨a,ys,rfl,-⟩:=r;rfl
 |dit _ _=>obtain⟨a,ys,o,xs,rfl,-⟩:=r;rfl
noncomputable def dIsN:D->D->Option D
 |a,.non=>some (.bl (isN a))
 |_,_=>none
noncomputable def znx:D->D->Option D
 |a,.non=>some (.bl (!isN a))
 |_,_=>none
theorem v2_isN:V2 X (fun x y H Q=>y= .non/\Q (.bl (decide (x= .non))) H) dIsN:=by
 intro B G H σ ρ x y a b d Q I ra rb hf k;cases b<;>simp only[dIsN]at hf<;>cases hf
 exact⟨rb,k G H _ I (Fz.refl G) (by rw[isN_ok ra];rfl)⟩
theorem v2_notN:V2 X (fun x y H Q=>y= .non/\Q (.bl (!decide (x= .non))) H) znx:=by
 intro B G H σ ρ x y a b d Q I ra rb hf k;cases b<;>simp only[znx]at hf<;>cases hf
 exact⟨rb,k G H _ I (Fz.refl G) (by rw[isN_ok ra];rfl)⟩
theorem bl_isN:∀x y d,dIsN x y=some d->∃t,d= .bl t:=by
 intro x y d hf;cases y<;>simp only[dIsN]at hf<;>cases hf
 exact⟨_,rfl⟩
theorem bl_notN:∀x y d,znx x y=some d->∃t,d= .bl t:=by
 intro x y d hf;cases y<;>simp only[znx]at hf<;>cases hf
 exact⟨_,rfl⟩
section
variable {X:Cx} {a b:Expr} {ma mb:ME} {pos:Pos}
theorem st_is (ha:SE X a ma)(hb:SE X b mb)(hm:behindInMarks .Is b=false:=by rfl):STt X (.Compare a [.Is] [b] pos) (tTru (m2 dIsN ma mb)):=zjb op_isN v2_isN bl_isN ha hb hm
theorem st_isNot (ha:SE X a ma)(hb:SE X b mb)(hm:behindInMarks .IsNot b=false:=by rfl):STt X (.Compare a [.IsNot] [b] pos) (tTru (m2 znx ma mb)):=zjb op_notN v2_notN bl_notN ha hb hm
end
noncomputable def znG (b:Nat)(ρ:R):Bool:=match ρ[b]? with
 |some (.par _)=>zen (ρ.set b .emp)
 |_=>false
noncomputable def zrX (b:Nat)(ρ:R):List D:=match ρ[b]? with
 |some (.par cs)=>cs
 |_=>[]
noncomputable def zph (b:Nat)(g:D->R->Option R)(mt:MT)(me:ME):D->R->Option (Option D×R):=fun d ρ=>(g d ρ).bind fun ρ1=>(mt ρ1).bind fun p=>if p.1 then(me p.2).bind fun q=>if znG b q.2 then some (some q.1,q.2)else none else if znG b p.2 then some (none,p.2)else none
noncomputable def oLCM (cap:List Nat)(t b w:Nat)(mi:MA)(g:D->R->Option R)(mt:MT)(me:ME):MO:=fun ρ=>(mi ρ).bind fun p=>if p.1.length<=16777216 then
    ((fzL (cap.filter (· !=w)) p.2)[w]?).bind fun s=>s.items.bind fun cs=>(zfR (zph b g mt me) p.1 ((capR cap t (fzL (cap.filter (· !=w)) p.2)).set b (.par cs))).map fun q=>(q.1,(fzL (cap.filter (· !=w)) p.2).set w (s.put (zrX b q.2)))
  else none
theorem VS.setEmp (h:VS K G σ ρ)(b:Nat):VS K G σ (ρ.set b .emp) where
 len:=by rw[qbm];exact h.len
 no:=by
  have h0:=h.no;unfold zen at*;rw[qbR]at*;intro s hs;rcases List.mem_or_eq_of_mem_set hs with z|z
  ·exact h0 s z
  ·rw[z]
 val:=fun i d e=>by
  rw[qbw]at e
  split at e
  ·split at e
   ·cases e
   ·cases e
  ·exact h.val i d e
theorem VS.siP (h:VS K G σ (ρ.set b .emp))(fz:Fz G H)(hb:ρ[b]? =some (.par cs))(hs:σ[b]? =some (some (.ref l)))(gl:G l=none)(hl:H l=some (.lst ys))(r:RepL K G ys cs):SI K ⟨G,H,[(b,l)]⟩ G H σ ρ where
 fz:=fz
 g0:=Fz.refl G
 new:=fun b o e=> .inl (by show G b≠none;rw[e];simp)
 keep:=fun b o e _=>e
 there:=fun b e=>e
 ob:=fun i c m=>by
  have:i=b/\c=l:=by simpa using m
  rw[this.2];show H l≠none;rw[hl];simp
 len:=by rw[h.len,qbm]
 slot:=fun i s e=>by
  by_cases z:i=b
  ·subst z;rw[hb]at e;cases e;exact⟨l,ys,hs,gl,hl,r,by simp⟩
  ·have e':(ρ.set b .emp)[i]? =some s:=by rw[qat (Ne.symm z)];exact e
   cases s with
   |emp=>trivial
   |two _ _=>trivial
   |tre t=>exact absurd rfl ((zjz h.no e').1 t)
   |ptr t=>exact absurd rfl ((zjz h.no e').2 t)
   |val d=>exact h.val i d e'
   |own ds=>exact absurd ⟨_,ds,e',rfl⟩ (zjy h.no (i:=i))
   |par ds=>exact absurd ⟨_,ds,e',rfl⟩ (zjy h.no (i:=i))
 dis:=fun i j s t a hij e1 e2 w1 w2=>by
  have key:∀(i:Nat) (s:Sl) ov,ρ[i]? =some s->OwS K G H ov a s->i=b:=fun i s ov e w=>by
   by_cases z:i=b
   ·exact z
   ·exact absurd w (zoz h.no (show(ρ.set b .emp)[i]? =some s by rw[qat (Ne.symm z)];exact e))
  exact hij ((key i s _ e1 w1).trans (key j t _ e2 w2).symm)
theorem VS.ofP {B:Bs}(I:SI K B G H σ ρ)(hO:B.O=[(b,l)])(h:znG b ρ=true):∃cs ys,ρ[b]? =some (.par cs)/\σ[b]? =some (some (.ref l))/\G l=none/\H l=some (.lst ys)/\RepL K G ys cs/\VS K G σ (ρ.set b .emp):=by
 unfold znG at h
 split at h
 ·rename_i cs e;obtain⟨l',ys,h1,h2,h3,h4,h5⟩:=I.slot b _ e;have hl:l'=l:=by rw[hO]at h5;simpa using h5
  subst hl;refine⟨cs,ys,e,h1,h2,h3,h4,⟨by rw[qbm];exact I.len,h,fun i d e'=>?_⟩⟩;rw[qbw]at e'
  split at e'
  ·split at e'
   ·cases e'
   ·cases e'
  ·exact I.slot i _ e'
 ·cases h
structure LcP (K:W.Frag) (bk:Nat) (g:D->R->Option R) (mt:MT) (me:ME) (items all:List D) (ρf:R) (G2 H1:Hp) (DD l:Addr) (i:Nat) (σc:St) (Hc Gc:Hp) (ρc:R) (acc:List D) (xs:List V) (rest cs:List D) (ys:List V):Prop where
 fc:Fz G2 Gc
 fcH:Fz Gc Hc
 nw:∀b o,Gc b=some o->G2 b≠none\/H1 b=none
 kp:∀b o,b≠l->H1 b=some o->Hc b=some o
 gD:Gc DD=none
 hDc:Hc DD=some (.lst xs)
 ra:RepL K Gc xs acc
 hx:xs.length<=i
 eb:ρc[bk]? =some (.par cs)
 sb:σc[bk]? =some (some (.ref l))
 glc:Gc l=none
 hlc:Hc l=some (.lst ys)
 rlc:RepL K Gc ys cs
 vs:VS K Gc σc (ρc.set bk .emp)
 ec:zfR (zph bk g mt me) (items.drop i) ρc=some (rest,ρf)
 eall:all=acc++rest
section
variable {X:Cx} {elt iter tg:Expr} {ifs:List Expr} {scope:Scope} {pos:Pos} {N:List Str} {cap:List Nat} {t bk wk:Nat} {mi:MA} {g:D->R->Option R} {mt:MT} {me:ME}
theorem zkq (hbw:cap[bk]? =some wk){wi:TI}
    (si:∀B G H σ ρ ds ρ' (Q:It->Hp->Prop),SI X.K B G H σ ρ->mi ρ=some (ds,ρ')->(∀J G' H',SI X.K B G' H' σ ρ'->Fz G G'->Itm X.K J G' ds->Q J H')->wi σ H Q)
    (sg:∀C s H₀ fp B G H σ ρ v d ρ' (Q:St->Hp->Prop),SI X.K B G H σ ρ->RepD X.K G v d->g d ρ=some ρ'->(∀G' H' σ',SI X.K B G' H' σ' ρ'->Fz G G'->Q σ' H')->tg' C s H₀ fp v σ H Q)
    (st:∀C s H₀ fp B G H σ ρ d ρ' (Q:Bool->Hp->Prop),SI X.K B G H σ ρ->mt ρ=some (d,ρ')->(∀G' H',SI X.K B G' H' σ ρ'->Fz G G'->Q d H')->tt C s H₀ fp σ H Q)
    (se:∀C s H₀ fp B G H σ ρ d ρ' (Q:VK),SI X.K B G H σ ρ->me ρ=some (d,ρ')->(∀G' H' v,SI X.K B G' H' σ ρ'->Fz G G'->RepD X.K G' v d->Q v H')->te C s H₀ fp σ H Q):
    ∀B G H σ ρ ds ρ' (Q:VK),SI X.K B G H σ ρ->oLCM cap t bk wk mi g mt me ρ=some (ds,ρ')->
      (∀G' H' l xs,SI X.K B G' H' σ ρ'->Fz G G'->G' l=none->H' l=some (.lst xs)->RepL X.K G' xs ds->B.H l=none->Nw X.K G' H' σ ρ' l->Q (.ref l) H')->tLC (capσ cap t) wi tg' tt te σ H Q:=by
  intro B G H σ ρ ds ρ' Q I hm k;obtain⟨⟨items,ρ1⟩,e1,hm⟩:=zae hm;refine si B G H σ ρ items ρ1 _ I e1 fun J G1 H1 I1 f1 IT DD hD=>?_
  dsimp only at hm
  split at hm
  . rename_i hlen
    obtain⟨sw,ew,hm⟩:=zae hm;obtain⟨cs0,qw,hm⟩:=zae hm;obtain⟨⟨all,ρf⟩,e2,e3⟩:=zat hm;obtain⟨rfl,rfl⟩:=Prod.mk.inj e3;obtain⟨G2,I2,f2⟩:=SI.fzL (cap.filter (· !=wk)) I1;have hDG:G2 DD=none:=I2.fz.free hD;obtain⟨l,ys0,hσ,gl0,hl0,rl0⟩:=I2.wr ew qw;have hlD:DD≠l:=(zaG hl0 hD).symm;have hb:bk<cap.length:=(qar.mp hbw).1;have hbe:cap[bk]=wk:=(qar.mp hbw).2;have hσb:(capσ cap t σ)[bk]? =some (some (.ref l)):=by
      unfold capσ;rw[qaY (by simpa using hb),qaZ,qbD hb,hbe];simp[hσ]
    have hcl:bk<(capR cap t (M.fzL (cap.filter (· !=wk)) ρ1)).length:=by unfold capR;simp;lia
    refine⟨fun i m σc Hc=>m=items.length-i/\i<=items.length/\∃Gc ρc acc xs rest cs ys,LcP X.K bk g mt me items all ρf G2 H1 DD l i σc Hc Gc ρc acc xs rest cs ys,
      ⟨items.length,by simp,qbv _,G2,(capR cap t (M.fzL (cap.filter (· !=wk)) ρ1)).set bk (.par cs0),[],[],all,cs0,ys0,{fc:=Fz.refl _,fcH:=I2.fz.right hDG _,nw:=fun b o e=> .inl (by rw[e];simp),kp:=fun b o _ e=>by rw[zav (zaG e hD)];exact e,gD:=hDG,hDc:=zaF,ra:= .nil,hx:=qaJ _,eb:=by rw[qbw];simp[hcl],sb:=hσb,glc:=gl0,hlc:=by rw[zav (zaG hl0 hD)];exact hl0,rlc:=rl0,vs:=by rw[List.set_set];exact(cap_vs I2 cap t).setEmp bk,ec:=by simpa using e2,eall:=rfl}⟩,?_⟩
    rintro i m σc Hc ⟨rfl,hi,Gc,ρc,acc,xs,rest,cs,ys,J0⟩;obtain⟨fc,fcH,nw,kp,gD,hDc,ra,hx,eb,sb,glc,hlc,rlc,vs,ec,eall⟩:=J0
    by_cases hlt:i<items.length
    . refine .inr ⟨IT.go Hc i (f2.trans (fc.trans fcH)) hlt,fun C s₀ H₀ fp x H' y=>?_⟩
      rw[qbF hlt]at ec;simp only[zfR]at ec;obtain⟨⟨o,ρ3⟩,h3,ec⟩:=zae ec;obtain⟨⟨rest2,ρ4⟩,h4,ec⟩:=zat ec;obtain⟨rfl,rfl⟩:=Prod.mk.inj ec;dsimp only at h4;unfold zph at h3;obtain⟨ρ5,h5,h3⟩:=zae h3;obtain⟨⟨ok,ρ6⟩,h6,h3⟩:=zae h3;dsimp only at h3;have Ic:SI X.K ⟨Gc,Hc,[(bk,l)]⟩ Gc Hc σc ρc:=vs.siP fcH eb sb glc hlc rlc;have fz2:Fz G1 Hc:=f2.trans (fc.trans fcH);have yy:=IT.yld Hc i x H' fz2 y items[i] (qbD hlt);have yy2:(H'=Hc/\RepD X.K Gc x items[i])\/∃p xs es,Hc p=none/\H'=upd Hc p (.tup xs)/\x= .ref p/\items[i]= .tup es/\RepL X.K Gc xs es:=by
        rcases yy with⟨a,b⟩|⟨p,xs,es,a,b,c,d,e⟩
        . exact .inl ⟨a,b.mono (f2.trans fc)⟩
        . exact .inr ⟨p,xs,es,a,b,c,d,e.mono (f2.trans fc)⟩
      obtain⟨G3,I3,f3,r3⟩:=Ic.yld yy2;refine sg C s₀ H₀ fp _ G3 H' σc ρc x items[i] ρ5 _ I3 r3 h5 fun G4 H4 σ4 I4 f4=>st C s₀ H₀ fp _ G4 H4 σ4 ρ5 ok ρ6 _ I4 h6 fun G5 H5 I5 f5=>?_
      have facts:∀(G' H':Hp) (σ':St) (ρ':R),SI X.K ⟨Gc,Hc,[(bk,l)]⟩ G' H' σ' ρ'->(∀b o,G' b=some o->G2 b≠none\/H1 b=none)/\(∀b o,b≠l->H1 b=some o->H' b=some o)/\G' DD=none/\H' DD=some (.lst xs):=fun G' H' σ' ρ' I'=>by
        refine⟨fun b o e=>?_,fun b o ne e=>I'.keep b o (kp b o ne e) (by simp;exact ne),?_,I'.keep DD _ hDc (by simp;exact hlD)⟩
        . rcases I'.new b o e with h|h
          . have h:Gc b≠none:=h
            cases q:Gc b with
            |none=>exact absurd q h
            |some u=>exact nw b u q
          . refine .inr ?_
            cases q:H1 b with
            |none=>rfl
            |some u=>
              have hn:Hc b=none:=h;have nb:b≠l:=fun z=>by rw[z,hlc]at hn;cases hn
              have:=kp b u nb q;rw[hn]at this;cases this
        . cases q:G' DD with
          |none=>rfl
          |some u=>
            rcases I'.new DD u q with h|h
            . exact absurd gD h
            . rw[show Hc DD=none from h]at hDc;cases hDc
      cases ok with
      |false=>
        simp only[qbQ,qbc]at h3
        split at h3
        . rename_i hno
          cases h3;obtain⟨a1,a2,a3,a4⟩:=facts G5 H5 σ4 _ I5;obtain⟨cs',ys',w1,w2,w3,w4,w5,w6⟩:=VS.ofP I5 rfl hno;exact⟨items.length-(i+1),by lia,rfl,hlt,G5,_,acc,xs,rest2,cs',ys',{fc:=fc.trans (f3.trans (f4.trans f5)),fcH:=I5.fz,nw:=a1,kp:=a2,gD:=a3,hDc:=a4,ra:=ra.mono (f3.trans (f4.trans f5)),hx:=by lia,eb:=w1,sb:=w2,glc:=w3,hlc:=w4,rlc:=w5,vs:=w6,ec:=h4,eall:=by simpa using eall}⟩
        . cases h3
      |true=>
        simp only[if_true]at h3 ⊢;obtain⟨⟨dv,ρ7⟩,h7,h3⟩:=zae h3;dsimp only at h3
        split at h3
        . rename_i hno
          cases h3;refine se C s₀ H₀ fp _ G5 H5 σ4 ρ6 dv _ _ I5 h7 fun G6 H6 v I6 f6 r6=>?_
          obtain⟨a1,a2,a3,a4⟩:=facts G6 H6 σ4 _ I6;obtain⟨cs',ys',w1,w2,w3,w4,w5,w6⟩:=VS.ofP I6 rfl hno;have ff:Fz Gc G6:=f3.trans (f4.trans (f5.trans f6));exact⟨xs,a4,by rw[qaN];lia,items.length-(i+1),by lia,rfl,hlt,G6,_,acc++[dv],xs++[v],rest2,cs',ys',{fc:=fc.trans ff,fcH:=I6.fz.right a3 _,nw:=a1,kp:=fun b o ne e=>by rw[zav (zaG e hD)];exact a2 b o ne e,gD:=a3,hDc:=zaF,ra:=(ra.mono ff).snoc r6,hx:=by rw[qa2,qbs];lia,eb:=w1,sb:=w2,glc:=w3,hlc:=by rw[zav (Ne.symm hlD)];exact w4,rlc:=w5,vs:=w6,ec:=h4,eall:=by rw[eall];simp}⟩
        . cases h3
    . have e:i=items.length:=by lia
      subst e;rw[List.drop_length]at ec;obtain⟨rfl,rfl⟩:=Prod.mk.inj (Option.some.inj ec);have hall:all=acc:=by rw[eall,qaQ]
      refine .inl ⟨IT.stop Hc _ (f2.trans (fc.trans fcH)) (qaJ _),?_⟩;rw[<-hall]at ra;have hp:zrX bk ρc=cs:=by unfold zrX;rw[eb]
      rw[hp]at k;exact k Gc Hc DD xs (I2.growW ew qw hσ fc fcH nw kp glc hlc rlc) (f1.trans (f2.trans fc)) gD hDc ra (I2.there DD hD) (I2.own_neW ew qw hσ hD nw kp)
  . cases hm
theorem so_lcM (cap:List Nat)(t bk wk:Nat)(N:List Str)(hc:X.calm=true)(hi:SIt X tg iter mi)(hg:∀C s H fp,SG (cxC X N scope C s H fp) tg g)(ht:∀C s H fp,STs (cxC X N scope C s H fp) ifs mt)(he:∀C s H fp,SE (cxC X N scope C s H fp) elt me)(hbw:cap[bk]? =some wk:=by rfl)
    (hk:scope.kind= .function:=by rfl) (hb:blkB X.env scope=true:=by kernel_rfl) (hcap:capB scope.names N X.N cap t=true:=by kernel_rfl)
    (hs:∀x,foldedSetIterable iter X.env x=pure x:=by exact fun _=>rfl):SO X (.ListComp elt [⟨tg,iter,ifs,0⟩] scope pos) (oLCM cap t bk wk mi g mt me):=by
  obtain⟨wi,pi,si⟩:=hi;exact⟨_,pe_lc hc (zkO hk hb) (zkG hcap) pi (fun C s H fp=>(hg C s H fp).choose_spec.1) (fun C s H fp=>(ht C s H fp).choose_spec.1) (fun C s H fp=>(he C s H fp).choose_spec.1) hs,
    zkq hbw si (fun C s H fp=>(hg C s H fp).choose_spec.2) (fun C s H fp=>(ht C s H fp).choose_spec.2) (fun C s H fp=>(he C s H fp).choose_spec.2)⟩
theorem zmn (i:Nat)(cap:List Nat)(t bk wk:Nat)(N:List Str)(hc:X.calm=true)(hi:SIt X tg iter mi)(hg:∀C s H fp,SG (cxC X N scope C s H fp) tg g)(ht:∀C s H fp,STs (cxC X N scope C s H fp) ifs mt)(he:∀C s H fp,SE (cxC X N scope C s H fp) elt me)(hN:X.N.Nodup)(hbw:cap[bk]? =some wk:=by rfl)
    (hxi:X.N[i]? =some x:=by rfl) (hx:Loc X.env.scope x:=by first|exact Or.inl rfl|exact Or.inr rfl) (hf:X.fn x=true\/X.env.scope.names.lookup x=some .local:=by first|exact Or.inl rfl|exact Or.inr rfl)
    (hsw:swapsWith (.ListComp elt [⟨tg,iter,ifs,0⟩] scope lpos) (some (.Name x pos')) pos.line X.env=pure true:=by rfl)
    (hk:scope.kind= .function:=by rfl) (hb:blkB X.env scope=true:=by kernel_rfl) (hcap:capB scope.names N X.N cap t=true:=by kernel_rfl)
    (hs:∀x,foldedSetIterable iter X.env x=pure x:=by exact fun _=>rfl):SS X (.Assign [.Name x pos'] (.ListComp elt [⟨tg,iter,ifs,0⟩] scope lpos) pos) (zft i (oLCM cap t bk wk mi g mt me)):=by
  obtain⟨wi,pi,si⟩:=hi;refine⟨_,zjw hN hxi hx hf hsw hc (zkO hk hb) (zkG hcap) pi (fun C s H fp=>(hg C s H fp).choose_spec.1) (fun C s H fp=>(ht C s H fp).choose_spec.1) (fun C s H fp=>(he C s H fp).choose_spec.1) hs,fun B G H σ ρ fl ρ' E I hm k=>?_⟩;obtain⟨⟨d,ρ1⟩,e1,e3⟩:=zat hm;obtain⟨rfl,rfl⟩:=Prod.mk.inj e3;exact zkq hbw si (fun C s H fp=>(hg C s H fp).choose_spec.2) (fun C s H fp=>(ht C s H fp).choose_spec.2) (fun C s H fp=>(he C s H fp).choose_spec.2) B G H σ ρ d ρ1 _ I e1 fun G1 H1 l xs I1 f1 g1 h1 r1 b1 n1=>k G1 H1 _ (I1.setO g1 h1 r1 b1 n1) f1
theorem zpw (i:Nat)(cap:List Nat)(t bk wk:Nat)(N:List Str)(hc:X.calm=true)(hi:SIt X tg iter mi)(hg:∀C s H fp,SG (cxC X N scope C s H fp) tg g)(ht:∀C s H fp,STs (cxC X N scope C s H fp) ifs mt)(he:∀C s H fp,SE (cxC X N scope C s H fp) elt me)(hN:X.N.Nodup)(hbw:cap[bk]? =some wk:=by rfl)
    (hxi:X.N[i]? =some x:=by rfl) (hx:Loc X.env.scope x:=by first|exact Or.inl rfl|exact Or.inr rfl) (hf:X.fn x=true\/X.env.scope.names.lookup x=some .local:=by first|exact Or.inl rfl|exact Or.inr rfl)
    (hsw:swapsWith (.ListComp elt [⟨tg,iter,ifs,0⟩] scope lpos) (some (.Name x pos')) pos.line X.env=pure true:=by rfl)
    (hk:scope.kind= .function:=by rfl) (hb:blkB X.env scope=true:=by kernel_rfl) (hcap:capB scope.names N X.N cap t=true:=by kernel_rfl)
    (hs:∀x,foldedSetIterable iter X.env x=pure x:=by exact fun _=>rfl):SS X (.Assign [.Name x pos'] (.ListComp elt [⟨tg,iter,ifs,0⟩] scope lpos) pos) (sSet i (eFz (oLCM cap t bk wk mi g mt me))):=by
  obtain⟨wi,pi,si⟩:=hi;refine⟨_,zjw hN hxi hx hf hsw hc (zkO hk hb) (zkG hcap) pi (fun C s H fp=>(hg C s H fp).choose_spec.1) (fun C s H fp=>(ht C s H fp).choose_spec.1) (fun C s H fp=>(he C s H fp).choose_spec.1) hs,fun B G H σ ρ fl ρ' E I hm k=>?_⟩;obtain⟨⟨d,ρ1⟩,e1,e3⟩:=zat hm;obtain⟨⟨ds,ρ2⟩,e4,e5⟩:=zat e1;obtain⟨rfl,rfl⟩:=Prod.mk.inj e5;obtain⟨rfl,rfl⟩:=Prod.mk.inj e3;refine zkq hbw si (fun C s H fp=>(hg C s H fp).choose_spec.2) (fun C s H fp=>(ht C s H fp).choose_spec.2) (fun C s H fp=>(he C s H fp).choose_spec.2) B G H σ ρ ds ρ2 _ I e4 fun G1 H1 l xs I1 f1 g1 h1 r1 b1 n1=>?_
  obtain⟨I2,f2,r2⟩:=zkT I1 g1 h1 r1 b1 n1;exact k _ H1 _ (I2.set r2) (f1.trans f2)
end
end M
namespace M
open L2 PySem
theorem zi7:∀{ds:List D} {ns:List Int},zbw ds=some ns->ds=ns.map .int
 |[],_,h=>by cases h;rfl
 | .int i::ds,_,h=>by
  obtain⟨ms,e1,e2⟩:=zat h;cases e2;rw[zi7 e1];rfl
 | .non::_,_,h=>by cases h
 | .bl _::_,_,h=>by cases h
 | .str _::_,_,h=>by cases h
 | .lst _::_,_,h=>by cases h
 | .tup _::_,_,h=>by cases h
 | .scr _::_,_,h=>by cases h
 | .exc _::_,_,h=>by cases h
 |(.dic _ _)::_,_,h=>by cases h
 |(.dit _ _)::_,_,h=>by cases h
noncomputable def dTT (f:List Int->List Int->Bool):D->D->Option D
 | .tup a,.tup b=>(zbw a).bind fun ns=>(zbw b).map fun ms=> .bl (f ns ms)
 |_,_=>none
noncomputable def rTT (K:W.Frag)(f:List Int->List Int->Bool):R2:=fun x y H Q=>∃a b ns ms,x= .ref a/\y= .ref b/\SqT K H a (ns.map V.int)/\SqT K H b (ms.map V.int)/\Q (.bl (f ns ms)) H
section
variable {X:Cx} {a b:Expr} {ma mb:ME} {pos:Pos}
theorem v2_TT (f:List Int->List Int->Bool):V2 X (rTT X.K f) (dTT f):=by
 intro B G H σ ρ x y a b d Q I ra rb hf k;cases a<;>cases b<;>simp only[dTT]at hf<;>try cases hf
 rename_i as bs;obtain⟨ns,e1,hf⟩:=zae hf;obtain⟨ms,e2,e3⟩:=zat hf;cases e3;have h1:=zi7 e1;have h2:=zi7 e2;subst h1 h2;obtain⟨p,xs,rfl,hp,rp⟩:=ra;obtain⟨q,ys,rfl,hq,rq⟩:=rb;rw[rp.ints_eq]at hp;rw[rq.ints_eq]at hq;exact⟨p,q,ns,ms,rfl,rfl,SqT.of (I.fz _ _ hp),SqT.of (I.fz _ _ hq),k G H _ I (Fz.refl G) rfl⟩
end
end M
namespace M
open L2 PySem PySem.Spec
open PyProof.Rows hiding St
variable {as:List Addr} {its vs:List Value} {i tk j:Nat} {v tp cN ev cv oc:Value} {K:W.Frag} {G H:Hp} {A:Around} {E:Value->Shared->Prop} {s:Shared} {a C e CS f:Addr} {Q:Unit->Shared->Prop} {prog:Program} {w:World} {h h':Heap} {o:Obj} {b:Bool} {c:Expr} {X:Cx} {y qual x n d:Str} {pos' pos:Pos} {mc:MT} {N:List Str} {dN od:Option Addr} {es:List DictEntry} {cd:ClassData} {outer:List Env} {fd:FuncData} {pins':List (Addr×Obj)} {body:List Stmt} {tab:List (Str×Bool)}
noncomputable def iR2L (ma:MA):MA:=fun ρ=>(ma ρ).bind fun p=>match p.1 with
 |[.int i,.int j]=>some (zec i (j-i).toNat,p.2)
 |_=>none
noncomputable def zkE:List D->Option (List (List Int))
 |[]=>some []
 | .tup ds::r=>(zbw ds).bind fun ns=>(zkE r).map fun nss=>ns::nss
 |_::_=>none
theorem refs_get (r:Vals (as.map V.ref) its)(e:its[i]? =some v):∃a,as[i]? =some a/\v= .ref a:=by
 have hl:=r.length;have hi:i<its.length:=(qar.mp e).1;rw[qa3]at hl;have e2:(as.map V.ref)[i]? =some (.ref as[i]):=by rw[qaZ,qbD (by lia)];rfl
 obtain⟨u,h1,h2⟩:=r.get e2;rw[e]at h1;cases h1;exact⟨_,qbD (by lia),h2⟩
theorem zmO:∀{ys:List V} {ds:List D} {nss:List (List Int)},RepL K G ys ds->zkE ds=some nss->∃as:List Addr,ys=as.map V.ref/\as.length=nss.length/\∀(i:Nat) a ns,as[i]? =some a->nss[i]? =some ns->G a=some (.tup (ns.map V.int))
 |_,[],nss,r,e=>by cases e;cases r;exact⟨[],rfl,rfl,fun i a ns h=>by simp at h⟩
 |_,d::ds,nss,⟨x,ys,e0,q,r⟩,e=>by
  subst e0;cases d with
  |tup es=>
   obtain⟨ns,e1,e⟩:=zae e;obtain⟨ms,e2,e3⟩:=zat e;subst e3;obtain⟨as,rfl,hl,h⟩:=zmO r e2;obtain⟨a,zs,rfl,ha,rz⟩:=q;rw[zgb e1]at rz;rw[RepL.ints_eq rz]at ha;refine⟨a::as,rfl,by rw[qa5,qa5,hl],fun i b ns' h1 h2=>?_⟩;cases i with
   |zero=>simp at h1 h2;subst h1 h2;exact ha
   |succ i=>exact h i b ns' (by simpa using h1) (by simpa using h2)
  |non=>cases e
  |bl _=>cases e
  |int _=>cases e
  |str _=>cases e
  |lst _=>cases e
  |scr _=>cases e
  |exc _=>cases e
  |dic _ _=>cases e
  |dit _ _=>cases e
theorem check_ga {M:Model}{nameV:Value}(kin:K.In s.heap)(J:∀M,W.Looks M s.heap (typeOf (.ref a)) (.ref C))(hb:W.exmOne K (.ref C) (.type "BaseException")=some true)(h:Q () s):
  wpAny M A (checkBuiltinCall "BaseException.__getattribute__" {pos:=[.ref a,nameV]}) Q E s:=by
 have e1:builtinKind "BaseException.__getattribute__"=some .slot:=by decide+kernel
 have e2:splitId "BaseException.__getattribute__"=some ("BaseException","__getattribute__"):=by decide+kernel
 have e3:=F.args_bexc_ga (.ref a) nameV;unfold argsOk at e3;unfold checkBuiltinCall;rw[e1,e2];dsimp only;refine qaz (qaz (J _ A _ _ s (fun _ _ q=>q) ((W.exm_cls kin hb).2 A _ _ s (fun _ _ q=>q) ?_)));refine qcg (by decide) ?_
 generalize Manifest.signature? "BaseException.__getattribute__"=o at e3 ⊢
 cases o with
 |none=>exact qaC h
 |some sig=>dsimp only at e3 ⊢;rw[e3];exact qaC h
theorem zpv {R:Result->Shared->Prop}(kin:K.In s.heap)(J:∀M,W.Looks M s.heap (typeOf (.ref a)) (.ref C))(ho:W.mroIn K C (.type "object")=some true)
  (h:R (.ok (.ret (.ref C))) s):codeAny (model prog w) A (.call (.builtin "getset_descriptor.__get__") {pos:=[.builtin "object.__class__",.ref a,tp]}) R s:=by
 refine codeAny_call_builtin W.KF.slot_gs.plain W.KF.entry_gs (W.KF.slot_gs.check _ _ _ _ _ _ _ _ W.KF.type_class (W.KF.args_gs _ _ _) ?_);unfold Builtin.«getset_descriptor.__get__» Builtin.Getset_descriptor.descrGet;rw[W.dga_obj];refine qaz (qaC ?_);dsimp only;unfold Builtin.Getset_descriptor.descrGetter;dsimp only;refine qaz ?_;unfold Builtin.Getset_descriptor.descrCheckInstance;dsimp only;refine qaz ?_;unfold Builtin.Getset_descriptor.descrNameAndClass;dsimp only;rw[W.KF.owner_class];refine W.nd_pure ?_;dsimp only;refine qaz (qaz (J _ _ _ _ _ (fun _ _ q=>q) (W.looks_mroIn kin ho _ _ _ _ (fun _ _ q=>q) ?_)));refine qcg rfl (qaC (qaC ?_));refine⟨Code.quiet_builtin _ (by decide+kernel),codeAny_builtin W.KF.entry_class ?_⟩;unfold Builtin.«object.__class__»;dsimp only;refine qaz ?_;unfold shownTypeOf;refine qaz (J _ _ _ _ _ (fun _ _ q=>q) (qcg rfl (qaC (qaC h))))
theorem zqm {Q:Option Value->Shared->Prop}(kin:K.In s.heap)(J:∀M,W.Looks M s.heap (typeOf (.ref a)) (.ref C))
  (hb:W.exmOne K (.ref C) (.type "BaseException")=some true) (hga:W.findIn K (.ref C) "__getattribute__"=some (some (.builtin "BaseException.__getattribute__"))) (hgt:W.findIn K (.ref C) "__getattr__"=some none)
  (hf:W.findIn K (.ref C) "__class__"=some (some (.builtin "object.__class__"))) (hsp:W.specialIn K (.builtin "object.__class__") "__get__"=some (some (.builtin "getset_descriptor.__get__"))) (htk:W.takesIn K (.builtin "object.__class__")=some true) (ho:W.mroIn K C (.type "object")=some true)
  (h:Q (some (.ref C)) {s with toks:=s.toks+1}):wpAny (model prog w) A (getAttr? (.ref a) "__class__") Q E s:=by
 unfold getAttr?;refine qaz (wpAny_mkText ?_);unfold getAttrBy?;refine qaz (qb9 ?_);unfold getAttrBy;refine qaA (qaz (J _ A _ _ _ (fun _ _ q=>q) (qaz (W.looks_findIn kin hga A _ _ _ (fun _ _ q=>q) ?_))));dsimp only;have nb:(Value.builtin "BaseException.__getattribute__"==Value.builtin "object.__getattribute__")=false:=by decide+kernel
 refine qcg (by rw[nb,Bool.and_false];rfl) ?_;unfold getAttrByItsOwn;refine qaz ?_;unfold hookBefore;refine wpAny_ite_true (by rfl) (W.looks_findIn kin hgt A _ _ _ (fun _ _ q=>q) ?_);refine qaz (qb9 (qaA ?_));unfold callGetattribute;refine qcg (by decide+kernel) ?_;unfold boundAndCalled;refine qaz ?_;rw[F.attrBase_ValueError.ga.bind];refine qaC ?_;dsimp only[List.cons_append,List.nil_append];refine wpAny_call (codeAny_call_builtin F.attrBase_ValueError.ga.plain F.entry_bexc_ga (check_ga kin J hb ?_));unfold Builtin.«object.__getattribute__» slotArgs;refine qaz (qcg (by rfl) ?_);dsimp only;refine qcg (by rfl) (qaC ?_);dsimp only;unfold Builtin.ObjectAttr.attrName;refine qaz (qaC (qaz (J _ _ _ _ _ (fun _ _ q=>q) (qaz ?_))));unfold Builtin.ObjectAttr.find;refine qaz (W.looks_findIn kin hf _ _ _ _ (fun _ _ q=>q) (qaz ?_));unfold Builtin.ObjectAttr.getOf;refine W.looks_specialIn kin hsp _ _ _ _ (fun _ _ q=>q) (qaz ?_);unfold Builtin.ObjectAttr.dataDescriptor?;refine qaz (W.looks_takesIn kin htk _ _ _ _ (fun _ _ q=>q) (wpAny_ite_true rfl (qaC ?_)));refine qaz (qaF (qaC ?_));unfold Builtin.ObjectAttr.bindTo;dsimp only;refine qaz (qaA (wpAny_call (zpv kin J ho ?_)));refine qaC ?_;refine W.handed_on rfl ?_;exact qaC h
structure ExcC (K:W.Frag) (C:Addr):Prop where
 hb:W.exmOne K (.ref C) (.type "BaseException")=some true
 hga:W.findIn K (.ref C) "__getattribute__"=some (some (.builtin "BaseException.__getattribute__"))
 hgt:W.findIn K (.ref C) "__getattr__"=some none
 hf:W.findIn K (.ref C) "__class__"=some (some (.builtin "object.__class__"))
 hsp:W.specialIn K (.builtin "object.__class__") "__get__"=some (some (.builtin "getset_descriptor.__get__"))
 htk:W.takesIn K (.builtin "object.__class__")=some true
 ho:W.mroIn K C (.type "object")=some true
 hc:(W.clsIn K C).isSome=true
 ht:W.typeIn K (.ref C)=some (.type "type")
theorem zl5 {M:Model}(e:h.get? a=some o)(c:o.cls= .ref C):W.Looks M h (typeOf (.ref a)) (.ref C):=fun A Q E s k q=>by
 unfold typeOf;exact qaz (wpAny_loadPart (k a o e) (qaC (by rw[c];exact q)))
theorem zkU (h:(W.clsIn K C).isSome=true):∃o cd,List.lookup C K=some o/\o.data= .cls cd:=by
 unfold W.clsIn at h
 split at h
 ·rename_i c d cd sl e;exact⟨_,cd,e,rfl⟩
 ·cases h
theorem kitx_exc (f:ExcC K C):W.KitX K (.ref a) (.ref C) (fun h=>∃o,h.get? a=some o/\o.cls= .ref C) where
 ty:=fun M h kin ⟨o,e,c⟩=>zl5 e c
 it:=fun M h kin _ A Q E s k q=>by
  obtain⟨o,cd,e,d⟩:=zkU f.hc;unfold isType;refine qaz (wpAny_loadPart (k C o (kin C o e)) (qaC ?_));rw[d];exact q
 ne:=fun h tp dd its n sl kin e=>by
  obtain⟨o,cd,e2,d⟩:=zkU f.hc;have e3:=kin C o e2;rw[Bool.eq_false_iff];intro z;have z:=eq_of_beq z;cases z;rw[e]at e3;cases e3;cases d
 ca:=fun{prog w A E Q s} kin ⟨o,e,c⟩ q=>zqm kin (fun M=>zl5 e c) f.hb f.hga f.hgt f.hf f.hsp f.htk f.ho q
theorem zpF (f:ExcC K C){Q:Value->Shared->Prop}{c:Value}(kin:K.In s.heap)(h:∃o,s.heap.get? a=some o/\o.cls= .ref C)(e:W.kitOne K (.ref C) c=some b)
  (q:∀tk,Q (.bool b) {s with toks:=tk}):wpAny (model prog w) A (call (.builtin "isinstance") [.ref a,c]) Q E s:=qaP (kitx_exc f) kin h e (fun z=>nomatch z) q
noncomputable def Flies (h:Heap)(a T:Addr)(C a0:Value):Prop:=∃oe vs oT ts,h.get? a=some oe/\(oe.cls=C/\vs[0]? =some a0)/\oe.data= .fields vs/\vs[1]? =some (.ref T)/\T≠a/\h.get? T=some oT/\oT.data= .fields ts/\ts[3]? =some .none
noncomputable def CX1 (P:Program)(w:World):CXT:=fun outer H s E e s'=>
 ∃(a T:Addr) (C a0:Value) (H':Hp),e= .ref a/\s'.os=s.os/\AllBare s'.gens/\Un (frs outer) [] H H' s.heap s'.heap/\HOk P w H' s'.heap/\Flies s'.heap a T C a0/\(s.heap.get? a=none/\s.heap.get? T=none)/\(H' a=none/\H' T=none)/\E C none H'
theorem zrh {fs:List Addr}{H H' H2:Hp}{h h1 h2:Heap}(u:Un fs [] H H' h h1)(k:∀b o,h.get? b≠none->h1.get? b=some o->b∉fs->h2.get? b=some o)
  (sl:∀b o,b∈fs->h1.get? b=some o->∃sl,h2.get? b=some {o with slots:=sl}) (hh:∀b,h.get? b≠none->H' b=none->H2 b=none) (ht:∀b o,H' b=some o->H2 b=some o):Un fs [] H H2 h h2 where
 keep:=fun b o e n hf hx=>k b o (by rw[e];exact fun z=>by cases z) (u.keep b o e n hf hx) hf
 slot:=fun b o e n hf hx=>by
  obtain⟨s1,e1⟩:=u.slot b o e n hf hx;obtain⟨s2,e2⟩:=sl b _ hf e1;exact⟨s2,e2⟩
 free:=fun b o e n hx=>hh b (by rw[e];exact fun z=>by cases z) (u.free b o e n hx)
 there:=fun b o e hx=>by
  obtain⟨o1,e1⟩:=u.there b o e hx
  by_cases hf:b∈fs
  ·obtain⟨s2,e2⟩:=sl b _ hf e1;exact⟨_,e2⟩
  ·exact⟨o1,k b o1 (by rw[e];exact fun z=>by cases z) e1 hf⟩
 tups:=fun b xs e=>ht b _ (u.tups b xs e)
 frzs:=fun b o xs e=>ht b _ (u.frzs b o xs e)
 tbls:=fun b ps e=>by
  obtain⟨m,e1⟩:=u.tbls b ps e;exact⟨m,ht b _ e1⟩
theorem hok_more {P:Program}{h h2:Heap}(x:HOk P w H h)(k:∀b o,H b≠none->h.get? b=some o->h2.get? b=some o):HOk P w H h2:=fun a o e=>
  (x a o e).stay (fun b u hb q => k b u (by rcases hb with rfl | hb; · rw [e]; exact fun z => by cases z
                                            . rw[hb];exact fun z=>by cases z) q) (fun _ q=>q) fun _ _ q=>q
theorem obj_has {P:Program}{o:HO}(x:ObjOk P w H h a o):∃ob,h.get? a=some ob:=by
 cases o with
 |lst xs=>obtain⟨_,_,_,_,e⟩:=x;exact⟨_,e⟩
 |tup xs=>obtain⟨_,_,_,ob,e,_⟩:=x;exact⟨_,e⟩
 |dK kvs=>obtain⟨_,_,_,_,o,_,_,e,_⟩:=x;exact⟨_,e⟩
 |dT kvs=>obtain⟨_,_,_,_,o,_,_,e,_⟩:=x;exact⟨_,e⟩
 |set S n=>obtain⟨o,_,_,_,e,_⟩:=x;exact⟨_,e⟩
 |ins C dx fs=>obtain⟨_,_,_,e,_⟩:=x;exact⟨_,e⟩
 |own y=>exact x
 |xd fs=>obtain⟨_,⟨_,_,_,e,_⟩,_⟩:=x;exact⟨_,e⟩
 |rng lo hi=>obtain⟨_,_,_,e⟩:=x;exact⟨_,e⟩
 |frz ob u=>exact⟨_,x.1⟩
 |tbl ps=>exact⟨_,x⟩
 |met f y=>exact⟨_,x⟩
 |ext φ=>exact x.2.1
theorem ziw {P:Program}(x:HOk P w H h){b:Addr}(e:h.get? b=none):H b=none:=by
 cases q:H b with
 |none=>rfl
 |some o=>
  obtain⟨ob,e2⟩:=obj_has (x b o q);rw[e]at e2;cases e2
theorem nn {α:Type}{o:Option α}{x:α}(e:o=some x):o≠none:=by rw[e];exact fun z=>by cases z
structure TopF (X:Cx):Prop where
 hs:X.stack=X.env::X.outer
 hfr:X.env.frame=some X.env.locals
 hex:X.ex=[]
theorem TopF.frs (t:TopF X):L2.frs X.stack=X.env.locals::X.fs:=by
 rw[t.hs];unfold Cx.fs L2.frs;rw[qal,t.hfr]
section
variable {X:Cx} {pins:List (Addr×Obj)} {σ:St} {H H':Hp} {s s1 s2:Shared} {a T T':Addr} {C a0:Value} {E:XK}
theorem cx1_mk (tp:TopF X)(J:Inv X pins σ H' s1)(k:∀b o,s1.heap.get? b=some o->b∉L2.frs X.stack->b≠a->b≠T->s2.heap.get? b=some o)
  (sl:∀b o,b∈L2.frs X.stack->s1.heap.get? b=some o->∃sl,s2.heap.get? b=some {o with slots:=sl})
  (na:X.s₀.heap.get? a=none) (nT:X.s₀.heap.get? T=none) (nT':X.s₀.heap.get? T'=none) (ha:H' a=none) (hT:H' T=none) (hT':H' T'=none)
  (fl:Flies s2.heap a T' C a0) (os:s2.os=s1.os) (g:AllBare s2.gens) (hE:E C none H'):CX1 X.prog X.w X.outer X.H₀ X.s₀ E (.ref a) s2:=by
 have bs:=J.base;rw[tp.hex]at bs;refine⟨a,T',C,a0,H',rfl,os.trans J.os,g,zrh bs (fun b o hb e nf=>k b o e ?_ ?_ ?_) (fun b o hb e=>sl b o ?_ e) (fun _ _ q=>q) (fun _ _ q=>q),hok_more J.hok (fun b o hb e=>k b o e (fun z=>hb (J.stkFree b z)) (fun z=>hb (z ▸ ha)) fun z=>hb (z ▸ hT)),fl,⟨na,nT'⟩,⟨ha,hT'⟩,hE⟩
 ·rw[tp.frs];intro z;rcases qao.mp z with z|z
  ·obtain⟨ob,eb⟩:∃ob,X.s₀.heap.get? b=some ob:=qbx.mp hb;have h1:=qae eb;have h2:=J.ok.above;rw[z]at h1;exact absurd (qaf h1 h2) (qag _)
  ·exact nf z
 ·intro z;exact hb (z ▸ na)
 ·intro z;exact hb (z ▸ nT)
 ·rw[tp.frs];exact qan _ hb
theorem zoI (J:Inv X pins σ H' s1)(hex:X.ex=[]){b:Addr}(e:s1.heap.get? b=none):X.s₀.heap.get? b=none:=by
 cases q:X.s₀.heap.get? b with
 |none=>rfl
 |some o=>
  obtain⟨o',e'⟩:=J.base.there b o q (by rw[hex];simp);rw[e]at e';cases e'
noncomputable abbrev zrL (X:Cx)(E:XK):Value->Shared->Prop:=fun e s'=>wpAny (model X.prog X.w) X.A (leaving X.env e) (fun _ s''=>CX1 X.prog X.w X.outer X.H₀ X.s₀ E e s'') (fun e' s''=>CX1 X.prog X.w X.outer X.H₀ X.s₀ E e' s'') s'
theorem zoA (J:Inv X pins σ H s)(as:List Addr)(h:∀b∈L2.frs X.stack,b∈as):s.heap.FunFrames (W.hideAll s.heap as) X.stack:=W.funFrames_hide J.stack fun env he a' ef=>h a' (qaL.mpr ⟨env,he,ef⟩)
theorem raises1 (tp:TopF X)(hxe:X.xe=zrL X E)(J:Inv X pins σ H s){C:Value}(m:s.heap.MadeExcOf h' e C vs)(hE:E C none H):X.xe (.ref e) {s with heap:=h',toks:=tk}:=by
 rw[hxe];have ff0:=zoA J (L2.frs X.stack) fun b hb=>hb
 refine wpAny_leaves_madeW (base:=W.hideAll s.heap (L2.frs X.stack)) (h:=s.heap) (outer:=X.outer) (args:=vs) (cls:=C) (by rw[<-tp.hs];exact J.ok.frames) tp.hfr (fun b o q=>W.of_hideAll _ q) (by rw[<-tp.hs];exact ff0) m fun h2 t fl _ _ up=>?_
 obtain⟨stay,ne,ff,⟨oe',vs',T',oT',ts',q1,q2,q4,q5,q6,q7,q8,q9,q10⟩⟩:=fl;have nofield:∀b∈L2.frs X.stack,∃o,s.heap.get? b=some o/\∀vs:Array Value,o.data≠Data.fields vs:=fun b hb=>(J.stack.mem hb).2
 have fr':T'∉L2.frs X.stack:=fun z=>by
  obtain⟨o,ho,nd⟩:=nofield _ z;obtain⟨sl,h3⟩:=up T' o (m.keeps _ _ ho) nd;rw[q8]at h3;cases h3;exact nd _ q9
 have hT0:s.heap.get? T'=none:=by
  cases z:s.heap.get? T' with
  |none=>rfl
  |some o=>rw[qai _ z fr']at q6;cases q6
 have hT2:X.s₀.heap.get? T'=none/\H T'=none:=⟨zoI J tp.hex hT0,ziw J.hok hT0⟩;refine cx1_mk (T:=T') (T':=T') (a0:= .ref t) tp J (fun b o e nf n1 n2=>stay b o (qai _ e nf)) (fun b o hb e=>?_) (zoI J tp.hex m.new) hT2.1 hT2.1 (ziw J.hok m.new) hT2.2 hT2.2 ⟨oe',vs',oT',ts',q1,q2,q4,q5,q7,q8,q9,q10⟩ rfl J.bare hE;obtain⟨o',ho',nd⟩:=nofield b hb;rw[e]at ho';cases ho';exact up b o (m.keeps _ _ e) nd
end
noncomputable abbrev MX:=R->Option Str
noncomputable abbrev zpI (K:W.Frag)(c:Str)(C:Addr):Prop:=W.nsIn K mainGlobals c=some (some (.ref C))
noncomputable def WishN (K:W.Frag)(B:Bs)(E:XK)(c:Str):Prop:=∀H' C,(∀b o,B.H b=some o->(∀i,(i,b)∉B.O)->H' b=some o)->zpI K c C->E (.ref C) none H'
noncomputable def zoV (X:Cx)(S:St->Prop)(E:XK):Prop:=∀pins σ H s e s',Inv X pins σ H s->S σ->CX1 X.prog X.w X.stack H s E e s'->X.xe e s'
section
variable (X:Cx) (S:St->Prop) (E:XK)
noncomputable def XE (e:Expr)(x:MX):Prop:=∃t,PE X e t/\∀B G H σ ρ c,SI X.K B G H σ ρ->S σ->x ρ=some c->WishN X.K B E c->∀Q,t σ H Q
noncomputable def XS (st:Stmt)(x:MX):Prop:=∃t,PS X st t/\∀B G H σ ρ c,SI X.K B G H σ ρ->S σ->x ρ=some c->WishN X.K B E c->∀D,t D σ H
noncomputable def XSs (st:List Stmt)(x:MX):Prop:=∃t,PSs X st t/\∀B G H σ ρ c,SI X.K B G H σ ρ->S σ->x ρ=some c->WishN X.K B E c->∀D,t D σ H
end
noncomputable def spX (K:W.Frag)(n:Nat)(F:List D->Option Str):Sp:=fun vs H _ E=>∃G ds c,F ds=some c/\ds.length=n/\Fz G H/\RepL K G vs ds/\∀H' C,Fz H H'->zpI K c C->E (.ref C) none H'
structure FDX (P:Program) (w:World) (K:W.Frag) (mg:Str->Option Value) (base:Heap) (k:Nat) (x:Str) (sp:Sp):Prop where
 ex:∃f fd ps,FnOk P w K mg base (CX1 P w) k f fd ps sp/\mg x=some (.ref f)/\W.keepIn K (.ref f)=true/\Binds K fd ps []
noncomputable def zqn (F:List D->Option Str)(ma:MA):MX:=fun ρ=>(ma ρ).bind fun p=>F p.1
noncomputable def xIf (c:MT)(a:MX):MX:=fun ρ=>(c ρ).bind fun p=>if p.1 then a p.2 else none
noncomputable def fX (N:Nat)(x:MX):List D->Option Str:=fun ds=>x (ds.map .val++List.replicate (N-ds.length) .emp)
section
variable {X:Cx} {S:St->Prop} {E:XK} {x:Str} {p pos:Pos} {e:Expr} {es:List Expr} {ma:MA} {k k' n:Nat} {F:List D->Option Str} {mx:MX}
theorem zrZ (fd:FDX X.prog X.w X.K X.mg X.base k x (spX X.K n F))(hx:zoV X S E)(hr:Room k' X.A)(ha:SA X (e::es) ma)(hk:k<=k':=by decide)(hg:Gl X x:=by rfl)(hdb:(x==("__debug__":Str))=false:=by decide)
  (he:starEach (e::es) X.env=(false,eval e X.env)::starEach es X.env:=by rfl) (hpl:(backTo pos (starEach es X.env)).any (·.1)=false:=by rfl) (hlen:∀ρ as ρ',ma ρ=some (as,ρ')->as.length=n):XE X S E (.Call (.Name x p) (e::es) [] pos) (zqn F ma):=by
 obtain⟨f,fdd,ps,G0,h1,h2,h3⟩:=fd.ex;obtain⟨t,pa,sa⟩:=ha;refine⟨fun σ H Q=>S σ/\t σ H fun vs H1=>spX X.K n F vs H1 Q E,?_,fun B G H σ ρ c I hS hm w Q=>⟨hS,?_⟩⟩
 ·rintro pins s σ H Q I ⟨hS,h⟩;refine qaR (zlZ I hg h1 ?_ hdb);refine W.callWith_K (h₀:=X.base) I.ok.mod.kin h2 (thn (pa pos pins s σ H _ I h) fun us s1 ⟨vs,H1,I1,r,q⟩=>⟨I1.kIn,?_⟩) he hpl;have hl:us.length=ps.length:=by rw[<-r.length];exact G0.len _ _ _ _ q
  have hb:=h3 s1 us I1.kIn (by rw[qaQ];exact hl);rw[qaQ]at hb;refine wpAny_call (codeAny_mono (G0.run X.A X.stack s1 H1 ⟨us,[]⟩ us vs Q E (hr.mono hk) I1.env0 hb r q) fun r s' hq=>?_);cases r with
  |error e=>exact hx pins σ H1 s1 e s' I1 hS hq
  |ok fl=>
   cases fl with
   |ret u=>exact I1.after hq
   |next=>exact False.elim hq
   |brk=>exact False.elim hq
   |cont=>exact False.elim hq
 ·obtain⟨⟨as,ρ1⟩,e1,hm⟩:=zae hm;refine sa B G H σ ρ as ρ1 _ I e1 fun G1 H1 vs I1 f1 r1=>⟨G1,as,c,hm,hlen ρ as ρ1 e1,I1.fz,r1,fun H' C fz hC=>w H' C (fun b o q hn=>fz b o (I1.keep b o q hn)) hC⟩
theorem xs_set (i:Nat)(h:XE X S E e mx)(hN:X.N.Nodup)(hi:X.N[i]? =some y:=by rfl)(hx:Loc X.env.scope y:=by first|exact Or.inl rfl|exact Or.inr rfl)(hs:swapsWith e (some (.Name y pos')) pos.line X.env=pure false:=by rfl)(hf:X.fn y=true\/X.env.scope.names.lookup y=some .local:=by first|exact .inl rfl|exact .inr rfl):
  XS X S E (.Assign [.Name y pos'] e pos) mx:=by
 obtain⟨t,pt,st⟩:=h;exact⟨_,znq hN hi hx pt hs hf,fun B G H σ ρ c I hS hm w D=>st B G H σ ρ c I hS hm w _⟩
theorem xs_if {a b:List Stmt}(hc:STt X c mc)(ha:XSs X S E a mx):XS X S E (.If c a b pos) (xIf mc mx):=by
 obtain⟨tc,pc,sc⟩:=hc;obtain⟨t,pt,st⟩:=ha;refine⟨_,ps_if (u:=fun _ _ _=>False) pc pt (fun _ _ _ _ _ _ h=>h.elim),fun B G H σ ρ c I hS hm w D=>?_⟩;obtain⟨⟨b,ρ1⟩,e1,hm⟩:=zae hm;refine sc B G H σ ρ b ρ1 _ I e1 fun G1 H1 I1 f1=>?_
 cases b with
 |true=>rw[if_pos rfl];exact st B G1 H1 σ ρ1 c I1 hS (by simpa using hm) w D
 |false=>simp at hm
theorem zfl {st:Stmt}{rest:List Stmt}(h:XS X S E st mx):XSs X S E (st::rest) mx:=by
 obtain⟨t,pt,so⟩:=h;exact⟨_,zk4 (u:=fun _ _ _=>False) pt (fun _ _ _ _ _ _ h=>h.elim),fun B G H σ ρ c I hS hm w D=>so B G H σ ρ c I hS hm w _⟩
end
noncomputable abbrev bmV:List Value:=[.type "ValueError",.type "Exception",.type "BaseException",.type "object"]
theorem ns_ok {N:Addr}{ep:Nat}{sl:Array (Option Value)}(l:K.lookup N=some ⟨cN,dN,.dict es.toArray ep,sl⟩)(o:(es.all fun e=>match e.key with
  | .str _ _=>true
  |_=>false)=true):W.nsOkIn K N=true:=by
 unfold W.nsOkIn;have l':List.lookup N K=some ⟨cN,dN,.dict es.toArray ep,sl⟩:=l;rw[l'];dsimp only;rw[List.all_toArray];exact o
noncomputable def OwnK (K:W.Frag)(C:Addr):Prop:=∀(h:Heap) (mg:Str->Option Value) (x:Str),K.In h->mg x=some (.ref C)->OwnCls x C bmV "ValueError.__new__" mg h
theorem zov {C CS N NS:Addr}{nm q nmS qS:Str}{bs bsS:List Value}{hdct hS:Bool}{sn snS:List Str}{sub subS:List Value}{ab abS:Bool}{col colS:Option Bool}{dd ddS:Option Addr}{k0 k1 k2 k3 k5 j0 j1 j2 j3 j5:Option Value}
  (l1:K.lookup C=some (excClassObj nm q C N bs (.ref CS::bmV) hdct sn sub ab col dd k0 k1 k2 k3 k5 "ValueError.__new__")) (l2:K.lookup CS=some (excClassObj nmS qS CS NS bsS bmV hS snS subS abS colS ddS j0 j1 j2 j3 j5 "ValueError.__new__"))
  (i1:W.nsIn K N "__init__"=some none) (i2:W.nsIn K NS "__init__"=some none) (o1:W.nsOkIn K N=true) (o2:W.nsOkIn K NS=true):OwnK K C:=fun h mg x kin hm=>
 ⟨hm,.ref CS::bmV,N,nm,q,bs,hdct,sn,sub,ab,col,dd,k0,k1,k2,k3,k5,h.nsMap N,kin _ _ l1,Heap.Ns.of_isNs (W.isNs_of_in kin o1),W.nsMap_none_of_in kin o1 i1,
  .own (kin _ _ l2) (Heap.Ns.of_isNs (W.isNs_of_in kin o2)) (W.nsMap_none_of_in kin o2 i2) .base⟩
section
variable {X:Cx} {E:XK} {S:St->Prop}
noncomputable abbrev RaiOk (K:W.Frag)(mg:Str->Option Value)(c:Str):Prop:=∃C,mg c=some (.ref C)/\zpI K c C/\OwnK K C
end
section
variable {P:Program} {w:World} {K:W.Frag} {mg:Str->Option Value} {base:Heap}
theorem cx_top {scope:Scope}{cd:Value}{E:XK}:TopF (cxOf (CX1 P w) P w K mg base N qual scope f cd A outer s H E):=⟨rfl,rfl,rfl⟩
theorem fnX_ok {st:Stmt}{N ps:List Str}{k n:Nat}{m:MX}(F:Fun K x qual st f fd)(S:FnScope N ps (zaA st))(hn:ps.length=n)(hN:n<=N.length)
  (body:∀(cdv:Value) (A:Around) (outer:List Env) (s:Shared) (H:Hp) (E:XK),Room k (A.deeper (envOfC qual (zaA st) s.heap.objs.size f cdv))->XSs (cxOf (CX1 P w) P w K mg base N qual (zaA st) f cdv A outer s H E) (fun _=>True) E (zca st) m):
  FnOk P w K mg base (CX1 P w) (k+1) f fd ps (spX K n (fX N.length m)):=by
 obtain⟨oc,od,kV,doc,pm,an,cdv,ct,osl,rfl,lk,hcd⟩:=F.ex;refine fn_of lk hcd S (fun vs H Q E h=>?_) fun A outer s H vs Q E hr h=>?_
 ·obtain⟨G,ds,c,_,h2,_,h4,_⟩:=h;rw[h4.length,h2,hn]
 ·obtain⟨G,ds,c,e1,h2,fz,h4,kk⟩:=h;obtain⟨t,pt,so⟩:=body cdv A outer s H E hr;exact⟨t,pt,so ⟨G,H,[]⟩ G H (L2.start N vs) _ c (SI.start fz h4 (by lia)) trivial e1 (fun H' C kp hC=>kk H' C (fun b o q=>kp b o q (by simp)) hC) _⟩
end
section
variable {X:Cx} {pins:List (Addr×Obj)} {σ:St} {H:Hp} {s:Shared}
theorem zqY {M:Model}(I:Inv X pins σ H s)(hN:X.N.Nodup)(hj:X.N[j]? =some n)(hk:X.env.scope.names.lookup n=some .local)
  (h:∀s',Inv X pins (σ.set j none) H s'->Q () s'):wpAny M A (do bindName X.env n .none;unbindBehindTheSuite X.env n pos) Q E s:=by
 obtain⟨m,hn,hl⟩:=id I.loc;have hcls:(X.env.scope.kind== .class||(X.env.scope.kind== .module&&X.env.locals !=X.env.globals))=false:=by rw[I.ok.kind];rfl
 have hiσ:j<σ.length:=by rw[I.len];exact(qar.mp hj).1
 have cne:=I.cne;have tracked:∀{a:Addr} {h':Heap},(∃o,s.heap.get? a=some o/\H a=none)->Heap.SameBut a s.heap h'->HOk X.prog X.w H h':=fun{a h'} ha hs b ob e=>by
  obtain⟨_,_,hfree⟩:=ha;refine(I.hok b ob e).stay (fun c w' hc q=>(hs.2 c ?_).trans q) (fun _ q=>q) fun _ _ q=>q
  rintro rfl;rcases hc with rfl|hc
  ·rw[hfree]at e;cases e
  ·rw[hfree]at hc;cases hc
 refine wpAny_nameGoes_keeps hk hn hcls fun h' v hn' hs=>?_
 obtain⟨oL,_,_,hoL,_⟩:=id hn;refine h _ ⟨I.ok,I.os,I.bare,⟨fun b o e n hb hx=>?_,fun b o e n hb hx=>?_,I.base.free,fun b o e hx=>?_,I.base.tups,I.base.frzs,I.base.tbls⟩,⟨_,hn',fun i y v' e1 e2 e3=>?_⟩,fun y c e=>?_,I.free,I.freeC,fun p hp=>?_,tracked ⟨oL,hoL,I.free⟩ hs,by simpa using I.len⟩
 ·exact(hs.2 b (qah (qaf (qae e) I.ok.above))).trans (I.base.keep b o e n hb hx)
 ·obtain⟨sl,e1⟩:=I.base.slot b o e n hb hx;exact⟨sl,(hs.2 b (qah (qaf (qae e) I.ok.above))).trans e1⟩
 ·obtain⟨o',e1⟩:=I.base.there b o e hx;exact⟨o',(hs.2 b (qah (qaf (qae e) I.ok.above))).trans e1⟩
 ·by_cases hij:i=j
  ·subst hij;rw[qas hiσ]at e2;cases e2
  ·rw[qat (Ne.symm hij)]at e2;obtain⟨u',r',q⟩:=hl i y v' e1 e2 e3;refine⟨u',r',?_⟩;rcases q with⟨k,e⟩|⟨k,c,e,z⟩
   ·refine .inl ⟨k,?_⟩;have:y≠n:=fun e=>hij (zmf hN e1 (e ▸ hj))
    simp[this,e]
   ·exact .inr ⟨k,c,e,z.sameBut hs (cne y c e)⟩
 ·obtain⟨w',z⟩:=I.cell y c e;exact⟨w',z.sameBut hs (cne y c e)⟩
 ·obtain⟨e,n,ne,nf,d⟩:=I.pin p hp;exact⟨(hs.2 p.1 ne).trans e,n,ne,nf,d⟩
noncomputable abbrev mkE (X:Cx)(a:Addr):Cx:={X with A:=X.A.mark (some (.ref a)),calm:=false,xe:=fun _ _=>False}
theorem inv_mk (I:Inv X pins σ H s):Inv (mkE X a) pins σ H s:=
 ⟨⟨I.ok.mod,I.ok.kind,I.ok.glob,I.ok.blt,I.ok.above,I.ok.inj,I.ok.has,I.ok.cab,(fun z=>by cases z),I.ok.frames,I.ok.stk,I.ok.exf,I.ok.bs,I.ok.bsz,I.ok.noex,I.ok.exfs,I.ok.funs,I.ok.frf⟩,I.os,I.bare,I.base,I.loc,I.cell,I.free,I.freeC,I.pin,I.hok,I.len⟩
theorem inv_unmk (hd:X.calm=true->X.A.handled=none)(I:Inv (mkE X a) pins σ H s):Inv X pins σ H s:=
 ⟨⟨I.ok.mod,I.ok.kind,I.ok.glob,I.ok.blt,I.ok.above,I.ok.inj,I.ok.has,I.ok.cab,hd,I.ok.frames,I.ok.stk,I.ok.exf,I.ok.bs,I.ok.bsz,I.ok.noex,I.ok.exfs,I.ok.funs,I.ok.frf⟩,I.os,I.bare,I.base,I.loc,I.cell,I.free,I.freeC,I.pin,I.hok,I.len⟩
structure Held (X:Cx) (a T:Addr) (C a0:Value) (h1 h:Heap):Prop where
 stay:(W.hideAll h1 (a::T::L2.frs X.stack)).StaysIn h
 ff:h.FunFrames (W.hideAll h1 (a::T::L2.frs X.stack)) (X.env::X.outer)
 tr:h.TracedW (W.hideAll h1 (a::T::L2.frs X.stack)) a C a0
 up:∀b o,b∈L2.frs X.stack->h1.get? b=some o->∃sl,h.get? b=some {o with slots:=sl}
theorem zoS {H':Hp}{s1:Shared}{a T C':Addr}{a0:Value}(I:Inv X pins σ H s)(os:s1.os=s.os)(bare:AllBare s1.gens)(un:Un (L2.frs X.stack) [] H H' s.heap s1.heap)(hok:HOk X.prog X.w H' s1.heap)(na:s.heap.get? a=none)(nT:s.heap.get? T=none)(ha:H' a=none)(hT:H' T=none)
  (J:Inv X pins σ H' s1) (x:Held X a T (.ref C') a0 s1.heap h):Inv X pins σ (upd H' a (.ext (znL a C'))) {s1 with heap:=h,toks:=tk}:=by
 obtain⟨oe,vs,T',oT,ts,q1,⟨q2,_⟩,_⟩:=x.tr;have kk:∀b o,s1.heap.get? b=some o->b∉L2.frs X.stack->b≠a->b≠T->h.get? b=some o:=fun b o e nf n1 n2=>x.stay b o (qai _ e fun m=>by
  rcases qao.mp m with m|m
  ·exact n1 m
  ·rcases qao.mp m with m|m
   ·exact n2 m
   ·exact nf m)
 refine I.call' (ch:=[]) os (zrh un (fun b o hb e nf=>kk b o e nf (fun z=>hb (z ▸ na)) fun z=>hb (z ▸ nT)) x.up (fun b hb e=>?_) fun b o e=>?_) (fun b o e=>?_) bare fun b z=>absurd z (by simp)
 ·rw[zav (show b≠a from fun z=>hb (z ▸ na))];exact e
 ·rw[zav (zaG e ha)];exact e
 ·by_cases z:b=a
  ·subst z;rw[zaF]at e;cases e;exact⟨⟨oe,q1,q2⟩,⟨oe,q1⟩,fun h1 h2 ⟨o,e,c⟩ k=>⟨o,k o e,c⟩⟩
  ·rw[zav z]at e;refine(hok b o e).stay (fun c u hc q=>kk c u q ?_ ?_ ?_) (fun c q=>by rw[zav (zaG q ha)];exact q) fun c xs q=>by rw[zav (zaG q ha)];exact q
   ·intro m;have:=J.stkFree c m;rcases hc with rfl|hc
    ·rw[this]at e;cases e
    ·rw[this]at hc;cases hc
   ·rintro rfl;rcases hc with rfl|hc
    ·exact z rfl
    ·rw[ha]at hc;cases hc
   ·rintro rfl;rcases hc with rfl|hc
    ·rw[hT]at e;cases e
    ·rw[hT]at hc;cases hc
theorem caught {s1:Shared}{E2:XK}{D:Ends}{y n hc:Str}{hp p1 p2 p3 pos:Pos}(tp:TopF X)(I:Inv X pins σ H s)(hN:X.N.Nodup)(hi:X.N[i]? =some y)(hj:X.N[j]? =some n)(hij:i≠j)
  (ly:X.env.scope.names.lookup y=some .local) (ln:X.env.scope.names.lookup n=some .local) (hdn:(n==("__debug__":Str))=false) (hcn:(n==("__classdict__":Str))=false) (hg:Gl X hc) (hm:X.mg hc=some (.ref CS)) (hdh:(hc==("__debug__":Str))=false) (hsw:swapsWith (.Name n p2) (some (.Name y p1)) p3.line X.env=pure false)
  (hE:∀C H',E2 C none H'->∃C',C= .ref C'/\W.exmOne X.K (.ref C') (.ref CS)=some true/\∀a,H' a=none->D.nx ((σ.set i (some (.ref a))).set j none) (upd H' a (.ext (znL a C'))))
  (c:CX1 X.prog X.w X.stack H s E2 ev s1) {F:Value->Shared->Prop}:
  wpAny (model X.prog X.w) X.A (noteFrame ev X.env) (fun _ s₂=>wpAny (model X.prog X.w) X.A (setFlight ev none) (fun _ s₃=>wpAny (model X.prog X.w) X.A (handleBy ev X.env [.ExceptHandler (some (.Name hc hp)) (some n) [.Assign [.Name y p1] (.Name n p2) p3] pos]) (SP X pins D) F s₃) F s₂) F s1:=by
 obtain⟨a,T,C,a0,H',rfl,os,bare,un,hok,⟨oe,vs,oT,ts,e1,e2,e4,e5,e6,e7,e8,e9⟩,⟨na,nT⟩,⟨ha,hT⟩,hE1⟩:=c;obtain⟨C',rfl,hex,hD⟩:=hE C H' hE1;have hD:=hD a ha;have J:Inv X pins σ H' s1:=I.call' os un hok bare fun b z=>absurd z (by simp)
 have ff0:=zoA J (a::T::L2.frs X.stack) fun b hb=>qan _ (qan _ hb)
 have ff1:s1.heap.FunFrames (W.hideAll s1.heap (a::T::L2.frs X.stack)) (X.env::X.outer):=by
  have:=ff0
  generalize W.hideAll s1.heap (a::T::L2.frs X.stack)=B at this ⊢
  rw[tp.hs]at this;exact this
 have nofield:∀b∈L2.frs X.stack,∃o,s1.heap.get? b=some o/\∀vs:Array Value,o.data≠Data.fields vs:=fun b hb=>(J.stack.mem hb).2
 refine wpAny_noteFrame_onW (base:=W.hideAll s1.heap (a::T::L2.frs X.stack)) (outer:=X.outer) (by rw[<-tp.hs];exact J.ok.frames) ff1 tp.hfr
  ⟨oe,vs,T,oT,ts,e1,e2,e4,e5,W.hideAll_none _ (by simp),e6,e7,e8,e9⟩ (fun b o q=>W.of_hideAll _ q) (W.hideAll_none _ (by simp)) fun h2 nt=>?_
 obtain⟨stay2,ff2,tr2,up2⟩:=nt;refine wpAny_setFlight_noneW stay2 ff2 tr2 fun h3 stay3 ff3 tr3 up3=>?_
 have held3:Held X a T (.ref C') a0 s1.heap h3:=⟨stay3,ff3,tr3,fun b o hb e=>by
  obtain⟨o',ho',nd⟩:=nofield b hb;rw[e]at ho';cases ho';obtain⟨sl,e2⟩:=up2 b o e nd;exact⟨sl,up3 b _ e2 nd⟩⟩
 have J3:=zoS (tk:=s1.toks) I os bare un hok na nT ha hT J held3;have hd:=I.ok.hd;refine wpAny_handleBy_cons ?_ (fun z=>nomatch z);refine codeAny_handlers_test (zlZ (X:=mkE X a) (inv_mk J3) hg hm ?_ hdh);obtain⟨oe3,_,_,_,_,q1,⟨q2,_⟩,_⟩:=id tr3;refine W.exm_one (M:=model X.prog X.w) J3.kIn (zl5 q1 q2) hex _ _ _ _ (fun _ _ q=>q) ?_;rw[if_pos rfl];dsimp only;refine codeAny_handlers_suite_as (wpAny_setFlight_noneW stay3 ff3 tr3 fun h4 stay4 ff4 tr4 up4=>?_);have held4:Held X a T (.ref C') a0 s1.heap h4:=⟨stay4,ff4,tr4,fun b o hb e=>by
  obtain⟨o',ho',nd⟩:=nofield b hb;rw[e]at ho';cases ho';obtain⟨sl,e2⟩:=held3.up b o hb e;exact⟨sl,up4 b _ e2 nd⟩⟩
 have J4:=zoS (tk:=s1.toks) I os bare un hok na nT ha hT J held4;refine zg8 (X:=X) (v:= .ref a) J4 hN hj (.inl ln) rfl (fun s5 J5=>?_) (.inr ln);have hb:=(zk4 (X:=mkE X a) (znq (X:=mkE X a) hN hi (.inl ly) (zc1 (X:=mkE X a) hj (.inl ln) hdn hcn) hsw (.inr ly)) zqS) pins s5 _ _ {nx:=fun σ' H''=>σ'=(σ.set j (some (.ref a))).set i (some (.ref a))/\H''=upd H' a (.ext (znL a C')),rt:=fun _ _=>False} (inv_mk J5);have hjσ:j<σ.length:=by rw[I.len];exact(qar.mp hj).1
 refine qau (hb ⟨.ref a,?_,rfl,rfl⟩) (fun f s6 q=>?_) fun _ _ q=>q.elim
 ·rw[qas hjσ]
 ·cases f with
  |next=>
   obtain⟨σ',H'',J6,rfl,rfl⟩:=q;dsimp only;refine zqY (inv_unmk hd J6) hN hj ln fun s7 J7=>⟨_,_,J7,?_⟩
   have:(((σ.set j (some (.ref a))).set i (some (.ref a))).set j none)=(σ.set i (some (.ref a))).set j none:=by
    rw[List.set_comm _ _ hij,List.set_set,List.set_comm _ _ hij]
   rw[this];exact hD
  |brk=>obtain⟨_,_,_,z⟩:=q;exact z.elim
  |cont=>obtain⟨_,_,_,z⟩:=q;exact z.elim
  |ret u=>obtain⟨_,_,_,_,_,z⟩:=q;exact z.elim
end
theorem SI.drop {B:Bs}{σ:St}{ρ:R}(I:SI K B G H σ ρ)(i:Nat):SI K B G H (σ.set i none) (ρ.set i .emp):=
 I.chg I.fz (Fz.refl G) I.new I.keep I.there (fun _ _ _ _ _ _ g _=>⟨g,rfl,id⟩) trivial
noncomputable abbrev tryB (X:Cx)(pins:List (Addr×Obj))(E:Value->Shared->Prop):Cx:={X with pn:=X.pn++pins,xe:=E}
section
variable {X:Cx} {pins:List (Addr×Obj)} {σ:St} {H:Hp} {s:Shared} {E:Value->Shared->Prop}
theorem zrc (I:Inv X pins σ H s):Inv (tryB X pins E) [] σ H s:=
 ⟨⟨I.ok.mod,I.ok.kind,I.ok.glob,I.ok.blt,I.ok.above,I.ok.inj,I.ok.has,I.ok.cab,I.ok.hd,I.ok.frames,I.ok.stk,I.ok.exf,I.ok.bs,I.ok.bsz,I.ok.noex,I.ok.exfs,I.ok.funs,I.ok.frf⟩,I.os,I.bare,I.base,I.loc,I.cell,I.free,I.freeC,fun p hp=>I.pin p (by simpa using hp),I.hok,I.len⟩
theorem zf2 (I:Inv (tryB X pins E) pins' σ H s):Inv X pins σ H s:=
 ⟨⟨I.ok.mod,I.ok.kind,I.ok.glob,I.ok.blt,I.ok.above,I.ok.inj,I.ok.has,I.ok.cab,I.ok.hd,I.ok.frames,I.ok.stk,I.ok.exf,I.ok.bs,I.ok.bsz,I.ok.noex,I.ok.exfs,I.ok.funs,I.ok.frf⟩,I.os,I.bare,I.base,I.loc,I.cell,I.free,I.freeC,fun p hp=>I.pin p (qaq _ hp),I.hok,I.len⟩
theorem sp_untry {D:Ends}{f:Flow}(h:SP (tryB X pins E) [] D f s):SP X pins D f s:=by
 cases f with
 |next=>obtain⟨σ',H',I,q⟩:=h;exact⟨σ',H',zf2 I,q⟩
 |brk=>obtain⟨σ',H',I,q⟩:=h;exact⟨σ',H',zf2 I,q⟩
 |cont=>obtain⟨σ',H',I,q⟩:=h;exact⟨σ',H',zf2 I,q⟩
 |ret u=>obtain⟨v,σ',H',I,r,q⟩:=h;exact⟨v,σ',H',zf2 I,r,q⟩
end
noncomputable def sTry (m:MS)(x:MX)(ok:List Str)(i j:Nat):MS:=fun ρ=>match x ρ with
 |some c=>if zen ρ then if ok.contains c then some (.next,(ρ.set i (.val (.exc c))).set j .emp)else none else none
 |none=>m ρ
noncomputable abbrev CatOk (K:W.Frag)(mg:Str->Option Value)(hc:Str)(ok:List Str):Prop:=∃CS,mg hc=some (.ref CS)/\∀c,ok.contains c=true->∃C,zpI K c C/\W.exmOne K (.ref C) (.ref CS)=some true
theorem ss_try {m:MS}{x:MX}{ok:List Str}(i j:Nat){y n hc:Str}{hp p1 p2 p3 pos tpos:Pos}(tp:TopF X)
  (hb:∀pins,SSs (tryB X pins fun _ _=>False) body m) (hx:∀pins F S E,zoV (tryB X pins F) S E->XSs (tryB X pins F) S E body x)
  (hcat:CatOk X.K X.mg hc ok)
  (hN:X.N.Nodup) (hi:X.N[i]? =some y:=by rfl) (hj:X.N[j]? =some n:=by rfl) (hij:i≠j:=by decide)
  (ly:X.env.scope.names.lookup y=some .local:=by rfl) (ln:X.env.scope.names.lookup n=some .local:=by rfl) (hdn:(n==("__debug__":Str))=false:=by decide) (hcn:(n==("__classdict__":Str))=false:=by decide) (hg:Gl X hc:=by rfl) (hdh:(hc==("__debug__":Str))=false:=by decide) (hsw:swapsWith (.Name n p2) (some (.Name y p1)) p3.line X.env=pure false:=by rfl):
  SS X (.Try body [.ExceptHandler (some (.Name hc hp)) (some n) [.Assign [.Name y p1] (.Name n p2) p3] pos] [] [] tpos) (sTry m x ok i j):=by
 refine⟨fun D σ H=>∀pins s,Inv X pins σ H s->wpAny (model X.prog X.w) X.A (exec (.Try body [.ExceptHandler (some (.Name hc hp)) (some n) [.Assign [.Name y p1] (.Name n p2) p3] pos] [] [] tpos) X.env) (SP X pins D) X.xe s,fun pins s σ H D I h=>h pins s I,fun B G H σ ρ fl ρ' D I hmm k pins s J=>wpAny_Try_except ?_⟩;unfold sTry at hmm;obtain⟨CS,hm,hok⟩:=hcat;cases ex:x ρ with
 |none=>
  rw[ex]at hmm;obtain⟨t,pt,so⟩:=hb pins;refine qau (pt [] s σ H D (zrc J) (so B G H σ ρ fl ρ' D I hmm k)) (fun f s1 q=>?_) fun _ _ q=>q.elim
  have q:=sp_untry q;cases f with
  |next=>exact qay q
  |brk=>exact q
  |cont=>exact q
  |ret u=>exact q
 |some c=>
  rw[ex]at hmm;dsimp only at hmm
  split at hmm
  ·rename_i no
   split at hmm
   ·rename_i okc;cases hmm;obtain⟨C',hC,hS⟩:=hok c okc
    let E2:XK:=fun C _ H'=>∃C',C= .ref C'/\W.exmOne X.K (.ref C') (.ref CS)=some true/\∀a,H' a=none->D.nx ((σ.set i (some (.ref a))).set j none) (upd H' a (.ext (znL a C')))
    obtain⟨t,pt,so⟩:=hx pins (fun e s₁=>wpAny (model X.prog X.w) X.A (noteFrame e X.env) (fun _ s₂=>wpAny (model X.prog X.w) X.A (setFlight e none) (fun _ s₃=>wpAny (model X.prog X.w) X.A (handleBy e X.env [.ExceptHandler (some (.Name hc hp)) (some n) [.Assign [.Name y p1] (.Name n p2) p3] pos]) (SP X pins D) X.xe s₃) X.xe s₂) X.xe s₁) (fun σ'=>σ'=σ) E2
     (fun pins' σ' H1 s1 e s' J1 hσ cx => by
      subst hσ;exact caught tp (zf2 J1) hN hi hj hij ly ln hdn hcn hg hm hdh hsw (fun C H' q=>q) cx)
    have VI:SI X.K ⟨G,H,[]⟩ G H σ ρ:=(VS.of I no).si I.fz;refine qau (pt [] s σ H {nx:=fun _ _=>False,rt:=fun _ _=>False} (zrc J) (so ⟨G,H,[]⟩ G H σ ρ c VI rfl ex (fun H' C kp hC2=>?_) _)) (fun f s1 q=>?_) fun _ _ q=>q
    ·have hC2:W.nsIn X.K mainGlobals c=some (some (.ref C)):=hC2;have:C=C':=by rw[hC]at hC2;cases hC2;rfl
     subst this;have fz:Fz H H':=fun b o q=>kp b o q (by simp)
     refine⟨C,rfl,hS,fun a ha=>?_⟩;have I2:SI X.K B G H' σ ρ:=I.grow (Fz.refl G) (I.fz.trans fz) (fun b o e=> .inl (nn e)) fz;have I3:=(I2.allocF ha (.ext (znL a C))).set (i:=i) (v:= .ref a) (d:= .exc c) ⟨a,C,rfl,hC,zaF⟩;exact k _ _ _ (I3.drop j) (Fz.new (I2.fz.free ha) _)
    ·cases f with
     |next=>obtain⟨_,_,_,z⟩:=q;exact z.elim
     |brk=>obtain⟨_,_,_,z⟩:=q;exact z.elim
     |cont=>obtain⟨_,_,_,z⟩:=q;exact z.elim
     |ret u=>obtain⟨_,_,_,_,_,z⟩:=q;exact z.elim
   ·cases hmm
  ·cases hmm
noncomputable def rIsO (K:W.Frag)(cv:Value):List V->Hp->VK->Prop:=fun xs H Q=>∃a C u b,xs=[.ref a,u]/\(∀w,RelV u w->w=cv)/\H a=some (.ext (znL a C))/\ExcC K C/\W.kitOne K (.ref C) cv=some b/\Q (.bl b) H
theorem call_isO (cv:Value):zge X (.builtin "isinstance") (rIsO X.K cv):=by
 intro pins s σ H xs us Q I r h;obtain⟨a,C,v,b,rfl,rv,ea,f,e,q⟩:=h;obtain⟨u,w',rfl,r1,r2⟩:=vals2 r;cases(show u=Value.ref a from r1);have:w'=cv:=rv w' r2;subst this;exact zpF f I.kIn (I.hok a _ ea).1 e fun tk=>⟨.bl b,H,I.tok _,rfl,q⟩
noncomputable def eIsO (tab:List (Str×Bool))(ma:ME):ME:=fun ρ=>(ma ρ).bind fun p=>match p.1 with
 | .exc c=>(tab.lookup c).map fun b=>(.bl b,p.2)
 |_=>none
noncomputable abbrev zpS (K:W.Frag)(cv:Value)(tab:List (Str×Bool)):Prop:=∀c b,tab.lookup c=some b->∃C,zpI K c C/\ExcC K C/\W.kitOne K (.ref C) cv=some b
section
variable {X:Cx} {a:Expr} {ma:ME} {p q pos:Pos} {tab:List (Str×Bool)} {x:Str}
theorem zj9 {v:V}{b:Expr}(hcv:∀w,RelV v w->w=cv)(ml:X.mg "isinstance"=none)(ht:zpS X.K cv tab)(ha:SE X a ma)(pb:PE X b (tC v))(hg:Gl X "isinstance":=by rfl)
  (he:starEach [a,b] X.env=(false,eval a X.env)::starEach [b] X.env:=by rfl) (he2:starEach [b] X.env=(false,eval b X.env)::starEach [] X.env:=by rfl) (hpl:(backTo pos (starEach [b] X.env)).any (·.1)=false:=by rfl):
  SE X (.Call (.Name "isinstance" p) [a,b] [] pos) (eIsO tab ma):=by
 obtain⟨ta,pa,sa⟩:=ha;refine⟨_,zic (call_isO cv) hg ml boot_isinstance (zb4 pa (zb4 pb ziz he2) he) (by decide) (by decide) he hpl,fun B G H σ ρ d ρ' Q I hm k=>?_⟩;obtain⟨⟨y,ρ1⟩,e1,hm⟩:=zae hm;refine sa B G H σ ρ y ρ1 _ I e1 fun G1 H1 u I1 f1 r1=>?_
 cases y with
 |exc c=>
  obtain⟨b,e2,e3⟩:=zat hm;cases e3;obtain⟨C,hC,f,hk⟩:=ht c b e2;obtain⟨a',C',rfl,hC',ga⟩:=r1;have hC':W.nsIn X.K mainGlobals c=some (some (.ref C')):=hC';have:C'=C:=by rw[hC]at hC';cases hC';rfl
  subst this;exact⟨a',C',v,b,rfl,hcv,I1.fz _ _ ga,f,hk,k G1 H1 _ I1 f1 rfl⟩
 |non=>cases hm
 |bl _=>cases hm
 |int _=>cases hm
 |str _=>cases hm
 |lst _=>cases hm
 |tup _=>cases hm
 |scr _=>cases hm
 |dic _ _=>cases hm
 |dit _ _=>cases hm
theorem se_isO {C2:Addr}(ml:X.mg "isinstance"=none)(mC:X.mg x=some (.ref C2))(ht:zpS X.K (.ref C2) tab)(ha:SE X a ma)(hg:Gl X "isinstance":=by rfl)(hgx:Gl X x:=by rfl)(hd:(x==("__debug__":Str))=false:=by decide)
  (he:starEach [a,.Name x q] X.env=(false,eval a X.env)::starEach [.Name x q] X.env:=by rfl) (he2:starEach [.Name x q] X.env=(false,eval (.Name x q) X.env)::starEach [] X.env:=by rfl) (hpl:(backTo pos (starEach [.Name x q] X.env)).any (·.1)=false:=by rfl):
  SE X (.Call (.Name "isinstance" p) [a,.Name x q] [] pos) (eIsO tab ma):=zj9 (v:= .ref C2) (fun w r=>r) ml ht ha (pe_glob hgx mC rfl hd) hg he he2 hpl
theorem se_isOT {T:String}(ml:X.mg "isinstance"=none)(mT:X.mg x=none)(hbT:bootBuiltins x=some (.type T))(ht:zpS X.K (.type T) tab)(ha:SE X a ma)(hg:Gl X "isinstance":=by rfl)(hgx:Gl X x:=by rfl)(hn:x≠"__name__":=by decide)(hd:(x==("__debug__":Str))=false:=by decide)
  (he:starEach [a,.Name x q] X.env=(false,eval a X.env)::starEach [.Name x q] X.env:=by rfl) (he2:starEach [.Name x q] X.env=(false,eval (.Name x q) X.env)::starEach [] X.env:=by rfl) (hpl:(backTo pos (starEach [.Name x q] X.env)).any (·.1)=false:=by rfl):
  SE X (.Call (.Name "isinstance" p) [a,.Name x q] [] pos) (eIsO tab ma):=zj9 (v:= .ty T) (fun w r=>r) ml ht ha (zrl (v:= .ty T) hgx mT hbT rfl hn hd) hg he he2 hpl
end
noncomputable abbrev IsOk (K:W.Frag)(mg:Str->Option Value)(c:Str)(tab:List (Str×Bool)):Prop:=∃C2,mg c=some (.ref C2)/\zpS K (.ref C2) tab
theorem zeS {a:Expr}{ma:ME}{p q pos:Pos}(ml:X.mg "isinstance"=none)(h:IsOk X.K X.mg x tab)(ha:SE X a ma)(hg:Gl X "isinstance":=by rfl)(hgx:Gl X x:=by rfl)(hd:(x==("__debug__":Str))=false:=by decide)
  (he:starEach [a,.Name x q] X.env=(false,eval a X.env)::starEach [.Name x q] X.env:=by rfl) (he2:starEach [.Name x q] X.env=(false,eval (.Name x q) X.env)::starEach [] X.env:=by rfl) (hpl:(backTo pos (starEach [.Name x q] X.env)).any (·.1)=false:=by rfl):
  SE X (.Call (.Name "isinstance" p) [a,.Name x q] [] pos) (eIsO tab ma):=let⟨_,h1,h2⟩:=h;se_isO ml h1 h2 ha hg hgx hd he he2 hpl
theorem cat_nil {P:Str->Prop}:∀c,([]:List Str).contains c=true->P c:=fun c h=>by simp at h
theorem zoO {P:Str->Prop}{d:Str}{ok:List Str}(h:P d)(t:∀c,ok.contains c=true->P c):∀c,(d::ok).contains c=true->P c:=fun c hc=>by
 rw[List.contains_cons,qbB]at hc;rcases hc with hc|hc
 ·rw[eq_of_beq hc];exact h
 ·exact t c hc
theorem zel {P:Str->Bool->Prop}:∀c b,([]:List (Str×Bool)).lookup c=some b->P c b:=fun c b h=>by cases h
theorem zaQ {P:Str->Bool->Prop}{b0:Bool}(h:P d b0)(t:∀c b,tab.lookup c=some b->P c b):∀c b,((d,b0)::tab).lookup c=some b->P c b:=fun c b hc=>by
 rw[qbK]at hc;cases z:c==d with
 |true=>rw[z]at hc;cases hc;rw[eq_of_beq z];exact h
 |false=>rw[z]at hc;exact t c b hc
theorem zbA {sl:Array (Option Value)}(l:K.lookup C=some ⟨oc,od,.cls cd,sl⟩):(W.clsIn K C).isSome=true:=by
 unfold W.clsIn;have l':List.lookup C K=some ⟨oc,od,.cls cd,sl⟩:=l;rw[l'];rfl
theorem zoo (h:W.mroIn K C (.type "BaseException")=some true):W.exmOne K (.ref C) (.type "BaseException")=some true:=by
 unfold W.exmOne W.kitCls;have e1:W.subIn K (.type "BaseException") (.type "BaseException")=some true:=by unfold W.subIn;dsimp only;decide+kernel
 have e2:W.kitMeta "BaseException"=true:=by decide+kernel
 rw[e1,if_pos (by rfl)];dsimp only;rw[if_pos e2];exact h
theorem zrA (hb:W.mroIn K CS (.type "BaseException")=some true)(hc:(W.clsIn K CS).isSome=true)(ht:W.typeIn K (.ref CS)=some (.type "type"))(hm:W.mroIn K C (.ref CS)=some true):W.exmOne K (.ref C) (.ref CS)=some true:=by
 unfold W.exmOne W.kitCls;have e1:W.subIn K (.ref CS) (.type "BaseException")=some true:=hb;rw[e1,if_pos (by rfl)];dsimp only;rw[hc,ht,if_pos (by rfl)];exact hm
theorem zqw {C C2:Addr}(hc:(W.clsIn K C2).isSome=true)(ht:W.typeIn K (.ref C2)=some (.type "type"))(hm:W.mroIn K C (.ref C2)=some b):W.kitCls K (.ref C) (.ref C2)=some b:=by
 unfold W.kitCls;dsimp only;rw[hc,ht,if_pos (by rfl)];exact hm
theorem zjs {C C2:Addr}(hc:(W.clsIn K C2).isSome=true)(ht:W.typeIn K (.ref C2)=some (.type "type"))(hm:W.mroIn K C (.ref C2)=some true):W.kitOne K (.ref C) (.ref C2)=some true:=by
 unfold W.kitOne
 split
 ·rfl
 ·exact zqw hc ht hm
theorem za2 {C C2:Addr}(hs:W.mroIn K C (.ref C)=some true)(hc:(W.clsIn K C2).isSome=true)(ht:W.typeIn K (.ref C2)=some (.type "type"))(hm:W.mroIn K C (.ref C2)=some false):W.kitOne K (.ref C) (.ref C2)=some false:=by
 unfold W.kitOne
 split
 ·rename_i z;have z:=eq_of_beq z;cases z;rw[hs]at hm;cases hm
 ·exact zqw hc ht hm
theorem zo4 {T:String}(hk:W.kitMeta T=true)(hm:W.mroIn K C (.type T)=some b):W.kitOne K (.ref C) (.type T)=some b:=by
 unfold W.kitOne W.kitCls;rw[if_neg (by simp)];dsimp only;rw[if_pos hk];exact hm
noncomputable def blsOf:List D->Option (List Bool)
 |[]=>some []
 | .bl b::ds=>(blsOf ds).map (b:: ·)
 |_=>none
theorem zo0:∀{ds:List D} {bs:List Bool},blsOf ds=some bs->ds=bs.map .bl
 |[],bs,h=>by cases h;rfl
 | .bl b::ds,bs,h=>by
  obtain⟨cs,e1,e2⟩:=zat h;cases e2;rw[zo0 e1];rfl
 | .non::_,_,h=>by cases h
 | .int _::_,_,h=>by cases h
 | .str _::_,_,h=>by cases h
 | .lst _::_,_,h=>by cases h
 | .tup _::_,_,h=>by cases h
 | .scr _::_,_,h=>by cases h
 | .exc _::_,_,h=>by cases h
 |(.dic _ _)::_,_,h=>by cases h
 |(.dit _ _)::_,_,h=>by cases h
theorem zqa:∀{bs:List Bool} {xs:List V},RepL K G xs (bs.map D.bl)->xs=bs.map V.bl
 |[],xs,h=>h
 |b::bs,xs,⟨x,ys,e,r,t⟩=>by rw[e,show x=V.bl b from r,zqa t];rfl
theorem zm4 (k:Bool):∀bs:List Bool,Spec.countIn (PyData.bool k) (bs.map PyData.bool)=(bs.count k:Nat)
 |[]=>rfl
 |b::bs=>by
  have ih:=zm4 k bs;show(if _ then(1:Int)else 0)+Spec.countIn (PyData.bool k) (bs.map PyData.bool)=_;rw[ih,List.count_cons];have h1:same (PyData.bool true) (PyData.bool true)=true:=by decide+kernel
  have h2:same (PyData.bool true) (PyData.bool false)=false:=by decide+kernel
  have h3:same (PyData.bool false) (PyData.bool true)=false:=by decide+kernel
  have h4:same (PyData.bool false) (PyData.bool false)=true:=by decide+kernel
  cases k<;>cases b<;>simp[h1,h2,h3,h4]<;>lia
theorem znm:∀{bs:List Bool} {us:List Value},Vals (bs.map V.bl) us->ReadsAll h us (bs.map PyData.bool) (bs.map fun _=>[]).flatten
 |[],us,r=>by cases r;exact .nil
 |b::bs,us,r=>by
  cases r with
  |cons r1 r2=>
   cases(show _=Value.bool b from r1);exact .cons (.bool b) (znm r2)
noncomputable def rCount (K:W.Frag):V->List V->Hp->VK->Prop:=fun x vs H Q=>∃(l:Addr) (bs:List Bool) (k:Bool),x= .ref l/\vs=[.bl k]/\SqL K H l (bs.map V.bl)/\Q (.int (bs.count k:Nat)) H
theorem mt_count:MtR X "list.count" (rCount X.K):=by
 intro pins s σ H x vs v us Q I rx rv h;obtain⟨l,bs,k,rfl,rfl,hq,q⟩:=h;cases rx;obtain⟨u,rfl,ru⟩:=rv.one;cases(show u=Value.bool k from ru);obtain⟨its,r,p,hz⟩:=I.list hq;refine count_list_bools p.isList (znm (h:=s.heap) r) (by simp[Spec.Shape.has]) ⟨.int (bs.count k:Nat),H,I.tok _,⟨_,by rw[zm4]⟩,q⟩
noncomputable def zoB:D->D->Option D
 | .lst ds,.bl k=>(blsOf ds).map fun bs=> .int (bs.count k:Nat)
 |_,_=>none
theorem se_count {o e:Expr}{mo me:ME}{apos cpos:Pos}(ho:SE X o mo)(he:SE X e me)
  (hbase:attributeBase o "count" X.env (eval o X.env)=eval o X.env:=by rfl)
  (hfew : ((backTo cpos (starEach [e] X.env)).all (fun x => !x.1) && (backToKw cpos (keywordEach [] X.env)).all (fun x => x.1.isSome)
   &&decide ([e].length+([]:List Keyword).length+(if([]:List Keyword).isEmpty then 0 else 1)<30))=true:=by rfl)
  (hline:(apos.endLine==cpos.line)=true:=by rfl) (hs:starEach [e] X.env=(false,eval e X.env)::starEach [] X.env:=by rfl):SE X (.Call (.Attribute o "count" apos) [e] [] cpos) (m2 zoB mo me):=by
 obtain⟨to,po,so⟩:=ho;obtain⟨te,pe,se⟩:=he;refine⟨_,pe_bm qbE PySem.F.slot_list_count PySem.F.type_list_count mt_count po (zb4 pe ziz hs) hbase hfew hline hs rfl,fun B G H σ ρ d ρ' Q I hm k=>?_⟩;obtain⟨⟨d1,ρ1⟩,e1,hm⟩:=zae hm;obtain⟨⟨d2,ρ2⟩,e2,hm⟩:=zae hm;obtain⟨d3,e3,hm⟩:=zat hm;cases hm;refine so B G H σ ρ d1 ρ1 _ I e1 fun G1 H1 v I1 f1 r1=>?_
 match d1,d2,e3 with
 | .lst ds,.bl b,e3=>
  obtain⟨bs,e4,e3⟩:=zat e3;cases e3;obtain⟨a,xs,rfl,ha,rr⟩:=r1;refine⟨.inl ⟨rfl,xs,SqL.of (I1.fz _ _ ha)⟩,?_⟩;refine se B G1 H1 σ ρ1 _ ρ2 _ I1 e2 fun G2 H2 u I2 f2 r2=>?_
  cases(show u=V.bl b from r2);cases zo0 e4;have ex:xs=bs.map V.bl:=zqa (rr.mono f2);subst ex;exact⟨a,bs,b,rfl,rfl,SqL.of (I2.fz _ _ (f2 _ _ ha)),k G2 H2 _ I2 (f1.trans f2) rfl⟩
noncomputable def zhz (mc:MT)(mb:MS):Nat->MS
 |0,_=>none
 |n+1,ρ=>(mc ρ).bind fun p=>if p.1 then(mb p.2).bind fun q=>match q.1 with
  | .next=>zhz mc mb n q.2
  | .cont=>zhz mc mb n q.2
  | .brk=>some (.next,q.2)
  | .ret r=>some (.ret r,q.2)
  else some (.next,p.2)
theorem zly {mb:MS}(fuel:Nat)(hp:PassesOwn (model X.prog X.w) X.A X.env X.xe)(hc:STt X c mc)(hb:SSs X body mb):SS X (.While c body [] pos) (zhz mc mb fuel):=by
 obtain⟨tc,pc,sc⟩:=hc;obtain⟨tb,pb,sb⟩:=hb;refine⟨_,ps_while hp pc pb,fun B G H σ ρ fl ρ' E I hm k=>?_⟩;refine⟨fun m σ' H'=>∃G' ρ1,SI X.K B G' H' σ' ρ1/\Fz G G'/\zhz mc mb m ρ1=some (fl,ρ'),⟨fuel,G,ρ,I,Fz.refl G,hm⟩,fun m σ1 H1 w=>?_⟩;obtain⟨G1,ρ1,I1,f1,e1⟩:=w;cases m with
 |zero=>cases e1
 |succ m=>
  obtain⟨⟨b,ρ2⟩,e2,e1⟩:=zae e1;refine sc B G1 H1 σ1 ρ1 b ρ2 _ I1 e2 fun G2 H2 I2 f2=>?_
  dsimp only at e1;cases b with
  |false=>
   rw[if_neg (by simp)]at e1 ⊢;cases e1;exact k G2 H2 σ1 I2 (f1.trans f2)
  |true=>
   rw[if_pos rfl]at e1 ⊢;obtain⟨⟨f,ρ3⟩,e3,e1⟩:=zae e1;refine⟨fun σ' H'=>∃G' ρ1,SI X.K B G' H' σ' ρ1/\Fz G G'/\zhz mc mb m ρ1=some (fl,ρ'),fun σ' H' h=>⟨m,qbM m,h⟩,?_⟩;refine sb B G2 H2 σ1 ρ2 f ρ3 _ I2 e3 ?_;have ff:=f1.trans f2;cases f with
   |next=>exact fun G' H' σ' I3 f3=>⟨G',ρ3,I3,ff.trans f3,e1⟩
   |cont=>exact fun G' H' σ' I3 f3=>⟨G',ρ3,I3,ff.trans f3,e1⟩
   |brk=>cases e1;exact fun G' H' σ' I3 f3=>k G' H' σ' I3 (ff.trans f3)
   |ret r=>cases e1;exact fun G' H' σ' v I3 f3 rr=>k G' H' σ' v I3 (ff.trans f3) rr
section
variable {X:Cx} {E:XK} {S:St->Prop}
theorem zmH {c m:Str}{np cp cpos pos:Pos}{j:Nat}(tp:TopF X)(hxe:X.xe=zrL X E)(hgl:X.env.globals=mainGlobals)(hc:X.calm=true)(hr:RaiOk X.K X.mg c)
  (hg:Gl X c:=by rfl) (hd:(c==("__debug__":Str))=false:=by decide)
  (he:starEach [Expr.Constant (.str m) j cp] X.env=(false,eval (.Constant (.str m) j cp) X.env)::starEach [] X.env:=by rfl) (hpl:((backTo cpos (starEach [] X.env)).any (·.1))=false:=by rfl):
  XS X S E (.Raise (some (.Call (.Name c np) [.Constant (.str m) j cp] [] cpos)) none pos) (fun _=>some c):=by
 obtain⟨C,hm,hn,hC⟩:=hr;refine⟨fun D σ H=>E (.ref C) none H,fun pins s σ H D I h=>?_,fun B G H σ ρ c' I hS hm' w D=>?_⟩
 ·obtain⟨mm,fr⟩:=I.fr;have own:=hC X.base X.mg c I.ok.mod.kin hm;have pa:=(zb4 (X:=X) (pe_str (X:=X) (x:=m) (j:=j) (pos:=cp)) ziz he) cpos pins s σ H (fun vs H1=>vs.length=1/\H1=H) I ⟨rfl,rfl⟩;have kd:X.env.kindOf c=some .globalImplicit:=hg;have gl:=I.ok.mod.glob.keeps fr.keep;rw[<-hgl]at gl;obtain⟨v1,v2,v3,v4,v5,v6,v7,v8,v9,v10,v11,v12,v13,v14,v15,v16,v17,o1,o2,o3,o4⟩:=own.obj;refine wpAny_Raise_call_subT (bm:=v1) (N:=v2) (nm:=v3) (q:=v4) (bs:=v5) (hdct:=v6) (sn:=v7) (sub:=v8) (ab:=v9) (col:=v10) (dd:=v11) (k0:=v12) (k1:=v13) (k2:=v14) (k3:=v15) (k5:=v16) F.excBase_ValueError (o4.hasType F.excBase_ValueError.hasBase) (I.ok.hd hc) ?pl o3 (qav I.ok.kind kd (Calls.loadGlobal_global gl own.bound ⟨rfl,?_⟩) hd)
  case pl=>rw[he];exact hpl
  rw[he]at pa ⊢;refine Calls.evalArgs_plain (qau pa (fun us s2 ⟨vs,H1,I1,r,q1,q2⟩=>?_) fun _ _ q=>q);subst q2;refine⟨rfl,?_,I1.bk _ _ o1,o2.keeps I1.bk,o4.keeps I1.bk,fun h' e mk=>raises1 (tk:=s2.toks) tp hxe I1 mk h⟩;rw[<-r.length,q1];decide
 ·cases hm';exact w H C (fun b o q hn=>I.keep b o q hn) hn
end
noncomputable def gS (j:Nat)(mi:ME):D->R->Option R:=fun d ρ=>if hasV ρ j then(mi ρ).bind fun q=>match q.1 with
 | .int k=>q.2[j]?.bind fun s=>s.items.bind fun ds=>(ixN ds.length k).bind fun n=>some (q.2.set j (s.put (ds.set n d)))
 |_=>none else none
section
variable {X:Cx}
theorem sg_sub (j:Nat){i:Expr}{mi:ME}{pos' tpos:Pos}(hi:SE X i mi)(hN:X.N[j]? =some x:=by rfl)(hv:Vis X.env.scope x:=by first|exact Or.inl rfl|exact Or.inr (Or.inl rfl)|exact Or.inr (Or.inr rfl))(hd:(x==("__debug__":Str))=false:=by decide)
    (hcd:(x==("__classdict__":Str))=false:=by decide)
    (ha : ∀ v, assign (.Subscript (.Name x pos') i tpos) X.env v = (do
      let ov<-holding [v] (eval (.Name x pos') X.env)
      let iv<-holding [v,ov] (eval i X.env)
      standAt tpos
      holding [v,ov,iv] (setItem ov iv v)
      release [v,ov,iv] []):=by exact fun _=>rfl):SG X (.Subscript (.Name x pos') i tpos) (gS j mi):=by
  obtain⟨u,q,z⟩:=hi;refine⟨_,pg_sub (zc1 hN hv hd hcd) q zoF ha,fun B G H σ ρ v d ρ' Q I r1 hm k=>?_⟩;unfold gS at hm
  split at hm
  . rename_i hh
    obtain⟨w,ew⟩:=I.has hh;obtain⟨⟨kd,ρ2⟩,e2,hm⟩:=zae hm;cases kd<;>try cases hm
    rename_i kk;obtain⟨s2,e3,hm⟩:=zae hm;obtain⟨ds,e4,hm⟩:=zae hm;obtain⟨n,e5,hm⟩:=zae hm;cases hm;refine⟨w,ew,z B G H σ ρ (.int kk) ρ2 _ I e2 fun G2 H2 y I2 f2 r2=>?_⟩;obtain⟨l,xs,k1,k2,k3,k4⟩:=I2.wr e3 e4;rw[ew]at k1;cases k1;refine⟨l,xs,kk,n,rfl,r2,k3,by rw[k4.length];exact e5,?_⟩;exact k G2 _ σ (I2.write e3 e4 ew (k4.set n (r1.mono f2))) f2
  . cases hm
end
end M
namespace M
open L2 PySem
noncomputable def likeS:Sl->Sl->Bool
 | .own ds,.own es=>match zbw ds,zbw es with
  |some a,some b=>a==b
  |_,_=>false
 | .par ds,.par es=>match zbw ds,zbw es with
  |some a,some b=>a==b
  |_,_=>false
 | .own _,_=>false
 | .par _,_=>false
 | .tre _,_=>false
 | .ptr _,_=>false
 |_,_=>true
end M
namespace M
open L2 PySem PySem.Spec
open PyProof.Rows hiding St
variable {s:Sl} {t:T} {ov:Option (Option V)} {a b:Addr} {i j:Nat} {v:V} {A:List Addr} {o:HO} {σ' σ:St} {ρ' ρ:R} {ds:List D} {K:W.Frag} {B:Bs} {G H:Hp} {q:List Int×List D}
noncomputable def Sl.putT (s:Sl)(t:T):Sl:=match s with
 | .tre _=> .tre t
 | .ptr _=> .ptr t
 |s=>s
noncomputable def Sl.tree:Sl->Option T
 | .tre t=>some t
 | .ptr t=>some t
 |_=>none
section
variable {K:W.Frag} {B:Bs} {G G' H H':Hp} {σ:St} {ρ:R}
theorem zo1 (q:s.tree=some t):OwS K G H ov a s↔∃v A,ov=some (some v)/\RepT K G H v t A/\a∈A:=by
 cases s with
 |tre _=>cases q;exact Iff.rfl
 |ptr _=>cases q;exact Iff.rfl
 |_=>cases q
theorem zqJ (q:s.tree=some t)(t':T):(s.putT t').tree=some t':=by
 cases s with
 |tre _=>rfl
 |ptr _=>rfl
 |_=>cases q
theorem SI.tree (I:SI K B G H σ ρ)(e:ρ[i]? =some s)(q:s.tree=some t):∃v A,σ[i]? =some (some v)/\RepT K G H v t A/\A.Nodup/\(∀a∈A,G a=none)/\∀a∈A,B.H a=none\/(i,a)∈B.O:=by
 have h:=I.slot i s e;cases s with
 |tre _=>cases q;obtain⟨v,A,h1,h2,h3,h4⟩:=h;exact⟨v,A,h1,h2,h3,fun a m=>(h4 a m).1,fun a m=> .inl (h4 a m).2⟩
 |ptr _=>cases q;obtain⟨v,A,h1,h2,h3,h4⟩:=h;exact⟨v,A,h1,h2,h3,fun a m=>(h4 a m).1,fun a m=>(h4 a m).2⟩
 |_=>cases q
theorem SI.chT (I:SI K B G H σ ρ){i:Nat}{t t':T}{A A':List Addr}(e:ρ[i]? =some s)(q:s.tree=some t)(hv:σ[i]? =some (some v))(r:RepT K G H v t A)(fz:Fz G H')(kp:∀b o,b∉A->H b=some o->H' b=some o)(th:∀b,H' b=none->H b=none)
  (r':RepT K G H' v t' A') (nd:A'.Nodup) (sub:∀a∈A',a∈A\/H a=none):SI K B G H' σ (ρ.set i (s.putT t')):=by
 obtain⟨v1,A1,h1,h2,h3,h4,h5⟩:=I.tree e q;rw[hv]at h1;cases h1;have:A1=A:=h2.det r fun _ _=>rfl
 subst this;have g':∀a∈A',G a=none:=fun a m=>by
  rcases sub a m with z|z
  ·exact h4 a z
  ·exact I.fz.free z
 have b':∀a∈A',B.H a=none\/(i,a)∈B.O:=fun a m=>by
  rcases sub a m with z|z
  ·exact h5 a z
  ·exact .inl (I.there a z)
 have h:=I.chg (i:=i) (ov:=some v) (s':=s.putT t') (G':=G) (H':=H') fz (Fz.refl G) I.new (fun b o k1 k2=>kp b o (fun m=>?_) (I.keep b o k1 k2)) (fun b k=>I.there b (th b k)) (fun j u a z ej w g ha=>?_) ?_
 ·rwa[zkH hv]at h
 ·rcases h5 b m with z|z
  ·rw[k1]at z;cases z
  ·exact k2 i z
 ·have na:a∉A1:=fun m=>I.dis j i u s a z ej e w ((zo1 q).mpr ⟨v,A1,hv,h2,m⟩)
  obtain⟨x,hx⟩:=qbx.mp ha;refine⟨g,(kp a x na hx).trans hx.symm,fun w'=>?_⟩;obtain⟨v2,A2,k1,k2,k3⟩:=(zo1 (zqJ q t')).mp w';cases k1;rw[k2.det r' fun _ _=>rfl]at k3;rcases sub a k3 with z|z
  ·exact na z
  ·exact ha z
 ·have sl:=I.slot i s e;cases s with
  |tre _=>
   obtain⟨v2,A2,k1,k2,k3,k4⟩:=sl;rw[hv]at k1;cases k1;cases q;have:A2=A1:=k2.det h2 fun _ _=>rfl
   subst this;refine⟨v,A',rfl,r',nd,fun a m=>⟨g' a m,?_⟩⟩;rcases sub a m with z|z
   ·exact(k4 a z).2
   ·exact I.there a z
  |ptr _=>exact⟨v,A',rfl,r',nd,fun a m=>⟨g' a m,b' a m⟩⟩
  |_=>cases q
theorem SI.setT (I:SI K B G H σ ρ)(r:RepT K G H v t A)(nd:A.Nodup)(hA:∀a∈A,G a=none/\B.H a=none/\Nw K G H σ ρ a):SI K B G H (σ.set i (some v)) (ρ.set i (.tre t)):=
 I.chg I.fz (Fz.refl G) I.new I.keep I.there (fun j s a _ e w g _=>⟨g,rfl,fun⟨v2,A2,k1,k2,k3⟩=>by
  cases k1;rw[k2.det r fun _ _=>rfl]at k3;exact(hA a k3).2.2 j s e w⟩) ⟨v,A,rfl,r,nd,fun a m=>⟨(hA a m).1,(hA a m).2.1⟩⟩
open Classical in
noncomputable def Bs.re (B:Bs)(K:W.Frag)(G H:Hp)(σ:St)(ρ:R):Bs:=⟨G,fun b=>if(∃(i:Nat) (s:Sl),ρ[i]? =some s/\OwS K G H σ[i]? b s)/\B.H b=none then none else H b,B.O⟩
theorem ziV (I:SI K B G H σ ρ)(h:(B.re K G H σ ρ).H b=none):B.H b=none:=by
 unfold Bs.re at h;dsimp only at h
 split at h
 ·rename_i w;exact w.2
 ·exact I.there b h
theorem zql (e:ρ[i]? =some s)(w:OwS K G H σ[i]? b s)(n:B.H b=none):(B.re K G H σ ρ).H b=none:=by
 unfold Bs.re;dsimp only;rw[if_pos ⟨⟨i,s,e,w⟩,n⟩]
theorem zq8 (h:H b=some o)(n:Nw K G H σ ρ b):(B.re K G H σ ρ).H b=some o:=by
 unfold Bs.re;dsimp only;rw[if_neg fun w=>by obtain⟨⟨i,s,e,w⟩,_⟩:=w;exact n i s e w];exact h
theorem SI.re (I:SI K B G H σ ρ):SI K (B.re K G H σ ρ) G H σ ρ where
 fz:=I.fz
 g0:=Fz.refl G
 new:=fun b o e=> .inl (by show G b≠none;rw[e];simp)
 keep:=fun b o e _=>by
  unfold Bs.re at e;dsimp only at e
  split at e
  ·cases e
  ·exact e
 there:=fun b e=>by
  unfold Bs.re;dsimp only
  split
  ·rfl
  ·exact e
 ob:=fun i b m=>by
  have hb:=I.ob i b m;unfold Bs.re;dsimp only;rw[if_neg fun w=>hb w.2];exact fun z=>hb (I.there b z)
 len:=I.len
 slot:=fun i s e=>by
  have h:=I.slot i s e;cases s with
  |emp=>trivial
  |two _ _=>trivial
  |val d=>exact h
  |own ds=>obtain⟨l,xs,k1,k2,k3,k4,k5⟩:=h;exact⟨l,xs,k1,k2,k3,k4,zql e k1 k5⟩
  |par ds=>exact h
  |tre t=>obtain⟨v,A,k1,k2,k3,k4⟩:=h;exact⟨v,A,k1,k2,k3,fun a m=>⟨(k4 a m).1,zql e ⟨v,A,k1,k2,m⟩ (k4 a m).2⟩⟩
  |ptr t=>
   obtain⟨v,A,k1,k2,k3,k4⟩:=h;refine⟨v,A,k1,k2,k3,fun a m=>⟨(k4 a m).1,?_⟩⟩;rcases(k4 a m).2 with z|z
   ·exact .inl (zql e ⟨v,A,k1,k2,m⟩ z)
   ·exact .inr z
 dis:=I.dis
theorem SI.unre (I:SI K B G H σ ρ)(J:SI K (B.re K G H σ ρ) G' H' σ' ρ'):SI K B G' H' σ' ρ' where
 fz:=J.fz
 g0:=I.g0.trans J.g0
 new:=fun b o e=>by
  rcases J.new b o e with z|z
  ·cases q:G b with
   |none=>exact absurd q z
   |some u=>exact I.new b u q
  ·exact .inr (ziV I z)
 keep:=fun b o e n=>J.keep b o (by
  unfold Bs.re;dsimp only;rw[if_neg fun w=>by rw[w.2]at e;cases e];exact I.keep b o e n) n
 there:=fun b e=>ziV I (J.there b e)
 ob:=I.ob
 len:=J.len
 slot:=fun i s e=>by
  have h:=J.slot i s e;cases s with
  |emp=>trivial
  |two _ _=>trivial
  |val d=>exact h
  |own ds=>obtain⟨l,xs,k1,k2,k3,k4,k5⟩:=h;exact⟨l,xs,k1,k2,k3,k4,ziV I k5⟩
  |par ds=>exact h
  |tre t=>obtain⟨v,A,k1,k2,k3,k4⟩:=h;exact⟨v,A,k1,k2,k3,fun a m=>⟨(k4 a m).1,ziV I (k4 a m).2⟩⟩
  |ptr t=>
   obtain⟨v,A,k1,k2,k3,k4⟩:=h;refine⟨v,A,k1,k2,k3,fun a m=>⟨(k4 a m).1,?_⟩⟩;rcases(k4 a m).2 with z|z
   ·exact .inl (ziV I z)
   ·exact .inr z
 dis:=J.dis
theorem SI.re_stays (I:SI K B G H σ ρ)(J:SI K (B.re K G H σ ρ) G' H' σ' ρ')(h:H b=some o)(n:Nw K G H σ ρ b)(hg:G b=none)(hB:B.H b=none):H' b=some o/\G' b=none/\Nw K G' H' σ' ρ' b:=by
 have hb:(B.re K G H σ ρ).H b=some o:=zq8 h n;have hO:∀i,(i,b)∉B.O:=fun i m=>I.ob i b m hB
 refine⟨J.keep b o hb hO,?_,fun i s e w=>?_⟩
 ·cases q:G' b with
  |none=>rfl
  |some u=>
   rcases J.new b u q with z|z
   ·exact absurd hg z
   ·rw[hb]at z;cases z
 ·rcases((J.slot i s e).own w).2.2 with z|z
  ·rw[hb]at z;cases z
  ·exact hO i z
end
section
variable {J κ:Type} [DecidableEq J] [DecidableEq κ]
noncomputable def lkD:List J->List D->J->Option D
 |k::ks,d::ds,j=>if k=j then some d else lkD ks ds j
 |_,_,_=>none
noncomputable def ptD (ks:List J)(ds:List D)(j:J)(d:D):List J×List D:=if ks.contains j then(ks,List.zipWith (fun k x=>if k=j then d else x) ks ds)else(ks++[j],ds++[d])
variable {K:W.Frag} {G:Hp} {em:J->κ}
theorem zoa (inj:∀a b,em a=em b->a=b):∀{ks:List J} {ds:List D} {ys:List (κ×V)} {j:J} {d:D},ys.map (·.1)=ks.map em->RepL K G (ys.map (·.2)) ds->lkD ks ds j=some d->∃v,valV ys (em j)=some v/\RepD K G v d
 |[],_,_,_,_,_,_,h=>by cases h
 |_::_,[],_,_,_,_,_,h=>by cases h
 |k::ks,x::ds,[],j,d,e,_,_=>by cases e
 |k::ks,x::ds,y::ys,j,d,e,⟨z,zs,e1,r1,r2⟩,h=>by
  cases e1;have e2:=List.cons.inj e;unfold lkD at h
  by_cases q:k=j
  ·rw[if_pos q]at h;cases h;subst q;exact⟨y.2,zjx e2.1,r1⟩
  ·rw[if_neg q]at h;obtain⟨v,h1,h2⟩:=zoa inj e2.2 r2 h;refine⟨v,?_,h2⟩;rw[zig fun z=>q (inj _ _ (e2.1.symm.trans z)),h1]
theorem zqD (inj:∀a b,em a=em b->a=b):∀{ks:List J} {ds:List D} {ys:List (κ×V)} {j:J},ys.map (·.1)=ks.map em->RepL K G (ys.map (·.2)) ds->lkD ks ds j=none->valV ys (em j)=none
 |[],_,[],_,_,_,_=>rfl
 |[],_,_::_,_,e,_,_=>by cases e
 |_::_,_,[],_,e,_,_=>by cases e
 |k::ks,[],y::ys,_,_,r,_=>by cases r
 |k::ks,x::ds,y::ys,j,e,⟨z,zs,e1,r1,r2⟩,h=>by
  cases e1;have e2:=List.cons.inj e;unfold lkD at h
  by_cases q:k=j
  ·rw[if_pos q]at h;cases h
  ·rw[if_neg q]at h;rw[zig fun z=>q (inj _ _ (e2.1.symm.trans z)),zqD inj e2.2 r2 h]
theorem zqe (inj:∀a b,em a=em b->a=b){ks:List J}{ys:List (κ×V)}{j:J}(e:ys.map (·.1)=ks.map em)(r:RepL K G (ys.map (·.2)) ds):(valV ys (em j)).isSome=(lkD ks ds j).isSome:=by
 cases h:lkD ks ds j with
 |none=>rw[zqD inj e r h];rfl
 |some d=>obtain⟨v,h1,_⟩:=zoa inj e r h;rw[h1];rfl
theorem pt_rep (inj:∀a b,em a=em b->a=b){ks:List J}{ys:List (κ×V)}{j:J}{d:D}(e:ys.map (·.1)=ks.map em)(r:RepL K G (ys.map (·.2)) ds)(rv:RepD K G v d):
  (putK ys (em j) v).map (·.1)=(ptD ks ds j d).1.map em/\RepL K G ((putK ys (em j) v).map (·.2)) (ptD ks ds j d).2:=by
 have any:(ys.any fun kv=>decide (kv.1=em j))=ks.contains j:=by
  clear r
  induction ys generalizing ks with
  |nil=>cases ks with
   |nil=>rfl
   |cons _ _=>cases e
  |cons y ys ih=>cases ks with
   |nil=>cases e
   |cons k ks=>
    have e2:=List.cons.inj e;rw[qbo,ih e2.2,List.contains_cons];congr 1
    by_cases q:j=k
    ·subst q;simp[e2.1]
    ·rw[qaa (fun z=>q (inj _ _ (e2.1.symm.trans z)).symm)];simp[q]
 unfold putK ptD;rw[any]
 by_cases q:ks.contains j=true
 ·rw[if_pos q,if_pos q]
  constructor
  ·rw[qch,<-e];apply qci;intro a _;simp only[Function.comp]
   split<;>rfl
  ·clear any q;rw[qch]
   induction ys generalizing ks ds with
   |nil=>cases ks with
    |nil=>exact RepL.nil
    |cons _ _=>cases e
   |cons y ys ih=>cases ks with
    |nil=>cases e
    |cons k ks=>
     have e2:=List.cons.inj e;cases ds with
     |nil=>cases r
     |cons x ds=>
      obtain⟨z,zs,e1,r1,r2⟩:=r;cases e1;refine RepL.cons ?_ (ih e2.2 r2);simp only[Function.comp]
      by_cases q:k=j
      ·rw[if_pos q,if_pos (by rw[<-q];exact e2.1)];exact rv
      ·rw[if_neg q,if_neg fun z=>q (inj _ _ (e2.1.symm.trans z))];exact r1
 ·rw[if_neg q,if_neg q];rw[qcj,qcj,qcj,e];exact⟨rfl,r.append (.cons rv .nil)⟩
end
theorem zri (a b:Int)(h:kI a=kI b):a=b:=by cases h;rfl
noncomputable def Sl.dic:Sl->Option (List Int×List D)
 | .tre (.dic ks ds)=>some (ks,ds)
 | .ptr (.dic ks ds)=>some (ks,ds)
 | .val (.dic ks ds)=>some (ks,ds)
 |_=>none
theorem SI.dic (I:SI K B G H σ ρ)(e:ρ[j]? =some s)(h:s.dic=some q):∃p ys,σ[j]? =some (some (.ref p))/\Rd H p (.dK ys)/\ys.map (·.1)=q.1.map kI/\RepL K G (ys.map (·.2)) q.2:=by
 have tr:∀{t:T},s.tree=some t->t= .dic q.1 q.2->∃p ys,σ[j]? =some (some (.ref p))/\Rd H p (.dK ys)/\ys.map (·.1)=q.1.map kI/\RepL K G (ys.map (·.2)) q.2:=fun{t} h1 h2=>by
  subst h2;obtain⟨v,A,k1,k2,_⟩:=I.tree e h1;obtain⟨p,ys,rfl,e2,e3,e4,-⟩:=k2;exact⟨p,ys,k1,.inl e2,e3,e4⟩
 cases s with
 |tre t=>cases t with
  |dic ks ds=>cases h;exact tr rfl rfl
  |_=>cases h
 |ptr t=>cases t with
  |dic ks ds=>cases h;exact tr rfl rfl
  |_=>cases h
 |val d=>cases d with
  |dic ks ds=>
   cases h;obtain⟨v,k1,a,ys,rfl,e2,e3,e4⟩:=I.slot j _ e;exact⟨a,ys,k1,e2.imp (I.fz _ _) fun⟨o,z⟩=>⟨o,I.fz _ _ z⟩,e3,e4⟩
  |_=>cases h
 |_=>cases h
noncomputable def tDI (j:Nat)(neg:Bool)(mk:ME):MT:=fun ρ=>(mk ρ).bind fun p=>match p.1 with
 | .int k=>(p.2[j]?.bind Sl.dic).map fun q=>(((lkD q.1 q.2 k).isSome !=neg),p.2)
 |_=>none
noncomputable def eDG (j:Nat)(mk:ME):ME:=fun ρ=>if(ρ[j]?.bind Sl.dic).isSome then(mk ρ).bind fun p=>match p.1 with
 | .int k=>(p.2[j]?.bind Sl.dic).bind fun q=>(lkD q.1 q.2 k).map fun d=>(d,p.2)
 |_=>none else none
noncomputable def sDP (j:Nat)(mk me:ME):MS:=fun ρ=>(me ρ).bind fun p=>if(p.2[j]?.bind Sl.dic).isSome then(mk p.2).bind fun q=>match q.1 with
 | .int k=>q.2[j]?.bind fun s=>match s.tree with
  |some (.dic ks ds)=>if ks.length<16777216 then some (.next,q.2.set j (s.putT (.dic (ptD ks ds k p.1).1 (ptD ks ds k p.1).2)))else none
  |_=>none
 |_=>none else none
noncomputable def sDN (i:Nat):MS:=fun ρ=>some (.next,ρ.set i (.tre (.dic [] [])))
section
variable {X:Cx} {x:Str} {a e:Expr} {mk me:ME} {pos p' tpos:Pos}
theorem zpY (j:Nat)(hu:X.A.units+64<cLine)(ha:SE X a mk)(hN:X.N[j]? =some x:=by rfl)(hv:Vis X.env.scope x:=by first|exact Or.inl rfl|exact Or.inr (Or.inl rfl)|exact Or.inr (Or.inr rfl))(hd:(x==("__debug__":Str))=false:=by decide)
  (hcd:(x==("__classdict__":Str))=false:=by decide) (hm:behindInMarks .NotIn (.Name x p')=false:=by rfl):STt X (.Compare a [.NotIn] [.Name x p'] pos) (tDI j true mk):=by
 obtain⟨t,pa,sa⟩:=ha;refine⟨_,pt_cmp (zp6 (by lia) pa (zc1 hN hv hd hcd)) hm,fun B G H σ ρ b ρ' Q I hm k=>?_⟩;obtain⟨⟨y,ρ1⟩,e1,hm⟩:=zae hm;refine sa B G H σ ρ y ρ1 _ I e1 fun G1 H1 v I1 f1 r1=>?_
 cases y<;>try cases hm
 rename_i n;obtain⟨q,e2,e3⟩:=zat hm;cases e3;obtain⟨s,e4,e5⟩:=zae e2;obtain⟨p,ys,k1,k2,k3,k4⟩:=I1.dic e4 e5;refine⟨.ref p,k1,p,valV ys (kI n),rfl,by rw[show v=kV (kI n)from r1];exact .inl ⟨ys,kI n,k2,rfl,rfl⟩,_,rfl,?_⟩;rw[zqe zri k3 k4];have:=k G1 H1 I1 f1;simpa using this
theorem se_dGet (j:Nat)(hu:X.A.units+64<cLine)(ha:SE X a mk)(hs:NoSl a:=by exact fun _ _=>rfl)(hN:X.N[j]? =some x:=by rfl)(hv:Vis X.env.scope x:=by first|exact Or.inl rfl|exact Or.inr (Or.inl rfl)|exact Or.inr (Or.inr rfl))(hd:(x==("__debug__":Str))=false:=by decide)
  (hcd:(x==("__classdict__":Str))=false:=by decide):SE X (.Subscript (.Name x p') a pos) (eDG j mk):=by
 obtain⟨t,pa,sa⟩:=ha;refine⟨_,pe_dget (by lia) (zc1 hN hv hd hcd) pa hs,fun B G H σ ρ d ρ' Q I hm k=>?_⟩;unfold eDG at hm
 split at hm
 ·rename_i hso;obtain⟨q0,hso⟩:=qaT.mp hso;obtain⟨s0,e0,d0⟩:=zae hso;obtain⟨p,ys,k1,_⟩:=I.dic e0 d0;obtain⟨⟨y,ρ1⟩,e1,hm⟩:=zae hm;refine⟨.ref p,k1,sa B G H σ ρ y ρ1 _ I e1 fun G1 H1 v I1 f1 r1=>?_⟩;cases y<;>try cases hm
  rename_i n;obtain⟨q,e2,hm⟩:=zae hm;obtain⟨d',e3,e4⟩:=zat hm;cases e4;obtain⟨s,e5,e6⟩:=zae e2;obtain⟨p',ys,m1,m2,m3,m4⟩:=I1.dic e5 e6;rw[k1]at m1;cases m1;obtain⟨w,h1,h2⟩:=zoa zri m3 m4 e3;exact⟨p,w,rfl,by rw[show v=kV (kI n)from r1,<-h1];exact .inl ⟨ys,kI n,m2,rfl,rfl⟩,k G1 H1 w I1 f1 h2⟩
 ·cases hm
theorem ss_dPut (j:Nat)(hu:X.A.units+64<cLine)(he:SE X e me)(ha:SE X a mk)(hN:X.N[j]? =some x:=by rfl)(hv:Vis X.env.scope x:=by first|exact Or.inl rfl|exact Or.inr (Or.inl rfl)|exact Or.inr (Or.inr rfl))(hd:(x==("__debug__":Str))=false:=by decide)
    (hcd:(x==("__classdict__":Str))=false:=by decide) (hs:swapsWith e (some (.Subscript (.Name x p') a tpos)) pos.line X.env=pure false:=by rfl):SS X (.Assign [.Subscript (.Name x p') a tpos] e pos) (sDP j mk me):=by
  obtain⟨t,pa,sa⟩:=ha;obtain⟨u,pe,se⟩:=he;refine⟨_,ps_dput (by lia) (zc1 hN hv hd hcd) pa pe hs,fun B G H σ ρ fl ρ' E I hm k=>?_⟩;obtain⟨⟨d,ρ1⟩,e1,hm⟩:=zae hm;refine se B G H σ ρ d ρ1 _ I e1 fun G1 H1 v I1 f1 r1=>?_
  split at hm
  . rename_i hso
    obtain⟨q0,hso⟩:=qaT.mp hso;obtain⟨s0,e0,d0⟩:=zae hso;obtain⟨p,ys0,k1,_⟩:=I1.dic e0 d0;obtain⟨⟨y,ρ2⟩,e2,hm⟩:=zae hm;refine⟨.ref p,k1,sa B G1 H1 σ ρ1 y ρ2 _ I1 e2 fun G2 H2 w I2 f2 r2=>?_⟩;cases y<;>try cases hm
    rename_i n;obtain⟨s,e3,hm⟩:=zae hm
    split at hm
    . rename_i ks ds q
      split at hm
      . rename_i hl
        cases hm;obtain⟨v2,A,h1,h2,h3,h4,h5⟩:=I2.tree e3 q;rw[k1]at h1;cases h1;obtain⟨p2,ys,z,g2,g3,g4,rfl⟩:=h2;cases z;have len:ys.length=ks.length:=by have:=congrArg List.length g3;simpa using this
        obtain⟨m1,m2⟩:=pt_rep zri (j:=n) g3 g4 (r1.mono f2);have rep:RepT X.K G2 (upd H2 p (.dK (putK ys (kI n) v))) (.ref p) (.dic (ptD ks ds n d).1 (ptD ks ds n d).2) [p]:=⟨p,_,rfl,zaF,m1,m2,rfl⟩;refine⟨p,_,rfl,by rw[show w=kV (kI n)from r2];exact DPut.k g2 (by rw[len,qaN];exact hl),?_⟩;exact k G2 _ σ (I2.chT e3 q k1 ⟨p,ys,rfl,g2,g3,g4,rfl⟩ (I2.fz.right (h4 p (by simp)) _) (fun b o n h=>by rw[zav (fun z=>n (by simp[z]))];exact h) (fun b h=>by
          by_cases z:b=p
          . subst z;rw[zaF]at h;cases h
          . rw[zav z]at h;exact h) rep (by simp) (fun a m=> .inl m)) (f1.trans f2)
      . cases hm
    . cases hm
  . cases hm
theorem ss_dNew (i:Nat)(hN:X.N.Nodup)(hi:X.N[i]? =some x:=by rfl)(hx:Loc X.env.scope x:=by first|exact Or.inl rfl|exact Or.inr rfl)(hs:swapsWith (.Dict [] [] tpos) (some (.Name x p')) pos.line X.env=pure false:=by rfl)
    (hf:X.fn x=true\/X.env.scope.names.lookup x=some .local:=by first|exact Or.inl rfl|exact Or.inr rfl):SS X (.Assign [.Name x p'] (.Dict [] [] tpos) pos) (sDN i):=by
  refine⟨_,znq hN hi hx pe_dnewK hs hf,fun B G H σ ρ fl ρ' E I hm k=>?_⟩;cases hm;intro p hp;have nw:Nw X.K G (upd H p (.dK [])) σ ρ p:=I.nw_move (I.nw hp) fun i s a _ _ g h=>⟨g,zav fun z=>h (by rw[z];exact hp)⟩
  exact k G _ _ ((I.allocO hp _).setT (A:=[p]) ⟨p,[],rfl,zaF,rfl,RepL.nil,rfl⟩ (by simp) (fun a m=>by
    have:a=p:=by simpa using m
    subst this;exact⟨I.fz.free hp,I.there a hp,nw⟩)) (Fz.refl G)
end
noncomputable def fzD (j:Nat)(ρ:R):R:=match ρ[j]? with
 |some (.tre (.dic ks ds))=>ρ.set j (.val (.dic ks ds))
 |_=>ρ
noncomputable def sFzD (j:Nat)(m:MS):MS:=fun ρ=>m (fzD j ρ)
theorem SI.fzD (I:SI K B G H σ ρ)(j:Nat):∃G',SI K B G' H σ (fzD j ρ)/\Fz G G':=by
 unfold M.fzD
 split
 ·rename_i ks ds e;obtain⟨v,A,h1,⟨p,ys,rfl,h2,h3,h4,rfl⟩,h5,h6⟩:=I.slot j _ e;have g:=(h6 p (by simp)).1;have fz:=Fz.new g (.dK ys);refine⟨upd G p (.dK ys),?_,fz⟩;have h:=I.chg (i:=j) (ov:=some (.ref p)) (s':= .val (.dic ks ds)) (G':=upd G p (.dK ys)) (H':=H) (fun a u q=>?_) fz (fun b u q=>?_) I.keep I.there (fun i t a z ei w g _=>⟨?_,rfl,id⟩) ⟨.ref p,rfl,p,ys,rfl,.inl zaF,h3,h4.mono fz⟩
  ·rwa[zkH h1]at h
  ·by_cases z:a=p
   ·subst z;rw[zaF]at q;cases q;exact h2
   ·rw[zav z]at q;exact I.fz a u q
  ·by_cases z:b=p
   ·subst z;exact .inr (h6 b (by simp)).2
   ·rw[zav z]at q;exact I.new b u q
  ·rw[zav (fun q=>by subst q;exact I.dis i j t _ a z ei e w ⟨_,_,h1,⟨a,ys,rfl,h2,h3,h4,rfl⟩,by simp⟩)];exact g
 ·exact⟨G,I,Fz.refl G⟩
theorem ss_fzD {X:Cx}{st:Stmt}{m:MS}(j:Nat)(h:SS X st m):SS X st (sFzD j m):=by
 obtain⟨t,p,s⟩:=h;refine⟨t,p,fun B G H σ ρ fl ρ' E I hm k=>?_⟩;obtain⟨G',I',f⟩:=I.fzD j;exact s B G' H σ _ fl ρ' E I' hm (k.mono f)
noncomputable def eCallMO (F:List D->List D->Option (Sl×List D))(mo:MO)(ma:MA):ME:=fun ρ=>(mo ρ).bind fun p=>(ma p.2).bind fun q=>(F p.1 q.1).bind fun r=>match r.1 with
 | .val d=>some (d,q.2)
 | .own ds=>some (.lst ds,q.2)
 |_=>none
end M
namespace HT
open L2 PyProof.Rows PySem PySem.Spec
section
variable {prog:Program} {w:World} {A:Around} {E:Value->Shared->Prop} {I:Addr} {fp wr:List Addr} {n:Nat} {St:Nat->Heap->Prop}
theorem zmY {its:List Value}(W:Walks prog w A I fp wr n (fun i v=>its[i]? =some v) St):∀(m i:Nat) (s:Shared) (Q:List Value->Shared->Prop),i+m<=n->St i s.heap->
  (∀h' tk,St (i+m) h'->(∀b o,b∉wr->s.heap.get? b=some o->h'.get? b=some o)->Q ((its.drop i).take m) {s with heap:=h',toks:=tk})->wpAny (model prog w) A (draw (.ref I) m) Q E s
 |0,i,s,Q,_,st,hq=>qaC (by simpa using hq s.heap s.toks st fun _ _ _ e=>e)
 |m+1,i,s,Q,hi,st,hq=>by
  show wpAny _ _ (pyNext (.ref I)>>=_) Q E s;refine qaz (W.item i s _ _ (by lia) st fun v h1 tk1 hv st1 k1=>?_);refine qaz (qaA (zmY W m (i+1) _ _ (by lia) st1 fun h2 tk2 st2 k2=>qaC ?_));have:=hq h2 tk2 (by rw[show i+(m+1)=i+1+m by lia];exact st2) fun b o nb e=>k2 b o nb (k1 b o nb e)
  obtain⟨hl,ev⟩:=qar.mp hv;rw[qbF hl,List.take_succ_cons,ev]at this;exact this
end
end HT
namespace L2
open PyProof.Rows PySem PySem.Spec
variable {X:Cx} {pos:Pos}
noncomputable def gTupL (K:W.Frag)(n:Nat)(t:TGs):TG:=fun v σ H Q=>∃a xs,v= .ref a/\SqL K H a xs/\xs.length=n/\t xs σ H Q
theorem pg_tupL {es:List Expr}{k:Nat}{t:TGs}{n:Nat}(hc:X.calm=true)(h:PGs X es t)
  (hn:(assignEach es X.env).length=n:=by rfl) (hst:(assignEach es X.env).findIdx? (·.1)=none:=by rfl):PG X (.Tuple es k pos) (gTupL X.K n t):=by
 intro pins s σ H v u Q I r hw;obtain⟨a,xs,e1,hq,hl,hw⟩:=hw;subst e1;cases r;obtain⟨its0,rv0,pl,hz⟩:=I.list hq;rw[assign_Tuple];refine qaz (qaB ?_);unfold unpack;rw[hst,hn];refine qaz (qaA ?_);unfold unpackItems;refine qaz ?_;unfold notIterableAtAll;refine qaz (wpAny_specialOf pl.isList.typeIs PySem.F.slot_list_iter.lookup ?_);refine qaC ?_;simp only[qbQ,qbc];refine qaz (qaA (M.zhd (A:=X.A) (I.ok.hd hc) I (.inl hq) fun its s₂ St rv W st hfp fin=>?_));have ln:its.length=n:=by rw[<-rv.length,hl]
 refine qaz (qaA (HT.zmY W n 0 s₂ _ (by lia) st fun h1 tk1 st1 k1=>?_));have hall:List.take n (List.drop 0 its)=its:=by rw[qbV];exact qbT (by lia)
 rw[hall,if_neg (by lia)];refine qaz (qaA (W.done _ _ _ (by rw[ln,<-qck n];exact st1) fun h2 tk2 k2=>?_));simp only[Option.isSome_none,qbQ,qbc];refine qaC ?_;exact h pins _ σ H xs _ Q (fin h2 tk2 fun b o nb e=>k2 b o nb (k1 b o nb e)) rv hw
end L2
namespace M
open L2 PySem PySem.Spec
open PyProof.Rows hiding St
noncomputable def Ch.sl:Ch->Sl
 | .d x=> .val x
 | .l ds=> .own ds
 | .t xss=> .tre (.lst (xss.map .l))
theorem tb_cs {K:W.Frag}{G H:Hp}:∀{xs:List V} {dss:List (List D)} {A:List Addr},RepTb K G H xs dss A->RepCs K G H xs (dss.map .l) A
 |[],[],_,h=>h
 |x::xs,ds::dss,_,⟨r,ys,A2,e1,e2,e3,e4,e5⟩=>⟨[r],A2,⟨r,ys,e1,e2,e3,rfl⟩,tb_cs e4,e5⟩
 |[],_::_,_,h=>h.elim
 |_::_,[],_,h=>h.elim
noncomputable def zrR:List Nat->List Ch->R->R
 |i::is,c::cs,ρ=>zrR is cs (ρ.set i c.sl)
 |_,_,ρ=>ρ
noncomputable def sUnT (j:Nat)(is:List Nat):MS:=fun ρ=>match ρ[j]? with
 |some (.tre (.lst cs))=>if cs.length=is.length then some (.next,zrR is cs (ρ.set j .emp))else none
 |_=>none
section
variable {K:W.Frag} {B:Bs} {G H:Hp}
noncomputable def zoX:List Nat->TGs
 |[]=>gNil
 |i::is=>gCons (gName i) (zoX is)
theorem put_cs:∀{is:List Nat} {cs:List Ch} {xs:List V} {A:List Addr} {σ:St} {ρ:R} {Q:St->Hp->Prop},SI K B G H σ ρ->RepCs K G H xs cs A->A.Nodup->(∀a∈A,G a=none/\B.H a=none/\Nw K G H σ ρ a)->cs.length=is.length->(∀σ',SI K B G H σ' (zrR is cs ρ)->Q σ' H)->zoX is xs σ H Q
 |[],[],[],_,σ,ρ,Q,I,_,_,_,_,k=>⟨rfl,k σ I⟩
 |[],_::_,_,_,_,_,_,_,_,_,_,h,_=>by cases h
 |_::_,[],_,_,_,_,_,_,_,_,_,h,_=>by cases h
 |[],[],_::_,_,_,_,_,_,r,_,_,_,_=>r.elim
 |i::is,c::cs,[],_,_,_,_,_,r,_,_,_,_=>r.elim
 |i::is,c::cs,x::xs,A,σ,ρ,Q,I,⟨A1,A2,r1,r2,e⟩,nd,hA,hl,k=>by
  subst e;refine⟨x,xs,rfl,?_⟩;have nd2:=(List.nodup_append.mp nd);have fin:∀s,SI K B G H (σ.set i (some x)) (ρ.set i s)->s=c.sl->(∀a∈A2,¬OwS K G H (some (some x)) a s)->zoX is xs (σ.set i (some x)) H Q:=fun s I' es no=>by
   subst es;refine put_cs I' r2 nd2.2.1 (fun a m=>?_) (by simpa using hl) k;have h:=hA a (qaM _ m);refine⟨h.1,h.2.1,fun j t et w=>?_⟩
   by_cases z:j=i
   ·subst z;rw[qbw,if_pos rfl]at et w
    split at et
    ·cases et
     split at w
     ·exact no a m w
     ·rename_i q1 q2;exact q2 (by rw[I.len];exact q1)
    ·cases et
   ·rw[qat (Ne.symm z)]at et w;exact h.2.2 j t et w
  cases c with
  |d y=>exact fin _ (I.set r1.1) rfl fun a _ w=>w
  |l ds=>
   obtain⟨l,ys,rfl,h1,h2,rfl⟩:=r1;have h:=hA l (qaq _ (by simp));refine fin _ (I.setO h.1 h1 h2 h.2.1 h.2.2) rfl fun a m w=>?_
   cases(show some (some (V.ref l))=some (some (.ref a))from w);exact nd2.2.2 l (by simp) l m rfl
  |t xss=>
   obtain⟨p,ys,A',rfl,h1,h2,rfl⟩:=r1;have rt:RepT K G H (.ref p) (.lst (xss.map .l)) (p::A'):=⟨p,ys,A',rfl,h1,tb_cs h2,rfl⟩;refine fin _ (I.setT rt nd2.1 fun a m=>hA a (qaq _ m)) rfl fun a m w=>?_
   obtain⟨v2,A3,w1,w2,w3⟩:=w;cases w1;rw[w2.det rt fun _ _=>rfl]at w3;exact nd2.2.2 a w3 a m rfl
end
section
variable {X:Cx} {pos:Pos}
noncomputable def zra (X:Cx):List Nat->List Expr->Prop
 |[],[]=>True
 |i::is,.Name x _::es=>X.N[i]? =some x/\Loc X.env.scope x/\(X.fn x=true\/X.env.scope.names.lookup x=some .local)/\zra X is es
 |_,_=>False
theorem znd (hN:X.N.Nodup):∀{is:List Nat} {es:List Expr},zra X is es->PGs X es (zoX is)
 |[],[],_=>zqt
 |i::is,.Name x p::es,⟨h1,h2,h3,h4⟩=>zoq (znA hN h1 h2 h3) (znd hN h4)
theorem ss_unT (j:Nat)(is:List Nat){x:Str}{es:List Expr}{k:Nat}{p' tp:Pos}(hc:X.calm=true)(hN:X.N.Nodup)(hn:zra X is es)(hi:X.N[j]? =some x:=by rfl)(hv:Vis X.env.scope x:=by first|exact Or.inl rfl|exact Or.inr (Or.inl rfl)|exact Or.inr (Or.inr rfl))(hd:(x==("__debug__":Str))=false:=by decide)
  (hcd:(x==("__classdict__":Str))=false:=by decide) (hl:(assignEach es X.env).length=is.length:=by rfl) (hst:(assignEach es X.env).findIdx? (·.1)=none:=by rfl) (hs:swapsWithSole [.Tuple es k tp] (.Name x p') pos.line X.env=pure false:=by rfl) (hw:swappedStores [.Tuple es k tp] (.Name x p') X.env=pure none:=by rfl)
  (h1:(assignEach [.Tuple es k tp] X.env).map (·.2)=[assign (.Tuple es k tp) X.env]:=by rfl):SS X (.Assign [.Tuple es k tp] (.Name x p') pos) (sUnT j is):=by
 refine⟨_,zrC (zc1 hi hv hd hcd) (pg_tupL hc (znd hN hn) hl hst) hs hw h1,fun B G H σ ρ fl ρ' E I hm k=>?_⟩;unfold sUnT at hm
 split at hm
 ·rename_i cs e
  split at hm
  ·rename_i hlen;cases hm;obtain⟨v,A,k1,k2,k3,k4⟩:=I.slot j _ e;have k2':=k2;obtain⟨p,xs,A',rfl,h2,h3,rfl⟩:=k2;have ln:∀{xs:List V} {cs:List Ch} {A:List Addr},RepCs X.K G H xs cs A->xs.length=cs.length:=by
    intro xs
    induction xs with
    |nil=>intro cs A r;cases cs with
     |nil=>rfl
     |cons _ _=>exact r.elim
    |cons x xs ih=>intro cs A r;cases cs with
     |nil=>exact r.elim
     |cons c cs=>obtain⟨_,_,_,r2,_⟩:=r;rw[qa5,qa5,ih r2]
   refine⟨.ref p,k1,p,xs,rfl,SqL.of h2,by rw[ln h3,hlen],?_⟩;refine put_cs (I.emp j) h3 (qaS.mp k3).2 (fun a m=>⟨(k4 a (by simp[m])).1,(k4 a (by simp[m])).2,fun i s es w=>?_⟩) hlen fun σ' I'=>k G H σ' I' (Fz.refl G)
   by_cases z:i=j
   ·subst z;rw[qbw,if_pos rfl]at es
    split at es
    ·cases es;exact w
    ·cases es
   ·rw[qat (Ne.symm z)]at es;exact I.dis i j s _ a z es e w ⟨.ref p,_,k1,k2',by simp[m]⟩
  ·cases hm
 ·cases hm
end
end M
namespace M
open L2 PySem PySem.Spec
open PyProof.Rows hiding St
variable {H:Hp} {A:List Addr} {b l f:Addr} {K:W.Frag} {N:List Str} {xs vs ys:List V} {cs ds:List D} {x:Str} {fd:FuncData} {n:Nat}
open Classical in
noncomputable def zfe (H:Hp)(A:List Addr):Hp:=fun b=>if b∈A then none else H b
theorem zlB (h:b∈A):zfe H A b=none:=by unfold zfe;rw[if_pos h]
theorem zei (h:b∉A):zfe H A b=H b:=by unfold zfe;rw[if_neg h]
theorem ziW (h:zfe H A b=none):H b=none\/b∈A:=by
 by_cases m:b∈A
 ·exact .inr m
 ·rw[zei m]at h;exact .inl h
theorem zps {o:HO}(h:zfe H A b=some o):H b=some o/\b∉A:=by
 by_cases m:b∈A
 ·rw[zlB m]at h;cases h
 ·rw[zei m]at h;exact⟨h,m⟩
noncomputable def spMT (K:W.Frag)(n:Nat)(F:List D->T->List D->Option (Sl×List D)):Sp:=fun vs H Q _=>∃G l xs cs v2 t A ws ds r out,vs= .ref l::v2::ws/\F cs t ds=some (r,out)/\ds.length+2=n/\Fz G H/\G l=none/\H l=some (.lst xs)/\RepL K G xs cs/\RepT K G H v2 t A/\A.Nodup/\l∉A/\(∀a∈A,G a=none)/\RepL K G ws ds/\
 ∀G' H' v ys,Fz G G'->Fz G' H'->(∀b o,G' b=some o->G b≠none\/zfe H A b=none)->(∀b o,b≠l->zfe H A b=some o->H' b=some o)->G' l=none->H' l=some (.lst ys)->RepL K G' ys out->ResF K G' H' (zfe H A) v r->Q v H'
noncomputable def fMT (N:Nat)(m:MS):List D->T->List D->Option (Sl×List D):=fun cs t ds=>(m (.par cs:: .tre t::(ds.map .val++List.replicate (N-(ds.length+2)) .emp))).bind fun p=>match p.1,(p.2[0]?:Option Sl)with
 |Fl.ret r,some (Sl.par out)=>some (r,out)
 |Fl.next,some (Sl.par out)=>some (.val .non,out)
 |_,_=>none
theorem SI.startMT {G H:Hp}{v2:V}{t:T}(fz:Fz G H)(hg:G l=none)(hl:H l=some (.lst xs))(rc:RepL K G xs cs)(rt:RepT K G H v2 t A)(nd:A.Nodup)(nl:l∉A)(gA:∀a∈A,G a=none)(r:RepL K G vs ds)(h:ds.length+2<=N.length):
  SI K ⟨G,zfe H A,[(0,l)]⟩ G H (L2.start N (.ref l::v2::vs)) (.par cs:: .tre t::(ds.map .val++List.replicate (N.length-(ds.length+2)) .emp)) where
 fz:=fz
 g0:=Fz.refl G
 new:=fun b o e=> .inl (by show G b≠none;rw[e];simp)
 keep:=fun b o e _=>(zps e).1
 there:=fun b e=>by
  show zfe H A b=none
  by_cases m:b∈A
  ·exact zlB m
  ·rw[zei m];exact e
 ob:=fun i b m=>by
  have:b=l:=((by simpa using m):i=0/\b=l).2;subst this;show zfe H A b≠none;rw[zei nl,hl];simp
 len:=by
  have:=r.length;rw[zjZ (by rw[qa5,qa5,r.length];lia),qa5,qa5,qa2,qa3,qa4];lia
 slot:=fun i s e=>by
  match i with
  |0=>simp at e;subst e;exact⟨l,xs,rfl,hg,hl,rc,by simp⟩
  |1=>simp at e;subst e;exact⟨v2,A,rfl,rt,nd,fun a m=>⟨gA a m,zlB m⟩⟩
  |i+2=>
   rw[qbH,qbH]at e
   by_cases hi:i<ds.length
   ·rw[qaY (by simpa using hi),qaZ,qbD hi]at e;cases e;obtain⟨x,h1,h2⟩:=r.get (qbD hi);refine⟨x,?_,h2⟩;unfold L2.start;rw[qbj,qbj,qbI,qbI,qbH,qbH,qaY (by rw[qa3,r.length];exact hi),qaZ,h1]
    rfl
   ·rw[qaW (by simpa using hi),qaX]at e
    split at e
    ·cases e;trivial
    ·cases e
 dis:=fun i j s u a hij hi hj w1 w2=>by
  have z:∀(i:Nat) (s:Sl),(Sl.par cs::Sl.tre t::(ds.map .val++List.replicate (N.length-(ds.length+2)) .emp))[i]? =some s->OwS K G H (L2.start N (.ref l::v2::vs))[i]? a s->(i=0/\a=l)\/(i=1/\a∈A):=fun i s e q=>by
   match i with
   |0=>
    simp at e;subst e;refine .inl ⟨rfl,?_⟩;have q':=show(L2.start N (V.ref l::v2::vs))[0]? =some (some (.ref a))from q
    cases(show some (some (V.ref l))=some (some (.ref a))from q')
    rfl
   |1=>
    simp at e;subst e;obtain⟨v,A',q1,q2,q3⟩:=q;cases(show some (some v2)=some (some v)from q1);rw[<-rt.det q2 fun _ _=>rfl]at q3;exact .inr ⟨rfl,q3⟩
   |i+2=>
    exfalso;rw[qbH,qbH]at e
    by_cases hi:i<ds.length
    ·rw[qaY (by simpa using hi),qaZ,qbD hi]at e;cases e;exact q
    ·rw[qaW (by simpa using hi),qaX]at e
     split at e
     ·cases e;exact q
     ·cases e
  rcases z i s hi w1 with⟨a1,a2⟩|⟨a1,a2⟩<;>rcases z j u hj w2 with⟨b1,b2⟩|⟨b1,b2⟩
  ·exact hij (a1.trans b1.symm)
  ·subst a2;exact nl b2
  ·subst b2;exact nl a2
  ·exact hij (a1.trans b1.symm)
section
variable {P:Program} {w:World} {K:W.Frag} {mg:Str->Option Value} {base:Heap}
theorem fnMT_ok {x qual:Str}{st:Stmt}{N ps:List Str}{k n:Nat}{m:MS}(F:Fun K x qual st f fd)(S:FnScope N ps (zaA st))(hn:ps.length=n)(hN:n<=N.length)
  (body:∀(cdv:Value) (A:Around) (outer:List Env) (s:Shared) (H:Hp) (E:XK),Room k (A.deeper (envOfC qual (zaA st) s.heap.objs.size f cdv))->SSs (cxOf CX0 P w K mg base N qual (zaA st) f cdv A outer s H E).nox (zca st) m):
  FnOk P w K mg base CX0 (k+1) f fd ps (spMT K n (fMT N.length m)):=by
 refine F.ok S (fun vs H Q E h=>?_) (fun cdv A outer s H vs Q E hr h=>?_)
 ·obtain⟨G,l,xs,cs,v2,t,A,ws,ds,r,out,rfl,_,h2,_,_,_,_,_,_,_,_,h4,_⟩:=h;rw[qa5,qa5,h4.length,<-hn]at*;lia
 ·obtain⟨G,l,xs,cs,v2,tt,At,ws,ds,r,out,rfl,e1,h2,fz,hg,hl,rc,rt,nd,nl,gA,h4,kk⟩:=h;obtain⟨t,pt,so⟩:=body cdv A outer s H E hr;refine⟨t,pt,?_⟩;obtain⟨⟨fl,ρ'⟩,e2,e3⟩:=zae e1;refine so ⟨G,zfe H At,[(0,l)]⟩ G H _ _ fl ρ' _ (SI.startMT fz hg hl rc rt nd nl gA h4 (by lia)) e2 ?_;have fin:∀G' H' σ' v,ρ'[0]? =some (.par out)->SI K ⟨G,zfe H At,[(0,l)]⟩ G' H' σ' ρ'->Fz G G'->ResF K G' H' (zfe H At) v r->Q v H':=fun G' H' σ' v e0 I f rr=>by
   obtain⟨l',ys,k1,k2,k3,k4,k5⟩:=I.slot 0 _ e0;have:l'=l:=by simpa using k5
   subst this;exact kk G' H' v ys f I.fz I.new (fun b o hb e=>I.keep b o e (fun i hm=>by simp at hm;exact hb hm.2)) k2 k3 k4 rr
  cases e0:ρ'[0]? with
  |none=>rw[e0]at e3;cases fl<;>cases e3
  |some s0=>
   rw[e0]at e3;cases s0 with
   |par o2=>
    cases fl with
    |next=>cases e3;exact fun G' H' σ' I f=>fin G' H' σ' .non e0 I f rfl
    |brk=>cases e3
    |cont=>cases e3
    |ret r'=>
     cases e3;refine fun G' H' σ' v I f rr=>fin G' H' σ' v e0 I f ?_
     cases r with
     |val d=>exact rr
     |own ds=>exact rr
     |_=>exact rr
   |_=>cases fl<;>cases e3
end
noncomputable abbrev MP':=R->Option (List Ch×R)
noncomputable def SP' (X:Cx)(es:List Expr)(m:MP'):Prop:=
 ∃t,PA X es t/\∀B G H σ ρ cs ρ' (Q:List V->Hp->Prop),SI X.K B G H σ ρ->m ρ=some (cs,ρ')->
  (∀G' H' vs A,SI X.K B G' H' σ ρ'->Fz G G'->RepCs X.K G' H' vs cs A->A.Nodup->(∀a∈A,G' a=none/\B.H a=none/\Nw X.K G' H' σ ρ' a)->Q vs H')->t σ H Q
noncomputable def cNil:MP':=fun ρ=>some ([],ρ)
noncomputable def cVal (m:ME)(r:MP'):MP':=fun ρ=>(m ρ).bind fun p=>(r p.2).map fun q=>(.d p.1::q.1,q.2)
noncomputable def cOwn (i:Nat)(r:MP'):MP':=fun ρ=>match ρ[i]? with
 |some (.own ds)=>(r (ρ.set i .emp)).map fun q=>(.l ds::q.1,q.2)
 |_=>none
section
variable {X:Cx} {e:Expr} {es:List Expr} {m:ME} {r:MP'}
theorem sc_nil:SP' X [] cNil:=⟨_,ziz,fun B G H σ ρ cs ρ' Q I hm k=>by cases hm;exact k G H [] [] I (Fz.refl G) rfl (by simp) (fun a m=>by cases m)⟩
theorem sc_val (h:SE X e m)(hr:SP' X es r)(hs:starEach (e::es) X.env=(false,eval e X.env)::starEach es X.env:=by rfl):SP' X (e::es) (cVal m r):=by
 obtain⟨t,p,s⟩:=h;obtain⟨u,q,z⟩:=hr;refine⟨_,zb4 p q hs,fun B G H σ ρ cs ρ' Q I hm k=>?_⟩;obtain⟨⟨d,ρ1⟩,e1,hm⟩:=zae hm;obtain⟨⟨cs1,ρ2⟩,e2,e3⟩:=zat hm;cases e3;refine s B G H σ ρ d ρ1 _ I e1 fun G1 H1 v I1 f1 r1=>z B G1 H1 σ ρ1 cs1 ρ2 _ I1 e2 fun G2 H2 vs A I2 f2 r2 nd hA=>?_
 exact k G2 H2 (v::vs) A I2 (f1.trans f2) ⟨[],A,⟨r1.mono f2,rfl⟩,r2,rfl⟩ nd hA
theorem zqo (i:Nat){p':Pos}(hr:SP' X es r)(hN:X.N[i]? =some x:=by rfl)(hv:Vis X.env.scope x:=by first|exact Or.inl rfl|exact Or.inr (Or.inl rfl)|exact Or.inr (Or.inr rfl))(hd:(x==("__debug__":Str))=false:=by decide)
  (hcd:(x==("__classdict__":Str))=false:=by decide) (hs:starEach (.Name x p'::es) X.env=(false,eval (.Name x p') X.env)::starEach es X.env:=by rfl):SP' X (.Name x p'::es) (cOwn i r):=by
 obtain⟨u,q,z⟩:=hr;refine⟨_,zb4 (zc1 hN hv hd hcd) q hs,fun B G H σ ρ cs ρ' Q I hm k=>?_⟩;unfold cOwn at hm
 split at hm
 ·rename_i ds e;obtain⟨⟨cs1,ρ1⟩,e1,e2⟩:=zat hm;cases e2;obtain⟨l,xs,h1,h2,h3,h4,h5⟩:=I.slot i _ e;have I1:=I.emp i;have n1:Nw X.K G H σ (ρ.set i .emp) l:=fun j s ej w=>by
   by_cases y:j=i
   ·subst y;rw[qbw,if_pos rfl]at ej
    split at ej
    ·cases ej;exact w
    ·cases ej
   ·rw[qat (Ne.symm y)]at ej;exact I.dis j i s _ l y ej e w h1
  refine⟨.ref l,h1,z (B.re X.K G H σ (ρ.set i .emp)) G H σ _ cs1 ρ1 _ I1.re e1 fun G1 H1 vs A J f1 r1 nd hA=>?_⟩;obtain⟨m1,m2,m3⟩:=I1.re_stays J h3 n1 h2 h5;have hb:(B.re X.K G H σ (ρ.set i .emp)).H l=some (.lst xs):=zq8 h3 n1;have nl:l∉A:=fun m=>by rw[(hA l m).2.1]at hb;cases hb
  refine k G1 H1 (.ref l::vs) (l::A) (I1.unre J) f1 ⟨[l],A,⟨l,xs,rfl,m1,h4.mono f1,rfl⟩,r1,rfl⟩ (qaS.mpr ⟨nl,nd⟩) fun a m=>?_
  rcases qao.mp m with rfl|m
  ·exact⟨m2,h5,m3⟩
  ·exact⟨(hA a m).1,ziV I1 (hA a m).2.1,(hA a m).2.2⟩
 ·cases hm
end
theorem SI.chgW2 {B:Bs}{G G' H H':Hp}{σ:St}{ρ:R}(I:SI K B G H σ ρ){i:Nat}{s:Sl}{ds es:List D}(e:ρ[i]? =some s)(q:s.items=some ds)(hl:σ[i]? =some (some (.ref l)))(fz:Fz G' H')(fg:Fz G G')(nw:∀b o,G' b=some o->G b≠none\/zfe H A b=none)
  (kp:∀b o,b≠l->zfe H A b=some o->H' b=some o) (gl:G' l=none) (hl':H' l=some (.lst ys)) (r:RepL K G' ys es) (hA:∀a∈A,B.H a=none/\Nw K G H σ ρ a):
  SI K B G' H' σ (ρ.set i (s.put es))/\∀p,zfe H A p=none->B.H p=none/\Nw K G' H' σ (ρ.set i (s.put es)) p:=by
 obtain⟨l',xs,e1,e2,e3,e4⟩:=I.wr e q;rw[hl]at e1;cases e1;have sl:=I.slot i s e;have ow:∀(j:Nat) (t:Sl) (a:Addr),j≠i->ρ[j]? =some t->OwS K G H σ[j]? a t->G a=none->H a≠none->G' a=none/\H' a=H a:=fun j t a z ej w g ha=>by
  have na:a≠l:=fun w'=>by subst w';exact I.dis j i t s a z ej e w ((zbv q).mpr hl)
  have nA:a∉A:=fun m=>(hA a m).2 j t ej w
  obtain⟨u,hu⟩:=qbx.mp ha;refine⟨?_,(kp a u na (by rw[zei nA];exact hu)).trans hu.symm⟩;cases q2:G' a with
  |none=>rfl
  |some u=>
   rcases nw a u q2 with z|z
   ·exact absurd g z
   ·rw[zei nA]at z;exact absurd z ha
 have bn:∀b,zfe H A b=none->B.H b=none:=fun b h=>by
  rcases ziW h with z|z
  ·exact I.there b z
  ·exact(hA b z).1
 refine⟨?_,fun p hp=>⟨bn p hp,fun j t ej w=>?_⟩⟩
 ·have nb:∀b o,B.H b=some o->(∀i,(i,b)∉B.O)->b≠l:=fun b o h1 h2 z=>by
   subst z;rcases(sl.own ((zbv q).mpr hl)).2.2 with z|z
   ·rw[h1]at z;cases z
   ·exact h2 i z
  have h:=I.chg (i:=i) (ov:=some (.ref l)) (s':=s.put es) (G':=G') (H':=H') fz fg (fun b o k=>?_) (fun b o k1 k2=>kp b o (nb b o k1 k2) (by rw[zei fun m=>by rw[(hA b m).1]at k1;cases k1];exact I.keep b o k1 k2)) (fun b k=>?_) (fun j t a z ej w g ha=>⟨(ow j t a z ej w g ha).1,(ow j t a z ej w g ha).2,fun z'=>?_⟩) ?_
  ·rwa[zkH hl]at h
  ·rcases nw b o k with h|h
   ·cases q2:G b with
    |none=>exact absurd q2 h
    |some u=>exact I.new b u q2
   ·exact .inr (bn b h)
  ·by_cases z:b=l
   ·subst z;rw[hl']at k;cases k
   ·refine bn b ?_;cases q2:zfe H A b with
    |none=>rfl
    |some u=>rw[kp b u z q2]at k;cases k
  ·cases(zbv (zif q es)).mp z';exact I.dis j i t s l z ej e w ((zbv q).mpr hl)
  ·cases s with
   |own es'=>obtain⟨l',xs',k1,k2,k3,k4,k5⟩:=sl;rw[hl]at k1;cases k1;exact⟨_,ys,rfl,gl,hl',r,k5⟩
   |par es'=>obtain⟨l',xs',k1,k2,k3,k4,k5⟩:=sl;rw[hl]at k1;cases k1;exact⟨_,ys,rfl,gl,hl',r,k5⟩
   |_=>cases q
 ·by_cases z:j=i
  ·subst z;rw[qbw,if_pos rfl]at ej
   split at ej
   ·cases ej;have h1:=(zbv (zif q es)).mp w;rw[hl]at h1;have:l=p:=V.ref.inj (Option.some.inj (Option.some.inj h1));subst this;rcases ziW hp with z|z
    ·rw[e3]at z;cases z
    ·exact(hA l z).2 j s e ((zbv q).mpr hl)
   ·cases ej
  ·rw[qat (Ne.symm z)]at ej;have sj:=I.slot j t ej;have w0:=sj.back (fun a w g h=>ow j t a z ej w g h) w;rcases ziW hp with y|y
   ·exact(sj.own w0).2.1 y
   ·exact(hA p y).2 j t ej w0
noncomputable def zln (F:List D->T->List D->Option (Sl×List D))(j:Nat)(mp:MP')(ma:MA):ME:=fun ρ=>if(ρ[j]?.bind Sl.items).isSome then(mp ρ).bind fun c=>if c.1.length<=16777216 then(ma c.2).bind fun p=>p.2[j]?.bind fun s=>s.items.bind fun cs=>(F cs (.lst c.1) p.1).bind fun r=>match r.1 with
 | .val d=>some (d,p.2.set j (s.put r.2))
 | .own ds=>some (.lst ds,p.2.set j (s.put r.2))
 |_=>none else none else none
section
variable {X:Cx} {x y:Str} {p py pl pos:Pos} {es es':List Expr} {mp:MP'} {ma:MA} {k k' n:Nat} {F:List D->T->List D->Option (Sl×List D)}
theorem zqI (j:Nat)(fd:FD X.prog X.w X.K X.mg X.base k x (spMT X.K n F))(hr:Room k' X.A)(hp:SP' X es mp)(ha:SA X es' ma)(hlen:∀ρ as ρ',ma ρ=some (as,ρ')->as.length+2=n)(hN:X.N[j]? =some y:=by rfl)(hv:Vis X.env.scope y:=by first|exact Or.inl rfl|exact Or.inr (Or.inl rfl)|exact Or.inr (Or.inr rfl))(hd:(y==("__debug__":Str))=false:=by decide)
  (hcd:(y==("__classdict__":Str))=false:=by decide) (hk:k<=k':=by decide) (hg:Gl X x:=by rfl) (hdb:(x==("__debug__":Str))=false:=by decide)
  (he:starEach (.Name y py:: .List es pl::es') X.env=(false,eval (.Name y py) X.env)::starEach (.List es pl::es') X.env:=by rfl) (he2:starEach (.List es pl::es') X.env=(false,eval (.List es pl) X.env)::starEach es' X.env:=by rfl) (hpl:(backTo pos (starEach (.List es pl::es') X.env)).any (·.1)=false:=by rfl):SE X (.Call (.Name x p) (.Name y py:: .List es pl::es') [] pos) (zln F j mp ma):=by
 obtain⟨f,fdd,ps,G0,h1,h2,h3⟩:=fd.ex;obtain⟨t,pa,sa⟩:=ha;obtain⟨tp,pp,sp⟩:=hp;refine⟨_,zmk G0 (hr.mono hk) hg h1 h2 h3 .nil pass0 (zb4 (zc1 hN hv hd hcd) (zb4 (pe_lst pp) pa he2) he) hdb he hpl,fun B G H σ ρ d ρ' Q I hm kk=>?_⟩;unfold zln at hm
 split at hm
 ·rename_i hso;obtain⟨ds0,hso⟩:=qaT.mp hso;obtain⟨s0,k0,q0⟩:=zae hso;obtain⟨l,xs0,w1,w2,w3,w4⟩:=I.wr k0 q0;obtain⟨⟨cs1,ρ1⟩,e1,hm⟩:=zae hm
  split at hm
  ·rename_i hsz;obtain⟨⟨as,ρ2⟩,e2,hm⟩:=zae hm;obtain⟨s,e3,hm⟩:=zae hm;obtain⟨cs,e4,hm⟩:=zae hm;obtain⟨⟨r,out⟩,e5,hm⟩:=zae hm;refine⟨.ref l,w1,sp B G H σ ρ cs1 ρ1 _ I e1 fun G1 H1 vs A I1 f1 r1 nd hA=>?_⟩;have ln:∀{xs:List V} {cs:List Ch} {A:List Addr},RepCs X.K G1 H1 xs cs A->xs.length=cs.length:=by
    intro xs
    induction xs with
    |nil=>intro cs A r;cases cs with
     |nil=>rfl
     |cons _ _=>exact r.elim
    |cons x xs ih=>intro cs A r;cases cs with
     |nil=>exact r.elim
     |cons c cs=>obtain⟨_,_,_,r2,_⟩:=r;rw[qa5,qa5,ih r2]
   refine⟨by rw[ln r1,qaN];exact hsz,fun q hq=>?_⟩;have I2:=I1.allocO hq (.lst vs);have mv:∀(i:Nat) (s:Sl) (a:Addr),ρ1[i]? =some s->OwS X.K G1 H1 σ[i]? a s->G1 a=none->H1 a≠none->G1 a=none/\upd H1 q (.lst vs) a=H1 a:=fun i s a _ _ g h=>⟨g,zav fun z=>h (by rw[z];exact hq)⟩
   have hA2:∀a∈q::A,G1 a=none/\B.H a=none/\Nw X.K G1 (upd H1 q (.lst vs)) σ ρ1 a/\∃o,upd H1 q (.lst vs) a=some o:=fun a m=>by
    rcases qao.mp m with rfl|m
    ·exact⟨I1.fz.free hq,I1.there a hq,I1.nw_move (I1.nw hq) mv,_,zaF⟩
    ·obtain⟨ys,z⟩:=r1.here m;exact⟨(hA a m).1,(hA a m).2.1,I1.nw_move (hA a m).2.2 mv,_,by rw[zav fun y=>by rw[y,hq]at z;cases z];exact z⟩
   have nq:q∉A:=fun m=>by obtain⟨ys,z⟩:=r1.here m;rw[hq]at z;cases z
   have rt:RepT X.K G1 (upd H1 q (.lst vs)) (.ref q) (.lst cs1) (q::A):=⟨q,vs,A,rfl,zaF,r1.move (Fz.refl G1) fun a m=>zav fun z=>nq (by rw[<-z];exact m),rfl⟩;refine sa (B.re X.K G1 (upd H1 q (.lst vs)) σ ρ1) G1 _ σ ρ1 as ρ2 _ I2.re e2 fun G2 H2 ws J f2 r2=>?_
   have I3:=I2.unre J;have st:∀a∈q::A,H2 a=upd H1 q (.lst vs) a/\G2 a=none/\Nw X.K G2 H2 σ ρ2 a:=fun a m=>by
    obtain⟨a1,a2,a3,o,a4⟩:=hA2 a m;obtain⟨b1,b2,b3⟩:=I2.re_stays J a4 a3 a1 a2;exact⟨b1.trans a4.symm,b2,b3⟩
   obtain⟨l',xs,m1,m2,m3,m4⟩:=I3.wr e3 e4;rw[w1]at m1;cases m1;show spMT X.K n F ((.ref l:: .ref q::ws)++[]) H2 Q E0;rw[qaQ];have nl:l∉q::A:=fun m=>(st l m).2.2 j s e3 ((zbv e4).mpr w1)
   refine⟨G2,l,xs,cs,.ref q,.lst cs1,q::A,ws,as,r,out,rfl,e5,hlen ρ1 as ρ2 e2,I3.fz,m2,m3,m4,rt.move f2 fun a m=>(st a m).1,qaS.mpr ⟨nq,nd⟩,nl,fun a m=>(st a m).2.1,r2,fun G3 H3 v ys f3 fz3 nw kp gl hl r3 rr=>?_⟩;obtain⟨I4,fr⟩:=I3.chgW2 e3 e4 w1 fz3 f3 nw kp gl hl r3 fun a m=>⟨(hA2 a m).2.1,(st a m).2.2⟩
   cases r with
   |val d'=>cases hm;exact kk G3 H3 v I4 (f1.trans (f2.trans f3)) rr
   |own ds=>
    cases hm;obtain⟨l',xs',rfl,g4,h4,r4,b4⟩:=rr;obtain⟨I5,f4,r5⟩:=zkT I4 g4 h4 r4 (fr l' b4).1 (fr l' b4).2;exact kk _ H3 _ I5 (f1.trans (f2.trans (f3.trans f4))) r5
   |emp=>cases hm
   |two _ _=>cases hm
   |tre _=>cases hm
   |ptr _=>cases hm
   |par _=>cases hm
  ·cases hm
 ·cases hm
end
theorem aLen2 {ma:MA}(h:aLen ma n):∀ρ as ρ',ma ρ=some (as,ρ')->as.length+2=n+2:=fun ρ as ρ' e=>by rw[h ρ as ρ' e]
end M
namespace M
open L2 PySem PySem.Spec
open PyProof.Rows hiding St
noncomputable def Ch.D:Ch->M.D
 | .d x=>x
 | .l ds=> .lst ds
 | .t xss=> .lst (xss.map .lst)
noncomputable def sTA (i j:Nat):MS:=fun ρ=>match ρ[i]?,ρ[j]? with
 |some (.tre (.lst cs)),some (.own ds)=>if cs.length<16777216 then some (.next,(ρ.set j .emp).set i (.tre (.lst (cs++[.l ds]))))else none
 |_,_=>none
noncomputable abbrev MQ:=R->Option D
noncomputable def fzT (j:Nat)(ρ:R):R:=match ρ[j]? with
 |some (.tre (.lst cs))=>ρ.set j (.val (.lst (cs.map Ch.D)))
 |_=>ρ
section
variable {X:Cx} {x y:Str} {pos p' q' tpos:Pos}
variable {e:Expr} {es:List Expr} {ma:MA} {k k' n:Nat} {F:List D->Option Sl}
variable {a b:Expr} {mi mk:MQ}
noncomputable def sPar (i j:Nat)(ma:MA):MS:=fun ρ=>(ma ρ).bind fun p=>match p.1 with
 |[c,d]=>some (.next,(p.2.set i (.val c)).set j (.val d))
 |_=>none
theorem ss_par (i j:Nat){kt k2:Nat}{pt pt2:Pos}(hij:i≠j)(hc:X.calm=true)(ha:SA X [a,b] ma)(hN:X.N.Nodup)(hi:X.N[i]? =some x:=by rfl)(hj:X.N[j]? =some y:=by rfl)(hx:X.env.scope.names.lookup x=some .local:=by rfl)(hy:X.env.scope.names.lookup y=some .local:=by rfl)
  (hw:swappedStores [.Tuple [.Name x p',.Name y q'] kt pt] (.Tuple [a,b] k2 pt2) X.env=pure (some [x,y]):=by rfl) (hs:swapsWithSole [.Tuple [.Name x p',.Name y q'] kt pt] (.Tuple [a,b] k2 pt2) pos.line X.env=pure false:=by rfl):
  SS X (.Assign [.Tuple [.Name x p',.Name y q'] kt pt] (.Tuple [a,b] k2 pt2) pos) (sPar i j ma):=by
 obtain⟨t,pa,sa⟩:=ha;refine⟨_,ps_par hc hN hi hj hij hx hy pa hw hs,fun B G H σ ρ fl ρ' E I hm k=>?_⟩;obtain⟨⟨as,ρ1⟩,e1,hm⟩:=zae hm;refine sa B G H σ ρ as ρ1 _ I e1 fun G1 H1 vs I1 f1 r1=>?_
 dsimp only at hm
 split at hm
 ·rename_i c d;cases hm;obtain⟨v,w,rfl,rv,rw'⟩:=r1.two;exact⟨v,w,rfl,k G1 H1 _ ((I1.set rv).set rw') f1⟩
 ·cases hm
end
end M
namespace M
local macro_rules | `(tactic| ac_rfl) => `(tactic| first | exact M.nA (by decide) | exact M.nB (by decide) | exact M.nC (by decide) | exact M.nL (by assumption) | exact Nat.ne_of_lt (by assumption) | lia)
open L2 PySem PySem.Spec
open PyProof.Rows hiding St
open Sem (wp)
variable {a b u:Value} {Q E:Value->Shared->Prop} {i:Nat} {prog:Program} {w:World} {A:Around} {s:Shared} {tg:Expr} {K:W.Frag} {X:Cx} {p pos:Pos}
noncomputable abbrev ze4 (h:Heap)(z TI TO:Addr)(f0:Value)(b:Bool):Prop:=h.get? z=some {cls:= .type "zip",data:= .fields #[f0,.bool b,.bool false,.ref TI,.ref TO]}
noncomputable def ZipAt (h:Heap)(z TI TO:Addr):Prop:=∃f0 b,ze4 h z TI TO f0 b/\(f0= .none\/∃T:Nat,f0=rawInt T)
section
variable {prog:Program} {w:World} {A:Around} {E:Value->Shared->Prop} {s:Shared}
theorem zqu {a:Addr}{Q:Option Obj->Shared->Prop}(h:Q (s.heap.get? a) s):wpAny (model prog w) A (loadIfAlive a) Q E s:=fun Γ p hΓ=>by
 show Sem.wp _ _ (Sem.loadIfAlive a Sem.pure) _ _ p s;rw[Sem.wp_loadIfAlive];exact(qaC (M:=model prog w) (A:=A) (E:=E) h) Γ p hΓ
theorem zrf {z TI TO:Addr}{f0:Value}{b:Bool}(hz:ze4 s.heap z TI TO f0 b)(hf:f0= .none\/∃T:Nat,f0=rawInt T){Q:Bool->Shared->Prop}(h1:Q true s)
  (h2:∀h',ze4 h' z TI TO f0 true->Heap.SameBut z s.heap h'->Q false {s with heap:=h'}):wpAny (model prog w) A (Builtin.SmallTypes.ownedTupleIsFree (.ref z)) Q E s:=by
 unfold Builtin.SmallTypes.ownedTupleIsFree;refine qaz (qbd hz rfl (x:=f0) rfl ?_);rcases hf with rfl|⟨T,rfl⟩
 ·exact qaC h1
 ·refine(?_:wpAny _ _ (loadIfAlive _>>=_) _ _ _);refine qaz (zqu ?_);cases e:s.heap.get? (T:Int).toNat with
  |none=>exact qaC h1
  |some o=>
   refine(?_:wpAny _ _ (field (.ref z) 1>>=_) _ _ _);refine qaz (qbd hz rfl (x:= .bool b) rfl ?_);cases b
   ·refine(?_:wpAny _ _ (setField (.ref z) 1 (.bool true)>>=_) _ _ _);exact qaz (qb1 hz (by simp) fun g1 z1 s1=>qaC (h2 g1 z1 s1))
   ·exact qaC (h2 s.heap hz ⟨rfl,fun _ _=>rfl⟩)
variable {N a1 a2:Nat} {n1 n2:Nat} {P1 P2:Nat->Value->Prop} {S1 S2:Nat->Heap->Prop}
theorem zpu (D1:Draws prog w A N [N,a1] n1 P1 S1)(D2:Draws prog w A (N+1) [N+1,a2] n2 P2 S2)(l1:a1<N)(l2:a2<N)
  (hz':ZipAt s.heap (N+4) (N+2) (N+3)) (hTI:IsPair s.heap (N+2) (.ref N) (.ref (N+1))) (hTO:IsPair s.heap (N+3) a b) (h1:S1 i s.heap) (h2:S2 i s.heap) (i1:i<n1) (i2:i<n2)
  (k : ∀ x y h' tk, P1 i x -> P2 i y -> ZipAt h' (N + 4) (N + 2) (N + 3) -> (∃ a b, IsPair h' (N + 3) a b) -> S1 (i + 1) h' -> S2 (i + 1) h' -> IsPair h' s.heap.objs.size x y ->
   (∀c o,c≠N->c≠N+1->c≠N+3->c≠N+4->s.heap.get? c=some o->h'.get? c=some o)->Q (.ref s.heap.objs.size) {s with heap:=h',toks:=tk}):
  wpAny (model prog w) A (Builtin.«zip.__next__» ⟨[.ref (N+4)],[]⟩) (fun fin s'=>∃v,fin= .done (.ret v)/\Q v s') E s:=by
 obtain⟨f0,bb,hz,hf⟩:=hz';refine(?_:wpAny _ _ (field (.ref (N+4)) 2>>=_) _ _ _);refine qaz (qbd hz rfl (x:= .bool false) rfl (?_:wpAny _ _ (field (.ref (N+4)) 3>>=_) _ _ _));refine qaz (qbd hz rfl (x:= .ref (N+2)) rfl (qaz (qbY hTI rfl (?_:wpAny _ _ (Builtin.SmallTypes.ownedTupleIsFree (.ref (N+4))>>=_) _ _ _))));refine qaz (zrf hz hf ?_ fun g0 z0 s0=>?_)
 ·simp only[if_true];refine qaz (qaF (qaz (qbd hz rfl (x:= .ref (N+3)) rfl (qaz (qb1 hz (by simp) fun g1 z1 s1=>qaz ?_)))))
  replace z1:ze4 g1 (N+4) (N+2) (N+3) .ellipsis bb:=z1
  simp only[qb2,qb3,qbJ,qbP];refine qaz (qaz (qb4 (?_:wpAny _ _ (Builtin.SmallTypes.nextOf (.ref N)>>=_) _ _ _)));have e1:S1 i g1:=D1.frame _ _ _ h1 fun b hb o e=>(s1.2 b (nin2 hb (by ac_rfl) (by ac_rfl))).trans e
  refine qaz (D1.item i _ _ _ i1 e1 fun x g2 t2 p1 f2 s2=>qaC ?_);have q2:IsPair g2 (N+3) a b:=(s2.2 _ (ne_ (by ac_rfl))).trans ((s1.2 _ (ne_ (by ac_rfl))).trans hTO);refine qaz (qbY q2 rfl (qaz (qcl q2 fun g3 q3 s3=>qaz (qb5 (qaC ?_)))))
  replace q3:IsPair g3 (N+3) x b:=q3
  refine qaz (qaz (qb4 (?_:wpAny _ _ (Builtin.SmallTypes.nextOf (.ref (N+1))>>=_) _ _ _)));have e3:S2 i g3:=D2.frame _ _ _ h2 fun b hb o e=>(s3.2 b (nin2 hb (by ac_rfl) (by ac_rfl))).trans ((s2.2 b (nin2 hb (by ac_rfl) (by ac_rfl))).trans ((s1.2 b (nin2 hb (by ac_rfl) (by ac_rfl))).trans e))
  refine qaz (D2.item i _ _ _ i2 e3 fun y g4 t4 p2 f4 s4=>qaC ?_);have q4:IsPair g4 (N+3) x b:=(s4.2 _ (ne_ (by ac_rfl))).trans q3;refine qaz (qbY q4 rfl (qaz (qcl q4 fun g5 q5 s5=>qaz (qb5 (qaC (qaC ?_))))))
  replace q5:IsPair g5 (N+3) x y:=q5
  have sz:g5.objs.size=s.heap.objs.size:=by rw[s5.1,s4.1,s3.1,s2.1,s1.1]
  have z5:ze4 g5 (N+4) (N+2) (N+3) .ellipsis bb:=(s5.2 _ (ne_ (by ac_rfl))).trans ((s4.2 _ (ne_ (by ac_rfl))).trans ((s3.2 _ (ne_ (by ac_rfl))).trans ((s2.2 _ (ne_ (by ac_rfl))).trans z1)));have zl:(N+4:Nat)<g5.objs.size:=qae z5;have k5:∀c o,c≠N->c≠N+1->c≠N+3->c≠N+4->s.heap.get? c=some o->g5.get? c=some o:=fun c o c1 c2 c3 c4 e=>(s5.2 c c3).trans ((s4.2 c c2).trans ((s3.2 c c3).trans ((s2.2 c c1).trans ((s1.2 c c4).trans e))))
  have f5:S1 (i+1) g5:=D1.frame _ _ _ f2 fun b hb o e=>(s5.2 b (nin2 hb (by ac_rfl) (by ac_rfl))).trans ((s4.2 b (nin2 hb (by ac_rfl) (by ac_rfl))).trans ((s3.2 b (nin2 hb (by ac_rfl) (by ac_rfl))).trans e))
  have f5':S2 (i+1) g5:=D2.frame _ _ _ f4 fun b hb o e=>(s5.2 b (nin2 hb (by ac_rfl) (by ac_rfl))).trans e
  refine qaz (qbY q5 rfl (qaz (qb6 (?_:wpAny _ _ (Builtin.SmallTypes.ownedTupleHandOut (.ref (N+4)) (.ref g5.objs.size)>>=_) _ _ _))));refine qaz ?_;unfold Builtin.SmallTypes.ownedTupleHandOut;refine qaz (qb1 (show ze4 (g5.push {cls:= .type "tuple",data:= .seq #[x,y]}) (N+4) (N+2) (N+3) .ellipsis bb from qaE _ z5) (by simp) fun g7 z7 s7=>?_)
  replace z7:ze4 g7 (N+4) (N+2) (N+3) (rawInt g5.objs.size) bb:=z7
  refine qb1 z7 (by simp) fun g8 z8 s8=>qaC ⟨_,rfl,?_⟩
  replace z8:ze4 g8 (N+4) (N+2) (N+3) (rawInt g5.objs.size) false:=z8
  have up:∀c o,c≠N+4->g5.get? c=some o->g8.get? c=some o:=fun c o c1 e=>(s8.2 c c1).trans ((s7.2 c c1).trans (qaE _ e))
  have T8:IsPair g8 g5.objs.size x y:=(s8.2 _ (ne_ (by ac_rfl))).trans ((s7.2 _ (ne_ (by ac_rfl))).trans (qaI _ rfl));rw[sz]at z8 T8;refine(?_:Q (.ref g5.objs.size) _);rw[sz];exact k x y g8 _ p1 p2 ⟨_,_,z8,.inr ⟨_,rfl⟩⟩ ⟨_,_,up _ _ (ne_ (by ac_rfl)) q5⟩ (D1.frame _ _ _ f5 fun b hb o e=>up b o (nin2 hb (by ac_rfl) (by ac_rfl)) e) (D2.frame _ _ _ f5' fun b hb o e=>up b o (nin2 hb (by ac_rfl) (by ac_rfl)) e) T8 fun c o c1 c2 c3 c4 e=>up c o c4 (k5 c o c1 c2 c3 c4 e)
 ·simp only[qbQ,qbc];simp only[List.forIn_toArray,qbJ,qbP];have e0:S1 i g0:=D1.frame _ _ _ h1 fun b hb o e=>(s0.2 b (nin2 hb (by ac_rfl) (by ac_rfl))).trans e
  refine qaz (qaz (qaz (qaA (?_:wpAny _ _ (Builtin.SmallTypes.nextOf (.ref N)>>=_) _ _ _))));refine qaz (D1.item i _ _ _ i1 e0 fun x g2 t2 p1 f2 s2=>qaC (qaC ?_));refine qaz (qaz (qaA (?_:wpAny _ _ (Builtin.SmallTypes.nextOf (.ref (N+1))>>=_) _ _ _)));have e3:S2 i g2:=D2.frame _ _ _ h2 fun b hb o e=>(s2.2 b (nin2 hb (by ac_rfl) (by ac_rfl))).trans ((s0.2 b (nin2 hb (by ac_rfl) (by ac_rfl))).trans e)
  refine qaz (D2.item i _ _ _ i2 e3 fun y g4 t4 p2 f4 s4=>qaC (qaC (qaC ?_)));have sz:g4.objs.size=s.heap.objs.size:=by rw[s4.1,s2.1,s0.1]
  have z4:ze4 g4 (N+4) (N+2) (N+3) f0 true:=(s4.2 _ (ne_ (by ac_rfl))).trans ((s2.2 _ (ne_ (by ac_rfl))).trans z0);have f4':S1 (i+1) g4:=D1.frame _ _ _ f2 fun b hb o e=>(s4.2 b (nin2 hb (by ac_rfl) (by ac_rfl))).trans e
  refine(?_:wpAny _ _ (newTuple [x,y]>>=_) _ _ _);refine qaz (qb6 (qaC ⟨_,rfl,?_⟩));have k5:∀c o,c≠N->c≠N+1->c≠N+3->c≠N+4->s.heap.get? c=some o->g4.get? c=some o:=fun c o c1 c2 c3 c4 e=>(s4.2 c c2).trans ((s2.2 c c1).trans ((s0.2 c c4).trans e))
  have q4:IsPair g4 (N+3) a b:=(s4.2 _ (ne_ (by ac_rfl))).trans ((s2.2 _ (ne_ (by ac_rfl))).trans ((s0.2 _ (ne_ (by ac_rfl))).trans hTO));have T8:IsPair (g4.push {cls:= .type "tuple",data:= .seq #[x,y]}) g4.objs.size x y:=qaI _ rfl;rw[sz]at T8;refine(?_:Q (.ref g4.objs.size) _);rw[sz];exact k x y _ _ p1 p2 ⟨_,_,qaE _ z4,hf⟩ ⟨_,_,qaE _ q4⟩ (D1.frame _ _ _ f4' fun b hb o e=>qaE _ e) (D2.frame _ _ _ f4 fun b hb o e=>qaE _ e) T8 fun c o c1 c2 c3 c4 e=>qaE _ (k5 c o c1 c2 c3 c4 e)
theorem zq6 {Q:Fin->Shared->Prop}(D1:Draws prog w A N [N,a1] n1 P1 S1)(D2:Draws prog w A (N+1) [N+1,a2] n2 P2 S2)(l1:a1<N)(l2:a2<N)
  (hz':ZipAt s.heap (N+4) (N+2) (N+3)) (hTI:IsPair s.heap (N+2) (.ref N) (.ref (N+1))) (hTO:IsPair s.heap (N+3) a b) (h1:S1 i s.heap) (h2:S2 i s.heap) (hi:i=n1\/(i<n1/\i=n2))
  (k:∀h' e tk,(∀c o,c≠N->c≠N+1->c≠N+3->c≠N+4->s.heap.get? c=some o->h'.get? c=some o)->(∃o,h'.get? e=some o/\o.cls= .type "StopIteration")->E (.ref e) {s with heap:=h',toks:=tk}):
  wpAny (model prog w) A (Builtin.«zip.__next__» ⟨[.ref (N+4)],[]⟩) Q E s:=by
 obtain⟨f0,bb,hz,hf⟩:=hz';refine(?_:wpAny _ _ (field (.ref (N+4)) 2>>=_) _ _ _);refine qaz (qbd hz rfl (x:= .bool false) rfl (?_:wpAny _ _ (field (.ref (N+4)) 3>>=_) _ _ _));refine qaz (qbd hz rfl (x:= .ref (N+2)) rfl (qaz (qbY hTI rfl (?_:wpAny _ _ (Builtin.SmallTypes.ownedTupleIsFree (.ref (N+4))>>=_) _ _ _))));refine qaz (zrf hz hf ?_ fun g0 z0 s0=>?_)
 ·simp only[if_true];refine qaz (qaF (qaz (qbd hz rfl (x:= .ref (N+3)) rfl (qaz (qb1 hz (by simp) fun g1 z1 s1=>qaz ?_)))))
  replace z1:ze4 g1 (N+4) (N+2) (N+3) .ellipsis bb:=z1
  simp only[qb2,qb3,qbJ,qbP];refine qaz (qaz (qb4 (?_:wpAny _ _ (Builtin.SmallTypes.nextOf (.ref N)>>=_) _ _ _)));have e1:S1 i g1:=D1.frame _ _ _ h1 fun b hb o e=>(s1.2 b (nin2 hb (by ac_rfl) (by ac_rfl))).trans e
  rcases hi with rfl|⟨i1,rfl⟩
  ·refine qaz (D1.done _ _ _ e1 fun g2 e x2 he=>?_);obtain⟨oe,hoe,hce⟩:=he;have z2:ze4 g2 (N+4) (N+2) (N+3) .ellipsis bb:=x2 _ _ (ne_ (by ac_rfl)) z1;have hez:e≠N+4:=fun x=>by subst x;rw[z2]at hoe;cases hoe;simp at hce
   exact qb1 z2 (by simp) fun g3 _ s3=>k g3 e _ (fun c o c1 c2 c3 c4 x=>(s3.2 c c4).trans (x2 c o c1 ((s1.2 c c4).trans x))) ⟨oe,(s3.2 _ hez).trans hoe,hce⟩
  ·refine qaz (D1.item i _ _ _ i1 e1 fun x g2 t2 p1 f2 s2=>qaC ?_);have q2:IsPair g2 (N+3) a b:=(s2.2 _ (ne_ (by ac_rfl))).trans ((s1.2 _ (ne_ (by ac_rfl))).trans hTO);refine qaz (qbY q2 rfl (qaz (qcl q2 fun g3 q3 s3=>qaz (qb5 (qaC ?_)))))
   replace q3:IsPair g3 (N+3) x b:=q3
   refine qaz (qaz (qb4 (?_:wpAny _ _ (Builtin.SmallTypes.nextOf (.ref (N+1))>>=_) _ _ _)));have e3:S2 i g3:=D2.frame _ _ _ h2 fun b hb o e=>(s3.2 b (nin2 hb (by ac_rfl) (by ac_rfl))).trans ((s2.2 b (nin2 hb (by ac_rfl) (by ac_rfl))).trans ((s1.2 b (nin2 hb (by ac_rfl) (by ac_rfl))).trans e))
   refine qaz (D2.done _ _ _ e3 fun g4 e x4 he=>?_);obtain⟨oe,hoe,hce⟩:=he;have z3:ze4 g3 (N+4) (N+2) (N+3) .ellipsis bb:=(s3.2 _ (ne_ (by ac_rfl))).trans ((s2.2 _ (ne_ (by ac_rfl))).trans z1);have z4:ze4 g4 (N+4) (N+2) (N+3) .ellipsis bb:=x4 _ _ (ne_ (by ac_rfl)) z3;have hez:e≠N+4:=fun x=>by subst x;rw[z4]at hoe;cases hoe;simp at hce
   exact qb1 z4 (by simp) fun g5 _ s5=>k g5 e _ (fun c o c1 c2 c3 c4 x=>(s5.2 c c4).trans (x4 c o c2 ((s3.2 c c3).trans ((s2.2 c c1).trans ((s1.2 c c4).trans x))))) ⟨oe,(s5.2 _ hez).trans hoe,hce⟩
 ·simp only[qbQ,qbc,List.forIn_toArray,qbJ,qbP];have e0:S1 i g0:=D1.frame _ _ _ h1 fun b hb o e=>(s0.2 b (nin2 hb (by ac_rfl) (by ac_rfl))).trans e
  refine qaz (qaz (qaz (qaA (?_:wpAny _ _ (Builtin.SmallTypes.nextOf (.ref N)>>=_) _ _ _))));rcases hi with rfl|⟨i1,rfl⟩
  ·refine qaz (D1.done _ _ _ e0 fun g2 e x2 he=>?_);exact k g2 e _ (fun c o c1 c2 c3 c4 x=>x2 c o c1 ((s0.2 c c4).trans x)) he
  ·refine qaz (D1.item i _ _ _ i1 e0 fun x g2 t2 p1 f2 s2=>qaC (qaC ?_));refine qaz (qaz (qaA (?_:wpAny _ _ (Builtin.SmallTypes.nextOf (.ref (N+1))>>=_) _ _ _)));have e3:S2 i g2:=D2.frame _ _ _ h2 fun b hb o e=>(s2.2 b (nin2 hb (by ac_rfl) (by ac_rfl))).trans ((s0.2 b (nin2 hb (by ac_rfl) (by ac_rfl))).trans e)
   refine qaz (D2.done _ _ _ e3 fun g4 e x4 he=>?_);exact k g4 e _ (fun c o c1 c2 c3 c4 x=>x4 c o c2 ((s2.2 c c1).trans ((s0.2 c c4).trans x))) he
end
theorem ZipAt.at {h h':Heap}{z TI TO:Addr}(x:ZipAt h z TI TO)(e:∀o,h.get? z=some o->h'.get? z=some o):ZipAt h' z TI TO:=by
 obtain⟨f0,b,q,r⟩:=x;exact⟨f0,b,e _ q,r⟩
theorem znB {z TI TO:Addr}(hz:ZipAt s.heap z TI TO)(h:Q (.ref z) s):wpAny (model prog w) A (pyIter (.ref z)) Q E s:=by
 obtain⟨f0,b,q,r⟩:=hz;have hT:s.TypeIs (.ref z) "zip":=⟨_,q,rfl⟩;exact wpAny_pyIter_slot hT F.slot_zip_iter (qbh F.slot_zip_iter hT F.entry_zip_iter (qaC ⟨.ref z,rfl,"zip",.builtin "zip.__next__",hT,F.slot_zip_next.lookup,h⟩) (F.args_zip_iter_1 (.ref z)))
theorem letGoZ {z TI TO:Addr}{Q:Unit->Shared->Prop}(hz:ZipAt s.heap z TI TO)(h1:Q () s)
  (h2:∀h',ZipAt h' z TI TO->Heap.SameBut z s.heap h'->Q () {s with heap:=h'}):wpAny (model prog w) A (letOwnedTupleGo tg (.ref z) u) Q E s:=by
 obtain⟨f0,b,q,r⟩:=hz;have core:∀a:Addr,wpAny (model prog w) A (do
   let o<-load z
   match o.cls,o.data with
    |Value.type n,Data.fields vs=>
     if(["enumerate","zip","dict_itemiterator","dict_reverseitemiterator","odict_iterator","itertools.zip_longest","itertools.pairwise"].contains n&&vs[0]? ==some (rawInt ↑a))=true then do
      rule "for.unpacks-the-owned-tuple"
      updateField z 0 Value.none
     else pure ()
    |x,x_1=>pure ()) Q E s:=fun a=>by
  refine qaz (wpAny_load q ?_);dsimp only
  split
  ·refine qaz (qaF ?_);refine(?_:wpAny _ _ (setField (.ref z) 0 .none) _ _ _);exact qb1 q (by simp) fun g1 z1 s1=>h2 g1 ⟨_,_,z1,.inl rfl⟩ s1
  ·exact qaC h1
 unfold letOwnedTupleGo;cases tg<;>first|exact qaC h1|(cases u<;>first|exact qaC h1|exact core _)
theorem zo8 {P:Program}{w:World}(t1:Bool)(a1:Nat)(t2:Bool)(a2:Nat)(n N:Nat)(l1:a1<N)(l2:a2<N):
  Turn P w K tg (Itz2 K t1 a1 t2 a2 n) ([N,N+1,N+2,N+3,N+4]:List Nat) (N+4:Nat)
   (fun i h=>i<=n/\ZipAt h (N+4:Nat) (N+2:Nat) (N+3:Nat)/\IsPair h (N+2:Nat) (.ref N) (.ref (N+1:Nat))/\(∃a b,IsPair h (N+3:Nat) a b)/\SrcIt t1 h N a1 i/\SrcIt t2 h (N+1:Nat) a2 i) where
 mem:=by simp
 obj:=fun i h st b hb=>by
  obtain⟨-,h4,h2,⟨a,c,h3⟩,h0,h1⟩:=st;simp only[qao,qb8,or_false]at hb;rcases hb with rfl|rfl|rfl|rfl|rfl
  ·exact h0.obj
  ·exact h1.obj
  ·exact⟨_,h2,fun v z=>by cases z⟩
  ·exact⟨_,h3,fun v z=>by cases z⟩
  ·obtain⟨f0,bb,z4,-⟩:=h4;exact⟨_,z4,fun v z=>by cases z⟩
 keep:=fun i h h' st k=>by
  obtain⟨hi,h4,h2,⟨a,c,h3⟩,h0,h1⟩:=st;exact⟨hi,h4.at fun o e=>k _ (by simp) o e,k _ (by simp) _ h2,⟨a,c,k _ (by simp) _ h3⟩,h0.at fun o e=>k _ (by simp) o e,h1.at fun o e=>k _ (by simp) o e⟩
 item:=by
  intro X hP hw hK hc i pins s σ H E I hf st hg;subst hP hw hK;obtain⟨hi,h4,h2,⟨a,c,h3⟩,h0,h1⟩:=st;obtain⟨hn,xs,ys,q1,q2,en⟩:=hg;obtain⟨us,ru,hu,zu⟩:=q1.heap I;obtain⟨ws,rw',hw',zw⟩:=q2.heap I;have lu:=ru.length;have lw:=rw'.length;have D1:=zbx (prog:=X.prog) (w:=X.w) (A:=X.A.in1) (t:=t1) (I.ok.hd hc) N a1 (ne_ (by ac_rfl)) us.toArray;have D2:=zbx (prog:=X.prog) (w:=X.w) (A:=X.A.in1) (t:=t2) (I.ok.hd hc) (N+1) a2 (ne_ (by ac_rfl)) ws.toArray;have z4:=h4;obtain⟨f0,bb,z4,-⟩:=z4;have hT:s.TypeIs (.ref (N+4:Nat)) "zip":=⟨_,z4,rfl⟩;unfold pyNext;refine qaz (qb9 (qbf (name:=Str.ofString "__next__") hT qca (qbh qca hT qcb
   (zpu D1 D2 l1 l2 h4 h2 h3 ⟨h0,hu⟩ ⟨h1,hw'⟩ (by simp;lia) (by simp;lia) fun x y h' tk p1 p2 g4 g3 g0 g1 gT kk=>qaC ?_) (qcc _))))
  obtain⟨x1,hx1⟩:∃x1,xs[i]? =some x1:=⟨xs[i]'(by lia),qbD _⟩;obtain⟨x2,hx2⟩:∃x2,ys[i]? =some x2:=⟨ys[i]'(by lia),qbD _⟩;obtain⟨u1,hu1,r1⟩:=ru.get hx1;obtain⟨u2,hu2,r2⟩:=rw'.get hx2;have e1:u1=x:=by
   have:us[i]? =some x:=by simpa using p1
   rw[hu1]at this;cases this;rfl
  have e2:u2=y:=by
   have:ws[i]? =some y:=by simpa using p2
   rw[hu2]at this;cases this;rfl
  subst e1 e2;refine⟨_,rfl,?_⟩;have fin:∀h'',ZipAt h'' (N+4:Nat) (N+2:Nat) (N+3:Nat)->Heap.SameBut (N+4:Nat) h' h''->∃x H',L2.Inv X pins σ H' {s with heap:=h'',toks:=tk}/\RelV x (.ref s.heap.objs.size)/\(Itz2 X.K t1 a1 t2 a2 n).yld i H x H'/\(i+1<=n/\ZipAt h'' (N+4:Nat) (N+2:Nat) (N+3:Nat)/\IsPair h'' (N+2:Nat) (.ref N) (.ref (N+1:Nat))/\(∃a b,IsPair h'' (N+3:Nat) a b)/\SrcIt t1 h'' N a1 (i+1)/\SrcIt t2 h'' (N+1:Nat) a2 (i+1))/\∀b∈([N,N+1,N+2,N+3,N+4]:List Nat),H' b=none:=fun h'' z'' sb=>by
   have lz:N+4<s.heap.objs.size:=qae z4;have kk':∀b o,b∉([N,N+1,N+2,N+3,N+4]:List Nat)->s.heap.get? b=some o->h''.get? b=some o:=fun b o hb e=>by
    obtain⟨c1,c2,c3,c4⟩:=nin4 hb;exact(sb.2 b c4).trans (kk b o c1 c2 c3 c4 e)
   have I1:=znu (t':=tk) (vs:=[x1,x2]) (its:=[u1,u2]) I kk' hf (fun b hb=>by
    have:b=N\/b=N+1\/b=N+2\/b=N+3\/b=N+4:=by simpa using hb
    exact qcd (show(b:Nat)<=N+4 by rcases this with h|h|h|h|h<;>rw[h]<;>simp) lz) ((sb.2 _ (ne_ (by ac_rfl))).trans gT) (by simp;rw[qaN];decide) (.cons r1 (.cons r2 .nil))
   refine⟨.ref s.heap.objs.size,_,I1,rfl,⟨_,x1,x2,I.hok.fresh (qaJ _),rfl,rfl,fun xs' ys' b1 b2=>?_⟩,⟨hn,z'',(sb.2 _ (ne_ (by ac_rfl))).trans (kk _ _ (ne_ (by ac_rfl)) (ne_ (by ac_rfl)) (ne_ (by ac_rfl)) (ne_ (by ac_rfl)) h2),(let⟨a',b',e'⟩:=g3;⟨a',b',(sb.2 _ (ne_ (by ac_rfl))).trans e'⟩),SrcIt.at g0.1 fun o e=>(sb.2 _ (ne_ (by ac_rfl))).trans e,SrcIt.at g1.1 fun o e=>(sb.2 _ (ne_ (by ac_rfl))).trans e⟩,fun b hb=>?_⟩
   ·rw[SrcSq.inj I b1 q1,SrcSq.inj I b2 q2];exact⟨hx1,hx2⟩
   ·have:b=N\/b=N+1\/b=N+2\/b=N+3\/b=N+4:=by simpa using hb
    rw[zav (qah (qcd (show(b:Nat)<=N+4 by rcases this with h|h|h|h|h<;>rw[h]<;>simp) lz))]
    exact(hf b hb).1
  exact letGoZ (s:={s with heap:=h',toks:=tk}) g4 (fin h' g4 ⟨rfl,fun _ _=>rfl⟩) fun h'' z'' sb=>fin h'' z'' sb
 done:=by
  intro X hP hw hK hc i pins s σ H E I hf st hg;subst hP hw hK;obtain⟨hi,h4,h2,⟨a,c,h3⟩,h0,h1⟩:=st;obtain⟨hn,xs,ys,q1,q2,en⟩:=hg;obtain⟨us,ru,hu,zu⟩:=q1.heap I;obtain⟨ws,rw',hw',zw⟩:=q2.heap I;have lu:=ru.length;have lw:=rw'.length;have D1:=zbx (prog:=X.prog) (w:=X.w) (A:=X.A.in1) (t:=t1) (I.ok.hd hc) N a1 (ne_ (by ac_rfl)) us.toArray;have D2:=zbx (prog:=X.prog) (w:=X.w) (A:=X.A.in1) (t:=t2) (I.ok.hd hc) (N+1) a2 (ne_ (by ac_rfl)) ws.toArray;have z4:=h4;obtain⟨f0,bb,z4,-⟩:=z4;have hT:s.TypeIs (.ref (N+4:Nat)) "zip":=⟨_,z4,rfl⟩;unfold pyNext;refine qaz (qb9 (qbf (name:=Str.ofString "__next__") hT qca (qbh qca hT qcb
   (zq6 D1 D2 l1 l2 h4 h2 h3 ⟨h0,hu⟩ ⟨h1,hw'⟩ (by simp;lia) fun h' e tk kk he=>?_) (qcc _))))
  obtain⟨o,ho,hce⟩:=he;refine qaz (wpAny_isInstance (T:="StopIteration") (b:=true) ⟨o,ho,hce⟩ isSubtype_stop (qaC ⟨rfl,zlh I (fun b o hb e=>?_) hf⟩));obtain⟨c1,c2,c3,c4⟩:=nin4 hb;exact kk b o c1 c2 c3 c4 e
 self:=fun _ _ _ _ _ st h=>znB st.2.1 h
theorem pi_zip2N {a b:Expr}{ta:TA}(hg:Gl X "zip")(hm:X.mg "zip"=none)(ha:PA X [a,b] ta)(hs:starEach [a,b] X.env=(false,eval a X.env)::starEach [b] X.env:=by rfl)(hs2:(backTo pos (starEach [b] X.env)).any (·.1)=false:=by rfl):
  PI X tg (.Call (.Name "zip" p) [a,b] [] pos) (fun σ H R=>ta σ H fun vs H1=>∃t1 a1 xs t2 a2 ys,vs=[.ref a1,.ref a2]/\SrcSq t1 X.K H1 a1 xs/\SrcSq t2 X.K H1 a2 ys/\R (Itz2 X.K t1 a1 t2 a2 (min xs.length ys.length)) H1):=by
 intro pins s σ H R I h;refine Call_ (ziy I hg hm zoW (qaK (thn (ha pos pins s σ H _ I h) fun us s1 ⟨vs,H1,I1,r1,q1⟩=>?_) hs hs2));obtain⟨t1,a1,xs,t2,a2,ys,e,q1,q2,q⟩:=q1;subst e;cases r1 with
 |cons r rr=>
  cases rr with
  |cons r' rr=>
   cases rr;cases r;cases r';obtain⟨us,ru,hu,-⟩:=q1.heap I1;obtain⟨ws,rw',hw',-⟩:=q2.heap I1;refine zqW hu hw' fun h' g4 g2 g3 g0 g1 kk=>wpAny_pyIter_zip g4 ⟨_,_,_,_,H1,rfl,I1.kept (t':=s1.toks) kk,zo8 t1 a1 t2 a2 (min xs.length ys.length) s1.heap.objs.size hu.lt hw'.lt,⟨qbv _,⟨_,_,g4,.inl rfl⟩,g2,⟨_,_,g3⟩,g0,g1⟩,fun b hb=>?_,q⟩
   have:b=s1.heap.objs.size\/b=s1.heap.objs.size+1\/b=s1.heap.objs.size+2\/b=s1.heap.objs.size+3\/b=s1.heap.objs.size+4:=by simpa using hb
   have le:s1.heap.objs.size<=b:=by rcases this with h|h|h|h|h<;>rw[h]<;>simp
   exact I1.fpOk le (I1.hok.fresh le)
theorem zoG {a b:Expr}{ma:MA}(hm:X.mg "zip"=none)(ha:SA X [a,b] ma)(hg:Gl X "zip":=by rfl)(hs:starEach [a,b] X.env=(false,eval a X.env)::starEach [b] X.env:=by rfl)(hs2:(backTo pos (starEach [b] X.env)).any (·.1)=false:=by rfl):
  SIt X tg (.Call (.Name "zip" p) [a,b] [] pos) (iZ2 ma):=by
 obtain⟨t,pa,sa⟩:=ha;refine⟨_,pi_zip2N hg hm pa hs hs2,fun B G H σ ρ ds ρ' Q I hm k=>?_⟩;obtain⟨⟨es,ρ1⟩,e1,h2⟩:=zae hm;dsimp only at h2;refine sa B G H σ ρ es ρ1 _ I e1 fun G1 H1 vs I1 f1 r1=>?_
 split at h2
 ·obtain⟨xs,ex,h2⟩:=zae h2;obtain⟨ys,ey,h2⟩:=zae h2;cases h2;obtain⟨x,y,rfl,rx,ry⟩:=r1.two;obtain⟨t1,a1,us,rfl,s1,c1⟩:=zkJ rx ex;obtain⟨t2,a2,ws,rfl,s2,c2⟩:=zkJ ry ey;have n1:=c1.length;have n2:=c2.length;refine⟨t1,a1,us,t2,a2,ws,rfl,s1 _ I1.fz,s2 _ I1.fz,k _ G1 H1 I1 f1 ⟨fun H i f hi=>?_,fun H i x H' f y d e=>?_,fun H i f hi=>?_⟩⟩
  ·exact⟨by simp[znY]at hi;lia,us,ws,s1 _ f,s2 _ f,rfl⟩
  ·obtain⟨p,x1,x2,hp,eh,ex',q⟩:=y;obtain⟨q1,q2⟩:=q us ws (s1 _ f) (s2 _ f);simp only[znY,qce]at e
   split at e
   ·rename_i d1 d2 g1 g2;cases e;obtain⟨v1,b1,r1⟩:=c1.get g1;obtain⟨v2,b2,r2⟩:=c2.get g2;rw[q1]at b1;cases b1;rw[q2]at b2;cases b2;exact .inr ⟨p,_,_,hp,eh,ex',rfl,⟨_,_,rfl,r1,_,_,rfl,r2,rfl⟩⟩
   ·cases e
  ·exact⟨by simp[znY]at hi;lia,us,ws,s1 _ f,s2 _ f,rfl⟩
 ·cases h2
end M
namespace M
open L2 PySem PySem.Spec
open PyProof.Rows hiding St
theorem ndk {l:List Str}(h:decide l.Nodup=true:=by kernel_rfl):l.Nodup:=qbC h
theorem us_0 {p:List Value->Prop}(h:p []):∀us:List Value,us.length=0->p us:=fun us e=>by
 cases us with
 |nil=>exact h
 |cons=>cases e
theorem us_s {p:List Value->Prop}{n:Nat}(h:∀(a:Value) (us:List Value),us.length=n->p (a::us)):∀us:List Value,us.length=n+1->p us:=fun us e=>by
 cases us with
 |nil=>cases e
 |cons a us=>exact h a us (Nat.succ.inj e)
section
variable {P:Program} {w:World} {K:W.Frag} {mg:Str->Option Value} {base hp:Heap} {x:Str} {st:Stmt} {f:Addr}
noncomputable def FnAt (K:W.Frag)(x:Str)(st:Stmt):Prop:=∃f fd,W.nsIn K mainGlobals x=some (some (.ref f))/\Fun K x x st f fd
theorem FnAt.mk {oc:Value}{od an:Option Addr}{osl:Array (Option Value)}{kV doc pm cdv ct:Value}(a:W.nsIn K mainGlobals x=some (some (.ref f)))(l:K.lookup f=some ⟨oc,od,.func (W.fnOf x x (zgQ st) (zca st) (zaA st) .none kV doc pm an cdv ct),osl⟩)
  (c:W.codeIn K cdv x=true) (k:W.keepIn K (.ref f)=true):FnAt K x st:=⟨f,_,a,fun_mk l c k⟩
noncomputable abbrev BindsAt (x:Str)(st:Stmt)(ps:List Str):Prop:=∀(kV doc pm:Value) (an:Option Addr) (cdv ct:Value) (us:List Value),us.length=ps.length->bindArgs (W.fnOf x x (zgQ st) (zca st) (zaA st) .none kV doc pm an cdv ct) ⟨us,[]⟩=pure (ps.zip us)
theorem FnAt.law (h:FnAt K x st)(X:K.In hp)(G:hp.Ns mainGlobals mg)(hf:mg x=some (.ref f)):∃kV doc pm an cdv ct,Fun K x x st f (W.fnOf x x (zgQ st) (zca st) (zaA st) .none kV doc pm an cdv ct):=by
 obtain⟨f',fd,a,T⟩:=h;have e:=hf.symm.trans (W.mg_of X G a);cases e;obtain⟨oc,od,kV,doc,pm,an,cdv,ct,osl,rfl,lk,hcd⟩:=id T.ex;exact⟨kV,doc,pm,an,cdv,ct,T⟩
variable {N:List Str} {k n:Nat} {m:MS}
noncomputable abbrev Bd (P:Program)(w:World)(K:W.Frag)(mg:Str->Option Value)(base:Heap)(x:Str)(st:Stmt)(N:List Str)(k:Nat)(m:MS):Prop:=∀(f:Addr) (cdv:Value) (A:Around) (outer:List Env) (s:Shared) (H:Hp) (E:XK),Room k (A.deeper (PyProof.Rows.envOfC x (zaA st) s.heap.objs.size f cdv))->N.Nodup->SSs (cxOf CX0 P w K mg base N x (zaA st) f cdv A outer s H E).nox (zca st) m
structure DefOk (x:Str) (st:Stmt) (N:List Str) (n:Nat):Prop where
 sc:FnScope N (N.take n) (zaA st)
 len:(N.take n).length=n
 le:n<=N.length
 bs:BindsAt x st (N.take n)
theorem lawP {fd:FuncData}(F:Fun K x x st f fd)(b:Bd P w K mg base x st N k m)(d:DefOk x st N n:=by exact⟨⟨rfl,rfl,rfl,by decide+kernel,rfl,by decide+kernel,by decide+kernel⟩,rfl,by decide,fun _ _ _ _ _ _=>by first|exact us_s fun _=>us_0 rfl|exact us_s fun _=>us_s fun _=>us_0 rfl|exact us_s fun _=>us_s fun _=>us_s fun _=>us_0 rfl|exact us_s fun _=>us_s fun _=>us_s fun _=>us_s fun _=>us_0 rfl|exact us_0 rfl|exact us_s fun _=>us_s fun _=>us_s fun _=>us_s fun _=>us_s fun _=>us_0 rfl⟩):FnOk P w K mg base CX0 (k+1) f fd (N.take n) (spP K n (fP N.length m)):=fnP_ok F d.sc d.len d.le fun cdv A outer s H E hr=>b _ cdv A outer s H E hr d.sc.nd
theorem fdP (X:K.In hp)(G:hp.Ns mainGlobals mg)(h:FnAt K x st)(b:Bd P w K mg base x st N k m)(d:DefOk x st N n:=by exact⟨⟨rfl,rfl,rfl,by decide+kernel,rfl,by decide+kernel,by decide+kernel⟩,rfl,by decide,fun _ _ _ _ _ _=>by first|exact us_s fun _=>us_0 rfl|exact us_s fun _=>us_s fun _=>us_0 rfl|exact us_s fun _=>us_s fun _=>us_s fun _=>us_0 rfl|exact us_s fun _=>us_s fun _=>us_s fun _=>us_s fun _=>us_0 rfl|exact us_0 rfl|exact us_s fun _=>us_s fun _=>us_s fun _=>us_s fun _=>us_s fun _=>us_0 rfl⟩):FD P w K mg base (k+1) x (spP K n (fP N.length m)):=
 let⟨f,fd,a,T⟩:=h
 ⟨⟨f,fd,_,fnP_ok T d.sc d.len d.le fun cdv A outer s H E hr=>b _ cdv A outer s H E hr d.sc.nd,W.mg_of X G a,T.kp,T.binds d.bs⟩⟩
theorem fdM (X:K.In hp)(G:hp.Ns mainGlobals mg)(h:FnAt K x st)(b:Bd P w K mg base x st N k m)(d:DefOk x st N n:=by exact⟨⟨rfl,rfl,rfl,by decide+kernel,rfl,by decide+kernel,by decide+kernel⟩,rfl,by decide,fun _ _ _ _ _ _=>by first|exact us_s fun _=>us_0 rfl|exact us_s fun _=>us_s fun _=>us_0 rfl|exact us_s fun _=>us_s fun _=>us_s fun _=>us_0 rfl|exact us_s fun _=>us_s fun _=>us_s fun _=>us_s fun _=>us_0 rfl|exact us_0 rfl|exact us_s fun _=>us_s fun _=>us_s fun _=>us_s fun _=>us_s fun _=>us_0 rfl⟩):FD P w K mg base (k+1) x (spM K n (fM N.length m)):=
 let⟨f,fd,a,T⟩:=h
 ⟨⟨f,fd,_,fnM_ok T d.sc d.len d.le fun cdv A outer s H E hr=>b _ cdv A outer s H E hr d.sc.nd,W.mg_of X G a,T.kp,T.binds d.bs⟩⟩
theorem fdMT (X:K.In hp)(G:hp.Ns mainGlobals mg)(h:FnAt K x st)(b:Bd P w K mg base x st N k m)(d:DefOk x st N n:=by exact⟨⟨rfl,rfl,rfl,by decide+kernel,rfl,by decide+kernel,by decide+kernel⟩,rfl,by decide,fun _ _ _ _ _ _=>by first|exact us_s fun _=>us_0 rfl|exact us_s fun _=>us_s fun _=>us_0 rfl|exact us_s fun _=>us_s fun _=>us_s fun _=>us_0 rfl|exact us_s fun _=>us_s fun _=>us_s fun _=>us_s fun _=>us_0 rfl|exact us_0 rfl|exact us_s fun _=>us_s fun _=>us_s fun _=>us_s fun _=>us_s fun _=>us_0 rfl⟩):FD P w K mg base (k+1) x (spMT K n (fMT N.length m)):=
 let⟨f,fd,a,T⟩:=h
 ⟨⟨f,fd,_,fnMT_ok T d.sc d.len d.le fun cdv A outer s H E hr=>b _ cdv A outer s H E hr d.sc.nd,W.mg_of X G a,T.kp,T.binds d.bs⟩⟩
theorem fdX {m:MX}(X:K.In hp)(G:hp.Ns mainGlobals mg)(h:FnAt K x st)(b:∀(f:Addr) (cdv:Value) (A:Around) (outer:List Env) (s:Shared) (H:Hp) (E:XK),Room k (A.deeper (PyProof.Rows.envOfC x (zaA st) s.heap.objs.size f cdv))->N.Nodup->XSs (cxOf (CX1 P w) P w K mg base N x (zaA st) f cdv A outer s H E) (fun _=>True) E (zca st) m)(d:DefOk x st N n:=by exact⟨⟨rfl,rfl,rfl,by decide+kernel,rfl,by decide+kernel,by decide+kernel⟩,rfl,by decide,fun _ _ _ _ _ _=>by first|exact us_s fun _=>us_0 rfl|exact us_s fun _=>us_s fun _=>us_0 rfl|exact us_s fun _=>us_s fun _=>us_s fun _=>us_0 rfl|exact us_s fun _=>us_s fun _=>us_s fun _=>us_s fun _=>us_0 rfl|exact us_0 rfl|exact us_s fun _=>us_s fun _=>us_s fun _=>us_s fun _=>us_s fun _=>us_0 rfl⟩):FDX P w K mg base (k+1) x (spX K n (fX N.length m)):=
 let⟨f,fd,a,T⟩:=h
 ⟨⟨f,fd,_,fnX_ok T d.sc d.len d.le fun cdv A outer s H E hr=>b _ cdv A outer s H E hr d.sc.nd,W.mg_of X G a,T.kp,T.binds d.bs⟩⟩
end
variable {P:Program} {w:World} {H G:Hp} {h:Heap} {a b:Addr} {o:Obj} {xs:List (List L2.Key×Addr×Value)} {ks:List (List Int)} {ys:List (List L2.Key×V)}
noncomputable def Sl.dit:Sl->Option (List (List Int)×List D)
 | .tre (.dit ks ds)=>some (ks,ds)
 | .ptr (.dit ks ds)=>some (ks,ds)
 | .val (.dit ks ds)=>some (ks,ds)
 |_=>none
end M
namespace M
open L2 PySem PySem.Spec
open PyProof.Rows hiding St
noncomputable def fzDT (j:Nat)(ρ:R):R:=match ρ[j]? with
 |some (.tre (.dit ks ds))=>ρ.set j (.val (.dit ks ds))
 |_=>ρ
noncomputable def eCallU (F:List D->Option Sl)(ma:MA):ME:=fun ρ=>(ma ρ).bind fun p=>(F p.1).bind fun r=>match r with
 | .tre (.tup cs)=>some (.tup (cs.map Ch.D),p.2)
 |_=>none
noncomputable def fzU (j:Nat)(ρ:R):R:=match ρ[j]? with
 |some (.tre (.tup cs))=>ρ.set j (.val (.tup (cs.map Ch.D)))
 |_=>ρ
noncomputable def turnT (g:D->R->Option R)(mt:MT)(mo:MO):D->R->Option (Option (List D)×R):=fun d ρ=>(g d ρ).bind fun ρ1=>(mt ρ1).bind fun p=>if p.1 then(mo p.2).bind fun q=>if zen q.2 then some (some q.1,q.2)else none else if zen p.2 then some (none,p.2)else none
noncomputable def rowsOf:List Ch->Option (List (List D))
 |[]=>some []
 | .l ds::cs=>(rowsOf cs).map (ds:: ·)
 |_=>none
noncomputable def qMod (ma mb:MQ):MQ:=fun ρ=>(ma ρ).bind fun a=>(mb ρ).bind fun b=>match a,b with
 | .int i,.int j=>if 0<j then some (.int (i%j))else none
 |_,_=>none
noncomputable def sIns (i:Nat)(ma:MA):MS:=fun ρ=>if(ρ[i]?.bind Sl.items).isSome then(ma ρ).bind fun p=>p.2[i]?.bind fun s=>s.items.bind fun ds=>match p.1 with
 |[.int k,d]=>if 0<=k/\k<=ds.length/\ds.length<16777216 then some (.next,p.2.set i (s.put (ds.take k.toNat++d::ds.drop k.toNat)))else none
 |_=>none else none
section
variable {X:Cx} {x y:Str} {pos p' q' tpos:Pos} {e a b:Expr} {es:List Expr} {mo:MO}
noncomputable def rInsert:V->List V->Hp->VK->Prop:=fun x vs H Q=>∃l xs y k,x= .ref l/\vs=[.int k,y]/\H l=some (.lst xs)/\0<=k/\k<=xs.length/\xs.length<sizeLine/\Q .non (upd H l (.lst (xs.take k.toNat++y::xs.drop k.toNat)))
theorem zqg:MtM X "list.insert" rInsert:=by
 intro pins s σ H x vs v us Q I rx rv h;obtain⟨l,xs,y,k,rfl,rfl,hH,hk,hk2,hz,q⟩:=h;cases rx;obtain⟨u1,u2,rfl,ru1,ru2⟩:=rv.two;obtain⟨t,rfl⟩:=ru1;obtain⟨z,its,n,r,hl,e⟩:=I.lstM hH;have hn:=zjN;have hc0:¬(!Builtin.List.listFitsIndex k)=true:=by
  have h1:(-(2^63:Int))<=k:=by lia
  have h2:k<2^63:=by lia
  have h3:Builtin.List.listFitsIndex k=true:=by
   unfold Builtin.List.listFitsIndex;rw[qbi];exact⟨qa7 h1,qa7 h2⟩
  rw[h3]
  decide
 refine call_meets F.slot_list_insert ⟨_,e,rfl⟩ F.entry_list_insert (F.args_list_insert_3 _ _ _) (AutoSeq1.list_insert_list_int_val_1 l its.toArray n k t u2 hc0 (by rw[qaO];lia)) ⟨e,?_⟩;refine⟨.non,_,I.lset (its':=its.take k.toNat++u2::its.drop k.toNat) hH e ?_ ((r.take k.toNat).append (.cons ru2 (r.drop k.toNat))) ?_,rfl,q⟩
 ·have h3:¬k<0:=by lia
  have h4:min k.toNat its.length=k.toNat:=by lia
  simp[h3,h4];exact qbT (by rw[qbe];exact qaJ _)
 ·rw[qa2,qa5,qaU,qbe];lia
theorem ss_ins (i:Nat){ma:MA}{e1 e2:Expr}{apos cpos:Pos}(he:SA X [e1,e2] ma)(hN:X.N[i]? =some x:=by rfl)(hv:Vis X.env.scope x:=by first|exact Or.inl rfl|exact Or.inr (Or.inl rfl)|exact Or.inr (Or.inr rfl))(hd:(x==("__debug__":Str))=false:=by decide)
  (hcd:(x==("__classdict__":Str))=false:=by decide)
  (hbase:attributeBase (.Name x p') "insert" X.env (eval (.Name x p') X.env)=eval (.Name x p') X.env:=by rfl)
  (hfew : ((backTo cpos (starEach [e1, e2] X.env)).all (fun x => !x.1) && (backToKw cpos (keywordEach [] X.env)).all (fun x => x.1.isSome)
   &&decide ([e1,e2].length+([]:List Keyword).length+(if([]:List Keyword).isEmpty then 0 else 1)<30))=true:=by rfl)
  (hline:(apos.endLine==cpos.line)=true:=by rfl) (hs:starEach [e1,e2] X.env=(false,eval e1 X.env)::starEach [e2] X.env:=by rfl) (hpl:(backTo cpos (starEach [e2] X.env)).any (·.1)=false:=by rfl):SS X (.Expr (.Call (.Attribute (.Name x p') "insert" apos) [e1,e2] [] cpos) pos) (sIns i ma):=by
 obtain⟨t,p,s⟩:=he;refine⟨_,znQ (pe_bm qbE PySem.F.slot_list_insert PySem.F.type_list_insert zqg (zc1 hN hv hd hcd) p hbase hfew hline hs hpl) (by rfl),fun B G H σ ρ fl ρ' E I hm k=>?_⟩;unfold sIns at hm
 split at hm
 ·rename_i hso;obtain⟨ds0,hso⟩:=qaT.mp hso;obtain⟨s0,e0,q0⟩:=zae hso;obtain⟨l,xs0,h1,h2,h3,h4⟩:=I.wr e0 q0;obtain⟨⟨as,ρ1⟩,e1,hm⟩:=zae hm;obtain⟨s1,e2,hm⟩:=zae hm;obtain⟨ds,e3,hm⟩:=zae hm;dsimp only at hm
  split at hm
  ·rename_i kk d y1 y2
   split at hm
   ·rename_i hl;cases hm;refine⟨.ref l,h1,.inl ⟨rfl,_,SqL.of h3⟩,s B G H σ ρ _ ρ1 _ I e1 fun G1 H1 vs I1 f1 r1=>?_⟩;obtain⟨v1,v2,rfl,w1,w2⟩:=r1.two;cases(show v1=V.int kk from w1);obtain⟨l',xs,k1,k2,k3,k4⟩:=I1.wr e2 e3;rw[h1]at k1;cases k1;refine⟨l,xs,v2,kk,rfl,rfl,k3,hl.1,by rw[k4.length];exact hl.2.1,by rw[k4.length,qaN];exact hl.2.2,?_⟩;exact k G1 _ σ (I1.write e2 e3 h1 ((k4.take _).append (.cons w2 (k4.drop _)))) f1
   ·cases hm
  ·cases hm
 ·cases hm
end
noncomputable def xIfE (c:MT)(a b:MX):MX:=fun ρ=>(c ρ).bind fun p=>if p.1 then a p.2 else b p.2
section
variable {X:Cx} {S:St->Prop} {E:XK} {e:Expr} {mx:MX} {pos:Pos}
theorem xs_ife {c:Expr}{a b:List Stmt}{mc:MT}{xa xb:MX}(hc:STt X c mc)(ha:XSs X S E a xa)(hb:XSs X S E b xb):XS X S E (.If c a b pos) (xIfE mc xa xb):=by
 obtain⟨tc,pc,sc⟩:=hc;obtain⟨t,pt,st⟩:=ha;obtain⟨u,pu,su⟩:=hb;refine⟨_,ps_if pc pt pu,fun B G H σ ρ c I hS hm w D=>?_⟩;obtain⟨⟨b,ρ1⟩,e1,hm⟩:=zae hm;refine sc B G H σ ρ b ρ1 _ I e1 fun G1 H1 I1 f1=>?_
 cases b with
 |true=>rw[if_pos rfl];exact st B G1 H1 σ ρ1 c I1 hS (by simpa using hm) w D
 |false=>rw[if_neg qaH];exact su B G1 H1 σ ρ1 c I1 hS (by simpa using hm) w D
end
noncomputable def zrw (b c:Nat)(ρ:R):Bool:=match ρ[b]?,ρ[c]? with
 |some (.par _),some (.par _)=>zen ((ρ.set b .emp).set c .emp)
 |_,_=>false
noncomputable def turnQ (b c:Nat)(g:D->R->Option R)(mt:MT)(me:ME):D->R->Option (Option D×R):=fun d ρ=>(g d ρ).bind fun ρ1=>(mt ρ1).bind fun p=>if p.1 then(me p.2).bind fun q=>if zrw b c q.2 then some (some q.1,q.2)else none else if zrw b c p.2 then some (none,p.2)else none
noncomputable def ePop (j:Nat)(me:ME):ME:=fun ρ=>if(ρ[j]?.bind Sl.items).isSome then(me ρ).bind fun p=>match p.1 with
 | .int i=>p.2[j]?.bind fun s=>s.items.bind fun ds=>if 0<=i/\i<ds.length/\ds.length<=16777216 then(ds[i.toNat]?).map fun d=>(d,p.2.set j (s.put (ds.eraseIdx i.toNat)))else none
 |_=>none else none
theorem RepL.erase {K:W.Frag}{G:Hp}:∀{xs:List V} {ds:List D} (k:Nat),RepL K G xs ds->RepL K G (xs.eraseIdx k) (ds.eraseIdx k)
 |_,[],_,h=>by cases h;simp;rfl
 |_,d::ds,0,⟨x,ys,e,a,b⟩=>by subst e;exact b
 |_,d::ds,k+1,⟨x,ys,e,a,b⟩=>by subst e;exact⟨x,_,rfl,a,RepL.erase k b⟩
section
variable {X:Cx} {x:Str} {e:Expr} {me:ME}
theorem se_pop (j:Nat){p' apos cpos:Pos}(he:SE X e me)(hN:X.N[j]? =some x:=by rfl)(hv:Vis X.env.scope x:=by first|exact Or.inl rfl|exact Or.inr (Or.inl rfl)|exact Or.inr (Or.inr rfl))(hd:(x==("__debug__":Str))=false:=by decide)
  (hcd:(x==("__classdict__":Str))=false:=by decide)
  (hbase:attributeBase (.Name x p') "pop" X.env (eval (.Name x p') X.env)=eval (.Name x p') X.env:=by rfl)
  (hfew : ((backTo cpos (starEach [e] X.env)).all (fun x => !x.1) && (backToKw cpos (keywordEach [] X.env)).all (fun x => x.1.isSome)
   &&decide ([e].length+([]:List Keyword).length+(if([]:List Keyword).isEmpty then 0 else 1)<30))=true:=by rfl)
  (hline:(apos.endLine==cpos.line)=true:=by rfl) (hs:starEach [e] X.env=(false,eval e X.env)::starEach [] X.env:=by rfl):SE X (.Call (.Attribute (.Name x p') "pop" apos) [e] [] cpos) (ePop j me):=by
 obtain⟨t,p,s⟩:=he;refine⟨_,pe_bm qbE PySem.F.slot_list_pop PySem.F.type_list_pop mt_popAt (zc1 hN hv hd hcd) (zb4 p ziz hs) hbase hfew hline hs rfl,fun B G H σ ρ d ρ' Q I hm k=>?_⟩;unfold ePop at hm
 split at hm
 ·rename_i hso;obtain⟨ds0,hso⟩:=qaT.mp hso;obtain⟨s0,e0,q0⟩:=zae hso;obtain⟨l,xs0,h1,h2,h3,h4⟩:=I.wr e0 q0;obtain⟨⟨dv,ρ1⟩,e1,hm⟩:=zae hm;dsimp only at hm
  split at hm
  ·rename_i i;obtain⟨s1,e2,hm⟩:=zae hm;obtain⟨ds,e3,hm⟩:=zae hm
   split at hm
   ·rename_i hl;obtain⟨dd,e4,e5⟩:=zat hm;obtain⟨rfl,rfl⟩:=Prod.mk.inj e5;refine⟨.ref l,h1,.inl ⟨rfl,_,SqL.of h3⟩,s B G H σ ρ (.int i) ρ1 _ I e1 fun G1 H1 v I1 f1 r1=>?_⟩;obtain⟨l',xs,k1,k2,k3,k4⟩:=I1.wr e2 e3;rw[h1]at k1;cases k1;cases(show v= .int i from r1);obtain⟨y,hy,ry⟩:=k4.get e4;have len:=k4.length;refine⟨l,xs,i,i.toNat,y,rfl,rfl,k3,by lia,by lia,by unfold seqIndex?;simp;lia,hy,?_⟩;exact k G1 _ y (I1.write e2 e3 h1 (k4.erase i.toNat)) f1 ry
   ·cases hm
  ·cases hm
 ·cases hm
end
end M
namespace M
open PySem PySem.W
open PyProof.Rows (bubble mirror bubble_size bubble_perm mirror_size mirror_perm getElem?_bubble getElem?_mirror_all)
variable {cmp:Nat->Nat->(Bool->Shared->Prop)->Shared->Prop} {s:Shared} {a b i j n m:Nat} {p q:Array Nat}
noncomputable def kGd (n:Nat)(lt:Nat->Nat->Bool){α:Type}:KasT α->(α->Prop)->Prop
 | .ret a,Q=>Q a
 | .ask i j k,Q=>i<n/\j<n/\kGd n lt (k (lt i j)) Q
noncomputable def kRun (lt:Nat->Nat->Bool){α:Type}:KasT α->α
 | .ret a=>a
 | .ask i j k=>kRun lt (k (lt i j))
section
variable {n:Nat} {lt:Nat->Nat->Bool} {α β:Type}
theorem zg6 {f:α->KasT β}{Q:β->Prop}:∀{t:KasT α},kGd n lt t (fun a=>kGd n lt (f a) Q)->kGd n lt (t.bind f) Q
 | .ret _,h=>h
 | .ask _ _ _,⟨h1,h2,h3⟩=>⟨h1,h2,zg6 h3⟩
theorem zcV {Q Q':α->Prop}(q:∀a,Q a->Q' a):∀{t:KasT α},kGd n lt t Q->kGd n lt t Q'
 | .ret a,h=>q a h
 | .ask _ _ _,⟨h1,h2,h3⟩=>⟨h1,h2,zcV q h3⟩
theorem znK {Q:α->Prop}:∀{t:KasT α},kGd n lt t Q->Q (kRun lt t)
 | .ret _,h=>h
 | .ask i j k,⟨_,_,h3⟩=>znK (t:=k (lt i j)) h3
theorem kGd_wp {Q0:α->Prop}{Q:α->Shared->Prop}(hc:∀i j C,i<n->j<n->C (lt i j) s->cmp i j C s):
  ∀{t:KasT α},kGd n lt t Q0->Q (kRun lt t) s->t.kasWp cmp Q s
 | .ret _,_,h=>h
 | .ask i j k,⟨h1,h2,h3⟩,h=>hc i j _ h1 h2 (kGd_wp (t:=k (lt i j)) hc h3 h)
end
structure Ord (lt:Nat->Nat->Bool):Prop where
 tr:∀a b c,lt b a=false->lt c b=false->lt c a=false
 as:∀a b,lt a b=true->lt b a=false
theorem Ord.rf {lt:Nat->Nat->Bool}(o:Ord lt)(a:Nat):lt a a=false:=by
 cases h:lt a a with
 |false=>rfl
 |true=>rw[o.as a a h]at h;cases h
theorem Ord.lt_le {lt:Nat->Nat->Bool}(o:Ord lt){a b c:Nat}(h:lt a b=true)(k:lt c b=false):lt a c=true:=by
 cases z:lt a c with
 |true=>rfl
 |false=>rw[o.tr b c a k z]at h;cases h
noncomputable def kv (p:Array Nat)(k:Nat):Nat:=p.getD k 0
theorem zp3 (h:p[i]? =q[j]?):kv p i=kv q j:=by
 unfold kv;rw[qcm,qcm,h]
structure Pm (n:Nat) (p:Array Nat):Prop where
 pm:p.toList.Perm (List.range n)
theorem Pm.size (h:Pm n p):p.size=n:=by
 have:=h.pm.length_eq;rwa[qax,qcn]at this
theorem Pm.lt (h:Pm n p)(hn:0<n)(k:Nat):kv p k<n:=by
 unfold kv
 by_cases hk:k<p.size
 ·have:p.getD k 0=p[k]:=by simp[Array.getD,hk]
  rw[this];exact qaj.mp (h.pm.mem_iff.mp (Array.mem_toList_iff.mpr (Array.getElem_mem hk)))
 ·have:p.getD k 0=0:=by simp[Array.getD,hk]
  rw[this];exact hn
theorem Pm.bub (h:Pm n p)(a d:Nat):Pm n (bubble p a d):=⟨(Array.perm_iff_toList_perm.mp (bubble_perm p a d)).trans h.pm⟩
theorem Pm.rev (h:Pm n p)(i j:Nat):Pm n (kas_rev p i j):=⟨(Array.perm_iff_toList_perm.mp (mirror_perm p i j _)).trans h.pm⟩
theorem zq1 {i j:Nat}(hj:j<=p.size)(k:Nat):kv (kas_rev p i j) k=if i<=k/\k<j then kv p (i+j-1-k)else kv p k:=by
 have h:=getElem?_mirror_all (i:=i) hj k
 split
 ·rename_i z;rw[if_pos z]at h;exact zp3 h
 ·rename_i z;rw[if_neg z]at h;exact zp3 h
theorem kv_bub {a d:Nat}(ha:a<p.size)(hd:d<=a)(k:Nat):kv (bubble p a d) k=if k=a-d then kv p a else if a-d<k/\k<=a then kv p (k-1)else kv p k:=by
 have h:=getElem?_bubble ha d hd k
 by_cases z:k=a-d
 ·rw[if_pos z]at h ⊢;exact zp3 h
 ·rw[if_neg z]at h ⊢
  by_cases y:a-d<k/\k<=a
  ·rw[if_pos y]at h ⊢;exact zp3 h
  ·rw[if_neg y]at h ⊢;exact zp3 h
section
variable {n:Nat} {lt:Nat->Nat->Bool}
noncomputable def Up (lt:Nat->Nat->Bool)(p:Array Nat)(m:Nat):Prop:=∀i,0<i->i<m->lt (kv p i) (kv p (i-1))=false
noncomputable def Dn (lt:Nat->Nat->Bool)(p:Array Nat)(m:Nat):Prop:=∀i,0<i->i<m->lt (kv p (i-1)) (kv p i)=false
noncomputable def Eqv (lt:Nat->Nat->Bool)(a b:Nat):Prop:=lt a b=false/\lt b a=false
theorem Eqv.sy (h:Eqv lt a b):Eqv lt b a:=⟨h.2,h.1⟩
theorem Eqv.tr (o:Ord lt){a b c:Nat}(h:Eqv lt a b)(k:Eqv lt b c):Eqv lt a c:=⟨o.tr c b a k.1 h.1,o.tr a b c h.2 k.2⟩
theorem Up.le (o:Ord lt)(h:Up lt p m):∀{j i:Nat},i<=j->j<m->lt (kv p j) (kv p i)=false
 |0,i,h1,_=>by cases Nat.le_zero.mp h1;exact o.rf _
 |j+1,i,h1,h2=>by
  rcases qco h1 with z|z
  ·exact o.tr _ _ _ (Up.le o h (by lia) (by lia)) (h (j+1) (by lia) h2)
  ·subst z;exact o.rf _
theorem Dn.eqv (o:Ord lt)(h:Dn lt p m)(e:∀k,Eqv lt (kv q k) (kv p k)):Dn lt q m:=fun i h1 h2=>
 o.tr _ _ _ (e i).2 (o.tr _ _ _ (h i h1 h2) (e (i-1)).1)
theorem znF (o:Ord lt)(hj:j<=p.size)(h:∀k,i<=k->k<j->Eqv lt (kv p k) (kv p (j-1)))(k:Nat):Eqv lt (kv (kas_rev p i j) k) (kv p k):=by
 rw[zq1 hj]
 split
 ·rename_i z;exact(h _ (by lia) (by lia)).tr o (h k z.1 z.2).sy
 ·exact⟨o.rf _,o.rf _⟩
theorem Dn.turn (h:Dn lt p m)(hm:m<=p.size):Up lt (kas_rev p 0 m) m:=fun i h1 h2=>by
 rw[zq1 hm,zq1 hm,if_pos ⟨by lia,h2⟩,if_pos ⟨by lia,by lia⟩];have:=h (0+m-1-(i-1)) (by lia) (by lia);rwa[show 0+m-1-(i-1)-1=0+m-1-i by lia]at this
theorem zqV (hn:0<n)(hp:Pm n p):∀(f m:Nat),1<=m->Up lt p m->kGd n lt (kas_asc p f m) fun r=>m<=r/\r<=m+f/\Up lt p r/\(r<m+f->lt (kv p r) (kv p (r-1))=true)
 |0,m,_,h=>⟨qaJ _,qaJ _,h,fun z=>absurd z (qag _)⟩
 |f+1,m,h1,h=>by
  refine⟨hp.lt hn m,hp.lt hn (m-1),?_⟩;show kGd n lt (if lt (kv p m) (kv p (m-1))=true then _ else _) _
  split
  ·rename_i c;exact⟨qaJ _,by lia,h,fun _=>c⟩
  ·rename_i c;have c':lt (kv p m) (kv p (m-1))=false:=by simpa using c
   refine zcV (fun r hr=>⟨by lia,by lia,hr.2.2.1,fun z=>hr.2.2.2 (by lia)⟩) (zqV hn hp f (m+1) (by lia) fun i a b=>?_);rcases qco (qcp b)with z|z
   ·exact h i a z
   ·subst z;exact c'
theorem zl4 (o:Ord lt)(hn:0<n):∀(f:Nat) (p:Array Nat) (m q:Nat),Pm n p->m+f<=n->q+1<=m->Dn lt p m->(∀k,m-(q+1)<=k->k<m->Eqv lt (kv p k) (kv p (m-1)))->
  kGd n lt (kas_desc f p m q) fun r=>Pm n r.1/\m<=r.2.1/\r.2.1<=m+f/\r.2.2+1<=r.2.1/\Dn lt r.1 r.2.1/\∀k,r.2.1-(r.2.2+1)<=k->k<r.2.1->Eqv lt (kv r.1 k) (kv r.1 (r.2.1-1))
 |0,p,m,q,hp,hm,hq,h,e=>⟨hp,qaJ _,qaJ _,hq,h,e⟩
 |f+1,p,m,q,hp,hm,hq,h,e=>by
  have more:∀{p':Array Nat},Dn lt p' m->lt (kv p' (m-1)) (kv p' m)=false->Dn lt p' (m+1):=fun h' c i a b=>by
   rcases qco (qcp b)with z|z
   ·exact h' i a z
   ·subst z;exact c
  have one:∀{p':Array Nat} (k:Nat),m+1-(0+1)<=k->k<m+1->Eqv lt (kv p' k) (kv p' (m+1-1)):=fun k a b=>by
   obtain rfl:k=m:=by lia
   exact⟨o.rf _,o.rf _⟩
  refine⟨hp.lt hn m,hp.lt hn (m-1),?_⟩;show kGd n lt (if lt (kv p m) (kv p (m-1))=true then(if q>0 then _ else _)else KasT.ask (kv p (m-1)) (kv p m) _) _
  split
  ·rename_i c;have c2:=o.as _ _ c
   split
   ·have ev:=znF o (p:=p) (i:=m-(q+1)) (j:=m) (by rw[hp.size];lia) e;have hl:lt (kv (kas_rev p (m-(q+1)) m) (m-1)) (kv (kas_rev p (m-(q+1)) m) m)=false:=o.tr _ _ _ (ev m).2 (o.tr _ _ _ c2 (ev (m-1)).1);exact zcV (fun r hr=>⟨hr.1,by lia,by lia,hr.2.2.2.1,hr.2.2.2.2⟩) (zl4 o hn f _ (m+1) 0 (hp.rev _ _) (by lia) (by lia) (more (h.eqv o ev) hl) one)
   ·exact zcV (fun r hr=>⟨hr.1,by lia,by lia,hr.2.2.2.1,hr.2.2.2.2⟩) (zl4 o hn f _ (m+1) 0 hp (by lia) (by lia) (more h c2) one)
  ·rename_i c;have c':lt (kv p m) (kv p (m-1))=false:=by simpa using c
   refine⟨hp.lt hn (m-1),hp.lt hn m,?_⟩;show kGd n lt (if lt (kv p (m-1)) (kv p m)=true then _ else _) _
   split
   ·exact⟨hp,qaJ _,Nat.le_add_right m (f+1),hq,h,e⟩
   ·rename_i d;have d':lt (kv p (m-1)) (kv p m)=false:=by simpa using d
    refine zcV (fun r hr=>⟨hr.1,by lia,by lia,hr.2.2.2.1,hr.2.2.2.2⟩) (zl4 o hn f p (m+1) (q+1) hp (by lia) (by lia) (more h d') fun k a b=>?_);rcases qco (qcp b)with z|z
    ·exact(e k (by lia) z).tr o ⟨d',c'⟩
    ·subst z;exact⟨o.rf _,o.rf _⟩
noncomputable def Run (lt:Nat->Nat->Bool)(n:Nat)(r:Nat×Array Nat):Prop:=Pm n r.2/\1<=r.1/\r.1<=n/\Up lt r.2 r.1
theorem zok (hn:0<n)(hp:Pm n p)(h1:1<=m)(h2:m<=n)(h:Dn lt p m):kGd n lt (kas_tail3 m n p) (Run lt n):=by
 refine zg6 (zcV (fun r hr=>?_) (zqV hn (hp.rev 0 m) (n-m) m h1 (h.turn (by rw[hp.size];exact h2))));exact⟨hp.rev 0 m,by lia,by lia,hr.2.2.1⟩
theorem zjY (o:Ord lt)(hn:0<n){p:Array Nat}(hp:Pm n p)(h1:1<=m)(h2:m<n)(h:Dn lt p (m+1)):kGd n lt (kas_descPart m n p) (Run lt n):=by
 refine zg6 (zcV (fun r hr=>?_) (zl4 o hn (n-(m+1)) p (m+1) 0 hp (by lia) (by lia) h fun k a b=>?_))
 ·obtain⟨a1,a2,a3,a4,a5,a6⟩:=hr
  split
  ·have ev:=znF o (p:=r.1) (i:=r.2.1-(r.2.2+1)) (j:=r.2.1) (by rw[a1.size];lia) a6;exact zok hn (a1.rev _ _) (by lia) (by lia) (a5.eqv o ev)
  ·exact zok hn a1 (by lia) (by lia) a5
 ·obtain rfl:k=m:=by lia
  exact⟨o.rf _,o.rf _⟩
theorem gd_count (o:Ord lt)(hn:0<n){p:Array Nat}(hp:Pm n p):kGd n lt (kas_count n p) (Run lt n):=by
 refine zg6 (zcV (fun m hm=>?_) (zqV hn hp (n-1) 1 (qaJ _) fun i a b=>absurd a (by lia)));obtain⟨a1,a2,a3,a4⟩:=hm
 split
 ·exact⟨hp,a1,by lia,a3⟩
 ·rename_i ne;have ne':m≠n:=by simpa using ne
  have c:=a4 (by lia)
  split
  ·refine⟨hp.lt hn 0,hp.lt hn (m-1),?_⟩;show kGd n lt (if lt (kv p 0) (kv p (m-1))=true then _ else _) _
   split
   ·exact⟨hp,a1,by lia,a3⟩
   ·rename_i d;have d':lt (kv p 0) (kv p (m-1))=false:=by simpa using d
    have eq:∀k,0<=k->k<m->Eqv lt (kv p k) (kv p (m-1)):=fun k _ hk=>⟨o.tr _ _ _ d' (a3.le o (qbv k) hk)|>fun z=>?_,a3.le o (by lia) (by lia)⟩
    ·have ev:=znF o (p:=p) (i:=0) (j:=m) (by rw[hp.size];lia) eq;refine zjY o hn (hp.rev 0 m) a1 (by lia) fun i x y=>?_
     rcases qco (qcp y)with z|z
     ·exact o.tr _ _ _ (ev i).2 (o.tr _ _ _ ((eq (i-1) (by lia) (by lia)).tr o (eq i (by lia) z).sy).1 (ev (i-1)).1)
     ·subst z;exact o.tr _ _ _ (ev i).2 (o.tr _ _ _ (o.as _ _ c) (ev (i-1)).1)
    ·exact o.tr _ _ _ d' (a3.le o (qbv k) hk)
  ·obtain rfl:m=1:=by lia
   refine zjY o hn hp (qaJ _) (by lia) fun i x y=>?_
   obtain rfl:i=1:=by lia
   exact o.as _ _ c
theorem zls (o:Ord lt)(hn:0<n){k:Nat}(hp:Pm n p)(hu:Up lt p k):∀(f l r:Nat),l<=r->r<=k->r-l<=f->(∀i,i<l->lt (kv p k) (kv p i)=false)->(∀i,r<=i->i<k->lt (kv p k) (kv p i)=true)->
  kGd n lt (kas_place p k f l r) fun x=>x<=k/\(∀i,i<x->lt (kv p k) (kv p i)=false)/\∀i,x<=i->i<k->lt (kv p k) (kv p i)=true
 |0,l,r,h1,h2,h3,h4,h5=>by
  obtain rfl:l=r:=by lia
  exact⟨h2,h4,h5⟩
 |f+1,l,r,h1,h2,h3,h4,h5=>by
  unfold kas_place
  split
  ·obtain rfl:l=r:=by lia
   exact⟨h2,h4,h5⟩
  ·rename_i ne;refine⟨hp.lt hn k,hp.lt hn _,?_⟩;show kGd n lt (if lt (kv p k) (kv p ((l+r)/2))=true then _ else _) _
   split
   ·rename_i c;refine zls o hn hp hu f l _ (by lia) (by lia) (by lia) h4 fun i a b=>?_
    exact o.lt_le c (hu.le o a b)
   ·rename_i c;have c':lt (kv p k) (kv p ((l+r)/2))=false:=by simpa using c
    refine zls o hn hp hu f _ r (by lia) h2 (by lia) (fun i a=>?_) h5;exact o.tr _ _ _ (hu.le o (i:=i) (j:=(l+r)/2) (by lia) (by lia)) c'
theorem gd_bin (o:Ord lt)(hn:0<n):∀(f:Nat) (p:Array Nat) (k:Nat),k+f=n->1<=k->Pm n p->Up lt p k->kGd n lt (kas_bin f p k) fun q=>Pm n q/\Up lt q n
 |0,p,k,h1,_,hp,hu=>by
  obtain rfl:k=n:=by lia
  exact⟨hp,hu⟩
 |f+1,p,k,h1,hk,hp,hu=>by
  refine zg6 (zcV (fun x hx=>?_) (zls o hn hp hu k 0 k (qbv _) (qaJ _) (by lia) (fun i a=>absurd a (by lia)) fun i a b=>absurd a (by lia)));obtain⟨b1,b2,b3⟩:=hx;have hs:k<p.size:=by rw[hp.size];lia
  refine gd_bin o hn f _ (k+1) (by lia) (by lia) (hp.bub _ _) fun i a b=>?_
  have e:k-(k-x)=x:=by lia
  rw[kv_bub hs (by lia),kv_bub hs (by lia),e]
  by_cases z:i=x
  ·rw[if_pos z,if_neg (by lia),if_neg (by lia)];exact b2 (i-1) (by lia)
  ·rw[if_neg z]
   by_cases y:x<i
   ·rw[if_pos ⟨y,by lia⟩]
    by_cases u:i-1=x
    ·rw[if_pos u,u];exact o.as _ _ (b3 x (qaJ _) (by lia))
    ·rw[if_neg u,if_pos ⟨by lia,by lia⟩];exact hu (i-1) (by lia) (by lia)
   ·rw[if_neg (fun q=>y q.1),if_neg (by lia),if_neg (by lia)];exact hu i a (by lia)
theorem znR (o:Ord lt)(hn:0<n):kGd n lt (kas_sort n) fun q=>Pm n q/\Up lt q n:=by
 refine zg6 (zcV (fun r hr=>?_) (gd_count o hn (p:=List.toArray (List.range n)) ⟨List.Perm.refl _⟩));obtain⟨a1,a2,a3,a4⟩:=hr
 split
 ·rw[show max r.1 1=r.1 by lia];exact gd_bin o hn _ _ _ (by lia) a2 a1 a4
 ·obtain e:r.1=n:=by lia
  rw[e]at a4;exact⟨a1,a4⟩
end
noncomputable def srt (n:Nat)(lt:Nat->Nat->Bool):List Nat:=if n<2 then List.range n else(kRun lt (kas_sort n)).toList
theorem zjt {n:Nat}{lt:Nat->Nat->Bool}(o:Ord lt):(srt n lt).Perm (List.range n):=by
 unfold srt
 split
 ·exact List.Perm.refl _
 ·exact(znK (znR o (n:=n) (by lia))).1.pm
theorem srt_up {n:Nat}{lt:Nat->Nat->Bool}(o:Ord lt)(hij:i<=j)(ha:(srt n lt)[i]? =some a)(hb:(srt n lt)[j]? =some b):lt b a=false:=by
 unfold srt at ha hb
 split at ha
 ·rename_i h;rw[if_pos h]at hb;have h1:=(qar.mp hb).1;rw[qcn]at h1;obtain rfl:i=j:=by lia
  rw[ha]at hb;cases hb;exact o.rf _
 ·rename_i h;rw[if_neg h]at hb;obtain⟨p1,p2⟩:=znK (znR o (n:=n) (by lia));have e:∀{k c:Nat},(kRun lt (kas_sort n)).toList[k]? =some c->kv (kRun lt (kas_sort n)) k=c:=fun{k c} q=>by
   unfold kv;rw[Array.getElem?_toList]at q;rw[qcm,q];rfl
  have h1:=(qar.mp hb).1;rw[qax,p1.size]at h1;rw[<-e ha,<-e hb];exact p2.le o hij h1
end M
namespace HT
open PySem PySem.W
open PyProof.Rows (seqObj listItems_at listUpdate_at seqEpoch_at get?_update_seq size_push' sortedHeap sortedAll list_sort_plain arrOf failedOf general' keyKind' pairsOf collect_list)
noncomputable def outA (vs:List Value)(lt:Nat->Nat->Bool):List Value:=(M.srt vs.length lt).map fun i=>vs.getD i Value.none
theorem outA_len {vs:List Value}{lt:Nat->Nat->Bool}(o:M.Ord lt):(outA vs lt).length=vs.length:=by
 unfold outA;rw[qa3,(M.zjt o).length_eq,qcn]
theorem zo9 (vs:List Value):(List.range vs.length).map (fun i=>vs.getD i Value.none)=vs:=by
 refine List.ext_getElem (by simp) fun i h1 h2=>?_
 rw[List.getElem_map,List.getElem_range,qcq,qbD h2]
 rfl
section
variable {prog:Program} {w:World} {A:Around} {E:Value->Shared->Prop} {s:Shared}
noncomputable def Asked (prog:Program)(w:World)(A:Around)(ks:List Value)(lt:Nat->Nat->Bool)(s:Shared):Prop:=
 ∃κ,(∀(Q:PyProof.Rows.SortKind->Shared->Prop) (E:Value->Shared->Prop),Q κ s->wpAny (model prog w) A (keyKind' (List.toArray ks)) Q E s)/\∀i j C,i<ks.length->j<ks.length->C (lt i j) s->kas_ask prog w A κ ks i j C s
theorem zpb {a:Addr}{vs:List Value}{n:Nat}{lt:Nat->Nat->Bool}{P:PySem.Fin->Shared->Prop}(o:M.Ord lt)(ho:s.heap.get? a=some (seqObj "list" vs.toArray n))(h64:vs.length<64)
  (hk:2<=vs.length->∀h',(∀b u,b≠a->s.heap.get? b=some u->h'.get? b=some u)->Asked prog w A vs lt {s with heap:=h'})
  (h:P (.done (.ret .none)) {s with heap:=sortedHeap s.heap a vs (outA vs lt).toArray}):wpAny (model prog w) A (Builtin.«list.sort» ⟨[.ref a],[]⟩) P E s:=by
 rw[list_sort_plain];have ha:=qae ho;have hsl:vs.length<=sizeLine:=by rw[qaN];lia
 obtain⟨e1,g1⟩:∃c,(s.heap.update a (Obj.mapSeq fun _=> #[])).get? a=some (seqObj "list" #[] c):=⟨_,get?_update_seq ho fun _=> #[]⟩;refine qaz (listItems_at ho rfl (qaz (listUpdate_at ho rfl (qaz (seqEpoch_at g1 rfl (qaz (qb6 (qaz (wpAny_newList (qaA ?_) (qbv _))) hsl)))) (by rw[qaO];exact hsl) (qbv _))))
 generalize hH:((s.heap.update a (Obj.mapSeq fun _=>(#[]:Array Value))).push (seqObj "tuple" vs.toArray 0)).push (seqObj "list" #[] 0)=H3
 have g3:H3.get? a=some (seqObj "list" #[] e1):=by
  rw[<-hH];exact qaE _ (qaE _ g1)
 have k3:∀b u,b≠a->s.heap.get? b=some u->H3.get? b=some u:=fun b u z q=>by
  rw[<-hH];exact qaE _ (qaE _ ((qbl _ _ (Ne.symm z)).trans q))
 show wpAny _ A _ P E {s with heap:=H3};dsimp only;have fin:∀(st:PyProof.Rows.SortSt),(arrOf st).map (·.2)=(outA vs lt).toArray->failedOf st=none->wpAny (model prog w) A (do
   let sorted:=(arrOf st).map (·.2)
   let touched:=(<-seqEpoch a) !=e1
   Builtin.List.listUpdate (.ref a) fun _=>sorted
   if let some e:=failedOf st then rule "list.sort.comparison-raised";throw e
   if touched then rule "list.sort.modified";raiseError "ValueError" "list modified during sort"
   ret .none) P E {s with heap:=H3}:=fun st e f=>by
  dsimp only;rw[e,f];refine qaz (seqEpoch_at g3 rfl (qaz (listUpdate_at g3 rfl ?_ (qbv _) (by rw[qaO,outA_len o];lia))));simp only[bne_self_eq_false,qbQ,qbc];refine qaC ?_;rw[<-hH];exact h
 have hz:vs.toArray.size=vs.length:=qaO ..
 by_cases h2:vs.length<2
 ·simp only[if_pos (show vs.toArray.size<2 by rw[hz];exact h2)];refine qaz (qaC ?_);rw[StateT.run_pure];refine qaz (qaC (fin _ ?_ rfl));unfold outA M.srt;rw[if_pos h2,zo9];show((vs.toArray.zip vs.toArray).map (·.2))=_;apply Array.toList_inj.mp;simp[List.map_snd_zip]
 ·simp only[if_neg (show ¬vs.toArray.size<2 by rw[hz];exact h2)];obtain⟨κ,a1,a2⟩:=hk (by lia) H3 k3;refine qaz (a1 _ _ (qaz (qau (kat_run (Q:=fun st s'=>s'={s with heap:=H3}/\(arrOf st).map (·.2)=(outA vs lt).toArray/\failedOf st=none) (G:=fun p s'=>s'={s with heap:=H3}/\p=M.kRun lt (kas_sort vs.length)) rfl (by lia) h64 (fun p st s' b1 b2 b3 b4=>⟨b4.1,?_,b3⟩) (M.kGd_wp (n:=vs.length) (lt:=lt) a2 (M.znR o (by lia)) ⟨rfl,rfl⟩)) (fun r s' ⟨c1,c2,c3⟩=>?_) fun _ _ x=>x)))
  ·rw[kat_snds rfl b2,b4.2];unfold outA M.srt;rw[if_neg h2]
  ·subst c1;exact fin r.2 c2 c3
theorem sortedA {l:Addr}{vs:List Value}{lt:Nat->Nat->Bool}{Q:Value->Shared->Prop}(o:M.Ord lt)(hl:s.heap.IsList l vs.toArray)(h64:vs.length<64)
    (hk:2<=vs.length->∀h',(∀b u,s.heap.get? b=some u->h'.get? b=some u)->Asked prog w A.in1.in1 vs lt {s with heap:=h'})
    (h:Q (.ref (s.heap.objs.size+1)) {s with heap:=sortedAll s.heap vs (outA vs lt).toArray}):wpAny (model prog w) A (call (.builtin "sorted") [.ref l]) Q E s:=by
  have hsl:vs.length<=sizeLine:=by rw[qaN];lia
  have hsz:((s.heap.push (seqObj "list" #[] 0)).update s.heap.objs.size (Obj.mapSeq (· ++vs.toArray))).objs.size=s.heap.objs.size+1:=(Heap.size_update ..).trans (size_push' ..);refine Calls.call_function_entry PyProof.Rows.kind_sorted PyProof.Rows.plain_sorted PyProof.Rows.entry_sorted (PyProof.Rows.args_sorted1 _) (?_:wpAny _ _ (Builtin.«sorted» _) _ _ _);unfold Builtin.«sorted»;refine qaz (m:=checkCount "sorted" 1 1 _) (qaC (qaz (collect_list hl (qaz (wpAny_newList ?_ hsl)) hsl)));have g:(((s.heap.push (seqObj "list" #[] 0)).update s.heap.objs.size (Obj.mapSeq (· ++vs.toArray))).push (seqObj "list" vs.toArray 0)).get? (s.heap.objs.size+1)=some (seqObj "list" vs.toArray 0):=hsz ▸ qaI _ rfl;show wpAny _ _ _ _ _ {s with heap:=((s.heap.push (seqObj "list" #[] 0)).update s.heap.objs.size (Obj.mapSeq (· ++vs.toArray))).push (seqObj "list" vs.toArray 0)};rw[hsz];refine qaz (qaA (qbh PyProof.Rows.slot_list_sort ⟨_,g,rfl⟩ PyProof.Rows.entry_list_sort (zpb o g h64 (fun h2 h' k=>hk h2 h' fun b u q=>?_) ⟨_,rfl,qaC ⟨_,rfl,h⟩⟩) (PyProof.Rows.args_list_sort _)));have hlt:=qae q;exact k b u (qah (qbN hlt)) (qaE _ ((qbl _ _ (Nat.ne_of_gt hlt)).trans (qaE _ q)))
end
end HT
namespace HT
open PySem PySem.Spec PySem.W
open PyProof.Rows (IntsAre IsTup)
theorem lex_tr:∀a b c:List Int,zbl b a=false->zbl c b=false->zbl c a=false
 |[],_,[],_,_=>rfl
 |[],_,_::_,_,_=>rfl
 |_::_,[],_,h,_=>by cases h
 |_::_,_::_,[],_,h=>by cases h
 |x::xs,y::ys,z::zs,h,k=>by
  rw[zfc]at h k ⊢
  by_cases e:y=x
  ·by_cases f:z=y
   ·rw[if_pos e]at h;rw[if_pos f]at k;rw[if_pos (f.trans e)];exact lex_tr xs ys zs h k
   ·rw[if_neg f]at k;subst e;rw[if_neg f];exact k
  ·rw[if_neg e]at h;have h':=of_decide_eq_false h
   by_cases f:z=y
   ·rw[if_neg (by lia)];exact qaa (by lia)
   ·rw[if_neg f]at k;have k':=of_decide_eq_false k;rw[if_neg (by lia)];exact qaa (by lia)
theorem lex_as:∀a b:List Int,zbl a b=true->zbl b a=false
 |[],[],h=>by cases h
 |[],_::_,_=>rfl
 |_::_,[],h=>by cases h
 |x::xs,y::ys,h=>by
  rw[zfc]at h ⊢
  by_cases e:x=y
  ·rw[if_pos e]at h;rw[if_pos e.symm];exact lex_as xs ys h
  ·rw[if_neg e]at h;have h':=qbC h;rw[if_neg (by lia)];exact qaa (by lia)
noncomputable def zc5 (nss:List (List Int))(i j:Nat):Bool:=zbl (nss.getD i []) (nss.getD j [])
theorem zon (nss:List (List Int)):M.Ord (zc5 nss):=⟨fun _ _ _=>lex_tr _ _ _,fun _ _=>lex_as _ _⟩
section
variable {prog:Program} {w:World} {A:Around} {E:Value->Shared->Prop} {s:Shared}
theorem zdd {α:Type}{l:List α}{i:Nat}{x d:α}(h:l[i]? =some x):l.getD i d=x:=by rw[qcq,h];rfl
theorem zpz {ks:List Value}{ns:List Int}(hi:IntsAre ks ns)(h2:2<=ks.length):Asked prog w A ks (zc5 (ns.map fun n=>[n])) s:=by
 refine⟨PyProof.Rows.oneType',fun Q E h=>?_,fun i j C h1 h3 h=>?_⟩
 ·rw[PyProof.Rows.ksk_kind (kz:=ns) hi (by rw[qaO];exact h2)];exact qaC h
 ·obtain⟨n,t,e1,e2⟩:=hi.at i _ (qbD h1);obtain⟨m,u,f1,f2⟩:=hi.at j _ (qbD h3);unfold kas_ask;rw[zdd (qbD h1),zdd (qbD h3),e1,f1];refine kat_lt_int ?_;unfold zc5 at h;rw[zdd (x:=[n]) (by rw[qaZ,e2];rfl),zdd (x:=[m]) (by rw[qaZ,f2];rfl),zfc]at h
  by_cases z:n=m
  ·subst z;rw[if_pos rfl]at h;rw[qaa (Int.lt_irrefl n)];exact h
  ·rwa[if_neg z]at h
theorem zrk {b fin:Bool}{Q:Bool->Shared->Prop}:∀{xs ys:List Value} {ns ms:List Int} (i:Nat),IntsAre xs ns->IntsAre ys ms->fin=decide (ns.length<ms.length)->Q (zbl ns ms) s->KatLex prog w A b fin Q (xs.zip ys) i s
 |_,_,_,_,i,.nil,.nil,e,h=>by subst e;exact h
 |_,_,_,_,i,.nil,.cons _ _ _,e,h=>by subst e;exact h
 |_,_,_,_,i,.cons _ _ _,.nil,e,h=>by subst e;exact h
 |_,_,_,_,i,.cons n t hx,.cons m u hy,e,h=>by
  refine kat_cons (wpAny_eqBool_int ?_);rw[zfc]at h
  by_cases z:n=m
  ·rw[if_pos z]at h;rw[qbL.mpr z];exact kat_yes (zrk (i+1) hx hy (by rw[e];simp) h)
  ·rw[if_neg z]at h;rw[qab.mpr z];refine kat_no ?_;cases hb:(b&&i==0)with
   |true=>exact PyProof.Rows.oneLt_int h
   |false=>exact kat_one _ _ (PyProof.Rows.lt_int h)
noncomputable def zqB (h:Heap)(ks:List Value)(nss:List (List Int)):Prop:=ks.length=nss.length/\∀(i:Nat) v ns,ks[i]? =some v->nss[i]? =some ns->∃a its,v= .ref a/\IsTup h a (List.toArray its)/\IntsAre its ns/\ns≠[]
theorem zrd {h:Heap}:∀{ks:List Value} {nss:List (List Int)},zqB h ks nss->∃fs,KatTups h ks fs/\fs.length=ks.length/\∀v∈fs,∃n t,v=Value.int n t
 |[],nss,_=>⟨[],KatTups.nil,rfl,fun v hv=>absurd hv (by simp)⟩
 |k::ks,[],⟨h1,_⟩=>by simp at h1
 |k::ks,ns::nss,⟨h1,h2⟩=>by
  obtain⟨a,its,rfl,⟨o,ho,hc,n,hd⟩,hi,ne⟩:=h2 0 _ _ rfl rfl;obtain⟨fs,g1,g2,g3⟩:=zrd (ks:=ks) (nss:=nss) ⟨by simpa using h1,fun i v ns e1 e2=>h2 (i+1) v ns (by simpa using e1) (by simpa using e2)⟩;cases hi with
  |nil=>exact absurd rfl ne
  |cons m t hi=>
   refine⟨.int m t::fs,KatTups.cons ho hc hd rfl g1,by simp[g2],fun v hv=>?_⟩;rcases qao.mp hv with rfl|hv
   ·exact⟨m,t,rfl⟩
   ·exact g3 v hv
theorem zpq {ks:List Value}{nss:List (List Int)}(ht:zqB s.heap ks nss)(h2:2<=ks.length):Asked prog w A ks (zc5 nss) s:=by
 obtain⟨fs,g1,g2,g3⟩:=zrd ht;refine⟨PyProof.Rows.tuples' true,fun Q E h=>?_,fun i j C h1 h3 h=>?_⟩
 ·refine kat_kind (T:= .type "int") g1 (by lia) (fun v hv=>?_) rfl h;obtain⟨n,t,rfl⟩:=g3 v hv;exact Looks.now
 ·have hl:=ht.1;obtain⟨a,its,e1,⟨o,ho,hc,n,hd⟩,hi,_⟩:=ht.2 i _ _ (qbD h1) (qbD (by lia));obtain⟨b,its2,f1,⟨o2,ho2,hc2,n2,hd2⟩,hi2,_⟩:=ht.2 j _ _ (qbD h3) (qbD (by lia));unfold kas_ask;rw[zdd (qbD h1),zdd (qbD h3),e1,f1];unfold zc5 at h;rw[zdd (qbD (l:=nss) (i:=i) (by lia)),zdd (qbD (l:=nss) (i:=j) (by lia))]at h;refine kat_lt ho hd ho2 hd2 (zrk 0 hi hi2 ?_ h);rw[qaO,qaO,hi.length,hi2.length]
end
end HT
namespace M
open L2 PySem PySem.Spec
open PyProof.Rows hiding St
noncomputable def zpd (ds:List D):Option (List (List Int)):=match zbw ds with
 |some ns=>some (ns.map fun n=>[n])
 |none=>(zkE ds).bind fun nss=>if nss.all fun ns=>!ns.isEmpty then some nss else none
noncomputable def srtD (nss:List (List Int))(ds:List D):List D:=(srt ds.length (HT.zc5 nss)).map fun i=>ds.getD i .non
noncomputable def dSrt:List D->Option (List D)
 |[.lst ds]=>if ds.length<64 then(zpd ds).map fun nss=>srtD nss ds else none
 |_=>none
noncomputable def KeyV (K:W.Frag)(H:Hp)(ys:List V)(nss:List (List Int)):Prop:=
 (∃ns:List Int,ys=ns.map V.int/\nss=ns.map fun n=>[n])\/∃as:List Addr,ys=as.map V.ref/\as.length=nss.length/\∀(i:Nat) a ns,as[i]? =some a->nss[i]? =some ns->SqT K H a (ns.map V.int)/\ns≠[]
noncomputable def srtV (nss:List (List Int))(ys:List V):List V:=(srt ys.length (HT.zc5 nss)).map fun i=>ys.getD i .non
noncomputable def rSrt (K:W.Frag):List V->Hp->VK->Prop:=fun xs H Q=>∃(p:Addr) (ys:List V) (nss:List (List Int)),xs=[.ref p]/\SqL K H p ys/\ys.length<64/\KeyV K H ys nss/\∀l,H l=none->Q (.ref l) (upd H l (.lst (srtV nss ys)))
theorem znc {ys:List V}{its:List Value}(r:Vals ys its):∀ix:List Nat,Vals (ix.map fun i=>ys.getD i .non) (ix.map fun i=>its.getD i .none)
 |[]=> .nil
 |i::ix=>by
  refine .cons ?_ (znc r ix);dsimp only;cases e:ys[i]? with
  |some y=>
   obtain⟨u,h1,h2⟩:=r.get e;rw[HT.zdd e,HT.zdd h1];exact h2
  |none=>
   rw[qcq,qcq,e,r.none_of e];exact rfl
theorem znW {X:Cx}:zge X (.builtin "sorted") (rSrt X.K):=by
 intro pins s σ H xs us Q I r h;obtain⟨p,ys,nss,rfl,hq,h64,kv,q⟩:=h;obtain⟨u,rfl,ru⟩:=zk6 r;cases ru;obtain⟨its,rv,pl,hz⟩:=I.list hq;have hl:=rv.length;refine HT.sortedA (HT.zon nss) pl.isList (by lia) (fun h2 h' k=>?_) ?_
 ·rcases kv with⟨ns,rfl,rfl⟩|⟨as,rfl,e1,e2⟩
  ·exact HT.zpz (zdQ rv) h2
  ·refine HT.zpq ⟨by rw[<-hl,qa3,e1],fun i v ns e3 e4=>?_⟩ h2;obtain⟨a,ea,rfl⟩:=refs_get rv e3;obtain⟨g1,g2⟩:=e2 i a ns ea e4;have I':Inv X pins σ H {s with heap:=h'}:=I.kept k;obtain⟨its2,r2,p2,_⟩:=I'.tuple g1;exact⟨a,its2,rfl,p2,zdQ r2,g2⟩
 ·obtain⟨e,he⟩:=PyProof.Rows.sortedAll_at s.heap its (HT.outA its (HT.zc5 nss)).toArray;refine⟨.ref (s.heap.objs.size+1),upd H (s.heap.objs.size+1) (.lst (srtV nss ys)),I.laid (t':=s.toks) (fun b u z=>PyProof.Rows.sortedAll_old z) (Nat.le_succ _) ?_,rfl,q _ (I.hok.fresh (Nat.le_succ _))⟩;have r2:=znc rv (srt ys.length (HT.zc5 nss));refine⟨?_,HT.outA its (HT.zc5 nss),e,?_,he⟩
  ·unfold srtV;rw[qa3,(zjt (HT.zon nss)).length_eq,qcn];exact hz
  ·unfold HT.outA srtV;rw[<-hl];exact r2
theorem RepL.picks {K:W.Frag}{G:Hp}{ys:List V}{ds:List D}(r:RepL K G ys ds):∀ix:List Nat,RepL K G (ix.map fun i=>ys.getD i .non) (ix.map fun i=>ds.getD i .non)
 |[]=> .nil
 |i::ix=>by
  refine .cons ?_ (RepL.picks r ix);dsimp only;cases e:ds[i]? with
  |some y=>
   obtain⟨u,h1,h2⟩:=r.get e;rw[HT.zdd e,HT.zdd h1];exact h2
  |none=>
   have e':ys[i]? =none:=by rw[qad]at e ⊢;rw[r.length];exact e
   rw[qcq,qcq,e,e'];exact rfl
theorem keyV_of {K:W.Frag}{G H:Hp}{ys:List V}{ds:List D}{nss:List (List Int)}(f:Fz G H)(r:RepL K G ys ds)(e:zpd ds=some nss):KeyV K H ys nss:=by
 unfold zpd at e
 split at e
 ·rename_i ns h;cases e;rw[zgb h]at r;exact .inl ⟨ns,RepL.ints_eq r,rfl⟩
 ·obtain⟨ms,e1,e⟩:=zae e
  split at e
  ·rename_i ha;cases e;obtain⟨as,rfl,hl,h⟩:=zmO r e1;refine .inr ⟨as,rfl,hl,fun i a ns h1 h2=>⟨SqT.of (f _ _ (h i a ns h1 h2)),fun z=>?_⟩⟩;have:=qbR.mp ha ns (qa1 h2);rw[z]at this;cases this
  ·cases e
theorem zrs {X:Cx}{e:Expr}{ma:MA}{p pos:Pos}(ml:X.mg "sorted"=none)(ha:SA X [e] ma)(hg:Gl X "sorted":=by rfl)(he:starEach [e] X.env=(false,eval e X.env)::starEach [] X.env:=by rfl)(hb:bootBuiltins "sorted"=some (.builtin "sorted"):=by decide+kernel):
  SO X (.Call (.Name "sorted" p) [e] [] pos) (oC dSrt ma):=by
 obtain⟨t,pa,sa⟩:=ha;refine⟨_,zic znW hg ml hb pa (by decide) (by decide) he rfl,fun B G H σ ρ ds ρ' Q I hm k=>?_⟩;obtain⟨as,e1,e2⟩:=oC_inv hm;refine sa B G H σ ρ as ρ' _ I e1 fun G1 H1 vs I1 f1 r1=>?_
 unfold dSrt at e2
 split at e2
 ·rename_i es
  split at e2
  ·rename_i h64;obtain⟨nss,e3,rfl⟩:=zat e2;obtain⟨x,rfl,ra⟩:=r1.one;obtain⟨q,ys,rfl,hp,ry⟩:=I1.lst ra;have hl:=ry.length;refine⟨q,ys,nss,rfl,SqL.of hp,by lia,keyV_of I1.fz ry e3,fun l h0=>?_⟩;obtain⟨I2,g2,h2,b2,n2⟩:=I1.newO h0 (srtV nss ys);refine k G1 _ l _ I2 f1 g2 h2 ?_ b2 n2;unfold srtV srtD;rw[hl];exact ry.picks _
  ·cases e2
 ·cases e2
end M
namespace M
open L2 PySem
variable {c:Prop} {z:Bool} {Q:Fl×R->Prop} {me m:ME} {b:MS} {f:D->R->Option (Option D×R)} {g:D->R->Option R} {mt:MT} {d:D} {ρ:R} {r:Sl} {i n j t N:Nat} {h:List D->R->Option R} {ds:List D} {mi ma:MA} {F:List D->Option Sl} {cap:List Nat} {I:R->Prop} {ns:List Int}
noncomputable def dLtT:D->D->Option D:=dTT HT.zbl
section
variable {X:Cx} {a b:Expr} {ma mb:ME} {pos:Pos}
theorem op_ltT (hu:X.A.units<cLine):OpR X (compareOp .Lt) (rTT X.K HT.zbl):=by
 intro pins s σ H x y v u Q I rx ry h;obtain⟨a,b,ns,ms,rfl,rfl,ha,hb,q⟩:=h;cases rx;cases ry;obtain⟨its,r1,p1,_⟩:=I.tuple ha;obtain⟨its2,r2,p2,_⟩:=I.tuple hb;have i1:PyProof.Rows.IntsAre its.toArray.toList ns:=zdQ r1;have i2:PyProof.Rows.IntsAre its2.toArray.toList ms:=zdQ r2;exact HT.zkQ p1 p2 i1 i2 hu ⟨.bl (HT.zbl ns ms),H,I,rfl,q⟩
theorem se_ltT (hu:X.A.units+64<cLine)(ha:SE X a ma)(hb:SE X b mb):SE X (.Compare a [.Lt] [b] pos) (m2 dLtT ma mb):=zms (op_ltT (by lia)) (v2_TT _) ha hb (zhE _)
end
structure Lock {α:Type} (Q:α->Prop):Type where
noncomputable def Ok {α:Type}(o:Option α)(Q:α->Prop)(l:Lock Q:=⟨⟩):Prop:=∃a,o=some a/\Q a
section
variable {α β:Type} {o:Option α} {Q Q':α->Prop}
theorem ok_some {a:α}:Ok (some a) Q↔Q a:=⟨fun⟨_,e,q⟩=>by cases e;exact q,fun q=>⟨a,rfl,q⟩⟩
theorem ok_none:Ok (none:Option α) Q↔False:=⟨fun⟨_,e,_⟩=>(by cases e),False.elim⟩
theorem ok_bind {f:α->Option β}{Q:β->Prop}:Ok (o.bind f) Q↔Ok o fun a=>Ok (f a) Q:=by
 cases o with
 |none=>exact⟨fun⟨_,e,_⟩=>(by cases e),fun⟨_,e,_⟩=>(by cases e)⟩
 |some a=>exact⟨fun h=>⟨a,rfl,h⟩,fun⟨_,e,h⟩=>by cases e;exact h⟩
theorem ok_map {f:α->β}{Q:β->Prop}:Ok (o.map f) Q↔Ok o fun a=>Q (f a):=by
 cases o with
 |none=>exact⟨fun⟨_,e,_⟩=>(by cases e),fun⟨_,e,_⟩=>(by cases e)⟩
 |some a=>exact⟨fun h=>⟨a,rfl,ok_some.mp h⟩,fun⟨_,e,h⟩=>by cases e;exact ok_some.mpr h⟩
theorem zfX [Decidable c]:Ok (if c then o else none) Q↔c/\Ok o Q:=by
 by_cases h:c
 ·rw[if_pos h];exact⟨fun k=>⟨h,k⟩,fun k=>k.2⟩
 ·rw[if_neg h];exact⟨fun k=>(ok_none.mp k).elim,fun k=>absurd k.1 h⟩
theorem Ok.mono (h:Ok o Q)(k:∀a,Q a->Q' a):Ok o Q':=by obtain⟨a,e,q⟩:=h;exact⟨a,e,k a q⟩
theorem za0 {Q':α->Prop}(h:∀a,Q a↔Q' a):Ok o Q↔Ok o Q':=⟨fun⟨a,e,q⟩=>⟨a,e,(h a).mp q⟩,fun⟨a,e,q⟩=>⟨a,e,(h a).mpr q⟩⟩
end
section
variable {c:MT} {a b:MS} {ρ:R}
theorem zm5 {α:Type}{o u:Option α}{Q:α->Prop}:Ok (if z then o else u) Q↔(z=true->Ok o Q)/\(z=false->Ok u Q):=by cases z<;>simp
theorem ok_sIf:Ok (sIf c a b ρ) Q↔Ok (c ρ) fun p=>(p.1=true->Ok (a p.2) Q)/\(p.1=false->Ok (b p.2) Q):=by
 unfold sIf;rw[ok_bind];exact za0 fun p=>zm5
theorem ok_eIf {a b:ME}{Q:D×R->Prop}:Ok (eIf c a b ρ) Q↔Ok (c ρ) fun p=>(p.1=true->Ok (a p.2) Q)/\(p.1=false->Ok (b p.2) Q):=by
 unfold eIf;rw[ok_bind];exact za0 fun p=>zm5
theorem ok_tAnd {a b:MT}{Q:Bool×R->Prop}:Ok (tAndM a b ρ) Q↔Ok (a ρ) fun p=>(p.1=true->Ok (b p.2) Q)/\(p.1=false->Q (false,p.2)):=by
 unfold tAndM;rw[ok_bind];exact za0 fun p=>by rw[zm5,ok_some]
theorem ok_tOr {a b:MT}{Q:Bool×R->Prop}:Ok (tOrM a b ρ) Q↔Ok (a ρ) fun p=>(p.1=true->Q (true,p.2))/\(p.1=false->Ok (b p.2) Q):=by
 unfold tOrM;rw[ok_bind];exact za0 fun p=>by rw[zm5,ok_some]
theorem ok_eAnd {a b:ME}{Q:D×R->Prop}:Ok (eAnd a b ρ) Q↔Ok (a ρ) fun p=>∃z,p.1= .bl z/\(z=true->Ok (b p.2) Q)/\(z=false->Q (.bl false,p.2)):=by
 unfold eAnd;rw[ok_bind];have:∀p:D×R,Ok (match p.1 with
  | .bl true=>b p.2
  | .bl false=>some (.bl false,p.2)
  |_=>none) Q↔∃z,p.1= .bl z/\(z=true->Ok (b p.2) Q)/\(z=false->Q (.bl false,p.2)):=by
  rintro⟨d,ρ⟩;cases d with
  |bl z=>cases z<;>simp[ok_some]
  |_=>simp[ok_none]
 exact za0 this
theorem ok_eOr {a b:ME}{Q:D×R->Prop}:Ok (eOr a b ρ) Q↔Ok (a ρ) fun p=>∃z,p.1= .bl z/\(z=true->Q (.bl true,p.2))/\(z=false->Ok (b p.2) Q):=by
 unfold eOr;rw[ok_bind];have:∀p:D×R,Ok (match p.1 with
  | .bl true=>some (.bl true,p.2)
  | .bl false=>b p.2
  |_=>none) Q↔∃z,p.1= .bl z/\(z=true->Q (.bl true,p.2))/\(z=false->Ok (b p.2) Q):=by
  rintro⟨d,ρ⟩;cases d with
  |bl z=>cases z<;>simp[ok_some]
  |_=>simp[ok_none]
 exact za0 this
theorem ok_chain {f g:D->D->Option D}{a b c:ME}{Q:D×R->Prop}:Ok (zih f g a b c ρ) Q↔Ok (a ρ) fun p=>Ok (b p.2) fun q=>Ok (f p.1 q.1) fun t=>∃z,t= .bl z/\(z=true->Ok (c q.2) fun r=>Ok (g q.1 r.1) fun d=>Q (d,r.2))/\(z=false->Q (.bl false,q.2)):=by
 unfold zih;rw[ok_bind];have:∀(p q:D×R) (t:D),Ok (match t with
  | .bl true=>(c q.2).bind fun r=>(g q.1 r.1).map fun d=>(d,r.2)
  | .bl false=>some (.bl false,q.2)
  |_=>none) Q↔∃z,t= .bl z/\(z=true->Ok (c q.2) fun r=>Ok (g q.1 r.1) fun d=>Q (d,r.2))/\(z=false->Q (.bl false,q.2)):=by
  intro p q t;cases t with
  |bl z=>
   cases z
   ·simp[ok_some]
   ·simp only[ok_bind,D.bl.injEq,exists_eq_left',forall_const,reduceCtorEq,false_implies,and_true];exact za0 fun r=>ok_map
  |_=>simp[ok_none]
 exact za0 fun p=>by rw[ok_bind];exact za0 fun q=>by rw[ok_bind];exact za0 fun t=>this p q t
theorem ok_turnM {Q:Option D×R->Prop}:Ok (zpc g mt me d ρ) Q↔Ok (g d ρ) fun ρ1=>Ok (mt ρ1) fun p=>(p.1=true->Ok (me p.2) fun q=>zen q.2=true/\Q (some q.1,q.2))/\(p.1=false->zen p.2=true/\Q (none,p.2)):=by
 unfold zpc;rw[ok_bind];exact za0 fun ρ1=>by rw[ok_bind];exact za0 fun p=>by rw[zm5,ok_bind,zfX,ok_some];exact and_congr (imp_congr Iff.rfl (za0 fun q=>by rw[zfX,ok_some])) Iff.rfl
theorem ok_turnP {bk:Nat}{Q:Option D×R->Prop}:Ok (zph bk g mt me d ρ) Q↔Ok (g d ρ) fun ρ1=>Ok (mt ρ1) fun p=>(p.1=true->Ok (me p.2) fun q=>znG bk q.2=true/\Q (some q.1,q.2))/\(p.1=false->znG bk p.2=true/\Q (none,p.2)):=by
 unfold zph;rw[ok_bind];exact za0 fun ρ1=>by rw[ok_bind];exact za0 fun p=>by rw[zm5,ok_bind,zfX,ok_some];exact and_congr (imp_congr Iff.rfl (za0 fun q=>by rw[zfX,ok_some])) Iff.rfl
theorem zpj (n:Nat):Int.natAbs (no_index (OfNat.ofNat n))=n:=rfl
end
section
theorem ok_sNext:Ok (zbM ρ) Q↔Q (.next,ρ):=ok_some
noncomputable def SeqK (b:MS)(Q:Fl×R->Prop)(p:Fl×R):Prop:=Ok (match p.1 with
 | .next=>b p.2
 |f=>some (f,p.2)) Q
theorem zrV:SeqK b Q (.next,ρ)↔Ok (b ρ) Q:=Iff.rfl
theorem seqK_ret:SeqK b Q (.ret r,ρ)↔Q (.ret r,ρ):=ok_some
theorem seqK_brk:SeqK b Q (.brk,ρ)↔Q (.brk,ρ):=ok_some
theorem zrM:SeqK b Q (.cont,ρ)↔Q (.cont,ρ):=ok_some
theorem ok_sSeq {a b:MS}:Ok (sSeq a b ρ) Q↔Ok (a ρ) (SeqK b Q):=ok_bind
theorem ok_sExpr:Ok (sExpr m ρ) Q↔Ok (m ρ) fun p=>Q (.next,p.2):=ok_map
theorem ok_sRet:Ok (sRet m ρ) Q↔Ok (m ρ) fun p=>Q (.ret (.val p.1),p.2):=ok_map
theorem ok_sRetO {m:MO}:Ok (zlv m ρ) Q↔Ok (m ρ) fun p=>Q (.ret (.own p.1),p.2):=ok_map
theorem ok_sRetV:Ok (zij i ρ) Q=Ok (match ρ[i]? with
 |some (.val d)=>some (.ret (.val d),ρ)
 |some (.own ds)=>some (.ret (.own ds),ρ.set i .emp)
 |_=>none) Q:=rfl
theorem ok_gN {Q:R->Prop}:Ok (gN i d ρ) Q↔Q (ρ.set i (.val d)):=ok_some
theorem ok_gsNil {ds:List D}{ρ:R}{Q:R->Prop}:Ok (zhk ds ρ) Q=Ok (match ds with
 |[]=>some ρ
 |_=>none) Q:=rfl
theorem zqF {Q:R->Prop}:Ok (zaY g h ds ρ) Q=Ok (match ds with
 |d::ds=>(g d ρ).bind fun ρ1=>h ds ρ1
 |[]=>none) Q:=rfl
theorem ok_gT {g:List D->R->Option R}{Q:R->Prop}:Ok (gT n g d ρ) Q=Ok (match d with
 | .tup ds=>if ds.length=n then g ds ρ else none
 |_=>none) Q:=rfl
theorem ok_sAsg:Ok (sAsg m g ρ) Q↔Ok (m ρ) fun p=>Ok (g p.1 p.2) fun ρ'=>Q (.next,ρ'):=ok_bind.trans (za0 fun _=>ok_map)
theorem ok_sSet:Ok (sSet i m ρ) Q↔Ok (m ρ) fun p=>Q (.next,p.2.set i (.val p.1)):=ok_map
theorem ok_sSetO {m:MO}:Ok (zft i m ρ) Q↔Ok (m ρ) fun p=>Q (.next,p.2.set i (.own p.1)):=ok_map
theorem ok_sApp:Ok (sApp i m ρ) Q=Ok (if(ρ[i]?.bind Sl.items).isSome then(m ρ).bind fun p=>p.2[i]?.bind fun s=>s.items.bind fun ds=>if ds.length<16777216 then some (.next,p.2.set i (s.put (ds++[p.1])))else none else none) Q:=rfl
theorem ok_sPut {mi me:ME}:Ok (sPut j mi me ρ) Q=Ok ((me ρ).bind fun p=>if hasV p.2 j then(mi p.2).bind fun q=>match q.1 with
 | .int k=>q.2[j]?.bind fun s=>s.items.bind fun ds=>(ixN ds.length k).bind fun n=>some (.next,q.2.set j (s.put (ds.set n p.1)))
 |_=>none else none) Q:=rfl
theorem ok_eC {Q:D×R->Prop}:Ok (eC d ρ) Q↔Q (d,ρ):=ok_some
theorem ok_eVar {Q:D×R->Prop}:Ok (eVar i ρ) Q=Ok (match ρ[i]? with
 |some (.val d)=>some (d,ρ)
 |some (.own ds)=>some (.lst ds,ρ.set i (.val (.lst ds)))
 |_=>none) Q:=rfl
theorem ok_aNil {Q:List D×R->Prop}:Ok (aNil ρ) Q↔Q ([],ρ):=ok_some
theorem ok_aCons {r:MA}{Q:List D×R->Prop}:Ok (zaf m r ρ) Q↔Ok (m ρ) fun p=>Ok (r p.2) fun q=>Q (p.1::q.1,q.2):=ok_bind.trans (za0 fun _=>ok_map)
theorem ok_m2 {f:D->D->Option D}{ma mb:ME}{Q:D×R->Prop}:Ok (m2 f ma mb ρ) Q↔Ok (ma ρ) fun p=>Ok (mb p.2) fun q=>Ok (f p.1 q.1) fun d=>Q (d,q.2):=ok_bind.trans (za0 fun _=>ok_bind.trans (za0 fun _=>ok_map))
theorem ok_m1 {f:D->Option D}{ma:ME}{Q:D×R->Prop}:Ok (m1 f ma ρ) Q↔Ok (ma ρ) fun p=>Ok (f p.1) fun d=>Q (d,p.2):=ok_bind.trans (za0 fun _=>ok_map)
theorem ok_mC {f:List D->Option D}{Q:D×R->Prop}:Ok (mC f ma ρ) Q↔Ok (ma ρ) fun p=>Ok (f p.1) fun d=>Q (d,p.2):=ok_bind.trans (za0 fun _=>ok_map)
theorem ok_eIxV {mi:ME}{Q:D×R->Prop}:Ok (eIxV j mi ρ) Q=Ok (if hasV ρ j then(mi ρ).bind fun p=>(p.2[j]?.bind Sl.read).bind fun d=>(dIx d p.1).map fun e=>(e,p.2)else none) Q:=rfl
theorem ok_eLenV {Q:D×R->Prop}:Ok (zcY j ρ) Q=Ok ((ρ[j]?.bind Sl.read).bind fun d=>(dLen [d]).map fun e=>(e,ρ)) Q:=rfl
theorem ok_oC {f:List D->Option (List D)}{Q:List D×R->Prop}:Ok (oC f ma ρ) Q↔Ok (ma ρ) fun p=>Ok (f p.1) fun d=>Q (d,p.2):=ok_bind.trans (za0 fun _=>ok_map)
theorem ok_eTup {Q:D×R->Prop}:Ok (eTup ma ρ) Q↔Ok (ma ρ) fun p=>p.1.length<=16777216/\Q (.tup p.1,p.2):=ok_bind.trans (za0 fun _=>by rw[zfX,ok_some])
theorem ok_oLst {Q:List D×R->Prop}:Ok (oLst ma ρ) Q↔Ok (ma ρ) fun p=>p.1.length<=16777216/\Q (p.1,p.2):=ok_bind.trans (za0 fun _=>by rw[zfX,ok_some])
theorem ok_tTru {ma:ME}{Q:Bool×R->Prop}:Ok (tTru ma ρ) Q↔Ok (ma ρ) fun p=>Ok (dTru p.1) fun b=>Q (b,p.2):=ok_bind.trans (za0 fun _=>ok_map)
theorem ok_tNotM {a:MT}{Q:Bool×R->Prop}:Ok (zgc a ρ) Q↔Ok (a ρ) fun p=>Q (!p.1,p.2):=ok_map
theorem ok_eCall {Q:D×R->Prop}:Ok (zaB F ma ρ) Q=Ok ((ma ρ).bind fun p=>(F p.1).bind fun r=>match r with
 | .val d=>some (d,p.2)
 | .own ds=>some (.lst ds,p.2)
 |_=>none) Q:=rfl
theorem ok_oCall {Q:List D×R->Prop}:Ok (zpG F ma ρ) Q=Ok ((ma ρ).bind fun p=>(F p.1).bind fun r=>match r with
 | .own ds=>some (ds,p.2)
 |_=>none) Q:=rfl
theorem zpV {F:List D->List D->Option (Sl×List D)}{Q:D×R->Prop}:Ok (zbz F j ma ρ) Q=Ok (if(ρ[j]?.bind Sl.items).isSome then(ma ρ).bind fun p=>p.2[j]?.bind fun s=>s.items.bind fun cs=>(F cs p.1).bind fun r=>match r.1 with
 | .val d=>some (d,p.2.set j (s.put r.2))
 | .own ds=>some (.lst ds,p.2.set j (s.put r.2))
 |_=>none else none) Q:=rfl
theorem ok_iR2L {Q:List D×R->Prop}:Ok (iR2L ma ρ) Q=Ok ((ma ρ).bind fun p=>match p.1 with
 |[.int i,.int j]=>some (zec i (j-i).toNat,p.2)
 |_=>none) Q:=rfl
theorem ok_eFz {m:MO}{Q:D×R->Prop}:Ok (eFz m ρ) Q↔Ok (m ρ) fun p=>Q (.lst p.1,p.2):=ok_map
theorem ok_eCut {ma:ME}{ml mh:MP}{Q:D×R->Prop}:Ok (eCut ma ml mh ρ) Q=Ok ((ma ρ).bind fun p=>(ml p.2).bind fun q=>(mh q.2).bind fun r=>(dCut p.1 q.1 r.1).map fun d=>(d,r.2)) Q:=rfl
theorem ok_pNo {Q:Option Int×R->Prop}:Ok (pNo ρ) Q↔Q (none,ρ):=ok_some
theorem ok_pSome {Q:Option Int×R->Prop}:Ok (zf1 m ρ) Q=Ok ((m ρ).bind fun p=>match p.1 with
 | .int i=>some (some i,p.2)
 |_=>none) Q:=rfl
theorem ok_iSeq {Q:List D×R->Prop}:Ok (iSeq m ρ) Q↔Ok (m ρ) fun p=>Ok (zaR [p.1]) fun ds=>Q (ds,p.2):=ok_bind.trans (za0 fun _=>ok_map)
theorem ok_iR1 {Q:List D×R->Prop}:Ok (iR1 ma ρ) Q=Ok ((ma ρ).bind fun p=>match p.1 with
 |[.int j]=>if zcz j then some (zec 0 j.toNat,p.2)else none
 |_=>none) Q:=rfl
theorem ok_iR2 {Q:List D×R->Prop}:Ok (iR2 ma ρ) Q=Ok ((ma ρ).bind fun p=>match p.1 with
 |[.int i,.int j]=>if zcz i&&zcz j then some (zec i (j-i).toNat,p.2)else none
 |_=>none) Q:=rfl
theorem ok_sFor {mb:MS}:Ok (sFor mi g mb ρ) Q↔Ok (mi ρ) fun p=>Ok (forM (fun d ρ=>(g d ρ).bind fun ρ'=>mb ρ') p.1 p.2) Q:=ok_bind
theorem ok_oLC {Q:List D×R->Prop}:Ok (oLC cap t mi g mt me ρ) Q=Ok ((mi ρ).bind fun p=>if p.1.length<=16777216 then(zfR (zpc g mt me) p.1 (capR cap t (fzL cap p.2))).map fun q=>(q.1,fzL cap p.2)else none) Q:=rfl
theorem ok_tTrue {Q:Bool×R->Prop}:Ok (zcx ρ) Q↔Q (true,ρ):=ok_some
theorem ok_eIsI {T:String}{ma:ME}{Q:D×R->Prop}:Ok (eIsI T ma ρ) Q=Ok ((ma ρ).bind fun p=>if okT T&&eIsI.noS1 p.1 then some (.bl (isI T p.1),p.2)else none) Q:=rfl
theorem ok_sAugI {g:Int->Int->Int}:Ok (zkB i g me ρ) Q=Ok (match ρ[i]? with
 |some (.val (.int a))=>(me ρ).bind fun p=>match p.1 with
  | .int b=>some (.next,p.2.set i (.val (.int (g a b))))
  |_=>none
 |_=>none) Q:=rfl
theorem ok_eCutS {ma:ME}{ml mh ms:MP}{Q:D×R->Prop}:Ok (eCutS ma ml mh ms ρ) Q=Ok ((ma ρ).bind fun p=>(ml p.2).bind fun q=>(mh q.2).bind fun r=>(ms r.2).bind fun t=>(dPick p.1 q.1 r.1 t.1).map fun d=>(d,t.2)) Q:=rfl
theorem ok_iR3 {Q:List D×R->Prop}:Ok (iR3 ma ρ) Q=Ok ((ma ρ).bind fun p=>match p.1 with
 |[.int i,.int j,.int k]=>if zcz i&&zcz j&&decide (0<k)&&decide (k<1073741824)then some (zns i k (cntS i j k),p.2)else none
 |_=>none) Q:=rfl
theorem ok_oRep {ma mb:ME}{Q:List D×R->Prop}:Ok (oRep ma mb ρ) Q=Ok ((ma ρ).bind fun p=>(mb p.2).bind fun q=>match p.1,q.1 with
 | .lst xs,.int k=>if zcz k&&decide (xs.length*k.toNat<=16777216)then some ((List.replicate k.toNat xs).flatten,q.2)else none
 |_,_=>none) Q:=rfl
theorem ok_iZ2 {Q:List D×R->Prop}:Ok (iZ2 ma ρ) Q=Ok ((ma ρ).bind fun p=>match p.1 with
 |[a,b]=>(zaR [a]).bind fun xs=>(zaR [b]).bind fun ys=>some (znY xs ys,p.2)
 |_=>none) Q:=rfl
theorem ok_iZ3 {Q:List D×R->Prop}:Ok (iZ3 ma ρ) Q=Ok ((ma ρ).bind fun p=>match p.1 with
 |[a,b,c]=>(zaR [a]).bind fun xs=>(zaR [b]).bind fun ys=>(zaR [c]).bind fun zs=>some (znX xs ys zs,p.2)
 |_=>none) Q:=rfl
theorem ok_iEn {Q:List D×R->Prop}:Ok (iEn ma ρ) Q=Ok ((ma ρ).bind fun p=>(zaR p.1).map fun xs=>(zn7 xs,p.2)) Q:=rfl
theorem ok_oLCM {t b w:Nat}{Q:List D×R->Prop}:Ok (oLCM cap t b w mi g mt me ρ) Q=Ok ((mi ρ).bind fun p=>if p.1.length<=16777216 then
    ((fzL (cap.filter (· !=w)) p.2)[w]?).bind fun s=>s.items.bind fun cs=>(zfR (zph b g mt me) p.1 ((capR cap t (fzL (cap.filter (· !=w)) p.2)).set b (.par cs))).map fun q=>(q.1,(fzL (cap.filter (· !=w)) p.2).set w (s.put (zrX b q.2)))
  else none) Q:=rfl
theorem ok_fP {m:MS}{Q:Sl->Prop}:Ok (fP N m ds) Q=Ok ((m (ds.map .val++List.replicate (N-ds.length) .emp)).bind fun p=>match p.1 with
 | .ret r=>some r
 | .next=>some (.val .non)
 |_=>none) Q:=rfl
theorem ok_fM {m:MS}{cs:List D}{Q:Sl×List D->Prop}:Ok (fM N m cs ds) Q=Ok ((m (.par cs::(ds.map .val++List.replicate (N-(ds.length+1)) .emp))).bind fun p=>match p.1,(p.2[0]?:Option Sl)with
 |Fl.ret r,some (Sl.par out)=>some (r,out)
 |Fl.next,some (Sl.par out)=>some (.val .non,out)
 |_,_=>none) Q:=rfl
end
noncomputable def Turn (I:R->Prop)(Q:Fl×R->Prop)(p:Fl×R):Prop:=match p.1 with
 | .next=>I p.2
 | .cont=>I p.2
 | .brk=>Q (.next,p.2)
 | .ret r=>Q (.ret r,p.2)
theorem zq9:Turn I Q (.next,ρ)↔I ρ:=Iff.rfl
theorem zpN:Turn I Q (.cont,ρ)↔I ρ:=Iff.rfl
theorem turn_brk:Turn I Q (.brk,ρ)↔Q (.next,ρ):=Iff.rfl
theorem turn_ret:Turn I Q (.ret r,ρ)↔Q (.ret r,ρ):=Iff.rfl
theorem zr0 {α:Type}{f:D->R->Option (Fl×R)}(enc:α->D)(I:Nat->R->Prop):∀(l:List α) (b:Nat) (ρ:R),I b ρ->
  (∀i a ρ,l[i]? =some a->I (b+i) ρ->Ok (f (enc a) ρ) (Turn (I (b+i+1)) Q))->(∀ρ,I (b+l.length) ρ->Q (.next,ρ))->Ok (forM f (l.map enc) ρ) Q
 |[],b,ρ,h0,_,hq=>ok_some.mpr (hq ρ h0)
 |a::l,b,ρ,h0,hs,hq=>by
  obtain⟨p,e,t⟩:=hs 0 a ρ rfl h0;obtain⟨fl,ρ1⟩:=p;have go:∀ρ1,I (b+1) ρ1->Ok (forM f (l.map enc) ρ1) Q:=fun ρ1 h1=>zr0 enc I l (b+1) ρ1 h1 (fun i a' ρ' hi hp=>by
   have:=hs (i+1) a' ρ' (by simpa using hi) (by rw[show b+(i+1)=b+1+i by lia];exact hp);rw[show b+(i+1)+1=b+1+i+1 by lia]at this;exact this) (fun ρ h=>hq ρ (by rw[qa5,show b+(l.length+1)=b+1+l.length by lia];exact h))
  have e':forM f ((a::l).map enc) ρ=(f (enc a) ρ).bind fun p=>match p.1 with
   | .next=>forM f (l.map enc) p.2
   | .cont=>forM f (l.map enc) p.2
   | .brk=>some (.next,p.2)
   | .ret r=>some (.ret r,p.2):=rfl
  rw[e',e];cases fl with
  |next=>exact go ρ1 t
  |cont=>exact go ρ1 t
  |brk=>exact ok_some.mpr t
  |ret r=>exact ok_some.mpr t
theorem zqd {α:Type}{f:D->R->Option (Fl×R)}{enc:α->D}{l:List α}(I:Nat->R->Prop)(h0:I 0 ρ)
  (hs:∀i a ρ,l[i]? =some a->I i ρ->Ok (f (enc a) ρ) (Turn (I (i+1)) Q)) (hq:∀ρ,I l.length ρ->Q (.next,ρ)):Ok (forM f (l.map enc) ρ) Q:=
 zr0 enc I l 0 ρ h0 (fun i a ρ hi h=>by rw[qck]at h ⊢;exact hs i a ρ hi h) (fun ρ h=>hq ρ (by rw[qck]at h;exact h))
theorem znk {α:Type}(enc:α->D){Q:List D×R->Prop}(I:Nat->List D->R->Prop):∀(l:List α) (b:Nat) (acc:List D) (ρ:R),I b acc ρ->
  (∀i a acc ρ,l[i]? =some a->I (b+i) acc ρ->Ok (f (enc a) ρ) fun p=>I (b+i+1) (acc++p.1.toList) p.2)->(∀ds ρ,I (b+l.length) (acc++ds) ρ->Q (ds,ρ))->Ok (zfR f (l.map enc) ρ) Q
 |[],b,acc,ρ,h0,_,hq=>ok_some.mpr (hq [] ρ (by rw[qaQ];exact h0))
 |a::l,b,acc,ρ,h0,hs,hq=>by
  obtain⟨p,e,t⟩:=hs 0 a acc ρ rfl h0;have go:=znk enc (Q:=fun q=>Q (p.1.toList++q.1,q.2)) I l (b+1) (acc++p.1.toList) p.2 t (fun i a' acc' ρ' hi hp=>by
   have:=hs (i+1) a' acc' ρ' (by simpa using hi) (by rw[show b+(i+1)=b+1+i by lia];exact hp);rw[show b+(i+1)+1=b+1+i+1 by lia]at this;exact this) (fun ds ρ h=>hq _ ρ (by rw[qa5,show b+(l.length+1)=b+1+l.length by lia,<-List.append_assoc];exact h))
  have e':zfR f ((a::l).map enc) ρ=(f (enc a) ρ).bind fun p=>(zfR f (l.map enc) p.2).map fun q=>(p.1.toList++q.1,q.2):=rfl
  rw[e',e];exact ok_map.mpr go
theorem zog {α:Type}{enc:α->D}{l:List α}{Q:List D×R->Prop}(I:Nat->List D->R->Prop)(h0:I 0 [] ρ)
  (hs:∀i a acc ρ,l[i]? =some a->I i acc ρ->Ok (f (enc a) ρ) fun p=>I (i+1) (acc++p.1.toList) p.2) (hq:∀ds ρ,I l.length ds ρ->Q (ds,ρ)):Ok (zfR f (l.map enc) ρ) Q:=
 znk enc I l 0 [] ρ h0 (fun i a acc ρ hi h=>by rw[qck]at h ⊢;exact hs i a acc ρ hi h) (fun ds ρ h=>hq ds ρ (by rw[qck]at h;exact h))
theorem zfJ {α β:Type}{f g:α->Option β}:∀(l:List α),(∀a∈l,f a=g a)->l.filterMap f=l.filterMap g
 |[],_=>rfl
 |a::l,h=>by rw[qal,qal,h a qam,zfJ l fun b hb=>h b (qan _ hb)]
theorem zlq {α:Type}{enc:α->D}{l:List α}{Q:List D×R->Prop}(P:R->Prop)(g:α->Option D)(h0:P ρ)
  (hs:∀a ρ,a∈l->P ρ->Ok (f (enc a) ρ) fun p=>p.1=g a/\P p.2) (hq:∀ρ,P ρ->Q (l.filterMap g,ρ)):Ok (zfR f (l.map enc) ρ) Q:=
 zog (fun i ds ρ=>ds=(l.take i).filterMap g/\P ρ) ⟨rfl,h0⟩ (fun i a acc ρ hi ⟨e,p⟩=>by
  refine(hs a ρ (qa1 hi) p).mono fun r h=>⟨?_,h.2⟩
  obtain⟨h1,h2⟩:=qar.mp hi;rw[h.1,e,List.take_add_one,hi,List.filterMap_append];cases q:g a<;>simp[q]) (fun ds ρ ⟨e,p⟩=>by rw[List.take_length]at e;rw[e];exact hq ρ p)
theorem zqk {α:Type}{enc:α->D}{l:List α}{Q:List D×R->Prop}(P:R->Prop)(g:α->D)(h0:P ρ)
  (hs:∀a ρ,a∈l->P ρ->Ok (f (enc a) ρ) fun p=>p.1=some (g a)/\P p.2) (hq:∀ρ,P ρ->Q (l.map g,ρ)):Ok (zfR f (l.map enc) ρ) Q:=
 zlq P (fun a=>some (g a)) h0 hs (fun ρ p=>by rw[<-qcr some g,List.filterMap_eq_map];exact hq ρ p)
theorem dEq_int (i j:Int):dEq (.int i) (.int j)=some (.bl (i==j)):=by
 unfold dEq;rw[show noS (.int i)=true from rfl,show noS (.int j)=true from rfl,show depth (.int i)=0 from rfl]
 rfl
theorem dNe_int (i j:Int):dNe (.int i) (.int j)=some (.bl (i !=j)):=by
 unfold dNe;rw[show noS (.int i)=true from rfl,show noS (.int j)=true from rfl,show depth (.int i)=0 from rfl]
 rfl
theorem atI_n {α:Type}(xs:List α)(i:Nat):atI xs (i:Int)=xs[i]?:=by
 unfold atI ixN;rw[if_pos (by lia)]
 by_cases h:i<xs.length
 ·rw[if_pos (by lia)];simp
 ·rw[if_neg (by lia)];simp[qbU (by lia:xs.length<=i)]
theorem atI_lit {α:Type}(xs:List α)(n:Nat):atI xs (no_index (@OfNat.ofNat Int n _))=xs[n]?:=atI_n xs n
theorem atI_n1 {α:Type}(xs:List α)(i:Nat):atI xs ((i:Int)+1)=xs[i+1]?:=atI_n xs (i+1)
theorem ixN_n (n i:Nat):ixN n (i:Int)=if i<n then some i else none:=by
 unfold ixN;rw[if_pos (by lia)]
 by_cases h:i<n
 ·rw[if_pos (by lia),if_pos h];simp
 ·rw[if_neg (by lia),if_neg h]
theorem ixN_lit (n i:Nat):ixN n (no_index (@OfNat.ofNat Int i _))=if i<n then some i else none:=ixN_n n i
theorem zoh {α:Type}(xs:List α)(x:α):atI (xs++[x]) (-1)=some x:=by
 unfold atI ixN;rw[if_neg (by lia),if_pos (by simp;lia)];have:(-1+((xs++[x]).length:Int)).toNat=xs.length:=by simp;lia
 simp only[qby,this];simp
theorem zfr {i j:Int}(h:i.natAbs<18446744073709551616):zlQ i j=true:=by
 unfold zlQ;have:decide (i.natAbs<2^64)=true:=qa7 h;rw[this];rfl
theorem mulOk_r {i j:Int}(h:j.natAbs<18446744073709551616):zlQ i j=true:=by
 unfold zlQ;have:decide (j.natAbs<2^64)=true:=qa7 h;rw[this];simp
theorem zcA {j:Int}(h1: -1000000000000<=j)(h2:j<=1000000000000):zcz j=true:=by
 unfold zcz;rw[qa7 h1,qa7 h2];rfl
noncomputable def wL (n:Nat)(f:Nat->D):List D:=(List.range n).map f
noncomputable abbrev wI (n:Nat)(f:Nat->Int):List D:=wL n fun i=> .int (f i)
theorem zaN (n:Nat)(f:Nat->D):(wL n f).length=n:=by simp[wL]
theorem zas (f:Nat->D)(h:i<n):(wL n f)[i]? =some (f i):=by simp[wL,h]
theorem zf7 (n:Nat)(f:Nat->D):wL (n+1) f=wL n f++[f n]:=by simp[wL,List.range_succ]
theorem zdN {f g:Nat->D}(h:∀i,i<n->f i=g i):wL n f=wL n g:=qci fun i hi=>h i (qaj.mp hi)
theorem wL_snoc (n:Nat)(f:Nat->D)(x:D):wL n f++[x]=wL (n+1) fun j=>if j<n then f j else x:=by
 rw[zf7];congr 1
 ·exact zdN fun i hi=>by rw[if_pos hi]
 ·rw[if_neg (by lia)]
theorem wL_set (f:Nat->D)(x:D)(h:i<n):(wL n f).set i x=wL n fun j=>if j=i then x else f j:=by
 apply qcs;intro j
 by_cases hj:j<n
 ·rw[zas _ hj,qbw]
  by_cases e:i=j
  ·subst e;simp[zaN,h]
  ·simp[e,zas _ hj,Ne.symm e]
 ·rw[qbU (by simp[zaN];lia),qbU (by simp[zaN];lia)]
theorem atI_w1 (f:Nat->D):atI (wL (n+1) f) (-1)=some (f n):=by rw[zf7];exact zoh _ _
theorem enumD_w (n:Nat)(f:Nat->D):zn7 (wL n f)=wL n fun i=> .tup [.int (i:Nat),f i]:=by
 apply qcs;intro j;unfold zn7
 by_cases hj:j<n
 ·rw[qce,zas _ hj,zas _ hj];simp[zaN,hj]
 ·rw[qbU (by simp[zaN];lia),qbU (by simp[zaN];lia)]
theorem zre (n:Nat)(f g:Nat->D):znY (wL n f) (wL n g)=wL n fun i=> .tup [f i,g i]:=by
 apply qcs;intro j;unfold znY
 by_cases hj:j<n
 ·rw[qce,zas _ hj,zas _ hj,zas _ hj]
 ·rw[qbU (by simp[zaN];lia),qbU (by simp[zaN];lia)]
theorem zo6 {α:Type}(xs:List α)(i:Nat):cutD xs none (some (i:Int))=xs.take i:=by
 unfold cutD;rw[HT.zlC,HT.zlS,Nat.sub_zero,qbV]
 by_cases h:i<=xs.length
 ·rw[qct h]
 ·rw[Nat.min_eq_right (by lia),qbT (qaJ _),qbT (by lia)]
theorem zju {α:Type}(xs:List α)(i:Nat):cutD xs (some (i:Int)) none=xs.drop i:=by
 unfold cutD;rw[HT.zlC,HT.zlS]
 by_cases h:i<=xs.length
 ·rw[qct h,qbT (by simp)]
 ·rw[Nat.min_eq_right (by lia),List.drop_of_length_le (qaJ _),List.drop_of_length_le (by lia)];simp
theorem zcN:∀(l:List Int),zbw (l.map .int)=some l
 |[]=>rfl
 |i::l=>by simp[zbw,zcN l]
theorem zkn (bt:Nat->Nat->Bool):∀n,argBest bt n<=n
 |0=>qaJ 0
 |n+1=>by
  have:=zkn bt n;unfold argBest
  split<;>lia
theorem zmN (lt:Int->Int->Bool)(h:ns≠[]):zkj lt ns∈ns:=by
 unfold zkj;have hl:0<ns.length:=qbW.mpr h;have:=zkn (fun i j=>lt (ns.getD i 0) (ns.getD j 0)) (ns.length-1)
 generalize argBest (fun i j=>lt (ns.getD i 0) (ns.getD j 0)) (ns.length-1)=k at*
 rw[qcq,qbD (by lia)];exact List.getElem_mem _
theorem zkK (lt:Int->Int->Bool)(h:ns≠[]):zp5 lt [.lst (ns.map .int)]=some (.int (zkj lt ns)):=by
 have hne:ns.isEmpty=false:=by cases ns with|nil=>exact absurd rfl h|cons=>rfl
 simp only[zp5,zaR,qby,zcN,hne]
 rfl
mutual
theorem zli:∀(d:D),noS d=true->eqB d d=true
 | .non,_=>rfl
 | .bl b,_=>by simp[eqB]
 | .int i,_=>by simp[eqB]
 | .str s,_=>by simp[eqB]
 | .lst ds,h=>by simp only[eqB];exact zjQ ds (by simpa[noS]using h)
 | .tup ds,h=>by simp only[eqB];exact zjQ ds (by simpa[noS]using h)
 | .scr _,h=>by simp[noS]at h
 | .exc _,h=>by simp[noS]at h
theorem zjQ:∀(ds:List D),noSL ds=true->eqBL ds ds=true
 |[],_=>rfl
 |d::ds,h=>by
  simp only[noSL,qbi]at h;simp only[eqBL,qbi];exact⟨zli d h.1,zjQ ds h.2⟩
end
theorem dEq_same (h:noS d=true)(k:depth d<=50):dEq d d=some (.bl true):=by simp[dEq,h,k,zli d h]
theorem dNe_same (h:noS d=true)(k:depth d<=50):dNe d d=some (.bl false):=by simp[dNe,h,k,zli d h]
theorem znJ:∀{ds:List D},(∀d∈ds,noS d=true)->noSL ds=true
 |[],_=>rfl
 |d::ds,h=>by simp only[noSL,qbi];exact⟨h d qam,znJ fun e he=>h e (qan _ he)⟩
theorem zkg {k:Nat}:∀{ds:List D},(∀d∈ds,depth d<=k)->zhw ds<=k
 |[],_=>qbv _
 |d::ds,h=>by simp only[zhw];exact Nat.max_le.mpr ⟨h d qam,zkg fun e he=>h e (qan _ he)⟩
noncomputable def Pl (k:Nat)(d:D):Prop:=noS d=true/\depth d<=k
theorem zkF (k:Nat)(i:Int):Pl k (.int i):=⟨rfl,qbv _⟩
theorem pl_lst {k:Nat}(h:∀d∈ds,Pl k d):Pl (k+1) (.lst ds):=⟨by simp only[noS];exact znJ fun d hd=>(h d hd).1,by simp only[depth];exact Nat.succ_le_succ (zkg fun d hd=>(h d hd).2)⟩
theorem znb {k:Nat}(h:∀d∈ds,Pl k d):Pl (k+1) (.tup ds):=⟨by simp only[noS];exact znJ fun d hd=>(h d hd).1,by simp only[depth];exact Nat.succ_le_succ (zkg fun d hd=>(h d hd).2)⟩
theorem pl_w {k n:Nat}{f:Nat->D}(h:∀i,Pl k (f i)):∀d∈wL n f,Pl k d:=fun d hd=>by
 obtain⟨i,_,rfl⟩:=qbS.mp hd;exact h i
theorem Pl.eq {k:Nat}(h:Pl k d)(l:k<=50):dEq d d=some (.bl true):=dEq_same h.1 (qak h.2 l)
theorem Pl.ne {k:Nat}(h:Pl k d)(l:k<=50):dNe d d=some (.bl false):=dNe_same h.1 (qak h.2 l)
theorem rangeD_w (n:Nat):zec 0 n=wL n fun i=> .int (i:Nat):=by unfold zec wL;simp only[Int.zero_add]
theorem zjT (lo:Int)(n:Nat):zec lo n=wL n fun i=> .int (lo+(i:Nat)):=rfl
section
variable {n:Nat} {e:Nat->D} {ρ:R}
theorem zcs {f:D->R->Option (Fl×R)}(I:Nat->R->Prop)(h0:I 0 ρ)
  (hs:∀i ρ,i<n->I i ρ->Ok (f (e i) ρ) (Turn (I (i+1)) Q)) (hq:∀ρ,I n ρ->Q (.next,ρ)):Ok (forM f (wL n e) ρ) Q:=
 zqd (enc:=e) (l:=List.range n) I h0 (fun i a ρ hi h=>by
  obtain⟨h1,h2⟩:=qar.mp hi;have:a=i:=by simpa using h2.symm
  subst this;exact hs a ρ (by simpa using h1) h) (fun ρ h=>hq ρ (by simpa using h))
variable {f:D->R->Option (Option D×R)} {Q:List D×R->Prop}
theorem zkk (I:Nat->List D->R->Prop)(h0:I 0 [] ρ)
  (hs:∀i acc ρ,i<n->I i acc ρ->Ok (f (e i) ρ) fun p=>I (i+1) (acc++p.1.toList) p.2) (hq:∀ds ρ,I n ds ρ->Q (ds,ρ)):Ok (zfR f (wL n e) ρ) Q:=
 zog (enc:=e) (l:=List.range n) I h0 (fun i a acc ρ hi h=>by
  obtain⟨h1,h2⟩:=qar.mp hi;have:a=i:=by simpa using h2.symm
  subst this;exact hs a acc ρ (by simpa using h1) h) (fun ds ρ h=>hq ds ρ (by simpa using h))
theorem zqf (P:R->Prop)(g:Nat->Option D)(h0:P ρ)
  (hs:∀i ρ,i<n->P ρ->Ok (f (e i) ρ) fun p=>p.1=g i/\P p.2) (hq:∀ρ,P ρ->Q ((List.range n).filterMap g,ρ)):Ok (zfR f (wL n e) ρ) Q:=
 zlq (enc:=e) (l:=List.range n) P g h0 (fun a ρ ha hp=>hs a ρ (qaj.mp ha) hp) hq
theorem zaL (P:R->Prop)(g:Nat->D)(h0:P ρ)
  (hs:∀i ρ,i<n->P ρ->Ok (f (e i) ρ) fun p=>p.1=some (g i)/\P p.2) (hq:∀ρ,P ρ->Q (wL n g,ρ)):Ok (zfR f (wL n e) ρ) Q:=
 zqk (enc:=e) (l:=List.range n) P g h0 (fun a ρ ha hp=>hs a ρ (qaj.mp ha) hp) hq
end
end M
namespace M
theorem zmj (n:Nat)(f:Nat->Int)(x:Int):wI n f++[.int x]=wI (n+1) fun j=>if j<n then f j else x:=by
 rw[wI,wL_snoc];exact zdN fun j _=>by dsimp only;split<;>rfl
theorem zcb {j:Int}(h0:0<j)(h1:j<1073741824):zpr j=true:=by
 have h:j.natAbs.log2<9000:=by
  have:j.natAbs.log2<30:=(Nat.log2_lt (by lia)).mpr (by lia);lia
 unfold zpr;rw[qa7 h0,qa7 h];rfl
theorem zqp {j:Int}(h0:0<j)(h1:j<2^250):zpr j=true:=by
 have h:j.natAbs.log2<9000:=by
  have:j.natAbs.log2<250:=(Nat.log2_lt (by lia)).mpr (by lia);lia
 unfold zpr;rw[qa7 h0,qa7 h];rfl
theorem zi8 {n i:Nat}(f:Nat->Int)(x:Int)(h:i<n):(wI n f).set i (.int x)=wI n fun j=>if j=i then x else f j:=by
 rw[wI,wL_set _ _ h];exact zdN fun j _=>by dsimp only;split<;>rfl
theorem isN_non:isN .non=true:=rfl
theorem isN_int (i:Int):isN (.int i)=false:=rfl
theorem isN_bl (b:Bool):isN (.bl b)=false:=rfl
theorem isN_str (s:PySem.Str):isN (.str s)=false:=rfl
theorem isN_lst (ds:List D):isN (.lst ds)=false:=rfl
theorem isN_tup (ds:List D):isN (.tup ds)=false:=rfl
end M
namespace M
open L2 PySem
theorem dItems_l (ds:List D):zaR [.lst ds]=some ds:=rfl
theorem dItems_t (ds:List D):zaR [.tup ds]=some ds:=rfl
theorem dItems_s (ns:List Int):zaR [.scr ns]=some (ns.map .int):=rfl
theorem dLen_l (ds:List D):dLen [.lst ds]=some (.int ds.length):=rfl
theorem dLen_t (ds:List D):dLen [.tup ds]=some (.int ds.length):=rfl
theorem dLen_s (ns:List Int):dLen [.scr ns]=some (.int ns.length):=rfl
theorem dTuple_l (ds:List D):zcG [.lst ds]=some (.tup ds):=rfl
theorem dTuple_t (ds:List D):zcG [.tup ds]=some (.tup ds):=rfl
theorem dTuple_s (ns:List Int):zcG [.scr ns]=some (.tup (ns.map .int)):=rfl
theorem dCut_l (ds:List D)(a b:Option Int):dCut (.lst ds) a b=some (.lst (cutD ds a b)):=rfl
theorem dCut_t (ds:List D)(a b:Option Int):dCut (.tup ds) a b=some (.tup (cutD ds a b)):=rfl
theorem dCut_s (ns:List Int)(a b:Option Int):dCut (.scr ns) a b=some (.lst ((cutD ns a b).map .int)):=rfl
theorem dIx_l (ds:List D)(i:Int):dIx (.lst ds) (.int i)=atI ds i:=rfl
theorem dIx_t (ds:List D)(i:Int):dIx (.tup ds) (.int i)=atI ds i:=rfl
theorem dIx_s (ns:List Int)(i:Int):dIx (.scr ns) (.int i)=(atI ns i).map .int:=rfl
theorem dEq_str (a b:Str):dEq (.str a) (.str b)=some (.bl (a==b)):=by
 unfold dEq;rw[show noS (.str a)=true from rfl,show noS (.str b)=true from rfl,show depth (.str a)=0 from rfl]
 rfl
theorem zip3D_w (n:Nat)(f g h:Nat->D):znX (wL n f) (wL n g) (wL n h)=wL n fun i=> .tup [f i,g i,h i]:=by
 apply qcs;intro j;unfold znX
 by_cases hj:j<n
 ·have e:(List.zip (wL n g) (wL n h))[j]? =some (g j,h j):=by
   rw[List.getElem?_zip_eq_some];exact⟨zas g hj,zas h hj⟩
  rw[qce,e,zas _ hj,zas _ hj]
 ·rw[qbU (by simp[zaN];lia),qbU (by simp[zaN];lia)]
structure Sq (d:D) (n:Nat) (f:Nat->Int):Prop where
 it:zaR [d]=some (wI n f)
 ln:dLen [d]=some (.int n)
 tp:zcG [d]=some (.tup (wI n f))
 ix:∀i,dIx d (.int i)=atI (wI n f) i
 ct:∀lo hi,∃d',dCut d lo hi=some d'/\zaR [d']=some (cutD (wI n f) lo hi)
theorem Sq.lst (n:Nat)(f:Nat->Int):Sq (.lst (wI n f)) n f:=⟨rfl,by rw[dLen_l,zaN],rfl,fun _=>rfl,fun lo hi=>⟨_,rfl,rfl⟩⟩
theorem Sq.tup (n:Nat)(f:Nat->Int):Sq (.tup (wI n f)) n f:=⟨rfl,by rw[dLen_t,zaN],rfl,fun _=>rfl,fun lo hi=>⟨_,rfl,rfl⟩⟩
noncomputable def eqW (s:Nat)(a b:Nat->Int):Bool:=(List.range s).map a==(List.range s).map b
theorem zlH:∀(xs ys:List Int),eqBL (xs.map D.int) (ys.map D.int)=(xs==ys)
 |[],[]=>rfl
 |[],_::_=>rfl
 |_::_,[]=>rfl
 |x::xs,y::ys=>by simp[eqBL,eqB,zlH xs ys]
theorem zoK (n:Nat)(f:Nat->Int):wI n f=((List.range n).map f).map .int:=by simp[wL,qch,qcr]
theorem dEq_wt (s:Nat)(a b:Nat->Int):dEq (.tup (wI s a)) (.tup (wI s b))=some (.bl (eqW s a b)):=by
 have p1:Pl 1 (.tup (wI s a)):=znb (pl_w fun c=>zkF 0 _);have p2:Pl 1 (.tup (wI s b)):=znb (pl_w fun c=>zkF 0 _);unfold dEq;rw[p1.1,p2.1,qa7 (qak p1.2 (by decide:1<=50))];simp only[Bool.and_self,if_true,eqB];rw[zoK,zoK,zlH];rfl
theorem dNe_wt (s:Nat)(a b:Nat->Int):dNe (.tup (wI s a)) (.tup (wI s b))=some (.bl (!eqW s a b)):=by
 have p1:Pl 1 (.tup (wI s a)):=znb (pl_w fun c=>zkF 0 _);have p2:Pl 1 (.tup (wI s b)):=znb (pl_w fun c=>zkF 0 _);unfold dNe;rw[p1.1,p2.1,qa7 (qak p1.2 (by decide:1<=50))];simp only[Bool.and_self,if_true,eqB];rw[zoK,zoK,zlH];rfl
theorem eqW_iff {s:Nat}{a b:Nat->Int}:eqW s a b=true↔∀i,i<s->a i=b i:=by
 unfold eqW;rw[qbL]
 constructor
 ·intro h i hi;have:=congrArg (fun l=>l[i]?) h;simpa[hi]using this
 ·intro h;exact qci fun i hi=>h i (qaj.mp hi)
theorem zd3 (n:Nat)(b:Nat->Bool):zfj (wL n fun i=> .bl (b i))=some ((List.range n).map b):=by
 have:∀l:List Nat,zfj (l.map fun i=>D.bl (b i))=some (l.map b):=by
  intro l
  induction l with
  |nil=>rfl
  |cons a l ih=>simp[zfj,ih]
 exact this _
theorem zpT (n:Nat)(b:Nat->Bool):(((List.range n).map b).all id=true)↔∀i,i<n->b i=true:=by simp
theorem any_w (n:Nat)(b:Nat->Bool):(((List.range n).map b).any id=true)↔∃i,i<n/\b i=true:=by simp
theorem zeG {j n m i:Nat}(hm:0<m):i<cntS (j:Int) (n:Int) (m:Int)↔j+i*m<n:=by
 unfold cntS
 by_cases h:(j:Int)<(n:Int)
 ·rw[if_pos h];have e:((n:Int)-(j:Int)-1)/(m:Int)=(((n-j-1)/m:Nat):Int):=by
   rw[Int.natCast_ediv];congr 1;lia
  have e2:∀q:Nat,((q:Int)+1).toNat=q+1:=fun q=>by lia
  rw[e,e2,Nat.lt_succ_iff,qcu hm];lia
 ·rw[if_neg h]
  constructor
  ·intro h;lia
  ·intro h;lia
theorem zrb {α β:Type}{h:α->Option β}{g:α->β}:∀(l:List α),(∀a∈l,h a=some (g a))->l.filterMap h=l.map g
 |[],_=>rfl
 |a::l,e=>by rw[qal,e a qam,qbj,zrb l fun b hb=>e b (qan _ hb)]
theorem zow {n j m:Nat}(f:Nat->D)(hm:0<m)(hj:j<n):zeT (wL n f) (some (j:Int)) none (some (m:Int))=wL (cntS (j:Int) (n:Int) (m:Int)) fun i=>f (j+i*m):=by
 have hb:sliceBounds (some (j:Int)) none (some (m:Int)) n=((j:Int),(n:Int),(m:Int)):=by
  have:(m:Int)>0:=by lia
  simp[sliceBounds,this];lia
 unfold zeT;rw[zaN,hb];unfold sliceRange;have h1:(m:Int)>0:=by lia
 have h2:(j:Int)<(n:Int):=by lia
 simp only[h1,h2,if_true];have ec:(((n:Int)-(j:Int)+(m:Int)-1)/(m:Int)).toNat=cntS (j:Int) (n:Int) (m:Int):=by
  unfold cntS;rw[if_pos h2,show((n:Int)-(j:Int)+(m:Int)-1)=((n:Int)-(j:Int)-1)+(m:Int) by lia,Int.add_ediv_of_dvd_right (Int.dvd_refl _),Int.ediv_self (by lia)]
 rw[ec];rw[List.filterMap_map];apply zrb;intro i hi;have hi:j+i*m<n:=(zeG hm).mp (qaj.mp hi);have ht:((j:Int)+(m:Int)*(i:Int)).toNat=j+i*m:=by
  rw[show((j:Int)+(m:Int)*(i:Int))=((j+i*m:Nat):Int) by push_cast;rw[Int.mul_comm]];lia
 simp only[qcr,ht];exact zas f hi
noncomputable def sumR:Nat->(Nat->Int)->Int
 |0,_=>0
 |n+1,f=>sumR n f+f n
theorem zar {f g:Nat->Int}:∀{n:Nat},(∀i,i<n->f i=g i)->sumR n f=sumR n g
 |0,_=>rfl
 |n+1,h=>by rw[sumR,sumR,zar fun i hi=>h i (by lia),h n (by lia)]
theorem zjv (f g:Nat->Int):∀n,sumR n (fun i=>f i+g i)=sumR n f+sumR n g
 |0=>rfl
 |n+1=>by simp only[sumR,zjv f g n];lia
theorem zo5 (f g:Nat->Int):∀n,sumR n (fun i=>f i-g i)=sumR n f-sumR n g
 |0=>rfl
 |n+1=>by simp only[sumR,zo5 f g n];lia
theorem zka:∀n,sumR n (fun _=>0)=0
 |0=>rfl
 |n+1=>by simp only[sumR,zka n];lia
theorem zjD (a:Int)(f:Nat->Int):∀n,sumR n (fun i=>a*f i)=a*sumR n f
 |0=>by simp[sumR]
 |n+1=>by simp only[sumR,zjD a f n,Int.mul_add]
theorem zfq {f g:Nat->Int}:∀{n:Nat},(∀i,i<n->f i<=g i)->sumR n f<=sumR n g
 |0,_=>qcv _
 |n+1,h=>by
  have h1:=zfq (n:=n) fun i hi=>h i (by lia)
  have h2:=h n (by lia);simp only[sumR];lia
theorem za7 (f:Nat->Int)(a:Nat):∀b,sumR (a+b) f=sumR a f+sumR b fun i=>f (a+i)
 |0=>by simp[sumR]
 |b+1=>by rw[show a+(b+1)=a+b+1 by lia,sumR,sumR,za7 f a b];lia
theorem zdT (f:Nat->Int):∀n,((List.range n).map f).sum=sumR n f
 |0=>rfl
 |n+1=>by simp[List.range_succ,zdT f n,sumR]
theorem zdO (n:Nat)(f:Nat->Int):zbw (wI n f)=some ((List.range n).map f):=by
 have:wI n f=((List.range n).map f).map .int:=by simp[wL,qch,qcr]
 rw[this,zcN]
theorem cut_w {n a b:Nat}(f:Nat->D)(h:a+b<=n):cutD (wL n f) (some (a:Int)) (some ((a:Int)+(b:Int)))=wL b fun i=>f (a+i):=by
 have e:cutD (wL n f) (some (a:Int)) (some ((a:Int)+(b:Int)))=((wL n f).drop a).take b:=by
  unfold cutD;rw[HT.zlC,show((a:Int)+(b:Int))=((a+b:Nat):Int) by lia,HT.zlC,zaN];rw[qct h,qct (by lia:a<=n),Nat.add_sub_cancel_left]
 rw[e];apply qcs;intro j
 by_cases hj:j<b
 ·rw[qa0 hj,qcw,zas _ (by lia),zas _ hj]
 ·rw[qbU (by simp[zaN];lia),qbU (by rw[zaN];lia)]
theorem zgU (v:Nat->Int):∀n i,i<=n->v i<=v (argBest (fun i j=>decide (v i>v j)) n)
 |0,i,h=>by rw[show i=0 by lia];exact qcv _
 |n+1,i,h=>by
  simp only[argBest]
  by_cases c:v (n+1)>v (argBest (fun i j=>decide (v i>v j)) n)
  ·rw[if_pos (qa7 c)]
   by_cases e:i=n+1
   ·rw[e];exact qcv _
   ·have:=zgU v n i (by lia);lia
  ·rw[if_neg (by simpa using c)]
   by_cases e:i=n+1
   ·rw[e];lia
   ·exact zgU v n i (by lia)
theorem zgk (v:Nat->Int):∀n i,i<=n->v (argBest (fun i j=>decide (v i<v j)) n)<=v i
 |0,i,h=>by rw[show i=0 by lia];exact qcv _
 |n+1,i,h=>by
  simp only[argBest]
  by_cases c:v (n+1)<v (argBest (fun i j=>decide (v i<v j)) n)
  ·rw[if_pos (qa7 c)]
   by_cases e:i=n+1
   ·rw[e];exact qcv _
   ·have:=zgk v n i (by lia);lia
  ·rw[if_neg (by simpa using c)]
   by_cases e:i=n+1
   ·rw[e];lia
   ·exact zgk v n i (by lia)
theorem zo3 (g:Nat->Int){c i:Nat}(h:i<c):((List.range c).map g).getD i 0=g i:=by
 rw[qcq];simp[h]
theorem max_w (g:Nat->Int){c:Nat}(hc:0<c):∃v,zfs [.lst (wI c g)]=some (.int v)/\(∃i,i<c/\g i=v)/\∀i,i<c->g i<=v:=by
 have hne:(List.range c).map g≠[]:=fun h=>by have:=congrArg List.length h;simp at this;lia
 have e1:wI c g=((List.range c).map g).map .int:=by simp[wL,qch,qcr]
 refine⟨_,by rw[e1];exact zkK _ hne,?_,?_⟩
 ·obtain⟨i,hi,e⟩:=qbS.mp (zmN (fun i j=>decide (i>j)) hne);exact⟨i,qaj.mp hi,e⟩
 ·intro i hi;have:=zgU (fun i=>((List.range c).map g).getD i 0) (c-1) i (by lia);rw[zo3 g hi]at this;unfold zkj;rw[qa3,qcn];exact this
theorem min_w (g:Nat->Int){c:Nat}(hc:0<c):∃v,zjr [.lst (wI c g)]=some (.int v)/\(∃i,i<c/\g i=v)/\∀i,i<c->v<=g i:=by
 have hne:(List.range c).map g≠[]:=fun h=>by have:=congrArg List.length h;simp at this;lia
 have e1:wI c g=((List.range c).map g).map .int:=by simp[wL,qch,qcr]
 refine⟨_,by rw[e1];exact zkK _ hne,?_,?_⟩
 ·obtain⟨i,hi,e⟩:=qbS.mp (zmN (fun i j=>decide (i<j)) hne);exact⟨i,qaj.mp hi,e⟩
 ·intro i hi;have:=zgk (fun i=>((List.range c).map g).getD i 0) (c-1) i (by lia);rw[zo3 g hi]at this;unfold zkj;rw[qa3,qcn];exact this
theorem max_pick (f:Nat->Int){n m j:Nat}(hm:0<m)(hj:j<m)(hn:m<=n):∃v,zfs [.lst (zeT (wI n f) (some (j:Int)) none (some (m:Int)))]=some (.int v)/\(∃p,p<n/\p%m=j/\f p=v)/\∀p,p<n->p%m=j->f p<=v:=by
 rw[wI,zow _ hm (by lia)];obtain⟨v,e,⟨i,hi,ei⟩,h⟩:=max_w (fun i=>f (j+i*m)) (c:=cntS (j:Int) (n:Int) (m:Int)) ((zeG hm).mpr (by lia));refine⟨v,e,⟨j+i*m,(zeG hm).mp hi,by rw[qcx,qcy hj],ei⟩,fun p hp hpm=>?_⟩;have e2:j+p/m*m=p:=by have:=Nat.mod_add_div p m;rw[Nat.mul_comm];lia
 have:=h (p/m) ((zeG hm).mpr (by lia));rw[e2]at this;exact this
theorem min_pick (f:Nat->Int){n m j:Nat}(hm:0<m)(hj:j<m)(hn:m<=n):∃v,zjr [.lst (zeT (wI n f) (some (j:Int)) none (some (m:Int)))]=some (.int v)/\(∃p,p<n/\p%m=j/\f p=v)/\∀p,p<n->p%m=j->v<=f p:=by
 rw[wI,zow _ hm (by lia)];obtain⟨v,e,⟨i,hi,ei⟩,h⟩:=min_w (fun i=>f (j+i*m)) (c:=cntS (j:Int) (n:Int) (m:Int)) ((zeG hm).mpr (by lia));refine⟨v,e,⟨j+i*m,(zeG hm).mp hi,by rw[qcx,qcy hj],ei⟩,fun p hp hpm=>?_⟩;have e2:j+p/m*m=p:=by have:=Nat.mod_add_div p m;rw[Nat.mul_comm];lia
 have:=h (p/m) ((zeG hm).mpr (by lia));rw[e2]at this;exact this
end M
namespace M
open L2 PySem
open PyProof.Rows (step_dedup firstMet)
theorem ok_eIsO {tab:List (Str×Bool)}{ma:ME}{ρ:R}{Q:D×R->Prop}:Ok (eIsO tab ma ρ) Q=Ok ((ma ρ).bind fun p=>match p.1 with
 | .exc c=>(tab.lookup c).map fun b=>(.bl b,p.2)
 |_=>none) Q:=rfl
theorem zkV {m:MS}{x:MX}{ok:List Str}{i j:Nat}{ρ:R}{Q:Fl×R->Prop}{c:Str}(hx:x ρ=some c)(hn:zen ρ=true)(hc:ok.contains c=true)(h:Q (.next,(ρ.set i (.val (.exc c))).set j .emp)):Ok (sTry m x ok i j ρ) Q:=by
 unfold sTry;rw[hx];dsimp only;rw[if_pos hn,if_pos hc];exact ok_some.mpr h
theorem zqU {c:MT}{a:MX}{ρ:R}{r:Str}(h:Ok (c ρ) fun p=>p.1=true/\a p.2=some r):xIf c a ρ=some r:=by
 obtain⟨p,e,h1,h2⟩:=h;unfold xIf;rw[e];show(if p.1=true then a p.2 else none)=_;rw[if_pos h1,h2]
theorem zoL {F:List D->Option Str}{ma:MA}{ρ:R}{r:Option Str}(h:Ok (ma ρ) fun p=>F p.1=r):zqn F ma ρ=r:=by
 obtain⟨p,e,h1⟩:=h;unfold zqn;rw[e];exact h1
end M
namespace M
open L2 PySem
variable {Q:Fl×R->Prop} {j N i:Nat} {d:D} {m:MS} {F:List D->T->List D->Option (Sl×List D)} {mo:MO} {ma:MA} {is:List Nat} {ds:List D} {g:D->R->Option R} {mt:MT} {me:ME}
theorem zjG {mc:MT}{mb:MS}(I:Nat->R->Prop)(turn:∀m ρ,I m ρ->Ok (mc ρ) fun p=>(p.1=true->∃m',m=m'+1/\Ok (mb p.2) fun q=>q.1= .next/\I m' q.2)/\(p.1=false->Q (.next,p.2))):∀(fuel m:Nat) (ρ:R),m<fuel->I m ρ->Ok (zhz mc mb fuel ρ) Q
 |0,m,ρ,h,_=>by lia
 |n+1,m,ρ,h,hI=>by
  obtain⟨⟨b,ρ1⟩,e,h1,h2⟩:=turn m ρ hI;unfold zhz;rw[e];cases b with
  |false=>exact ok_some.mpr (h2 rfl)
  |true=>
   obtain⟨m',rfl,⟨f,ρ2⟩,e2,ef,hI2⟩:=h1 rfl;show Ok ((mb ρ1).bind _) Q;rw[e2];cases(show f= .next from ef);exact zjG I turn n m' ρ2 (by lia) hI2
theorem ok_gS {mi:ME}{ρ:R}{Q:R->Prop}:Ok (gS j mi d ρ) Q=Ok (if hasV ρ j then(mi ρ).bind fun q=>match q.1 with
 | .int k=>q.2[j]?.bind fun s=>s.items.bind fun ds=>(ixN ds.length k).bind fun n=>some (q.2.set j (s.put (ds.set n d)))
 |_=>none else none) Q:=rfl
theorem like_par (ns:List Int):likeS (.par (ns.map .int)) (.par (ns.map .int))=true:=by
 show(match zbw (ns.map D.int),zbw (ns.map D.int)with
  |some a,some b=>a==b
  |_,_=>false)=true
 rw[zcN];exact beq_self_eq_true ns
section
variable {j:Nat} {mk me:ME} {ρ:R}
theorem ok_tDI {neg:Bool}{Q:Bool×R->Prop}:Ok (tDI j neg mk ρ) Q↔Ok (mk ρ) fun p=>Ok (match p.1 with
 | .int k=>(p.2[j]?.bind Sl.dic).map fun q=>(((lkD q.1 q.2 k).isSome !=neg),p.2)
 |_=>none) Q:=ok_bind
theorem ok_eDG {Q:D×R->Prop}:Ok (eDG j mk ρ) Q=Ok (if(ρ[j]?.bind Sl.dic).isSome then(mk ρ).bind fun p=>match p.1 with
 | .int k=>(p.2[j]?.bind Sl.dic).bind fun q=>(lkD q.1 q.2 k).map fun d=>(d,p.2)
 |_=>none else none) Q:=rfl
theorem ok_sDP:Ok (sDP j mk me ρ) Q=Ok ((me ρ).bind fun p=>if(p.2[j]?.bind Sl.dic).isSome then(mk p.2).bind fun q=>match q.1 with
 | .int k=>q.2[j]?.bind fun s=>match s.tree with
  |some (.dic ks ds)=>if ks.length<16777216 then some (.next,q.2.set j (s.putT (.dic (ptD ks ds k p.1).1 (ptD ks ds k p.1).2)))else none
  |_=>none
 |_=>none else none) Q:=rfl
theorem ok_sDN:Ok (sDN j ρ) Q↔Q (.next,ρ.set j (.tre (.dic [] []))):=ok_some
theorem ok_sFzD:Ok (sFzD j m ρ) Q=Ok (m (fzD j ρ)) Q:=rfl
theorem ok_eCallMO {F:List D->List D->Option (Sl×List D)}{Q:D×R->Prop}:Ok (eCallMO F mo ma ρ) Q=Ok ((mo ρ).bind fun p=>(ma p.2).bind fun q=>(F p.1 q.1).bind fun r=>match r.1 with
 | .val d=>some (d,q.2)
 | .own ds=>some (.lst ds,q.2)
 |_=>none) Q:=rfl
theorem zpo {mp:MP'}{Q:D×R->Prop}:Ok (zln F j mp ma ρ) Q=Ok (if(ρ[j]?.bind Sl.items).isSome then(mp ρ).bind fun c=>if c.1.length<=16777216 then(ma c.2).bind fun p=>p.2[j]?.bind fun s=>s.items.bind fun cs=>(F cs (.lst c.1) p.1).bind fun r=>match r.1 with
 | .val d=>some (d,p.2.set j (s.put r.2))
 | .own ds=>some (.lst ds,p.2.set j (s.put r.2))
 |_=>none else none else none) Q:=rfl
theorem ok_sUnT:Ok (sUnT j is ρ) Q=Ok (match ρ[j]? with
 |some (.tre (.lst cs))=>if cs.length=is.length then some (.next,zrR is cs (ρ.set j .emp))else none
 |_=>none) Q:=rfl
theorem ok_cNil {Q:List Ch×R->Prop}:Ok (cNil ρ) Q↔Q ([],ρ):=ok_some
theorem ok_cVal {r:MP'}{Q:List Ch×R->Prop}:Ok (cVal me r ρ) Q↔Ok (me ρ) fun p=>Ok (r p.2) fun q=>Q (.d p.1::q.1,q.2):=ok_bind.trans (za0 fun _=>ok_map)
theorem ok_cOwn {r:MP'}{Q:List Ch×R->Prop}:Ok (cOwn j r ρ) Q=Ok (match ρ[j]? with
 |some (.own ds)=>(r (ρ.set j .emp)).map fun q=>(.l ds::q.1,q.2)
 |_=>none) Q:=rfl
theorem ok_fMT {cs:List D}{t:T}{Q:Sl×List D->Prop}:Ok (fMT N m cs t ds) Q=Ok ((m (.par cs:: .tre t::(ds.map .val++List.replicate (N-(ds.length+2)) .emp))).bind fun p=>match p.1,(p.2[0]?:Option Sl)with
 |Fl.ret r,some (Sl.par out)=>some (r,out)
 |Fl.next,some (Sl.par out)=>some (.val .non,out)
 |_,_=>none) Q:=rfl
theorem ok_sPar:Ok (sPar i j ma ρ) Q=Ok ((ma ρ).bind fun p=>match p.1 with
 |[c,d]=>some (.next,(p.2.set i (.val c)).set j (.val d))
 |_=>none) Q:=rfl
theorem ok_turnT {Q:Option (List D)×R->Prop}:Ok (turnT g mt mo d ρ) Q↔Ok (g d ρ) fun ρ1=>Ok (mt ρ1) fun p=>(p.1=true->Ok (mo p.2) fun q=>zen q.2=true/\Q (some q.1,q.2))/\(p.1=false->zen p.2=true/\Q (none,p.2)):=by
 unfold turnT;rw[ok_bind];exact za0 fun ρ1=>by rw[ok_bind];exact za0 fun p=>by rw[zm5,ok_bind,zfX,ok_some];exact and_congr (imp_congr Iff.rfl (za0 fun q=>by rw[zfX,ok_some])) Iff.rfl
theorem ok_sIns:Ok (sIns j ma ρ) Q=Ok (if(ρ[j]?.bind Sl.items).isSome then(ma ρ).bind fun p=>p.2[j]?.bind fun s=>s.items.bind fun ds=>match p.1 with
 |[.int k,d]=>if 0<=k/\k<=ds.length/\ds.length<16777216 then some (.next,p.2.set j (s.put (ds.take k.toNat++d::ds.drop k.toNat)))else none
 |_=>none else none) Q:=rfl
theorem ok_turnQ {b c:Nat}{Q:Option D×R->Prop}:Ok (turnQ b c g mt me d ρ) Q↔Ok (g d ρ) fun ρ1=>Ok (mt ρ1) fun p=>(p.1=true->Ok (me p.2) fun q=>zrw b c q.2=true/\Q (some q.1,q.2))/\(p.1=false->zrw b c p.2=true/\Q (none,p.2)):=by
 unfold turnQ;rw[ok_bind];exact za0 fun ρ1=>by rw[ok_bind];exact za0 fun p=>by rw[zm5,ok_bind,zfX,ok_some];exact and_congr (imp_congr Iff.rfl (za0 fun q=>by rw[zfX,ok_some])) Iff.rfl
theorem ok_ePop {Q:D×R->Prop}:Ok (ePop j me ρ) Q=Ok (if(ρ[j]?.bind Sl.items).isSome then(me ρ).bind fun p=>match p.1 with
 | .int i=>p.2[j]?.bind fun s=>s.items.bind fun ds=>if 0<=i/\i<ds.length/\ds.length<=16777216 then(ds[i.toNat]?).map fun d=>(d,p.2.set j (s.put (ds.eraseIdx i.toNat)))else none
 |_=>none else none) Q:=rfl
end
end M
local macro_rules | `(tactic| simp! only [$ls,*]) => `(tactic| simp only [↓M.ok_sIf, ↓M.ok_eIf, ↓M.ok_tAnd, ↓M.ok_tOr, ↓M.ok_eAnd, ↓M.ok_eOr, ↓M.ok_chain, ↓M.ok_turnM, ↓M.ok_turnP, ↓M.ok_turnQ, ↓M.ok_bind, ↓M.ok_map, ↓M.zfX, ↓M.ok_some, ↓M.ok_sNext, ↓M.ok_sSeq, ↓M.ok_sExpr, ↓M.ok_sRet, ↓M.ok_sRetO, ↓M.ok_sRetV, ↓M.ok_gN, ↓M.ok_gsNil, ↓M.zqF, ↓M.ok_gT, ↓M.ok_sAsg, ↓M.ok_sSet, ↓M.ok_sSetO, ↓M.ok_sApp, ↓M.ok_sPut, ↓M.ok_eC, ↓M.ok_eVar, ↓M.ok_aNil, ↓M.ok_aCons, ↓M.ok_m2, ↓M.ok_m1, ↓M.ok_mC, ↓M.ok_eIxV, ↓M.ok_eLenV, ↓M.ok_oC, ↓M.ok_eTup, ↓M.ok_oLst, ↓M.ok_tTru, ↓M.ok_tNotM, ↓M.ok_eCall, ↓M.ok_oCall, ↓M.zpV, ↓M.ok_eFz, ↓M.ok_eCut, ↓M.ok_pNo, ↓M.ok_pSome, ↓M.ok_iSeq, ↓M.ok_iR1, ↓M.ok_iR2, ↓M.ok_sFor, ↓M.ok_oLC, ↓M.ok_tTrue, ↓M.ok_eIsI, ↓M.ok_fP, ↓M.ok_fM, ↓M.ok_sAugI, ↓M.ok_eCutS, ↓M.ok_iR3, ↓M.ok_oRep, ↓M.ok_iZ2, ↓M.ok_iZ3, ↓M.ok_iEn, ↓M.ok_oLCM, ↓M.ok_eIsO, ↓M.ok_tDI, ↓M.ok_eDG, ↓M.ok_sDP, ↓M.ok_sDN, ↓M.ok_sFzD, ↓M.zpo, ↓M.ok_sUnT, ↓M.ok_cNil, ↓M.ok_cVal, ↓M.ok_cOwn, ↓M.ok_fMT, ↓M.ok_sPar, ↓M.ok_turnT, ↓M.ok_sIns, ↓M.ok_ePop, M.dI2, M.dSub, M.dDiv, M.dMod, M.dPow, M.dLt, M.dLe, M.dGt, M.dGe, M.dNeg, M.dMul, M.dAdd, M.dTru, M.dNot, M.Sl.read, M.Sl.items, M.Sl.put, M.hasV, M.zen, M.fz1, M.fzL, M.capS, M.capR, M.eIsI.noS1, M.okT, M.isI, M.d2I, M.dSum, M.dAll, M.zfs, M.zjr, M.dIsN, M.znx, M.znG, M.zrX, M.fzD, M.zrR, M.Ch.sl, M.Sl.dic, M.Sl.dit, M.Sl.tree, M.Sl.putT, M.Sl.dit, M.fzT, M.Ch.D, M.fzDT, M.fzU, M.rowsOf, M.zrw, M.zrV, M.seqK_ret, M.seqK_brk, M.zrM, M.zq9, M.zpN, M.turn_brk, M.turn_ret, List.getElem?_cons_zero, List.getElem?_cons_succ, List.set_cons_zero, List.set_cons_succ, Option.bind_some, Option.isSome_some, Option.map_some, if_true, List.map_cons, List.map_nil, List.replicate_succ, List.replicate_zero, List.length_cons, List.length_nil, List.cons_append, List.nil_append, List.all_cons, List.all_nil, Bool.and_true, Bool.true_and, Bool.and_self, Bool.true_eq_false, Bool.false_eq_true, if_false, M.dEq_int, M.dNe_int, List.length_map, List.length_append, M.atI_n, M.atI_lit, M.ixN_n, M.ixN_lit, M.atI_n1, M.ok_none, M.dItems_l, M.dItems_t, M.dItems_s, M.dLen_l, M.dLen_t, M.dLen_s, M.dTuple_l, M.dTuple_t, M.dTuple_s, M.dCut_l, M.dCut_t, M.dCut_s, M.dIx_l, M.dIx_t, M.dIx_s, M.dEq_str, M.zip3D_w, M.isN_non, M.isN_int, M.isN_bl, M.isN_str, M.isN_lst, M.isN_tup, M.zcN, Int.toNat_natCast, M.rangeD_w, M.zaN, decide_eq_true_eq, Bool.and_eq_true, true_and, and_true, Nat.reduceAdd, Nat.reduceLeDiff, Int.reduceLT, Int.reduceLE, Int.reduceNeg, Nat.reduceSub, Int.reducePow, Int.reduceMul, Int.reduceAdd, Int.reduceSub, Int.reduceMod, Int.reduceDiv, Nat.reduceLT, Nat.reduceBNe, Nat.reduceEqDiff, List.filter_cons, List.filter_nil, bne_self_eq_false, Int.reduceToNat, Nat.reducePow, M.zpj, Int.reduceEq, Int.reduceBEq, Int.reduceBNe, Nat.reduceMod, decide_true, decide_false, beq_iff_eq, beq_eq_false_iff_ne, bne_iff_ne, bne_eq_false_iff_eq, decide_eq_false_iff_not, Int.not_le, Int.not_lt, ne_eq, forall_const, true_implies, false_implies, reduceCtorEq, imp_self, implies_true, M.D.bl.injEq, exists_eq_left', Bool.not_true, Bool.not_false, $ls,*])
namespace Prf
open L2 M PySem
noncomputable def top (i:Nat):Stmt:=PySem.Challenge.pw_tellsum_k32_rows_of_rings_numbered.main.body.getD i (.Pass ⟨0,0,0,0⟩)
noncomputable def zcU:List (Str×Bool):=[("NoNumber",false),("NoFit",false)]
noncomputable def zh6:List (Str×Bool):=[("NoNumber",false),("NoFit",true)]
noncomputable def zeA:List (Str×Bool):=[("NoNumber",true),("NoFit",false)]
noncomputable def zha:List (Str×Bool):=[("NoNumber",false),("NoFit",false)]
noncomputable def zfv:List (Str×Bool):=[("NoNumber",false),("NoFit",false)]
noncomputable def ziP:List (Str×Bool):=[("NoNumber",false),("NoFit",false)]
noncomputable def zg4:List (Str×Bool):=[("NoNumber",false),("NoFit",false)]
noncomputable def zfw:List (Str×Bool):=[("NoNumber",false),("NoFit",false)]
noncomputable def zew:List (Str×Bool):=[("NoNumber",true),("NoFit",true)]
noncomputable def zg2:List (Str×Bool):=[("NoNumber",false),("NoFit",false)]
noncomputable def zcW:List (Str×Bool):=[("NoNumber",true),("NoFit",true)]
structure BN (K:W.Frag) (mg:Str->Option Value):Prop where
 r_NoNumber:RaiOk K mg "NoNumber"
 r_NoFit:RaiOk K mg "NoFit"
 t_SumError:CatOk K mg "SumError" ["NoNumber","NoFit"]
 i_BadTelling:IsOk K mg "BadTelling" zcU
 i_NoFit:IsOk K mg "NoFit" zh6
 i_NoNumber:IsOk K mg "NoNumber" zeA
 i_NoPast:IsOk K mg "NoPast" zha
 i_NoPlace:IsOk K mg "NoPlace" zfv
 i_NoRow:IsOk K mg "NoRow" ziP
 i_NoText:IsOk K mg "NoText" zg4
 i_NotTwos:IsOk K mg "NotTwos" zfw
 i_SumError:IsOk K mg "SumError" zew
 i_Unlike:IsOk K mg "Unlike" zg2
 i_ValueError:zpS K (.type "ValueError") zcW
 ValueError':mg "ValueError"=none
 all':mg "all"=none
 any':mg "any"=none
 bool':mg "bool"=none
 enumerate':mg "enumerate"=none
 int':mg "int"=none
 isinstance':mg "isinstance"=none
 len':mg "len"=none
 list':mg "list"=none
 max':mg "max"=none
 min':mg "min"=none
 range':mg "range"=none
 sorted':mg "sorted"=none
 sum':mg "sum"=none
 tuple':mg "tuple"=none
 zip':mg "zip"=none
section
variable {P:Program} {w:World} {K:W.Frag} {mg:Str->Option Value} {base hp:Heap} {f:Addr} {fd:FuncData} (X:K.In hp) (G:hp.Ns mainGlobals mg) (bn:BN K mg)
include X G bn
abbrev ziO:Stmt:=top 12
def zgm:ME:=
 (m2 dSub (eVar 0) (eVar 1))
def zgN:MO:=
 oLC [] 2 (iZ2 (zaf (eVar 0) (zaf (eVar 1) aNil))) (gT 2 (zaY (gN 0) (zaY (gN 1) zhk))) zcx zgm
def zgD:MS:=
 (zlv zgN)
def zbH:List D->Option Sl:=fP 2 zgD
theorem zlX (h:FnAt K "less_mores" ziO):FD P w K mg base 1 "less_mores" (spP K 2 zbH):=
 fdP (N:=["bounds","mores"]) (k:=0) (m:=zgD) X G h fun _ _ _ _ _ _ _ hr nd=>(zaj (zhN (zfG [] 2 ["bound","more"] rfl (zoG bn.zip' (zaa (zab 0) (zaa (zab 1) zag))) (fun C s H fp=>(zez rfl (zax (zam 0 ndk) (zax (zam 1 ndk) zcw)))) (fun C s H fp=>zaS) (fun C s H fp=>(zbJ (zab 0) (zab 1))))))
abbrev zh7:Stmt:=top 13
def zgv:ME:=
 (eTup (zaf (mC zfs (zaf (eCutS (eVar 0) (zf1 (eVar 3)) pNo (zf1 (eVar 1))) aNil)) (zaf (mC zjr (zaf (eCutS (eVar 2) (zf1 (eVar 3)) pNo (zf1 (eVar 1))) aNil)) aNil)))
def zfY:MO:=
 oLC [0,2,1] 1 (iR1 (zaf (eVar 2) aNil)) (gN 3) zcx zgv
def zgL:MS:=
 (zlv zfY)
def zcZ:List D->Option Sl:=fP 3 zgL
theorem zlW (h:FnAt K "head_spans" zh7):FD P w K mg base 1 "head_spans" (spP K 3 zcZ):=
 fdP (N:=["lows","highs","many"]) (k:=0) (m:=zgL) X G h fun _ _ _ _ _ _ _ hr nd=>(zaj (zhN (zfG [0,2,1] 1 ["lows","many","highs","j"] rfl (zaP bn.range' (zaa (zab 2) zag)) (fun C s H fp=>(zam 3 ndk)) (fun C s H fp=>zaS) (fun C s H fp=>(zbV (zaa (zjV rfl bn.max' (zaa (zrJ (zab 0) (zb5 (zab 3)) zjI (zb5 (zab 1))) zag)) (zaa (znv rfl bn.min' (zaa (zrJ (zab 2) (zb5 (zab 3)) zjI (zb5 (zab 1))) zag)) zag)))))))
abbrev zgn:Stmt:=top 14
def zfg:ME:=
 (m2 dAdd (eIxV 0 (m2 dMod (eVar 2) (eVar 1))) (eVar 3))
def ze2:MO:=
 oLC [0,2] 2 (iEn (zaf (eVar 1) aNil)) (gT 2 (zaY (gN 2) (zaY (gN 3) zhk))) zcx zfg
def zeU:MS:=
 (sSeq (sSet 2 (zcY 0))
  (sRet (mC zcG (zaf (eFz ze2) aNil))))
def zbW:List D->Option Sl:=fP 3 zeU
theorem zkc (h:FnAt K "row_by_heads" zgn):FD P w K mg base 1 "row_by_heads" (spP K 2 zbW):=
 fdP (N:=["heads","mores","many"]) (k:=0) (m:=zeU) X G h fun _ _ _ _ _ _ _ hr nd=>(zad (zap 2 (za8 0 bn.len') nd)
  (zaj (zaI (zcX bn.tuple' (zaa (SO.se (zfG [0,2] 2 ["heads","many","place","more"] rfl (zma bn.enumerate' (zaa (zab 1) zag)) (fun C s H fp=>(zez rfl (zax (zam 2 ndk) (zax (zam 3 ndk) zcw)))) (fun C s H fp=>zaS) (fun C s H fp=>(zaM (zak 0 (zbU (zab 2) (zab 1))) (zab 3))))) zag)))))
abbrev zjg:Stmt:=top 15
def zhn:MS:=
 (sSet 2 (m2 dDiv (m2 dMul (eVar 2) (m2 dAdd (eVar 0) (eVar 3))) (eVar 3)))
def zhm:MS:=
 sFor (iR2 (zaf (eC (.int 1)) (zaf (eVar 1) aNil))) (gN 3) zhn
def zhR:MS:=
 (sSeq (sSet 2 (eC (.int 1)))
  (sSeq zhm
  (zij 2)))
def zer:List D->Option Sl:=fP 4 zhR
theorem zmm (h:FnAt K "part_ways" zjg):FD P w K mg base 1 "part_ways" (spP K 2 zer):=
 fdP (N:=["number","parts","ways","step"]) (k:=0) (m:=zhR) X G h fun _ _ _ _ _ _ _ hr nd=>(zad (zap 2 zah nd)
  (zad (zdt qcA rfl (zkb bn.range' (zaa zah (zaa (zab 1) zag))) (zam 3 nd)
  (zaj (zap 2 (zhq (zff (zab 2) (zaM (zab 0) (zab 3))) (zab 3)) nd)))
  (zaj (zd1 2))))
abbrev zh4:Stmt:=top 16
def zgj:ME:=
 (m2 dGt (eVar 0) (eVar 1))
def zgf:MO:=
 oLC [] 2 (iSeq (eVar 0)) (gT 2 (zaY (gN 0) (zaY (gN 1) zhk))) zcx zgj
def zgu:ME:=
 (eVar 0)
def zgG:MO:=
 oLC [] 2 (iSeq (eVar 0)) (gT 2 (zaY (gN 0) (zaY (gN 1) zhk))) zcx zgu
def zgO:ME:=
 (eTup (zaf (m1 dNeg (eVar 1)) (zaf (m2 dSub (eVar 2) (eVar 0)) aNil)))
def zf4:MT:=
 (tTru (m2 dGe (eVar 2) (eVar 0)))
def zgR:MO:=
 oLC [6] 2 (iSeq (eVar 3)) (gT 2 (zaY (gN 1) (zaY (gN 2) zhk))) zf4 zgO
def zgX:MS:=
 (sSeq (sSet 6 (m2 dAdd (m2 dSub (eVar 5) (eVar 4)) (eC (.int 1))))
  (sSet 3 (m2 dAdd (eVar 3) (eFz zgR))))
def zgJ:MS:=
 sFor (iSeq (eVar 0)) (gT 2 (zaY (gN 4) (zaY (gN 5) zhk))) zgX
def zf5:ME:=
 (m2 dMul (eVar 1) (zaB zer (zaf (eVar 2) (zaf (zcY 0) aNil))))
def zgW:MO:=
 oLC [0] 2 (iSeq (eVar 3)) (gT 2 (zaY (gN 1) (zaY (gN 2) zhk))) zcx zf5
def zee:MS:=
 (sSeq (sSet 3 (eFz (oLst (zaf (eTup (zaf (eC (.int 1)) (zaf (eVar 2) aNil))) aNil))))
  (sSeq zgJ
  (sRet (mC dSum (zaf (eFz zgW) aNil)))))
def zgz:MS:=
 (sSeq (sSet 2 (m2 dSub (eVar 1) (mC dSum (zaf (eFz zgG) aNil))))
  (sSeq (sIf (tTru (m2 dLt (eVar 2) (eC (.int 0))))
  (sRet (eC (.int 0)))
  zbM)
  zee))
def zgS:MS:=
 (sSeq (sIf (tTru (mC (dAll fun bs => bs.any id) (zaf (eFz zgf) aNil)))
  (sRet (eC (.int 0)))
  zbM)
  zgz)
def zbF:List D->Option Sl:=fP 7 zgS
theorem zl9 (zgF:FD P w K mg base 1 "part_ways" (spP K 2 zer))(h:FnAt K "heads_many" zh4):FD P w K mg base 2 "heads_many" (spP K 2 zbF):=
 fdP (N:=["spans","total","left","terms","low","high","width"]) (k:=1) (m:=zgS) X G h fun _ _ _ _ _ _ _ hr nd=>(zad (zbD (zbs (se_any rfl bn.any' (zaa (SO.se (zfG [] 2 ["low","high"] rfl (zc3 (zab 0)) (fun C s H fp=>(zez rfl (zax (zam 0 ndk) (zax (zam 1 ndk) zcw)))) (fun C s H fp=>zaS) (fun C s H fp=>(se_gt (zab 0) (zab 1))))) zag)))
  (zaj (zaI zah))
  zaE)
  (zad (zap 2 (zbJ (zab 1) (zkf rfl bn.sum' (zaa (SO.se (zfG [] 2 ["low", "high"] rfl (zc3 (zab 0)) (fun C s H fp => (zez rfl (zax (zam 0 ndk) (zax (zam 1 ndk) zcw)))) (fun C s H fp => zaS) (fun C s H fp => (zab 0)))) zag))) nd)
  (zad (zbD (st_lt (zab 2) zah)
  (zaj (zaI zah))
  zaE)
  (zad (zap 3 (SO.se (zfM (zaa (zbV (zaa zah (zaa (zab 2) zag))) zag))) nd)
  (zad (zdt qcA rfl (zc3 (zab 0)) (zez rfl (zax (zam 4 nd) (zax (zam 5 nd) zcw)))
  (zad (zap 6 (zaM (zbJ (zab 5) (zab 4)) zah) nd)
  (zaj (zap 3 (zaM (zab 3) (SO.se (zfG [6] 2 ["width","sign","rest"] rfl (zc3 (zab 3)) (fun C s H fp=>(zez rfl (zax (zam 1 ndk) (zax (zam 2 ndk) zcw)))) (fun C s H fp=>(zqG (st_ge (zab 2) (zab 0)))) (fun C s H fp=>(zbV (zaa (zj4 (zab 1)) (zaa (zbJ (zab 2) (zab 0)) zag))))))) nd))))
  (zaj (zaI (zkf rfl bn.sum' (zaa (SO.se (zfG [0] 2 ["spans","sign","rest"] rfl (zc3 (zab 3)) (fun C s H fp=>(zez rfl (zax (zam 1 ndk) (zax (zam 2 ndk) zcw)))) (fun C s H fp=>zaS) (fun C s H fp=>(zff (zab 1) (zal zgF hr (zaa (zab 2) (zaa (za8 0 bn.len') zag)) (hlen:=(zac (zac zai)))))))) zag)))))))))
abbrev zhF:Stmt:=top 17
def zfu:MS:=
 (sRet (zaB zbF (zaf (m2 dAdd (eFz (oLst (zaf (eTup (zaf (m2 dIx (eIxV 0 (eC (.int 0))) (eC (.int 0))) (zaf (m2 dSub (eVar 2) (eC (.int 1))) aNil))) aNil))) (eCut (eVar 0) (zf1 (eC (.int 1))) pNo)) (zaf (eVar 1) aNil))))
def za4:List D->Option Sl:=fP 3 zfu
theorem zkw (zbR:FD P w K mg base 2 "heads_many" (spP K 2 zbF))(h:FnAt K "heads_below" zhF):FD P w K mg base 3 "heads_below" (spP K 3 za4):=
 fdP (N:=["spans","total","first"]) (k:=2) (m:=zfu) X G h fun _ _ _ _ _ _ _ hr nd=>(zaj (zaI (zal zbR hr (zaa (zaM (SO.se (zfM (zaa (zbV (zaa (zce (zak 0 zah) zah) (zaa (zbJ (zab 2) zah) zag))) zag))) (zhs (zab 0) (zb5 zah) zjI)) (zaa (zab 1) zag)) (hlen:=(zac (zac zai))))))
abbrev zia:Stmt:=top 18
def zf0:MT:=
 (tTru (m2 dLt (eVar 3) (eVar 4)))
def zgZ:MS:=
 (sSeq (sSet 5 (m2 dDiv (m2 dAdd (m2 dAdd (eVar 3) (eVar 4)) (eC (.int 1))) (eC (.int 2))))
  (sIf (tTru (m2 dGt (zaB za4 (zaf (eVar 0) (zaf (eVar 1) (zaf (eVar 5) aNil)))) (eVar 2)))
  (sSet 4 (m2 dSub (eVar 5) (eC (.int 1))))
  (sSet 3 (eVar 5))))
def zgq:MS:=
 zhz zf0 zgZ 400
def zf9:MS:=
 (sSeq (sSet 3 (m2 dIx (eIxV 0 (eC (.int 0))) (eC (.int 0))))
  (sSeq (sSet 4 (m2 dIx (eIxV 0 (eC (.int 0))) (eC (.int 1))))
  (sSeq zgq
  (zij 3))))
def zc6:List D->Option Sl:=fP 6 zf9
theorem zlu (zaU:FD P w K mg base 3 "heads_below" (spP K 3 za4))(h:FnAt K "first_head" zia):FD P w K mg base 4 "first_head" (spP K 3 zc6):=
 fdP (N:=["spans","total","number","low","high","middle"]) (k:=3) (m:=zf9) X G h fun _ _ _ _ _ _ _ hr nd=>(zad (zap 3 (zce (zak 0 zah) zah) nd)
  (zad (zap 4 (zce (zak 0 zah) zah) nd)
  (zad (zly 400 qcA (st_lt (zab 3) (zab 4))
  (zad (zap 5 (zhq (zaM (zaM (zab 3) (zab 4)) zah) zah) nd)
  (zaj (zbD (zrt (zal zaU hr (zaa (zab 0) (zaa (zab 1) (zaa (zab 5) zag))) (hlen := (zac (zac (zac zai))))) (zab 2))
  (zaj (zap 4 (zbJ (zab 5) zah) nd))
  (zaj (zap 3 (zab 5) nd))))))
  (zaj (zd1 3)))))
abbrev zj0:Stmt:=top 19
def ziE:MS:=
 (sSeq (sSet 7 (zaB zc6 (zaf (eCut (eVar 0) (zf1 (eVar 6)) pNo) (zaf (eVar 4) (zaf (eVar 5) aNil)))))
  (sSeq (zkB 5 (fun i j => i - j) (zaB za4 (zaf (eCut (eVar 0) (zf1 (eVar 6)) pNo) (zaf (eVar 4) (zaf (eVar 7) aNil)))))
  (sSeq (sApp 3 (eVar 7))
  (zkB 4 (fun i j=>i-j) (eVar 7)))))
def ziD:MS:=
 sFor (iR1 (zaf (zcY 0) aNil)) (gN 6) ziE
def ziY:MS:=
 (sSeq (zft 3 (oLst aNil))
  (sSeq (sSet 4 (eVar 1))
  (sSeq (sSet 5 (eVar 2))
  (sSeq ziD
  (zij 3)))))
def ze9:List D->Option Sl:=fP 8 ziY
theorem znP (zfD:FD P w K mg base 4 "first_head" (spP K 3 zc6))(zaU:FD P w K mg base 3 "heads_below" (spP K 3 za4))(h:FnAt K "heads_at" zj0):FD P w K mg base 5 "heads_at" (spP K 3 ze9):=
 fdP (N:=["spans","total","number","heads","left","ahead","j","head"]) (k:=4) (m:=ziY) X G h fun _ _ _ _ _ _ _ hr nd=>(zad (zeL 3 (zfM zag) nd)
  (zad (zap 4 (zab 1) nd)
  (zad (zap 5 (zab 2) nd)
  (zad (zdt qcA rfl (zaP bn.range' (zaa (za8 0 bn.len') zag)) (zam 6 nd)
  (zad (zap 7 (zal zfD hr (zaa (zhs (zab 0) (zb5 (zab 6)) zjI) (zaa (zab 4) (zaa (zab 5) zag))) (hlen := (zac (zac (zac zai))))) nd)
  (zad (zjS 5 (zal zaU hr (zaa (zhs (zab 0) (zb5 (zab 6)) zjI) (zaa (zab 4) (zaa (zab 7) zag))) (hlen := (zac (zac (zac zai))))) nd)
  (zad (zk0 3 (zab 7))
  (zaj (zjS 4 (zab 7) nd))))))
  (zaj (zd1 3))))))
abbrev zfT:Stmt:=top 20
def ze3:MS:=
 (sSeq (zkB 4 (fun i j => i + j) (zaB za4 (zaf (eCut (eVar 0) (zf1 (eVar 5)) pNo) (zaf (eVar 3) (zaf (eIxV 2 (eVar 5)) aNil)))))
  (zkB 3 (fun i j=>i-j) (eIxV 2 (eVar 5))))
def ze5:MS:=
 sFor (iR1 (zaf (zcY 0) aNil)) (gN 5) ze3
def zeQ:MS:=
 (sSeq (sSet 3 (eVar 1))
  (sSeq (sSet 4 (eC (.int 0)))
  (sSeq ze5
  (zij 4))))
def zbX:List D->Option Sl:=fP 6 zeQ
theorem zj2 (zaU:FD P w K mg base 3 "heads_below" (spP K 3 za4))(h:FnAt K "heads_number" zfT):FD P w K mg base 4 "heads_number" (spP K 3 zbX):=
 fdP (N:=["spans","total","heads","left","number","j"]) (k:=3) (m:=zeQ) X G h fun _ _ _ _ _ _ _ hr nd=>(zad (zap 3 (zab 1) nd)
  (zad (zap 4 zah nd)
  (zad (zdt qcA rfl (zaP bn.range' (zaa (za8 0 bn.len') zag)) (zam 5 nd)
  (zad (zmG 4 (zal zaU hr (zaa (zhs (zab 0) (zb5 (zab 5)) zjI) (zaa (zab 3) (zaa (zak 2 (zab 5)) zag))) (hlen := (zac (zac (zac zai))))) nd)
  (zaj (zjS 3 (zak 2 (zab 5)) nd))))
  (zaj (zd1 4)))))
abbrev zji:Stmt:=top 22
def zhH:ME:=
 (mC dSum (zaf (eCut (eVar 0) (zf1 (eVar 2)) (zf1 (m2 dAdd (eVar 2) (eVar 1)))) aNil))
def zhG:MO:=
 oLC [2,1] 1 (iR1 (zaf (zcY 0) aNil)) (gN 2) zcx zhH
def zhU:MS:=
 (sSeq (sSet 2 (m2 dAdd (mC zcG (zaf (eVar 0) aNil)) (mC zcG (zaf (eVar 0) aNil))))
  (sRet (mC zcG (zaf (eFz zhG) aNil))))
def zeq:List D->Option Sl:=fP 3 zhU
theorem zna (h:FnAt K "ring_sums" zji):FD P w K mg base 1 "ring_sums" (spP K 2 zeq):=
 fdP (N:=["row","k","twice"]) (k:=0) (m:=zhU) X G h fun _ _ _ _ _ _ _ hr nd=>(zad (zap 2 (zaM (zcX bn.tuple' (zaa (zab 0) zag)) (zcX bn.tuple' (zaa (zab 0) zag))) nd)
  (zaj (zaI (zcX bn.tuple' (zaa (SO.se (zfG [2,1] 1 ["twice","k","i"] rfl (zaP bn.range' (zaa (za8 0 bn.len') zag)) (fun C s H fp=>(zam 2 ndk)) (fun C s H fp=>zaS) (fun C s H fp=>(zkf rfl bn.sum' (zaa (zhs (zab 0) (zb5 (zab 2)) (zb5 (zaM (zab 2) (zab 1)))) zag))))) zag)))))
abbrev ziF:Stmt:=top 24
def zgI:ME:=
 (zih dLe dLe (eVar 0) (eVar 1) (eVar 2))
def zgw:MO:=
 oLC [] 3 (iZ3 (zaf (eVar 1) (zaf (eVar 0) (zaf (eVar 2) aNil)))) (gT 3 (zaY (gN 0) (zaY (gN 1) (zaY (gN 2) zhk)))) zcx zgI
def zgC:MS:=
 (sRet (mC (dAll fun bs=>bs.all id) (zaf (eFz zgw) aNil)))
def zgr:MS:=
 (sSeq (sIf (tTru (m2 dNe (zcY 0) (zcY 1)))
  (sRet (eC (.bl false)))
  zbM)
  zgC)
def zc0:List D->Option Sl:=fP 3 zgr
theorem zlM (h:FnAt K "row_within" ziF):FD P w K mg base 1 "row_within" (spP K 3 zc0):=
 fdP (N:=["row","least","greatest"]) (k:=0) (m:=zgr) X G h fun _ _ _ _ _ _ _ hr nd=>(zad (zbD (zmW hr.units (za8 0 bn.len') (za8 1 bn.len'))
  (zaj (zaI zjq))
  zaE)
  (zaj (zaI (zm0 rfl bn.all' (zaa (SO.se (zfG [] 3 ["low","number","high"] rfl (it_zip3 bn.zip' (zaa (zab 1) (zaa (zab 0) (zaa (zab 2) zag)))) (fun C s H fp=>(zez rfl (zax (zam 0 ndk) (zax (zam 1 ndk) (zax (zam 2 ndk) zcw))))) (fun C s H fp=>zaS) (fun C s H fp=>(zom zn9 zn9 zey zey (zab 0) (zab 1) (zab 2))))) zag)))))
abbrev zh2:Stmt:=top 25
def zf3:MS:=
 (sRet (eAnd (zaB zc0 (zaf (eVar 1) (zaf (eIxV 0 (eC (.int 2))) (zaf (eIxV 0 (eC (.int 3))) aNil)))) (m2 dEq (zaB zeq (zaf (eVar 1) (zaf (eIxV 0 (eC (.int 0))) aNil))) (eIxV 0 (eC (.int 1))))))
def zbq:List D->Option Sl:=fP 2 zf3
theorem zk9 (zgl:FD P w K mg base 1 "ring_sums" (spP K 2 zeq))(zfI:FD P w K mg base 1 "row_within" (spP K 3 zc0))(h:FnAt K "ring_holds" zh2):FD P w K mg base 2 "ring_holds" (spP K 2 zbq):=
 fdP (N:=["ring","row"]) (k:=1) (m:=zf3) X G h fun _ _ _ _ _ _ _ hr nd=>(zaj (zaI (zmI (zal zfI hr (zaa (zab 1) (zaa (zak 0 zah) (zaa (zak 0 zah) zag))) (hlen:=(zac (zac (zac zai))))) (zmQ (zrH hr.units (zal zgl hr (zaa (zab 1) (zaa (zak 0 zah) zag)) (hlen:=(zac (zac zai)))) (zak 0 zah))))))
abbrev zhu:Stmt:=top 27
def zfQ:ME:=
 (eVar 2)
def zfO:MT:=
 (tAndM (tTru (m2 dEq (m2 dMod (eVar 0) (eVar 2)) (eC (.int 0)))) (tTru (m2 dEq (m2 dMod (eVar 1) (eVar 2)) (eC (.int 0)))))
def zfN:MO:=
 oLC [1,2] 1 (iR2 (zaf (eC (.int 1)) (zaf (m2 dAdd (eVar 1) (eC (.int 1))) aNil))) (gN 2) zfO zfQ
def zfE:MS:=
 (sSeq (sSet 1 (eIxV 0 (eC (.int 0))))
  (sSeq (sSet 2 (mC dLen (zaf (eIxV 0 (eC (.int 1))) aNil)))
  (sRet (mC zfs (zaf (eFz zfN) aNil)))))
def zaD:List D->Option Sl:=fP 3 zfE
theorem zks (h:FnAt K "rounds_many" zhu):FD P w K mg base 1 "rounds_many" (spP K 1 zaD):=
 fdP (N:=["ring","k","many"]) (k:=0) (m:=zfE) X G h fun _ _ _ _ _ _ _ hr nd=>(zad (zap 1 (zak 0 zah) nd)
  (zad (zap 2 (se_len bn.len' (zaa (zak 0 zah) zag)) nd)
  (zaj (zaI (zjV rfl bn.max' (zaa (SO.se (zfG [1,2] 1 ["k","many","divisor"] rfl (zkb bn.range' (zaa zah (zaa (zaM (zab 1) zah) zag))) (fun C s H fp=>(zam 2 ndk)) (fun C s H fp=>(zqG (STw.st (sw_and (ziX hr.units (zbU (zab 0) (zab 2)) zah) (sw_and1 (ziX hr.units (zbU (zab 1) (zab 2)) zah)))))) (fun C s H fp=>(zab 2)))) zag))))))
abbrev ziq:Stmt:=top 28
def zgy:MS:=
 (sSeq (sApp 4 (eTup (zaf (eVar 5) (zaf (eVar 6) aNil))))
  (sSeq (zkB 6 (fun i j => i + j) (m2 dSub (eIxV 2 (m2 dMod (m2 dAdd (eVar 5) (eC (.int 1))) (eVar 3))) (eIxV 2 (eVar 5))))
  (sSet 5 (m2 dMod (m2 dAdd (eVar 5) (eIxV 0 (eC (.int 0)))) (eVar 3)))))
def zgd:MS:=
 sFor (iR1 (zaf (m2 dDiv (eVar 3) (zaB zaD (zaf (eVar 0) aNil))) aNil)) (gN 7) zgy
def zfW:MS:=
 (sSeq (sSet 2 (eIxV 0 (eC (.int 1))))
  (sSeq (sSet 3 (zcY 2))
  (sSeq (zft 4 (oLst aNil))
  (sSeq (sSet 5 (eVar 1))
  (sSeq (sSet 6 (eC (.int 0)))
  (sSeq zgd
  (sSeq (sApp 4 (eTup (zaf (eVar 5) (zaf (eVar 6) aNil))))
  (zij 4))))))))
def zbG:List D->Option Sl:=fP 8 zfW
theorem zk7 (zaw:FD P w K mg base 1 "rounds_many" (spP K 1 zaD))(h:FnAt K "round_walk" ziq):FD P w K mg base 2 "round_walk" (spP K 2 zbG):=
 fdP (N:=["ring","j","sums","many","walk","place","more","step"]) (k:=1) (m:=zfW) X G h fun _ _ _ _ _ _ _ hr nd=>(zad (zap 2 (zak 0 zah) nd)
  (zad (zap 3 (za8 2 bn.len') nd)
  (zad (zeL 4 (zfM zag) nd)
  (zad (zap 5 (zab 1) nd)
  (zad (zap 6 zah nd)
  (zad (zdt qcA rfl (zaP bn.range' (zaa (zhq (zab 3) (zal zaw hr (zaa (zab 0) zag) (hlen := (zac zai)))) zag)) (zam 7 nd)
  (zad (zk0 4 (zbV (zaa (zab 5) (zaa (zab 6) zag))))
  (zad (zmG 6 (zbJ (zak 2 (zbU (zaM (zab 5) zah) (zab 3))) (zak 2 (zab 5))) nd)
  (zaj (zap 5 (zbU (zaM (zab 5) (zak 0 zah)) (zab 3)) nd)))))
  (zad (zk0 4 (zbV (zaa (zab 5) (zaa (zab 6) zag))))
  (zaj (zd1 4)))))))))
abbrev zga:Stmt:=top 29
def zeI:MS:=
 (sRet (m2 dEq (m2 dIx (m2 dIx (zaB zbG (zaf (eVar 0) (zaf (eVar 1) aNil))) (m1 dNeg (eC (.int 1)))) (eC (.int 1))) (eC (.int 0))))
def zbZ:List D->Option Sl:=fP 2 zeI
theorem zj3 (zbQ:FD P w K mg base 2 "round_walk" (spP K 2 zbG))(h:FnAt K "round_closes" zga):FD P w K mg base 3 "round_closes" (spP K 2 zbZ):=
 fdP (N:=["ring","j"]) (k:=2) (m:=zeI) X G h fun _ _ _ _ _ _ _ hr nd=>(zaj (zaI (zrH hr.units (zce (zce (zal zbQ hr (zaa (zab 0) (zaa (zab 1) zag)) (hlen:=(zac (zac zai)))) (zj4 zah)) zah) zah)))
abbrev zid:Stmt:=top 30
def zgB:MS:=
 (sPut 1 (eVar 3) (eVar 4))
def zgs:MS:=
 sFor (iSeq (eCut (zaB zbG (zaf (eVar 0) (zaf (eVar 2) aNil))) pNo (zf1 (m1 dNeg (eC (.int 1)))))) (gT 2 (zaY (gN 3) (zaY (gN 4) zhk))) zgB
def zgH:MS:=
 zgs
def zgM:MS:=
 sFor (iR1 (zaf (zaB zaD (zaf (eVar 0) aNil)) aNil)) (gN 2) zgH
def zgi:MS:=
 (sSeq (zft 1 (oRep (eFz (oLst (zaf (eC (.int 0)) aNil))) (mC dLen (zaf (eIxV 0 (eC (.int 1))) aNil))))
  (sSeq zgM
  (zij 1)))
def zaX:List D->Option Sl:=fP 5 zgi
theorem zl1 (zbQ:FD P w K mg base 2 "round_walk" (spP K 2 zbG))(zaw:FD P w K mg base 1 "rounds_many" (spP K 1 zaD))(h:FnAt K "ring_mores" zid):FD P w K mg base 3 "ring_mores" (spP K 1 zaX):=
 fdP (N:=["ring","mores","j","place","more"]) (k:=2) (m:=zgi) X G h fun _ _ _ _ _ _ _ hr nd=>(zad (zeL 1 (so_rep (SO.se (zfM (zaa zah zag))) (se_len bn.len' (zaa (zak 0 zah) zag))) nd)
  (zad (zdt qcA rfl (zaP bn.range' (zaa (zal zaw hr (zaa (zab 0) zag) (hlen := (zac zai))) zag)) (zam 2 nd)
  (zaj (zdt qcA rfl (zc3 (zhs (zal zbQ hr (zaa (zab 0) (zaa (zab 2) zag)) (hlen := (zac (zac zai)))) zjI (zb5 (zj4 zah)))) (zez rfl (zax (zam 3 nd) (zax (zam 4 nd) zcw)))
  (zaj (ziN 1 (zab 4) (zab 3))))))
  (zaj (zd1 1))))
abbrev ziB:Stmt:=top 31
def zgV:MS:=
 (sRet (m2 dDiv (eIxV 0 (eC (.int 0))) (zaB zaD (zaf (eVar 0) aNil))))
def zbE:List D->Option Sl:=fP 1 zgV
theorem zlz (zaw:FD P w K mg base 1 "rounds_many" (spP K 1 zaD))(h:FnAt K "head_times" ziB):FD P w K mg base 2 "head_times" (spP K 1 zbE):=
 fdP (N:=["ring"]) (k:=1) (m:=zgV) X G h fun _ _ _ _ _ _ _ hr nd=>(zaj (zaI (zhq (zak 0 zah) (zal zaw hr (zaa (zab 0) zag) (hlen:=(zac zai))))))
abbrev zjf:Stmt:=top 32
def zhT:MS:=
 (sRet (m2 dSub (m2 dIx (eIxV 0 (eC (.int 1))) (eC (.int 0))) (mC dSum (zaf (eCut (zaB zaX (zaf (eVar 0) aNil)) pNo (zf1 (eIxV 0 (eC (.int 0))))) aNil))))
def zcc:List D->Option Sl:=fP 1 zhT
theorem zm7 (zaH:FD P w K mg base 3 "ring_mores" (spP K 1 zaX))(h:FnAt K "heads_sum" zjf):FD P w K mg base 4 "heads_sum" (spP K 1 zcc):=
 fdP (N:=["ring"]) (k:=3) (m:=zhT) X G h fun _ _ _ _ _ _ _ hr nd=>(zaj (zaI (zbJ (zce (zak 0 zah) zah) (zkf rfl bn.sum' (zaa (zhs (zal zaH hr (zaa (zab 0) zag) (hlen:=(zac zai))) zjI (zb5 (zak 0 zah))) zag)))))
abbrev ziC:Stmt:=top 33
def zg0:MS:=
 (sRet (m2 dDiv (zaB zcc (zaf (eVar 0) aNil)) (zaB zbE (zaf (eVar 0) aNil))))
def zbc:List D->Option Sl:=fP 1 zg0
theorem zlG (zbP:FD P w K mg base 2 "head_times" (spP K 1 zbE))(zci:FD P w K mg base 4 "heads_sum" (spP K 1 zcc))(h:FnAt K "ring_total" ziC):FD P w K mg base 5 "ring_total" (spP K 1 zbc):=
 fdP (N:=["ring"]) (k:=4) (m:=zg0) X G h fun _ _ _ _ _ _ _ hr nd=>(zaj (zaI (zhq (zal zci hr (zaa (zab 0) zag) (hlen:=(zac zai))) (zal zbP hr (zaa (zab 0) zag) (hlen:=(zac zai))))))
abbrev ziG:Stmt:=top 34
def zgt:MS:=
 (sIf (zgc (tTru (zaB zbZ (zaf (eVar 0) (zaf (eVar 1) aNil)))))
  (sRet (eTup (zaf (eC (.str "round")) (zaf (eVar 1) aNil))))
  zbM)
def zgY:MS:=
 sFor (iR1 (zaf (zaB zaD (zaf (eVar 0) aNil)) aNil)) (gN 1) zgt
def zgo:MS:=
 (sRet (eC .non))
def zfS:MS:=
 (sSeq zgY
  (sSeq (sSet 2 (m2 dMod (zaB zcc (zaf (eVar 0) aNil)) (zaB zbE (zaf (eVar 0) aNil))))
  (sSeq (sIf (tTru (m2 dNe (eVar 2) (eC (.int 0))))
  (sRet (eTup (zaf (eC (.str "part")) (zaf (eVar 2) aNil))))
  zbM)
  zgo)))
def zcg:List D->Option Sl:=fP 3 zfS
theorem zlf (zbP:FD P w K mg base 2 "head_times" (spP K 1 zbE))(zci:FD P w K mg base 4 "heads_sum" (spP K 1 zcc))(zej:FD P w K mg base 3 "round_closes" (spP K 2 zbZ))(zaw:FD P w K mg base 1 "rounds_many" (spP K 1 zaD))(h:FnAt K "sums_paper" ziG):FD P w K mg base 5 "sums_paper" (spP K 1 zcg):=
 fdP (N:=["ring","j","left"]) (k:=4) (m:=zfS) X G h fun _ _ _ _ _ _ _ hr nd=>(zad (zdt qcA rfl (zaP bn.range' (zaa (zal zaw hr (zaa (zab 0) zag) (hlen:=(zac zai))) zag)) (zam 1 nd)
  (zaj (zbD (zd0 (zbs (zal zej hr (zaa (zab 0) (zaa (zab 1) zag)) (hlen := (zac (zac zai))))))
  (zaj (zaI (zbV (zaa se_str (zaa (zab 1) zag)))))
  zaE)))
  (zad (zap 2 (zbU (zal zci hr (zaa (zab 0) zag) (hlen := (zac zai))) (zal zbP hr (zaa (zab 0) zag) (hlen := (zac zai)))) nd)
  (zad (zbD (zmW hr.units (zab 2) zah)
  (zaj (zaI (zbV (zaa se_str (zaa (zab 2) zag)))))
  zaE)
  (zaj (zaI zjj)))))
abbrev zjm:Stmt:=top 35
def zhZ:MS:=
 (zlv (zpG zbH (zaf (eIxV 0 (eC (.int 2))) (zaf (zaB zaX (zaf (eVar 0) aNil)) aNil))))
def zes:List D->Option Sl:=fP 1 zhZ
theorem zmZ (zbS:FD P w K mg base 1 "less_mores" (spP K 2 zbH))(zaH:FD P w K mg base 3 "ring_mores" (spP K 1 zaX))(h:FnAt K "ring_lows" zjm):FD P w K mg base 4 "ring_lows" (spP K 1 zes):=
 fdP (N:=["ring"]) (k:=3) (m:=zhZ) X G h fun _ _ _ _ _ _ _ hr nd=>(zaj (zhN (zlE zbS hr (zaa (zak 0 zah) (zaa (zal zaH hr (zaa (zab 0) zag) (hlen:=(zac zai))) zag)) (hlen:=(zac (zac zai))))))
abbrev ziA:Stmt:=top 36
def zgx:MS:=
 (zlv (zpG zbH (zaf (eIxV 0 (eC (.int 3))) (zaf (zaB zaX (zaf (eVar 0) aNil)) aNil))))
def zc2:List D->Option Sl:=fP 1 zgx
theorem zme (zbS:FD P w K mg base 1 "less_mores" (spP K 2 zbH))(zaH:FD P w K mg base 3 "ring_mores" (spP K 1 zaX))(h:FnAt K "ring_highs" ziA):FD P w K mg base 4 "ring_highs" (spP K 1 zc2):=
 fdP (N:=["ring"]) (k:=3) (m:=zgx) X G h fun _ _ _ _ _ _ _ hr nd=>(zaj (zhN (zlE zbS hr (zaa (zak 0 zah) (zaa (zal zaH hr (zaa (zab 0) zag) (hlen:=(zac zai))) zag)) (hlen:=(zac (zac zai))))))
abbrev zhx:Stmt:=top 37
def zfm:MS:=
 (zlv (zpG zcZ (zaf (zaB zes (zaf (eVar 0) aNil)) (zaf (zaB zc2 (zaf (eVar 0) aNil)) (zaf (zaB zaD (zaf (eVar 0) aNil)) aNil)))))
def za5:List D->Option Sl:=fP 1 zfm
theorem zku (zfp:FD P w K mg base 1 "head_spans" (spP K 3 zcZ))(zfA:FD P w K mg base 4 "ring_highs" (spP K 1 zc2))(zfZ:FD P w K mg base 4 "ring_lows" (spP K 1 zes))(zaw:FD P w K mg base 1 "rounds_many" (spP K 1 zaD))(h:FnAt K "round_spans" zhx):FD P w K mg base 5 "round_spans" (spP K 1 za5):=
 fdP (N:=["ring"]) (k:=4) (m:=zfm) X G h fun _ _ _ _ _ _ _ hr nd=>(zaj (zhN (zlE zfp hr (zaa (zal zfZ hr (zaa (zab 0) zag) (hlen:=(zac zai))) (zaa (zal zfA hr (zaa (zab 0) zag) (hlen:=(zac zai))) (zaa (zal zaw hr (zaa (zab 0) zag) (hlen:=(zac zai))) zag))) (hlen:=(zac (zac (zac zai)))))))
abbrev zjd:Stmt:=top 38
def zhv:MS:=
 (sRet (zaB zbF (zaf (zaB za5 (zaf (eVar 0) aNil)) (zaf (zaB zbc (zaf (eVar 0) aNil)) aNil))))
def zhM:MS:=
 (sSeq (sIf (tTru (m2 znx (zaB zcg (zaf (eVar 0) aNil)) (eC .non)))
  (sRet (eC (.int 0)))
  zbM)
  zhv)
def zbf:List D->Option Sl:=fP 1 zhM
theorem zmw (zbR:FD P w K mg base 2 "heads_many" (spP K 2 zbF))(za3:FD P w K mg base 5 "ring_total" (spP K 1 zbc))(zaW:FD P w K mg base 5 "round_spans" (spP K 1 za5))(zfx:FD P w K mg base 5 "sums_paper" (spP K 1 zcg))(h:FnAt K "ring_many" zjd):FD P w K mg base 6 "ring_many" (spP K 1 zbf):=
 fdP (N:=["ring"]) (k:=5) (m:=zhM) X G h fun _ _ _ _ _ _ _ hr nd=>(zad (zbD (st_isNot (zal zfx hr (zaa (zab 0) zag) (hlen:=(zac zai))) zjj)
  (zaj (zaI zah))
  zaE)
  (zaj (zaI (zal zbR hr (zaa (zal zaW hr (zaa (zab 0) zag) (hlen:=(zac zai))) (zaa (zal za3 hr (zaa (zab 0) zag) (hlen:=(zac zai))) zag)) (hlen:=(zac (zac zai)))))))
abbrev ziZ:Stmt:=top 39
def zjc:MS:=
 (sRet (zaB zbW (zaf (zaB ze9 (zaf (zaB za5 (zaf (eVar 0) aNil)) (zaf (zaB zbc (zaf (eVar 0) aNil)) (zaf (eVar 1) aNil)))) (zaf (zaB zaX (zaf (eVar 0) aNil)) aNil))))
def zjM:MS:=
 (sSeq (sIf (zgc (tTru (zih dLe dLt (eC (.int 0)) (eVar 1) (zaB zbf (zaf (eVar 0) aNil)))))
  (fun _=>none)
  zbM)
  zjc)
def zcq:List D->Option Sl:=fP 2 zjM
theorem zpn (zhS:FD P w K mg base 5 "heads_at" (spP K 3 ze9))(zbb:FD P w K mg base 6 "ring_many" (spP K 1 zbf))(zaH:FD P w K mg base 3 "ring_mores" (spP K 1 zaX))(za3:FD P w K mg base 5 "ring_total" (spP K 1 zbc))(zaW:FD P w K mg base 5 "round_spans" (spP K 1 za5))(zd7:FD P w K mg base 1 "row_by_heads" (spP K 2 zbW))(h:FnAt K "ring_at" ziZ):FD P w K mg base 7 "ring_at" (spP K 2 zcq):=
 fdP (N:=["ring","number"]) (k:=6) (m:=zjM) X G h fun _ _ _ _ _ _ _ hr nd=>(zad (zbD (zd0 (zo2 zn9 op_lt zey zey znn zah (zab 1) (zal zbb hr (zaa (zab 0) zag) (hlen:=(zac zai)))))
  (zaj zoH)
  zaE)
  (zaj (zaI (zal zd7 hr (zaa (zal zhS hr (zaa (zal zaW hr (zaa (zab 0) zag) (hlen:=(zac zai))) (zaa (zal za3 hr (zaa (zab 0) zag) (hlen:=(zac zai))) (zaa (zab 1) zag))) (hlen:=(zac (zac (zac zai))))) (zaa (zal zaH hr (zaa (zab 0) zag) (hlen:=(zac zai))) zag)) (hlen:=(zac (zac zai)))))))
def zkm:MX:=
 (xIf (zgc (tTru (zih dLe dLt (eC (.int 0)) (eVar 1) (zaB zbf (zaf (eVar 0) aNil))))) (fun _=>some "NoNumber"))
def zf6:List D->Option Str:=fX 2 zkm
theorem znZ (zbb:FD P w K mg base 6 "ring_many" (spP K 1 zbf))(h:FnAt K "ring_at" ziZ):FDX P w K mg base 7 "ring_at" (spX K 2 zf6):=
 fdX (N:=["ring","number"]) (k:=6) (m:=zkm) X G h fun _ _ _ _ _ _ _ hr nd=>(zfl (xs_if (zd0 (zo2 zn9 op_lt zey zey znn zah (zab 1) (zal zbb hr (zaa (zab 0) zag) (hlen:=(zac zai))))) (zfl (zmH cx_top rfl rfl rfl bn.r_NoNumber))))
abbrev zeO:Stmt:=top 40
def zfK:MS:=
 (sRet (zaB zbX (zaf (zaB za5 (zaf (eVar 0) aNil)) (zaf (zaB zbc (zaf (eVar 0) aNil)) (zaf (eVar 1) aNil)))))
def zfo:MS:=
 (sSeq (sIf (zgc (tTru (zaB zbq (zaf (eVar 0) (zaf (eVar 1) aNil)))))
  (fun _=>none)
  zbM)
  zfK)
def zbe:List D->Option Sl:=fP 2 zfo
theorem zkt (zep:FD P w K mg base 4 "heads_number" (spP K 3 zbX))(zbT:FD P w K mg base 2 "ring_holds" (spP K 2 zbq))(za3:FD P w K mg base 5 "ring_total" (spP K 1 zbc))(zaW:FD P w K mg base 5 "round_spans" (spP K 1 za5))(h:FnAt K "ring_number" zeO):FD P w K mg base 6 "ring_number" (spP K 2 zbe):=
 fdP (N:=["ring","row"]) (k:=5) (m:=zfo) X G h fun _ _ _ _ _ _ _ hr nd=>(zad (zbD (zd0 (zbs (zal zbT hr (zaa (zab 0) (zaa (zab 1) zag)) (hlen:=(zac (zac zai))))))
  (zaj zoH)
  zaE)
  (zaj (zaI (zal zep hr (zaa (zal zaW hr (zaa (zab 0) zag) (hlen:=(zac zai))) (zaa (zal za3 hr (zaa (zab 0) zag) (hlen:=(zac zai))) (zaa (zab 1) zag))) (hlen:=(zac (zac (zac zai))))))))
def zfk:MX:=
 (xIf (zgc (tTru (zaB zbq (zaf (eVar 0) (zaf (eVar 1) aNil))))) (fun _=>some "NoFit"))
def zcv:List D->Option Str:=fX 2 zfk
theorem zkp (zbT:FD P w K mg base 2 "ring_holds" (spP K 2 zbq))(h:FnAt K "ring_number" zeO):FDX P w K mg base 3 "ring_number" (spX K 2 zcv):=
 fdX (N:=["ring","row"]) (k:=2) (m:=zfk) X G h fun _ _ _ _ _ _ _ hr nd=>(zfl (xs_if (zd0 (zbs (zal zbT hr (zaa (zab 0) (zaa (zab 1) zag)) (hlen:=(zac (zac zai)))))) (zfl (zmH cx_top rfl rfl rfl bn.r_NoFit))))
abbrev zja:Stmt:=top 42
def zhB:MS:=
 (sSeq (sSet 2 (m2 dMod (m2 dAdd (m2 dAdd (m2 dMul (eVar 2) (eC (.int 48271))) (m2 dMul (eC (.int 7919)) (eVar 3))) (eC (.int 12345))) (eC (.int 2147483647))))
  (sSeq (sSet 4 (m2 dMod (m2 dMul (eVar 2) (eVar 2)) (eC (.int 2147483629))))
  (sSet 1 (m2 dAdd (m2 dMul (eVar 1) (eC (.int 4194304))) (m2 dMod (m2 dDiv (eVar 4) (eC (.int 256))) (eC (.int 4194304)))))))
def zhp:MS:=
 sFor (iR1 (zaf (eC (.int 28)) aNil)) (gN 3) zhB
def zho:MS:=
 (sSeq (sSet 1 (eC (.int 0)))
  (sSeq (sSet 2 (m2 dAdd (m2 dMod (eVar 0) (eC (.int 2147483647))) (eC (.int 6113))))
  (sSeq zhp
  (zlv (oLst (zaf (eVar 1) aNil))))))
def zhJ:MS:=
 (sSeq (sIf (tTru (m2 dGe (eVar 0) (m2 dPow (eC (.int 10)) (eC (.int 18)))))
  (zlv (oLst (zaf (m2 dMod (m2 dSub (eVar 0) (m2 dPow (eC (.int 10)) (eC (.int 18)))) (m2 dMul (m2 dMul (m2 dPow (eC (.int 10)) (eC (.int 64))) (m2 dPow (eC (.int 10)) (eC (.int 64)))) (m2 dPow (eC (.int 10)) (eC (.int 64))))) aNil)))
  zbM)
  zho)
def zeb:List D->Option Sl:=fP 5 zhJ
theorem zmV (h:FnAt K "_law_deal" zja):FD P w K mg base 1 "_law_deal" (spP K 1 zeb):=
 fdP (N:=["cell","great","one","k","two"]) (k:=0) (m:=zhJ) X G h fun _ _ _ _ _ _ _ hr nd=>(zad (zbD (st_ge (zab 0) (zhl zah zah))
  (zaj (zhN (zfM (zaa (zbU (zbJ (zab 0) (zhl zah zah)) (zff (zff (zhl zah zah) (zhl zah zah)) (zhl zah zah))) zag))))
  zaE)
  (zad (zap 1 zah nd)
  (zad (zap 2 (zaM (zbU (zab 0) zah) zah) nd)
  (zad (zdt qcA rfl (zaP bn.range' (zaa zah zag)) (zam 3 nd)
  (zad (zap 2 (zbU (zaM (zaM (zff (zab 2) zah) (zff zah (zab 3))) zah) zah) nd)
  (zad (zap 4 (zbU (zff (zab 2) (zab 2)) zah) nd)
  (zaj (zap 1 (zaM (zff (zab 1) zah) (zbU (zhq (zab 4) zah) zah)) nd)))))
  (zaj (zhN (zfM (zaa (zab 1) zag))))))))
abbrev zi9:Stmt:=top 43
def zhI:MS:=
 (sSeq (sSet 2 (m2 dMod (eIxV 0 (eC (.int 0))) (eVar 1)))
  (sSeq (sPut 0 (eC (.int 0)) (m2 dDiv (eIxV 0 (eC (.int 0))) (eVar 1)))
  (zij 2)))
def zaq:List D->List D->Option (Sl×List D):=fM 3 zhI
theorem zno (h:FnAt K "_law_take" zi9):FD P w K mg base 1 "_law_take" (spM K 2 zaq):=
 fdM (N:=["pot","many","digit"]) (k:=0) (m:=zhI) X G h fun _ _ _ _ _ _ _ hr nd=>(zad (zap 2 (zbU (zak 0 zah) (zab 1)) nd)
  (zad (ziN 0 (zhq (zak 0 zah) (zab 1)) zah)
  (zaj (zd1 2))))
abbrev zib:Stmt:=top 44
def zf8:MS:=
 (sRet (eAnd (eIsI "int" (eVar 0)) (m1 dNot (eIsI "bool" (eVar 0)))))
def zc4:List D->Option Sl:=fP 1 zf8
theorem zlV (h:FnAt K "_law_whole" zib):FD P w K mg base 1 "_law_whole" (spP K 1 zc4):=
 fdP (N:=["thing"]) (k:=0) (m:=zf8) X G h fun _ _ _ _ _ _ _ hr nd=>(zaj (zaI (zmI (zqO "int" bn.isinstance' bn.int' (by decide+kernel) (zab 0)) (zmQ (se_not (zqO "bool" bn.isinstance' bn.bool' (by decide+kernel) (zab 0)))))))
abbrev zfV:Stmt:=top 45
def ze6:ME:=
 (zaB zc4 (zaf (eVar 0) aNil))
def ze1:MO:=
 oLC [] 1 (iSeq (eVar 0)) (gN 0) zcx ze6
def zeJ:MS:=
 (sRet (eAnd (eIsI "tuple" (eVar 0)) (mC (dAll fun bs=>bs.all id) (zaf (eFz ze1) aNil))))
def zbY:List D->Option Sl:=fP 1 zeJ
theorem zj5 (zfy:FD P w K mg base 1 "_law_whole" (spP K 1 zc4))(h:FnAt K "_law_numbers" zfV):FD P w K mg base 2 "_law_numbers" (spP K 1 zbY):=
 fdP (N:=["thing"]) (k:=1) (m:=zeJ) X G h fun _ _ _ _ _ _ _ hr nd=>(zaj (zaI (zmI (zqO "tuple" bn.isinstance' bn.tuple' (by decide+kernel) (zab 0)) (zmQ (zm0 rfl bn.all' (zaa (SO.se (zfG [] 1 ["one"] rfl (zc3 (zab 0)) (fun C s H fp=>(zam 0 ndk)) (fun C s H fp=>zaS) (fun C s H fp=>(zal zfy hr (zaa (zab 0) zag) (hlen:=(zac zai)))))) zag))))))
abbrev ziu:Stmt:=top 46
def zd9:MS:=
 (sRet (eAnd (m2 dEq (m2 zoB (eVar 2) (eC (.bl true))) (eC (.int 1))) (eIxV 2 (eVar 1))))
def zev:MS:=
 (sSeq (zft 2 (oLst (zaf (eIsO zcU (eVar 0)) (zaf (eIsO zh6 (eVar 0)) (zaf (eIsO zeA (eVar 0)) (zaf (eIsO zfv (eVar 0)) (zaf (eIsO zfw (eVar 0)) (zaf (eIsO zha (eVar 0)) (zaf (eIsO zg4 (eVar 0)) (zaf (eIsO ziP (eVar 0)) (zaf (eIsO zg2 (eVar 0)) aNil)))))))))))
  (sSeq (sIf (tOrM (zgc (tTru (eIsO zew (eVar 0)))) (zgc (tTru (eIsO zcW (eVar 0)))))
  (sRet (eC (.bl false)))
  zbM)
  zd9))
def zbd:List D->Option Sl:=fP 3 zev
theorem zml (h:FnAt K "_law_alone" ziu):FD P w K mg base 1 "_law_alone" (spP K 2 zbd):=
 fdP (N:=["e","at","some"]) (k:=0) (m:=zev) X G h fun _ _ _ _ _ _ _ hr nd=>(zad (zeL 2 (zfM (zaa (zeS bn.isinstance' bn.i_BadTelling (zab 0)) (zaa (zeS bn.isinstance' bn.i_NoFit (zab 0)) (zaa (zeS bn.isinstance' bn.i_NoNumber (zab 0)) (zaa (zeS bn.isinstance' bn.i_NoPlace (zab 0)) (zaa (zeS bn.isinstance' bn.i_NotTwos (zab 0)) (zaa (zeS bn.isinstance' bn.i_NoPast (zab 0)) (zaa (zeS bn.isinstance' bn.i_NoText (zab 0)) (zaa (zeS bn.isinstance' bn.i_NoRow (zab 0)) (zaa (zeS bn.isinstance' bn.i_Unlike (zab 0)) zag)))))))))) nd)
  (zad (zbD (STw.st (zmu (zd0 (zbs (zeS bn.isinstance' bn.i_SumError (zab 0)))) (zkN (zd0 (zbs (se_isOT bn.isinstance' bn.ValueError' (by decide +kernel) bn.i_ValueError (zab 0)))))))
  (zaj (zaI zjq))
  zaE)
  (zaj (zaI (zmI (zrH hr.units (se_count (zab 2) zjq) zah) (zmQ (zak 2 (zab 1))))))))
abbrev zgA:Stmt:=top 47
def ze7:MT:=
 (tTru (m2 dGt (eVar 1) (eC (.int 0))))
def zfa:MS:=
 (sPar 0 1 (zaf (eVar 1) (zaf (m2 dMod (eVar 0) (eVar 1)) aNil)))
def ze0:MS:=
 zhz ze7 zfa 400
def zeW:MS:=
 (sSeq ze0
  (zij 0))
def zbh:List D->Option Sl:=fP 2 zeW
theorem zkd (h:FnAt K "_law_divisor" zgA):FD P w K mg base 1 "_law_divisor" (spP K 2 zbh):=
 fdP (N:=["one","other"]) (k:=0) (m:=zeW) X G h fun _ _ _ _ _ _ _ hr nd=>(zad (zly 400 qcA (zrt (zab 1) zah)
  (zaj (ss_par 0 1 (by decide) rfl (zaa (zab 1) (zaa (zbU (zab 0) (zab 1)) zag)) nd)))
  (zaj (zd1 0)))
abbrev zfb:Stmt:=top 48
def zdZ:ME:=
 (eIxV 0 (m2 dMod (m2 dAdd (eVar 1) (eVar 3)) (eVar 2)))
def zdX:MO:=
 oLC [1,3,2] 1 (iR1 (zaf (eVar 0) aNil)) (gN 3) zcx zdZ
def zed:ME:=
 (mC dSum (zaf (eFz zdX) aNil))
def zea:MO:=
 oLC [1,0,2] 1 (iR1 (zaf (eVar 2) aNil)) (gN 3) zcx zed
def zdc:MS:=
 (sSeq (sSet 2 (zcY 0))
  (sRet (mC zcG (zaf (eFz zea) aNil))))
def za1:List D->Option Sl:=fP 3 zdc
theorem zi3 (h:FnAt K "_law_ring_sums" zfb):FD P w K mg base 1 "_law_ring_sums" (spP K 2 za1):=
 fdP (N:=["row","k","many"]) (k:=0) (m:=zdc) X G h fun _ _ _ _ _ _ _ hr nd=>(zad (zap 2 (za8 0 bn.len') nd)
  (zaj (zaI (zcX bn.tuple' (zaa (SO.se (zfG [1,0,2] 1 ["k","row","many","at"] rfl (zaP bn.range' (zaa (zab 2) zag)) (fun C s H fp=>(zam 3 ndk)) (fun C s H fp=>zaS) (fun C s H fp=>(zkf rfl bn.sum' (zaa (SO.se (zfG [1,3,2] 1 ["row","at","many","step"] rfl (zaP bn.range' (zaa (zab 0) zag)) (fun C s H fp=>(zam 3 ndk)) (fun C s H fp=>zaS) (fun C s H fp=>(zak 0 (zbU (zaM (zab 1) (zab 3)) (zab 2)))))) zag))))) zag)))))
abbrev zfi:Stmt:=top 50
def zdV:ME:=
 (m2 dAdd (eVar 1) (eVar 0))
def zdU:MO:=
 oLC [10] 1 (iSeq (eVar 4)) (gN 1) zcx zdV
def zd4:MS:=
 (sPut 4 (m2 dMod (eVar 11) (eVar 7)) (m2 dAdd (eIxV 4 (m2 dMod (eVar 11) (eVar 7))) (eVar 10)))
def zd6:MS:=
 sFor (iR2 (zaf (eVar 9) (zaf (m2 dAdd (eVar 9) (eVar 3)) aNil))) (gN 11) zd4
def zdW:ME:=
 (m2 dAdd (eVar 1) (eVar 0))
def zeo:MO:=
 oLC [10] 1 (iSeq (eVar 5)) (gN 1) zcx zdW
def zd8:ME:=
 (mC zfs (zaf (eVar 0) aNil))
def zdR:MO:=
 oLC [] 1 (iZ2 (zaf (eVar 6) (zaf (eVar 5) aNil))) (gN 0) zcx zd8
def zb8:MS:=
 (sRet (eTup (zaf (eVar 3) (zaf (mC zcG (zaf (eVar 4) aNil)) (zaf (mC zcG (zaf (eVar 5) aNil)) (zaf (mC zcG (zaf (eVar 6) aNil)) aNil))))))
def zb2:MS:=
 (sSeq (sIf (tTru (m2 dEq (eVar 8) (eC (.int 7))))
  (sSeq (zft 5 zeo)
  (zft 6 zdR))
  zbM)
  zb8)
def zb6:MS:=
 (sSeq (sIf (tTru (m2 dEq (eVar 8) (eC (.int 6))))
  (sSeq (sPut 6 (eVar 9) (m2 dSub (eIxV 6 (eVar 9)) (eVar 10)))
  (sPut 5 (eVar 9) (mC (d2I min2) (zaf (eIxV 5 (eVar 9)) (zaf (eIxV 6 (eVar 9)) aNil)))))
  zbM)
  zb2)
def zb9:MS:=
 (sSeq (sIf (tTru (m2 dEq (eVar 8) (eC (.int 5))))
  (sSeq (sPut 5 (eVar 9) (m2 dAdd (eIxV 5 (eVar 9)) (eVar 10)))
  (sPut 6 (eVar 9) (mC (d2I max2) (zaf (eIxV 6 (eVar 9)) (zaf (eIxV 5 (eVar 9)) aNil)))))
  zbM)
  zb6)
def zb3:MS:=
 (sSeq (sIf (tTru (m2 dIn (eVar 8) (eTup (zaf (eC (.int 3)) (zaf (eC (.int 4)) aNil)))))
  zd6
  zbM)
  zb9)
def zbi:MS:=
 (sSeq (sIf (tTru (m2 dEq (eVar 8) (eC (.int 2))))
  (zft 4 zdU)
  zbM)
  zb3)
def zdb:MS:=
 (sSeq (sUnT 1 [3, 4, 5, 6])
  (sSeq (sSet 7 (zcY 4))
  (sSeq (sSet 8 (zbz zaq 0 (zaf (eC (.int 8)) aNil)))
  (sSeq (sSet 9 (zbz zaq 0 (zaf (eVar 7) aNil)))
  (sSeq (sSet 10 (m2 dMul (m2 dSub (zbz zaq 0 (zaf (eC (.int 9)) aNil)) (eC (.int 4))) (m2 dIx (eTup (zaf (eC (.int 1)) (zaf (eVar 2) aNil))) (zbz zaq 0 (zaf (eC (.int 2)) aNil)))))
  (sSeq (sIf (tTru (m2 dEq (eVar 8) (eC (.int 1))))
  (sPut 4 (eVar 9) (m2 dAdd (eIxV 4 (eVar 9)) (eVar 10)))
  zbM)
  zbi))))))
def zby:List D->T->List D->Option (Sl×List D):=fMT 12 zdb
theorem ziR (zao:FD P w K mg base 1 "_law_take" (spM K 2 zaq))(h:FnAt K "_law_bent_ring" zfi):FD P w K mg base 2 "_law_bent_ring" (spMT K 3 zby):=
 fdMT (N:=["pot","parts","by","k","sums","least","greatest","many","way","at","more","place"]) (k:=1) (m:=zdb) X G h fun _ _ _ _ _ _ _ hr nd=>(zad (ss_unT 1 [3,4,5,6] rfl nd ⟨rfl,by first|exact Or.inl rfl|exact Or.inr rfl,by first|exact Or.inl rfl|exact Or.inr rfl,rfl,by first|exact Or.inl rfl|exact Or.inr rfl,by first|exact Or.inl rfl|exact Or.inr rfl,rfl,by first|exact Or.inl rfl|exact Or.inr rfl,by first|exact Or.inl rfl|exact Or.inr rfl,rfl,by first|exact Or.inl rfl|exact Or.inr rfl,by first|exact Or.inl rfl|exact Or.inr rfl,trivial⟩)
  (zad (zap 7 (za8 4 bn.len') nd)
  (zad (zap 8 (zaT 0 zao hr (zaa zah zag) (zeK (zac zai))) nd)
  (zad (zap 9 (zaT 0 zao hr (zaa (zab 7) zag) (zeK (zac zai))) nd)
  (zad (zap 10 (zff (zbJ (zaT 0 zao hr (zaa zah zag) (zeK (zac zai))) zah) (zce (zbV (zaa zah (zaa (zab 2) zag))) (zaT 0 zao hr (zaa zah zag) (zeK (zac zai))))) nd)
  (zad (zbD (ziX hr.units (zab 8) zah)
  (zaj (ziN 4 (zaM (zak 4 (zab 9)) (zab 10)) (zab 9)))
  zaE)
  (zad (zbD (ziX hr.units (zab 8) zah)
  (zaj (zk8 4 [10] 1 ["more","total"] rfl (zc3 (zab 4)) (fun C s H fp=>(zam 1 ndk)) (fun C s H fp=>zaS) (fun C s H fp=>(zaM (zab 1) (zab 0))) nd))
  zaE)
  (zad (zbD (st_in (zab 8) (zbV (zaa zah (zaa zah zag))))
  (zaj (zdt qcA rfl (zkb bn.range' (zaa (zab 9) (zaa (zaM (zab 9) (zab 3)) zag))) (zam 11 nd)
  (zaj (ziN 4 (zaM (zak 4 (zbU (zab 11) (zab 7))) (zab 10)) (zbU (zab 11) (zab 7))))))
  zaE)
  (zad (zbD (ziX hr.units (zab 8) zah)
  (zad (ziN 5 (zaM (zak 5 (zab 9)) (zab 10)) (zab 9))
  (zaj (ziN 6 (zrx rfl bn.max' (zaa (zak 6 (zab 9)) (zaa (zak 5 (zab 9)) zag))) (zab 9))))
  zaE)
  (zad (zbD (ziX hr.units (zab 8) zah)
  (zad (ziN 6 (zbJ (zak 6 (zab 9)) (zab 10)) (zab 9))
  (zaj (ziN 5 (zrz rfl bn.min' (zaa (zak 5 (zab 9)) (zaa (zak 6 (zab 9)) zag))) (zab 9))))
  zaE)
  (zad (zbD (ziX hr.units (zab 8) zah)
  (zad (zk8 5 [10] 1 ["more", "bound"] rfl (zc3 (zab 5)) (fun C s H fp => (zam 1 ndk)) (fun C s H fp => zaS) (fun C s H fp => (zaM (zab 1) (zab 0))) nd)
  (zaj (zk8 6 [] 1 ["pair"] rfl (zoG bn.zip' (zaa (zab 6) (zaa (zab 5) zag))) (fun C s H fp=>(zam 0 ndk)) (fun C s H fp=>zaS) (fun C s H fp=>(zjV rfl bn.max' (zaa (zab 0) zag))) nd)))
  zaE)
  (zaj (zaI (zbV (zaa (zab 3) (zaa (zcX bn.tuple' (zaa (zab 4) zag)) (zaa (zcX bn.tuple' (zaa (zab 5) zag)) (zaa (zcX bn.tuple' (zaa (zab 6) zag)) zag))))))))))))))))))
abbrev zjl:Stmt:=top 49
def zhy:ME:=
 (m2 dAdd (m2 dMul (m2 dSub (zbz zaq 0 (zaf (eC (.int 13)) aNil)) (eC (.int 6))) (eVar 1)) (eVar 2))
def zhC:MO:=
 oLCM [0,5,7] 1 0 0 (iR1 (zaf (eVar 3) aNil)) (gN 3) zcx zhy
def zht:ME:=
 (m2 dSub (eVar 3) (m2 dMul (zbz zaq 0 (zaf (eVar 1) aNil)) (eVar 2)))
def zhD:MO:=
 oLCM [0,6,5] 1 0 0 (iSeq (eVar 8)) (gN 3) zcx zht
def zhr:ME:=
 (m2 dAdd (eVar 3) (m2 dMul (zbz zaq 0 (zaf (eVar 1) aNil)) (eVar 2)))
def zhA:MO:=
 oLCM [0,6,5] 1 0 0 (iSeq (eVar 8)) (gN 3) zcx zhr
def zcT:MS:=
 (sSeq (sSet 5 (m2 dIx (eTup (zaf (eC (.int 1)) (zaf (eC (.int 1)) (zaf (eC (.int 1)) (zaf (m2 dPow (eC (.int 10)) (eC (.int 58))) aNil))))) (zbz zaq 0 (zaf (eC (.int 4)) aNil))))
  (sSeq (sSet 6 (m2 dIx (eTup (zaf (eC (.int 1)) (zaf (eC (.int 2)) (zaf (eC (.int 4)) (zaf (eC (.int 9)) aNil))))) (zbz zaq 0 (zaf (eC (.int 4)) aNil))))
  (sSeq (sSet 7 (m2 dIx (eTup (zaf (eC (.int 0)) (zaf (eC (.int 0)) (zaf (eC (.int 0)) (zaf (m2 dPow (eC (.int 10)) (eC (.int 59))) aNil))))) (zbz zaq 0 (zaf (eC (.int 4)) aNil))))
  (sSeq (sSet 8 (eFz zhC))
  (sSeq (zft 9 zhD)
  (sSeq (zft 10 zhA)
  (sSeq (zft 11 (oC zaR (zaf (zaB za1 (zaf (eVar 8) (zaf (eVar 2) aNil))) aNil)))
  (sRet (zln zby 0 (cVal (eVar 2) (cOwn 11 (cOwn 9 (cOwn 10 cNil)))) (zaf (eVar 5) aNil))))))))))
def zeV:MS:=
 (sSeq (sIf (tTru (m2 dEq (eVar 4) (eC (.int 1))))
  (sSet 3 (m2 dMul (eVar 2) (m2 dAdd (eC (.int 1)) (zbz zaq 0 (zaf (m2 dDiv (eVar 1) (eVar 2)) aNil)))))
  zbM)
  zcT)
def zhP:MS:=
 (sSeq (sSet 2 (m2 dAdd (eC (.int 2)) (zbz zaq 0 (zaf (eC (.int 4)) aNil))))
  (sSeq (sSet 3 (m2 dAdd (eVar 2) (zbz zaq 0 (zaf (m2 dAdd (m2 dSub (eVar 1) (eVar 2)) (eC (.int 1))) aNil))))
  (sSeq (sSet 4 (zbz zaq 0 (zaf (eC (.int 4)) aNil)))
  (sSeq (sIf (tTru (m2 dEq (eVar 4) (eC (.int 0))))
  (sSet 3 (eVar 2))
  zbM)
  zeV))))
def zem:List D->List D->Option (Sl×List D):=fM 12 zhP
theorem zm3 (zcI:FD P w K mg base 2 "_law_bent_ring" (spMT K 3 zby))(za6:FD P w K mg base 1 "_law_ring_sums" (spP K 2 za1))(zao:FD P w K mg base 1 "_law_take" (spM K 2 zaq))(h:FnAt K "_law_ring" zjl):FD P w K mg base 3 "_law_ring" (spM K 2 zem):=
 fdM (N:=["pot","most","k","many","shape","by","wide","far","row","least","greatest","sums"]) (k:=2) (m:=zhP) X G h fun _ _ _ _ _ _ _ hr nd=>(zad (zap 2 (zaM zah (zaT 0 zao hr (zaa zah zag) (zeK (zac zai)))) nd)
  (zad (zap 3 (zaM (zab 2) (zaT 0 zao hr (zaa (zaM (zbJ (zab 1) (zab 2)) zah) zag) (zeK (zac zai)))) nd)
  (zad (zap 4 (zaT 0 zao hr (zaa zah zag) (zeK (zac zai))) nd)
  (zad (zbD (ziX hr.units (zab 4) zah)
  (zaj (zap 3 (zab 2) nd))
  zaE)
  (zad (zbD (ziX hr.units (zab 4) zah)
  (zaj (zap 3 (zff (zab 2) (zaM zah (zaT 0 zao hr (zaa (zhq (zab 1) (zab 2)) zag) (zeK (zac zai))))) nd))
  zaE)
  (zad (zap 5 (zce (zbV (zaa zah (zaa zah (zaa zah (zaa (zhl zah zah) zag))))) (zaT 0 zao hr (zaa zah zag) (zeK (zac zai)))) nd)
  (zad (zap 6 (zce (zbV (zaa zah (zaa zah (zaa zah (zaa zah zag))))) (zaT 0 zao hr (zaa zah zag) (zeK (zac zai)))) nd)
  (zad (zap 7 (zce (zbV (zaa zah (zaa zah (zaa zah (zaa (zhl zah zah) zag))))) (zaT 0 zao hr (zaa zah zag) (zeK (zac zai)))) nd)
  (zad (zpw 8 [0, 5, 7] 1 0 0 ["pot", "by", "far", "place"] rfl (zaP bn.range' (zaa (zab 3) zag)) (fun C s H fp => (zam 3 ndk)) (fun C s H fp => zaS) (fun C s H fp => (zaM (zff (zbJ (zaT 0 zao hr (zaa zah zag) (zeK (zac zai))) zah) (zab 1)) (zab 2))) nd)
  (zad (zmn 9 [0, 6, 5] 1 0 0 ["pot", "wide", "by", "number"] rfl (zc3 (zab 8)) (fun C s H fp => (zam 3 ndk)) (fun C s H fp => zaS) (fun C s H fp => (zbJ (zab 3) (zff (zaT 0 zao hr (zaa (zab 1) zag) (zeK (zac zai))) (zab 2)))) nd)
  (zad (zmn 10 [0, 6, 5] 1 0 0 ["pot", "wide", "by", "number"] rfl (zc3 (zab 8)) (fun C s H fp => (zam 3 ndk)) (fun C s H fp => zaS) (fun C s H fp => (zaM (zab 3) (zff (zaT 0 zao hr (zaa (zab 1) zag) (zeK (zac zai))) (zab 2)))) nd)
  (zad (zeL 11 (zlT bn.list' (zaa (zal za6 hr (zaa (zab 8) (zaa (zab 2) zag)) (hlen := (zac (zac zai)))) zag)) nd)
  (zaj (zaI (zqI 0 zcI hr (sc_val (zab 2) (zqo 11 (zqo 9 (zqo 10 sc_nil)))) (zaa (zab 5) zag) (aLen2 (zac zai)))))))))))))))))
abbrev zet:Stmt:=top 51
def zdI:MT:=
 (tDI 7 true (eVar 10))
def zdf:MS:=
 (sSeq (sDP 7 (eVar 10) (eVar 11))
  (sSeq (sSet 11 (m2 dSub (m2 dAdd (eVar 11) (eIxV 2 (m2 dMod (m2 dAdd (eVar 10) (eC (.int 1))) (eVar 5)))) (eIxV 2 (eVar 10))))
  (sSet 10 (m2 dMod (m2 dAdd (eVar 10) (eVar 1)) (eVar 5)))))
def zdB:MS:=
 zhz zdI zdf 400
def zdj:MS:=
 (sSeq (sSet 10 (eVar 9))
  (sSeq (sSet 11 (eC (.int 0)))
  (sSeq zdB
  (sApp 8 (eVar 11)))))
def zdq:MS:=
 sFor (iR1 (zaf (eVar 6) aNil)) (gN 9) zdj
def zdF:ME:=
 (eDG 0 (eVar 1))
def zdA:MO:=
 oLC [7] 1 (iR1 (zaf (eVar 5) aNil)) (gN 1) zcx zdF
def zcR:MS:=
 (sSeq (sAsg (eVar 0) (gT 4 (zaY (gN 1) (zaY (gN 2) (zaY (gN 3) (zaY (gN 4) zhk))))))
  (sSeq (sSet 5 (zcY 2))
  (sSeq (sSet 6 (zaB zbh (zaf (eVar 5) (zaf (eVar 1) aNil))))
  (sSeq (sDN 7)
  (sSeq (zft 8 (oLst aNil))
  (sSeq zdq
  (sFzD 7 (sRet (eTup (zaf (eFz zdA) (zaf (eVar 8) aNil)))))))))))
def zbn:List D->Option Sl:=fP 12 zcR
theorem zh9 (zbp:FD P w K mg base 1 "_law_divisor" (spP K 2 zbh))(h:FnAt K "_law_ring_mores" zet):FD P w K mg base 2 "_law_ring_mores" (spP K 1 zbn):=
 fdP (N:=["ring","k","sums","least","greatest","many","rounds","mores","backs","first","place","more"]) (k:=1) (m:=zcR) X G h fun _ _ _ _ _ _ _ hr nd=>(zad (zoM (zab 0) (zez rfl (zax (zam 1 nd) (zax (zam 2 nd) (zax (zam 3 nd) (zax (zam 4 nd) zcw))))))
  (zad (zap 5 (za8 2 bn.len') nd)
  (zad (zap 6 (zal zbp hr (zaa (zab 5) (zaa (zab 1) zag)) (hlen := (zac (zac zai)))) nd)
  (zad (ss_dNew 7 nd)
  (zad (zeL 8 (zfM zag) nd)
  (zad (zdt qcA rfl (zaP bn.range' (zaa (zab 6) zag)) (zam 9 nd)
  (zad (zap 10 (zab 9) nd)
  (zad (zap 11 zah nd)
  (zad (zly 400 qcA (zpY 7 hr.units (zab 10))
  (zad (ss_dPut 7 hr.units (zab 11) (zab 10))
  (zad (zap 11 (zbJ (zaM (zab 11) (zak 2 (zbU (zaM (zab 10) zah) (zab 5)))) (zak 2 (zab 10))) nd)
  (zaj (zap 10 (zbU (zaM (zab 10) (zab 1)) (zab 5)) nd)))))
  (zaj (zk0 8 (zab 11)))))))
  (zaj (ss_fzD 7 (zaI (zbV (zaa (SO.se (zfG [7] 1 ["mores","place"] rfl (zaP bn.range' (zaa (zab 5) zag)) (fun C s H fp=>(zam 1 ndk)) (fun C s H fp=>zaS) (fun C s H fp=>(se_dGet 0 hr.units (zab 1))))) (zaa (zab 8) zag))))))))))))
abbrev zex:Stmt:=top 52
def zdh:ME:=
 (m2 dSub (m2 dIx (eIxV 0 (eC (.int 2))) (eVar 2)) (eIxV 1 (eVar 2)))
def zdH:MO:=
 oLC [0,1] 1 (iR3 (zaf (eVar 4) (zaf (zcY 1) (zaf (eVar 2) aNil)))) (gN 2) zcx zdh
def zdi:ME:=
 (m2 dSub (m2 dIx (eIxV 0 (eC (.int 3))) (eVar 2)) (eIxV 1 (eVar 2)))
def zdy:MO:=
 oLC [0,1] 1 (iR3 (zaf (eVar 4) (zaf (zcY 1) (zaf (eVar 2) aNil)))) (gN 2) zcx zdi
def zdl:MS:=
 (sSeq (sSet 5 (eFz zdH))
  (sSeq (sSet 6 (eFz zdy))
  (sApp 3 (eTup (zaf (mC zfs (zaf (eVar 5) aNil)) (zaf (mC zjr (zaf (eVar 6) aNil)) aNil))))))
def zdv:MS:=
 sFor (iR1 (zaf (eVar 2) aNil)) (gN 4) zdl
def zcJ:MS:=
 (sSeq (sSet 2 (zaB zbh (zaf (zcY 1) (zaf (eIxV 0 (eC (.int 0))) aNil))))
  (sSeq (zft 3 (oLst aNil))
  (sSeq zdv
  (zij 3))))
def zbj:List D->Option Sl:=fP 7 zcJ
theorem ziH (zbp:FD P w K mg base 1 "_law_divisor" (spP K 2 zbh))(h:FnAt K "_law_ring_spans" zex):FD P w K mg base 2 "_law_ring_spans" (spP K 2 zbj):=
 fdP (N:=["ring","mores","rounds","spans","first","lows","highs"]) (k:=1) (m:=zcJ) X G h fun _ _ _ _ _ _ _ hr nd=>(zad (zap 2 (zal zbp hr (zaa (za8 1 bn.len') (zaa (zak 0 zah) zag)) (hlen:=(zac (zac zai)))) nd)
  (zad (zeL 3 (zfM zag) nd)
  (zad (zdt qcA rfl (zaP bn.range' (zaa (zab 2) zag)) (zam 4 nd)
  (zad (zjP 5 [0, 1] 1 ["ring", "mores", "place"] rfl (zmX bn.range' (zaa (zab 4) (zaa (za8 1 bn.len') (zaa (zab 2) zag)))) (fun C s H fp => (zam 2 ndk)) (fun C s H fp => zaS) (fun C s H fp => (zbJ (zce (zak 0 zah) (zab 2)) (zak 1 (zab 2)))) nd)
  (zad (zjP 6 [0, 1] 1 ["ring", "mores", "place"] rfl (zmX bn.range' (zaa (zab 4) (zaa (za8 1 bn.len') (zaa (zab 2) zag)))) (fun C s H fp => (zam 2 ndk)) (fun C s H fp => zaS) (fun C s H fp => (zbJ (zce (zak 0 zah) (zab 2)) (zak 1 (zab 2)))) nd)
  (zaj (zk0 3 (zbV (zaa (zjV rfl bn.max' (zaa (zab 5) zag)) (zaa (znv rfl bn.min' (zaa (zab 6) zag)) zag))))))))
  (zaj (zd1 3)))))
abbrev zfh:Stmt:=top 53
def zcf:ME:=
 (zih dLe dLe (eIxV 0 (eVar 3)) (eIxV 1 (eVar 3)) (eIxV 2 (eVar 3)))
def zcd:MO:=
 oLC [4,1,5] 1 (iR1 (zaf (zcY 1) aNil)) (gN 3) zcx zcf
def zb7:MS:=
 (sRet (mC (dAll fun bs=>bs.all id) (zaf (eFz zcd) aNil)))
def zb0:MS:=
 (sSeq (sAsg (eVar 0) (gT 4 (zaY (gN 2) (zaY (gN 3) (zaY (gN 4) (zaY (gN 5) zhk))))))
  (sSeq (sIf (tOrM (tTru (m2 dNe (zcY 1) (zcY 3))) (tTru (m2 dNe (zaB za1 (zaf (eVar 1) (zaf (eVar 2) aNil))) (eVar 3))))
  (sRet (eC (.bl false)))
  zbM)
  zb7))
def zay:List D->Option Sl:=fP 6 zb0
theorem zi2 (za6:FD P w K mg base 1 "_law_ring_sums" (spP K 2 za1))(h:FnAt K "_law_ring_fits" zfh):FD P w K mg base 2 "_law_ring_fits" (spP K 2 zay):=
 fdP (N:=["ring","row","k","sums","least","greatest"]) (k:=1) (m:=zb0) X G h fun _ _ _ _ _ _ _ hr nd=>(zad (zoM (zab 0) (zez rfl (zax (zam 2 nd) (zax (zam 3 nd) (zax (zam 4 nd) (zax (zam 5 nd) zcw))))))
  (zad (zbD (STw.st (zmu (zmW hr.units (za8 1 bn.len') (za8 3 bn.len')) (zkN (zmW hr.units (zal za6 hr (zaa (zab 1) (zaa (zab 2) zag)) (hlen := (zac (zac zai)))) (zab 3)))))
  (zaj (zaI zjq))
  zaE)
  (zaj (zaI (zm0 rfl bn.all' (zaa (SO.se (zfG [4,1,5] 1 ["least","row","greatest","place"] rfl (zaP bn.range' (zaa (za8 1 bn.len') zag)) (fun C s H fp=>(zam 3 ndk)) (fun C s H fp=>zaS) (fun C s H fp=>(zom zn9 zn9 zey zey (zak 0 (zab 3)) (zak 1 (zab 3)) (zak 2 (zab 3)))))) zag))))))
abbrev zeC:Stmt:=top 54
def zdn:ME:=
 (m2 dLe (eIxV 0 (eC (.int 0))) (eIxV 0 (eC (.int 1))))
def zdp:MO:=
 oLC [] 1 (iSeq (eVar 5)) (gN 0) zcx zdn
def zdk:ME:=
 (eIxV 0 (eC (.int 1)))
def zdu:MO:=
 oLC [] 1 (iSeq (eCut (eVar 5) (zf1 (m2 dAdd (eVar 8) (eC (.int 1)))) pNo)) (gN 0) zcx zdk
def zdC:MS:=
 (sSeq (sApp 7 (mC (d2I max2) (zaf (m2 dIx (eIxV 5 (eVar 8)) (eC (.int 0))) (zaf (m2 dSub (eVar 6) (mC dSum (zaf (eFz zdu) aNil))) aNil))))
  (sSet 6 (m2 dSub (eVar 6) (eIxV 7 (eVar 8)))))
def zdr:MS:=
 sFor (iR1 (zaf (zcY 5) aNil)) (gN 8) zdC
def zdm:ME:=
 (m2 dAdd (eIxV 0 (m2 dMod (eVar 2) (zcY 0))) (eIxV 1 (eVar 2)))
def zds:MO:=
 oLCM [7,1] 1 0 7 (iR1 (zaf (zcY 1) aNil)) (gN 2) zcx zdm
def zdz:MS:=
 (sSeq (sSet 6 (m2 dDiv (eVar 4) (eVar 3)))
  (sSeq (zft 7 (oLst aNil))
  (sSeq zdr
  (sSeq (sSet 9 (mC zcG (zaf (eFz zds) aNil)))
  (sRet (eIf (tTru (zaB zay (zaf (eVar 0) (zaf (eVar 9) aNil)))) (eVar 9) (eC .non)))))))
def zcL:MS:=
 (sSeq (sAsg (zaB zbn (zaf (eVar 0) aNil)) (gT 2 (zaY (gN 1) (zaY (gN 2) zhk))))
  (sSeq (sSet 3 (m2 dDiv (eIxV 0 (eC (.int 0))) (zcY 2)))
  (sSeq (sSet 4 (m2 dSub (m2 dIx (eIxV 0 (eC (.int 1))) (eC (.int 0))) (mC dSum (zaf (eCut (eVar 1) pNo (zf1 (eIxV 0 (eC (.int 0))))) aNil))))
  (sSeq (sSet 5 (zaB zbj (zaf (eVar 0) (zaf (eVar 1) aNil))))
  (sSeq (sIf (tOrM (tTru (m2 dGt (mC zfs (zaf (eVar 2) aNil)) (eC (.int 0)))) (tOrM (tTru (m2 dLt (mC zjr (zaf (eVar 2) aNil)) (eC (.int 0)))) (tOrM (tTru (m2 dGt (m2 dMod (eVar 4) (eVar 3)) (eC (.int 0)))) (zgc (tTru (mC (dAll fun bs => bs.all id) (zaf (eFz zdp) aNil)))))))
  (sRet (eC .non))
  zbM)
  zdz)))))
def zaJ:List D->Option Sl:=fP 10 zcL
theorem zio (zaC:FD P w K mg base 2 "_law_ring_fits" (spP K 2 zay))(zcn:FD P w K mg base 2 "_law_ring_mores" (spP K 1 zbn))(zck:FD P w K mg base 2 "_law_ring_spans" (spP K 2 zbj))(h:FnAt K "_law_ring_least" zeC):FD P w K mg base 3 "_law_ring_least" (spP K 1 zaJ):=
 fdP (N:=["ring","mores","backs","each","total","spans","left","firsts","at","row"]) (k:=2) (m:=zcL) X G h fun _ _ _ _ _ _ _ hr nd=>(zad (zoM (zal zcn hr (zaa (zab 0) zag) (hlen:=(zac zai))) (zez rfl (zax (zam 1 nd) (zax (zam 2 nd) zcw))))
  (zad (zap 3 (zhq (zak 0 zah) (za8 2 bn.len')) nd)
  (zad (zap 4 (zbJ (zce (zak 0 zah) zah) (zkf rfl bn.sum' (zaa (zhs (zab 1) zjI (zb5 (zak 0 zah))) zag))) nd)
  (zad (zap 5 (zal zck hr (zaa (zab 0) (zaa (zab 1) zag)) (hlen := (zac (zac zai)))) nd)
  (zad (zbD (STw.st (zmu (zrt (zjV rfl bn.max' (zaa (zab 2) zag)) zah) (zmu (st_lt (znv rfl bn.min' (zaa (zab 2) zag)) zah) (zmu (zrt (zbU (zab 4) (zab 3)) zah) (zkN (zd0 (zbs (zm0 rfl bn.all' (zaa (SO.se (zfG [] 1 ["span"] rfl (zc3 (zab 5)) (fun C s H fp => (zam 0 ndk)) (fun C s H fp => zaS) (fun C s H fp => (se_le (zak 0 zah) (zak 0 zah))))) zag)))))))))
  (zaj (zaI zjj))
  zaE)
  (zad (zap 6 (zhq (zab 4) (zab 3)) nd)
  (zad (zeL 7 (zfM zag) nd)
  (zad (zdt qcA rfl (zaP bn.range' (zaa (za8 5 bn.len') zag)) (zam 8 nd)
  (zad (zk0 7 (zrx rfl bn.max' (zaa (zce (zak 5 (zab 8)) zah) (zaa (zbJ (zab 6) (zkf rfl bn.sum' (zaa (SO.se (zfG [] 1 ["span"] rfl (zc3 (zhs (zab 5) (zb5 (zaM (zab 8) zah)) zjI)) (fun C s H fp => (zam 0 ndk)) (fun C s H fp => zaS) (fun C s H fp => (zak 0 zah)))) zag))) zag))))
  (zaj (zap 6 (zbJ (zab 6) (zak 7 (zab 8))) nd))))
  (zad (zap 9 (zcX bn.tuple' (zaa (SO.se (so_lcM [7, 1] 1 0 7 ["firsts", "mores", "place"] rfl (zaP bn.range' (zaa (za8 1 bn.len') zag)) (fun C s H fp => (zam 2 ndk)) (fun C s H fp => zaS) (fun C s H fp => (zaM (zak 0 (zbU (zab 2) (za8 0 bn.len'))) (zak 1 (zab 2)))))) zag)) nd)
  (zaj (zaI (se_ifExp (zbs (zal zaC hr (zaa (zab 0) (zaa (zab 9) zag)) (hlen:=(zac (zac zai))))) (zab 9) zjj))))))))))))
abbrev ziI:Stmt:=top 55
def zkh:MS:=
 (sIf (tTru (m2 dIsN (eVar 2) (eC .non)))
  (sSet 3 (zaB zcq (zaf (eVar 0) (zaf (eVar 1) aNil))))
  (sSet 3 (zaB zbe (zaf (eVar 0) (zaf (eVar 2) aNil)))))
def zbN:MX:=
 (xIfE (tTru (m2 dIsN (eVar 2) (eC .non))) (zqn zf6 (zaf (eVar 0) (zaf (eVar 1) aNil))) (zqn zcv (zaf (eVar 0) (zaf (eVar 2) aNil))))
def zef:MS:=
 (zij 3)
def zeu:MS:=
 (sSeq (sSet 3 (eC .non))
  (sSeq (sTry zkh zbN ["NoNumber", "NoFit"] 3 4)
  zef))
def zba:List D->Option Sl:=fP 5 zeu
theorem zlR (zdP:FD P w K mg base 7 "ring_at" (spP K 2 zcq))(zbg:FD P w K mg base 6 "ring_number" (spP K 2 zbe))(zhV:FDX P w K mg base 7 "ring_at" (spX K 2 zf6))(zdY:FDX P w K mg base 3 "ring_number" (spX K 2 zcv))(h:FnAt K "_law_heard" ziI):FD P w K mg base 8 "_law_heard" (spP K 3 zba):=
 fdP (N:=["ring","number","row","found","e"]) (k:=7) (m:=zeu) X G h fun _ _ _ _ _ _ _ hr nd=>(zad (zap 3 zjj nd)
  (zad (ss_try 3 4 ⟨rfl, rfl, rfl⟩ (fun pins => (zaj (zbD (st_is (zab 2) zjj)
  (zaj (zap 3 (zal zdP hr (zaa (zab 0) (zaa (zab 1) zag)) (hlen:=(zac (zac zai)))) nd))
  (zaj (zap 3 (zal zbg hr (zaa (zab 0) (zaa (zab 2) zag)) (hlen:=(zac (zac zai)))) nd))))) (fun pins F S E hx=>(zfl (xs_ife (st_is (zab 2) zjj) (zfl (xs_set 3 (zrZ zhV hx hr (zaa (zab 0) (zaa (zab 1) zag)) (hlen:=(zac (zac zai)))) nd)) (zfl (xs_set 3 (zrZ zdY hx hr (zaa (zab 0) (zaa (zab 2) zag)) (hlen:=(zac (zac zai)))) nd))))) bn.t_SumError nd)
  (zaj (zd1 3))))
abbrev zeB:Stmt:=top 56
def zdE:ME:=
 (zaB zcq (zaf (eVar 0) (zaf (eVar 1) aNil)))
def zdG:MO:=
 oLC [0] 1 (iSeq (eVar 3)) (gN 1) zcx zdE
def zdg:MS:=
 (sIf (tOrM (tTru (m2 dNe (zaB zbe (zaf (eVar 0) (zaf (eIxV 4 (eVar 5)) aNil))) (eIxV 3 (eVar 5)))) (tTru (m2 dNe (zaB zbe (zaf (eVar 0) (zaf (eFz (oC zaR (zaf (eIxV 4 (eVar 5)) aNil))) aNil))) (eIxV 3 (eVar 5)))))
  (sRet (eC (.bl false)))
  zbM)
def zdx:MS:=
 (sSeq (sIf (tOrM (zgc (tTru (zaB zbY (zaf (eIxV 4 (eVar 5)) aNil)))) (zgc (tTru (zaB zay (zaf (eVar 0) (zaf (eIxV 4 (eVar 5)) aNil))))))
  (sRet (eC (.bl false)))
  zbM)
  zdg)
def zdw:MS:=
 sFor (iR1 (zaf (eC (.int 4)) aNil)) (gN 5) zdx
def zde:ME:=
 (eTup (zaf (m2 dLtT (eIxV 0 (eVar 2)) (eIxV 0 (m2 dAdd (eVar 2) (eC (.int 1))))) (zaf (m2 dLt (eIxV 1 (eVar 2)) (eIxV 1 (m2 dAdd (eVar 2) (eC (.int 1))))) aNil)))
def zdo:MO:=
 oLC [4,3] 1 (iR1 (zaf (eC (.int 3)) aNil)) (gN 2) zcx zde
def zdK:ME:=
 (m2 dEq (eVar 0) (eVar 1))
def zdJ:MO:=
 oLC [] 2 (iSeq (eVar 6)) (gT 2 (zaY (gN 0) (zaY (gN 1) zhk))) zcx zdK
def zdD:MS:=
 (sSeq zdw
  (sSeq (sSet 6 (eFz zdo))
  (sRet (eAnd (mC (dAll fun bs=>bs.all id) (zaf (eFz zdJ) aNil)) (m2 dEq (eVar 4) (eFz (oC dSrt (zaf (eVar 4) aNil))))))))
def zcS:MS:=
 (sSeq (sSet 3 (eTup (zaf (eC (.int 0)) (zaf (eVar 2) (zaf (mC (d2I min2) (zaf (m2 dAdd (eVar 2) (eC (.int 1))) (zaf (m2 dSub (eVar 1) (eC (.int 1))) aNil))) (zaf (m2 dSub (eVar 1) (eC (.int 1))) aNil))))))
  (sSeq (sSet 4 (eFz zdG))
  (sSeq (sIf (tTru (m2 dNe (eIxV 4 (eC (.int 0))) (zaB zaJ (zaf (eVar 0) aNil))))
  (sRet (eC (.bl false)))
  zbM)
  zdD)))
def zbk:List D->Option Sl:=fP 7 zcS
theorem ziK (zeg:FD P w K mg base 2 "_law_numbers" (spP K 1 zbY))(zaC:FD P w K mg base 2 "_law_ring_fits" (spP K 2 zay))(zaZ:FD P w K mg base 3 "_law_ring_least" (spP K 1 zaJ))(zdP:FD P w K mg base 7 "ring_at" (spP K 2 zcq))(zbg:FD P w K mg base 6 "ring_number" (spP K 2 zbe))(h:FnAt K "_law_rows_right" zeB):FD P w K mg base 8 "_law_rows_right" (spP K 3 zbk):=
 fdP (N:=["ring","many","at","numbers","rows","k","pairs"]) (k:=7) (m:=zcS) X G h fun _ _ _ _ _ _ _ hr nd=>(zad (zap 3 (zbV (zaa zah (zaa (zab 2) (zaa (zrz rfl bn.min' (zaa (zaM (zab 2) zah) (zaa (zbJ (zab 1) zah) zag))) (zaa (zbJ (zab 1) zah) zag))))) nd)
  (zad (zap 4 (SO.se (zfG [0] 1 ["ring", "number"] rfl (zc3 (zab 3)) (fun C s H fp => (zam 1 ndk)) (fun C s H fp => zaS) (fun C s H fp => (zal zdP hr (zaa (zab 0) (zaa (zab 1) zag)) (hlen := (zac (zac zai))))))) nd)
  (zad (zbD (zmW hr.units (zak 4 zah) (zal zaZ hr (zaa (zab 0) zag) (hlen := (zac zai))))
  (zaj (zaI zjq))
  zaE)
  (zad (zdt qcA rfl (zaP bn.range' (zaa zah zag)) (zam 5 nd)
  (zad (zbD (STw.st (zmu (zd0 (zbs (zal zeg hr (zaa (zak 4 (zab 5)) zag) (hlen := (zac zai))))) (zkN (zd0 (zbs (zal zaC hr (zaa (zab 0) (zaa (zak 4 (zab 5)) zag)) (hlen := (zac (zac zai)))))))))
  (zaj (zaI zjq))
  zaE)
  (zaj (zbD (STw.st (zmu (zmW hr.units (zal zbg hr (zaa (zab 0) (zaa (zak 4 (zab 5)) zag)) (hlen := (zac (zac zai)))) (zak 3 (zab 5))) (zkN (zmW hr.units (zal zbg hr (zaa (zab 0) (zaa (SO.se (zlT bn.list' (zaa (zak 4 (zab 5)) zag))) zag)) (hlen := (zac (zac zai)))) (zak 3 (zab 5))))))
  (zaj (zaI zjq))
  zaE))))
  (zad (zjP 6 [4, 3] 1 ["rows", "numbers", "k"] rfl (zaP bn.range' (zaa zah zag)) (fun C s H fp => (zam 2 ndk)) (fun C s H fp => zaS) (fun C s H fp => (zbV (zaa (se_ltT hr.units (zak 0 (zab 2)) (zak 0 (zaM (zab 2) zah))) (zaa (se_lt (zak 1 (zab 2)) (zak 1 (zaM (zab 2) zah))) zag)))) nd)
  (zaj (zaI (zmI (zm0 rfl bn.all' (zaa (SO.se (zfG [] 2 ["one","other"] rfl (zc3 (zab 6)) (fun C s H fp=>(zez rfl (zax (zam 0 ndk) (zax (zam 1 ndk) zcw)))) (fun C s H fp=>zaS) (fun C s H fp=>(zrH hr.units (zab 0) (zab 1))))) zag)) (zmQ (zrH hr.units (zab 4) (SO.se (zrs bn.sorted' (zaa (zab 4) zag)))))))))))))
abbrev zfL:Stmt:=top 57
def zcE:MS:=
 (zij 2)
def zcF:MS:=
 (sSeq (sIf (tTru (m2 dEq (eVar 3) (eC (.int 3))))
  (sSeq (sSet 6 (zbz zaq 0 (zaf (zcY 2) aNil)))
  (sAsg (eTup (zaf (eIxV 2 (eVar 6)) (zaf (eIxV 2 (eVar 4)) aNil))) (gT 2 (zaY (gS 2 (eVar 4)) (zaY (gS 2 (eVar 6)) zhk)))))
  zbM)
  zcE)
def zco:MS:=
 (sSeq (sIf (tTru (m2 dEq (eVar 3) (eC (.int 2))))
  (sExpr (ePop 2 (eVar 4)))
  zbM)
  zcF)
def zcC:MS:=
 (sSeq (sIf (tTru (m2 dEq (eVar 3) (eC (.int 1))))
  (sIns 2 (zaf (eVar 4) (zaf (eVar 5) aNil)))
  zbM)
  zco)
def zek:MS:=
 (sSeq (zft 2 (oC zaR (zaf (eVar 1) aNil)))
  (sSeq (sSet 3 (zbz zaq 0 (zaf (eC (.int 4)) aNil)))
  (sSeq (sSet 4 (zbz zaq 0 (zaf (zcY 2) aNil)))
  (sSeq (sSet 5 (m2 dIx (eTup (zaf (eC (.int 1)) (zaf (m1 dNeg (eC (.int 1))) (zaf (m2 dPow (eC (.int 10)) (eC (.int 59))) (zaf (m1 dNeg (m2 dPow (eC (.int 10)) (eC (.int 59)))) aNil))))) (zbz zaq 0 (zaf (eC (.int 4)) aNil))))
  (sSeq (sIf (tTru (m2 dEq (eVar 3) (eC (.int 0))))
  (sPut 2 (eVar 4) (m2 dAdd (eIxV 2 (eVar 4)) (eVar 5)))
  zbM)
  zcC)))))
def zbB:List D->List D->Option (Sl×List D):=fM 7 zek
theorem zjo (zao:FD P w K mg base 1 "_law_take" (spM K 2 zaq))(h:FnAt K "_law_bent_row" zfL):FD P w K mg base 2 "_law_bent_row" (spM K 2 zbB):=
 fdM (N:=["pot","row","some","way","at","more","other"]) (k:=1) (m:=zek) X G h fun _ _ _ _ _ _ _ hr nd=>(zad (zeL 2 (zlT bn.list' (zaa (zab 1) zag)) nd)
  (zad (zap 3 (zaT 0 zao hr (zaa zah zag) (zeK (zac zai))) nd)
  (zad (zap 4 (zaT 0 zao hr (zaa (za8 2 bn.len') zag) (zeK (zac zai))) nd)
  (zad (zap 5 (zce (zbV (zaa zah (zaa (zj4 zah) (zaa (zhl zah zah) (zaa (zj4 (zhl zah zah)) zag))))) (zaT 0 zao hr (zaa zah zag) (zeK (zac zai)))) nd)
  (zad (zbD (ziX hr.units (zab 3) zah)
  (zaj (ziN 2 (zaM (zak 2 (zab 4)) (zab 5)) (zab 4)))
  zaE)
  (zad (zbD (ziX hr.units (zab 3) zah)
  (zaj (ss_ins 2 (zaa (zab 4) (zaa (zab 5) zag))))
  zaE)
  (zad (zbD (ziX hr.units (zab 3) zah)
  (zaj (ss_expr (se_pop 2 (zab 4))))
  zaE)
  (zad (zbD (ziX hr.units (zab 3) zah)
  (zad (zap 6 (zaT 0 zao hr (zaa (za8 2 bn.len') zag) (zeK (zac zai))) nd)
  (zaj (zoM (zbV (zaa (zak 2 (zab 6)) (zaa (zak 2 (zab 4)) zag))) (zez rfl (zax (sg_sub 2 (zab 4)) (zax (sg_sub 2 (zab 6)) zcw))))))
  zaE)
  (zaj (zd1 2))))))))))
abbrev zm2:Stmt:=top 58
def zoy:MS:=
 (sIf (zgc (tTru (zaB zbd (zaf (zaB zba (zaf (eVar 3) (zaf (eVar 7) (zaf (eC .non) aNil)))) (zaf (eC (.int 2)) aNil)))))
  (sRet (eC (.bl false)))
  zbM)
def zoE:MS:=
 sFor (iSeq (eTup (zaf (m1 dNeg (eC (.int 1))) (zaf (eVar 4) (zaf (m2 dAdd (eVar 4) (eVar 5)) (zaf (m2 dSub (m1 dNeg (eC (.int 1))) (eVar 5)) aNil)))))) (gN 7) zoy
def zlm:MS:=
 (sIf (tTru (m2 dNe (eVar 8) (eVar 9)))
  (sRet (eC (.bl false)))
  zbM)
def zlA:MS:=
 (sSeq zoE
  (sSeq (sSet 8 (zbz zbB 2 (zaf (eVar 6) aNil)))
  (sSeq (sSet 9 (eFz (oC zaR (zaf (eVar 8) aNil))))
  (sSeq (sIf (zgc (tTru (zaB zay (zaf (eVar 3) (zaf (eVar 8) aNil)))))
  (sIf (tOrM (zgc (tTru (zaB zbd (zaf (zaB zba (zaf (eVar 3) (zaf (eC (.int 0)) (zaf (eVar 8) aNil)))) (zaf (eC (.int 1)) aNil))))) (zgc (tTru (zaB zbd (zaf (zaB zba (zaf (eVar 3) (zaf (eC (.int 0)) (zaf (mC zcG (zaf (eVar 8) aNil)) aNil)))) (zaf (eC (.int 1)) aNil))))))
  (sRet (eC (.bl false)))
  zbM)
  zbM)
  zlm))))
def zod:MS:=
 (sSeq (zft 2 (zpG zeb (zaf (eVar 1) aNil)))
  (sSeq (sSet 3 (zbz zem 2 (zaf (eC (.int 24)) aNil)))
  (sSeq (sSet 4 (zaB zbf (zaf (eVar 3) aNil)))
  (sSeq (sSet 5 (zbz zaq 2 (zaf (m2 dPow (eC (.int 10)) (eC (.int 18))) aNil)))
  (sSeq (sSet 6 (eIxV 3 (eC (.int 2))))
  (sSeq (sIf (tTru (m2 dGt (eVar 4) (eC (.int 0))))
  (sSeq (sSet 6 (zaB zaJ (zaf (eVar 3) aNil)))
  (sIf (zgc (tTru (zaB zbk (zaf (eVar 3) (zaf (eVar 4) (zaf (m2 dMod (eVar 5) (eVar 4)) aNil))))))
  (sRet (eC (.bl false)))
  zbM))
  zbM)
  zlA))))))
def zoR:MS:=
 sFor (iSeq (m2 dAdd (eCut (eVar 0) pNo (zf1 (eC (.int 5)))) (eFz (oLst (zaf (eC (.int 0)) aNil))))) (gN 1) zod
def m_law:MS:=
 (sSeq zoR
  (sRet (eC (.bl true))))
def zmA:List D->Option Sl:=fP 10 m_law
theorem ok_law (zcj:FD P w K mg base 1 "_law_alone" (spP K 2 zbd))(zc9:FD P w K mg base 2 "_law_bent_row" (spM K 2 zbB))(zfU:FD P w K mg base 1 "_law_deal" (spP K 1 zeb))(zcl:FD P w K mg base 8 "_law_heard" (spP K 3 zba))(zgK:FD P w K mg base 3 "_law_ring" (spM K 2 zem))(zaC:FD P w K mg base 2 "_law_ring_fits" (spP K 2 zay))(zaZ:FD P w K mg base 3 "_law_ring_least" (spP K 1 zaJ))(zcD:FD P w K mg base 8 "_law_rows_right" (spP K 3 zbk))(zao:FD P w K mg base 1 "_law_take" (spM K 2 zaq))(zbb:FD P w K mg base 6 "ring_many" (spP K 1 zbf))(F:Fun K "law" "law" zm2 f fd):FnOk P w K mg base CX0 9 f fd ["script"] (spP K 1 zmA):=
 lawP (N:=["script","cell","pot","ring","many","far","row","number","bent","kept"]) (k:=8) (n:=1) (m:=m_law) F fun _ _ _ _ _ _ _ hr nd=>(zad (zdt qcA rfl (zc3 (zaM (zhs (zab 0) zjI (zb5 zah)) (SO.se (zfM (zaa zah zag))))) (zam 1 nd)
  (zad (zeL 2 (zlE zfU hr (zaa (zab 1) zag) (hlen := (zac zai))) nd)
  (zad (zap 3 (zaT 2 zgK hr (zaa zah zag) (zeK (zac zai))) nd)
  (zad (zap 4 (zal zbb hr (zaa (zab 3) zag) (hlen := (zac zai))) nd)
  (zad (zap 5 (zaT 2 zao hr (zaa (zhl zah zah) zag) (zeK (zac zai))) nd)
  (zad (zap 6 (zak 3 zah) nd)
  (zad (zbD (zrt (zab 4) zah)
  (zad (zap 6 (zal zaZ hr (zaa (zab 3) zag) (hlen := (zac zai))) nd)
  (zaj (zbD (zd0 (zbs (zal zcD hr (zaa (zab 3) (zaa (zab 4) (zaa (zbU (zab 5) (zab 4)) zag))) (hlen := (zac (zac (zac zai)))))))
  (zaj (zaI zjq))
  zaE)))
  zaE)
  (zad (zdt qcA rfl (zc3 (zbV (zaa (zj4 zah) (zaa (zab 4) (zaa (zaM (zab 4) (zab 5)) (zaa (zbJ (zj4 zah) (zab 5)) zag)))))) (zam 7 nd)
  (zaj (zbD (zd0 (zbs (zal zcj hr (zaa (zal zcl hr (zaa (zab 3) (zaa (zab 7) (zaa zjj zag))) (hlen := (zac (zac (zac zai))))) (zaa zah zag)) (hlen := (zac (zac zai))))))
  (zaj (zaI zjq))
  zaE)))
  (zad (zap 8 (zaT 2 zc9 hr (zaa (zab 6) zag) (zeK (zac zai))) nd)
  (zad (zap 9 (SO.se (zlT bn.list' (zaa (zab 8) zag))) nd)
  (zad (zbD (zd0 (zbs (zal zaC hr (zaa (zab 3) (zaa (zab 8) zag)) (hlen := (zac (zac zai))))))
  (zaj (zbD (STw.st (zmu (zd0 (zbs (zal zcj hr (zaa (zal zcl hr (zaa (zab 3) (zaa zah (zaa (zab 8) zag))) (hlen := (zac (zac (zac zai))))) (zaa zah zag)) (hlen := (zac (zac zai)))))) (zkN (zd0 (zbs (zal zcj hr (zaa (zal zcl hr (zaa (zab 3) (zaa zah (zaa (zcX bn.tuple' (zaa (zab 8) zag)) zag))) (hlen := (zac (zac (zac zai))))) (zaa zah zag)) (hlen := (zac (zac zai)))))))))
  (zaj (zaI zjq))
  zaE))
  zaE)
  (zaj (zbD (zmW hr.units (zab 8) (zab 9))
  (zaj (zaI zjq))
  zaE)))))))))))))
  (zaj (zaI zjq)))
end
set_option maxHeartbeats 0 in
theorem all_mk {l:W.OpenLaw}{w:World}{K:W.Frag}{h:Heap}{mg:Str->Option Value}{fa:Addr}(X:K.In h)(G:h.Ns mainGlobals mg)(hfa:mg "law"=some (.ref fa))
  (h1:FnAt K "less_mores" ziO)
  (h2:FnAt K "head_spans" zh7)
  (h3:FnAt K "row_by_heads" zgn)
  (h4:FnAt K "part_ways" zjg)
  (h5:FnAt K "heads_many" zh4)
  (h6:FnAt K "heads_below" zhF)
  (h7:FnAt K "first_head" zia)
  (h8:FnAt K "heads_at" zj0)
  (h9:FnAt K "heads_number" zfT)
  (h10:FnAt K "ring_sums" zji)
  (h11:FnAt K "row_within" ziF)
  (h12:FnAt K "ring_holds" zh2)
  (h13:FnAt K "rounds_many" zhu)
  (h14:FnAt K "round_walk" ziq)
  (h15:FnAt K "round_closes" zga)
  (h16:FnAt K "ring_mores" zid)
  (h17:FnAt K "head_times" ziB)
  (h18:FnAt K "heads_sum" zjf)
  (h19:FnAt K "ring_total" ziC)
  (h20:FnAt K "sums_paper" ziG)
  (h21:FnAt K "ring_lows" zjm)
  (h22:FnAt K "ring_highs" ziA)
  (h23:FnAt K "round_spans" zhx)
  (h24:FnAt K "ring_many" zjd)
  (h25:FnAt K "ring_at" ziZ)
  (h26:FnAt K "ring_number" zeO)
  (h27:FnAt K "_law_deal" zja)
  (h28:FnAt K "_law_take" zi9)
  (h29:FnAt K "_law_whole" zib)
  (h30:FnAt K "_law_numbers" zfV)
  (h31:FnAt K "_law_alone" ziu)
  (h32:FnAt K "_law_divisor" zgA)
  (h33:FnAt K "_law_ring_sums" zfb)
  (h34:FnAt K "_law_bent_ring" zfi)
  (h35:FnAt K "_law_ring" zjl)
  (h36:FnAt K "_law_ring_mores" zet)
  (h37:FnAt K "_law_ring_spans" zex)
  (h38:FnAt K "_law_ring_fits" zfh)
  (h39:FnAt K "_law_ring_least" zeC)
  (h40:FnAt K "_law_heard" ziI)
  (h41:FnAt K "_law_rows_right" zeB)
  (h42:FnAt K "_law_bent_row" zfL)
  (h43:FnAt K "law" zm2)
  (z0:W.nsIn K mainGlobals "ValueError"=some none) (z1:W.nsIn K mainGlobals "all"=some none) (z2:W.nsIn K mainGlobals "any"=some none) (z3:W.nsIn K mainGlobals "bool"=some none) (z4:W.nsIn K mainGlobals "enumerate"=some none) (z5:W.nsIn K mainGlobals "int"=some none) (z6:W.nsIn K mainGlobals "isinstance"=some none) (z7:W.nsIn K mainGlobals "len"=some none) (z8:W.nsIn K mainGlobals "list"=some none) (z9:W.nsIn K mainGlobals "max"=some none) (z10:W.nsIn K mainGlobals "min"=some none) (z11:W.nsIn K mainGlobals "range"=some none) (z12:W.nsIn K mainGlobals "sorted"=some none) (z13:W.nsIn K mainGlobals "sum"=some none) (z14:W.nsIn K mainGlobals "tuple"=some none) (z15:W.nsIn K mainGlobals "zip"=some none) {zan:Addr} (zaK:W.nsIn K mainGlobals "NoNumber"=some (some (.ref zan))) {zaz:Addr} (zbK:W.nsIn K mainGlobals "NoFit"=some (some (.ref zaz))) {zbo:Addr} (zhh:W.nsIn K mainGlobals "SumError"=some (some (.ref zbo))) {zch:Addr} (zgT:W.nsIn K mainGlobals "BadTelling"=some (some (.ref zch))) {zg7:Addr} (zla:W.nsIn K mainGlobals "NoPast"=some (some (.ref zg7))) {zeX:Addr} (zjW:W.nsIn K mainGlobals "NoPlace"=some (some (.ref zeX))) {zi5:Addr} (znS:W.nsIn K mainGlobals "NoRow"=some (some (.ref zi5))) {zhi:Addr} (zlN:W.nsIn K mainGlobals "NoText"=some (some (.ref zhi))) {zeZ:Addr} (zj6:W.nsIn K mainGlobals "NotTwos"=some (some (.ref zeZ))) {zhe:Addr} (zlk:W.nsIn K mainGlobals "Unlike"=some (some (.ref zhe))) (hsp:W.specialIn K (.builtin "object.__class__") "__get__"=some (some (.builtin "getset_descriptor.__get__"))) (htk:W.takesIn K (.builtin "object.__class__")=some true) {nm_NoNumber qn_NoNumber:Str} {N_NoNumber:Addr} {bs_NoNumber sub_NoNumber:List Value} {hd_NoNumber ab_NoNumber:Bool} {sn_NoNumber:List Str} {col_NoNumber:Option Bool} {dd_NoNumber:Option Addr} {j0_NoNumber j1_NoNumber j2_NoNumber j3_NoNumber j5_NoNumber:Option Value} (zcO:K.lookup zan=some (excClassObj nm_NoNumber qn_NoNumber zan N_NoNumber bs_NoNumber (.ref zbo::bmV) hd_NoNumber sn_NoNumber sub_NoNumber ab_NoNumber col_NoNumber dd_NoNumber j0_NoNumber j1_NoNumber j2_NoNumber j3_NoNumber j5_NoNumber "ValueError.__new__")) (zhL:W.nsIn K N_NoNumber "__init__"=some none) {cN_NoNumber:Value} {dN_NoNumber:Option Addr} {es_NoNumber:List DictEntry} {ep_NoNumber:Nat} {sN_NoNumber:Array (Option Value)} (zhW:K.lookup N_NoNumber=some ⟨cN_NoNumber,dN_NoNumber,.dict es_NoNumber.toArray ep_NoNumber,sN_NoNumber⟩) (zhK:(es_NoNumber.all fun e=>match e.key with| .str _ _=>true|_=>false)=true) {nm_NoFit qn_NoFit:Str} {N_NoFit:Addr} {bs_NoFit sub_NoFit:List Value} {hd_NoFit ab_NoFit:Bool} {sn_NoFit:List Str} {col_NoFit:Option Bool} {dd_NoFit:Option Addr} {j0_NoFit j1_NoFit j2_NoFit j3_NoFit j5_NoFit:Option Value} (zg1:K.lookup zaz=some (excClassObj nm_NoFit qn_NoFit zaz N_NoFit bs_NoFit (.ref zbo::bmV) hd_NoFit sn_NoFit sub_NoFit ab_NoFit col_NoFit dd_NoFit j0_NoFit j1_NoFit j2_NoFit j3_NoFit j5_NoFit "ValueError.__new__")) (zlP:W.nsIn K N_NoFit "__init__"=some none) {cN_NoFit:Value} {dN_NoFit:Option Addr} {es_NoFit:List DictEntry} {ep_NoFit:Nat} {sN_NoFit:Array (Option Value)} (zlr:K.lookup N_NoFit=some ⟨cN_NoFit,dN_NoFit,.dict es_NoFit.toArray ep_NoFit,sN_NoFit⟩) (zl3:(es_NoFit.all fun e=>match e.key with| .str _ _=>true|_=>false)=true) {nm_SumError qn_SumError:Str} {N_SumError:Addr} {bs_SumError sub_SumError:List Value} {hd_SumError ab_SumError:Bool} {sn_SumError:List Str} {col_SumError:Option Bool} {dd_SumError:Option Addr} {j0_SumError j1_SumError j2_SumError j3_SumError j5_SumError:Option Value} (zbO:K.lookup zbo=some (excClassObj nm_SumError qn_SumError zbo N_SumError bs_SumError bmV hd_SumError sn_SumError sub_SumError ab_SumError col_SumError dd_SumError j0_SumError j1_SumError j2_SumError j3_SumError j5_SumError "ValueError.__new__")) (zfn:W.nsIn K N_SumError "__init__"=some none) {cN_SumError:Value} {dN_SumError:Option Addr} {es_SumError:List DictEntry} {ep_SumError:Nat} {sN_SumError:Array (Option Value)} (zfF:K.lookup N_SumError=some ⟨cN_SumError,dN_SumError,.dict es_SumError.toArray ep_SumError,sN_SumError⟩) (zfB:(es_SumError.all fun e=>match e.key with| .str _ _=>true|_=>false)=true) {oc_BadTelling:Value} {od_BadTelling:Option Addr} {cd_BadTelling:ClassData} {sl_BadTelling:Array (Option Value)} (zdM:K.lookup zch=some ⟨oc_BadTelling,od_BadTelling,.cls cd_BadTelling,sl_BadTelling⟩) {oc_NoPast:Value} {od_NoPast:Option Addr} {cd_NoPast:ClassData} {sl_NoPast:Array (Option Value)} (ziJ:K.lookup zg7=some ⟨oc_NoPast,od_NoPast,.cls cd_NoPast,sl_NoPast⟩) {oc_NoPlace:Value} {od_NoPlace:Option Addr} {cd_NoPlace:ClassData} {sl_NoPlace:Array (Option Value)} (zhg:K.lookup zeX=some ⟨oc_NoPlace,od_NoPlace,.cls cd_NoPlace,sl_NoPlace⟩) {oc_NoRow:Value} {od_NoRow:Option Addr} {cd_NoRow:ClassData} {sl_NoRow:Array (Option Value)} (zjF:K.lookup zi5=some ⟨oc_NoRow,od_NoRow,.cls cd_NoRow,sl_NoRow⟩) {oc_NoText:Value} {od_NoText:Option Addr} {cd_NoText:ClassData} {sl_NoText:Array (Option Value)} (zh3:K.lookup zhi=some ⟨oc_NoText,od_NoText,.cls cd_NoText,sl_NoText⟩) {oc_NotTwos:Value} {od_NotTwos:Option Addr} {cd_NotTwos:ClassData} {sl_NotTwos:Array (Option Value)} (zhb:K.lookup zeZ=some ⟨oc_NotTwos,od_NotTwos,.cls cd_NotTwos,sl_NotTwos⟩) {oc_Unlike:Value} {od_Unlike:Option Addr} {cd_Unlike:ClassData} {sl_Unlike:Array (Option Value)} (ziL:K.lookup zhe=some ⟨oc_Unlike,od_Unlike,.cls cd_Unlike,sl_Unlike⟩) (zd2:W.typeIn K (.ref zan)=some (.type "type")) (zil:W.typeIn K (.ref zaz)=some (.type "type")) (zcQ:W.typeIn K (.ref zbo)=some (.type "type")) (zdL:W.typeIn K (.ref zch)=some (.type "type")) (ziv:W.typeIn K (.ref zg7)=some (.type "type")) (zhf:W.typeIn K (.ref zeX)=some (.type "type")) (zjB:W.typeIn K (.ref zi5)=some (.type "type")) (zix:W.typeIn K (.ref zhi)=some (.type "type")) (zhj:W.typeIn K (.ref zeZ)=some (.type "type")) (zie:W.typeIn K (.ref zhe)=some (.type "type")) (zfC:W.mroIn K zbo (.type "BaseException")=some true) (zhY:W.mroIn K zan (.type "BaseException")=some true) (zgg:W.findIn K (.ref zan) "__getattribute__"=some (some (.builtin "BaseException.__getattribute__"))) (zgP:W.findIn K (.ref zan) "__getattr__"=some none) (zhO:W.findIn K (.ref zan) "__class__"=some (some (.builtin "object.__class__"))) (zhQ:W.mroIn K zan (.type "object")=some true) (zau:W.mroIn K zan (.ref zan)=some true) (zbr:W.mroIn K zan (.ref zbo)=some true) (zbC:W.mroIn K zan (.ref zch)=some false) (zc8:W.mroIn K zan (.ref zaz)=some false) (zcK:W.mroIn K zan (.ref zg7)=some false) (zcB:W.mroIn K zan (.ref zeX)=some false) (zda:W.mroIn K zan (.ref zi5)=some false) (zcP:W.mroIn K zan (.ref zhi)=some false) (zct:W.mroIn K zan (.ref zeZ)=some false) (zcH:W.mroIn K zan (.ref zhe)=some false) (zbL:W.mroIn K zan (.type "ValueError")=some true) (zlK:W.mroIn K zaz (.type "BaseException")=some true) (zjX:W.findIn K (.ref zaz) "__getattribute__"=some (some (.builtin "BaseException.__getattribute__"))) (zjR:W.findIn K (.ref zaz) "__getattr__"=some none) (zl8:W.findIn K (.ref zaz) "__class__"=some (some (.builtin "object.__class__"))) (zk5:W.mroIn K zaz (.type "object")=some true) (zaO:W.mroIn K zaz (.ref zaz)=some true) (zb1:W.mroIn K zaz (.ref zbo)=some true) (zcr:W.mroIn K zaz (.ref zch)=some false) (zc7:W.mroIn K zaz (.ref zan)=some false) (zeF:W.mroIn K zaz (.ref zg7)=some false) (zeh:W.mroIn K zaz (.ref zeX)=some false) (zfz:W.mroIn K zaz (.ref zi5)=some false) (zeP:W.mroIn K zaz (.ref zhi)=some false) (zd5:W.mroIn K zaz (.ref zeZ)=some false) (zeR:W.mroIn K zaz (.ref zhe)=some false) (zcp:W.mroIn K zaz (.type "ValueError")=some true):
  ∃fd:FuncData,(∀(s:Shared) (v:Value),BindsTo s fd ⟨[v],[]⟩ [("script",v)])/\∀base:Heap,K.In base->base.Ns mainGlobals mg->FnOk l.prog w K mg base CX0 9 fa fd ["script"] (spP K 1 zmA):=by
 have za9:ExcC K zan:=⟨zoo zhY,zgg,zgP,zhO,hsp,htk,zhQ,zbA zcO,zd2⟩;have zcy:ExcC K zaz:=⟨zoo zlK,zjX,zjR,zl8,hsp,htk,zk5,zbA zg1,zil⟩;have bn:BN K mg:=⟨⟨zan,W.mg_of X G zaK,zaK,zov zcO zbO zhL zfn (ns_ok zhW zhK) (ns_ok zfF zfB)⟩,⟨zaz,W.mg_of X G zbK,zbK,zov zg1 zbO zlP zfn (ns_ok zlr zl3) (ns_ok zfF zfB)⟩,⟨zbo,W.mg_of X G zhh,(zoO ⟨zan,zaK,zrA zfC (zbA zbO) zcQ zbr⟩ (zoO ⟨zaz,zbK,zrA zfC (zbA zbO) zcQ zb1⟩ cat_nil))⟩,⟨zch,W.mg_of X G zgT,(zaQ ⟨zan,zaK,za9,za2 zau (zbA zdM) zdL zbC⟩ (zaQ ⟨zaz,zbK,zcy,za2 zaO (zbA zdM) zdL zcr⟩ zel))⟩,⟨zaz,W.mg_of X G zbK,(zaQ ⟨zan,zaK,za9,za2 zau (zbA zg1) zil zc8⟩ (zaQ ⟨zaz,zbK,zcy,zjs (zbA zg1) zil zaO⟩ zel))⟩,⟨zan,W.mg_of X G zaK,(zaQ ⟨zan,zaK,za9,zjs (zbA zcO) zd2 zau⟩ (zaQ ⟨zaz,zbK,zcy,za2 zaO (zbA zcO) zd2 zc7⟩ zel))⟩,⟨zg7,W.mg_of X G zla,(zaQ ⟨zan,zaK,za9,za2 zau (zbA ziJ) ziv zcK⟩ (zaQ ⟨zaz,zbK,zcy,za2 zaO (zbA ziJ) ziv zeF⟩ zel))⟩,⟨zeX,W.mg_of X G zjW,(zaQ ⟨zan,zaK,za9,za2 zau (zbA zhg) zhf zcB⟩ (zaQ ⟨zaz,zbK,zcy,za2 zaO (zbA zhg) zhf zeh⟩ zel))⟩,⟨zi5,W.mg_of X G znS,(zaQ ⟨zan,zaK,za9,za2 zau (zbA zjF) zjB zda⟩ (zaQ ⟨zaz,zbK,zcy,za2 zaO (zbA zjF) zjB zfz⟩ zel))⟩,⟨zhi,W.mg_of X G zlN,(zaQ ⟨zan,zaK,za9,za2 zau (zbA zh3) zix zcP⟩ (zaQ ⟨zaz,zbK,zcy,za2 zaO (zbA zh3) zix zeP⟩ zel))⟩,⟨zeZ,W.mg_of X G zj6,(zaQ ⟨zan,zaK,za9,za2 zau (zbA zhb) zhj zct⟩ (zaQ ⟨zaz,zbK,zcy,za2 zaO (zbA zhb) zhj zd5⟩ zel))⟩,⟨zbo,W.mg_of X G zhh,(zaQ ⟨zan,zaK,za9,zjs (zbA zbO) zcQ zbr⟩ (zaQ ⟨zaz,zbK,zcy,zjs (zbA zbO) zcQ zb1⟩ zel))⟩,⟨zhe,W.mg_of X G zlk,(zaQ ⟨zan,zaK,za9,za2 zau (zbA ziL) zie zcH⟩ (zaQ ⟨zaz,zbK,zcy,za2 zaO (zbA ziL) zie zeR⟩ zel))⟩,(zaQ ⟨zan,zaK,za9,zo4 (by decide+kernel) zbL⟩ (zaQ ⟨zaz,zbK,zcy,zo4 (by decide+kernel) zcp⟩ zel)),qcB X G z0,qcB X G z1,qcB X G z2,qcB X G z3,qcB X G z4,qcB X G z5,qcB X G z6,qcB X G z7,qcB X G z8,qcB X G z9,qcB X G z10,qcB X G z11,qcB X G z12,qcB X G z13,qcB X G z14,qcB X G z15⟩;obtain⟨a,b,c,d,e,f,T⟩:=h43.law X G hfa;refine⟨W.fnOf "law" "law" (zgQ zm2) (zca zm2) (zaA zm2) .none a b c d e f,fun s v=> .of_eq rfl,fun base _ _=>?_⟩;have zbS:=zlX (P:=l.prog) (w:=w) (base:=base) X G bn h1;have zfp:=zlW (P:=l.prog) (w:=w) (base:=base) X G bn h2;have zd7:=zkc (P:=l.prog) (w:=w) (base:=base) X G bn h3;have zgF:=zmm (P:=l.prog) (w:=w) (base:=base) X G bn h4;have zbR:=zl9 (P:=l.prog) (w:=w) (base:=base) X G bn zgF h5;have zaU:=zkw (P:=l.prog) (w:=w) (base:=base) X G bn zbR h6;have zfD:=zlu (P:=l.prog) (w:=w) (base:=base) X G bn zaU h7;have zhS:=znP (P:=l.prog) (w:=w) (base:=base) X G bn zfD zaU h8;have zep:=zj2 (P:=l.prog) (w:=w) (base:=base) X G bn zaU h9;have zgl:=zna (P:=l.prog) (w:=w) (base:=base) X G bn h10;have zfI:=zlM (P:=l.prog) (w:=w) (base:=base) X G bn h11;have zbT:=zk9 (P:=l.prog) (w:=w) (base:=base) X G bn zgl zfI h12;have zaw:=zks (P:=l.prog) (w:=w) (base:=base) X G bn h13;have zbQ:=zk7 (P:=l.prog) (w:=w) (base:=base) X G bn zaw h14;have zej:=zj3 (P:=l.prog) (w:=w) (base:=base) X G bn zbQ h15
 have zaH:=zl1 (P:=l.prog) (w:=w) (base:=base) X G bn zbQ zaw h16;have zbP:=zlz (P:=l.prog) (w:=w) (base:=base) X G bn zaw h17;have zci:=zm7 (P:=l.prog) (w:=w) (base:=base) X G bn zaH h18;have za3:=zlG (P:=l.prog) (w:=w) (base:=base) X G bn zbP zci h19;have zfx:=zlf (P:=l.prog) (w:=w) (base:=base) X G bn zbP zci zej zaw h20;have zfZ:=zmZ (P:=l.prog) (w:=w) (base:=base) X G bn zbS zaH h21;have zfA:=zme (P:=l.prog) (w:=w) (base:=base) X G bn zbS zaH h22;have zaW:=zku (P:=l.prog) (w:=w) (base:=base) X G bn zfp zfA zfZ zaw h23;have zbb:=zmw (P:=l.prog) (w:=w) (base:=base) X G bn zbR za3 zaW zfx h24;have zdP:=zpn (P:=l.prog) (w:=w) (base:=base) X G bn zhS zbb zaH za3 zaW zd7 h25;have zhV:=znZ (P:=l.prog) (w:=w) (base:=base) X G bn zbb h25;have zbg:=zkt (P:=l.prog) (w:=w) (base:=base) X G bn zep zbT za3 zaW h26;have zdY:=zkp (P:=l.prog) (w:=w) (base:=base) X G bn zbT h26;have zfU:=zmV (P:=l.prog) (w:=w) (base:=base) X G bn h27;have zao:=zno (P:=l.prog) (w:=w) (base:=base) X G bn h28;have zfy:=zlV (P:=l.prog) (w:=w) (base:=base) X G bn h29;have zeg:=zj5 (P:=l.prog) (w:=w) (base:=base) X G bn zfy h30;have zcj:=zml (P:=l.prog) (w:=w) (base:=base) X G bn h31;have zbp:=zkd (P:=l.prog) (w:=w) (base:=base) X G bn h32;have za6:=zi3 (P:=l.prog) (w:=w) (base:=base) X G bn h33;have zcI:=ziR (P:=l.prog) (w:=w) (base:=base) X G bn zao h34;have zgK:=zm3 (P:=l.prog) (w:=w) (base:=base) X G bn zcI za6 zao h35;have zcn:=zh9 (P:=l.prog) (w:=w) (base:=base) X G bn zbp h36;have zck:=ziH (P:=l.prog) (w:=w) (base:=base) X G bn zbp h37;have zaC:=zi2 (P:=l.prog) (w:=w) (base:=base) X G bn za6 h38;have zaZ:=zio (P:=l.prog) (w:=w) (base:=base) X G bn zaC zcn zck h39;have zcl:=zlR (P:=l.prog) (w:=w) (base:=base) X G bn zdP zbg zhV zdY h40;have zcD:=ziK (P:=l.prog) (w:=w) (base:=base) X G bn zeg zaC zaZ zdP zbg h41;have zc9:=zjo (P:=l.prog) (w:=w) (base:=base) X G bn zao h42;exact ok_law X G bn zcj zc9 zfU zcl zgK zaC zaZ zcD zao zbb T
theorem walk {l:W.OpenLaw}{q:Program}{loose:List Str}{XP:(Str->Option Value)->Heap->Prop}{YP:World->Heap->Prop}{d:DefRec}{K:Params->W.Frag}(hn:l.most=some 63)(hdf:d.params.defaults=[])
  (hm:∀ns:List Int,ns.length<=63->zmA [.scr ns]=some (.val (.bl true)))
  (hY:∀(w:World) (h:Heap),YP w h->(K w.params).In h)
  (F : ∀ (w : World) (mg : Str -> Option Value) (fa : Addr) (h : Heap), (K w.params).In h -> h.Ns mainGlobals mg -> mg d.name = some (.ref fa) ->
   ∃fd:FuncData,(∀(s:Shared) (u:Value),BindsTo s fd ⟨[u],[]⟩ [("script",u)])/\∀base:Heap,(K w.params).In base->base.Ns mainGlobals mg->FnOk l.prog w (K w.params) mg base CX0 9 fa fd ["script"] (spP (K w.params) 1 zmA)):
  W.WalkO q loose XP YP l.row.toRowW d [] (fun f vs=>PySem.call f vs):=
 L2.walk_of (n:=63) (k:=9) (x:="script") (CX:=fun _=>CX0) (sp:=fun w=>spP (K w.params) 1 zmA) hn (by decide) hdf ⟨rfl,by decide,by decide,rfl⟩ hY F
  (fun w H a ns hl _ hS=>⟨H,[.scr ns],.val (.bl true),hm ns hl,rfl,Fz.refl H,.cons ⟨a,rfl,hS⟩ .nil,fun _ _ _ _ _ _ _ rr=>rr⟩) fun _ _ _ _ _ z=>z
end Prf
set_option exponentiation.threshold 5000
namespace Prf
open L2 M PySem
variable {n m j i p:Nat} {f g lo hi lo' hi' r h w G L:Nat->Int} {t v number x a:Int} {l:List Int} {met:List Nat} {c:MT} {F:Int->Int} {dr:D} {ds:List D} {ρ:M.R} {nss:List (List Int)}
theorem rep_w (n:Nat)(x:D):(List.replicate n [x]).flatten=wL n fun _=>x:=by
 induction n with
 |zero=>rfl
 |succ n ih=>rw[List.replicate_succ',List.flatten_append,ih,zf7];rfl
theorem zp2 (a b:Nat->Int)(hn:n<=1000):Ok (zbH [.tup (wI n a),.lst (wI n b)]) fun x=>x= .own (wI n fun p=>a p-b p):=by
 simp! only[↓zbH,↓zgD,↓zgN,zre];refine⟨by lia,zaL (fun ρ=>∃s s',ρ=[s,s']) (fun p=> .int (a p-b p)) ⟨_,_,rfl⟩ ?_ ?_⟩
 ·rintro i _ hi ⟨s,s',rfl⟩;simp! only[↓zgm];exact⟨_,_,rfl⟩
 ·rintro _ ⟨_,_,rfl⟩;simp! only[]
structure Span (f g:Nat->Int) (n m:Nat) (lo hi:Nat->Int):Prop where
 lm:∀j,j<m->∃p,p<n/\p%m=j/\f p=lo j
 lg:∀p,p<n->f p<=lo (p%m)
 hm:∀j,j<m->∃p,p<n/\p%m=j/\g p=hi j
 hg:∀p,p<n->hi (p%m)<=g p
def zbm (m:Nat)(lo hi:Nat->Int):List D:=wL m fun j=> .tup [.int (lo j),.int (hi j)]
theorem znw (f g:Nat->Int){n m:Nat}(hm:0<m)(hn:m<=n):∃lo hi:Nat->Int,Span f g n m lo hi/\∀j,j<m->zfs [.lst (zeT (wI n f) (some (j:Int)) none (some (m:Int)))]=some (.int (lo j))/\zjr [.lst (zeT (wI n g) (some (j:Int)) none (some (m:Int)))]=some (.int (hi j)):=by
 have h1:∀j,∃v,j<m->zfs [.lst (zeT (wI n f) (some (j:Int)) none (some (m:Int)))]=some (.int v)/\(∃p,p<n/\p%m=j/\f p=v)/\∀p,p<n->p%m=j->f p<=v:=fun j=>by
  by_cases hj:j<m
  ·obtain⟨v,h⟩:=max_pick f hm hj hn;exact⟨v,fun _=>h⟩
  ·exact⟨0,fun h=>absurd h hj⟩
 have h2:∀j,∃v,j<m->zjr [.lst (zeT (wI n g) (some (j:Int)) none (some (m:Int)))]=some (.int v)/\(∃p,p<n/\p%m=j/\g p=v)/\∀p,p<n->p%m=j->v<=g p:=fun j=>by
  by_cases hj:j<m
  ·obtain⟨v,h⟩:=min_pick g hm hj hn;exact⟨v,fun _=>h⟩
  ·exact⟨0,fun h=>absurd h hj⟩
 refine⟨fun j=>(h1 j).choose,fun j=>(h2 j).choose,⟨fun j hj=>((h1 j).choose_spec hj).2.1,fun p hp=>((h1 (p%m)).choose_spec (qcC _ hm)).2.2 p hp rfl,fun j hj=>((h2 j).choose_spec hj).2.1,fun p hp=>((h2 (p%m)).choose_spec (qcC _ hm)).2.2 p hp rfl⟩,fun j hj=>⟨((h1 j).choose_spec hj).1,((h2 j).choose_spec hj).1⟩⟩
theorem zis (s:Span f g n m lo hi)(t:Span f g n m lo' hi')(hj:j<m):lo j=lo' j/\hi j=hi' j:=by
 obtain⟨p,h1,h2,h3⟩:=s.lm j hj;obtain⟨p',h1',h2',h3'⟩:=t.lm j hj;obtain⟨q,k1,k2,k3⟩:=s.hm j hj;obtain⟨q',k1',k2',k3'⟩:=t.hm j hj;have a1:=s.lg p' h1';have a2:=t.lg p h1;have a3:=s.hg q' k1';have a4:=t.hg q k1;rw[h2']at a1;rw[h2]at a2;rw[k2']at a3;rw[k2]at a4;lia
theorem spans_ok (hm:0<m)(hn:m<=n)(h24:n<=1000)(sp:Span f g n m lo hi):Ok (zcZ [.lst (wI n f),.lst (wI n g),.int m]) fun x=>x= .own (zbm m lo hi):=by
 obtain⟨lo',hi',sp',e⟩:=znw f g hm hn;have el:zbm m lo' hi'=zbm m lo hi:=zdN fun j hj=>by rw[(zis sp' sp hj).1,(zis sp' sp hj).2]
 rw[<-el];simp! only[↓zcZ,↓zgL,↓zfY];refine⟨zcA (by lia) (by lia),by lia,zaL (fun ρ=>∃s,ρ=[.val (.lst (wI n f)),.val (.int m),.val (.lst (wI n g)),s]) (fun j=> .tup [.int (lo' j),.int (hi' j)]) ⟨_,rfl⟩ ?_ ?_⟩
 ·rintro j _ hj ⟨s,rfl⟩;have hk0:¬(some (m:Int)=some 0):=by intro h;have:=Option.some.inj h;lia
  obtain⟨e1,e2⟩:=e j hj;unfold zfs at e1;unfold zjr at e2;simp! only[↓zgv,dPick,hk0,e1,e2];exact⟨_,rfl⟩
 ·rintro _ ⟨s,rfl⟩;simp! only[]
  rfl
structure Room' (m:Nat) (lo hi:Nat->Int) (t:Int):Prop where
 le:∀j,j<m->lo j<=hi j
 low:sumR m lo<=t
 high:t<=sumR m hi
def left (lo hi:Nat->Int)(m:Nat)(t:Int):Nat->Int
 |0=>t
 |j+1=>left lo hi m t j-max2 (lo j) (left lo hi m t j-(sumR m hi-sumR (j+1) hi))
def hd (lo hi:Nat->Int)(m:Nat)(t:Int)(j:Nat):Int:=max2 (lo j) (left lo hi m t j-(sumR m hi-sumR (j+1) hi))
theorem zlc (lo hi:Nat->Int)(m:Nat)(t:Int):∀j,left lo hi m t j=t-sumR j (hd lo hi m t)
 |0=>by simp[left,sumR]
 |j+1=>by rw[sumR,left,zlc lo hi m t j,hd,zlc lo hi m t j];lia
theorem zn1 (a b:Int):(max2 a b=a\/max2 a b=b)/\a<=max2 a b/\b<=max2 a b:=by unfold max2;split<;>lia
theorem znM (r:Room' m lo hi t):∀j,j<=m->sumR m lo-sumR j lo<=left lo hi m t j/\left lo hi m t j<=sumR m hi-sumR j hi
 |0,_=>by have:=r.low;have:=r.high;simp[left,sumR];lia
 |j+1,h=>by
  have ih:=znM r j (by lia);have hj:=r.le j (by lia);obtain⟨c,c1,c2⟩:=zn1 (lo j) (left lo hi m t j-(sumR m hi-sumR (j+1) hi));have e:left lo hi m t (j+1)=left lo hi m t j-max2 (lo j) (left lo hi m t j-(sumR m hi-sumR (j+1) hi)):=rfl;rw[e];have key:sumR m lo-sumR (j+1) lo<=sumR m hi-sumR (j+1) hi:=by
   obtain⟨b,rfl⟩:∃b,m=j+1+b:=⟨m-(j+1),by lia⟩;rw[za7 lo (j+1) b,za7 hi (j+1) b];have:=zfq (f:=fun i=>lo (j+1+i)) (g:=fun i=>hi (j+1+i)) (n:=b) fun i hi'=>r.le _ (by lia)
   lia
  simp only[sumR]at*;rcases c with c|c<;>rw[c]at c1 c2 ⊢ <;>lia
theorem hd_in (r:Room' m lo hi t)(hj:j<m):lo j<=hd lo hi m t j/\hd lo hi m t j<=hi j:=by
 have h:=znM r j (by lia);have hjj:=r.le j hj;obtain⟨c,c1,c2⟩:=zn1 (lo j) (left lo hi m t j-(sumR m hi-sumR (j+1) hi));unfold hd;simp only[sumR]at*;rcases c with c|c<;>rw[c]at c1 c2 ⊢ <;>lia
theorem hd_sum (r:Room' m lo hi t):sumR m (hd lo hi m t)=t:=by
 have h:=znM r m (qaJ _);have e:=zlc lo hi m t m;lia
theorem hd_least {lo hi h':Nat->Int}(hh:∀j,j<m->lo j<=h' j/\h' j<=hi j)(hs:sumR m h'=t)(hj:j<m)(he:∀i,i<j->hd lo hi m t i=h' i):hd lo hi m t j<=h' j:=by
 have e:=zlc lo hi m t j;have e1:sumR j (hd lo hi m t)=sumR j h':=zar he;obtain⟨b,rfl⟩:∃b,m=j+1+b:=⟨m-(j+1),by lia⟩;have e2:=za7 h' (j+1) b;have e3:=za7 hi (j+1) b;have e4:=zfq (f:=fun i=>h' (j+1+i)) (g:=fun i=>hi (j+1+i)) (n:=b) fun i hi'=>(hh _ (by lia)).2
 have h1:=(hh j hj).1;unfold hd;obtain⟨c,c1,c2⟩:=zn1 (lo j) (left lo hi (j+1+b) t j-(sumR (j+1+b) hi-sumR (j+1) hi));simp only[sumR]at*;rcases c with c|c<;>rw[c]<;>lia
theorem znO (hm:0<m)(h24:n<=1000)(h mo:Nat->Int):Ok (zbW [.lst (wI m h),.lst (wI n mo)]) fun x=>x= .val (.tup (wI n fun p=>h (p%m)+mo p)):=by
 simp! only[↓zbW,↓zeU,↓ze2,enumD_w];refine⟨by lia,zaL (fun ρ=>∃s s',ρ=[.val (.lst (wI m h)),.val (.int m),s,s']) (fun p=> .int (h (p%m)+mo p)) ⟨_,_,rfl⟩ ?_ ?_⟩
 ·rintro p _ hp ⟨s,s',rfl⟩;have e:(p:Int)%(m:Int)=((p%m:Nat):Int):=by push_cast;rfl
  simp! only[↓zfg,e,zas _ (qcC p hm)];exact⟨by lia,_,_,rfl⟩
 ·rintro _ ⟨_,_,rfl⟩;simp! only[]
structure RDim (k n:Nat):Prop where
 k2:2<=k
 k5:k<=5
 kn:k<=n
 n24:n<=24
abbrev zaV (k n:Nat)(S L G:Nat->Int):D:= .tup [.int k,.tup (wI n S),.tup (wI n L),.tup (wI n G)]
def ixp (k n p:Nat):Nat:=((List.range (n/Nat.gcd k n)).find? fun i=>(p%Nat.gcd k n+i*k)%n==p).getD 0
def chk (k n:Nat):Bool:=((List.range n).all fun p=>decide (ixp k n p<n/Nat.gcd k n)&&((p%Nat.gcd k n+ixp k n p*k)%n==p))&&(List.range (Nat.gcd k n)).all fun j=>((j+n/Nat.gcd k n*k)%n==j)&&(List.range (n/Nat.gcd k n)).all fun i=>((j+i*k)%n%Nat.gcd k n==j)&&(ixp k n ((j+i*k)%n)==i)
theorem chk_all:((List.range 6).all fun k=>(List.range 25).all fun n=>!(decide (2<=k)&&decide (k<=n))||chk k n)=true:=by decide+kernel
theorem walk_all (k:Nat)(hk:k<6)(n:Nat)(hn:n<25)(h2:2<=k)(hkn:k<=n):(∀p,p<n->ixp k n p<n/Nat.gcd k n/\(p%Nat.gcd k n+ixp k n p*k)%n=p)/\∀j,j<Nat.gcd k n->(j+n/Nat.gcd k n*k)%n=j/\∀i,i<n/Nat.gcd k n->(j+i*k)%n%Nat.gcd k n=j/\ixp k n ((j+i*k)%n)=i:=by
 have h:=qbR.mp (qbR.mp chk_all k (qaj.mpr hk)) n (qaj.mpr hn);rw[qa7 h2,qa7 hkn]at h;have h:chk k n=true:=by simpa using h
 unfold chk at h;rw[qbi]at h;refine⟨fun p hp=>?_,fun j hj=>?_⟩
 ·have:=qbR.mp h.1 p (qaj.mpr hp);simpa using this
 ·have:=qbR.mp h.2 j (qaj.mpr hj);rw[qbi]at this;refine⟨by simpa using this.1,fun i hi=>?_⟩;have:=qbR.mp this.2 i (qaj.mpr hi);simpa using this
section
variable {k n:Nat}
abbrev pl (k n j i:Nat):Nat:=(j+i*k)%n
theorem zll (k n j i:Nat):pl k n j (i+1)=(pl k n j i+k)%n:=by
 unfold pl;rw[Nat.add_mul,qcD,<-Nat.add_assoc,Nat.mod_add_mod]
def mw (k n:Nat)(S:Nat->Int)(j i:Nat):Int:=sumR i fun t=>S ((pl k n j t+1)%n)-S (pl k n j t)
def rM (k n:Nat)(S:Nat->Int)(p:Nat):Int:=mw k n S (p%Nat.gcd k n) (ixp k n p)
theorem RDim.g1 (d:RDim k n):1<=Nat.gcd k n:=Nat.gcd_pos_of_pos_left _ (by have:=d.k2;lia)
theorem RDim.gk (d:RDim k n):Nat.gcd k n<=k:=Nat.gcd_le_left _ (by have:=d.k2;lia)
theorem RDim.walk (d:RDim k n):(∀p,p<n->ixp k n p<n/Nat.gcd k n/\pl k n (p%Nat.gcd k n) (ixp k n p)=p)/\∀j,j<Nat.gcd k n->pl k n j (n/Nat.gcd k n)=j/\∀i,i<n/Nat.gcd k n->pl k n j i%Nat.gcd k n=j/\ixp k n (pl k n j i)=i:=
 walk_all k (by have:=d.k5;lia) n (by have:=d.n24;lia) d.k2 d.kn
theorem rM_at (d:RDim k n)(S:Nat->Int)(hj:j<Nat.gcd k n)(hi:i<n/Nat.gcd k n):rM k n S (pl k n j i)=mw k n S j i:=by
 obtain⟨h1,h2⟩:=(d.walk.2 j hj).2 i hi;unfold rM;rw[h1,h2]
theorem max_of (h:l≠[]):∃v,zfs [.lst (l.map D.int)]=some (.int v)/\v∈l/\∀x∈l,x<=v:=by
 have e:l.map D.int=wI l.length fun i=>l.getD i 0:=by
  apply qcs;intro j
  by_cases h:j<l.length
  ·rw[zas _ h,qaZ,qbD h];simp[List.getD,h]
  ·rw[qbU (by rw[qa3];lia),qbU (by rw[zaN];lia)]
 obtain⟨v,h1,⟨i,hi,h2⟩,h3⟩:=max_w (fun i=>l.getD i 0) (qbW.mpr h);rw[<-e]at h1;refine⟨v,h1,?_,fun x hx=>?_⟩
 ·rw[<-h2];show l.getD i 0∈l;rw[qcq,qbD hi];exact List.getElem_mem hi
 ·obtain⟨i,hi,rfl⟩:=List.getElem_of_mem hx;have:=h3 i hi;rw[qcq,qbD hi]at this;exact this
theorem zgh (d:RDim k n)(S L G:Nat->Int):Ok (zaD [zaV k n S L G]) fun x=>x= .val (.int (Nat.gcd k n:Nat)):=by
 have k2:=d.k2;have k5:=d.k5;have n24:=d.n24;have g1:=d.g1;have gk:=d.gk;have ek:((k:Int)+1-1).toNat=k:=by lia
 have en:(zec 1 k).length=k:=by unfold zec;simp
 simp! only[↓zaD,↓zfE,↓zfN,ek,en];refine⟨⟨zcA (by lia) (by lia),zcA (by lia) (by lia)⟩,by lia,?_⟩;rw[zjT];refine zqf (fun ρ=>∃z,ρ=[.val (.int k),.val (.int n),z]) (fun i=>if k%(1+i)=0/\n%(1+i)=0 then some (D.int ((1+i:Nat):Int))else none) ⟨_,rfl⟩ ?_ ?_
 ·rintro i _ hi ⟨z,rfl⟩;have e1:(1:Int)+(i:Nat)=((1+i:Nat):Int):=by push_cast;rfl
  have e2:(k:Int)%((1+i:Nat):Int)=((k%(1+i):Nat):Int):=by push_cast;rfl
  have e3:(n:Int)%((1+i:Nat):Int)=((n%(1+i):Nat):Int):=by push_cast;rfl
  simp! only[↓zfO,↓zfQ,e1,e2,e3];refine⟨by lia,fun h1=>⟨by lia,fun h2=>⟨?_,_,rfl⟩,fun h2=>⟨?_,_,rfl⟩⟩,fun h1=>⟨?_,_,rfl⟩⟩
  ·rw[if_pos ⟨by lia,by lia⟩]
  ·rw[if_neg fun z=>h2 (by lia)]
  ·rw[if_neg fun z=>h1 (by lia)]
 ·rintro _ ⟨z,rfl⟩;have el:(List.range k).filterMap (fun i=>if k%(1+i)=0/\n%(1+i)=0 then some (D.int ((1+i:Nat):Int))else none)=((List.range k).filterMap (fun i=>if k%(1+i)=0/\n%(1+i)=0 then some ((1+i:Nat):Int)else none)).map D.int:=by
   rw[List.map_filterMap];congr 1
   funext i
   split<;>rfl
  have mem:∀v:Int,v∈(List.range k).filterMap (fun i=>if k%(1+i)=0/\n%(1+i)=0 then some ((1+i:Nat):Int)else none)↔∃m:Nat,v=m/\1<=m/\m<=k/\m∣k/\m∣n:=fun v=>by
   rw[qaL]
   constructor
   ·rintro⟨i,hi,h⟩;have hi:=qaj.mp hi
    split at h
    ·rename_i q;cases h;exact⟨1+i,rfl,by lia,by lia,Nat.dvd_of_mod_eq_zero q.1,Nat.dvd_of_mod_eq_zero q.2⟩
    ·cases h
   ·rintro⟨m,rfl,h1,h2,h3,h4⟩;refine⟨m-1,qaj.mpr (by lia),?_⟩;rw[show 1+(m-1)=m by lia,if_pos ⟨Nat.mod_eq_zero_of_dvd h3,Nat.mod_eq_zero_of_dvd h4⟩]
  have gm:=(mem (Nat.gcd k n:Nat)).mpr ⟨_,rfl,g1,gk,Nat.gcd_dvd_left _ _,Nat.gcd_dvd_right _ _⟩;rw[el]
  generalize (List.range k).filterMap (fun i=>if k%(1+i)=0/\n%(1+i)=0 then some ((1+i:Nat):Int)else none)=l at mem gm
  obtain⟨v,h1,h2,h3⟩:=max_of (l:=l) (fun z=>by rw[z]at gm;cases gm);unfold zfs at h1;simp! only[h1];obtain⟨m,rfl,q1,q2,q3,q4⟩:=(mem v).mp h2;have a1:=h3 _ gm;have a2:m<=Nat.gcd k n:=Nat.le_of_dvd (by lia) (Nat.dvd_gcd q3 q4);have:m=Nat.gcd k n:=by lia
  rw[this]
end
theorem takeW (h:i<=n)(f:Nat->D):(wL n f).take i=wL i f:=by
 apply qcs;intro j
 by_cases hj:j<i
 ·rw[qa0 (by lia),zas _ (by lia),zas _ hj]
 ·rw[qbU (by simp[zaN];lia),qbU (by rw[zaN];lia)]
theorem cut_neg1 (n:Nat)(f:Nat->D):cutD (wL (n+1) f) none (some (-1))=wL n f:=by
 unfold cutD;have e:HT.sIx (wL (n+1) f).length (wL (n+1) f).length (some (-1))=n:=by
  rw[zaN];show(if(-1:Int)<0 then(-1+((n+1:Nat):Int)).toNat else min (-1:Int).toNat (n+1))=n;rw[if_pos (by decide)];lia
 rw[e,HT.zlS,qbV,Nat.sub_zero,takeW (by lia)]
theorem zcu {m:Nat}(h:m<=1000):zcz (m:Int)=true:=zcA (by lia) (by lia)
section
variable {k n:Nat}
theorem zi6 (d:RDim k n)(hj:j<Nat.gcd k n):pl k n j 0=j:=by
 have:=d.gk;have:=d.kn;unfold pl;rw[Nat.zero_mul,qcE,qcy (by lia)]
theorem zrv (d:RDim k n)(j i:Nat):pl k n j i<n:=qcC _ (by have:=d.k2;have:=d.kn;lia)
theorem zmd (S:Nat->Int)(j i:Nat):mw k n S j (i+1)=mw k n S j i+(S ((pl k n j i+1)%n)-S (pl k n j i)):=by
 show sumR (i+1) _=_;rw[sumR];rfl
abbrev znV (k n:Nat)(S:Nat->Int)(j m:Nat):List D:=wL m fun i=> .tup [.int ((pl k n j i:Nat):Int),.int (mw k n S j i)]
theorem RDim.hn (d:RDim k n):n/Nat.gcd k n<=24:=qak (Nat.div_le_self _ _) d.n24
theorem zpO (d:RDim k n)(S L G:Nat->Int)(hj:j<Nat.gcd k n):Ok (zbG [zaV k n S L G,.int j]) fun x=>x= .own (znV k n S j (n/Nat.gcd k n+1)):=by
 have n0:0<n:=by have:=d.k2;have:=d.kn;lia
 have n24:=d.n24;have hn:=d.hn;have g1:=d.g1;have gk:=d.gk;have k5:=d.k5;have ed:(n:Int)/((Nat.gcd k n:Nat):Int)=((n/Nat.gcd k n:Nat):Int):=by push_cast;rfl
 simp! only[↓zbG,↓zfW,↓zgd];refine(zgh d S L G).mono ?_;rintro _ rfl;simp! only[ed];refine⟨zcb (by lia) (by lia),zcu (by lia),zcs (fun i ρ=>∃s7,ρ=[.val (zaV k n S L G),.val (.int j),.val (.tup (wI n S)),.val (.int n),.own (znV k n S j i),.val (.int ((pl k n j i:Nat):Int)),.val (.int (mw k n S j i)),s7]) ⟨_,by rw[zi6 d hj];rfl⟩ ?_ ?_⟩
 ·rintro i _ hi ⟨s7,rfl⟩;have pn:=zrv d j i;have e1:((pl k n j i:Nat):Int)+1=((pl k n j i+1:Nat):Int):=by push_cast;rfl
  have e2:((pl k n j i+1:Nat):Int)%(n:Int)=(((pl k n j i+1)%n:Nat):Int):=by push_cast;rfl
  have e3:(((pl k n j i:Nat):Int)+(k:Int))%(n:Int)=((pl k n j (i+1):Nat):Int):=by rw[zll];push_cast;rfl
  simp! only[↓zgy,e1,e2,e3,zas _ pn,zas _ (qcC (pl k n j i+1) n0)];have ew:znV k n S j i++[.tup [.int ((pl k n j i:Nat):Int),.int (mw k n S j i)]]=znV k n S j (i+1):=(zf7 _ _).symm;simp only[ew,<-zmd];exact⟨by lia,by lia,by lia,_,rfl⟩
 ·rintro _ ⟨s7,rfl⟩;simp! only[];refine⟨by lia,?_⟩;rw[show znV k n S j (n/Nat.gcd k n+1)=_ from zf7 _ _]
theorem zrW (d:RDim k n)(S L G:Nat->Int)(hj:j<Nat.gcd k n):Ok (zbZ [zaV k n S L G,.int j]) fun x=>x= .val (.bl (mw k n S j (n/Nat.gcd k n)==0)):=by
 simp! only[↓zbZ,↓zeI];refine(zpO d S L G hj).mono ?_;rintro _ rfl;simp! only[atI_w1]
theorem zjA (d:RDim k n)(S L G:Nat->Int):Ok (zaX [zaV k n S L G]) fun x=>x= .own (wI n (rM k n S)):=by
 have n0:0<n:=by have:=d.k2;have:=d.kn;lia
 have n24:=d.n24;have hn:=d.hn;have g1:=d.g1;have gk:=d.gk;have k5:=d.k5;simp! only[↓zaX,↓zgi,↓zgM,qbb,rep_w];refine⟨⟨zcu (by lia),by lia⟩,?_⟩;refine(zgh d S L G).mono ?_;rintro _ rfl;simp! only[];refine⟨zcu (by lia),zcs (fun J ρ=>∃(f:Nat->Int) (s2 s3 s4:Sl),(∀p,p<n->p%Nat.gcd k n<J->f p=rM k n S p)/\ρ=[.val (zaV k n S L G),.own (wI n f),s2,s3,s4]) ⟨fun _=>0,_,_,_,fun p _ h=>by lia,rfl⟩ ?_ ?_⟩
 ·rintro J _ hJ ⟨f,s2,s3,s4,hf,rfl⟩;have cw:cutD (znV k n S J (n/Nat.gcd k n+1)) none (some (-1))=znV k n S J (n/Nat.gcd k n):=by
   exact cut_neg1 _ _
  simp! only[↓zgH,↓zgs];refine(zpO d S L G hJ).mono ?_;rintro _ rfl;simp! only[cw];refine zcs (fun i ρ=>∃(f:Nat->Int) (s3 s4:Sl),(∀p,p<n->p%Nat.gcd k n<J->f p=rM k n S p)/\(∀t,t<i->f (pl k n J t)=mw k n S J t)/\ρ=[.val (zaV k n S L G),.own (wI n f),.val (.int J),s3,s4]) ⟨f,_,_,hf,fun t h=>by lia,rfl⟩ ?_ ?_
  ·rintro i _ hi ⟨f,s3,s4,hf,hw,rfl⟩;have pn:=zrv d J i;simp! only[↓zgB,pn,zi8 _ _ pn];refine⟨_,_,_,fun p hp hpJ=>?_,fun t ht=>?_,rfl⟩
   ·have:p≠pl k n J i:=fun e=>by
     have:=((d.walk.2 J hJ).2 i hi).1;rw[<-e]at this;lia
    simp only[this,qbc];exact hf p hp hpJ
   ·by_cases e:t=i
    ·subst e;simp only[if_true]
    ·have:pl k n J t≠pl k n J i:=fun e'=>by
      have h1:=((d.walk.2 J hJ).2 i hi).2;have h2:=((d.walk.2 J hJ).2 t (by lia)).2;rw[e']at h2;lia
     simp only[this,qbc];exact hw t (by lia)
  ·rintro _ ⟨f,s3,s4,hf,hw,rfl⟩;simp! only[];refine⟨f,_,_,_,fun p hp hpJ=>?_,rfl⟩
   by_cases e:p%Nat.gcd k n<J
   ·exact hf p hp e
   ·have e':p%Nat.gcd k n=J:=by lia
    obtain⟨h1,h2⟩:=d.walk.1 p hp;rw[e']at h2;have:=hw _ h1;rw[h2]at this;rw[this];unfold rM;rw[e']
 ·rintro _ ⟨f,s2,s3,s4,hf,rfl⟩;simp! only[];congr 1;exact zdN fun p hp=>by rw[hf p hp (qcC _ (by lia))]
end
section
variable {k n:Nat} {S L G:Nat->Int}
def rT (k n:Nat)(S:Nat->Int):Int:=S 0-sumR k (rM k n S)
abbrev eT (k n:Nat):Nat:=k/Nat.gcd k n
def tT (k n:Nat)(S:Nat->Int):Int:=rT k n S/(eT k n:Int)
def rA (k n:Nat)(S B:Nat->Int)(p:Nat):Int:=B p-rM k n S p
theorem RDim.e1 (d:RDim k n):1<=eT k n:=(qcu d.g1).mpr (by rw[qcD];exact d.gk)
theorem RDim.e5 (d:RDim k n):eT k n<=5:=qak (Nat.div_le_self _ _) d.k5
theorem zoY (d:RDim k n)(S L G:Nat->Int):Ok (zbE [zaV k n S L G]) fun x=>x= .val (.int (eT k n)):=by
 have g1:=d.g1;have gk:=d.gk;have k5:=d.k5;have ed:(k:Int)/((Nat.gcd k n:Nat):Int)=((eT k n:Nat):Int):=by push_cast;rfl
 simp! only[↓zbE,↓zgV];refine(zgh d S L G).mono ?_;rintro _ rfl;simp! only[ed];exact zcb (by lia) (by lia)
theorem zrp (d:RDim k n)(f:Nat->Int):cutD (wI n f) none (some (k:Int))=wI k f:=by
 rw[zo6];exact takeW d.kn _
theorem zry (d:RDim k n)(S L G:Nat->Int):Ok (zcc [zaV k n S L G]) fun x=>x= .val (.int (rT k n S)):=by
 have n0:0<n:=by have:=d.k2;have:=d.kn;lia
 simp! only[↓zcc,↓zhT,zas _ n0];refine(zjA d S L G).mono ?_;rintro _ rfl;simp! only[zrp d,zdO,zdT]
 rfl
theorem zlb (d:RDim k n)(S L G:Nat->Int):Ok (zbc [zaV k n S L G]) fun x=>x= .val (.int (tT k n S)):=by
 have:=d.e1;have:=d.e5;simp! only[↓zbc,↓zg0];refine(zry d S L G).mono ?_;rintro _ rfl;simp! only[];refine(zoY d S L G).mono ?_;rintro _ rfl;simp! only[];exact⟨zcb (by lia) (by lia),rfl⟩
def Clo (k n:Nat)(S:Nat->Int):Prop:=∀j,j<Nat.gcd k n->mw k n S j (n/Nat.gcd k n)=0
def SPap (k n:Nat)(S:Nat->Int)(x:Sl):Prop:=(∃j,j<Nat.gcd k n/\mw k n S j (n/Nat.gcd k n)≠0/\x= .val (.tup [.str "round",.int (j:Nat)]))\/(Clo k n S/\rT k n S%(eT k n:Int)≠0/\x= .val (.tup [.str "part",.int (rT k n S%(eT k n:Int))]))\/(Clo k n S/\rT k n S%(eT k n:Int)=0/\x= .val .non)
theorem zqE (d:RDim k n)(S L G:Nat->Int):Ok (zcg [zaV k n S L G]) (SPap k n S):=by
 have e1:=d.e1;have e5:=d.e5;have g1:=d.g1;have gk:=d.gk;have k5:=d.k5;simp! only[↓zcg,↓zfS,↓zgY];refine(zgh d S L G).mono ?_;rintro _ rfl;simp! only[];refine⟨zcu (by lia),zcs (fun i ρ=>(∀j,j<i->mw k n S j (n/Nat.gcd k n)=0)/\∃s1 s2,ρ=[.val (zaV k n S L G),s1,s2]) ⟨fun j h=>by lia,_,_,rfl⟩ ?_ ?_⟩
 ·rintro j _ hj ⟨hb,s1,s2,rfl⟩;simp! only[↓zgt];refine(zrW d S L G hj).mono ?_;rintro _ rfl;simp! only[];refine⟨fun h=> .inl ⟨j,hj,by simpa using h,rfl⟩,fun h=>⟨fun j' hj'=>?_,_,_,rfl⟩⟩
  by_cases e:j'=j
  ·subst e;simpa using h
  ·exact hb j' (by lia)
 ·rintro _ ⟨hb,s1,s2,rfl⟩;simp! only[];refine(zry d S L G).mono ?_;rintro _ rfl;simp! only[];refine(zoY d S L G).mono ?_;rintro _ rfl;simp! only[];refine⟨by lia,fun h=> .inr (.inl ⟨hb,h,rfl⟩),fun h=>?_⟩;simp! only[↓zgo];exact .inr (.inr ⟨hb,h,rfl⟩)
theorem lows_ok (d:RDim k n)(S L G:Nat->Int):Ok (zes [zaV k n S L G]) fun x=>x= .own (wI n (rA k n S L)):=by
 have n24:=d.n24;simp! only[↓zes,↓zhZ];refine(zjA d S L G).mono ?_;rintro _ rfl;simp! only[];refine(zp2 L (rM k n S) (by lia)).mono ?_;rintro _ rfl;simp! only[]
 rfl
theorem highs_ok (d:RDim k n)(S L G:Nat->Int):Ok (zc2 [zaV k n S L G]) fun x=>x= .own (wI n (rA k n S G)):=by
 have n24:=d.n24;simp! only[↓zc2,↓zgx];refine(zjA d S L G).mono ?_;rintro _ rfl;simp! only[];refine(zp2 G (rM k n S) (by lia)).mono ?_;rintro _ rfl;simp! only[]
 rfl
abbrev ze8 (k n:Nat)(S L G lo hi:Nat->Int):Prop:=Span (rA k n S L) (rA k n S G) n (Nat.gcd k n) lo hi
theorem RDim.gn (d:RDim k n):Nat.gcd k n<=n:=qak d.gk d.kn
theorem zko (d:RDim k n)(sp:ze8 k n S L G lo hi):Ok (za5 [zaV k n S L G]) fun x=>x= .own (zbm (Nat.gcd k n) lo hi):=by
 have n24:=d.n24;simp! only[↓za5,↓zfm];refine(lows_ok d S L G).mono ?_;rintro _ rfl;simp! only[];refine(highs_ok d S L G).mono ?_;rintro _ rfl;simp! only[];refine(zgh d S L G).mono ?_;rintro _ rfl;simp! only[];refine(spans_ok d.g1 d.gn (by lia) sp).mono ?_;rintro _ rfl;simp! only[]
def rR (k n:Nat)(S lo hi:Nat->Int)(p:Nat):Int:=hd lo hi (Nat.gcd k n) (tT k n S) (p%Nat.gcd k n)+rM k n S p
end
section
variable {k n:Nat} {S L G:Nat->Int}
theorem zkW (d:RDim k n):Ok (zbh [.int n,.int k]) fun x=>x= .val (.int (Nat.gcd k n:Nat)):=by
 have k5:=d.k5;simp! only[↓zbh,↓zeW,↓ze0];refine zjG (fun m ρ=>∃a b:Nat,b<=m/\b<=1000/\Nat.gcd b a=Nat.gcd k n/\ρ=[.val (.int a),.val (.int b)]) ?_ 400 k _ (by lia) ⟨n,k,qaJ _,by lia,rfl,rfl⟩;rintro m _ ⟨a,b,hb,hb2,hg,rfl⟩;simp! only[↓ze7];refine⟨fun c=>?_,fun c=>?_⟩
 ·have c:(0:Int)<(b:Int):=by simpa using c
  have em:(a:Int)%(b:Int)=((a%b:Nat):Int):=by push_cast;rfl
  have hlt:=qcC a (show 0<b by lia);refine⟨m-1,by lia,?_⟩;simp! only[↓zfa,em];refine⟨by lia,b,a%b,by lia,by lia,?_,rfl⟩;rw[<-hg,Nat.gcd_rec b a]
 ·have c:b=0:=by
   have:¬((0:Int)<(b:Int)):=by simpa using c
   lia
  subst c;rw[Nat.gcd_zero_left]at hg;simp! only[hg]
theorem zrG (f:Nat->Int)(p:Nat):∀met:List Nat,lkD (met.map fun q:Nat=>(q:Int)) (met.map fun q:Nat=>D.int (f q)) (p:Int)=if p∈met then some (.int (f p))else none
 |[]=>rfl
 |q::met=>by
  rw[qbj,qbj,lkD,zrG f p met]
  by_cases e:q=p
  ·subst e;simp
  ·have e1:¬((q:Int)=(p:Int)):=by lia
   have e2:p≠q:=fun z=>e z.symm
   simp[e1,e2]
theorem pt_met (f:Nat->Int){p:Nat}(h:p∉met):ptD (met.map fun q:Nat=>(q:Int)) (met.map fun q:Nat=>D.int (f q)) (p:Int) (.int (f p))=((met++[p]).map fun q:Nat=>(q:Int),(met++[p]).map fun q:Nat=>D.int (f q)):=by
 unfold ptD;have:(met.map fun q:Nat=>(q:Int)).contains (p:Int)=false:=by
  rw[Bool.eq_false_iff];intro c;rw[List.contains_iff_mem,qbS]at c;obtain⟨q,hq,e⟩:=c;have:q=p:=by lia
  subst this;exact h hq
 rw[this];simp
structure Met (k n J i:Nat) (met:List Nat):Prop where
 len:met.length<=24*J+i
 mem:∀p,p∈met↔p<n/\(p%Nat.gcd k n<J\/(p%Nat.gcd k n=J/\ixp k n p<i))
abbrev metD (k n:Nat)(S:Nat->Int)(met:List Nat):Sl:= .tre (.dic (met.map fun q:Nat=>(q:Int)) (met.map fun q:Nat=>D.int (rM k n S q)))
theorem zqQ (d:RDim k n)(S L G:Nat->Int):Ok (zbn [zaV k n S L G]) fun x=>x= .val (.tup [.lst (wI n (rM k n S)),.lst (wI (Nat.gcd k n) fun j=>mw k n S j (n/Nat.gcd k n))]):=by
 have n0:0<n:=by have:=d.k2;have:=d.kn;lia
 have n24:=d.n24;have hn:=d.hn;have g1:=d.g1;have gk:=d.gk;have gn:=d.gn;have k5:=d.k5;have h1:1<=n/Nat.gcd k n:=(qcu d.g1).mpr (by rw[qcD];exact d.gn);simp! only[↓zbn,↓zcR];refine(zkW d).mono ?_;rintro _ rfl;simp! only[↓zdq];refine⟨zcu (by lia),zcs (fun J ρ=>∃(met:List Nat) (s9 s10 s11:Sl),Met k n J 0 met/\ρ=[.val (zaV k n S L G),.val (.int k),.val (.tup (wI n S)),.val (.tup (wI n L)),.val (.tup (wI n G)),.val (.int n),.val (.int (Nat.gcd k n:Nat)),metD k n S met,.own (wI J fun j=>mw k n S j (n/Nat.gcd k n)),s9,s10,s11]) ⟨[],_,_,_,⟨by simp,fun p=>by simp⟩,rfl⟩ ?_ ?_⟩
 ·rintro J _ hJ ⟨met,s9,s10,s11,hm,rfl⟩;simp! only[↓zdj,↓zdB];refine zjG (fun m ρ=>∃(i:Nat) (met:List Nat),i<=n/Nat.gcd k n/\m=n/Nat.gcd k n-i/\Met k n J i met/\ρ=[.val (zaV k n S L G),.val (.int k),.val (.tup (wI n S)),.val (.tup (wI n L)),.val (.tup (wI n G)),.val (.int n),.val (.int (Nat.gcd k n:Nat)),metD k n S met,.own (wI J fun j=>mw k n S j (n/Nat.gcd k n)),.val (.int J),.val (.int ((pl k n J i:Nat):Int)),.val (.int (mw k n S J i))]) ?_ 400 (n/Nat.gcd k n) _ (by lia) ⟨0,met,by lia,by lia,hm,by rw[zi6 d hJ];rfl⟩;rintro m _ ⟨i,met,hi,rfl,hm,rfl⟩;have pn:=zrv d J i;simp! only[↓zdI,zrG]
  by_cases e:i=n/Nat.gcd k n
  ·have inm:pl k n J i∈met:=by
    rw[hm.mem,e,(d.walk.2 J hJ).1];refine⟨by lia,.inr ⟨qcy hJ,?_⟩⟩;have:=((d.walk.2 J hJ).2 0 (by lia)).2;rw[zi6 d hJ]at this;lia
   rw[if_pos inm];refine⟨fun c=>(by simp at c),fun _=>?_⟩;rw[e];have ew:(wI J fun j=>mw k n S j (n/Nat.gcd k n))++[D.int (mw k n S J (n/Nat.gcd k n))]=wI (J+1) fun j=>mw k n S j (n/Nat.gcd k n):=(zf7 _ _).symm
   rw[ew];refine⟨by lia,met,_,_,_,⟨by have:=hm.len;lia,fun p=>?_⟩,rfl⟩
   ·rw[hm.mem]
    constructor
    ·rintro⟨a,b|b⟩
     ·exact⟨a,.inl (by lia)⟩
     ·exact⟨a,.inl (by lia)⟩
    ·rintro⟨a,b|b⟩
     ·refine⟨a,?_⟩
      by_cases e':p%Nat.gcd k n<J
      ·exact .inl e'
      ·exact .inr ⟨by lia,by rw[e];exact(d.walk.1 p a).1⟩
     ·lia
  ·have hi':i<n/Nat.gcd k n:=by lia
   obtain⟨w1,w2⟩:=(d.walk.2 J hJ).2 i hi';have out:pl k n J i∉met:=by
    rw[hm.mem];rintro⟨a,b|b⟩<;>lia
   rw[if_neg out];refine⟨fun _=>⟨n/Nat.gcd k n-i-1,by lia,?_⟩,fun c=>(by simp at c)⟩;have e1:((pl k n J i:Nat):Int)+1=((pl k n J i+1:Nat):Int):=by push_cast;rfl
   have e2:((pl k n J i+1:Nat):Int)%(n:Int)=(((pl k n J i+1)%n:Nat):Int):=by push_cast;rfl
   have e3:(((pl k n J i:Nat):Int)+(k:Int))%(n:Int)=((pl k n J (i+1):Nat):Int):=by rw[zll];push_cast;rfl
   have em:mw k n S J i=rM k n S (pl k n J i):=(rM_at d S hJ hi').symm;have len:=hm.len;simp! only[↓zdf,e1,e2,e3,zas _ pn,zas _ (qcC (pl k n J i+1) n0)];have ep:=pt_met (rM k n S) out;rw[<-em]at ep;rw[ep];refine⟨by lia,by lia,by lia,i+1,met++[pl k n J i],by lia,by lia,⟨by rw[qa2];simp;lia,fun p=>?_⟩,?_⟩
   ·rw[qap,hm.mem,List.mem_singleton]
    constructor
    ·rintro(⟨a,b|b⟩|rfl)
     ·exact⟨a,.inl b⟩
     ·exact⟨a,.inr ⟨b.1,by lia⟩⟩
     ·exact⟨pn,.inr ⟨w1,by lia⟩⟩
    ·rintro⟨a,b|b⟩
     ·exact .inl ⟨a,.inl b⟩
     ·by_cases c:ixp k n p<i
      ·exact .inl ⟨a,.inr ⟨b.1,c⟩⟩
      ·refine .inr ?_;have:=(d.walk.1 p a).2;rw[b.1,show ixp k n p=i by lia]at this;exact this.symm
   ·rw[zmd,Int.add_sub_assoc]
 ·rintro _ ⟨met,s9,s10,s11,hm,rfl⟩;simp! only[↓zdA];refine⟨zcu (by lia),by lia,zaL (fun ρ=>∃y,ρ=[.val (.dic (met.map fun q:Nat=>(q:Int)) (met.map fun q:Nat=>D.int (rM k n S q))),y]) (fun p=> .int (rM k n S p)) ⟨_,rfl⟩ ?_ ?_⟩
  ·rintro p _ hp ⟨y,rfl⟩;have inm:p∈met:=(hm.mem p).mpr ⟨hp,.inl (qcC _ (by lia))⟩;simp! only[↓zdF,zrG,inm];exact⟨_,rfl⟩
  ·rintro _ ⟨y,rfl⟩;simp! only[]
end
theorem zrT (lo st:Int)(n:Nat):zns lo st n=wL n fun i=> .int (lo+(i:Int)*st):=rfl
section
variable {k n:Nat} {S L G:Nat->Int}
theorem zrg (d:RDim k n)(sp:ze8 k n S L G lo hi):Ok (zbj [zaV k n S L G,.lst (wI n (rM k n S))]) fun x=>x= .own (zbm (Nat.gcd k n) lo hi):=by
 have n24:=d.n24;have g1:=d.g1;have gk:=d.gk;have gn:=d.gn;have k5:=d.k5;obtain⟨lo',hi',sp',e⟩:=znw (rA k n S L) (rA k n S G) d.g1 d.gn;have el:zbm (Nat.gcd k n) lo' hi'=zbm (Nat.gcd k n) lo hi:=zdN fun j hj=>by rw[(zis sp' sp hj).1,(zis sp' sp hj).2]
 rw[<-el];simp! only[↓zbj,↓zcJ];refine(zkW d).mono ?_;rintro _ rfl;simp! only[↓zdv]
 generalize hg:Nat.gcd k n=g at*
 refine⟨zcu (by lia),zcs (fun i ρ=>∃s4 s5 s6,ρ=[.val (zaV k n S L G),.val (.lst (wI n (rM k n S))),.val (.int g),.own (zbm i lo' hi'),s4,s5,s6]) ⟨_,_,_,rfl⟩ ?_ ?_⟩
 ·rintro j _ hj ⟨s4,s5,s6,rfl⟩;obtain⟨e1,e2⟩:=e j hj;rw[wI,zow _ (show 0<g by lia) (show j<n by lia)]at e1;rw[wI,zow _ (show 0<g by lia) (show j<n by lia)]at e2;have hc:cntS (j:Int) (n:Int) (g:Int)<=24:=by
   by_cases c:cntS (j:Int) (n:Int) (g:Int)<=24
   ·exact c
   ·have h1:=(zeG (j:=j) (n:=n) (show 0<g by lia)).mp (show 24<cntS (j:Int) (n:Int) (g:Int) by lia);have:24*1<=24*g:=Nat.mul_le_mul_left 24 (by lia);lia
  unfold zfs at e1;unfold zjr at e2;simp! only[↓zdl,↓zdH,zrT];refine⟨⟨⟨⟨zcu (by lia),zcu (by lia)⟩,by lia⟩,by lia⟩,by lia,zaL (fun ρ=>∃z,ρ=[.val (zaV k n S L G),.val (.lst (wI n (rM k n S))),z]) (fun i=> .int (rA k n S L (j+i*g))) ⟨_,rfl⟩ ?_ ?_⟩
  ·rintro i _ hi ⟨z,rfl⟩;have hlt:=(zeG (show 0<g by lia)).mp hi;have e3:(j:Int)+(i:Int)*(g:Int)=((j+i*g:Nat):Int):=by push_cast;rfl
   simp! only[↓zdh,e3,zas _ hlt];exact⟨rfl,_,rfl⟩
  rintro _ ⟨z,rfl⟩;simp! only[↓zdy,zrT];refine⟨⟨⟨⟨zcu (by lia),zcu (by lia)⟩,by lia⟩,by lia⟩,by lia,zaL (fun ρ=>∃z,ρ=[.val (zaV k n S L G),.val (.lst (wI n (rM k n S))),z]) (fun i=> .int (rA k n S G (j+i*g))) ⟨_,rfl⟩ ?_ ?_⟩
  ·rintro i _ hi ⟨z,rfl⟩;have hlt:=(zeG (show 0<g by lia)).mp hi;have e3:(j:Int)+(i:Int)*(g:Int)=((j+i*g:Nat):Int):=by push_cast;rfl
   simp! only[↓zdi,e3,zas _ hlt];exact⟨rfl,_,rfl⟩
  rintro _ ⟨z,rfl⟩;simp! only[e1,e2,zbm];exact⟨by lia,_,_,_,by rw[zf7]⟩
 ·rintro _ ⟨s4,s5,s6,rfl⟩;simp! only[]
def rwin (k n:Nat)(r:Nat->Int)(a:Nat):Int:=sumR k fun s=>r ((a+s)%n)
theorem zlg {dd:D}{n k:Nat}(h:Sq dd n r)(n0:0<n)(n24:n<=24)(k5:k<=5):Ok (za1 [dd,.int k]) fun x=>x= .val (.tup (wI n (rwin k n r))):=by
 simp! only[↓za1,↓zdc,h.ln,↓zea];refine⟨zcu (by lia),by lia,zaL (fun ρ=>∃z,ρ=[.val (.int k),.val dd,.val (.int n),z]) (fun a=> .int (rwin k n r a)) ⟨_,rfl⟩ ?_ ?_⟩
 ·rintro a _ ha ⟨z,rfl⟩;simp! only[↓zed,↓zdX];refine⟨zcu (by lia),by lia,zaL (fun ρ=>∃z,ρ=[.val dd,.val (.int a),.val (.int n),z]) (fun s=> .int (r ((a+s)%n))) ⟨_,rfl⟩ ?_ ?_⟩
  ·rintro s _ hs ⟨z,rfl⟩;have e1:((a:Int)+(s:Int))%(n:Int)=(((a+s)%n:Nat):Int):=by push_cast;rfl
   simp! only[↓zdZ,e1,h.ix,zas _ (qcC (a+s) n0)];exact⟨by lia,_,rfl⟩
  ·rintro _ ⟨z,rfl⟩;simp! only[zdO,zdT];exact⟨rfl,_,rfl⟩
 ·rintro _ ⟨z,rfl⟩;simp! only[]
def Fits (k n:Nat)(S L G r:Nat->Int):Prop:=(∀a,a<n->rwin k n r a=S a)/\∀p,p<n->L p<=r p/\r p<=G p
theorem fits_ok (d:RDim k n)(S L G r:Nat->Int):Ok (zay [zaV k n S L G,.tup (wI n r)]) fun x=>∃b,x= .val (.bl b)/\(b=true↔Fits k n S L G r):=by
 have n24:=d.n24;have k5:=d.k5;have n0:0<n:=by have:=d.k2;have:=d.kn;lia
 simp! only[↓zay,↓zb0];refine(zlg (Sq.tup n r) n0 n24 k5).mono ?_;rintro _ rfl;simp! only[dNe_wt];refine⟨fun h=>⟨false,rfl,⟨fun z=>(by cases z),fun z=>?_⟩⟩,fun h=>?_⟩
 ·have:eqW n (rwin k n r) S=true:=eqW_iff.mpr z.1;rw[this]at h;cases h
 have hs:∀a,a<n->rwin k n r a=S a:=eqW_iff.mp (by revert h;cases eqW n (rwin k n r) S<;>simp)
 simp! only[↓zb7,↓zcd];refine⟨zcu (by lia),by lia,zaL (fun ρ=>∃z,ρ=[.val (.tup (wI n L)),.val (.tup (wI n r)),.val (.tup (wI n G)),z]) (fun p=> .bl (decide (L p<=r p)&&decide (r p<=G p))) ⟨_,rfl⟩ ?_ ?_⟩
 ·rintro p _ hp ⟨z,rfl⟩;simp! only[↓zcf,zas _ hp];refine⟨fun h=>⟨by simp[h],_,rfl⟩,fun h=>⟨?_,_,rfl⟩⟩;rw[qaa (by lia)];rfl
 ·rintro _ ⟨z,rfl⟩;simp! only[zd3];refine⟨_,rfl,?_⟩;rw[zpT]
  constructor
  ·intro q;exact⟨hs,fun p hp=>by simpa using q p hp⟩
  ·intro q p hp;simpa using q.2 p hp
theorem zjD (g:Nat)(h:Nat->Int):∀e,sumR (e*g) (fun i=>h (i%g))=(e:Int)*sumR g h
 |0=>by simp[sumR]
 |e+1=>by
  rw[Nat.add_mul,qcD,za7,zjD g h e];have:sumR g (fun i=>h ((e*g+i)%g))=sumR g h:=zar fun i hi=>by rw[Nat.add_comm,qcx,qcy hi]
  rw[this];push_cast;rw[Int.add_mul,Int.one_mul]
theorem zkS (F:Nat->Int):∀k,sumR k (fun s=>F (s+1))=sumR k F+F k-F 0
 |0=>by simp[sumR]
 |k+1=>by
  have ih:=zkS F k;simp only[sumR];lia
theorem zjv (f g:Nat->Int):∀k,sumR k (fun s=>f s+g s)=sumR k f+sumR k g
 |0=>by simp[sumR]
 |k+1=>by
  have ih:=zjv f g k;simp only[sumR];lia
theorem zjO (k n:Nat)(r:Nat->Int)(a:Nat):rwin k n r (a+1)=rwin k n r a+r ((a+k)%n)-r (a%n):=by
 have:=zkS (fun s=>r ((a+s)%n)) k;have e:rwin k n r (a+1)=sumR k fun s=>r ((a+(s+1))%n):=zar fun s _=>by rw[show a+1+s=a+(s+1) by lia]
 rw[e,this]
 rfl
theorem zh8 (d:RDim k n)(h:Nat->Int):rwin k n (fun p=>h (p%Nat.gcd k n)+rM k n S p) 0=(eT k n:Int)*sumR (Nat.gcd k n) h+sumR k (rM k n S):=by
 have kn:=d.kn;have ek:eT k n*Nat.gcd k n=k:=Nat.div_mul_cancel (Nat.gcd_dvd_left k n);have e:rwin k n (fun p=>h (p%Nat.gcd k n)+rM k n S p) 0=sumR k fun s=>h (s%Nat.gcd k n)+rM k n S s:=zar fun s hs=>by
  rw[qck,qcy (show s<n by lia)]
 rw[e,zjv,<-zjD,ek]
theorem zqb (d:RDim k n)(hc:Clo k n S)(hp:p<n):(p+k)%n%Nat.gcd k n=p%Nat.gcd k n/\rM k n S ((p+k)%n)=rM k n S p+(S ((p+1)%n)-S p):=by
 have hj:=qcC p d.g1;obtain⟨w1,w2⟩:=d.walk.1 p hp;obtain⟨w3,w4⟩:=d.walk.2 _ hj;have e1:(p+k)%n=pl k n (p%Nat.gcd k n) (ixp k n p+1):=by rw[zll,w2]
 have e2:mw k n S (p%Nat.gcd k n) (ixp k n p+1)=rM k n S p+(S ((p+1)%n)-S p):=by rw[zmd,w2];rfl
 by_cases h:ixp k n p+1<n/Nat.gcd k n
 ·rw[e1];exact⟨(w4 _ h).1,by rw[rM_at d S hj h,e2]⟩
 ·have h':ixp k n p+1=n/Nat.gcd k n:=by lia
  rw[e1,h',w3];refine⟨qcy hj,?_⟩;rw[<-e2,h',hc _ hj];have:=rM_at d S hj (show 0<n/Nat.gcd k n by lia);rw[zi6 d hj]at this;rw[this];rfl
theorem fits_of (d:RDim k n)(hc:Clo k n S)(h0:rT k n S%(eT k n:Int)=0)(sp:ze8 k n S L G lo hi)(rm:Room' (Nat.gcd k n) lo hi (tT k n S)):Fits k n S L G (rR k n S lo hi):=by
 have e1:=d.e1;have n0:0<n:=by have:=d.k2;have:=d.kn;lia
 refine⟨fun a=>?_,fun p hp=>?_⟩
 ·induction a with
  |zero=>
   intro _;have:rwin k n (rR k n S lo hi) 0=_:=zh8 (S:=S) d (hd lo hi (Nat.gcd k n) (tT k n S));rw[this,hd_sum rm];have e2:(eT k n:Int)*tT k n S=rT k n S:=by
    unfold tT;exact Int.mul_ediv_cancel' (Int.dvd_of_emod_eq_zero h0)
   rw[e2];unfold rT;lia
  |succ a ih=>
   intro ha;have ih:=ih (by lia);obtain⟨q1,q2⟩:=zqb d hc (show a<n by lia);rw[zjO,ih,qcy (show a<n by lia)];unfold rR;rw[q1,q2,qcy ha];lia
 ·have hj:=qcC p d.g1;have b:=hd_in rm hj;have b1:=sp.lg p hp;have b2:=sp.hg p hp;unfold rA at b1 b2;unfold rR;lia
theorem room_of (d:RDim k n)(sp:ze8 k n S L G lo hi)(f:Fits k n S L G fun p=>h (p%Nat.gcd k n)+rM k n S p):rT k n S%(eT k n:Int)=0/\Room' (Nat.gcd k n) lo hi (tT k n S):=by
 have e1:=d.e1;have n0:0<n:=by have:=d.k2;have:=d.kn;lia
 have es:rT k n S=(eT k n:Int)*sumR (Nat.gcd k n) h:=by
  have:=f.1 0 n0;rw[zh8 d]at this;unfold rT;lia
 have et:tT k n S=sumR (Nat.gcd k n) h:=by
  unfold tT;rw[es,Int.mul_ediv_cancel_left _ (by lia)]
 have inn:∀j,j<Nat.gcd k n->lo j<=h j/\h j<=hi j:=fun j hj=>by
  obtain⟨p,hp,pj,e⟩:=sp.lm j hj;obtain⟨q,hq,qj,e'⟩:=sp.hm j hj;have b:=(f.2 p hp).1;have c:=(f.2 q hq).2;unfold rA at e e';dsimp only at b c;rw[pj]at b;rw[qj]at c;lia
 refine⟨by rw[es];exact Int.mul_emod_right _ _,⟨fun j hj=>qcF (inn j hj).1 (inn j hj).2,?_,?_⟩⟩
 ·rw[et];exact zfq fun j hj=>(inn j hj).1
 ·rw[et];exact zfq fun j hj=>(inn j hj).2
end
theorem dropW (n i:Nat)(f:Nat->D):(wL n f).drop i=wL (n-i) fun j=>f (i+j):=by
 apply qcs;intro j;rw[qcw]
 by_cases hj:i+j<n
 ·rw[zas _ hj,zas _ (by lia)]
 ·rw[qbU (by rw[zaN];lia),qbU (by rw[zaN];lia)]
section
variable {k n:Nat} {S L G:Nat->Int}
def Good (k n:Nat)(S lo hi:Nat->Int):Prop:=Clo k n S/\rT k n S%(eT k n:Int)=0/\Room' (Nat.gcd k n) lo hi (tT k n S)
def LeastP (k n:Nat)(S lo hi:Nat->Int)(x:Sl):Prop:=(Good k n S lo hi/\x= .val (.tup (wI n (rR k n S lo hi))))\/(¬Good k n S lo hi/\x= .val .non)
theorem clo_of (d:RDim k n){v w:Int}(hv:∀j,j<Nat.gcd k n->mw k n S j (n/Nat.gcd k n)<=v)(hw:∀j,j<Nat.gcd k n->w<=mw k n S j (n/Nat.gcd k n))(h1:v<=0)(h2:0<=w):Clo k n S:=fun j hj=>by
 have:=hv j hj;have:=hw j hj;lia
theorem zop (d:RDim k n)(sp:ze8 k n S L G lo hi):Ok (zaJ [zaV k n S L G]) (LeastP k n S lo hi):=by
 have n24:=d.n24;have g1:=d.g1;have gk:=d.gk;have gn:=d.gn;have k5:=d.k5;have e1:=d.e1;have e5:=d.e5;have n0:0<n:=by lia
 have ed:(k:Int)/((Nat.gcd k n:Nat):Int)=((eT k n:Nat):Int):=by push_cast;rfl
 have er:S 0-sumR k (rM k n S)=rT k n S:=rfl;have et:rT k n S/((eT k n:Nat):Int)=tT k n S:=rfl;obtain⟨v,v1,⟨iv,hiv,ev⟩,v3⟩:=max_w (fun j=>mw k n S j (n/Nat.gcd k n)) g1;obtain⟨w,w1,⟨iw,hiw,ew⟩,w3⟩:=min_w (fun j=>mw k n S j (n/Nat.gcd k n)) g1;unfold zfs at v1;unfold zjr at w1;simp! only[↓zaJ,↓zcL];refine(zqQ d S L G).mono ?_;rintro _ rfl;simp! only[ed,zas _ n0,zrp d,zdO,zdT,er];refine⟨zcb (by lia) (by lia),?_⟩;refine(zrg d sp).mono ?_;rintro _ rfl;simp! only[v1,w1,↓zdp,zbm];refine⟨fun c=> .inr ⟨fun gd=>?_,rfl⟩,fun c1=>⟨fun c=> .inr ⟨fun gd=>?_,rfl⟩,fun c2=>⟨by lia,fun c=> .inr ⟨fun gd=>?_,rfl⟩,fun c3=>⟨by lia,?_⟩⟩⟩⟩
 ·have:=gd.1 iv hiv;lia
 ·have:=gd.1 iw hiw;lia
 ·have:=gd.2.1;lia
 refine zaL (fun ρ=>∃y,ρ=[y]) (fun j=> .bl (decide (lo j<=hi j))) ⟨_,rfl⟩ ?_ ?_
 ·rintro j _ hj ⟨y,rfl⟩;simp! only[↓zdn];exact⟨_,rfl⟩
 rintro _ ⟨y,rfl⟩;simp! only[zd3];refine⟨fun c=> .inr ⟨fun gd=>?_,rfl⟩,fun c4=>?_⟩
 ·have:((List.range (Nat.gcd k n)).map fun i=>decide (lo i<=hi i)).all id=true:=(zpT _ _).mpr fun j hj=>qa7 (gd.2.2.le j hj)
  rw[this]at c;cases c
 have hall:∀j,j<Nat.gcd k n->lo j<=hi j:=by
  have:((List.range (Nat.gcd k n)).map fun i=>decide (lo i<=hi i)).all id=true:=by
   revert c4;cases((List.range (Nat.gcd k n)).map fun i=>decide (lo i<=hi i)).all id<;>simp
  intro j hj;have:=(zpT _ _).mp this j hj;simpa using this
 have clo:Clo k n S:=clo_of d v3 w3 (by lia) (by lia);have e0:rT k n S%(eT k n:Int)=0:=by
  have:=qcG (rT k n S) (show((eT k n:Nat):Int)≠0 by lia);lia
 simp! only[↓zdz,↓zdr,et];refine⟨zcb (by lia) (by lia),zcu (by lia),zcs (fun i ρ=>∃s8,ρ=[.val (zaV k n S L G),.val (.lst (wI n (rM k n S))),.val (.lst (wI (Nat.gcd k n) fun j=>mw k n S j (n/Nat.gcd k n))),.val (.int (eT k n)),.val (.int (rT k n S)),.val (.lst (zbm (Nat.gcd k n) lo hi)),.val (.int (left lo hi (Nat.gcd k n) (tT k n S) i)),.own (wI i (hd lo hi (Nat.gcd k n) (tT k n S))),s8,.emp]) ⟨_,rfl⟩ ?_ ?_⟩
 ·rintro i _ hi' ⟨s8,rfl⟩;have cw:cutD (zbm (Nat.gcd k n) lo hi) (some ((i:Int)+1)) none=wL (Nat.gcd k n-(i+1)) fun j=> .tup [.int (lo (i+1+j)),.int (hi (i+1+j))]:=(zju _ (i+1)).trans (dropW _ _ _)
  have es:sumR (Nat.gcd k n-(i+1)) (fun j=>hi (i+1+j))=sumR (Nat.gcd k n) hi-sumR (i+1) hi:=by
   have:=za7 hi (i+1) (Nat.gcd k n-(i+1));rw[show i+1+(Nat.gcd k n-(i+1))=Nat.gcd k n by lia]at this;lia
  have gs:(zbm (Nat.gcd k n) lo hi)[i]? =some (.tup [.int (lo i),.int (hi i)]):=by unfold zbm;rw[zas _ hi']
  simp! only[↓zdC,↓zdu,cw,gs];refine⟨by lia,zaL (fun ρ=>∃y,ρ=[y]) (fun j=> .int (hi (i+1+j))) ⟨_,rfl⟩ ?_ ?_⟩
  ·rintro j _ hj ⟨y,rfl⟩;simp! only[↓zdk];exact⟨_,rfl⟩
  rintro _ ⟨y,rfl⟩;have ew':wI i (hd lo hi (Nat.gcd k n) (tT k n S))++[.int (hd lo hi (Nat.gcd k n) (tT k n S) i)]=wI (i+1) (hd lo hi (Nat.gcd k n) (tT k n S)):=(zf7 _ _).symm;have eh:max2 (lo i) (left lo hi (Nat.gcd k n) (tT k n S) i-(sumR (Nat.gcd k n) hi-sumR (i+1) hi))=hd lo hi (Nat.gcd k n) (tT k n S) i:=rfl;simp! only[zdO,zdT,es,eh,ew',zas _ (show i<i+1 by lia)];exact⟨by lia,_,rfl⟩
 ·rintro _ ⟨s8,rfl⟩;simp! only[↓zds];refine⟨zcu (by lia),by lia,zaL (fun ρ=>∃z,ρ=[.par (wI (Nat.gcd k n) (hd lo hi (Nat.gcd k n) (tT k n S))),.val (.lst (wI n (rM k n S))),z]) (fun p=> .int (rR k n S lo hi p)) ⟨_,rfl⟩ ?_ ?_⟩
  ·rintro p _ hp ⟨z,rfl⟩;have em:(p:Int)%((Nat.gcd k n:Nat):Int)=((p%Nat.gcd k n:Nat):Int):=by push_cast;rfl
   simp! only[↓zdm,em,zas _ (qcC p g1),zas _ hp];exact⟨by lia,rfl,_,rfl⟩
  rintro _ ⟨z,rfl⟩;simp! only[];refine(fits_ok d S L G (rR k n S lo hi)).mono ?_;rintro _ ⟨b,rfl,hb⟩;simp! only[];refine⟨fun ht=> .inl ⟨⟨clo,e0,(room_of d sp (hb.mp ht)).2⟩,rfl⟩,fun hf=> .inr ⟨fun gd=>?_,rfl⟩⟩;have:=hb.mpr (fits_of d clo e0 sp gd.2.2);rw[this]at hf;cases hf
end
section
variable {k n:Nat} {S L G:Nat->Int}
theorem zpA (f:Nat->Int)(hm:m<=1000):Ok (zbY [.tup (wI m f)]) fun x=>x= .val (.bl true):=by
 have w:∀i:Int,Ok (zc4 [.int i]) fun x=>x= .val (.bl true):=fun i=>by
  simp! only[↓zc4,↓zf8];exact⟨by decide,⟨by decide,rfl⟩,fun h=>absurd trivial h⟩
 simp! only[↓zbY,↓zeJ,↓ze1];refine⟨by decide,⟨by lia,zaL (fun ρ=>∃y,ρ=[y]) (fun i=> .bl true) ⟨_,rfl⟩ ?_ ?_⟩,fun h=>absurd trivial h⟩
 ·rintro i _ hi ⟨y,rfl⟩;simp! only[↓ze6];refine(w _).mono ?_;rintro _ rfl;simp! only[];exact⟨_,rfl⟩
 ·rintro _ ⟨y,rfl⟩;have e:=zd3 m fun _=>true
  simp! only[e];simp
end
def bin:Nat->Nat->Nat
 |_,0=>1
 |0,_+1=>0
 |n+1,m+1=>bin n m+bin n (m+1)
theorem zh1 (n:Nat):bin n 0=1:=by cases n<;>rfl
theorem zfH (n m:Nat):bin (n+1) (m+1)=bin n m+bin n (m+1):=rfl
theorem zo7:∀n s,bin (n+1) (s+1)*(s+1)=bin n s*(n+1)
 |0,0=>rfl
 |0,s+1=>by
  have h1:bin 1 (s+2)=0:=rfl;have h2:bin 0 (s+1)=0:=rfl;rw[h1,h2,Nat.zero_mul,Nat.zero_mul]
 |n+1,0=>by
  have h:=zo7 n 0;rw[zfH (n+1) 0,zh1,qck,qcH,qcD];rw[zh1,qck,qcH,qcD]at h;lia
 |n+1,t+1=>by
  have h1:=zo7 n (t+1);have h2:=zo7 n t;rw[zfH (n+1) (t+1),Nat.add_mul,h1,show t+1+1=(t+1)+1 from rfl,Nat.mul_add (bin (n+1) (t+1)) (t+1) 1,h2,qcH,Nat.mul_add (bin (n+1) (t+1)) (n+1) 1,qcH];have h3:bin (n+1) (t+1)*(n+1)=bin n t*(n+1)+bin n (t+1)*(n+1):=by rw[zfH,Nat.add_mul]
  lia
theorem zq7:∀n m,bin n m<=(n+1)^m
 |n,0=>by rw[zh1];exact qaJ _
 |0,m+1=>qbv _
 |n+1,m+1=>by
  have h1:=zq7 n m;have h2:=zq7 n (m+1);have h3:(n+1)^m<=(n+2)^m:=Nat.pow_le_pow_left (by lia) m;rw[zfH]
  calc bin n m+bin n (m+1)<=(n+1)^m+(n+1)^(m+1):=Nat.add_le_add h1 h2
   _=(n+1)^m*(n+2):=by
    have e:(n+1)^m*(n+2)=(n+1)^m*1+(n+1)^m*(n+1):=by rw[<-Nat.mul_add,show 1+(n+1)=n+2 by lia]
    rw[e,Nat.pow_succ,qcH]
   _<=(n+2)^m*(n+2):=Nat.mul_le_mul_right _ h3
   _=(n+1+1)^(m+1):=(Nat.pow_succ ..).symm
theorem bin_far {r i:Nat}(hr:r<2^250)(hi:i<=5):bin (r+i) i<2^4000:=by
 have h1:bin (r+i) i<=(2^251)^i:=qak (zq7 _ _) (Nat.pow_le_pow_left (by lia) i);have h2:(2^251)^i<=(2^251)^5:=qcI (by decide) hi;have h3:(2^251)^5<2^4000:=by rw[<-Nat.pow_mul];exact Nat.pow_lt_pow_right (by decide) (by decide)
 lia
theorem zrD {i j:Int}(h1:i.natAbs<2^4000)(h2:j.natAbs<2^4000):zlQ i j=true:=by
 unfold zlQ;rw[qa7 h1,qa7 h2];simp
theorem zne {r k:Nat}(hr:r<2^250)(k1:1<=k)(k5:k<=5):Ok (zer [.int r,.int k]) fun x=>x= .val (.int (bin (r+(k-1)) (k-1):Nat)):=by
 have e0:((k:Int)-1).toNat=k-1:=by lia
 simp! only[↓zer,↓zhR,↓zhm,e0,zjT];refine⟨⟨rfl,zcA (by lia) (by lia)⟩,zcs (fun i ρ=>∃s3,ρ=[.val (.int r),.val (.int k),.val (.int (bin (r+i) i:Nat)),s3]) ⟨_,by rw[zh1];rfl⟩ ?_ ?_⟩
 ·rintro i _ hi ⟨s3,rfl⟩;have hb:=bin_far hr (show i<=5 by lia);have e1:(bin (r+i) i:Int)*((r:Int)+(1+(i:Int)))/(1+(i:Int))=(bin (r+(i+1)) (i+1):Nat):=by
   have h:=zo7 (r+i) i;have h':(bin (r+i) i:Int)*((r:Int)+(1+(i:Int)))=(bin (r+(i+1)) (i+1):Nat)*(1+(i:Int)):=by
    have:((bin (r+i) i*(r+i+1):Nat):Int)=((bin (r+i+1) (i+1)*(i+1):Nat):Int):=by rw[h]
    push_cast at this;rw[show r+(i+1)=r+i+1 by lia,show(r:Int)+(1+(i:Int))=(r:Int)+(i:Int)+1 by lia,this,show(1+(i:Int))=(i:Int)+1 by lia]
   rw[h',Int.mul_ediv_cancel _ (by lia)]
  simp! only[↓zhn,e1];exact⟨zrD (by simpa using hb) (by lia),zcb (by lia) (by lia),_,rfl⟩
 ·rintro _ ⟨s3,rfl⟩;simp! only[]
def sub (w:Nat->Int)(c:Int->Int):Nat->Nat->Int->Int
 |0,_,t=>c t
 |m+1,j,t=>sub w c m (j+1) t-sub w c m (j+1) (t-w j)
theorem zlD {c:Int->Int}(hw:∀j,0<=w j)(hc:∀t,t<0->c t=0):∀m j t,t<0->sub w c m j t=0
 |0,_,t,h=>hc t h
 |m+1,j,t,h=>by
  show sub w c m (j+1) t-sub w c m (j+1) (t-w j)=0;rw[zlD hw hc m (j+1) t h,zlD hw hc m (j+1) (t-w j) (by have:=hw j;lia)]
  rfl
def tsum (F:Int->Int):List (Int×Nat)->Int
 |[]=>0
 |p::ps=>p.1*F p.2+tsum F ps
theorem zoD (F:Int->Int):∀a b:List (Int×Nat),tsum F (a++b)=tsum F a+tsum F b
 |[],b=>(Int.zero_add _).symm
 |p::a,b=>by
  show p.1*F p.2+tsum F (a++b)=p.1*F p.2+tsum F a+tsum F b;rw[zoD F a b];lia
def more (w:Nat)(ps:List (Int×Nat)):List (Int×Nat):=ps.filterMap fun p=>if w<=p.2 then some (-p.1,p.2-w)else none
theorem znl (w:Nat)(h0:∀t,t<0->F t=0):∀ps:List (Int×Nat),tsum F ps+tsum F (more w ps)=tsum (fun t=>F t-F (t-w)) ps
 |[]=>rfl
 |p::ps=>by
  have ih:=znl w h0 ps;show p.1*F p.2+tsum F ps+tsum F (more w (p::ps))=p.1*(F p.2-F ((p.2:Int)-w))+tsum (fun t=>F t-F (t-w)) ps;rw[Int.mul_sub]
  by_cases h:w<=p.2
  ·have e:more w (p::ps)=(-p.1,p.2-w)::more w ps:=by unfold more;rw[qal,if_pos h]
   have e2:tsum F ((-p.1,p.2-w)::more w ps)= -p.1*F (((p.2-w:Nat)):Int)+tsum F (more w ps):=rfl;rw[e,e2,show((p.2-w:Nat):Int)=(p.2:Int)-(w:Int) by lia,Int.neg_mul];lia
  ·have e:more w (p::ps)=more w ps:=by unfold more;rw[qal,if_neg h]
   rw[e,h0 ((p.2:Int)-w) (by lia),Int.mul_zero];lia
def ways (k:Nat)(t:Int):Int:=if 0<=t then(bin (t.toNat+(k-1)) (k-1):Nat)else 0
theorem zg3 (k:Nat)(t:Int)(h:t<0):ways k t=0:=if_neg (by lia)
theorem zjE (k r:Nat):ways k (r:Int)=(bin (r+(k-1)) (k-1):Nat):=by
 unfold ways;rw[if_pos (by lia),qbb]
abbrev tD (ps:List (Int×Nat)):List D:=ps.map fun p=> .tup [.int p.1,.int p.2]
abbrev spanD (m:Nat)(lo hi:Nat->Int):List D:=wL m fun j=> .tup [.int (lo j),.int (hi j)]
theorem zoQ (F:Int->Int):∀ps:List (Int×Nat),(ps.map fun p=>p.1*F p.2).sum=tsum F ps
 |[]=>rfl
 |p::ps=>by
  rw[qbj,List.sum_cons,zoQ F ps];rfl
theorem more_len (w:Nat)(ps:List (Int×Nat)):(more w ps).length<=ps.length:=List.length_filterMap_le _ _
theorem heads6 {k:Nat}(k1:1<=k)(k5:k<=5)(le:∀j,j<k->lo j<=hi j){left:Nat}(hl:left<2^250)(a1 a3 a4 a5 a6:Sl):
  Ok (zee [.val (.lst (spanD k lo hi)),a1,.val (.int left),a3,a4,a5,a6]) fun x=>∃a,x=(.ret (.val (.int (sub (fun j=>if j<k then hi j-lo j+1 else 0) (ways k) k 0 left))),a):=by
 have hw:∀j,0<=(if j<k then hi j-lo j+1 else 0):=fun j=>by
  split
  ·rename_i h;have:=le j h;lia
  ·exact qcv _
 have hw':∀j,0<=(fun j=>if j<k then hi j-lo j+1 else 0) j:=hw;clear hw
 generalize hW:(fun j=>if j<k then hi j-lo j+1 else 0)=W at hw'
 simp! only[↓zee,↓zgJ];refine zcs (fun j ρ=>∃ps s4 s5 s6,ps.length<=2^j/\(∀p∈ps,p.1.natAbs=1/\p.2<=left)/\tsum (sub W (ways k) (k-j) j) ps=sub W (ways k) k 0 left/\ρ=[.val (.lst (spanD k lo hi)),a1,.val (.int left),.val (.lst (tD ps)),s4,s5,s6]) ⟨[(1,left)],_,_,_,by simp,fun p hp=>by rw[List.mem_singleton.mp hp];exact⟨rfl,qaJ _⟩,?_,rfl⟩ ?_ ?_
 ·show(1:Int)*sub W (ways k) (k-0) 0 left+0=_;rw[Int.one_mul,Int.add_zero];rfl
 ·rintro j _ hj ⟨ps,s4,s5,s6,hn,hs,ht,rfl⟩;have hp:2^j<=16:=qcI (n:=2) (by decide) (show j<=4 by lia);have hl:=le j hj;obtain⟨w,ew⟩:∃w:Nat,hi j-lo j+1=(w:Int):=⟨(hi j-lo j+1).toNat,by lia⟩;have eW:W j=(w:Int):=by rw[<-hW];simp only[hj,if_true];exact ew
  simp! only[↓zgX,ew,↓zgR];refine⟨by lia,zlq (enc:=fun p:Int×Nat=>D.tup [.int p.1,.int p.2]) (l:=ps) (fun ρ=>∃x y,ρ=[.val (.int w),x,y]) (fun p=>if w<=p.2 then some (.tup [.int (-p.1),.int ((p.2:Int)-w)])else none) ⟨_,_,rfl⟩ ?_ ?_⟩
  ·rintro⟨s,r⟩ _ _ ⟨x,y,rfl⟩;simp! only[↓zf4,↓zgO];refine⟨fun h=>?_,fun h=>?_⟩
   ·rw[if_pos (by lia)];exact⟨rfl,_,_,rfl⟩
   ·rw[if_neg (by lia)];exact⟨rfl,_,_,rfl⟩
  ·rintro _ ⟨x,y,rfl⟩;have e:(ps.filterMap fun p=>if w<=p.2 then some (D.tup [.int (-p.1),.int ((p.2:Int)-w)])else none)=tD (more w ps):=by
    unfold tD more;rw[List.map_filterMap];refine zfJ _ fun p hp=>?_
    split
    ·rename_i h;rw[qbz,show((p.2-w:Nat):Int)=(p.2:Int)-(w:Int) by lia]
    ·rfl
   have e2:tD ps++tD (more w ps)=tD (ps++more w ps):=(qcj ..).symm;have hm:=more_len w ps;simp! only[e,e2];refine⟨by lia,ps++more w ps,_,_,_,by rw[qa2,Nat.pow_succ];lia,fun p hp=>?_,?_,rfl⟩
   ·rcases qap.mp hp with h|h
    ·exact hs p h
    ·obtain⟨q,hq,e⟩:=qaL.mp h;have:=hs q hq
     split at e
     ·cases e;exact⟨by rw[Int.natAbs_neg];exact this.1,by have:=this.2;show q.2-w<=left;lia⟩
     ·cases e
   ·rw[zoD,znl w (fun t h=>zlD hw' (zg3 k) _ _ t h),<-ht,show k-j=(k-(j+1))+1 by lia,<-eW]
    rfl
 ·rintro _ ⟨ps,s4,s5,s6,hn,hs,ht,rfl⟩;have hp:2^k<=32:=qcI (n:=2) (by decide) k5;simp! only[↓zgW];refine⟨by lia,zqk (enc:=fun p:Int×Nat=>D.tup [.int p.1,.int p.2]) (l:=ps) (fun ρ=>∃x y,ρ=[.val (.lst (spanD k lo hi)),x,y]) (fun p=> .int (p.1*ways k p.2)) ⟨_,_,rfl⟩ ?_ ?_⟩
  ·rintro⟨s,r⟩ _ hm ⟨x,y,rfl⟩;have:=hs _ hm;simp! only[↓zf5];refine(zne (r:=r) (by have:=this.2;simp only at this;lia) k1 k5).mono ?_;rintro _ rfl;simp! only[zjE];exact⟨zfr (by have:=this.1;simp only at this;lia),_,_,rfl⟩
  ·rintro _ ⟨x,y,rfl⟩;have e:(ps.map fun p=>D.int (p.1*ways k p.2))=(ps.map fun p=>p.1*ways k p.2).map D.int:=by rw[qch];rfl
   simp! only[e,zcN,zoQ];rw[Nat.sub_self]at ht;have:tsum (ways k) ps=sub W (ways k) k 0 left:=ht;rw[this];exact⟨_,rfl⟩
def wid (k:Nat)(lo hi:Nat->Int):Nat->Int:=fun j=>if j<k then hi j-lo j+1 else 0
def cnt (k:Nat)(lo hi:Nat->Int)(T:Int):Int:=if(List.range k).all (fun j=>decide (lo j<=hi j))then sub (wid k lo hi) (ways k) k 0 (T-sumR k lo)else 0
theorem all_le {k:Nat}:(List.range k).all (fun j=>decide (lo j<=hi j))=true↔∀j,j<k->lo j<=hi j:=by simp
theorem wid_pos {k:Nat}(le:∀j,j<k->lo j<=hi j)(j:Nat):0<=wid k lo hi j:=by
 unfold wid
 split
 ·rename_i h;have:=le j h;lia
 ·exact qcv _
theorem zik {k:Nat}(k1:1<=k)(k5:k<=5)(lo hi:Nat->Int)(T:Int)(far:T-sumR k lo<2^250):Ok (zbF [.lst (spanD k lo hi),.int T]) fun x=>x= .val (.int (cnt k lo hi T)):=by
 simp! only[↓zbF,↓zgS,↓zgf];refine⟨by lia,zaL (fun ρ=>∃x y,ρ=[x,y]) (fun j=> .bl (decide (hi j<lo j))) ⟨_,_,rfl⟩ ?_ ?_⟩
 ·rintro j _ hj ⟨x,y,rfl⟩;simp! only[↓zgj];exact⟨_,_,rfl⟩
 ·rintro _ ⟨x,y,rfl⟩;simp! only[zd3];refine⟨fun h=>?_,fun h=>?_⟩
  ·obtain⟨j,hj,e⟩:=(any_w _ _).mp h;have:¬(List.range k).all (fun j=>decide (lo j<=hi j))=true:=fun z=>by
    have:=all_le.mp z j hj;have:=qbC e;lia
   unfold cnt;rw[if_neg this]
  ·have le:∀j,j<k->lo j<=hi j:=fun j hj=>by
    by_cases q:lo j<=hi j
    ·exact q
    ·have:=(any_w k fun j=>decide (hi j<lo j)).mpr ⟨j,hj,qa7 (by lia)⟩;rw[h]at this;cases this
   have ec:cnt k lo hi T=sub (wid k lo hi) (ways k) k 0 (T-sumR k lo):=if_pos (all_le.mpr le);simp! only[↓zgz,↓zgG];refine⟨by lia,zaL (fun ρ=>∃x y,ρ=[x,y]) (fun j=> .int (lo j)) ⟨_,_,rfl⟩ ?_ ?_⟩
   ·rintro j _ hj ⟨x,y,rfl⟩;simp! only[↓zgu];exact⟨_,_,rfl⟩
   ·rintro _ ⟨x,y,rfl⟩;simp! only[zdO,zdT];refine⟨fun h=>?_,fun h=>?_⟩
    ·rw[ec,zlD (wid_pos le) (zg3 k) _ _ _ (by lia)]
    ·obtain⟨left,el⟩:∃left:Nat,T-sumR k lo=(left:Int):=⟨(T-sumR k lo).toNat,by lia⟩;rw[el]at ec far ⊢;refine(heads6 k1 k5 le (left:=left) (by lia) _ _ _ _ _).mono ?_;rintro _ ⟨a,rfl⟩;simp! only[ec]
     rfl
def hc (lo hi:Nat->Int):Nat->Nat->Int->Int
 |0,_,t=>if t=0 then 1 else 0
 |m+1,j,t=>sumR (hi j-lo j+1).toNat fun v=>hc lo hi m (j+1) (t-(lo j+(v:Nat)))
theorem znH (w:Nat->Int)(F G:Int->Int):∀m j t,sub w (fun t=>F t-G t) m j t=sub w F m j t-sub w G m j t
 |0,_,_=>rfl
 |m+1,j,t=>by
  show sub w _ m (j+1) t-sub w _ m (j+1) (t-w j)=(sub w F m (j+1) t-sub w F m (j+1) (t-w j))-(sub w G m (j+1) t-sub w G m (j+1) (t-w j));rw[znH w F G m,znH w F G m];lia
theorem zii (w:Nat->Int)(F:Int->Int)(a:Int):∀m j t,sub w (fun t=>F (t-a)) m j t=sub w F m j (t-a)
 |0,_,_=>rfl
 |m+1,j,t=>by
  show sub w _ m (j+1) t-sub w _ m (j+1) (t-w j)=sub w F m (j+1) (t-a)-sub w F m (j+1) (t-a-w j);rw[zii w F a m,zii w F a m,show t-w j-a=t-a-w j by lia]
theorem zlp (w:Nat->Int)(F:Nat->Int->Int)(n:Nat):∀m j t,sub w (fun t=>sumR n fun v=>F v t) m j t=sumR n fun v=>sub w (F v) m j t
 |0,_,_=>rfl
 |m+1,j,t=>by
  show sub w _ m (j+1) t-sub w _ m (j+1) (t-w j)=sumR n fun v=>sub w (F v) m (j+1) t-sub w (F v) m (j+1) (t-w j)
  rw[zlp w F n m,zlp w F n m,zo5]
theorem zqR {F G:Int->Int}(h:∀t,F t=G t)(m j:Nat)(t:Int):sub w F m j t=sub w G m j t:=by
 rw[show F=G from funext h]
theorem zlt:∀n m,n<m->bin n m=0
 |0,m+1,_=>rfl
 |n+1,m+1,h=>by rw[zfH,zlt n m (by lia),zlt n (m+1) (by lia)]
theorem zlI:∀n,bin n n=1
 |0=>rfl
 |n+1=>by rw[zfH,zlI n,zlt n (n+1) (by lia)]
theorem zqx (hm:1<=m)(t:Int):ways (m+1) t-ways (m+1) (t-1)=ways m t:=by
 obtain⟨m,rfl⟩:∃q,m=q+1:=⟨m-1,by lia⟩
 by_cases h:t<0
 ·rw[zg3 _ _ h,zg3 _ _ (by lia),zg3 _ _ h];rfl
 ·obtain⟨r,rfl⟩:∃r:Nat,t=r:=⟨t.toNat,by lia⟩;rw[zjE,zjE];simp only[Nat.add_sub_cancel];cases r with
  |zero=>
   rw[zg3 _ _ (by lia),qck,qck,zlI,zlI];rfl
  |succ r=>
   rw[show((r+1:Nat):Int)-1=(r:Nat) by lia,zjE];simp only[Nat.add_sub_cancel];rw[show r+1+(m+1)=(r+(m+1))+1 by lia,zfH,show r+1+m=r+(m+1) by lia];push_cast;lia
theorem zol (hm:1<=m)(t:Int):∀n:Nat,(sumR n fun v=>ways m (t-(v:Nat)))=ways (m+1) t-ways (m+1) (t-n)
 |0=>by show(0:Int)=_;rw[show t-((0:Nat):Int)=t by lia];lia
 |n+1=>by
  show(sumR n fun v=>ways m (t-(v:Nat)))+ways m (t-n)=_;rw[zol hm t n,<-zqx hm (t-n),show t-(n:Int)-1=t-((n+1:Nat):Int) by lia];lia
theorem hc_sub {k:Nat}(le:∀j,j<k->lo j<=hi j):∀(m j:Nat) (t:Int),j+(m+1)<=k->hc lo hi (m+1) j t=sub (wid k lo hi) (ways (m+1)) (m+1) j (t-sumR (m+1) fun i=>lo (j+i))
 |0,j,t,h=>by
  have l:=le j (by lia);have ew:wid k lo hi j=hi j-lo j+1:=if_pos (by lia);show(sumR (hi j-lo j+1).toNat fun v=>if t-(lo j+(v:Nat))=0 then 1 else 0)=ways 1 (t-(0+lo (j+0)))-ways 1 (t-(0+lo (j+0))-wid k lo hi j);rw[ew,Int.zero_add,qcE];have w1:∀x,ways 1 x=if 0<=x then 1 else 0:=fun x=>by
   unfold ways
   split
   ·rw[show 1-1=0 from rfl,zh1];rfl
   ·rfl
  have key:∀n:Nat,(sumR n fun v=>if t-(lo j+(v:Nat))=0 then 1 else 0)=(if 0<=t-lo j then 1 else 0)-(if 0<=t-lo j-n then 1 else 0):=fun n=>by
   induction n with
   |zero=>show(0:Int)=_;rw[show t-lo j-((0:Nat):Int)=t-lo j by lia];lia
   |succ n ih=>
    show(sumR n fun v=>if t-(lo j+(v:Nat))=0 then 1 else 0)+(if t-(lo j+(n:Nat))=0 then 1 else 0)=_;rw[ih];push_cast
    split<;>split<;>split<;>split<;>lia
  rw[key,w1,w1,show(((hi j-lo j+1).toNat:Nat):Int)=hi j-lo j+1 by lia]
 |m+1,j,t,h=>by
  have l:=le j (by lia);have ew:wid k lo hi j=hi j-lo j+1:=if_pos (by lia);have split:(sumR (m+1+1) fun i=>lo (j+i))=lo j+sumR (m+1) fun i=>lo (j+1+i):=by
   have:=za7 (fun i=>lo (j+i)) 1 (m+1);rw[show 1+(m+1)=m+1+1 by lia]at this;rw[this];congr 1
   ·show(0:Int)+lo (j+0)=_;rw[Int.zero_add];rfl
   ·exact zar fun i _=>by rw[Nat.add_assoc]
  show(sumR (hi j-lo j+1).toNat fun v=>hc lo hi (m+1) (j+1) (t-(lo j+(v:Nat))))=_;rw[zar fun v _=>hc_sub le m (j+1) (t-(lo j+(v:Nat))) (by lia)]
  generalize hT:(t-sumR (m+1+1) fun i=>lo (j+i))=T
  rw[zar (g:=fun v:Nat=>sub (wid k lo hi) (fun t=>ways (m+1) (t-(v:Nat))) (m+1) (j+1) T) fun v _=>by
   rw[zii];congr 1;lia]
  rw[<-zlp,zqR (fun t=>zol (show 1<=m+1 by lia) t _),znH,zii];show _=sub (wid k lo hi) (ways (m+1+1)) (m+1) (j+1) T-sub (wid k lo hi) (ways (m+1+1)) (m+1) (j+1) (T-wid k lo hi j);rw[ew,show(((hi j-lo j+1).toNat:Nat):Int)=hi j-lo j+1 by lia]
theorem znz:∀(m j:Nat) (t:Int),(∃i,i<m/\hi (j+i)<lo (j+i))->hc lo hi m j t=0
 |0,_,_,⟨i,h,_⟩=>by lia
 |m+1,j,t,⟨i,h,l⟩=>by
  show(sumR (hi j-lo j+1).toNat fun v=>hc lo hi m (j+1) (t-(lo j+(v:Nat))))=0
  match i,h,l with
  |0,_,l=>rw[qcE]at l;rw[show(hi j-lo j+1).toNat=0 by lia];rfl
  |i+1,h,l=>
   rw[zar (g:=fun _=>0) fun v _=>znz m (j+1) _ ⟨i,by lia,by rw[show j+1+i=j+(i+1) by lia];exact l⟩,zka]
theorem hc_cnt {k:Nat}(k1:1<=k)(lo hi:Nat->Int)(T:Int):hc lo hi k 0 T=cnt k lo hi T:=by
 unfold cnt
 by_cases c:(List.range k).all (fun j=>decide (lo j<=hi j))=true
 ·rw[if_pos c];obtain⟨m,rfl⟩:∃m,k=m+1:=⟨k-1,by lia⟩;rw[hc_sub (all_le.mp c) m 0 T (by lia)];congr 2;exact zar fun i _=>by rw[qck]
 ·rw[if_neg c];refine znz k 0 T ?_
  by_cases z:∃i,i<k/\hi (0+i)<lo (0+i)
  ·exact z
  ·refine absurd (all_le.mpr fun j hj=>?_) c
   by_cases y:lo j<=hi j
   ·exact y
   ·exact absurd ⟨j,hj,by rw[qck];lia⟩ z
theorem zoN (lo hi:Nat->Int)(j:Nat):∀(m i:Nat) (t:Int),hc (fun i=>lo (j+i)) (fun i=>hi (j+i)) m i t=hc lo hi m (j+i) t
 |0,_,_=>rfl
 |m+1,i,t=>zar fun v _=>by rw[zoN lo hi j m (i+1)];rfl
theorem zqs:∀(m j:Nat) (t:Int),(∀i,i<m->lo (j+i)=lo' (j+i)/\hi (j+i)=hi' (j+i))->hc lo hi m j t=hc lo' hi' m j t
 |0,_,_,_=>rfl
 |m+1,j,t,h=>by
  have h0:=h 0 (by lia);rw[qcE]at h0;show sumR (hi j-lo j+1).toNat _=sumR (hi' j-lo' j+1).toNat _;rw[h0.1,h0.2];exact zar fun v _=>zqs m (j+1) _ fun i hi=>by
   have:=h (i+1) (by lia);rw[show j+(i+1)=j+1+i by lia]at this;exact this
theorem zjH {f:Nat->Int}(h:∀i,i<n->0<=f i):0<=sumR n f:=by
 have:=zfq (f:=fun _=>0) (g:=f) h;rw[zka]at this;exact this
theorem zkR (lo hi:Nat->Int):∀(m j:Nat) (t:Int),0<=hc lo hi m j t
 |0,_,t=>by show 0<=if t=0 then(1:Int)else 0;split<;>decide
 |m+1,j,t=>zjH fun v _=>zkR lo hi m (j+1) _
def zbI (lo hi:Nat->Int)(m j:Nat)(t f:Int):Int:=sumR (f-lo j).toNat fun v=>hc lo hi m (j+1) (t-(lo j+(v:Nat)))
theorem zmK (lo hi:Nat->Int)(m j:Nat)(t:Int):zbI lo hi m j t (hi j+1)=hc lo hi (m+1) j t:=by
 unfold zbI;show _=sumR (hi j-lo j+1).toNat _;rw[show hi j+1-lo j=hi j-lo j+1 by lia]
theorem zpP (lo hi:Nat->Int)(m j:Nat)(t:Int):zbI lo hi m j t (lo j)=0:=by
 unfold zbI;rw[Int.sub_self];rfl
theorem zg5 (lo hi:Nat->Int)(m j:Nat)(t:Int){f:Int}(h:lo j<=f):zbI lo hi m j t (f+1)=zbI lo hi m j t f+hc lo hi m (j+1) (t-f):=by
 unfold zbI;rw[show(f+1-lo j).toNat=(f-lo j).toNat+1 by lia];show _+hc lo hi m (j+1) (t-(lo j+((f-lo j).toNat:Nat)))=_;rw[show lo j+((f-lo j).toNat:Nat)=f by lia]
theorem cons_w (a:D)(m:Nat)(f:Nat->D):[a]++wL m f=wL (m+1) fun i=>if i=0 then a else f (i-1):=by
 apply qcs;intro i;cases i with
 |zero=>rw[zas _ (by lia)];rfl
 |succ i=>
  show(wL m f)[i]? =_
  by_cases h:i<m
  ·rw[zas _ h,zas _ (by lia),if_neg (by lia)];rfl
  ·rw[qbU (by rw[zaN];lia),qbU (by rw[zaN];lia)]
theorem zrF (f:Nat->D):(wL n f).drop i=wL (n-i) fun j=>f (i+j):=by
 apply qcs;intro j;rw[qcw]
 by_cases hj:i+j<n
 ·rw[zas _ hj,zas _ (by lia)]
 ·rw[qbU (by rw[zaN];lia),qbU (by rw[zaN];lia)]
theorem zn5 (lo hi:Nat->Int)(m j:Nat)(f:Int):[D.tup [.int (lo j),.int (f-1)]]++zbm m (fun i=>lo (j+1+i)) (fun i=>hi (j+1+i))=zbm (m+1) (fun i=>lo (j+i)) (fun i=>if i=0 then f-1 else hi (j+i)):=by
 unfold zbm;rw[cons_w];refine zdN fun i hi'=>?_
 by_cases h:i=0
 ·subst h;simp
 ·rw[if_neg h];dsimp only;rw[if_neg h,show j+1+(i-1)=j+i by lia]
theorem zrO (lo hi:Nat->Int)(m j:Nat)(t f:Int):cnt (m+1) (fun i=>lo (j+i)) (fun i=>if i=0 then f-1 else hi (j+i)) t=zbI lo hi m j t f:=by
 rw[<-hc_cnt (by lia)];show sumR ((if(0:Nat)=0 then f-1 else hi (j+0))-lo (j+0)+1).toNat _=_;unfold zbI;rw[if_pos rfl,qcE,show f-1-lo j+1=f-lo j by lia];refine zar fun v _=>?_
 rw[<-zoN lo hi j m 1];exact zqs m 1 _ fun i _=>⟨rfl,if_neg (by lia)⟩
section
variable {lo hi:Nat->Int} {m j:Nat} {t:Int}
theorem zeH (m5:m+1<=5)(far:t-(sumR (m+1) fun i=>lo (j+i))<2^250)(f:Int):Ok (za4 [.lst (zbm (m+1) (fun i=>lo (j+i)) fun i=>hi (j+i)),.int t,.int f]) fun x=>x= .val (.int (zbI lo hi m j t f)):=by
 have c1:cutD (zbm (m+1) (fun i=>lo (j+i)) fun i=>hi (j+i)) (some 1) none=zbm m (fun i=>lo (j+1+i)) fun i=>hi (j+1+i):=by
  rw[show(some (1:Int))=some ((1:Nat):Int)from rfl,zju];unfold zbm;rw[zrF];exact zdN fun i _=>by dsimp only;rw[show j+(1+i)=j+1+i by lia]
 have g0:(zbm (m+1) (fun i=>lo (j+i)) fun i=>hi (j+i))[0]? =some (.tup [.int (lo j),.int (hi j)]):=by
  unfold zbm;rw[zas _ (by lia)];rfl
 have sl:(zbm m (fun i=>lo (j+1+i)) fun i=>hi (j+1+i)).length=m:=zaN _ _;simp! only[↓za4,↓zfu,c1,g0,sl];refine⟨by lia,?_⟩;have e:=zn5 lo hi m j f;simp only[qbI,List.nil_append]at e;rw[e];refine(zik (by lia) m5 _ _ t far).mono ?_;rintro _ rfl;simp! only[zrO]
theorem zmh (m5:m+1<=5)(far:t-(sumR (m+1) fun i=>lo (j+i))<2^250)(wide:hi j-lo j<2^399)(h0:0<=number)(h1:number<hc lo hi (m+1) j t):
  Ok (zc6 [.lst (zbm (m+1) (fun i=>lo (j+i)) fun i=>hi (j+i)),.int t,.int number]) fun x=>∃h:Int,lo j<=h/\h<=hi j/\zbI lo hi m j t h<=number/\number<zbI lo hi m j t (h+1)/\x= .val (.int h):=by
 have le:lo j<=hi j:=by
  by_cases c:lo j<=hi j
  ·exact c
  ·rw[znz (m+1) j t ⟨0,by lia,by rw[qcE];lia⟩]at h1;lia
 have g0:(zbm (m+1) (fun i=>lo (j+i)) fun i=>hi (j+i))[0]? =some (.tup [.int (lo j),.int (hi j)]):=by
  unfold zbm;rw[zas _ (by lia)];rfl
 simp! only[↓zc6,↓zf9,g0,↓zgq];refine zjG (fun q ρ=>∃(low high:Int) (z:Sl),lo j<=low/\low<=high/\high<=hi j/\high-low<2^q/\zbI lo hi m j t low<=number/\number<zbI lo hi m j t (high+1)/\ρ=[.val (.lst (zbm (m+1) (fun i=>lo (j+i)) fun i=>hi (j+i))),.val (.int t),.val (.int number),.val (.int low),.val (.int high),z]) ?_ 400 399 _ (by lia) ⟨lo j,hi j,_,by lia,le,by lia,wide,by rw[zpP];exact h0,by rw[zmK];exact h1,rfl⟩;rintro q _ ⟨low,high,z,b1,b2,b3,b4,b5,b6,rfl⟩;simp! only[↓zf0];refine⟨fun c=>?_,fun c=>?_⟩
 ·have c:low<high:=by simpa using c
  obtain⟨q,rfl⟩:∃q',q=q'+1:=⟨q-1,by
   cases q with
   |zero=>rw[Int.pow_zero]at b4;lia
   |succ q=>rfl⟩
  rw[Int.pow_succ]at b4;have d0:∀P:Int,high-low<P*2->(low+high+1)/2-1-low<P/\high-(low+high+1)/2<P:=fun P hP=>by lia
  obtain⟨d3,d4⟩:=d0 _ b4;clear d0;have d1:low<(low+high+1)/2:=by lia
  have d2:(low+high+1)/2<=high:=by lia
  refine⟨q,rfl,?_⟩;simp! only[↓zgZ];refine⟨by decide+kernel,?_⟩
  generalize (low+high+1)/2=mid at d1 d2 d3 d4
  refine(zeH m5 far mid).mono ?_;rintro _ rfl;simp! only[];refine⟨fun c=>⟨low,mid-1,_,b1,by lia,by lia,d3,b5,by rw[show mid-1+1=mid by lia];exact c,rfl⟩,fun c=>⟨mid,high,_,by lia,by lia,b3,d4,by lia,b6,rfl⟩⟩
 ·have c:low=high:=by
   have:¬low<high:=by simpa using c
   lia
  subst c;exact⟨low,b1,b3,b5,b6,rfl⟩
end
section
variable {k:Nat} {lo hi:Nat->Int} {T:Int}
def rank (k:Nat)(lo hi:Nat->Int)(T:Int)(h:Nat->Int)(j:Nat):Int:=sumR j fun i=>zbI lo hi (k-i-1) i (T-sumR i h) (h i)
theorem far_at {k:Nat}{T:Int}(far:T-sumR k lo<2^250)(hj:j<=k)(hh:∀i,i<j->lo i<=h i):(T-sumR j h)-(sumR (k-j) fun i=>lo (j+i))<2^250:=by
 have h1:=za7 lo j (k-j);rw[show j+(k-j)=k by lia]at h1;have h2:=zfq (f:=lo) (g:=h) hh;lia
theorem zmv (lo hi:Nat->Int)(k j:Nat):(zbm k lo hi).drop j=zbm (k-j) (fun i=>lo (j+i)) fun i=>hi (j+i):=by
 unfold zbm;rw[zrF]
theorem znC (k5:k<=5)(far:T-sumR k lo<2^250)(wide:∀j,j<k->hi j-lo j<2^399)(h0:0<=number)(h1:number<hc lo hi k 0 T):
  Ok (ze9 [.lst (zbm k lo hi),.int T,.int number]) fun x=>∃h:Nat->Int,(∀i,i<k->lo i<=h i/\h i<=hi i)/\sumR k h=T/\rank k lo hi T h k=number/\x= .own (wI k h):=by
 have sl:(zbm k lo hi).length=k:=zaN _ _;simp! only[↓ze9,↓ziY,↓ziD,sl];refine⟨zcA (by lia) (by lia),zcs (fun j ρ=>∃(h:Nat->Int) (ah:Int) (y z:Sl),(∀i,i<j->lo i<=h i/\h i<=hi i)/\0<=ah/\ah<hc lo hi (k-j) j (T-sumR j h)/\rank k lo hi T h j+ah=number/\ρ=[.val (.lst (zbm k lo hi)),.val (.int T),.val (.int number),.own (wI j h),.val (.int (T-sumR j h)),.val (.int ah),y,z]) ⟨fun _=>0,number,_,_,fun i hi=>by lia,h0,by rw[show sumR 0 (fun _:Nat=>(0:Int))=0 from rfl,Int.sub_zero];exact h1,by show(0:Int)+number=number;lia,by rw[show sumR 0 (fun _:Nat=>(0:Int))=0 from rfl,Int.sub_zero];rfl⟩ ?_ ?_⟩
 ·rintro j _ hj ⟨h,ah,y,z,hh,a0,a1,er,rfl⟩;obtain⟨m,em⟩:∃m,k-j=m+1:=⟨k-j-1,by lia⟩;have farj:=far_at far (show j<=k by lia) fun i hi=>(hh i hi).1
  rw[em]at a1 farj;have cd:cutD (zbm k lo hi) (some (j:Int)) none=zbm (m+1) (fun i=>lo (j+i)) fun i=>hi (j+i):=by
   rw[zju,zmv,em]
  simp! only[↓ziE,cd];refine(zmh (by lia) farj (wide j hj) a0 a1).mono ?_;rintro _ ⟨v,v1,v2,v3,v4,rfl⟩;simp! only[cd];refine(zeH (by lia) farj v).mono ?_;rintro _ rfl;have bn:=zg5 lo hi m j (T-sumR j h) v1
  let h':Nat->Int:=fun i=>if i<j then h i else v
  have e1:sumR j h'=sumR j h:=zar fun i hi=>if_pos hi
  have e2:h' j=v:=if_neg (by lia);have e3:∀i,i<=j->sumR i h'=sumR i h:=fun i hi=>zar fun q hq=>if_pos (by lia)
  have e4:rank k lo hi T h' j=rank k lo hi T h j:=zar fun i hi=>by rw[e3 i (by lia),show h' i=h i from if_pos hi]
  have e5:wI j h++[D.int v]=wI (j+1) h':=by
   rw[zmj]
  have e6:T-sumR (j+1) h'=T-sumR j h-v:=by
   show T-(sumR j h'+h' j)=_;rw[e1,e2];lia
  have e7:rank k lo hi T h' (j+1)=rank k lo hi T h j+zbI lo hi m j (T-sumR j h) v:=by
   show rank k lo hi T h' j+zbI lo hi (k-j-1) j (T-sumR j h') (h' j)=_;rw[e4,e1,e2,show k-j-1=m by lia]
  simp! only[e5];refine⟨by lia,h',ah-zbI lo hi m j (T-sumR j h) v,.val (.int j),.val (.int v),fun i hi'=>?_,by lia,?_,by rw[e7];lia,by rw[e6]⟩
  ·by_cases c:i<j
   ·rw[show h' i=h i from if_pos c];exact hh i c
   ·have:i=j:=by lia
    subst this;rw[e2];exact⟨v1,v2⟩
  ·rw[e6,show k-(j+1)=m by lia];lia
 ·rintro _ ⟨h,ah,y,z,hh,a0,a1,er,rfl⟩;rw[Nat.sub_self]at a1;have a1:ah<if T-sumR k h=0 then(1:Int)else 0:=a1
  simp! only[]
  split at a1
  ·exact⟨h,hh,by lia,by lia,rfl⟩
  ·lia
end
theorem zhX {f:Nat->Int}(h0:∀i,0<=f i):∀{n i:Nat},i<n->f i<=sumR n f
 |n+1,i,h=>by
  show f i<=sumR n f+f n
  by_cases e:i=n
  ·subst e;have:=zjH (f:=f) (n:=i) fun i _=>h0 i
   lia
  ·have:=zhX h0 (show i<n by lia);have:=h0 n;lia
theorem zmP (h0:∀i,0<=f i):∀{n:Nat},0<sumR n f->∃i,i<n/\0<f i
 |0,h=>absurd (show(0:Int)<0 from h) (by decide)
 |n+1,h=>by
  have h:0<sumR n f+f n:=h
  by_cases e:0<f n
  ·exact⟨n,by lia,e⟩
  ·obtain⟨i,hi,p⟩:=zmP h0 (show 0<sumR n f by have:=h0 n;lia);exact⟨i,by lia,p⟩
theorem zru (f:Nat->Int)(m:Nat):sumR (m+1) f=f 0+sumR m fun i=>f (1+i):=by
 have:=za7 f 1 m;rw[Nat.add_comm 1 m]at this;rw[this];show(0+f 0)+_=_;lia
theorem zin (h:Nat->Int)(m j:Nat):(sumR (m+1) fun i=>h (j+i))=h j+sumR m fun i=>h (j+1+i):=by
 rw[zru];show h (j+0)+_=_;rw[qcE];congr 1;exact zar fun i _=>by rw[show j+(1+i)=j+1+i by lia]
section
variable {lo hi:Nat->Int}
theorem hc_ge:∀(m j:Nat) (t:Int),(∀i,i<m->lo (j+i)<=h (j+i)/\h (j+i)<=hi (j+i))->(sumR m fun i=>h (j+i))=t->1<=hc lo hi m j t
 |0,j,t,_,e=>by
  have e:(0:Int)=t:=e;subst e;exact qcv _
 |m+1,j,t,hh,e=>by
  rw[zin]at e;have h0:=hh 0 (by lia);rw[qcE]at h0;have ih:=hc_ge m (j+1) (t-h j) (fun i hi'=>by have:=hh (i+1) (by lia);rw[show j+(i+1)=j+1+i by lia]at this;exact this) (by lia);have one:=zhX (f:=fun v=>hc lo hi m (j+1) (t-(lo j+(v:Nat)))) (fun v=>zkR lo hi m (j+1) _) (n:=(hi j-lo j+1).toNat) (i:=(h j-lo j).toNat) (by lia);have ev:lo j+((h j-lo j).toNat:Int)=h j:=by lia
  rw[ev]at one;exact qcF ih one
def pt (lo:Nat->Int)(j:Nat)(v:Int)(i:Nat):Int:=if i=j then v else lo i
theorem pt_at (f:Nat->Int)(j:Nat)(v:Int):pt f j v j=v:=if_pos rfl
theorem pt_ne (f:Nat->Int)(v:Int)(h:i≠j):pt f j v i=f i:=if_neg h
theorem hc_ex:∀(m j:Nat) (t:Int),0<hc lo hi m j t->∃h:Nat->Int,(∀i,i<m->lo (j+i)<=h (j+i)/\h (j+i)<=hi (j+i))/\(sumR m fun i=>h (j+i))=t
 |0,j,t,p=>by
  have p:0<if t=0 then(1:Int)else 0:=p
  by_cases e:t=0
  ·subst e;exact⟨fun _=>0,fun i h=>by lia,rfl⟩
  ·rw[if_neg e]at p;exact absurd p (by decide)
 |m+1,j,t,p=>by
  obtain⟨v,hv,q⟩:=zmP (f:=fun v=>hc lo hi m (j+1) (t-(lo j+(v:Nat)))) (fun v=>zkR lo hi m (j+1) _) p;obtain⟨h,h1,h2⟩:=hc_ex m (j+1) _ q;refine⟨pt h j (lo j+(v:Nat)),fun i hi'=>?_,?_⟩
  ·by_cases e:i=0
   ·subst e;rw[qcE,pt_at];lia
   ·rw[pt_ne _ _ (by lia)];have:=h1 (i-1) (by lia);rw[show j+1+(i-1)=j+i by lia]at this;exact this
  ·rw[zin,pt_at,zar (g:=fun i=>h (j+1+i)) fun i _=>pt_ne _ _ (by lia),h2];lia
theorem ziS (m j:Nat)(t:Int){f f':Int}(h:f<=f'):zbI lo hi m j t f<=zbI lo hi m j t f':=by
 unfold zbI;have:=za7 (fun v=>hc lo hi m (j+1) (t-(lo j+(v:Nat)))) (f-lo j).toNat ((f'-lo j).toNat-(f-lo j).toNat);rw[show(f-lo j).toNat+((f'-lo j).toNat-(f-lo j).toNat)=(f'-lo j).toNat by lia]at this;rw[this];have:=zjH (f:=fun i=>hc lo hi m (j+1) (t-(lo j+(((f-lo j).toNat+i:Nat):Int)))) (n:=(f'-lo j).toNat-(f-lo j).toNat) fun i _=>zkR lo hi m (j+1) _
 lia
theorem zj8 (m j:Nat)(t f:Int):0<=zbI lo hi m j t f:=zjH fun i _=>zkR lo hi m (j+1) _
def tl (lo hi h:Nat->Int):Nat->Nat->Int->Int
 |0,_,_=>0
 |m+1,j,t=>zbI lo hi m j t (h j)+tl lo hi h m (j+1) (t-h j)
theorem zn4 {k:Nat}{T:Int}:∀m j,j+m=k->rank k lo hi T h k=rank k lo hi T h j+tl lo hi h m j (T-sumR j h)
 |0,j,e=>by
  rw[qcE]at e;subst e;show _=_+0;lia
 |m+1,j,e=>by
  rw[zn4 m (j+1) (by lia)];show rank k lo hi T h j+zbI lo hi (k-j-1) j (T-sumR j h) (h j)+tl lo hi h m (j+1) (T-(sumR j h+h j))=rank k lo hi T h j+(zbI lo hi m j (T-sumR j h) (h j)+tl lo hi h m (j+1) (T-sumR j h-h j));rw[show k-j-1=m by lia,show T-(sumR j h+h j)=T-sumR j h-h j by lia];lia
theorem tl_lt:∀(m j:Nat) (t:Int),(∀i,i<m->lo (j+i)<=h (j+i)/\h (j+i)<=hi (j+i))->(sumR m fun i=>h (j+i))=t->0<=tl lo hi h m j t/\tl lo hi h m j t<hc lo hi m j t
 |0,j,t,_,e=>by
  have e:(0:Int)=t:=e;subst e;exact⟨qcv _,show(0:Int)<1 by decide⟩
 |m+1,j,t,hh,e=>by
  rw[zin]at e;have h0:=hh 0 (by lia);rw[qcE]at h0;obtain⟨i1,i2⟩:=tl_lt m (j+1) (t-h j) (fun i hi'=>by have:=hh (i+1) (by lia);rw[show j+(i+1)=j+1+i by lia]at this;exact this) (by lia);have b0:=zj8 (lo:=lo) (hi:=hi) m j t (h j);have b1:=zg5 lo hi m j t h0.1;have b2:=ziS (lo:=lo) (hi:=hi) m j t (show h j+1<=hi j+1 by lia);have b3:=zmK lo hi m j t;show 0<=zbI lo hi m j t (h j)+tl lo hi h m (j+1) (t-h j)/\zbI lo hi m j t (h j)+tl lo hi h m (j+1) (t-h j)<_;lia
theorem tl_less {h g:Nat->Int}(hh:∀i,i<m+1->lo (j+i)<=h (j+i)/\h (j+i)<=hi (j+i))(eh:(sumR (m+1) fun i=>h (j+i))=t)(gg:∀i,i<m+1->lo (j+i)<=g (j+i)/\g (j+i)<=hi (j+i))(eg:(sumR (m+1) fun i=>g (j+i))=t)(l:h j<g j):tl lo hi h (m+1) j t<tl lo hi g (m+1) j t:=by
 rw[zin]at eh eg;have h0:=hh 0 (by lia);rw[qcE]at h0;obtain⟨i1,i2⟩:=tl_lt (lo:=lo) (hi:=hi) (h:=h) m (j+1) (t-h j) (fun i hi'=>by have:=hh (i+1) (by lia);rw[show j+(i+1)=j+1+i by lia]at this;exact this) (by lia);obtain⟨g1,_⟩:=tl_lt (lo:=lo) (hi:=hi) (h:=g) m (j+1) (t-g j) (fun i hi'=>by have:=gg (i+1) (by lia);rw[show j+(i+1)=j+1+i by lia]at this;exact this) (by lia);have b1:=zg5 lo hi m j t h0.1;have b2:=ziS (lo:=lo) (hi:=hi) m j t (show h j+1<=g j by lia);show zbI lo hi m j t (h j)+tl lo hi h m (j+1) (t-h j)<zbI lo hi m j t (g j)+tl lo hi g m (j+1) (t-g j);lia
end
section
variable {k n:Nat} {S L G:Nat->Int}
def SOk (k n:Nat)(S:Nat->Int):Prop:=Clo k n S/\rT k n S%(eT k n:Int)=0
theorem spaper2 (d:RDim k n)(S L G:Nat->Int):Ok (zcg [zaV k n S L G]) fun x=>(SOk k n S/\x= .val .non)\/(¬SOk k n S/\∃y,isN y=false/\x= .val y):=(zqE d S L G).mono fun x h=>by
 rcases h with⟨j,hj,hne,rfl⟩|⟨hc,hne,rfl⟩|⟨hc,h0,rfl⟩
 ·exact .inr ⟨fun q=>hne (q.1 j hj),_,rfl,rfl⟩
 ·exact .inr ⟨fun q=>hne q.2,_,rfl,rfl⟩
 ·exact .inl ⟨⟨hc,h0⟩,rfl⟩
def ManyP (k n:Nat)(S lo hi:Nat->Int)(x:Sl):Prop:=(SOk k n S/\x= .val (.int (hc lo hi (Nat.gcd k n) 0 (tT k n S))))\/(¬SOk k n S/\x= .val (.int 0))
theorem zqZ (d:RDim k n)(sp:ze8 k n S L G lo hi)(far:tT k n S-sumR (Nat.gcd k n) lo<2^250):Ok (zbf [zaV k n S L G]) (ManyP k n S lo hi):=by
 have g1:=d.g1;have gk:=d.gk;have k5:=d.k5;simp! only[↓zbf,↓zhM];refine(spaper2 d S L G).mono ?_;rintro _ (⟨ok,rfl⟩|⟨no,y,hy,rfl⟩)
 ·simp! only[↓zhv];refine(zko d sp).mono ?_;rintro _ rfl;simp! only[];refine(zlb d S L G).mono ?_;rintro _ rfl;simp! only[];refine(zik g1 (by lia) lo hi (tT k n S) far).mono ?_;rintro _ rfl;simp! only[];exact .inl ⟨ok,by rw[hc_cnt g1]⟩
 ·simp! only[hy];exact .inr ⟨no,rfl⟩
theorem at_ok (d:RDim k n)(sp:ze8 k n S L G lo hi)(ok:SOk k n S)(far:tT k n S-sumR (Nat.gcd k n) lo<2^250)(wide:∀j,j<Nat.gcd k n->hi j-lo j<2^399)(h0:0<=number)(h1:number<hc lo hi (Nat.gcd k n) 0 (tT k n S)):
  Ok (zcq [zaV k n S L G,.int number]) fun x=>∃h:Nat->Int,(∀i,i<Nat.gcd k n->lo i<=h i/\h i<=hi i)/\sumR (Nat.gcd k n) h=tT k n S/\rank (Nat.gcd k n) lo hi (tT k n S) h (Nat.gcd k n)=number/\x= .val (.tup (wI n fun p=>h (p%Nat.gcd k n)+rM k n S p)):=by
 have g1:=d.g1;have gk:=d.gk;have k5:=d.k5;have n24:=d.n24;simp! only[↓zcq,↓zjM];refine⟨fun _=>?_,fun c=>absurd h0 (by lia)⟩;refine(zqZ d sp far).mono ?_;rintro _ (⟨_,rfl⟩|⟨no,rfl⟩)
 ·simp! only[h1,↓zjc];refine(zko d sp).mono ?_;rintro _ rfl;simp! only[];refine(zlb d S L G).mono ?_;rintro _ rfl;simp! only[];refine(znC (by lia) far wide h0 h1).mono ?_;rintro _ ⟨h,q1,q2,q3,rfl⟩;simp! only[];refine(zjA d S L G).mono ?_;rintro _ rfl;simp! only[];refine(znO d.g1 (by lia) h (rM k n S)).mono ?_;rintro _ rfl;simp! only[];exact⟨h,q1,q2,q3,rfl⟩
 ·exact absurd ok no
end
section
variable {k n:Nat} {S L G:Nat->Int}
theorem fits_any (d:RDim k n)(ok:SOk k n S)(sp:ze8 k n S L G lo hi)(inn:∀j,j<Nat.gcd k n->lo j<=h j/\h j<=hi j)(hs:sumR (Nat.gcd k n) h=tT k n S):Fits k n S L G fun p=>h (p%Nat.gcd k n)+rM k n S p:=by
 have e1:=d.e1;have n0:0<n:=by have:=d.k2;have:=d.kn;lia
 refine⟨fun a=>?_,fun p hp=>?_⟩
 ·induction a with
  |zero=>
   intro _;rw[zh8 (S:=S) d h,hs];have e2:(eT k n:Int)*tT k n S=rT k n S:=by
    unfold tT;exact Int.mul_ediv_cancel' (Int.dvd_of_emod_eq_zero ok.2)
   rw[e2];unfold rT;lia
  |succ a ih=>
   intro ha;have ih:=ih (by lia);obtain⟨q1,q2⟩:=zqb d ok.1 (show a<n by lia);rw[zjO,ih,qcy (show a<n by lia)];rw[q1,q2,qcy ha];lia
 ·have hj:=qcC p d.g1;have b:=inn _ hj;have b1:=sp.lg p hp;have b2:=sp.hg p hp;unfold rA at b1 b2;show L p<=h (p%Nat.gcd k n)+rM k n S p/\h (p%Nat.gcd k n)+rM k n S p<=G p;lia
theorem rwin_mod (k n:Nat)(r:Nat->Int)(a:Nat):rwin k n r (a%n)=rwin k n r a:=by
 unfold rwin;refine zar fun s _=>?_
 rw[Nat.mod_add_mod]
theorem fit_step (d:RDim k n)(f:∀a,a<n->rwin k n r a=S a)(hp:p<n):r ((p+k)%n)=r p+(S ((p+1)%n)-S p):=by
 have n0:0<n:=by lia
 have h:=zjO k n r p;rw[qcy hp,f p hp,<-rwin_mod,f _ (qcC _ n0)]at h;lia
theorem zmi (d:RDim k n)(f:∀a,a<n->rwin k n r a=S a)(hj:j<Nat.gcd k n):∀i,r (pl k n j i)=r j+mw k n S j i
 |0=>by rw[zi6 d hj];show _=r j+0;lia
 |i+1=>by
  rw[zll,fit_step d f (zrv d j i),zmi d f hj i,zmd];lia
theorem heads_of (d:RDim k n)(sp:ze8 k n S L G lo hi)(f:Fits k n S L G r):SOk k n S/\(∀p,p<n->r p=r (p%Nat.gcd k n)+rM k n S p)/\(∀j,j<Nat.gcd k n->lo j<=r j/\r j<=hi j)/\sumR (Nat.gcd k n) r=tT k n S:=by
 have e1:=d.e1;have kn:=d.kn;have n0:0<n:=by have:=d.k2;lia
 have eq:∀p,p<n->r p=r (p%Nat.gcd k n)+rM k n S p:=fun p hp=>by
  have h:=zmi d f.1 (qcC p d.g1) (ixp k n p);rw[(d.walk.1 p hp).2]at h;exact h
 have clo:Clo k n S:=fun j hj=>by
  have h:=zmi d f.1 hj (n/Nat.gcd k n);rw[(d.walk.2 j hj).1]at h;lia
 have e0:rwin k n (fun p=>r (p%Nat.gcd k n)+rM k n S p) 0=S 0:=by
  rw[<-f.1 0 n0];unfold rwin;refine zar fun s _=>?_
  (try dsimp only)
  exact(eq _ (qcC _ n0)).symm
 rw[zh8 (S:=S) d r]at e0;have er:rT k n S=(eT k n:Int)*sumR (Nat.gcd k n) r:=by unfold rT;lia
 refine⟨⟨clo,by rw[er,Int.mul_emod_right]⟩,eq,fun j hj=>?_,?_⟩
 ·obtain⟨p,hp,p1,p2⟩:=sp.lm j hj;obtain⟨q,hq,q1,q2⟩:=sp.hm j hj;have a1:=f.2 p hp;have a2:=f.2 q hq;have b1:=eq p hp;have b2:=eq q hq;rw[p1]at b1;rw[q1]at b2;unfold rA at p2 q2;lia
 ·unfold tT;rw[er,Int.mul_ediv_cancel_left _ (by lia)]
end
theorem zlO {d1 d2 d3:D}(h1:Sq d1 m r)(h2:Sq d2 n L)(h3:Sq d3 n G)(hn:n<=1000):
  Ok (zc0 [d1,d2,d3]) fun x=>∃b,x= .val (.bl b)/\(b=true↔m=n/\∀p,p<n->L p<=r p/\r p<=G p):=by
 simp! only[↓zc0,↓zgr,h1.ln,h2.ln];refine⟨fun h=>⟨false,rfl,by simp;lia⟩,fun h=>?_⟩;have e:m=n:=by lia
 subst e;simp! only[↓zgC,↓zgw,h1.it,h2.it,h3.it];refine⟨by lia,zaL (fun ρ=>∃a b c,ρ=[a,b,c]) (fun p=> .bl (decide (L p<=r p)&&decide (r p<=G p))) ⟨_,_,_,rfl⟩ ?_ ?_⟩
 ·rintro p _ hp ⟨a,b,c,rfl⟩;simp! only[↓zgI];refine⟨fun h=>⟨by simp[h],_,_,_,rfl⟩,fun h=>⟨?_,_,_,_,rfl⟩⟩;rw[qaa (by lia)];rfl
 ·rintro _ ⟨a,b,c,rfl⟩;simp! only[zd3];refine⟨_,rfl,?_⟩;rw[zpT];simp
def rwk (k n:Nat)(r:Nat->Int)(i:Nat):Int:=sumR k fun j=>(fun q=>if q<n then r q else r (q-n)) (i+j)
theorem twice_w (n:Nat)(r:Nat->Int):wI n r++wI n r=wI (n+n) fun q=>if q<n then r q else r (q-n):=by
 apply qcs;intro j
 by_cases hj:j<n
 ·rw[qaY (by rw[zaN];exact hj),zas _ hj,zas _ (by lia)]
  (try dsimp only);rw[if_pos hj]
 ·rw[qaW (by rw[zaN];lia),zaN]
  by_cases hb:j<n+n
  ·rw[zas _ (by lia),zas _ hb]
   (try dsimp only);rw[if_neg hj]
  ·rw[qbU (by rw[zaN];lia),qbU (by rw[zaN];lia)]
theorem zmx {d:D}{n k:Nat}(h:Sq d n r)(kn:k<=n)(hn:n<=1000):Ok (zeq [d,.int k]) fun x=>x= .val (.tup (wI n (rwk k n r))):=by
 simp! only[↓zeq,↓zhU,h.tp,twice_w,h.ln,↓zhG];refine⟨by lia,zcA (by lia) (by lia),by lia,zaL (fun ρ=>∃z,ρ=[.val (.tup (wI (n+n) fun q=>if q<n then r q else r (q-n))),.val (.int k),z]) (fun i=> .int (rwk k n r i)) ⟨_,rfl⟩ ?_ ?_⟩
 ·rintro i _ hi ⟨z,rfl⟩;have hc:=cut_w (n:=n+n) (a:=i) (b:=k) (fun j=> .int ((fun q=>if q<n then r q else r (q-n)) j)) (by lia);simp! only[↓zhH,hc,zdO,zdT];exact⟨rfl,_,rfl⟩
 ·rintro _ ⟨z,rfl⟩;simp! only[]
theorem zmc {k n m:Nat}(kn:k<=n)(n24:n<=24){S L G r:Nat->Int}(h:Sq dr m r):
  Ok (zbq [zaV k n S L G,dr]) fun x=>∃b,x= .val (.bl b)/\(b=true↔m=n/\(∀p,p<n->L p<=r p/\r p<=G p)/\∀i,i<n->rwk k n r i=S i):=by
 simp! only[↓zbq,↓zf3];refine(zlO h (Sq.tup n L) (Sq.tup n G) (by lia)).mono ?_;rintro _ ⟨b,rfl,hb⟩;simp! only[];refine⟨fun hbt=>?_,fun hbf=>⟨false,rfl,?_⟩⟩
 ·obtain⟨e,hin⟩:=hb.mp hbt;subst e;refine(zmx h kn (by lia)).mono ?_;rintro _ rfl;simp! only[dEq_wt];refine⟨_,rfl,?_⟩;rw[eqW_iff];exact⟨fun h=>⟨hin,h⟩,fun h=>h.2⟩
 ·constructor
  ·intro h;cases h
  ·rintro⟨e,f,-⟩;rw[hb.mpr ⟨e,f⟩]at hbf;exact absurd hbf (by decide)
theorem zqh {k n i:Nat}(hk:k<=n)(hi:i<n):(sumR k fun j=>r ((i+j)%n))=rwk k n r i:=by
 unfold rwk;refine zar fun j hj=>?_
 (try dsimp only)
 by_cases h:i+j<n
 ·rw[if_pos h,qcy h]
 ·rw[if_neg h,Nat.mod_eq_sub_mod (by lia),qcy (by lia)]
section
variable {k n:Nat} {S L G lo hi:Nat->Int}
theorem sq_of (h:dr= .lst (wI m r)\/dr= .tup (wI m r)):Sq dr m r:=by
 rcases h with rfl|rfl
 ·exact Sq.lst m r
 ·exact Sq.tup m r
theorem zm8 (d:RDim k n)(h:Sq dr m r):Ok (zbq [zaV k n S L G,dr]) fun x=>∃b,x= .val (.bl b)/\(b=true↔m=n/\Fits k n S L G r):=(zmc d.kn d.n24 h).mono fun x ⟨b,e,hb⟩=>⟨b,e,hb.trans
 ⟨fun⟨e,h1,h2⟩=>⟨e,fun a ha=>by rw[<-h2 a ha];exact zqh d.kn ha,h1⟩,fun⟨e,f⟩=>⟨e,f.2,fun i hi=>by rw[<-f.1 i hi];exact(zqh d.kn hi).symm⟩⟩⟩
theorem zpM (k1:1<=k)(k5:k<=5)(kn:k<=n){T:Int}(far:T-sumR k lo<2^250)(hh:∀i,i<k->lo i<=r i)(h:dr= .lst (wI n r)\/dr= .tup (wI n r)):
  Ok (zbX [.lst (zbm k lo hi),.int T,dr]) fun x=>x= .val (.int (rank k lo hi T r k)):=by
 have sl:(zbm k lo hi).length=k:=zaN _ _;rcases h with rfl|rfl
 all_goals
  simp! only[↓zbX,↓zeQ,↓ze5,sl];refine⟨zcA (by lia) (by lia),zcs (fun j ρ=>∃z,ρ=[.val (.lst (zbm k lo hi)),.val (.int T),.val _,.val (.int (T-sumR j r)),.val (.int (rank k lo hi T r j)),z]) ⟨_,by rw[show sumR 0 r=0 from rfl,Int.sub_zero];rfl⟩ ?_ ?_⟩
  ·rintro j _ hj ⟨z,rfl⟩;obtain⟨m,em⟩:∃m,k-j=m+1:=⟨k-j-1,by lia⟩;have farj:=far_at (h:=r) far (show j<=k by lia) fun i hi=>hh i (by lia)
   rw[em]at farj;have cd:cutD (zbm k lo hi) (some (j:Int)) none=zbm (m+1) (fun i=>lo (j+i)) fun i=>hi (j+i):=by
    rw[zju,zmv,em]
   simp! only[↓ze3,cd,zas _ (show j<n by lia)];refine(zeH (by lia) farj (r j)).mono ?_;rintro _ rfl;simp! only[zas _ (show j<n by lia)];refine⟨.val (.int j),?_⟩;have e7:rank k lo hi T r (j+1)=rank k lo hi T r j+zbI lo hi m j (T-sumR j r) (r j):=by
    show rank k lo hi T r j+zbI lo hi (k-j-1) j (T-sumR j r) (r j)=_;rw[show k-j-1=m by lia]
   rw[e7,show sumR (j+1) r=sumR j r+r j from rfl,show T-(sumR j r+r j)=T-sumR j r-r j by lia]
  ·rintro _ ⟨z,rfl⟩;simp! only[]
theorem zkY (d:RDim k n)(sp:ze8 k n S L G lo hi)(far:tT k n S-sumR (Nat.gcd k n) lo<2^250)(f:Fits k n S L G r)(h:dr= .lst (wI n r)\/dr= .tup (wI n r)):Ok (zbe [zaV k n S L G,dr]) fun x=>x= .val (.int (rank (Nat.gcd k n) lo hi (tT k n S) r (Nat.gcd k n))):=by
 have g1:=d.g1;have gk:=d.gk;have gn:=d.gn;have k5:=d.k5;obtain⟨-,-,hin,-⟩:=heads_of d sp f;simp! only[↓zbe,↓zfo];refine(zm8 d (sq_of h)).mono ?_;rintro _ ⟨b,rfl,hb⟩;have bt:=hb.mpr ⟨rfl,f⟩;subst bt;simp! only[↓zfK];refine(zko d sp).mono ?_;rintro _ rfl;simp! only[];refine(zlb d S L G).mono ?_;rintro _ rfl;simp! only[];refine(zpM g1 (by lia) gn far (fun i hi'=>(hin i hi').1) h).mono ?_;rintro _ rfl;simp! only[]
end
section
variable {k:Nat} {lo hi:Nat->Int} {T:Int} {h g:Nat->Int}
structure Hd (k:Nat) (lo hi:Nat->Int) (T:Int) (h:Nat->Int):Prop where
 inn:∀j,j<k->lo j<=h j/\h j<=hi j
 sum:sumR k h=T
theorem Hd.tail (a:Hd k lo hi T h)(hp:p<=k):(sumR (k-p) fun i=>h (p+i))=T-sumR p h:=by
 have:=za7 h p (k-p);rw[show p+(k-p)=k by lia,a.sum]at this;lia
theorem Hd.lt (a:Hd k lo hi T h)(b:Hd k lo hi T g)(hp:p<k)(e:∀i,i<p->h i=g i)(l:h p<g p):rank k lo hi T h k<rank k lo hi T g k:=by
 obtain⟨m,em⟩:∃m,k-p=m+1:=⟨k-p-1,by lia⟩;rw[zn4 (h:=h) (m+1) p (by lia),zn4 (h:=g) (m+1) p (by lia)];have e1:∀i,i<=p->sumR i h=sumR i g:=fun i hi'=>zar fun j hj=>e j (by lia)
 have e2:rank k lo hi T h p=rank k lo hi T g p:=zar fun i hi'=>by rw[e1 i (by lia),e i hi']
 have ta:=a.tail (show p<=k by lia);have tb:=b.tail (show p<=k by lia);rw[em]at ta tb;rw[<-e1 p (qaJ p)]at tb ⊢;have:=tl_less (lo:=lo) (hi:=hi) (h:=h) (g:=g) (m:=m) (j:=p) (t:=T-sumR p h) (fun i hi'=>a.inn _ (by lia)) ta (fun i hi'=>b.inn _ (by lia)) tb l;lia
end
def Bc (q n:Nat)(f:Nat->Int):Prop:=∀i,i<n-> -((q:Int)*10000000000000000000000000000000000000000000000000000000000)<=f i/\f i<=(q:Int)*10000000000000000000000000000000000000000000000000000000000
theorem Bc.mono {q q' n:Nat}(h:Bc q n f)(hq:q<=q'):Bc q' n f:=fun i hi=>by
 have:=h i hi;lia
theorem Bc.set {q n i:Nat}(h:Bc q n f)(hx: -((q:Int)*10000000000000000000000000000000000000000000000000000000000)<=x/\x<=(q:Int)*10000000000000000000000000000000000000000000000000000000000):Bc q n fun j=>if j=i then x else f j:=fun j hj=>by
 dsimp only
 split
 ·exact hx
 ·exact h j hj
def Pot (ds:List D):Prop:=∃p:Int,ds=[.int p]
theorem zbu (h:Pot ds){m:Int}(h0:0<m)(h1:m<2^250):Ok (zaq ds [.int m]) fun r=>∃(i:Nat) (ds':List D),(i:Int)<m/\Pot ds'/\r=(.val (.int i),ds'):=by
 obtain⟨p,rfl⟩:=h;simp! only[↓zaq,↓zhI];have m0:=qcG p (Int.ne_of_gt h0);refine⟨h0,zqp h0 h1,(p%m).toNat,[.int (p/m)],?_,⟨_,rfl⟩,?_⟩
 ·have:=qcJ p h0;lia
 ·rw[show(((p%m).toNat:Nat):Int)=p%m by lia]
theorem deal_ok (c:Int):Ok (zeb [.int c]) fun r=>∃ds,Pot ds/\r= .own ds:=by
 simp! only[↓zeb,↓zhJ];refine⟨fun _=>⟨by decide+kernel,by decide+kernel,_,⟨_,rfl⟩,rfl⟩,fun _=>?_⟩;simp! only[↓zho,↓zhp];refine⟨rfl,zcs (fun _ ρ=>∃(a b:Int) (s3 s4:Sl),0<=b/\b<4294967296/\ρ=[.val (.int c),.val (.int a),.val (.int b),s3,s4]) ⟨0,_,.emp,.emp,by lia,by lia,rfl⟩ ?_ ?_⟩
 ·rintro i _ hi ⟨a,b,s3,s4,b0,b1,rfl⟩;simp! only[↓zhB];have e1:0<=(b*48271+7919*(i:Int)+12345)%2147483647:=qcG _ (by decide);have e2:(b*48271+7919*(i:Int)+12345)%2147483647<2147483647:=qcJ _ (by decide);exact⟨zfr (by lia),zfr (by decide),zfr (by lia),mulOk_r (by decide),by decide+kernel,_,_,_,_,e1,by lia,rfl⟩
 ·rintro _ ⟨a,b,s3,s4,_,_,rfl⟩;simp! only[];exact⟨_,⟨_,rfl⟩,rfl⟩
theorem in34 (i:Int):∃b,dIn (.int i) (.tup [.int 3,.int 4])=some (.bl b):=⟨_,rfl⟩
theorem zof (a b:Int):∃v,zfs [.tup [.int a,.int b]]=some (.int v)/\(v=a\/v=b)/\b<=v:=by
 obtain⟨v,h1,⟨i,hi,h2⟩,h3⟩:=max_w (fun i=>if i=0 then a else b) (c:=2) (by lia);refine⟨v,h1,?_,h3 1 (by lia)⟩;rw[<-h2]
 split
 ·exact .inl rfl
 ·exact .inr rfl
def mx2 (a b:Int):Int:=(zof a b).choose
theorem mx2_e (a b:Int):zfs [.tup [.int a,.int b]]=some (.int (mx2 a b)):=(zof a b).choose_spec.1
theorem mx2_or (a b:Int):mx2 a b=a\/mx2 a b=b:=(zof a b).choose_spec.2.1
theorem mx2_ge (a b:Int):b<=mx2 a b:=(zof a b).choose_spec.2.2
def BB (n:Nat)(S L G:Nat->Int):Prop:=(Bc 128 n S/\Bc 128 n L/\Bc 128 n G)/\∀p,p<n->L p<=G p
abbrev Mo (more:Int):Prop:= -(4*10000000000000000000000000000000000000000000000000000000000)<=more/\more<=4*10000000000000000000000000000000000000000000000000000000000
def stB (ds:List D)(by':Int)(k n:Nat)(S L G:Nat->Int)(way at':Nat)(more:Int)(s11:Sl):R:=[.par ds,.emp,.val (.int by'),.val (.int k),.own (wI n S),.own (wI n L),.own (wI n G),.val (.int n),.val (.int way),.val (.int at'),.val (.int more),s11]
def BQ (k n:Nat)(ds:List D)(x:Fl×R):Prop:=∃(S L G:Nat->Int) (a:List Sl),BB n S L G/\x=(.ret (.val (zaV k n S L G)),.par ds::a)
theorem bent_ok (h:Pot ds){k n:Nat}(d:RDim k n)(S L G:Nat->Int)(hS:Bc 96 n S)(hL:Bc 30 n L)(hG:Bc 30 n G)(hle:∀p,p<n->L p<=G p)(by':Int)(hby:by'=1\/by'=10000000000000000000000000000000000000000000000000000000000):Ok (zby ds (.lst [.d (.int k),.l (wI n S),.l (wI n L),.l (wI n G)]) [.int by']) fun x=>∃(S L G:Nat->Int) (ds':List D),Pot ds'/\BB n S L G/\x=(.val (zaV k n S L G),ds'):=by
 have n24:=d.n24;have k5:=d.k5;have n0:0<n:=by have:=d.k2;have:=d.kn;lia
 have R6:∀(ds:List D) (way at':Nat) (more:Int) (S L G:Nat->Int) (s11:Sl),Mo more->Bc 128 n S->Bc 40 n L->Bc 40 n G->(∀p,p<n->L p<=G p)->Ok (zb2 (stB ds by' k n S L G way at' more s11)) (BQ k n ds):=fun ds way at' more S L G s11 hmm hS hL hG hle=>by
  simp! only[stB,↓zb2,↓zeo];refine⟨fun _=>⟨by lia,zaL (fun ρ=>∃z,ρ=[.val (.int more),z]) (fun p=> .int (L p+more)) ⟨_,rfl⟩ ?_ ?_⟩,fun _=>?_⟩
  ·rintro p _ hp ⟨z,rfl⟩;simp! only[↓zdW];exact⟨_,rfl⟩
  ·rintro _ ⟨z,rfl⟩;simp! only[↓zdR,zre];refine⟨by lia,zaL (fun ρ=>∃z,ρ=[z]) (fun p=> .int (mx2 (G p) (L p+more))) ⟨_,rfl⟩ ?_ ?_⟩
   ·rintro p _ hp ⟨z,rfl⟩;have e:=mx2_e (G p) (L p+more);unfold zfs at e;simp! only[↓zd8,e];exact⟨_,rfl⟩
   ·rintro _ ⟨z,rfl⟩;simp! only[↓zb8];refine⟨S,_,_,_,⟨⟨hS,fun p hp=>?_,fun p hp=>?_⟩,fun p hp=>mx2_ge _ _⟩,rfl⟩
    ·have:=hL p hp
     (try dsimp only)
     lia
    ·have a1:=hL p hp;have a2:=hG p hp
     (try dsimp only)
     rcases mx2_or (G p) (L p+more)with e|e<;>rw[e]<;>lia
  ·simp! only[↓zb8];exact⟨S,L,G,_,⟨⟨hS,hL.mono (by lia),hG.mono (by lia)⟩,hle⟩,rfl⟩
 have R7:∀(ds:List D) (way at':Nat) (more:Int) (S L G:Nat->Int) (s11:Sl),at'<n->Mo more->Bc 128 n S->Bc 36 n L->Bc 36 n G->(∀p,p<n->L p<=G p)->Ok (zb6 (stB ds by' k n S L G way at' more s11)) (BQ k n ds):=fun ds way at' more S L G s11 hat hmm hS hL hG hle=>by
  simp! only[stB,↓zb6,zas _ hat,hat,zi8 _ _ hat,if_true];have a1:=hL at' hat;have a2:=hG at' hat;refine⟨fun _=>R6 ds way at' more S _ _ s11 hmm hS ?_ ?_ (fun p hp=>by have:=hle p hp;(try dsimp only);by_cases e:p=at'<;>simp only[e,if_true,qbc]<;>(try unfold min2)<;>(try split)<;>lia),fun _=>R6 ds way at' more S L G s11 hmm hS (hL.mono (by lia)) (hG.mono (by lia)) hle⟩
  ·exact(hL.mono (by lia)).set (by(try dsimp only);(try simp only[if_true]);unfold min2;split<;>lia)
  ·exact(hG.mono (by lia)).set (by lia)
 have R8:∀(ds:List D) (way at':Nat) (more:Int) (S L G:Nat->Int) (s11:Sl),at'<n->Mo more->Bc 128 n S->Bc 32 n L->Bc 32 n G->(∀p,p<n->L p<=G p)->Ok (zb9 (stB ds by' k n S L G way at' more s11)) (BQ k n ds):=fun ds way at' more S L G s11 hat hmm hS hL hG hle=>by
  simp! only[stB,↓zb9,zas _ hat,hat,zi8 _ _ hat,if_true];have a1:=hL at' hat;have a2:=hG at' hat;refine⟨fun _=>R7 ds way at' more S _ _ s11 hat hmm hS ?_ ?_ (fun p hp=>by have:=hle p hp;(try dsimp only);by_cases e:p=at'<;>simp only[e,if_true,qbc]<;>(try unfold max2)<;>(try split)<;>lia),fun _=>R7 ds way at' more S L G s11 hat hmm hS (hL.mono (by lia)) (hG.mono (by lia)) hle⟩
  ·exact(hL.mono (by lia)).set (by lia)
  ·exact(hG.mono (by lia)).set (by(try dsimp only);(try simp only[if_true]);unfold max2;split<;>lia)
 have R9:∀(ds:List D) (way at':Nat) (more:Int) (S L G:Nat->Int) (s11:Sl),at'<n->Mo more->Bc 104 n S->Bc 32 n L->Bc 32 n G->(∀p,p<n->L p<=G p)->Ok (zb3 (stB ds by' k n S L G way at' more s11)) (BQ k n ds):=fun ds way at' more S L G s11 hat hmm hS hL hG hle=>by
  obtain⟨b,eb⟩:=in34 (way:Int);simp! only[stB,↓zb3,eb,↓zd6];refine⟨fun _=>?_,fun _=>R8 ds way at' more S L G s11 hat hmm (hS.mono (by lia)) hL hG hle⟩;rw[show((at':Int)+(k:Int)-(at':Int)).toNat=k by lia,zjT];refine⟨⟨zcu (by lia),zcA (by lia) (by lia)⟩,zcs (fun i ρ=>∃(S:Nat->Int) (s11:Sl),Bc (104+4*i) n S/\ρ=(stB ds by' k n S L G way at' more s11)) ⟨S,_,hS,rfl⟩ ?_ ?_⟩
  ·rintro i _ hi ⟨S,s11,hS,rfl⟩;have em:((at':Int)+((i:Nat):Int))%(n:Int)=(((at'+i)%n:Nat):Int):=by push_cast;rfl
   have hm:=qcC (at'+i) n0;simp! only[stB,↓zd4,em,zas _ hm,hm,zi8 _ _ hm,if_true];have a1:=hS _ hm;exact⟨by lia,by lia,_,_,(hS.mono (by lia)).set (by push_cast at a1 ⊢;lia),rfl⟩
  ·rintro _ ⟨S,s11,hS,rfl⟩;simp! only[];exact R8 ds way at' more S L G s11 hat hmm (hS.mono (by lia)) hL hG hle
 have R10:∀(ds:List D) (way at':Nat) (more:Int) (S L G:Nat->Int) (s11:Sl),at'<n->Mo more->Bc 100 n S->Bc 32 n L->Bc 32 n G->(∀p,p<n->L p<=G p)->Ok (zbi (stB ds by' k n S L G way at' more s11)) (BQ k n ds):=fun ds way at' more S L G s11 hat hmm hS hL hG hle=>by
  simp! only[stB,↓zbi,↓zdU];refine⟨fun _=>⟨by lia,zaL (fun ρ=>∃z,ρ=[.val (.int more),z]) (fun p=> .int (S p+more)) ⟨_,rfl⟩ ?_ ?_⟩,fun _=>R9 ds way at' more S L G s11 hat hmm (hS.mono (by lia)) hL hG hle⟩
  ·rintro p _ hp ⟨z,rfl⟩;simp! only[↓zdV];exact⟨_,rfl⟩
  ·rintro _ ⟨z,rfl⟩;simp! only[];refine R9 ds way at' more _ L G s11 hat hmm (fun p hp=>?_) hL hG hle;have:=hS p hp
   (try dsimp only)
   lia
 simp! only[↓zby,↓zdb,Ch.sl];refine(zbu h (m:=8) (by lia) (by lia)).mono ?_;rintro _ ⟨way,d1,hw,h1,rfl⟩;simp! only[];refine(zbu h1 (m:=(n:Int)) (by lia) (by lia)).mono ?_;rintro _ ⟨at',d2,hat,h2,rfl⟩;have hat:at'<n:=by lia
 simp! only[];refine(zbu h2 (m:=9) (by lia) (by lia)).mono ?_;rintro _ ⟨t,d3,ht,h3,rfl⟩;simp! only[];refine(zbu h3 (m:=2) (by lia) (by lia)).mono ?_;rintro _ ⟨u,d4,hu,h4,rfl⟩;have hu':∃z:Int,(z=1\/z=10000000000000000000000000000000000000000000000000000000000)/\[D.int 1,D.int by'][u]? =some (.int z):=by
  have:u=0\/u=1:=by lia
  rcases this with rfl|rfl
  ·exact⟨_,.inl rfl,rfl⟩
  ·exact⟨_,hby,rfl⟩
 obtain⟨z,hz,ez⟩:=hu';have hmm: -(4*10000000000000000000000000000000000000000000000000000000000)<=((t:Int)-4)*z/\((t:Int)-4)*z<=4*10000000000000000000000000000000000000000000000000000000000:=by rcases hz with rfl|rfl<;>lia
 simp! only[ez,zas _ hat,hat,zi8 _ _ hat,if_true];have fin:∀(S:Nat->Int),Bc 100 n S->Ok (zbi [.par d4,.emp,.val (.int by'),.val (.int k),.own (wI n S),.own (wI n L),.own (wI n G),.val (.int n),.val (.int way),.val (.int at'),.val (.int (((t:Int)-4)*z)),.emp]) fun a=>Ok (match a.1,(a.2[0]?:Option Sl)with
   |Fl.ret r,some (Sl.par out)=>some (r,out)
   |Fl.next,some (Sl.par out)=>some (.val .non,out)
   |_,_=>none) fun x=>∃(S L G:Nat->Int) (ds':List D),Pot ds'/\BB n S L G/\x=(.val (zaV k n S L G),ds'):=fun S hS=>by
  refine(R10 d4 way at' _ S L G .emp hat hmm hS (hL.mono (by lia)) (hG.mono (by lia)) hle).mono ?_;rintro _ ⟨S',L',G',a,bb,rfl⟩;simp! only[];exact⟨S',L',G',d4,h4,bb,rfl⟩
 have a1:=hS at' hat;exact⟨zfr (by lia),fun _=>fin _ ((hS.mono (by lia)).set (by lia)),fun _=>fin S (hS.mono (by lia))⟩
theorem Bc.snoc {q i:Nat}(h:Bc q i f)(hx: -((q:Int)*10000000000000000000000000000000000000000000000000000000000)<=x/\x<=(q:Int)*10000000000000000000000000000000000000000000000000000000000):Bc q (i+1) fun j=>if j<i then f j else x:=fun j hj=>by
 dsimp only
 split
 ·rename_i l;exact h j l
 ·exact hx
theorem zou {P:Nat->Int->Prop}{q:Nat->Int}(h:∀c,c<j->P c (q c))(hx:P j x):∀c,c<j+1->P c ((fun c=>if c<j then q c else x) c):=fun c hc=>by
 (try dsimp only)
 by_cases e:c<j
 ·rw[if_pos e];exact h c e
 ·rw[if_neg e,show c=j by lia];exact hx
theorem znf {q:Nat}:∀k,(∀s,s<k-> -((q:Int)*10000000000000000000000000000000000000000000000000000000000)<=f s/\f s<=(q:Int)*10000000000000000000000000000000000000000000000000000000000)-> -((k:Int)*((q:Int)*10000000000000000000000000000000000000000000000000000000000))<=sumR k f/\sumR k f<=(k:Int)*((q:Int)*10000000000000000000000000000000000000000000000000000000000)
 |0,_=>by simp[sumR]
 |k+1,h=>by
  have ih:=znf k fun s hs=>h s (by lia)
  have:=h k (by lia);simp only[sumR];push_cast;rw[Int.add_mul,Int.one_mul];lia
theorem ring_ok (h:Pot ds):Ok (zem ds [.int 24]) fun x=>∃(k n:Nat) (S L G:Nat->Int) (ds':List D),RDim k n/\Pot ds'/\BB n S L G/\x=(.val (zaV k n S L G),ds'):=by
 have R4:∀{ds:List D} (k n:Nat) (s4:Sl),Pot ds->RDim k n->Ok (zcT [.par ds,.val (.int 24),.val (.int k),.val (.int n),s4,.emp,.emp,.emp,.emp,.emp,.emp,.emp]) fun x=>∃(S L G:Nat->Int) (ds':List D) (a:List Sl),Pot ds'/\BB n S L G/\x=(.ret (.val (zaV k n S L G)),.par ds'::a):=by
  intro ds k n s4 h d;have n24:=d.n24;have k5:=d.k5;have n0:0<n:=by have:=d.k2;have:=d.kn;lia
  simp! only[↓zcT];refine(zbu h (m:=4) (by lia) (by lia)).mono ?_;rintro _ ⟨a,d1,ha,h1,rfl⟩;have ha':∃z:Int,(z=1\/z=10000000000000000000000000000000000000000000000000000000000)/\[D.int 1,D.int 1,D.int 1,D.int 10000000000000000000000000000000000000000000000000000000000][a]? =some (.int z):=by
   have:a=0\/a=1\/a=2\/a=3:=by lia
   rcases this with rfl|rfl|rfl|rfl
   ·exact⟨_,.inl rfl,rfl⟩
   ·exact⟨_,.inl rfl,rfl⟩
   ·exact⟨_,.inl rfl,rfl⟩
   ·exact⟨_,.inr rfl,rfl⟩
  obtain⟨by',hby,eby⟩:=ha';simp! only[eby];refine(zbu h1 (m:=4) (by lia) (by lia)).mono ?_;rintro _ ⟨b,d2,hb,h2,rfl⟩;have hb':∃z:Int,0<z/\z<=9/\[D.int 1,D.int 2,D.int 4,D.int 9][b]? =some (.int z):=by
   have:b=0\/b=1\/b=2\/b=3:=by lia
   rcases this with rfl|rfl|rfl|rfl<;>exact⟨_,by decide,by decide,rfl⟩
  obtain⟨wide,w0,w9,ew⟩:=hb';simp! only[ew];refine(zbu h2 (m:=4) (by lia) (by lia)).mono ?_;rintro _ ⟨c,d3,hc,h3,rfl⟩;have hc':∃z:Int,(z=0\/z=100000000000000000000000000000000000000000000000000000000000)/\[D.int 0,D.int 0,D.int 0,D.int 100000000000000000000000000000000000000000000000000000000000][c]? =some (.int z):=by
   have:c=0\/c=1\/c=2\/c=3:=by lia
   rcases this with rfl|rfl|rfl|rfl
   ·exact⟨_,.inl rfl,rfl⟩
   ·exact⟨_,.inl rfl,rfl⟩
   ·exact⟨_,.inl rfl,rfl⟩
   ·exact⟨_,.inr rfl,rfl⟩
  obtain⟨far,hfar,ef⟩:=hc';simp! only[ef,↓zhC];refine⟨zcu (by lia),by lia,zkk (fun i acc ρ=>∃(f:Nat->Int) (ds':List D) (s:Sl),Pot ds'/\Bc 16 i f/\acc=wI i f/\ρ=[.par ds',.val (.int by'),.val (.int far),s]) ⟨fun _=>0,d3,.emp,h3,fun _ h=>by lia,rfl,rfl⟩ ?_ ?_⟩
  ·rintro i _ _ hi ⟨f,d4,s,h4,hf,rfl,rfl⟩;simp! only[↓zhy];refine(zbu h4 (m:=13) (by lia) (by lia)).mono ?_;rintro _ ⟨t,d5,ht,h5,rfl⟩;simp! only[];refine⟨zfr (by lia),?_⟩;exact⟨_,d5,_,h5,hf.snoc (by rcases hby with rfl|rfl<;>rcases hfar with rfl|rfl<;>lia),zmj i f _,rfl⟩
  rintro _ _ ⟨r,d4,s,h4,hr,rfl,rfl⟩;simp! only[↓zhD];refine⟨by lia,zkk (fun i acc ρ=>∃(f:Nat->Int) (ds':List D) (s:Sl),Pot ds'/\(Bc 30 i f/\∀j,j<i->f j<=r j)/\acc=wI i f/\ρ=[.par ds',.val (.int wide),.val (.int by'),s]) ⟨fun _=>0,d4,.emp,h4,⟨fun _ h=>by lia,fun _ h=>by lia⟩,rfl,rfl⟩ ?_ ?_⟩
  ·rintro i _ _ hi ⟨f,d4,s,h4,hf,rfl,rfl⟩;simp! only[↓zht];refine(zbu h4 (m:=wide) (by lia) (by lia)).mono ?_;rintro _ ⟨t,d5,ht,h5,rfl⟩;simp! only[];refine⟨zfr (by lia),?_⟩;have br:=hr i hi;have bt:0<=(t:Int)*by'/\(t:Int)*by'<=9*10000000000000000000000000000000000000000000000000000000000:=by rcases hby with rfl|rfl<;>lia
   exact⟨_,d5,_,h5,⟨hf.1.snoc (by lia),zou (P:=fun j x=>x<=r j) hf.2 (by lia)⟩,zmj i f _,rfl⟩
  rintro _ _ ⟨L,d5,s,h5,⟨hL,lL⟩,rfl,rfl⟩;simp! only[↓zhA];refine⟨by lia,zkk (fun i acc ρ=>∃(f:Nat->Int) (ds':List D) (s:Sl),Pot ds'/\(Bc 30 i f/\∀j,j<i->r j<=f j)/\acc=wI i f/\ρ=[.par ds',.val (.int wide),.val (.int by'),s]) ⟨fun _=>0,d5,.emp,h5,⟨fun _ h=>by lia,fun _ h=>by lia⟩,rfl,rfl⟩ ?_ ?_⟩
  ·rintro i _ _ hi ⟨f,d4,s,h4,hf,rfl,rfl⟩;simp! only[↓zhr];refine(zbu h4 (m:=wide) (by lia) (by lia)).mono ?_;rintro _ ⟨t,d5,ht,h5,rfl⟩;simp! only[];refine⟨zfr (by lia),?_⟩;have br:=hr i hi;have bt:0<=(t:Int)*by'/\(t:Int)*by'<=9*10000000000000000000000000000000000000000000000000000000000:=by rcases hby with rfl|rfl<;>lia
   exact⟨_,d5,_,h5,⟨hf.1.snoc (by lia),zou (P:=fun j x=>r j<=x) hf.2 (by lia)⟩,zmj i f _,rfl⟩
  rintro _ _ ⟨G,d6,s,h6,⟨hG,lG⟩,rfl,rfl⟩;simp! only[];refine(zlg (Sq.lst n r) n0 n24 k5).mono ?_;rintro _ rfl;simp! only[];have hS:Bc 96 n (rwin k n r):=fun a _=>by
   have:=znf (q:=16) (f:=fun s=>r ((a+s)%n)) k fun s _=>hr _ (qcC _ n0)
   show _<=sumR k (fun s=>r ((a+s)%n))/\sumR k (fun s=>r ((a+s)%n))<=_;have k5':((k:Nat):Int)<=5:=by lia
   lia
  refine(bent_ok h6 d _ L G hS hL hG (fun p hp=>qcF (lL p hp) (lG p hp)) by' hby).mono ?_;rintro _ ⟨S',L',G',d7,h7,bb,rfl⟩;simp! only[];exact⟨S',L',G',d7,_,h7,bb,rfl⟩
 have fin:∀{ds:List D} (k n:Nat) (s4:Sl),Pot ds->RDim k n->Ok (zcT [.par ds,.val (.int 24),.val (.int k),.val (.int n),s4,.emp,.emp,.emp,.emp,.emp,.emp,.emp]) fun a=>Ok (match a.1,(a.2[0]?:Option Sl)with
   |Fl.ret r,some (Sl.par out)=>some (r,out)
   |Fl.next,some (Sl.par out)=>some (.val .non,out)
   |_,_=>none) fun x=>∃(k n:Nat) (S L G:Nat->Int) (ds':List D),RDim k n/\Pot ds'/\BB n S L G/\x=(.val (zaV k n S L G),ds'):=by
  intro ds k n s4 h d;refine(R4 k n s4 h d).mono ?_;rintro _ ⟨S,L,G,ds',a,h',bb,rfl⟩;simp! only[];exact⟨k,n,S,L,G,ds',d,h',bb,rfl⟩
 simp! only[↓zem,↓zhP];refine(zbu h (m:=4) (by lia) (by lia)).mono ?_;rintro _ ⟨a,d1,ha,h1,rfl⟩;simp! only[show(2:Int)+(a:Int)=((2+a:Nat):Int) by lia]
 generalize hk:2+a=k
 refine(zbu h1 (m:=24-(k:Int)+1) (by lia) (by lia)).mono ?_;rintro _ ⟨b,d2,hb,h2,rfl⟩;simp! only[show(k:Int)+(b:Int)=((k+b:Nat):Int) by lia];refine(zbu h2 (m:=4) (by lia) (by lia)).mono ?_;rintro _ ⟨shape,d3,hs,h3,rfl⟩;have ed:(24:Int)/(k:Int)=((24/k:Nat):Int):=by push_cast;rfl
 have rest:∀m:Nat,k<=m->m<=24->Ok (zeV [.par d3,.val (.int 24),.val (.int k),.val (.int m),.val (.int shape),.emp,.emp,.emp,.emp,.emp,.emp,.emp]) fun a=>Ok (match a.1,(a.2[0]?:Option Sl)with
   |Fl.ret r,some (Sl.par out)=>some (r,out)
   |Fl.next,some (Sl.par out)=>some (.val .non,out)
   |_,_=>none) fun x=>∃(k n:Nat) (S L G:Nat->Int) (ds':List D),RDim k n/\Pot ds'/\BB n S L G/\x=(.val (zaV k n S L G),ds'):=fun m h1 h24=>by
  simp! only[↓zeV,ed];refine⟨fun _=>⟨zcb (by lia) (by lia),?_⟩,fun _=>fin k m _ h3 ⟨by lia,by lia,h1,h24⟩⟩;have q1:1<=24/k:=(qcu (by lia)).mpr (by lia);have q2:24/k<=24:=Nat.div_le_self _ _;refine(zbu h3 (m:=((24/k:Nat):Int)) (by lia) (by lia)).mono ?_;rintro _ ⟨t,d4,ht,h4,rfl⟩;have e1:(k:Int)*(1+(t:Int))=((k*(1+t):Nat):Int):=by push_cast;rfl
  simp! only[e1];have l1:k*(1+t)<=24:=by
   have:(1+t)*k<=24/k*k:=Nat.mul_le_mul_right k (by lia);have:=Nat.div_mul_le_self 24 k;rw[Nat.mul_comm];lia
  have l2:k*1<=k*(1+t):=Nat.mul_le_mul_left k (by lia);exact⟨zfr (by lia),fin k (k*(1+t)) _ h4 ⟨by lia,by lia,by lia,l1⟩⟩
 simp! only[];exact⟨fun _=>rest k (qaJ _) (by lia),fun _=>rest (k+b) (by lia) (by lia)⟩
section
variable {k n:Nat} {S L G:Nat->Int}
theorem rM_bd (d:RDim k n)(hS:Bc 160 n S):Bc 7680 n (rM k n S):=fun p hp=>by
 have n0:0<n:=by lia
 obtain⟨h1,-⟩:=d.walk.1 p hp;have hn:=d.hn;have b:=znf (q:=320) (f:=fun t=>S ((pl k n (p%Nat.gcd k n) t+1)%n)-S (pl k n (p%Nat.gcd k n) t)) (ixp k n p) fun t _=>by
  have a1:=hS _ (qcC (pl k n (p%Nat.gcd k n) t+1) n0);have a2:=hS _ (zrv d (p%Nat.gcd k n) t);lia
 have e:rM k n S p=sumR (ixp k n p) fun t=>S ((pl k n (p%Nat.gcd k n) t+1)%n)-S (pl k n (p%Nat.gcd k n) t):=rfl
 rw[<-e]at b;have:((ixp k n p:Nat):Int)<=24:=by lia
 lia
theorem lo_bd (d:RDim k n)(hS:Bc 160 n S)(hL:Bc 160 n L)(hG:Bc 160 n G)(sp:ze8 k n S L G lo hi):Bc 7840 (Nat.gcd k n) lo/\Bc 7840 (Nat.gcd k n) hi:=by
 have bm:=rM_bd d hS;refine⟨fun j hj=>?_,fun j hj=>?_⟩
 ·obtain⟨p,hp,-,e⟩:=sp.lm j hj;have a1:=bm p hp;have a2:=hL p hp;unfold rA at e;lia
 ·obtain⟨p,hp,-,e⟩:=sp.hm j hj;have a1:=bm p hp;have a2:=hG p hp;unfold rA at e;lia
theorem zoP (d:RDim k n)(hS:Bc 160 n S)(hL:Bc 160 n L)(hG:Bc 160 n G)(sp:ze8 k n S L G lo hi):tT k n S-sumR (Nat.gcd k n) lo<2^250:=by
 have k5:=d.k5;have kn:=d.kn;have gk:=d.gk;have e1:=d.e1;have n0:0<n:=by have:=d.k2;lia
 have bm:=rM_bd d hS;have b0:=hS 0 n0;have b1:=znf (q:=7680) (f:=rM k n S) k fun s hs=>bm s (by lia)
 have b2:=znf (q:=7840) (f:=lo) (Nat.gcd k n) fun s hs=>(lo_bd d hS hL hG sp).1 s hs
 have k5':((k:Nat):Int)<=5:=by lia
 have g5':((Nat.gcd k n:Nat):Int)<=5:=by lia
 have br:rT k n S<=38560*10000000000000000000000000000000000000000000000000000000000:=by
  unfold rT;lia
 have bt:tT k n S<=38560*10000000000000000000000000000000000000000000000000000000000:=by
  unfold tT;have:=Int.ediv_mul_le (rT k n S) (show((eT k n:Nat):Int)≠0 by lia)
  by_cases c:rT k n S/((eT k n:Nat):Int)<=0
  ·lia
  ·have:rT k n S/((eT k n:Nat):Int)*1<=rT k n S/((eT k n:Nat):Int)*((eT k n:Nat):Int):=Int.mul_le_mul_of_nonneg_left (by lia) (by lia);lia
 lia
theorem wide_ok (d:RDim k n)(hS:Bc 160 n S)(hL:Bc 160 n L)(hG:Bc 160 n G)(sp:ze8 k n S L G lo hi):∀j,j<Nat.gcd k n->hi j-lo j<2^399:=fun j hj=>by
 obtain⟨a,b⟩:=lo_bd d hS hL hG sp;have:=a j hj;have:=b j hj;lia
end
theorem xIfE_t {a b:MX}{r:Option Str}(h:Ok (c ρ) fun p=>p.1=true/\a p.2=r):xIfE c a b ρ=r:=by
 obtain⟨p,e,h1,h2⟩:=h;unfold xIfE;rw[e];show(if p.1=true then a p.2 else b p.2)=_;rw[if_pos h1,h2]
theorem xIfE_f {a b:MX}{r:Option Str}(h:Ok (c ρ) fun p=>p.1=false/\b p.2=r):xIfE c a b ρ=r:=by
 obtain⟨p,e,h1,h2⟩:=h;unfold xIfE;rw[e];show(if p.1=true then a p.2 else b p.2)=_;rw[h1,<-h2];rfl
theorem alone_1:Ok (zbd [.exc "NoFit",.int 1]) fun x=>x= .val (.bl true):=by
 have e1:List.lookup ("NoFit":Str) zcU=some false:=by decide+kernel
 have e2:List.lookup ("NoFit":Str) zh6=some true:=by decide+kernel
 have e3:List.lookup ("NoFit":Str) zeA=some false:=by decide+kernel
 have e4:List.lookup ("NoFit":Str) zfv=some false:=by decide+kernel
 have e5:List.lookup ("NoFit":Str) zfw=some false:=by decide+kernel
 have e6:List.lookup ("NoFit":Str) zha=some false:=by decide+kernel
 have e7:List.lookup ("NoFit":Str) zg4=some false:=by decide+kernel
 have e8:List.lookup ("NoFit":Str) ziP=some false:=by decide+kernel
 have e9:List.lookup ("NoFit":Str) zg2=some false:=by decide+kernel
 have e10:List.lookup ("NoFit":Str) zew=some true:=by decide+kernel
 have e11:List.lookup ("NoFit":Str) zcW=some true:=by decide+kernel
 have ec:zoB (.lst [.bl false,.bl true,.bl false,.bl false,.bl false,.bl false,.bl false,.bl false,.bl false]) (.bl true)=some (.int 1):=rfl;simp! only[↓zbd,↓zev,e1,e2,e3,e4,e5,e6,e7,e8,e9,e10,e11,↓zd9,ec]
theorem alone_2:Ok (zbd [.exc "NoNumber",.int 2]) fun x=>x= .val (.bl true):=by
 have e1:List.lookup ("NoNumber":Str) zcU=some false:=by decide+kernel
 have e2:List.lookup ("NoNumber":Str) zh6=some false:=by decide+kernel
 have e3:List.lookup ("NoNumber":Str) zeA=some true:=by decide+kernel
 have e4:List.lookup ("NoNumber":Str) zfv=some false:=by decide+kernel
 have e5:List.lookup ("NoNumber":Str) zfw=some false:=by decide+kernel
 have e6:List.lookup ("NoNumber":Str) zha=some false:=by decide+kernel
 have e7:List.lookup ("NoNumber":Str) zg4=some false:=by decide+kernel
 have e8:List.lookup ("NoNumber":Str) ziP=some false:=by decide+kernel
 have e9:List.lookup ("NoNumber":Str) zg2=some false:=by decide+kernel
 have e10:List.lookup ("NoNumber":Str) zew=some true:=by decide+kernel
 have e11:List.lookup ("NoNumber":Str) zcW=some true:=by decide+kernel
 have ec:zoB (.lst [.bl false,.bl false,.bl true,.bl false,.bl false,.bl false,.bl false,.bl false,.bl false]) (.bl true)=some (.int 1):=rfl;simp! only[↓zbd,↓zev,e1,e2,e3,e4,e5,e6,e7,e8,e9,e10,e11,↓zd9,ec]
def MV (k n:Nat)(S lo hi:Nat->Int)(v:Int):Prop:=(SOk k n S/\v=hc lo hi (Nat.gcd k n) 0 (tT k n S))\/(¬SOk k n S/\v=0)
section
variable {k n:Nat} {S L G lo hi:Nat->Int}
theorem many_v (d:RDim k n)(b:Bc 160 n S/\Bc 160 n L/\Bc 160 n G)(sp:ze8 k n S L G lo hi):Ok (zbf [zaV k n S L G]) fun x=>∃v,x= .val (.int v)/\MV k n S lo hi v:=(zqZ d sp (zoP d b.1 b.2.1 b.2.2 sp)).mono fun x h=>by
 rcases h with⟨a,rfl⟩|⟨a,rfl⟩
 ·exact⟨_,rfl,.inl ⟨a,rfl⟩⟩
 ·exact⟨_,rfl,.inr ⟨a,rfl⟩⟩
theorem MV.uniq {v w:Int}(h:MV k n S lo hi v)(h':MV k n S lo hi w):v=w:=by
 rcases h with⟨a,rfl⟩|⟨a,rfl⟩<;>rcases h' with⟨b,rfl⟩|⟨b,rfl⟩
 ·rfl
 ·exact absurd a b
 ·exact absurd b a
 ·rfl
theorem at_x (d:RDim k n)(b:Bc 160 n S/\Bc 160 n L/\Bc 160 n G)(sp:ze8 k n S L G lo hi)(hv:MV k n S lo hi v)(h:x<0\/v<=x):zf6 [zaV k n S L G,.int x]=some "NoNumber":=by
 unfold zf6 fX zkm;refine zqU ?_;simp! only[];intro h0;refine(many_v d b sp).mono ?_;rintro _ ⟨w,rfl,hw⟩;have:=hv.uniq hw;subst this;simp! only[];rw[qaa (by lia)]
 rfl
theorem number_x (d:RDim k n)(h:Sq dr m r)(nf:¬(m=n/\Fits k n S L G r)):zcv [zaV k n S L G,dr]=some "NoFit":=by
 unfold zcv fX zfk;refine zqU ?_;simp! only[];refine(zm8 d h).mono ?_;rintro _ ⟨b,rfl,hb⟩;have:b=false:=by
  cases b with
  |false=>rfl
  |true=>exact absurd (hb.mp rfl) nf
 subst this;simp! only[]
theorem heard_at (d:RDim k n)(b:Bc 160 n S/\Bc 160 n L/\Bc 160 n G)(sp:ze8 k n S L G lo hi)(hv:MV k n S lo hi v)(h:x<0\/v<=x):Ok (zba [zaV k n S L G,.int x,.non]) fun y=>y= .val (.exc "NoNumber"):=by
 have nx:=at_x d b sp hv h;simp! only[↓zba,↓zeu];have tx:zbN [.val (zaV k n S L G),.val (.int x),.val .non,.val .non,.emp]=some "NoNumber":=by
  unfold zbN;refine xIfE_t ?_;simp! only[];refine zoL ?_;simp! only[];exact nx
 refine zkV tx rfl (by decide+kernel) ?_;simp! only[↓zef]
theorem zmr (d:RDim k n)(h:dr= .lst (wI m r)\/dr= .tup (wI m r))(nf:¬(m=n/\Fits k n S L G r)):Ok (zba [zaV k n S L G,.int 0,dr]) fun y=>y= .val (.exc "NoFit"):=by
 have nx:=number_x d (sq_of h) nf;have nd:isN dr=false:=by rcases h with rfl|rfl<;>rfl
 simp! only[↓zba,↓zeu];have tx:zbN [.val (zaV k n S L G),.val (.int 0),.val dr,.val .non,.emp]=some "NoFit":=by
  unfold zbN;refine xIfE_f ?_;simp! only[nd];refine zoL ?_;simp! only[];exact nx
 refine zkV tx rfl (by decide+kernel) ?_;simp! only[↓zef]
theorem zos (d:RDim k n)(m9:m<=100)(h:dr= .lst (wI m r)\/dr= .tup (wI m r)):Ok (zay [zaV k n S L G,dr]) fun x=>∃b,x= .val (.bl b)/\(b=true↔m=n/\Fits k n S L G r):=by
 have n24:=d.n24;have k5:=d.k5;have n0:0<n:=by have:=d.k2;have:=d.kn;lia
 have sq:=sq_of h;simp! only[↓zay,↓zb0,sq.ln];refine⟨fun ne=>⟨false,rfl,⟨fun z=>(by cases z),fun z=>absurd (congrArg Int.ofNat z.1) ne⟩⟩,fun e=>?_⟩;obtain rfl:m=n:=by lia
 refine(zlg sq n0 n24 k5).mono ?_;rintro _ rfl;simp! only[dNe_wt];refine⟨fun h=>⟨false,rfl,⟨fun z=>(by cases z),fun z=>?_⟩⟩,fun h'=>?_⟩
 ·have:eqW m (rwin k m r) S=true:=eqW_iff.mpr z.1;rw[this]at h;cases h
 have hs:∀a,a<m->rwin k m r a=S a:=eqW_iff.mp (by revert h';cases eqW m (rwin k m r) S<;>simp)
 rcases h with rfl|rfl
 all_goals
  simp! only[↓zb7,↓zcd];refine⟨zcu (by lia),by lia,zaL (fun ρ=>∃z,ρ=[.val (.tup (wI m L)),.val _,.val (.tup (wI m G)),z]) (fun p=> .bl (decide (L p<=r p)&&decide (r p<=G p))) ⟨_,rfl⟩ ?_ ?_⟩
  ·rintro p _ hp ⟨z,rfl⟩;simp! only[↓zcf,zas _ hp];refine⟨fun h=>⟨by simp[h],_,rfl⟩,fun h=>⟨?_,_,rfl⟩⟩;rw[qaa (by lia)];rfl
  ·rintro _ ⟨z,rfl⟩;simp! only[zd3];refine⟨_,rfl,?_⟩;rw[zpT]
   constructor
   ·intro q;exact⟨hs,fun p hp=>by simpa using q p hp⟩
   ·intro q p hp;have:=q.2 p hp;simp[this]
end
theorem zl0:∀(c a b:List Int),HT.zbl (c++a) (c++b)=HT.zbl a b
 |[],_,_=>rfl
 |x::c,a,b=>by
  show(if x=x then HT.zbl (c++a) (c++b)else decide (x<x))=_;rw[if_pos rfl,zl0 c a b]
theorem lex_irr (a:List Int):HT.zbl a a=false:=by
 have:=zl0 a [] [];rw[qaQ]at this;rw[this];rfl
theorem lex_at {a b:Nat->Int}(hj:j<n)(he:∀i,i<j->a i=b i)(hl:a j<b j):HT.zbl ((List.range n).map a) ((List.range n).map b)=true/\HT.zbl ((List.range n).map b) ((List.range n).map a)=false:=by
 have sp:∀f:Nat->Int,(List.range n).map f=(List.range j).map f++(f j::(List.range (n-(j+1))).map fun i=>f (j+1+i)):=fun f=>by
  apply qcs;intro i
  by_cases h1:i<j
  ·rw[qaY (by simpa using h1),qaZ,qaZ,qcf (by lia),qcf h1]
  ·rw[qaW (by simp;lia),qa3,qcn]
   by_cases h2:i=j
   ·subst h2;rw[Nat.sub_self,qaZ,qcf hj];rfl
   ·obtain⟨q,rfl⟩:∃q,i=j+1+q:=⟨i-(j+1),by lia⟩;rw[show j+1+q-j=q+1 by lia,qbH,qaZ,qaZ]
    by_cases h3:j+1+q<n
    ·rw[qcf h3,qcf (by lia)];rfl
    ·rw[qbU (by simp;lia),qbU (by simp;lia)];rfl
 have e:(List.range j).map a=(List.range j).map b:=qci fun i hi=>he i (qaj.mp hi)
 rw[sp a,sp b,e,zl0,zl0];refine⟨?_,?_⟩
 ·show(if a j=b j then _ else decide (a j<b j))=true;rw[if_neg (by lia),qa7 hl]
 ·show(if b j=a j then _ else decide (b j<a j))=false;rw[if_neg (by lia),qaa (by lia)]
theorem zkM {a b:Nat->Int}:∀m,(∃j,j<m/\a j≠b j)->∃j,j<m/\(∀i,i<j->a i=b i)/\a j≠b j
 |0,⟨j,h,_⟩=>by lia
 |m+1,⟨j,h,hne⟩=>by
  by_cases c:∃j,j<m/\a j≠b j
  ·obtain⟨i,h1,h2,h3⟩:=zkM m c;exact⟨i,by lia,h2,h3⟩
  ·have e:∀i,i<m->a i=b i:=fun i hi=>Classical.byContradiction fun z=>c ⟨i,hi,z⟩
   have:j=m:=by
    by_cases z:j<m
    ·exact absurd (e j z) hne
    ·lia
   subst this;exact⟨j,by lia,e,hne⟩
section
variable {k n:Nat} {S L G:Nat->Int}
theorem rM_head (d:RDim k n)(hj:j<Nat.gcd k n):rM k n S j=0:=by
 have hn:0<n/Nat.gcd k n:=(qcu d.g1).mpr (by rw[qcD];exact d.gn);have:=rM_at d S hj hn;rw[zi6 d hj]at this;rw[this];rfl
def rw(k n:Nat)(S h:Nat->Int)(p:Nat):Int:=h (p%Nat.gcd k n)+rM k n S p
theorem row_lex (d:RDim k n){a b:Nat->Int}{j:Nat}(hj:j<Nat.gcd k n)(he:∀i,i<j->a i=b i)(hl:a j<b j):HT.zbl ((List.range n).map (rw k n S a)) ((List.range n).map (rw k n S b))=true/\HT.zbl ((List.range n).map (rw k n S b)) ((List.range n).map (rw k n S a))=false:=by
 have gn:=d.gn;refine lex_at (j:=j) (by lia) (fun i hi=>?_) ?_
 ·unfold rw;rw[qcy (show i<Nat.gcd k n by lia),he i hi]
 ·unfold rw;rw[qcy hj];lia
end
theorem fewN:∀(c:Nat) (ks:List Nat),ks.Nodup->(∀x,x∈ks->x<c)->ks.length<=c
 |0,[],_,_=>by simp
 |0,x::ks,_,h=>by have:=h x (by simp);lia
 |c+1,ks,nd,h=>by
  by_cases q:c∈ks
  ·have ih:=fewN c (ks.erase c) (nd.erase _) fun x hx=>by
    have hm:=(nd.mem_erase_iff).mp hx;have:=h x hm.2;have:=hm.1;lia
   rw[List.length_erase_of_mem q]at ih;lia
  ·have:=fewN c ks nd fun x hx=>by
    have:=h x hx;have:x≠c:=fun z=>q (z ▸ hx)
    lia
   lia
theorem srt_same {n:Nat}(up:∀a b,a<=b->b<n->HT.zc5 nss b a=false){i a:Nat}(h:(srt n (HT.zc5 nss))[i]? =some a):HT.zc5 nss a i=false/\HT.zc5 nss i a=false:=by
 have o:=HT.zon nss;have pm:=zjt (n:=n) o;have nd:(srt n (HT.zc5 nss)).Nodup:=pm.nodup_iff.mpr List.nodup_range;have ln:(srt n (HT.zc5 nss)).length=n:=by rw[pm.length_eq,qcn]
 have mem:∀x,x∈srt n (HT.zc5 nss)->x<n:=fun x hx=>qaj.mp (pm.mem_iff.mp hx)
 have hi:i<n:=by have:=(qar.mp h).1;lia
 have ha:a<n:=mem a (qa1 h)
 constructor
 ·cases e:HT.zc5 nss a i with
  |false=>rfl
  |true=>
   exfalso;have:=fewN i ((srt n (HT.zc5 nss)).take (i+1)) (nd.sublist (List.take_sublist _ _)) fun x hx=>by
    obtain⟨j,hj⟩:=List.getElem?_of_mem hx;have jl:j<i+1:=by have:=(qar.mp hj).1;rw[qaU]at this;lia
    rw[qa0 jl]at hj;have h1:=srt_up o (show j<=i by lia) hj h
    by_cases c:x<i
    ·exact c
    ·have h2:=up i x (by lia) (mem x (qa1 hj));rw[o.tr i x a h2 h1]at e;cases e
   rw[qaU,ln]at this;lia
 ·cases e:HT.zc5 nss i a with
  |false=>rfl
  |true=>
   exfalso;have gt:∀x,x∈(srt n (HT.zc5 nss)).drop i->i<x/\x<n:=fun x hx=>by
    obtain⟨j,hj⟩:=List.getElem?_of_mem hx;rw[qcw]at hj;have h1:=srt_up o (show i<=i+j by lia) h hj;refine⟨?_,mem x (qa1 hj)⟩
    by_cases c:i<x
    ·exact c
    ·have h2:=up x i (by lia) hi;rw[o.tr a x i h1 h2]at e;cases e
   have nd':(((srt n (HT.zc5 nss)).drop i).map fun x=>x-(i+1)).Nodup:=by
    rw[List.nodup_iff_pairwise_ne,List.pairwise_map];refine(List.Pairwise.and_mem.mp (List.nodup_iff_pairwise_ne.mp (nd.sublist (List.drop_sublist _ _)))).imp fun{x y} hh=>?_
    have h1:=gt x hh.1;have h2:=gt y hh.2.1;have h3:=hh.2.2;lia
   have:=fewN (n-(i+1)) _ nd' fun x hx=>by
    obtain⟨y,hy,rfl⟩:=qbS.mp hx;have:=gt y hy;lia
   rw[qa3,qbe,ln]at this;lia
theorem lex_eq:∀{a b:List Int},HT.zbl a b=false->HT.zbl b a=false->a=b
 |[],[],_,_=>rfl
 |[],_::_,h,_=>by cases h
 |_::_,[],_,h=>by cases h
 |x::a,y::b,h,k=>by
  change (if x=y then HT.zbl a b else decide (x<y))=false at h;change (if y=x then HT.zbl b a else decide (y<x))=false at k
  by_cases e:x=y
  ·subst e;rw[if_pos rfl]at h k;rw[lex_eq h k]
  ·rw[if_neg e,qcz]at h;rw[if_neg (fun z=>e z.symm),qcz]at k;lia
theorem ts_map (n:Nat)(R:Nat->Nat->Int):∀l:List Nat,zkE (l.map fun i=> .tup (wI n (R i)))=some (l.map fun i=>(List.range n).map (R i))
 |[]=>rfl
 |i::l=>by
  show(zbw (wI n (R i))).bind (fun ns=>(zkE (l.map fun i=> .tup (wI n (R i)))).map fun nss=>ns::nss)=_;rw[zdO,ts_map n R l];rfl
theorem sorted_w {n c:Nat}(n1:1<=n)(c1:1<=c)(c9:c<64)(R:Nat->Nat->Int)(up:∀a b,a<=b->b<c->HT.zbl ((List.range n).map (R b)) ((List.range n).map (R a))=false):dSrt [.lst (wL c fun i=> .tup (wI n (R i)))]=some (wL c fun i=> .tup (wI n (R i))):=by
 have none':zbw (wL c fun i=>D.tup (wI n (R i)))=none:=by
  obtain⟨c',rfl⟩:∃c',c=c'+1:=⟨c-1,by lia⟩;unfold wL;rw[List.range_succ_eq_map]
  rfl
 have ky:zpd (wL c fun i=>D.tup (wI n (R i)))=some ((List.range c).map fun i=>(List.range n).map (R i)):=by
  unfold zpd;rw[none'];show(zkE ((List.range c).map fun i=> .tup (wI n (R i)))).bind _=_;rw[ts_map];show(if _ then _ else _)=_;rw[if_pos];rw[List.all_map];simp;intro x hx;lia
 have kl:∀a b,a<c->b<c->HT.zc5 ((List.range c).map fun i=>(List.range n).map (R i)) a b=HT.zbl ((List.range n).map (R a)) ((List.range n).map (R b)):=fun a b ha hb=>by
  unfold HT.zc5;simp[List.getD,ha,hb]
 unfold dSrt;show(if(wL c fun i=>D.tup (wI n (R i))).length<64 then Option.map (fun nss=>srtD nss (wL c fun i=>D.tup (wI n (R i)))) (zpd (wL c fun i=>D.tup (wI n (R i))))else none)=_;rw[zaN,if_pos c9,ky];show some (srtD _ _)=_;congr 1;unfold srtD;rw[zaN];have o:=HT.zon ((List.range c).map fun i=>(List.range n).map (R i));have pm:=zjt (n:=c) o;have ln:(srt c (HT.zc5 ((List.range c).map fun i=>(List.range n).map (R i)))).length=c:=by rw[pm.length_eq,qcn]
 apply qcs;intro i
 by_cases hi:i<c
 ·rw[qaZ,zas _ hi];obtain⟨a,ha⟩:∃a,(srt c (HT.zc5 ((List.range c).map fun i=>(List.range n).map (R i))))[i]? =some a:=⟨_,qbD (by lia)⟩;have ac:a<c:=qaj.mp (pm.mem_iff.mp (qa1 ha));obtain⟨h1,h2⟩:=srt_same (nss:=(List.range c).map fun i=>(List.range n).map (R i)) (n:=c) (fun a b ab hb=>by rw[kl b a hb (by lia)];exact up a b ab hb) ha;rw[kl a i ac hi]at h1;rw[kl i a hi ac]at h2;have e:=lex_eq h1 h2;rw[ha];show some ((wL c fun i=>D.tup (wI n (R i))).getD a .non)=_;rw[qcq,zas _ ac];show some (D.tup (wI n (R a)))=some (D.tup (wI n (R i)));rw[show wI n (R a)=wI n (R i)from by
   have:((List.range n).map (R a)).map D.int=((List.range n).map (R i)).map D.int:=by rw[e]
   rw[qch,qch]at this;exact this]
 ·rw[qbU (by rw[qa3,ln];lia),qbU (by rw[zaN];lia)]
section
variable {m:Nat} {lo hi:Nat->Int} {T:Int}
def InB (m:Nat)(lo hi:Nat->Int)(T:Int)(h:Nat->Int):Prop:=(∀j,j<m->lo j<=h j/\h j<=hi j)/\sumR m h=T
theorem InB.room (b:InB m lo hi T h):Room' m lo hi T:=⟨fun j hj=>qcF (b.1 j hj).1 (b.1 j hj).2,by rw[<-b.2];exact zfq fun j hj=>(b.1 j hj).1,by rw[<-b.2];exact zfq fun j hj=>(b.1 j hj).2⟩
theorem hd_inB (r:Room' m lo hi T):InB m lo hi T (hd lo hi m T):=⟨fun j hj=>hd_in r hj,hd_sum r⟩
end
theorem zrP {lo hi h:Nat->Int}{T:Int}(b:InB m lo hi T h)(hr:rank m lo hi T h m=0):∀j,j<m->hd lo hi m T j=h j:=by
 have r:=b.room;have B:=hd_inB r;intro j
 induction j using Nat.strongRecOn with
 |ind j ih=>
  intro hj;have h1:=hd_least b.1 b.2 hj fun i hi=>ih i hi (by lia)
  by_cases e:hd lo hi m T j=h j
  ·exact e
  ·exfalso;have l:hd lo hi m T j<h j:=by lia
   have es:sumR j (hd lo hi m T)=sumR j h:=zar fun i hi=>ih i hi (by lia)
   have zero:zbI lo hi (m-j-1) j (T-sumR j h) (h j)<=0:=by
    have:=zhX (f:=fun i=>zbI lo hi (m-i-1) i (T-sumR i h) (h i)) (fun i=>zj8 _ _ _ _) (n:=m) (i:=j) hj;have e2:(sumR m fun i=>zbI lo hi (m-i-1) i (T-sumR i h) (h i))=0:=hr;lia
   have nx:=zg5 lo hi (m-j-1) j (T-sumR j h) (B.1 j hj).1;have mo:=ziS (lo:=lo) (hi:=hi) (m-j-1) j (T-sumR j h) (show hd lo hi m T j+1<=h j by lia);have po:=zj8 (lo:=lo) (hi:=hi) (m-j-1) j (T-sumR j h) (hd lo hi m T j);have one:=hc_ge (lo:=lo) (hi:=hi) (h:=hd lo hi m T) (m-j-1) (j+1) (T-sumR j h-hd lo hi m T j) (fun i hi'=>B.1 _ (by lia)) (by
    have:=za7 (hd lo hi m T) (j+1) (m-j-1);rw[show j+1+(m-j-1)=m by lia,B.2]at this;simp only[sumR]at this;rw[es]at this;lia)
   lia
section
variable {k n:Nat} {S L G lo hi:Nat->Int}
def nu (v a:Int):Nat->Int
 |0=>0
 |1=>a
 |2=>min2 (a+1) (v-1)
 |_=>v-1
theorem nu_in (v1:0<v)(a0:0<=a)(a1:a<v)(i:Nat):0<=nu v a i/\nu v a i<v:=by
 match i with
 |0=>exact⟨qcv _,v1⟩
 |1=>exact⟨a0,a1⟩
 |2=>show 0<=min2 (a+1) (v-1)/\min2 (a+1) (v-1)<v;unfold min2;split<;>lia
 |i+3=>show 0<=v-1/\v-1<v;lia
theorem nu_up (v1:0<v)(a0:0<=a)(a1:a<v):∀i,i<3->nu v a i<=nu v a (i+1):=fun i hi=>by
 match i,hi with
 |0,_=>exact a0
 |1,_=>show a<=min2 (a+1) (v-1);unfold min2;split<;>lia
 |2,_=>show min2 (a+1) (v-1)<=v-1;unfold min2;split<;>lia
theorem nu_le (v1:0<v)(a0:0<=a)(a1:a<v):∀j,i+j<4->nu v a i<=nu v a (i+j)
 |0,_=>qcv _
 |j+1,h=>qcF (nu_le v1 a0 a1 j (by lia)) (nu_up v1 a0 a1 (i+j) (by lia))
theorem rows_ex (d:RDim k n)(ok:SOk k n S)(b:Bc 160 n S/\Bc 160 n L/\Bc 160 n G)(sp:ze8 k n S L G lo hi)(ev:v=hc lo hi (Nat.gcd k n) 0 (tT k n S))(v1:0<v)(a0:0<=a)(a1:a<v):
  ∃H:Nat->Nat->Int,∀i,Hd (Nat.gcd k n) lo hi (tT k n S) (H i)/\rank (Nat.gcd k n) lo hi (tT k n S) (H i) (Nat.gcd k n)=nu v a i/\zcq [zaV k n S L G,.int (nu v a i)]=some (.val (.tup (wI n (rw k n S (H i))))):=by
 have ex:∀i,∃h,Hd (Nat.gcd k n) lo hi (tT k n S) h/\rank (Nat.gcd k n) lo hi (tT k n S) h (Nat.gcd k n)=nu v a i/\zcq [zaV k n S L G,.int (nu v a i)]=some (.val (.tup (wI n (rw k n S h)))):=fun i=>by
  have hn:=nu_in v1 a0 a1 i;obtain⟨x,e,h,h1,h2,h3,rfl⟩:=at_ok d sp ok (zoP d b.1 b.2.1 b.2.2 sp) (wide_ok d b.1 b.2.1 b.2.2 sp) hn.1 (by lia);exact⟨h,⟨h1,h2⟩,h3,e⟩
 exact⟨fun i=>(ex i).choose,fun i=>(ex i).choose_spec⟩
theorem rows_lex (d:RDim k n){h g:Nat->Int}{T:Int}(a:Hd (Nat.gcd k n) lo hi T h)(b:Hd (Nat.gcd k n) lo hi T g)(le:rank (Nat.gcd k n) lo hi T h (Nat.gcd k n)<=rank (Nat.gcd k n) lo hi T g (Nat.gcd k n)):
  HT.zbl ((List.range n).map (rw k n S h)) ((List.range n).map (rw k n S g))=decide (rank (Nat.gcd k n) lo hi T h (Nat.gcd k n)<rank (Nat.gcd k n) lo hi T g (Nat.gcd k n))/\HT.zbl ((List.range n).map (rw k n S g)) ((List.range n).map (rw k n S h))=false:=by
 by_cases c:∃j,j<Nat.gcd k n/\h j≠g j
 ·obtain⟨j,hj,he,ne⟩:=zkM _ c;rcases Int.lt_or_lt_of_ne ne with l|l
  ·have:=a.lt b hj he l;rw[qa7 this];exact row_lex d hj he l
  ·have:=b.lt a hj (fun i hi'=>(he i hi').symm) l;lia
 ·have e:∀j,j<Nat.gcd k n->h j=g j:=fun j hj=>Classical.byContradiction fun z=>c ⟨j,hj,z⟩
  have e1:(List.range n).map (rw k n S h)=(List.range n).map (rw k n S g):=qci fun p _=>by
   unfold rw;rw[e _ (qcC _ d.g1)]
  have e2:rank (Nat.gcd k n) lo hi T h (Nat.gcd k n)=rank (Nat.gcd k n) lo hi T g (Nat.gcd k n):=zar fun q hq=>by
   rw[e q hq,zar (f:=h) (g:=g) (n:=q) fun t ht=>e t (by lia)]
  rw[e1,e2,lex_irr,qaa (by lia)];exact⟨rfl,rfl⟩
end
theorem all_true (n:Nat):((List.range n).map fun _=>true).all id=true:=by simp
theorem dEq_bl (a:Bool):dEq (.bl a) (.bl a)=some (.bl true):=by
 unfold dEq;rw[show noS (.bl a)=true from rfl,show depth (.bl a)=0 from rfl];cases a<;>rfl
section
variable {k n:Nat} {S L G lo hi:Nat->Int}
theorem pl_t1 (m:Nat)(f:Nat->Int):Pl 1 (.tup (wI m f)):=znb (pl_w fun _=>zkF 0 _)
theorem zrq (d:RDim k n)(h:Nat->Int)(T:Int):rank (Nat.gcd k n) lo hi T (rw k n S h) (Nat.gcd k n)=rank (Nat.gcd k n) lo hi T h (Nat.gcd k n):=by
 have e:∀j,j<Nat.gcd k n->rw k n S h j=h j:=fun j hj=>by
  unfold rw;rw[qcy hj,rM_head d hj,Int.add_zero]
 exact zar fun q hq=>by rw[e q hq,zar (f:=rw k n S h) (g:=h) (n:=q) fun t ht=>e t (by lia)]
theorem zlU (d:RDim k n)(ok:SOk k n S)(b:Bc 160 n S/\Bc 160 n L/\Bc 160 n G)(sp:ze8 k n S L G lo hi)(ev:v=hc lo hi (Nat.gcd k n) 0 (tT k n S))(v1:0<v)(a0:0<=a)(a1:a<v):Ok (zbk [zaV k n S L G,.int v,.int a]) fun x=>x= .val (.bl true):=by
 have n24:=d.n24;have n0:0<n:=by have:=d.k2;have:=d.kn;lia
 obtain⟨H,hH⟩:=rows_ex d ok b sp ev v1 a0 a1;have ft:∀i,Fits k n S L G (rw k n S (H i)):=fun i=>fits_any d ok sp (hH i).1.inn (hH i).1.sum
 have e4:[D.int 0,D.int a,D.int (min2 (a+1) (v-1)),D.int (v-1)]=wL 4 fun i=>D.int (nu v a i):=rfl
 simp! only[↓zbk,↓zcS,↓zdG];rw[e4];refine zaL (fun ρ=>∃s,ρ=[.val (zaV k n S L G),s]) (fun i=> .tup (wI n (rw k n S (H i)))) ⟨_,rfl⟩ ?_ ?_
 ·rintro i _ hi ⟨s,rfl⟩;simp! only[↓zdE,(hH i).2.2];exact⟨_,rfl⟩
 rintro _ ⟨_,rfl⟩;simp! only[zas _ (show 0<4 by decide)];refine(zop d sp).mono ?_;intro x hx;have rm:Room' (Nat.gcd k n) lo hi (tT k n S):=InB.room (h:=H 0) ⟨(hH 0).1.inn,(hH 0).1.sum⟩;have h0:=zrP (h:=H 0) ⟨(hH 0).1.inn,(hH 0).1.sum⟩ (hH 0).2.1;have er:wI n (rR k n S lo hi)=wI n (rw k n S (H 0)):=zdN fun p _=>by
  (try dsimp only)
  unfold rR rw;rw[h0 _ (qcC _ d.g1)]
 rcases hx with⟨_,rfl⟩|⟨ng,_⟩
 case inr=>exact absurd ⟨ok.1,ok.2,rm⟩ ng
 rw[er];simp! only[(pl_t1 n (rw k n S (H 0))).ne (show 1<=50 by decide),↓zdD,↓zdw];refine⟨rfl,zcs (fun _ ρ=>∃s5 s6,ρ=[.val (zaV k n S L G),.val (.int v),.val (.int a),.val (.tup (wL 4 fun i=> .int (nu v a i))),.val (.lst (wL 4 fun i=> .tup (wI n (rw k n S (H i))))),s5,s6]) ⟨_,_,rfl⟩ ?_ ?_⟩
 ·rintro i _ hi ⟨s5,s6,rfl⟩;simp! only[↓zdx,zas _ hi];refine(zpA _ (by lia)).mono ?_;rintro _ rfl;simp! only[zas _ hi];refine(zos d (by lia) (.inr rfl)).mono ?_;rintro _ ⟨z,rfl,hz⟩;have hz:=hz.mpr ⟨rfl,ft i⟩;subst hz;simp! only[↓zdg,zas _ hi];refine(zkY d sp (zoP d b.1 b.2.1 b.2.2 sp) (ft i) (.inr rfl)).mono ?_;rintro _ rfl;simp! only[zas _ hi,zrq d,(hH i).2.1];refine(zkY d sp (zoP d b.1 b.2.1 b.2.2 sp) (ft i) (.inl rfl)).mono ?_;rintro _ rfl;simp! only[zas _ hi,zrq d,(hH i).2.1];exact⟨_,_,rfl⟩
 rintro _ ⟨s5,s6,rfl⟩;have le:∀i j,i<=j->j<4->rank (Nat.gcd k n) lo hi (tT k n S) (H i) (Nat.gcd k n)<=rank (Nat.gcd k n) lo hi (tT k n S) (H j) (Nat.gcd k n):=fun i j ij hj=>by
  rw[(hH i).2.1,(hH j).2.1];have:=nu_le v1 a0 a1 (i:=i) (j-i) (by lia);rwa[show i+(j-i)=j by lia]at this
 have lx:=fun i j ij hj=>rows_lex (S:=S) d (hH i).1 (hH j).1 (le i j ij hj)
 have sw:=sorted_w (n:=n) (c:=4) (by lia) (by decide) (by decide) (fun i=>rw k n S (H i)) fun a b ab hb=>(lx a b ab hb).2
 have pr:Pl 2 (.lst (wL 4 fun i=> .tup (wI n (rw k n S (H i))))):=pl_lst (pl_w fun i=>pl_t1 n _);simp! only[↓zdo];refine⟨rfl,zaL (fun ρ=>∃s,ρ=[.val (.lst (wL 4 fun i=> .tup (wI n (rw k n S (H i))))),.val (.tup (wL 4 fun i=> .int (nu v a i))),s]) (fun i=> .tup [.bl (decide (nu v a i<nu v a (i+1))),.bl (decide (nu v a i<nu v a (i+1)))]) ⟨_,rfl⟩ ?_ ?_⟩
 ·rintro i _ hi ⟨s,rfl⟩;have e1:(i:Int)+1=((i+1:Nat):Int):=by lia
  have e2:dLtT (.tup (wI n (rw k n S (H i)))) (.tup (wI n (rw k n S (H (i+1)))))=some (.bl (decide (nu v a i<nu v a (i+1)))):=by
   unfold dLtT dTT;show(zbw (wI n (rw k n S (H i)))).bind (fun ns=>(zbw (wI n (rw k n S (H (i+1))))).map fun ms=>D.bl (HT.zbl ns ms))=_;rw[zdO,zdO];show some (D.bl _)=_;rw[(lx i (i+1) (by lia) (by lia)).1,(hH i).2.1,(hH (i+1)).2.1]
  simp! only[↓zde,e1,zas _ (show i<4 by lia),zas _ (show i+1<4 by lia),e2];exact⟨_,rfl⟩
 rintro _ ⟨_,rfl⟩;simp! only[↓zdJ];refine zaL (fun ρ=>∃s s',ρ=[s,s']) (fun _=> .bl true) ⟨_,_,rfl⟩ ?_ ?_
 ·rintro i _ hi ⟨s,s',rfl⟩;simp! only[↓zdK,dEq_bl];exact⟨_,_,rfl⟩
 rintro _ ⟨_,_,rfl⟩;simp! only[zd3,all_true,sw,pr.eq (show 2<=50 by decide)]
end
theorem zpK (l:List Int):l.map D.int=wI l.length fun i=>l.getD i 0:=by
 apply qcs;intro j
 by_cases h:j<l.length
 ·rw[zas _ h,qaZ,qbD h];simp[List.getD,h]
 ·rw[qbU (by rw[qa3];lia),qbU (by rw[zaN];lia)]
theorem zp0 (n:Nat)(r:Nat->Int):wI n r=((List.range n).map r).map D.int:=by
 unfold wI wL;rw[qch];rfl
theorem znr (h:Pot ds)(n1:1<=n)(n24:n<=24)(f:Nat->Int):Ok (zbB ds [.tup (wI n f)]) fun x=>∃(m:Nat) (r:Nat->Int) (ds':List D),Pot ds'/\m<=100/\x=(.own (wI m r),ds'):=by
 simp! only[↓zbB,↓zek];refine(zbu h (m:=4) (by lia) (by lia)).mono ?_;rintro _ ⟨way,d1,h1,hp1,rfl⟩;simp! only[];refine(zbu hp1 (m:=(n:Int)) (by lia) (by lia)).mono ?_;rintro _ ⟨at',d2,h2,hp2,rfl⟩;have hat:at'<n:=by lia
 simp! only[];refine(zbu hp2 (m:=4) (by lia) (by lia)).mono ?_;rintro _ ⟨w,d3,h3,hp3,rfl⟩;obtain⟨v,ev⟩:∃v:Int,[D.int 1,.int (-1),.int 100000000000000000000000000000000000000000000000000000000000,.int (-100000000000000000000000000000000000000000000000000000000000)][w]? =some (.int v):=by
  have:w=0\/w=1\/w=2\/w=3:=by lia
  rcases this with rfl|rfl|rfl|rfl<;>exact⟨_,rfl⟩
 have R2:∀(m:Nat) (r:Nat->Int),m<=30->(way=3->m=n)->Ok (zcF [.par d3,.val (.tup (wI n f)),.own (wI m r),.val (.int way),.val (.int at'),.val (.int v),.emp]) fun a=>Ok (match a.1,(a.2[0]?:Option Sl)with
   |Fl.ret r,some (Sl.par out)=>some (r,out)
   |Fl.next,some (Sl.par out)=>some (.val .non,out)
   |_,_=>none) fun x=>∃(m:Nat) (r:Nat->Int) (ds':List D),Pot ds'/\m<=100/\x=(.own (wI m r),ds'):=fun m r m9 hm=>by
  simp! only[↓zcF];refine⟨fun z=>?_,fun _=>?_⟩
  ·obtain rfl:=hm (by lia);refine(zbu hp3 (m:=(m:Int)) (by lia) (by lia)).mono ?_;rintro _ ⟨o,d4,h4,hp4,rfl⟩;have ho:o<m:=by lia
   simp! only[zas _ hat,zas _ ho,↓ok_gS,hat,ho,zi8 _ _ hat,zi8 _ _ ho,if_true,↓zcE];exact⟨m,_,d4,hp4,by lia,rfl⟩
  ·simp! only[↓zcE];exact⟨m,_,d3,hp3,by lia,rfl⟩
 have R3:∀(m:Nat) (r:Nat->Int),m<=30->(way=3->m=n)->(way=2->m=n)->Ok (zco [.par d3,.val (.tup (wI n f)),.own (wI m r),.val (.int way),.val (.int at'),.val (.int v),.emp]) fun a=>Ok (match a.1,(a.2[0]?:Option Sl)with
   |Fl.ret r,some (Sl.par out)=>some (r,out)
   |Fl.next,some (Sl.par out)=>some (.val .non,out)
   |_,_=>none) fun x=>∃(m:Nat) (r:Nat->Int) (ds':List D),Pot ds'/\m<=100/\x=(.own (wI m r),ds'):=fun m r m9 hm hm2=>by
  simp! only[↓zco];refine⟨fun z=>?_,fun _=>R2 m r m9 hm⟩;obtain rfl:=hm2 (by lia);simp! only[zas _ hat];refine⟨by lia,?_⟩;rw[List.eraseIdx_eq_take_drop_succ,zp0 m r,<-List.map_take,<-List.map_drop,<-qcj,zpK];exact R2 _ _ (by rw[qa2,qaU,qbe,qa3,qcn];lia) fun z=>by lia
 have R4:∀(r:Nat->Int),Ok (zcC [.par d3,.val (.tup (wI n f)),.own (wI n r),.val (.int way),.val (.int at'),.val (.int v),.emp]) fun a=>Ok (match a.1,(a.2[0]?:Option Sl)with
   |Fl.ret r,some (Sl.par out)=>some (r,out)
   |Fl.next,some (Sl.par out)=>some (.val .non,out)
   |_,_=>none) fun x=>∃(m:Nat) (r:Nat->Int) (ds':List D),Pot ds'/\m<=100/\x=(.own (wI m r),ds'):=fun r=>by
  simp! only[↓zcC];refine⟨fun z=>?_,fun _=>R3 n r (by lia) (fun _=>rfl) fun _=>rfl⟩;refine⟨by lia,?_⟩;rw[zp0 n r,<-List.map_take,<-List.map_drop,show ∀a b:List Int,a.map D.int++D.int v::b.map D.int=(a++v::b).map D.int from fun a b=>by rw[qcj];rfl,zpK];exact R3 _ _ (by rw[qa2,qa5,qaU,qbe,qa3,qcn];lia) (fun z=>by lia) fun z=>by lia
 simp! only[ev,zas _ hat,hat,zi8 _ _ hat,if_true];exact⟨fun _=>R4 _,fun _=>R4 _⟩
section
variable {k n:Nat} {S L G lo hi:Nat->Int}
theorem zro (d:RDim k n)(sp:ze8 k n S L G lo hi)(ok:SOk k n S)(ev:v=hc lo hi (Nat.gcd k n) 0 (tT k n S))(v1:0<v):Ok (zaJ [zaV k n S L G]) fun x=>x= .val (.tup (wI n (rR k n S lo hi))):=by
 obtain⟨h,q1,q2⟩:=hc_ex (lo:=lo) (hi:=hi) (Nat.gcd k n) 0 (tT k n S) (by lia);have rm:Room' (Nat.gcd k n) lo hi (tT k n S):=InB.room (h:=h) ⟨fun j hj=>by have:=q1 j hj;rwa[qck]at this,by rw[<-q2];exact zar fun i _=>by rw[qck]⟩;refine(zop d sp).mono ?_;rintro x (⟨_,rfl⟩|⟨ng,_⟩)
 ·rfl
 ·exact absurd ⟨ok.1,ok.2,rm⟩ ng
theorem zp7 (hp:Pot ds)(d:RDim k n)(b:Bc 160 n S/\Bc 160 n L/\Bc 160 n G)(sp:ze8 k n S L G lo hi)(hv:MV k n S lo hi v)(v0:0<=v){far:Nat}(row:Nat->Int)(a0 a1 a7 a8 a9:Sl):
  Ok (zlA [a0,a1,.own ds,.val (zaV k n S L G),.val (.int v),.val (.int (far:Nat)),.val (.tup (wI n row)),a7,a8,a9]) fun x=>x.1= .next/\∃s1 s2 s3 s4 s5 s6 s7 s8 s9,x.2=[a0,s1,s2,s3,s4,s5,s6,s7,s8,s9]:=by
 have n0:1<=n:=by have:=d.k2;have:=d.kn;lia
 have n24:=d.n24;simp! only[↓zlA,↓zoE];refine zqd (enc:=D.int) (l:=[-1,v,v+(far:Int),-1-(far:Int)]) (fun _ ρ=>∃s7,ρ=[a0,a1,.own ds,.val (zaV k n S L G),.val (.int v),.val (.int (far:Nat)),.val (.tup (wI n row)),s7,a8,a9]) ⟨_,rfl⟩ ?_ ?_
 ·rintro i x _ hx ⟨s7,rfl⟩;have hx':x<0\/v<=x:=by
   have:x∈[-1,v,v+(far:Int),-1-(far:Int)]:=qa1 hx;simp only[qao,qb8,or_false]at this;lia
  simp! only[↓zoy];refine(heard_at d b sp hv hx').mono ?_;rintro _ rfl;simp! only[];refine alone_2.mono ?_;rintro _ rfl;simp! only[];exact⟨_,rfl⟩
 rintro _ ⟨s7,rfl⟩;simp! only[];refine(znr hp n0 n24 row).mono ?_;rintro _ ⟨m,r,d2,hp2,m9,rfl⟩;have ne:dNe (.lst (wI m r)) (.lst (wI m r))=some (.bl false):=(pl_lst (pl_w fun p=>zkF 0 _)).ne (show 1<=50 by decide);simp! only[];refine(zos d m9 (.inl rfl)).mono ?_;rintro _ ⟨z,rfl,hz⟩;simp! only[];refine⟨fun zf=>?_,fun zt=>?_⟩
 ·have nf:¬(m=n/\Fits k n S L G r):=fun f=>by rw[hz.mpr f]at zf;cases zf
  refine(zmr d (.inl rfl) nf).mono ?_;rintro _ rfl;simp! only[];refine alone_1.mono ?_;rintro _ rfl;simp! only[];refine(zmr d (.inr rfl) nf).mono ?_;rintro _ rfl;simp! only[];refine alone_1.mono ?_;rintro _ rfl;simp! only[↓zlm,ne];exact⟨_,_,_,_,_,_,_,_,_,rfl⟩
 ·simp! only[↓zlm,ne];exact⟨_,_,_,_,_,_,_,_,_,rfl⟩
theorem math (ns:List Int)(hl:ns.length<=63):zmA [.scr ns]=some (.val (.bl true)):=by
 have:Ok (zmA [.scr ns]) fun r=>r= .val (.bl true):=by
  have ct:cutD ns none (some 5)=ns.take 5:=zo6 ns 5;have len:(ns.take 5).length<=5:=by rw[qaU];lia
  simp! only[↓zmA,↓m_law,↓zoR,ct];refine⟨by lia,?_⟩;rw[show(ns.take 5).map D.int++[D.int 0]=(ns.take 5++[0]).map D.int by simp];refine zqd (enc:=D.int) (l:=ns.take 5++[0]) (fun _ ρ=>∃s1 s2 s3 s4 s5 s6 s7 s8 s9,ρ=[.val (.scr ns),s1,s2,s3,s4,s5,s6,s7,s8,s9]) ⟨_,_,_,_,_,_,_,_,_,rfl⟩ ?_ ?_
  ·rintro i c _ _ ⟨s1,s2,s3,s4,s5,s6,s7,s8,s9,rfl⟩;simp! only[↓zod];refine(deal_ok c).mono ?_;rintro _ ⟨d1,h1,rfl⟩;simp! only[];refine(ring_ok h1).mono ?_;rintro _ ⟨k,n,S,L,G,d2,d,h2,bb,rfl⟩;have n0:0<n:=by have:=d.k2;have:=d.kn;lia
   obtain⟨lo,hi,sp,-⟩:=znw (rA k n S L) (rA k n S G) d.g1 d.gn;have b0:Bc 160 n S/\Bc 160 n L/\Bc 160 n G:=⟨bb.1.1.mono (by lia),bb.1.2.1.mono (by lia),bb.1.2.2.mono (by lia)⟩;simp! only[];refine(many_v d b0 sp).mono ?_;rintro _ ⟨v,rfl,hv⟩;have v0:0<=v:=by
    rcases hv with⟨_,rfl⟩|⟨_,rfl⟩
    ·exact zkR _ _ _ _ _
    ·exact qcv _
   simp! only[];refine(zbu h2 (m:=1000000000000000000) (by lia) (by lia)).mono ?_;rintro _ ⟨far,d3,hf,h3,rfl⟩;simp! only[];refine⟨fun pos=>?_,fun _=>?_⟩
   ·rcases hv with⟨ok,ev⟩|⟨_,ev⟩
    case inr=>lia
    have a0:0<=(far:Int)%v:=qcG _ (by lia);have a1:(far:Int)%v<v:=qcJ _ pos;refine(zro d sp ok ev pos).mono ?_;rintro _ rfl;simp! only[];refine⟨by lia,?_⟩;refine(zlU d ok b0 sp ev pos a0 a1).mono ?_;rintro _ rfl;simp! only[];refine(zp7 h3 d b0 sp (.inl ⟨ok,ev⟩) v0 _ _ _ _ _ _).mono ?_;rintro⟨_,_⟩ ⟨rfl,t1,t2,t3,t4,t5,t6,t7,t8,t9,rfl⟩;exact⟨_,_,_,_,_,_,_,_,_,rfl⟩
   ·refine(zp7 h3 d b0 sp hv v0 _ _ _ _ _ _).mono ?_;rintro⟨_,_⟩ ⟨rfl,t1,t2,t3,t4,t5,t6,t7,t8,t9,rfl⟩;exact⟨_,_,_,_,_,_,_,_,_,rfl⟩
  ·rintro _ ⟨s1,s2,s3,s4,s5,s6,s7,s8,s9,rfl⟩;simp! only[]
 obtain⟨_,e,rfl⟩:=this;exact e
end
end Prf
def PySem.W.Fast.tw17719132505964470258:Nat:=0
def PySem.W.Fast.tw5158022102098047439:Nat:=0
def PySem.W.Fast.tw3201101594483172959:Nat:=0
def PySem.W.Fast.tw32588956500871228:Nat:=0
def PySem.W.Fast.tw4640640779514162188:Nat:=0
def PySem.W.Fast.tw17628961595197268550:Nat:=0
def PySem.W.Fast.tw145146185276028884:Nat:=0
def PySem.W.Fast.tw331289053524847386:Nat:=0
def PySem.W.Fast.tw9124294524768388849:Nat:=0
def PySem.W.Fast.tw9760177337121228982:Nat:=0
def PySem.W.Fast.tw4141498780819614950:Nat:=0
def PySem.W.Fast.tw13984186549048318411:Nat:=0
def PySem.W.Fast.tw2176909237421128545:Nat:=0
def PySem.W.Fast.tw6337838245631286495:Nat:=0
def PySem.W.Fast.tw9691219028228728422:Nat:=0
def PySem.W.Fast.tw8603288741058718887:Nat:=0
def PySem.W.Fast.tw660086960232870941:Nat:=0
def PySem.W.Fast.tw7380781036115322777:Nat:=0
def PySem.W.Fast.tw8723474550761051876:Nat:=0
def PySem.W.Fast.tw3088699424752618900:Nat:=0
def PySem.W.Fast.tw10088103338527121383:Nat:=0
def PySem.W.Fast.tw9992252397597456665:Nat:=0
def PySem.W.Fast.tw12494303172246587556:Nat:=0
def PySem.W.Fast.tw17416783391458043942:Nat:=0
def PySem.W.Fast.tw10185216100666833641:Nat:=0
def PySem.W.Fast.tw15509678629890983413:Nat:=0
def PySem.W.Fast.tw11914855396822909770:Nat:=0
def PySem.W.Fast.tw9080902887504732057:Nat:=0
def PySem.W.Fast.tw3759701108746979217:Nat:=0
def PySem.W.Fast.tw17031738720753854168:Nat:=0
def PySem.W.Fast.tw11857812616108263045:Nat:=0
def PySem.W.Fast.tw10846136165064662849:Nat:=0
def PySem.W.Fast.tw5623036048577581716:Nat:=0
def PySem.W.Fast.tw11861633129364827501:Nat:=0
def PySem.W.Fast.tw15615767576949830413:Nat:=0
def PySem.W.Fast.tw17848887522930194361:Nat:=0
def PySem.W.Fast.tw2260806070163553374:Nat:=0
def PySem.W.Fast.tw11809382702236006135:Nat:=0
def PySem.W.Fast.tw12979454422480022730:Nat:=0
def PySem.W.Fast.tw8209291198374558619:Nat:=0
def PySem.W.Fast.tw11653219280577402503:Nat:=0
def PySem.W.Fast.tw9911690466424645994:Nat:=0
def PySem.W.Fast.tw8967006783255915166:Nat:=0
def PySem.W.Fast.tw12410735603069375280:Nat:=0
def PySem.W.Fast.tw5907108182502599290:Nat:=0
def PySem.W.Fast.tw14618583375124784226:Nat:=0
def PySem.W.Fast.tw4511586714313000918:Nat:=0
def PySem.W.Fast.tw16281229678774299721:Nat:=0
def PySem.W.Fast.tw14204105411728001705:Nat:=0
def PySem.W.Fast.tw14472734833655706234:Nat:=0
def PySem.W.Fast.tw5225056422904790643:Nat:=0
def PySem.W.Fast.tw1904029507339197211:Nat:=0
def PySem.W.Fast.tw1690205756530485231:Nat:=0
def PySem.W.Fast.tw10473729207749795560:Nat:=0
def PySem.W.Fast.tw4305939616508860675:Nat:=0
def PySem.W.Fast.tw3934979814526092907:Nat:=0
def PySem.W.Fast.tw11907011998953634752:Nat:=0
def PySem.W.Fast.tw9153618166516560180:Nat:=0
def PySem.W.Fast.tw6175033893609341670:Nat:=0
def PySem.W.Fast.tw12337101989751348972:Nat:=0
def PySem.W.Fast.tw6348303187560575547:Nat:=0
def PySem.W.Fast.tw7717949783334781235:Nat:=0
def PySem.W.Fast.tw994184490550454248:Nat:=0
def PySem.W.Fast.tw12662984858801241375:Nat:=0
def PySem.W.Fast.tw6738179588037410987:Nat:=0
def PySem.W.Fast.tw13727252541914333883:Nat:=0
def PySem.W.Fast.tw8731504033572129285:Nat:=0
def PySem.W.Fast.tw314052309378126159:Nat:=0
def PySem.W.Fast.tw2329809034348383479:Nat:=0
def PySem.W.Fast.tw6617291728710093551:Nat:=0
def PySem.W.Fast.tw11738722645173324505:Nat:=0
def PySem.W.Fast.tw11038170052129067900:Nat:=0
def PySem.W.Fast.tw15206468060736202751:Nat:=0
def PySem.W.Fast.tw9053490685320191502:Nat:=0
def PySem.W.Fast.tw3624778956758814119:Nat:=0
def PySem.W.Fast.tw4777254013825782469:Nat:=0
def PySem.W.Fast.tw18384429894642213919:Nat:=0
def PySem.W.Fast.tw6336258917222602164:Nat:=0
def PySem.W.Fast.tw1417510663017252522:Nat:=0
def PySem.W.Fast.tw18002246801538758574:Nat:=0
def PySem.W.Fast.tw16634937776283304302:Nat:=0
def PySem.W.Fast.tw7900837625912208706:Nat:=0
def PySem.W.Fast.tw10763756949045391109:Nat:=0
def PySem.W.Fast.tw15787814205731813257:Nat:=0
def PySem.W.Fast.tw12225500809319171207:Nat:=0
def PySem.W.Fast.tw15039511919693364271:Nat:=0
def PySem.W.Fast.tw15212688470114144806:Nat:=0
def PySem.W.Fast.tw8532123543695536600:Nat:=0
def PySem.W.Fast.tw1470660412915060020:Nat:=0
def PySem.W.Fast.tw2814578819307746170:Nat:=0
def PySem.W.Fast.tw3677033751243853532:Nat:=0
def PySem.W.Fast.tw1119073286169515514:Nat:=0
def PySem.W.Fast.tw8743758507447311068:Nat:=0
def PySem.W.Fast.tw3378547021361751739:Nat:=0
def PySem.W.Fast.tw12833030951422762812:Nat:=0
def PySem.W.Fast.tw2412946289675269785:Nat:=0
def PySem.W.Fast.tw1933992762628411870:Nat:=0
def PySem.W.Fast.tw12284917718026464216:Nat:=0
def PySem.W.Fast.tw13990417608792552642:Nat:=0
def PySem.W.Fast.tw8469971426792127227:Nat:=0
def PySem.W.Fast.tw3230138070330290736:Nat:=0
def PySem.W.Fast.tw17720510789182785729:Nat:=0
def PySem.W.Fast.tw8339797948625123037:Nat:=0
def PySem.W.Fast.tw4861235806486764676:Nat:=0
def PySem.W.Fast.tw13340926319351425747:Nat:=0
def PySem.W.Fast.tw18139101992075933051:Nat:=0
def PySem.W.Fast.tw9223253693072160150:Nat:=0
def PySem.W.Fast.tw10549089863178582752:Nat:=0
def PySem.W.Fast.tw15288571326787560054:Nat:=0
def PySem.W.Fast.tw14913951740747180359:Nat:=0
def PySem.W.Fast.tw17628425728527361384:Nat:=0
def PySem.W.Fast.tw329001630368883688:Nat:=0
def PySem.W.Fast.tw3052041963545519349:Nat:=0
def PySem.W.Fast.tw9337037839365329829:Nat:=0
def PySem.W.Fast.tw1106285116518342835:Nat:=0
def PySem.W.Fast.tw9024312042311287977:Nat:=0
def PySem.W.Fast.tw12548570804663711:Nat:=0
def PySem.W.Fast.tw5442305787848220506:Nat:=0
def PySem.W.Fast.tw2779329350416723574:Nat:=0
def PySem.W.Fast.tw6192191170611052113:Nat:=0
def PySem.W.Fast.tw16815335688372079834:Nat:=0
def PySem.W.Fast.tw15558590527746121762:Nat:=0
def PySem.W.Fast.tw2367018936806379699:Nat:=0
def PySem.W.Fast.tw4450976676885871972:Nat:=0
def PySem.W.Fast.tw6752812776138442921:Nat:=0
def PySem.W.Fast.tw9785396250400151247:Nat:=0
def PySem.W.Fast.tw18005880045318318522:Nat:=0
def PySem.W.Fast.tw12166707320086283088:Nat:=0
def PySem.W.Fast.tw1447106040123347427:Nat:=0
def PySem.W.Fast.tw2941137308036466405:Nat:=0
def PySem.W.Fast.tw12683053904258386528:Nat:=0
def PySem.W.Fast.tw13427431238683636896:Nat:=0
def PySem.W.Fast.tw2591729440726879236:Nat:=0
def PySem.W.Fast.tw17301024081359975648:Nat:=0
def PySem.W.Fast.tw11118493888437078498:Nat:=0
def PySem.W.Fast.tw3903618682128815096:Nat:=0
def PySem.W.Fast.tw4620451990360544761:Nat:=0
def PySem.W.Fast.tw8248170702783809384:Nat:=0
def PySem.W.Fast.tw13947759996098881163:Nat:=0
def PySem.W.Fast.tw5824635525062738202:Nat:=0
def PySem.W.Fast.tw5664937914714055135:Nat:=0
def PySem.W.Fast.tw2698535406798550967:Nat:=0
def PySem.W.Fast.tw2893481418051812920:Nat:=0
def PySem.W.Fast.tw8815312193033902490:Nat:=0
def PySem.W.Fast.tw4430175423466112656:Nat:=0
def PySem.W.Fast.tw13085578380637250460:Nat:=0
def PySem.W.Fast.tw15717757884668952945:Nat:=0
def PySem.W.Fast.tw1833174203166593210:Nat:=0
def PySem.W.Fast.tw15967335140475906777:Nat:=0
def PySem.W.Fast.tw7733511286578738488:Nat:=0
def PySem.W.Fast.tw10752466867178979920:Nat:=0
def PySem.W.Fast.tw10494130944502871481:Nat:=0
def PySem.W.Fast.tw912628256750527598:Nat:=0
def PySem.W.Fast.tw12313645531257513710:Nat:=0
def PySem.W.Fast.tw13205733739187172571:Nat:=0
def PySem.W.Fast.tw14487368528780905093:Nat:=0
def PySem.W.Fast.tw11371029685420455576:Nat:=0
def PySem.W.Fast.tw17420225136501062895:Nat:=0
def PySem.W.Fast.tw15223943645203796982:Nat:=0
def PySem.W.Fast.tw621048611531729737:Nat:=0
def PySem.W.Fast.tw9769583853247195260:Nat:=0
def PySem.W.Fast.tw4756851202166673397:Nat:=0
def PySem.W.Fast.tw348865401489072197:Nat:=0
def PySem.W.Fast.tw9230918481113415057:Nat:=0
def PySem.W.Fast.tw8436150522769072922:Nat:=0
def PySem.W.Fast.tw4927924352539489521:Nat:=0
def PySem.W.Fast.tw4838015788484371584:Nat:=0
def PySem.W.Fast.tw5135424793436903102:Nat:=0
def PySem.W.Fast.tw2128979779424819061:Nat:=0
def PySem.W.Fast.tw7285025006065808804:Nat:=0
def PySem.W.Fast.tw6560083673760613652:Nat:=0
def PySem.W.Fast.tw3960145502128417664:Nat:=0
def PySem.W.Fast.tw7153073967572783440:Nat:=0
def PySem.W.Fast.tw16919942306375880305:Nat:=0
def PySem.W.Fast.tw3898795323103251868:Nat:=0
def PySem.W.Fast.tw1937366761032681504:Nat:=0
def PySem.W.Fast.tw7700338634299601812:Nat:=0
def PySem.W.Fast.tw6369742733617127424:Nat:=0
def PySem.W.Fast.tw7445641221416645950:Nat:=0
def PySem.W.Fast.tw8562346260054556857:Nat:=0
def PySem.W.Fast.tw13766402751261708777:Nat:=0
def PySem.W.Fast.tw12517647404459933435:Nat:=0
def PySem.W.Fast.tw17039910711390838750:Nat:=0
def PySem.W.Fast.tw1445449876574016250:Nat:=0
def PySem.W.Fast.tw9103986402861824645:Nat:=0
def PySem.W.Fast.tw14990718943320575526:Nat:=0
def PySem.W.Fast.tw1159246479100300293:Nat:=0
def PySem.W.Fast.tw4255124961313036368:Nat:=0
def PySem.W.Fast.tw17589125527826139738:Nat:=0
def PySem.W.Fast.tw11657856585931296095:Nat:=0
def PySem.W.Fast.tw8509701986221305823:Nat:=0
def PySem.W.Fast.tw16724599254982182800:Nat:=0
def PySem.W.Fast.tw5702025485079387918:Nat:=0
def PySem.W.Fast.tw16311216659598395485:Nat:=0
def PySem.W.Fast.tw9290710398981386384:Nat:=0
def PySem.W.Fast.tw6558596173031616760:Nat:=0
def PySem.W.Fast.tw12838885031102827638:Nat:=0
def PySem.W.Fast.tw3255012511869480453:Nat:=0
def PySem.W.Fast.tw5007689613498235129:Nat:=0
def PySem.W.Fast.tw16723448350964055022:Nat:=0
def PySem.W.Fast.tw8700261212308612138:Nat:=0
def PySem.W.Fast.tw2406700362369151897:Nat:=0
def PySem.W.Fast.tw14624990498058666777:Nat:=0
def PySem.W.Fast.tw16833933971848906424:Nat:=0
def PySem.W.Fast.tw6086342128136983535:Nat:=0
def PySem.W.Fast.tw14242513363029018578:Nat:=0
def PySem.W.Fast.tw387767222586208185:Nat:=0
def PySem.W.Fast.tw2871278375440148873:Nat:=0
def PySem.W.Fast.tw16798930621947988103:Nat:=0
def PySem.W.Fast.tw1403246563066760459:Nat:=0
def PySem.W.Fast.tw7966134775121598713:Nat:=0
def PySem.W.Fast.tw10214009924466245595:Nat:=0
def PySem.W.Fast.tw16461189318914256977:Nat:=0
def PySem.W.Fast.tw9877400658034087951:Nat:=0
def PySem.W.Fast.tw13091185354908604801:Nat:=0
def PySem.W.Fast.tw13913433418357153489:Nat:=0
def PySem.W.Fast.tw9560671472345481368:Nat:=0
def PySem.W.Fast.tw12100342428780456059:Nat:=0
def PySem.W.Fast.tw2330288276242952684:Nat:=0
def PySem.W.Fast.tw154919376295544300:Nat:=0
def PySem.W.Fast.tw3041933385589413830:Nat:=0
def PySem.W.Fast.tw7234201239696106009:Nat:=0
def PySem.W.Fast.tw18341650839233486833:Nat:=0
def PySem.W.Fast.tw11111810188176254803:Nat:=0
open PyProof.Rows PySem PySem.W
set_option maxRecDepth 100000 in
set_option maxHeartbeats 0 in
theorem PySem.Challenge.cw_tellsum_k32_rows_of_rings_numbered_holds : PySem.Challenge.rw_tellsum_k32_rows_of_rings_numbered.Holds := by
  w_on; o_law; k_head; (case hw => w_witness2)
  k_fill
  refine Prf.walk (l := PySem.Challenge.rw_tellsum_k32_rows_of_rings_numbered) rfl rfl Prf.math (fun w h Y => W.kIn_of Y) ?F
  case F =>
    intro w mg fa h KX G hmg
    refine' Prf.all_mk KX G hmg ?h1 ?h2 ?h3 ?h4 ?h5 ?h6 ?h7 ?h8 ?h9 ?h10 ?h11 ?h12 ?h13 ?h14 ?h15 ?h16 ?h17 ?h18 ?h19 ?h20 ?h21 ?h22 ?h23 ?h24 ?h25 ?h26 ?h27 ?h28 ?h29 ?h30 ?h31 ?h32 ?h33 ?h34 ?h35 ?h36 ?h37 ?h38 ?h39 ?h40 ?h41 ?h42 ?h43 ?z0 ?z1 ?z2 ?z3 ?z4 ?z5 ?z6 ?z7 ?z8 ?z9 ?z10 ?z11 ?z12 ?z13 ?z14 ?z15 ?zaK ?zbK ?zhh ?zgT ?zla ?zjW ?znS ?zlN ?zj6 ?zlk ?hsp ?htk ?zcO ?zhL ?zhW ?zhK ?zg1 ?zlP ?zlr ?zl3 ?zbO ?zfn ?zfF ?zfB ?zdM ?ziJ ?zhg ?zjF ?zh3 ?zhb ?ziL ?zd2 ?zil ?zcQ ?zdL ?ziv ?zhf ?zjB ?zix ?zhj ?zie ?zfC ?zhY ?zgg ?zgP ?zhO ?zhQ ?zau ?zbr ?zbC ?zc8 ?zcK ?zcB ?zda ?zcP ?zct ?zcH ?zbL ?zlK ?zjX ?zjR ?zl8 ?zk5 ?zaO ?zb1 ?zcr ?zc7 ?zeF ?zeh ?zfz ?zeP ?zd5 ?zeR ?zcp
    (case h1 | h2 | h3 | h4 | h5 | h6 | h7 | h8 | h9 | h10 | h11 | h12 | h13 | h14 | h15 | h16 | h17 | h18 | h19 | h20 | h21 | h22 | h23 | h24 | h25 | h26 | h27 | h28 | h29 | h30 | h31 | h32 | h33 | h34 | h35 | h36 | h37 | h38 | h39 | h40 | h41 | h42 | h43 =>
      refine' M.FnAt.mk ?a ?l ?c ?k
      (case a => k_is)
      (case l => k_is)
      (case c => k_is)
      (case k => k_is))
    (case z0 | z1 | z2 | z3 | z4 | z5 | z6 | z7 | z8 | z9 | z10 | z11 | z12 | z13 | z14 | z15 | zaK | zbK | zhh | zgT | zla | zjW | znS | zlN | zj6 | zlk | hsp | htk | zcO | zhL | zhW | zg1 | zlP | zlr | zbO | zfn | zfF | zdM | ziJ | zhg | zjF | zh3 | zhb | ziL | zd2 | zil | zcQ | zdL | ziv | zhf | zjB | zix | zhj | zie | zfC | zhY | zgg | zgP | zhO | zhQ | zau | zbr | zbC | zc8 | zcK | zcB | zda | zcP | zct | zcH | zbL | zlK | zjX | zjR | zl8 | zk5 | zaO | zb1 | zcr | zc7 | zeF | zeh | zfz | zeP | zd5 | zeR | zcp => k_is)
    (case zhK | zl3 | zfB => rfl)
end
