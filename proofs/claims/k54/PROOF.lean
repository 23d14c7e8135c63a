import PyProof.Rows.All
import Wide.All
import OpenK.AllK
import Wide.FinOn
import Lean
import PyProof.EqAt
import PyProof.EqKinds
import PyProof.TupleCall
import PyProof.Rows.Range3
import PyProof.ZipIter
import PyProof.Draws
import PyProof.EnumMake
import PyProof.Rows.FactsTup
import PyProof.LayNew
import PyProof.Rows.SeqMore2
import PyProof.Rows.RuleIs
import KE.KRevIter
import PyProof.P3In
import KE.KSortTup
import PyProof.Rows.SortWalk
import PyProof.Rows.SetFrom
import KE.KIntText
import PyProof.StrOps2
import PySem.Challenge.RW_tellsum_k54_whole_sums_moved_by_rows
set_option Elab.async false
set_option linter.all false
set_option bootstrap.genMatcherCode false
set_option compiler.extract_closed false
set_option maxRecDepth 100000
local macro_rules | `(tactic| trivial) => `(tactic| first|exact Or.inl rfl|exact Or.inr rfl|exact Or.inr (Or.inl rfl)|exact Or.inr (Or.inr rfl))
noncomputable section
abbrev qaa:=@decide_eq_false
abbrev qab:=@beq_eq_false_iff_ne
abbrev qac:=@List.getElem?_eq_none_iff
abbrev qad:=@PySem.Heap.lt_size
abbrev qae:=@Nat.lt_of_lt_of_le
abbrev qaf:=@Nat.lt_irrefl
abbrev qag:=@Nat.ne_of_lt
abbrev qah:=@List.mem_filter
abbrev qai:=@List.mem_range
abbrev qaj:=@List.mem_filterMap
abbrev qak:=@decide_eq_true
abbrev qal:=@Nat.le_trans
abbrev qam:=@Nat.le_of_lt
abbrev qan:=@List.filterMap_cons
abbrev qao:=@List.mem_cons_self
abbrev qap:=@List.mem_cons_of_mem
abbrev qaq:=@List.mem_cons
abbrev qar:=@List.mem_append
abbrev qas:=@List.mem_append_left
abbrev qat:=@List.getElem?_eq_some_iff
abbrev qau:=@List.getElem_inj
abbrev qav:=@List.getElem?_set_ne
abbrev qaw:=@PySem.wpAny_mono
abbrev qax:=@PySem.wpAny_truthy_bool
abbrev qay:=@Array.length_toList
abbrev qaz:=@PySem.wpAny_execs_nil
abbrev qaA:=@PySem.wpAny_bind
abbrev qaB:=@PySem.wpAny_holding
abbrev qaC:=@PySem.wpAny_passesOwn
abbrev qaD:=@Bool.false_ne_true
abbrev qaE:=@PySem.wpAny_pure
abbrev qaF:=@PySem.Heap.get?_push_of_some
abbrev qaG:=@PySem.Heap.get?_push_size
abbrev qaH:=@Nat.le_refl
abbrev qaI:=@PyProof.Rows.callWith_type1
abbrev qaJ:=@List.mem_append_right
abbrev qaK:=@Int.fdiv_eq_ediv_of_nonneg
abbrev qaL:=@PySem.sizeLine_eq
abbrev qaM:=@List.size_toArray
abbrev qaN:=@List.any_eq_false
abbrev qaO:=@Array.mem_toList_iff
abbrev qaP:=@beq_iff_eq
abbrev qaQ:=@List.length_cons
abbrev qaR:=@List.map_cons
abbrev qaS:=@List.length_map
abbrev qaT:=@PySem.Heap.size_push
abbrev qaU:=@Nat.lt_succ_self
abbrev qaV:=@Nat.zero_le
abbrev qaW:=@List.append_nil
abbrev qaX:=@PySem.wpAny_Call_Name_kw
abbrev qaY:=@List.nodup_cons
abbrev qaZ:=@Option.isSome_iff_exists
abbrev qa0:=@List.length_take
abbrev qa1:=@PySem.mem_of_lookup
abbrev qa2:=@List.getElem?_append_right
abbrev qa3:=@List.getElem?_replicate
abbrev qa4:=@List.getElem?_append_left
abbrev qa5:=@List.getElem?_map
abbrev qa6:=@List.getElem?_take_of_lt
abbrev qa7:=@List.mem_of_getElem?
abbrev qa8:=@List.length_append
abbrev qa9:=@List.length_replicate
abbrev qba:=@List.zip_nil_right
abbrev qbb:=@List.zip_cons_cons
abbrev qbc:=@List.length_nil
abbrev qbd:=@PySem.F.slot_tuple_add
abbrev qbe:=@PySem.F.entry_tuple_add
abbrev qbf:=@PySem.F.args_tuple_add_2
abbrev qbg:=@Int.toNat_natCast
abbrev qbh:=@if_false
abbrev qbi:=@PySem.wpAny_field
abbrev qbj:=@PySem.wpAny_callSpecial?_slot
abbrev qbk:=@PyProof.Rows.slot_tuple_getitem
abbrev qbl:=@PySem.wpAny_call_entry
abbrev qbm:=@Bool.and_eq_true
abbrev qbn:=@PySem.wpAny_newObj_type
abbrev qbo:=@PySem.Heap.get?_update_self
abbrev qbp:=@PySem.Heap.get?_update_other
abbrev qbq:=@List.length_set
abbrev qbr:=@List.all_cons
abbrev qbs:=@List.any_cons
abbrev qbt:=@List.replicate_succ
abbrev qbu:=@List.flatten_cons
abbrev qbv:=@List.append_assoc
abbrev qbw:=@List.foldl_cons
abbrev qbx:=@List.find?_cons
abbrev qby:=@Exists.imp
abbrev qbz:=@List.getElem?_set
abbrev qbA:=@Option.ne_none_iff_exists'
abbrev qbB:=@Option.bind_some
abbrev qbC:=@Option.map_some
abbrev qbD:=@decide_eq_true_eq
abbrev qbE:=@of_decide_eq_true
abbrev qbF:=@List.eq_nil_of_length_eq_zero
abbrev qbG:=@List.getElem?_eq_getElem
abbrev qbH:=@Nat.lt_of_le_of_lt
abbrev qbI:=@bne_iff_ne
abbrev qbJ:=@Bool.and_true
abbrev qbK:=@PySem.F.plainAttrs_list
abbrev qbL:=@PySem.wpAny_pyIter_tuple
abbrev qbM:=@List.getElem?_cons_succ
abbrev qbN:=@List.cons_append
abbrev qbO:=@List.forIn_cons
abbrev qbP:=@List.lookup_cons
abbrev qbQ:=@Option.getD_some
abbrev qbR:=@beq_self_eq_true
abbrev qbS:=@Nat.lt_succ_of_lt
abbrev qbT:=@List.forIn_nil
abbrev qbU:=@Bool.false_eq_true
abbrev qbV:=@List.all_eq_true
abbrev qbW:=@List.mem_map
abbrev qbX:=@List.getElem?_zip_eq_some
abbrev qbY:=@List.take_succ_eq_append_getElem
abbrev qbZ:=@List.take_of_length_le
abbrev qb0:=@List.getElem?_eq_none
abbrev qb1:=@List.length_range
abbrev qb2:=@List.range_succ
abbrev qb3:=@List.map_append
abbrev qb4:=@List.map_map
abbrev qb5:=@List.length_pos_iff
abbrev qb6:=@Nat.add_left_cancel
abbrev qb7:=@PySem.wpAny_seqItems
abbrev qb8:=@PySem.Obj.data_mapFields
abbrev qb9:=@PySem.wpAny_setField
abbrev qca:=@PySem.Heap.SameBut.update
abbrev qcb:=@PySem.AutoSeq1.wpAny_loadPart'
abbrev qcc:=@List.not_mem_nil
abbrev qcd:=@List.getElem?_zipWith
abbrev qce:=@List.mem_or_eq_of_mem_set
abbrev qcf:=@List.mem_singleton
abbrev qcg:=@PySem.Around.under_plainId
abbrev qch:=@PySem.F.plain_min_loop
abbrev qci:=@PySem.wpAny_tryCatch
abbrev qcj:=@PySem.wpAny_letGo
abbrev qck:=@PySem.plainId_quiet
abbrev qcl:=@List.getD_eq_getElem?_getD
abbrev qcm:=@List.contains_cons
abbrev qcn:=@List.map_congr_left
abbrev qco:=@PySem.wpAny_setField_rec
abbrev qcp:=@PySem.wpAny_onRaise
abbrev qcq:=@PySem.wpAny_updateSeq_pair
abbrev qcr:=@PySem.wpAny_attempt
abbrev qcs:=@PySem.F.slot_zip_next
abbrev qct:=@PySem.F.slot_dict_keyiterator_next
abbrev qcu:=@PySem.wpAny_typeNameOfWhole_keyiter
abbrev qcv:=@PySem.wpAny_typeNameOf_keyiter
abbrev qcw:=@Array.getD_eq_getD_getElem?
abbrev qcx:=@Nat.lt_or_eq_of_le
abbrev qcy:=@Nat.le_of_lt_succ
abbrev qcz:=@of_decide_eq_false
abbrev qcA:=@List.nodup_append
abbrev qcB:=@List.contains_iff_mem
abbrev qcC:=@Bool.or_eq_false_iff
abbrev qcD:=@List.any_eq_true
abbrev qcE:=@List.mem_iff_getElem
abbrev qcF:=@List.getElem_mem
abbrev qcG:=@List.set_cons_succ
abbrev qcH:=@List.set_cons_zero
abbrev qcI:=@List.mem_of_mem_take
abbrev qcJ:=@exists_eq_left'
abbrev qcK:=@false_implies
abbrev qcL:=@List.take_add_one
abbrev qcM:=@List.take_length
abbrev qcN:=@List.filterMap_eq_map
abbrev qcO:=@List.ext_getElem?
abbrev qcP:=@Nat.min_eq_left
abbrev qcQ:=@List.getElem?_drop
abbrev qcR:=@PySem.PassesOwn.never
abbrev qcS:=@PySem.W.mg_none_of
abbrev qcT:=@List.pairwise_iff_getElem
abbrev qcU:=@List.filterMap_eq_filter
abbrev qcV:=@List.filterMap_filterMap
abbrev qcW:=@List.Pairwise.filter
abbrev qcX:=@List.length_filter_le
abbrev qcY:=@Nat.pow_succ
abbrev qcZ:=@Nat.pow_le_pow_right
abbrev qc0:=@Bool.eq_iff_iff
abbrev qc1:=@List.getElem_of_mem
abbrev qc2:=@Int.mul_comm
abbrev qc3:=@Int.mul_fdiv_add_fmod
abbrev qc4:=@Int.fmod_nonneg_of_pos
abbrev qc5:=@Int.lt_or_gt_of_ne
abbrev qc6:=@Int.natAbs_neg
abbrev qc7:=@Int.natAbs_mul
abbrev qc8:=@Nat.le_mul_of_pos_left
abbrev qc9:=@Nat.mul_le_mul_right
abbrev qda:=@Int.lt_or_le
abbrev qdb:=@Int.mul_le_mul_of_nonneg_left
abbrev qdc:=@Int.mul_neg_of_pos_of_neg
abbrev qdd:=@Int.mul_neg_of_neg_of_pos
abbrev qde:=@Int.mul_nonneg_of_nonpos_of_nonpos
abbrev qdf:=@Int.mul_nonneg
abbrev qdg:=@Nat.lt_or_ge
abbrev qdh:=@Nat.mul_le_mul_left
abbrev qdi:=@Classical.byContradiction
abbrev qdj:=@Int.zero_mul
abbrev qdk:=@Nat.pow_add
namespace L2
open PyProof.Rows PySem PySem.Spec
variable {xs vs:List V} {us its:List Value} {x m qual:Str} {u cd:Value} {H:Hp} {a b L it C dx:Addr} {o:Obj} {w:World} {h base:Heap} {g:Int->Int->Int} {g':Array GenState} {t' i j k n:Nat} {d':Drawn} {ch fp:List Addr} {e c tg:Expr} {pins' pins:List (Addr×Obj)} {N ns ps:List Str} {A:Around} {E Q:Value->Shared->Prop} {v y:V} {X:Cx} {t te:TE} {s s':Shared} {pos pos':Pos} {σ:St} {op:CmpOp} {K:W.Frag} {f:Value->Value->Sem Value} {tc:TT} {es:List Expr} {body:List Stmt} {p:Addr×Obj} {pl:Sem Bool} {r:V->Hp->VK->Prop} {mA mg:Str->Option Value} {kw:List (Str×Value)} {prog:Program} {outer:List Env} {fd:FuncData} {kindOf:Str->Option NameKind} {sc scope:Scope} {CX:CXT} {params:Arguments}
abbrev Key:=Sum Int Str
def znM:Key->Value->Bool
 | .inl k,v=>Value.isInt k v
 | .inr x,v=>Value.isStrOf x v
def keyH (w:World):Key->Int
 | .inl k=>hashInt k
 | .inr x=>hashStr w x
theorem za6:∀{k:Key} {v:Value},znM k v=true->(∃i t,k=Sum.inl i/\v=Value.int i t)\/(∃x t,k=Sum.inr x/\v=Value.str x t)
 | .inl i,v,h=>by
  obtain⟨t,e⟩:=Value.isInt_shape (k:=i) (v:=v) h;exact .inl ⟨i,t,rfl,e⟩
 | .inr x,v,h=>by
  obtain⟨t,e⟩:=Value.isStrOf_shape (x:=x) (v:=v) h;exact .inr ⟨x,t,rfl,e⟩
theorem znV (i:Int)(t:Tok):znM (.inl i) (.int i t)=true:=by simp[znM,Value.isInt]
theorem zox (x:Str)(t:Tok):znM (.inr x) (.str x t)=true:=by simp[znM,Value.isStrOf]
theorem key_ll (a b:Int):decide ((Sum.inl a:Key)=Sum.inl b)=(a==b):=by
 by_cases e:a=b
 ·subst e;simp
 ·have h:¬(Sum.inl a:Key)=Sum.inl b:=fun q=>e (Sum.inl.inj q)
  rw[qaa h];exact(qab.mpr e).symm
theorem key_rr (a b:Str):decide ((Sum.inr a:Key)=Sum.inr b)=decide (a=b):=by
 by_cases e:a=b
 ·subst e;simp
 ·have h:¬(Sum.inr a:Key)=Sum.inr b:=fun q=>e (Sum.inr.inj q)
  rw[qaa h,qaa e]
theorem key_lr (a:Int)(b:Str):decide ((Sum.inl a:Key)=Sum.inr b)=false:=qaa (fun q=>nomatch q)
theorem key_rl (a:Str)(b:Int):decide ((Sum.inr a:Key)=Sum.inl b)=false:=qaa (fun q=>nomatch q)
def zbH (prog:Program)(w:World):PySem.KeyKind prog w Key where
 is:=znM
 hash:=keyH w
 inj:=fun v a b ha hb=>by
  rcases za6 ha with⟨i,t,rfl,rfl⟩|⟨x,t,rfl,rfl⟩
  ·rcases za6 hb with⟨j,u,rfl,e⟩|⟨y,u,rfl,e⟩
   ·injection e with e1 _;rw[e1]
   ·exact nomatch e
  ·rcases za6 hb with⟨j,u,rfl,e⟩|⟨y,u,rfl,e⟩
   ·exact nomatch e
   ·injection e with e1 _;rw[e1]
 byValue:=fun k v h=>by
  rcases za6 h with⟨i,t,rfl,rfl⟩|⟨x,t,rfl,rfl⟩<;>rfl
 pyHash:=fun hv h=>by
  rcases za6 hv with⟨i,t,rfl,rfl⟩|⟨x,t,rfl,rfl⟩
  ·exact wpAny_pyHash_int h
  ·exact wpAny_pyHash_str h
 eqBool:=fun hu hv h=>by
  rcases za6 hu with⟨i,t,rfl,rfl⟩|⟨x,t,rfl,rfl⟩
  ·rcases za6 hv with⟨j,u,rfl,rfl⟩|⟨y,u,rfl,rfl⟩
   ·rw[key_ll]at h;exact wpAny_eqBool_int h
   ·rw[key_lr]at h;exact SeqAt.EqAt.int_str i t y u _ _ _ _ h
  ·rcases za6 hv with⟨j,u,rfl,rfl⟩|⟨y,u,rfl,rfl⟩
   ·rw[key_rl]at h;exact SeqAt.EqAt.str_int x t j u _ _ _ _ h
   ·rw[key_rr]at h;exact wpAny_eqBool_str h
 «strs»:=fun k x t v h=>by
  rcases za6 h with⟨i,u,rfl,e⟩|⟨y,u,rfl,e⟩
  ·exact nomatch e
  ·injection e with e1 _
   subst e1;cases v<;>rfl
theorem zlA (prog:Program)(w:World)(i:Int)(t:Tok):(zbH prog w).is (.inl i) (.int i t)=true:=znV i t
theorem zlB (prog:Program)(w:World)(x:Str)(t:Tok):(zbH prog w).is (.inr x) (.str x t)=true:=zox x t
inductive V where
 |non|bl (b:Bool)|int (i:Int)|str (x:Str)|byt (b:Array UInt8)|flt (b:UInt64)|ref (a:Addr)|ty (n:String)
 deriving DecidableEq
def RelV:V->Value->Prop
 | .non,u=>u=Value.none
 | .bl b,u=>u=Value.bool b
 | .int i,u=>∃t,u=Value.int i t
 | .str x,u=>∃t,u=Value.str x t
 | .byt b,u=>∃t,u=Value.bytes b t
 | .flt b,u=>∃t,u=Value.float b t
 | .ref a,u=>u=Value.ref a
 | .ty n,u=>u=Value.type n
abbrev Vals:List V->List Value->Prop:=Paired RelV
theorem Vals.length (r:Vals xs us):xs.length=us.length:=Paired.length r
theorem Vals.get:∀{xs:List V} {us:List Value} {i:Nat} {x:V},Vals xs us->xs[i]? =some x->∃u,us[i]? =some u/\RelV x u
 |_,_,_,_,.nil,e=>by simp at e
 |_,_,0,_,.cons r _,e=>by simp at e;subst e;exact⟨_,rfl,r⟩
 |_,_,i+1,x,.cons _ t,e=>by
  obtain⟨u,h1,h2⟩:=Vals.get (i:=i) (x:=x) t (by simpa using e);exact⟨u,by simpa using h1,h2⟩
theorem Vals.set {x:V}(r:RelV x u):∀{xs:List V} {us:List Value} (i:Nat),Vals xs us->Vals (xs.set i x) (us.set i u)
 |_,_,_,.nil=> .nil
 |_,_,0,.cons _ t=> .cons r t
 |_,_,i+1,.cons q t=> .cons q (Vals.set r i t)
theorem Vals.append:∀{xs ys:List V} {us ws:List Value},Vals xs us->Vals ys ws->Vals (xs++ys) (us++ws)
 |_,_,_,_,.nil,s=>s
 |_,_,_,_,.cons r t,s=> .cons r (Vals.append t s)
theorem Vals.take:∀{xs:List V} {us:List Value} (n:Nat),Vals xs us->Vals (xs.take n) (us.take n)
 |_,_,0,_=> .nil
 |_,_,_+1,.nil=> .nil
 |_,_,n+1,.cons r t=> .cons r (Vals.take n t)
theorem Vals.drop:∀{xs:List V} {us:List Value} (n:Nat),Vals xs us->Vals (xs.drop n) (us.drop n)
 |_,_,0,r=>r
 |_,_,_+1,.nil=> .nil
 |_,_,n+1,.cons _ t=>Vals.drop n t
theorem Vals.none_of:∀{xs:List V} {us:List Value} {i:Nat},Vals xs us->xs[i]? =none->us[i]? =none:=fun{xs us i} r e=>by
 have h1:=r.length;have h2:xs.length<=i:=qac.mp e;exact qac.mpr (by lia)
def RelO:Option V->Option Value->Prop
 |some v,some u=>RelV v u
 |none,none=>True
 |_,_=>False
def KV {κ:Type}:List (κ×V)->List (κ×Value)->Prop:=Paired fun(p:κ×V) (q:κ×Value)=>p.1=q.1/\RelV p.2 q.2
def kV:Key->V
 | .inl i=> .int i
 | .inr x=> .str x
inductive HO where
 /-- a list -/
 |lst (xs:List V)
 /-- a tuple (never changes) -/
 |tup (xs:List V)
 /-- a dict whose keys are ints and texts; one whose keys are tuples of ints and texts (the empty one is both) -/
 |dK (kvs:List (Key×V))|dT (kvs:List (List Key×V))
 /-- a set of ints: its members, its size -/
 |set (S:Int->Bool) (n:Nat)
 /-- an instance of the class at C, its dict at dx, its attributes -/
 |ins (C dx:Addr) (fs:List (Str×V))
 /-- the dict of the instance at x -/
 |own (x:Addr)
 /-- the dict of an exception -/
 |xd (fs:List (Str×V))
 /-- a bound method, f of x -/
 |met (f x:Addr)
 /-- a range object lo, lo + 1, .. below hi -/
 |rng (lo hi:Int)
 /-- a thing that is known to the object (the script; a dict while a loop walks it): read, never written while it is so -/
 |frz (o:Obj) (u:HO)
 /-- a code object's table -/
 |tbl (ps:Array Value)
 /-- any other thing, by what is true of its one object (a def of one's own: SetO a S n := HO.ext fun h => ..) -/
 |ext (φ:Heap->Prop)
abbrev Hp:=Addr->Option HO
def upd (H:Hp)(a:Addr)(o:HO):Hp:=fun b=>if b=a then some o else H b
theorem zaq {o:HO}:upd H a o a=some o:=by unfold upd;rw[if_pos rfl]
theorem zam {o:HO}(h:b≠a):upd H a o b=H b:=by unfold upd;rw[if_neg h]
theorem zaI {o:HO}(h:H a=some o)(h':H b=none):a≠b:=by
 intro e;subst e;rw[h]at h';cases h'
section
variable (P:Program) (w:World)
def ObjOk (H:Hp)(h:Heap)(a:Addr):HO->Prop
 | .lst xs=>xs.length<=sizeLine/\∃(its:List Value) (n:Nat),Vals xs its/\h.get? a=some {cls:= .type "list",data:= .seq its.toArray n}
 | .tup xs=>xs.length<=sizeLine/\∃its:List Value,Vals xs its/\IsTup h a its.toArray
 | .dK kvs=>kvs.length<=sizeLine/\(a==sysModules)=false/\∃vs,KV kvs vs/\h.DictOf (zbH P w) a vs
 | .dT kvs=>kvs.length<=sizeLine/\(a==sysModules)=false/\∃xs:List (List Key×Addr×Value),
   Paired (fun(p:List Key×V) (q:List Key×Addr×Value)=>p.1=q.1/\H q.2.1=some (.tup (p.1.map kV))/\RelV p.2 q.2.2) kvs xs/\
   ∃o es ep,h.get? a=some o/\o.ExactDict/\o.data= .dict es ep/\es.toList=xs.map (entryOfKey (tupleKind (zbH P w)))/\(xs.map (·.1)).Nodup
 | .set S n=>h.SetOf (intKind P w) a S n
 | .ins C dx fs=>H dx=some (.own a)/\fs.length<=1000/\dx≠a/\h.get? a=some (W.instObj C dx)/\
   ∃mA,h.Ns1 dx mA/\(∀f,RelO (fs.lookup f) (mA f))/\PySem.Within mA (fs.map (·.1))
 | .own _=>∃o,h.get? a=some o
 | .xd fs=>∃mA,h.Ns1 a mA/\∀f,RelO (fs.lookup f) (mA f)
 | .rng lo hi=>∃t u v,h.get? a=some {cls:= .type "range",data:= .fields #[.int lo t,.int hi u,.int 1 v]}
 | .frz o u=>h.get? a=some o/\ObjOk H h a u
 | .tbl ps=>h.get? a=some {cls:= .none,data:= .fields ps}
 | .met f x=>h.get? a=some (W.methodObj (.ref f) (.ref x))
 | .ext φ=>φ h/\(∃o,h.get? a=some o)/\∀h1 h2:Heap,φ h1->(∀o,h1.get? a=some o->h2.get? a=some o)->φ h2
def HOk (H:Hp)(h:Heap):Prop:=∀a o,H a=some o->ObjOk P w H h a o
end
section
variable {P:Program} {w:World} {H H':Hp} {h h':Heap} {a:Addr} {o:HO}
theorem ObjOk.lt (x:ObjOk P w H h a o):a<h.objs.size:=by
 cases o with
 |lst xs=>obtain⟨_,_,_,_,e⟩:=x;exact qad e
 |tup xs=>obtain⟨_,_,_,p⟩:=x;exact p.lt
 |dK kvs=>obtain⟨_,_,_,_,o,_,_,e,_⟩:=x;exact qad e
 |dT kvs=>obtain⟨_,_,_,_,o,_,_,e,_⟩:=x;exact qad e
 |set S n=>obtain⟨o,_,_,_,e,_⟩:=x;exact qad e
 |ins C dx fs=>obtain⟨_,_,_,e,_⟩:=x;exact qad e
 |own y=>obtain⟨_,e⟩:=x;exact qad e
 |xd fs=>obtain⟨_,⟨_,_,_,e,_⟩,_⟩:=x;exact qad e
 |rng lo hi=>obtain⟨_,_,_,e⟩:=x;exact qad e
 |frz ob u=>obtain⟨e,_⟩:=x;exact qad e
 |tbl ps=>exact qad (show h.get? a=some _ from x)
 |met f y=>exact qad (show h.get? a=some _ from x)
 |ext φ=>obtain⟨_,⟨_,e⟩,_⟩:=x;exact qad e
theorem Paired.mapP {α β:Type}{F G:α->β->Prop}:∀{l₁:List α} {l₂:List β},Paired F l₁ l₂->(∀a b,F a b->G a b)->Paired G l₁ l₂
 |_,_,.nil,_=> .nil
 |_,_,.cons r t,f=> .cons (f _ _ r) (Paired.mapP t f)
theorem ObjOk.stay (x:ObjOk P w H h a o)(k:∀b u,(b=a\/H b=some (.own a))->h.get? b=some u->h'.get? b=some u)
  (ho:∀b,H b=some (.own a)->H' b=some (.own a)) (ht:∀b xs,H b=some (.tup xs)->H' b=some (.tup xs)):ObjOk P w H' h' a o:=by
 induction o with
 |lst xs=>obtain⟨z,its,n,r,e⟩:=x;exact⟨z,its,n,r,k _ _ (.inl rfl) e⟩
 |tup xs=>obtain⟨z,its,r,ob,e,c⟩:=x;exact⟨z,its,r,ob,k _ _ (.inl rfl) e,c⟩
 |dK kvs=>obtain⟨z,y,vs,r,ob,es,ep,e,c⟩:=x;exact⟨z,y,vs,r,ob,es,ep,k _ _ (.inl rfl) e,c⟩
 |dT kvs=>
  obtain⟨z,y,xs,r,ob,es,ep,e,c⟩:=x;exact⟨z,y,xs,Paired.mapP r fun p q z=>⟨z.1,ht _ _ z.2.1,z.2.2⟩,ob,es,ep,k _ _ (.inl rfl) e,c⟩
 |set S n=>obtain⟨ob,es,ep,t,e,c⟩:=x;exact⟨ob,es,ep,t,k _ _ (.inl rfl) e,c⟩
 |ins C dx fs=>
  obtain⟨d,z,ne,e,mA,⟨od,es,ep,e2,c⟩,r⟩:=x;exact⟨ho _ d,z,ne,k _ _ (.inl rfl) e,mA,⟨od,es,ep,k _ _ (.inr d) e2,c⟩,r⟩
 |own y=>obtain⟨ob,e⟩:=x;exact⟨ob,k _ _ (.inl rfl) e⟩
 |xd fs=>obtain⟨mA,⟨od,es,ep,e,c⟩,r⟩:=x;exact⟨mA,⟨od,es,ep,k _ _ (.inl rfl) e,c⟩,r⟩
 |rng lo hi=>obtain⟨t,u,v,e⟩:=x;exact⟨t,u,v,k _ _ (.inl rfl) e⟩
 |frz ob u ih=>obtain⟨e,q⟩:=x;exact⟨k _ _ (.inl rfl) e,ih q⟩
 |tbl ps=>
  have e:h.get? a=some {cls:= .none,data:= .fields ps}:=x;show h'.get? a=some {cls:= .none,data:= .fields ps};exact k a _ (.inl rfl) e
 |met f y=>
  have e:h.get? a=some (W.methodObj (.ref f) (.ref y)):=x;show h'.get? a=some (W.methodObj (.ref f) (.ref y));exact k a _ (.inl rfl) e
 |ext φ=>obtain⟨p,⟨o,e⟩,st⟩:=x;exact⟨st _ _ p fun o q=>k _ _ (.inl rfl) q,⟨o,k _ _ (.inl rfl) e⟩,st⟩
theorem HOk.lt (x:HOk P w H h)(e:H a=some o):a<h.objs.size:=(x a o e).lt
theorem HOk.fresh (x:HOk P w H h)(e:h.objs.size<=a):H a=none:=by
 cases q:H a with
 |none=>rfl
 |some u=>exact absurd (qae (x.lt q) e) (qaf _)
theorem HOk.kept (x:HOk P w H h)(k:∀b u,h.get? b=some u->h'.get? b=some u):HOk P w H h':=fun a o e=>
 (x a o e).stay (fun b u _ q=>k b u q) (fun _ q=>q) fun _ _ q=>q
theorem HOk.laid (x:HOk P w H h)(k:∀b u,h.get? b=some u->h'.get? b=some u)(hp:h.objs.size<=a)(new:ObjOk P w (upd H a o) h' a o):HOk P w (upd H a o) h':=fun b u e=>by
 have hn:=x.fresh hp
 by_cases hb:b=a
 ·subst hb;rw[zaq]at e;cases e;exact new
 ·rw[zam hb]at e;exact(x b u e).stay (fun c v _ q=>k c v q) (fun c q=>by rw[zam (zaI q hn)];exact q) fun c xs q=>by rw[zam (zaI q hn)];exact q
end
def Rd (H:Hp)(a:Addr)(u:HO):Prop:=H a=some u\/∃o,H a=some (.frz o u)
theorem Rd.ok {P:Program}{u:HO}(r:Rd H a u)(x:HOk P w H h):ObjOk P w H h a u:=by
 rcases r with r|⟨o,r⟩
 ·exact x a u r
 ·obtain⟨_,q⟩:=x a _ r;exact q
def Mut:Option HO->Prop
 |some (.lst _)=>True
 |some (.dK _)=>True
 |some (.dT _)=>True
 |some (.set _ _)=>True
 |some (.ins _ _ _)=>True
 |some (.ext _)=>True
 |_=>False
section
variable {P:Program} {w:World} {H:Hp} {h h':Heap} {x e:Addr} {o':HO}
theorem HOk.write (ok:HOk P w H h)(mu:Mut (H x))(he:e=x\/H e=some (.own x))(k:∀b u,b≠e->h.get? b=some u->h'.get? b=some u)(heo:∃u,h'.get? e=some u)
  (new:ObjOk P w (upd H x o') h' x o'):HOk P w (upd H x o') h':=fun b u q=>by
 have nown:∀c y,H c=some (.own y)->c≠x:=fun c y r z=>by subst z;rw[r]at mu;exact mu
 have ntup:∀c xs,H c=some (.tup xs)->c≠x:=fun c xs r z=>by subst z;rw[r]at mu;exact mu
 by_cases hb:b=x
 ·subst hb;rw[zaq]at q;cases q;exact new
 ·rw[zam hb]at q
  by_cases hbe:b=e
  ·have q':H b=some (.own x):=by
    rcases he with z|z
    ·exact absurd (hbe.trans z) hb
    ·rw[hbe];exact z
   rw[q]at q';cases q';obtain⟨v,hv⟩:=heo;exact⟨v,by rw[hbe];exact hv⟩
  ·refine(ok b u q).stay (fun c v hc r=>k c v ?_ r) (fun c r=>by rw[zam (nown c b r)];exact r) fun c xs r=>by rw[zam (ntup c xs r)];exact r
   rcases hc with rfl|hc
   ·exact hbe
   ·rintro rfl;rcases he with z|z
    ·exact nown c b hc z
    ·rw[hc]at z;cases z;exact hb rfl
end
structure Un (fs ex:List Addr) (H H':Hp) (h h':Heap):Prop where
 keep:∀b o,h.get? b=some o->H b=none->b∉fs->b∉ex->h'.get? b=some o
 slot:∀b o,h.get? b=some o->H b=none->b∈fs->b∉ex->∃sl,h'.get? b=some {o with slots:=sl}
 free:∀b o,h.get? b=some o->H b=none->b∉ex->H' b=none
 there:∀b o,h.get? b=some o->b∉ex->∃o',h'.get? b=some o'
 tups:∀b xs,H b=some (.tup xs)->H' b=some (.tup xs)
 frzs:∀b o u,H b=some (.frz o u)->H' b=some (.frz o u)
 tbls:∀b ps,H b=some (.tbl ps)->∃more,H' b=some (.tbl (ps++more))
section
variable {fs fs' ex ex':List Addr} {H H1 H2:Hp} {h h1 h2 h':Heap} {a x e:Addr} {o:HO}
theorem Un.any (u:Un fs ex H H1 h h1){ob:Obj}(q:h.get? b=some ob)(n:H b=none)(hx:b∉ex):∃sl,h1.get? b=some {ob with slots:=sl}:=by
 by_cases hb:b∈fs
 ·exact u.slot b ob q n hb hx
 ·exact⟨ob.slots,u.keep b ob q n hb hx⟩
theorem Un.kept (k:∀b u,h.get? b=some u->h'.get? b=some u):Un fs ex H H h h':=
 ⟨fun b ob q _ _ _=>k b ob q,fun b ob q _ _ _=>⟨ob.slots,k b ob q⟩,fun _ _ _ n _=>n,fun b ob q _=>⟨ob,k b ob q⟩,fun _ _ q=>q,fun _ _ _ q=>q,fun _ ps q=>⟨#[],by rw[q];simp⟩⟩
theorem Un.refl:Un fs ex H H h h:=Un.kept fun _ _ q=>q
theorem Un.laid (k:∀b u,h.get? b=some u->h'.get? b=some u)(hp:h.objs.size<=a)(hn:H a=none):Un fs ex H (upd H a o) h h' where
 keep:=fun b u q _ _ _=>k b u q
 slot:=fun b u q _ _ _=>⟨u.slots,k b u q⟩
 free:=fun b u q n _=>by rw[zam (qag (qae (qad q) hp))];exact n
 there:=fun b u q _=>⟨u,k b u q⟩
 tups:=fun b xs q=>by rw[zam (zaI q hn)];exact q
 frzs:=fun b u xs q=>by rw[zam (zaI q hn)];exact q
 tbls:=fun b ps q=>⟨#[],by rw[zam (zaI q hn),q];simp⟩
theorem Un.write (mu:Mut (H x))(he:e=x\/H e=some (.own x))(k:∀b u,b≠e->h.get? b=some u->h'.get? b=some u)(heo:∃u,h'.get? e=some u):Un fs ex H (upd H x o) h h':=by
 have hx:∀b,H b=none->b≠x:=fun b n z=>by subst z;rw[n]at mu;exact mu
 have hb:∀b,H b=none->b≠e:=fun b n z=>by
  subst z;rcases he with r|r
  ·exact hx b n r
  ·rw[n]at r;cases r
 have hm:∀b u,H b=some u->¬Mut (some u)->b≠x:=fun b u q nm z=>by subst z;rw[q]at mu;exact nm mu
 refine⟨fun b u q n _ _=>k b u (hb b n) q,fun b u q n _ _=>⟨u.slots,k b u (hb b n) q⟩,fun b u q n _=>by rw[zam (hx b n)];exact n,fun b u q _=>?_,
  fun b xs q=>by rw[zam (hm b _ q fun z=>z)];exact q,fun b u xs q=>by rw[zam (hm b _ q fun z=>z)];exact q,fun b ps q=>⟨#[],by rw[zam (hm b _ q fun z=>z),q];simp⟩⟩
 by_cases hbe:b=e
 ·subst hbe;exact heo
 ·exact⟨u,k b u hbe q⟩
end
def trk (h:Heap)(H:Hp):List Addr:=(List.range h.objs.size).filter fun a=>(H a).isSome
def hidT (h:Heap)(H:Hp):Heap:=W.hideAll h (trk h H)
theorem zpA (h:Heap)(H:Hp):(hidT h H).objs.size=h.objs.size:=W.hideAll_size _ _
theorem hidT_get (e:h.get? b=some o)(n:H b=none):(hidT h H).get? b=some o:=
 W.hideAll_get _ e fun hm=>by
  have q:(H b).isSome=true:=(qah.mp hm).2;rw[n]at q;simp at q
theorem of_hidT (e:(hidT h H).get? b=some o):h.get? b=some o/\H b=none:=by
 have e':h.get? b=some o:=W.of_hideAll (trk h H) e;refine⟨e',?_⟩;cases q:H b with
 |none=>rfl
 |some x=>
  have hm:b∈trk h H:=qah.mpr ⟨qai.mpr (qad e'),by simp[q]⟩;have z:(hidT h H).get? b=none:=W.hideAll_none (trk h H) hm;rw[z]at e;cases e
def zn5 (g h:Heap)(L:Addr):List (Addr×Obj):=(List.range h.objs.size).filterMap fun a=>if a=L\/(g.get? a).isSome=true then none else(h.get? a).map fun o=>(a,o)
theorem zlZ {g h:Heap}(h1:a≠L)(h2:g.get? a=none)(h3:h.get? a=some o):(a,o)∈zn5 g h L:=
 qaj.mpr ⟨a,qai.mpr (qad h3),by simp[h1,h2,h3]⟩
def rest (g h:Heap)(L d:Addr):List (Addr×Obj):=(zn5 g h L).filter fun p=>decide (p.1≠d)
theorem mem_rest {g h:Heap}{L d a:Addr}(h1:a≠L)(h2:g.get? a=none)(h3:h.get? a=some o)(h4:a≠d):(a,o)∈rest g h L d:=
 qah.mpr ⟨zlZ h1 h2 h3,qak h4⟩
structure Mod (K:W.Frag) (mg:Str->Option Value) (base:Heap):Prop where
 kin:K.In base
 glob:base.Ns mainGlobals mg
 blt:∃mb,base.Ns builtinsNs mb/\∀x:Str,x≠"__name__"->mb x=bootBuiltins x
 nolimit:base.NoLimit
structure Cx where
 prog:Program
 w:World
 K:W.Frag
 mg:Str->Option Value
 base:Heap
 A:Around
 N:List Str
 s₀:Shared
 H₀:Hp
 env:Env
 outer:List Env
 stack:List Env
 ex:List Addr
 fn:Str->Bool
 calm:Bool
 pn:List (Addr×Obj)
 xe:Value->Shared->Prop
def frs (l:List Env):List Addr:=l.filterMap (·.frame)
abbrev Cx.fs (X:Cx):List Addr:=frs X.outer
def Vis (sc:Scope)(x:Str):Prop:=sc.names.lookup x=some .local\/sc.names.lookup x=some .cell\/sc.names.lookup x=some .free
def Loc (sc:Scope)(x:Str):Prop:=sc.names.lookup x=some .local\/sc.names.lookup x=some .cell
def Look (env:Env)(h:Heap)(m:Str->Option Value)(x:Str)(u:Value):Prop:=
 (env.kindOf x=some .local/\m x=some u)\/((env.kindOf x=some .cell\/env.kindOf x=some .free)/\∃c,env.cells.lookup x=some c/\h.IsCell c (some u))
structure Cx.Ok (X:Cx):Prop where
 mod:Mod X.K X.mg X.base
 kind:X.env.scope.kind= .function
 glob:X.env.globals=mainGlobals
 blt:X.env.builtins=builtinsNs
 above:X.s₀.heap.objs.size<=X.env.locals
 inj:∀x y c,X.env.cells.lookup x=some c->X.env.cells.lookup y=some c->x=y
 has:∀x,(X.env.kindOf x=some .cell\/X.env.kindOf x=some .free)->∃c,X.env.cells.lookup x=some c
 cab:∀x c,X.fn x=true->X.env.cells.lookup x=some c->X.s₀.heap.objs.size<=c
 hd:X.calm=true->X.A.handled=none
 frames:X.A.frames=some X.stack
 stk:X.stack=X.outer\/(X.stack=X.env::X.outer/\X.env.frame=some X.env.locals)
 exf:∀b∈X.ex,b≠X.env.locals/\∀x c,X.env.cells.lookup x=some c->c≠b
 bs:∀b o,X.base.get? b=some o->X.s₀.heap.get? b=some o/\X.H₀ b=none
 bsz:X.base.objs.size<=X.s₀.heap.objs.size
 noex:∀b o,X.base.get? b=some o->b∉X.ex
 exfs:∀b∈X.ex,b∉X.fs
 funs:X.s₀.heap.FunFrames X.base X.outer
 frf:∀b∈X.fs,X.H₀ b=none
structure Inv (X:Cx) (pins:List (Addr×Obj)) (σ:List (Option V)) (H:Hp) (s:Shared):Prop where
 ok:X.Ok
 os:s.os=X.s₀.os
 bare:AllBare s.gens
 base:Un X.fs X.ex X.H₀ H X.s₀.heap s.heap
 loc:∃m,s.heap.Ns X.env.locals m/\∀(i:Nat) (x:Str) (v:V),X.N[i]? =some x->σ[i]? =some (some v)->Vis X.env.scope x->∃u,RelV v u/\Look X.env s.heap m x u
 cell:∀x c,X.env.cells.lookup x=some c->∃v,s.heap.IsCell c v
 free:H X.env.locals=none
 freeC:∀x c,X.env.cells.lookup x=some c->H c=none
 pin:∀p∈X.pn++pins,s.heap.get? p.1=some p.2/\H p.1=none/\p.1≠X.env.locals/\p.1∉X.fs/\∀v,p.2.data≠ .cell v
 hok:HOk X.prog X.w H s.heap
 len:σ.length=X.N.length
section
variable {X:Cx} {pins:List (Addr×Obj)} {σ:List (Option V)} {H H':Hp} {s:Shared} {h':Heap}
theorem Cx.Ok.nofr (ok:X.Ok)(e:X.base.get? b=some o):b∉X.fs:=fun hb=>by
 have:=(ok.funs.mem hb).1;rw[e]at this;cases this
theorem Inv.bs (I:Inv X pins σ H s):∀b o,X.base.get? b=some o->s.heap.get? b=some o/\H b=none:=fun b o e=>
 ⟨I.base.keep b o (I.ok.bs b o e).1 (I.ok.bs b o e).2 (I.ok.nofr e) (I.ok.noex b o e),I.base.free b o (I.ok.bs b o e).1 (I.ok.bs b o e).2 (I.ok.noex b o e)⟩
theorem Inv.bk (I:Inv X pins σ H s):∀b o,X.base.get? b=some o->s.heap.get? b=some o:=fun b o e=>(I.bs b o e).1
theorem Inv.mod (I:Inv X pins σ H s):Mod X.K X.mg X.base:=I.ok.mod
theorem Inv.kIn (I:Inv X pins σ H s):X.K.In s.heap:=I.ok.mod.kin.keeps I.bk
theorem Inv.lt (I:Inv X pins σ H s):X.env.locals<s.heap.objs.size:=let⟨_,hn,_⟩:=I.loc;hn.lt
theorem Inv.sz (I:Inv X pins σ H s):X.s₀.heap.objs.size<=s.heap.objs.size:=qal I.ok.above (qam I.lt)
theorem Inv.nofs (I:Inv X pins σ H s)(h:s.heap.objs.size<=a):a∉X.fs:=fun hb=>by
 obtain⟨_,o,ho,_⟩:=I.ok.funs.mem hb;exact absurd (qae (qad ho) (qal I.sz h)) (qaf _)
theorem Inv.cne (I:Inv X pins σ H s):∀x c,X.env.cells.lookup x=some c->c≠X.env.locals:=fun x c e z=>by
 obtain⟨v,o,ho,hd⟩:=I.cell x c e;obtain⟨m,⟨o',es,ep,ho',hd',_⟩,_⟩:=I.loc;rw[z,ho']at ho;cases ho;rw[hd']at hd;cases hd
theorem Inv.funs (I:Inv X pins σ H s):s.heap.FunFrames X.base X.outer:=by
 have all:∀(l:List Env),(∀b∈frs l,b∈X.fs)->X.s₀.heap.FunFrames X.base l->s.heap.FunFrames X.base l:=by
  intro l
  induction l with
  |nil=>intro _ _;trivial
  |cons env r ih=>
   intro hs hl;obtain⟨hk,⟨L,o,hf,hn,ho,hd⟩,hr⟩:=hl;have hL:L∈X.fs:=hs L (by unfold frs;rw[qan,hf];exact qao);obtain⟨sl,e⟩:=I.base.slot L o ho (I.ok.frf L hL) hL fun z=>I.ok.exfs L z hL
   exact⟨hk,⟨L,_,hf,hn,e,hd⟩,ih (fun b hb=>hs b (by unfold frs;rw[qan,hf];exact qap _ hb)) hr⟩
 exact all X.outer (fun _ hb=>hb) I.ok.funs
theorem Inv.stack (I:Inv X pins σ H s):s.heap.FunFrames X.base X.stack:=by
 rcases I.ok.stk with e|⟨e,hf⟩
 ·rw[e];exact I.funs
 ·rw[e];obtain⟨m,hn,_⟩:=I.loc;refine .cons (by rw[I.ok.kind];decide) hf hn ?_ I.funs;exact Heap.get?_none_of_le (qal I.ok.bsz I.ok.above)
theorem Inv.stkSub (I:Inv X pins σ H s):∀b∈frs X.stack,b∈X.env.locals::X.fs:=fun b hb=>by
 rcases I.ok.stk with e|⟨e,hf⟩
 ·rw[e]at hb;exact qap _ hb
 ·rw[e]at hb;unfold frs at hb;rw[qan,hf]at hb;exact hb
theorem Inv.stkFree (I:Inv X pins σ H s):∀b∈frs X.stack,H b=none:=fun b hb=>by
 rcases qaq.mp (I.stkSub b hb)with e|hb
 ·rw[e];exact I.free
 ·obtain⟨_,o,ho,_⟩:=I.ok.funs.mem hb;exact I.base.free b o ho (I.ok.frf b hb) fun z=>I.ok.exfs b z hb
theorem Inv.step (I:Inv X pins σ H s)
  (hch:∀b∈ch,(b∈X.ex\/X.s₀.heap.objs.size<=b)/\b≠X.env.locals/\(∀x c,X.env.cells.lookup x=some c->c≠b)/\∀p∈X.pn++pins,p.1≠b)
  (keep:∀b o,b≠X.env.locals->b∉X.fs->b∉ch->s.heap.get? b=some o->H b=none->h'.get? b=some o)
  (slot:∀b o,b≠X.env.locals->b∈X.fs->b∉ch->s.heap.get? b=some o->H b=none->∃sl,h'.get? b=some {o with slots:=sl}) (free:∀b o,b∉ch->s.heap.get? b=some o->H b=none->H' b=none)
  (there:∀b o,b∉ch->s.heap.get? b=some o->∃o',h'.get? b=some o')
  (tups:∀b xs,H b=some (.tup xs)->H' b=some (.tup xs)) (frzs:∀b o u,H b=some (.frz o u)->H' b=some (.frz o u)) (tbls:∀b ps,H b=some (.tbl ps)->∃more,H' b=some (.tbl (ps++more)))
  (ns:∀m,s.heap.Ns X.env.locals m->h'.Ns X.env.locals m) (hok:HOk X.prog X.w H' h') (hg:AllBare g'):
  Inv X pins σ H' {s with heap:=h',gens:=g',drawn:=d',toks:=t'}:=by
 have neL:∀b o,X.s₀.heap.get? b=some o->b≠X.env.locals:=fun b o e=>qag (qae (qad e) I.ok.above)
 have neC:∀b o,X.s₀.heap.get? b=some o->b∉X.ex->b∉ch:=fun b o e hx hb=>by
  rcases(hch b hb).1 with z|z
  ·exact hx z
  ·exact absurd (qae (qad e) z) (qaf _)
 have cellK:∀x c,X.env.cells.lookup x=some c->∀v,s.heap.IsCell c v->h'.IsCell c v:=fun x c e v ⟨o,ho,hd⟩=>by
  have nch:c∉ch:=fun z=>(hch c z).2.2.1 x c e rfl
  by_cases hc:c∈X.fs
  ·obtain⟨sl,q⟩:=slot c o (I.cne x c e) hc nch ho (I.freeC x c e);exact⟨_,q,hd⟩
  ·exact⟨o,keep c o (I.cne x c e) hc nch ho (I.freeC x c e),hd⟩
 refine⟨I.ok,I.os,hg,⟨fun b o e n hb hx=>?_,fun b o e n hb hx=>?_,fun b o e n hx=>?_,fun b o e hx=>?_,fun b xs e=>tups b xs (I.base.tups b xs e),fun b o xs e=>frzs b o xs (I.base.frzs b o xs e),fun b ps e=>?_⟩,?_,fun x c e=>?_,?_,fun x c e=>?_,fun p hp=>?_,hok,I.len⟩
 ·exact keep b o (neL b o e) hb (neC b o e hx) (I.base.keep b o e n hb hx) (I.base.free b o e n hx)
 ·obtain⟨sl,e1⟩:=I.base.slot b o e n hb hx;obtain⟨sl',e2⟩:=slot b _ (neL b o e) hb (neC b o e hx) e1 (I.base.free b o e n hx);exact⟨sl',e2⟩
 ·obtain⟨o',e1⟩:=I.base.there b o e hx;exact free b o' (neC b o e hx) e1 (I.base.free b o e n hx)
 ·obtain⟨o',e1⟩:=I.base.there b o e hx;exact there b o' (neC b o e hx) e1
 ·obtain⟨m1,e1⟩:=I.base.tbls b ps e;obtain⟨m2,e2⟩:=tbls b _ e1;exact⟨m1++m2,by rw[e2,Array.append_assoc]⟩
 ·obtain⟨m,hn,hl⟩:=I.loc;refine⟨m,ns m hn,fun i x v e1 e2 e3=>?_⟩;obtain⟨u,r,l⟩:=hl i x v e1 e2 e3;refine⟨u,r,?_⟩;rcases l with l|⟨k,c,e,z⟩
  ·exact .inl l
  ·exact .inr ⟨k,c,e,cellK x c e _ z⟩
 ·obtain⟨v,z⟩:=I.cell x c e;exact⟨v,cellK x c e v z⟩
 ·obtain⟨m,⟨o,_,_,ho,_⟩,_⟩:=I.loc;exact free _ o (fun z=>(hch _ z).2.1 rfl) ho I.free
 ·obtain⟨v,o,ho,hd⟩:=I.cell x c e;exact free c o (fun z=>(hch c z).2.2.1 x c e rfl) ho (I.freeC x c e)
 ·obtain⟨e,n,ne,nf,d⟩:=I.pin p hp;have nch:p.1∉ch:=fun z=>(hch p.1 z).2.2.2 p hp rfl
  exact⟨keep p.1 p.2 ne nf nch e n,free p.1 p.2 nch e n,ne,nf,d⟩
theorem Inv.un (I:Inv X pins σ H s)(u:Un X.fs [] H H' s.heap h')(hok:HOk X.prog X.w H' h'):Inv X pins σ H' {s with heap:=h',toks:=t'}:=by
  obtain⟨m,⟨o,es,ep,ho,r⟩,_⟩:=id I.loc;obtain⟨sl,hL⟩:=u.any ho I.free (by simp);exact I.step (g':=s.gens) (d':=s.drawn) (ch:=[]) (fun _ z=>nomatch z) (fun b o _ hb _ e n=>u.keep b o e n hb (by simp)) (fun b o _ hb _ e n=>u.slot b o e n hb (by simp)) (fun b o _ e n=>u.free b o e n (by simp)) (fun b o _ e=>u.there b o e (by simp)) u.tups u.frzs u.tbls (fun m' hm=>by
    obtain⟨o',es',ep',ho',r'⟩:=hm;rw[ho]at ho';cases ho';exact⟨_,es',ep',hL,r'⟩) hok I.bare
theorem Inv.call {ch:List Addr}(I:Inv X pins σ H s)(u:Un (frs X.stack) ch H H' s.heap h')(hok:HOk X.prog X.w H' h')(hg:AllBare g')
  (hch:∀b∈ch,(b∈X.ex\/X.s₀.heap.objs.size<=b)/\b≠X.env.locals/\(∀x c,X.env.cells.lookup x=some c->c≠b)/\∀p∈X.pn++pins,p.1≠b):
  Inv X pins σ H' {s with heap:=h',gens:=g',drawn:=d',toks:=t'}:=by
 obtain⟨m,⟨o,es,ep,ho,r⟩,_⟩:=id I.loc;obtain⟨sl,hL⟩:=u.any ho I.free fun z=>(hch _ z).2.1 rfl
 exact I.step (ch:=ch) hch (fun b o hL hb hc e n=>u.keep b o e n (fun z=>(qaq.mp (I.stkSub b z)).elim hL hb) hc) (fun b o _ _ hc e n=>u.any e n hc) (fun b o hc e n=>u.free b o e n hc) (fun b o hc e=>u.there b o e hc) u.tups u.frzs u.tbls (fun m' hm=>by
  obtain⟨o',es',ep',ho',r'⟩:=hm;rw[ho]at ho';cases ho';exact⟨_,es',ep',hL,r'⟩) hok hg
theorem Inv.turned (I:Inv X pins σ H s)(k:∀b o,b≠it->s.heap.get? b=some o->h'.get? b=some o)(hn:H it=none)(hL:it≠X.env.locals)
  (h1:it∈X.ex\/X.s₀.heap.objs.size<=it) (h2:∀x c,X.env.cells.lookup x=some c->c≠it) (h3:∀p∈X.pn++pins,p.1≠it):Inv X pins σ H {s with heap:=h',toks:=t'}:=by
 have nit:∀b u,H b=some u->b≠it:=fun b u e z=>by rw[z,hn]at e;cases e
 refine I.step (g':=s.gens) (d':=s.drawn) (ch:=[it]) (fun b hb=>?_) (fun b o _ _ hc e _=>k b o (fun z=>hc (by simp[z])) e) (fun b o _ _ hc e _=>⟨o.slots,k b o (fun z=>hc (by simp[z])) e⟩) (fun _ _ _ _ n=>n)
  (fun b o hc e=>⟨o,k b o (fun z=>hc (by simp[z])) e⟩) (fun _ _ e=>e) (fun _ _ _ e=>e) (fun b ps e=>⟨#[],by rw[e];simp⟩) (fun m hm=>?_) (fun b u e=>?_) I.bare
 ·have e:b=it:=by simpa using hb
  subst e;exact⟨h1,hL,h2,h3⟩
 ·obtain⟨o,es,ep,ho,r⟩:=hm;exact⟨o,es,ep,k _ o (Ne.symm hL) ho,r⟩
 ·refine(I.hok b u e).stay (fun c v hc q=>k c v ?_ q) (fun _ q=>q) fun _ _ q=>q
  rcases hc with z|z
  ·rw[z];exact nit b u e
  ·exact nit c _ z
theorem Inv.tok (I:Inv X pins σ H s)(t:Nat):Inv X pins σ H {s with toks:=t}:=I.un (h':=s.heap) (t':=t) Un.refl I.hok
theorem Inv.kept (I:Inv X pins σ H s)(k:∀b u,s.heap.get? b=some u->h'.get? b=some u):Inv X pins σ H {s with heap:=h',toks:=t'}:=I.un (Un.kept k) (I.hok.kept k)
theorem Inv.laid {o:HO}(I:Inv X pins σ H s)(k:∀b u,s.heap.get? b=some u->h'.get? b=some u)(hp:s.heap.objs.size<=a)(new:ObjOk X.prog X.w (upd H a o) h' a o):
  Inv X pins σ (upd H a o) {s with heap:=h',toks:=t'}:=I.un (Un.laid k hp (I.hok.fresh hp)) (I.hok.laid k hp new)
theorem Inv.write {x e:Addr}{o:HO}(I:Inv X pins σ H s)(mu:Mut (H x))(he:e=x\/H e=some (.own x))(k:∀b u,b≠e->s.heap.get? b=some u->h'.get? b=some u)(heo:∃u,h'.get? e=some u)
  (new:ObjOk X.prog X.w (upd H x o) h' x o):Inv X pins σ (upd H x o) {s with heap:=h',toks:=t'}:=I.un (Un.write mu he k heo) (I.hok.write mu he k heo new)
theorem Inv.pins_of (I:Inv X pins σ H s)(h:∀p∈pins',s.heap.get? p.1=some p.2/\H p.1=none/\p.1≠X.env.locals/\p.1∉X.fs/\∀v,p.2.data≠ .cell v):Inv X pins' σ H s:=
 ⟨I.ok,I.os,I.bare,I.base,I.loc,I.cell,I.free,I.freeC,fun p hp=>(qar.mp hp).elim (fun z=>I.pin p (qas _ z)) (h p),I.hok,I.len⟩
theorem zmj (hN:N.Nodup)(a:N[i]? =some x)(b:N[j]? =some x):i=j:=by
 obtain⟨h1,e1⟩:=qat.mp a;obtain⟨h2,e2⟩:=qat.mp b;exact(qau hN).mp (e1.trans e2.symm)
theorem zpl {M:Model}{Q:Unit->Shared->Prop}(I:Inv X pins σ H s)(hN:X.N.Nodup)(hi:X.N[i]? =some x)(hx:Loc X.env.scope x)(r:RelV v u)
    (h:∀s',Inv X pins (σ.set i (some v)) H s'->(∃a,Heap.SameBut a s.heap s'.heap/\(a=X.env.locals\/X.env.cells.lookup x=some a))->Q () s') (hf:X.fn x=true\/X.env.scope.names.lookup x=some .local:=by first|exact .inl rfl|exact .inr rfl|assumption):wpAny M A (storeName X.env x u) Q E s:=by
  obtain⟨m,hn,hl⟩:=id I.loc;have hcls:(X.env.scope.kind== .class||(X.env.scope.kind== .module&&X.env.locals !=X.env.globals))=false:=by rw[I.ok.kind];rfl
  have hiσ:i<σ.length:=by rw[I.len];exact(qat.mp hi).1
  have cne:=I.cne;have tracked:∀{a:Addr} {h':Heap},(∃o,s.heap.get? a=some o/\H a=none)->Heap.SameBut a s.heap h'->HOk X.prog X.w H h':=fun{a h'} ha hs b ob e=>by
    obtain⟨_,_,hfree⟩:=ha;refine(I.hok b ob e).stay (fun c w' hc q=>(hs.2 c ?_).trans q) (fun _ q=>q) fun _ _ q=>q
    rintro rfl;rcases hc with rfl|hc
    . rw[hfree]at e;cases e
    . rw[hfree]at hc;cases hc
  rcases hx with hk|hk
  . refine wpAny_storeName_local hk hn (fun h' hn' hs=>?_) hcls
    obtain⟨oL,_,_,hoL,_⟩:=id hn;refine h _ ⟨I.ok,I.os,I.bare,⟨fun b o e n hb hx=>?_,fun b o e n hb hx=>?_,I.base.free,fun b o e hx=>?_,I.base.tups,I.base.frzs,I.base.tbls⟩,⟨_,hn',fun j y v' e1 e2 e3=>?_⟩,fun y c e=>?_,I.free,I.freeC,fun p hp=>?_,tracked ⟨oL,hoL,I.free⟩ hs,by simpa using I.len⟩ ⟨_,hs,.inl rfl⟩
    . exact(hs.2 b (qag (qae (qad e) I.ok.above))).trans (I.base.keep b o e n hb hx)
    . obtain⟨sl,e1⟩:=I.base.slot b o e n hb hx
      exact⟨sl,(hs.2 b (qag (qae (qad e) I.ok.above))).trans e1⟩
    . obtain⟨o',e1⟩:=I.base.there b o e hx
      exact⟨o',(hs.2 b (qag (qae (qad e) I.ok.above))).trans e1⟩
    . by_cases hj:j=i
      . subst hj
        rw[hi]at e1;cases e1;rw[List.getElem?_set_self hiσ]at e2;cases e2;exact⟨u,r,.inl ⟨hk,by simp⟩⟩
      . rw[qav (Ne.symm hj)]at e2
        obtain⟨u',r',q⟩:=hl j y v' e1 e2 e3;refine⟨u',r',?_⟩;rcases q with⟨k,e⟩|⟨k,c,e,z⟩
        . refine .inl ⟨k,?_⟩
          have:y≠x:=fun e=>hj (zmj hN e1 (e ▸ hi))
          simp[this,e]
        . exact .inr ⟨k,c,e,z.sameBut hs (cne y c e)⟩
    . obtain⟨w',z⟩:=I.cell y c e
      exact⟨w',z.sameBut hs (cne y c e)⟩
    . obtain⟨e,n,ne,nf,d⟩:=I.pin p hp
      exact⟨(hs.2 p.1 ne).trans e,n,ne,nf,d⟩
  . have hfn:X.fn x=true:=by
      rcases hf with z|z
      . exact z
      . rw[z]at hk;cases hk
    obtain⟨c,hc⟩:=I.ok.has x (.inl hk);obtain⟨w',z⟩:=I.cell x c hc;refine wpAny_storeName_cell I.ok.kind hk hc z (fun h' hc' hs=>?_);obtain⟨oc,hoc,hocd⟩:=id z;refine h {s with heap:=h'} ⟨I.ok,I.os,I.bare,⟨fun b o e n hb hx=>?_,fun b o e n hb hx=>?_,I.base.free,fun b o e hx=>?_,I.base.tups,I.base.frzs,I.base.tbls⟩,⟨m,hn.sameBut hs (Ne.symm (cne x c hc)),fun j y v' e1 e2 e3=>?_⟩,fun y c' e=>?_,I.free,I.freeC,fun p hp=>?_,tracked ⟨oc,hoc,I.freeC x c hc⟩ hs,by simpa using I.len⟩ ⟨c,hs,.inr hc⟩
    . exact(hs.2 b (qag (qae (qad e) (I.ok.cab x c hfn hc)))).trans (I.base.keep b o e n hb hx)
    . obtain⟨sl,e1⟩:=I.base.slot b o e n hb hx
      exact⟨sl,(hs.2 b (qag (qae (qad e) (I.ok.cab x c hfn hc)))).trans e1⟩
    . obtain⟨o',e1⟩:=I.base.there b o e hx
      exact⟨o',(hs.2 b (qag (qae (qad e) (I.ok.cab x c hfn hc)))).trans e1⟩
    . by_cases hj:j=i
      . subst hj
        rw[hi]at e1;cases e1;rw[List.getElem?_set_self hiσ]at e2;cases e2;exact⟨u,r,.inr ⟨.inl hk,c,hc,hc'⟩⟩
      . rw[qav (Ne.symm hj)]at e2
        obtain⟨u',r',q⟩:=hl j y v' e1 e2 e3;refine⟨u',r',?_⟩;rcases q with q|⟨k,c',e,z'⟩
        . exact .inl q
        . refine .inr ⟨k,c',e,z'.sameBut hs ?_⟩
          rintro rfl;exact hj (zmj hN e1 (I.ok.inj _ _ _ e hc ▸ hi))
    . by_cases hcc:c'=c
      . subst hcc;exact⟨_,hc'⟩
      . obtain⟨w2,z2⟩:=I.cell y c' e
        exact⟨w2,z2.sameBut hs hcc⟩
    . obtain⟨e,n,ne,nf,d⟩:=I.pin p hp
      refine⟨(hs.2 p.1 ?_).trans e,n,ne,nf,d⟩;intro q;rw[q,hoc]at e;have q':oc=p.2:=Option.some.inj e;exact d w' (by rw[<-q'];exact hocd)
theorem zj0 {M:Model}{Q:Unit->Shared->Prop}(I:Inv X pins σ H s)(hN:X.N.Nodup)(hi:X.N[i]? =some x)(hx:Loc X.env.scope x)(r:RelV v u)
  (h:∀s',Inv X pins (σ.set i (some v)) H s'->Q () s') (hf:X.fn x=true\/X.env.scope.names.lookup x=some .local:=by first|exact .inl rfl|exact .inr rfl|assumption):wpAny M A (storeName X.env x u) Q E s:=
 zpl I hN hi hx r (fun s' I' _=>h s' I') hf
end
abbrev XK:=Value->Option Addr->Hp->Prop
abbrev St:=List (Option V)
abbrev VK:=V->Hp->Prop
abbrev TE:=St->Hp->VK->Prop
abbrev TT:=St->Hp->(Bool->Hp->Prop)->Prop
abbrev TA:=St->Hp->(List V->Hp->Prop)->Prop
structure Ends where
 nx:St->Hp->Prop
 rt:VK
 bk:St->Hp->Prop:=fun _ _=>False
 ct:St->Hp->Prop:=fun _ _=>False
abbrev TS:=Ends->St->Hp->Prop
def EP (X:Cx)(pins:List (Addr×Obj))(σ:St)(Q:VK)(u:Value)(s':Shared):Prop:=∃v H',Inv X pins σ H' s'/\RelV v u/\Q v H'
def TP (X:Cx)(pins:List (Addr×Obj))(σ:St)(Q:Bool->Hp->Prop)(b:Bool)(s':Shared):Prop:=∃H',Inv X pins σ H' s'/\Q b H'
def AP (X:Cx)(pins:List (Addr×Obj))(σ:St)(Q:List V->Hp->Prop)(us:List Value)(s':Shared):Prop:=∃vs H',Inv X pins σ H' s'/\Vals vs us/\Q vs H'
def SP (X:Cx)(pins:List (Addr×Obj))(D:Ends)(f:Flow)(s':Shared):Prop:=
 match f with
 | .next=>∃σ' H',Inv X pins σ' H' s'/\D.nx σ' H'
 | .brk=>∃σ' H',Inv X pins σ' H' s'/\D.bk σ' H'
 | .cont=>∃σ' H',Inv X pins σ' H' s'/\D.ct σ' H'
 | .ret u=>∃v σ' H',Inv X pins σ' H' s'/\RelV v u/\D.rt v H'
def PE (X:Cx)(e:Expr)(t:TE):Prop:=
 ∀(pins:List (Addr×Obj)) (s:Shared) (σ:St) (H:Hp) (Q:VK),Inv X pins σ H s->t σ H Q->wpAny (model X.prog X.w) X.A (eval e X.env) (EP X pins σ Q) X.xe s
def PT (X:Cx)(e:Expr)(t:TT):Prop:=
 ∀(pins:List (Addr×Obj)) (s:Shared) (σ:St) (H:Hp) (Q:Bool->Hp->Prop),Inv X pins σ H s->t σ H Q->wpAny (model X.prog X.w) X.A (isTrue e X.env (eval e X.env)) (TP X pins σ Q) X.xe s
def PW (X:Cx)(e:Expr)(t:TT):Prop:=
 ∀(whole:Sem Value) (pins:List (Addr×Obj)) (s:Shared) (σ:St) (H:Hp) (Q:Bool->Hp->Prop),Inv X pins σ H s->t σ H Q->wpAny (model X.prog X.w) X.A (isTrue e X.env whole) (TP X pins σ Q) X.xe s
theorem PW.pt {t:TT}(h:PW X e t):PT X e t:=h _
def PA (X:Cx)(es:List Expr)(t:TA):Prop:=
 ∀(pos:Pos) (pins:List (Addr×Obj)) (s:Shared) (σ:St) (H:Hp) (Q:List V->Hp->Prop),Inv X pins σ H s->t σ H Q->wpAny (model X.prog X.w) X.A (spliced (backTo pos (starEach es X.env))) (AP X pins σ Q) X.xe s
def PS (X:Cx)(st:Stmt)(t:TS):Prop:=
 ∀(pins:List (Addr×Obj)) (s:Shared) (σ:St) (H:Hp) (D:Ends),Inv X pins σ H s->t D σ H->wpAny (model X.prog X.w) X.A (exec st X.env) (SP X pins D) X.xe s
def PSs (X:Cx)(st:List Stmt)(t:TS):Prop:=
 ∀(pins:List (Addr×Obj)) (s:Shared) (σ:St) (H:Hp) (D:Ends),Inv X pins σ H s->t D σ H->wpAny (model X.prog X.w) X.A (execs st X.env) (SP X pins D) X.xe s
theorem thn {α:Type}{t:Sem α}{Q Q':α->Shared->Prop}{M:Model}(h:wpAny M A t Q E s)(hQ:∀a s,Q a s->Q' a s):wpAny M A t Q' E s:=qaw h hQ fun _ _ x=>x
section
variable {X:Cx}
def tVar (i:Nat):TE:=fun σ H Q=>∃v,σ[i]? =some (some v)/\Q v H
def tC (v:V):TE:=fun _ H Q=>Q v H
theorem zb3 (hN:X.N[i]? =some x)(hv:Vis X.env.scope x)(hd:(x==("__debug__":Str))=false:=by decide)(hcd:(x==("__classdict__":Str))=false:=by decide):PE X (.Name x pos) (tVar i):=by
 intro pins s σ H Q I h;obtain⟨v,e,h⟩:=h;obtain⟨m,hn,hl⟩:=I.loc;obtain⟨u,r,l⟩:=hl i x v hN e hv;have fin:EP X pins σ Q u s:=⟨v,H,I,r,h⟩;rcases l with⟨hk,hm⟩|⟨hk,c,hc,hcell⟩
 ·exact wpAny_Name (wpAny_loadName_local I.ok.kind hk hn hm fin) hd
 ·rcases hk with hk|hk
  ·exact wpAny_Name (wpAny_loadName_cell I.ok.kind hk hc hcell fin) hd
  ·exact wpAny_Name (wpAny_loadName_free I.ok.kind hk hc hcell fin hcd) hd
theorem pe_int {i j pos}:PE X (.Constant (.int i) j pos) (tC (.int i)):=fun _ _ _ H _ I h=>wpAny_Constant_int ⟨.int i,H,I.tok _,⟨_,rfl⟩,h⟩
theorem pe_bl {b j pos}:PE X (.Constant (.bool b) j pos) (tC (.bl b)):=fun _ _ _ H _ I h=>Constant_bool ⟨.bl b,H,I,rfl,h⟩
theorem pe_non {j pos}:PE X (.Constant .none j pos) (tC .non):=fun _ _ _ H _ I h=>Constant_none ⟨.non,H,I,rfl,h⟩
theorem pe_str {x j pos}:PE X (.Constant (.str x) j pos) (tC (.str x)):=fun _ _ _ H _ I h=>Calls.Constant_str ⟨.str x,H,I.tok _,⟨_,rfl⟩,h⟩
def Gl (X:Cx)(x:Str):Prop:=X.env.kindOf x=some .globalImplicit
theorem zo3 (I:Inv X pins σ H s)(hg:Gl X x)(hm:X.mg x=some u)(h:Q u s)
  (hd:(x==("__debug__":Str))=false:=by decide):wpAny (model X.prog X.w) X.A (eval (.Name x pos) X.env) Q E s:=
 Calls.Name_function_global I.ok.kind hg (Calls.loadGlobal_global (by rw[I.ok.glob];exact I.mod.glob.keeps I.bk) hm h) hd
theorem zlb (I:Inv X pins σ H s)(hg:Gl X x)(hm:X.mg x=none)(hv:bootBuiltins x=some u)(h:Q u s)
  (hn:x≠"__name__":=by decide) (hd:(x==("__debug__":Str))=false:=by decide):wpAny (model X.prog X.w) X.A (eval (.Name x pos) X.env) Q E s:=by
 obtain⟨mb,h1,h2⟩:=I.mod.blt;exact Calls.Name_function_global I.ok.kind hg (Calls.loadGlobal_builtin (by rw[I.ok.glob];exact I.mod.glob.keeps I.bk) hm (by rw[I.ok.blt];exact h1.keeps I.bk) ((h2 x hn).trans hv) h) hd
variable {a b:Expr} {ta tb:TE} {pos:Pos}
def PC (X:Cx)(op:CmpOp)(a b:Expr)(t:TE):Prop:=
 ∀(pins:List (Addr×Obj)) (s:Shared) (σ:St) (H:Hp) (Q:VK),Inv X pins σ H s->t σ H Q->
  wpAny (model X.prog X.w) X.A (eval a X.env) (fun v s₁=>wpAny (model X.prog X.w) X.A (eval b X.env) (fun u s₂=>wpAny (model X.prog X.w) X.A (compareOp op v u) (EP X pins σ Q) X.xe s₂) X.xe s₁) X.xe s
theorem nobehind (b:Expr)(h:op≠ .In)(h2:op≠ .NotIn):behindInMarks op b=false:=by
 have e1:(op==CmpOp.In)=false:=by cases op<;>first|rfl|exact absurd rfl h
 have e2:(op==CmpOp.NotIn)=false:=by cases op<;>first|rfl|exact absurd rfl h2
 cases b<;>simp[behindInMarks,e1,e2]
def tB (t:TE):TT:=fun σ H Q=>t σ H fun x H1=>∃c,x= .bl c/\Q c H1
theorem pt_cmp (h:PC X op a b t)(h1:behindInMarks op b=false:=by first|exact nobehind _ (by decide) (by decide)|rfl):PT X (.Compare a [op] [b] pos) (tB t):=by
  intro pins s σ H Q I hw;refine wpAny_isTrue_Compare1 (thn (h pins s σ H _ I hw) fun v s1 h1=>thn h1 fun u s2 h2=>thn h2 fun c s3 ⟨x,H1,I1,r1,q1⟩=>?_) h1;obtain⟨d,rfl,q⟩:=q1;cases r1;exact qax ⟨H1,I1,q⟩
variable {tA tB':TT} {rest:List Expr}
def tAnd (t u:TT):TT:=fun σ H Q=>t σ H fun c H1=>if c=true then u σ H1 Q else Q false H1
def tOr (t u:TT):TT:=fun σ H Q=>t σ H fun c H1=>if c=true then Q true H1 else u σ H1 Q
def tNot (t:TT):TT:=fun σ H Q=>t σ H fun c H1=>Q (!c) H1
theorem pw_and1 (ha:PT X a tA):PW X (.BoolOp .And [a] pos) tA:=by
 intro wh pins s σ H Q I h;refine isTrue_and (thn (ha pins s σ H Q I h) fun c s1 e=>?_);cases c with
 |true=>exact isTrue_and_nil e
 |false=>exact e
theorem pw_or1 (ha:PT X a tA):PW X (.BoolOp .Or [a] pos) tA:=by
 intro wh pins s σ H Q I h;refine isTrue_or (thn (ha pins s σ H Q I h) fun c s1 e=>?_);cases c with
 |false=>exact isTrue_or_nil e
 |true=>exact e
theorem pw_and (ha:PT X a tA)(hb:PW X (.BoolOp .And (b::rest) pos) tB'):PW X (.BoolOp .And (a::b::rest) pos) (tAnd tA tB'):=by
 intro wh pins s σ H Q I h;refine isTrue_and (thn (ha pins s σ H _ I h) fun c s1 ⟨H1,I1,q1⟩=>?_);cases c with
 |true=>exact hb wh pins s1 σ H1 Q I1 q1
 |false=>exact⟨H1,I1,q1⟩
theorem pw_or (ha:PT X a tA)(hb:PW X (.BoolOp .Or (b::rest) pos) tB'):PW X (.BoolOp .Or (a::b::rest) pos) (tOr tA tB'):=by
 intro wh pins s σ H Q I h;refine isTrue_or (thn (ha pins s σ H _ I h) fun c s1 ⟨H1,I1,q1⟩=>?_);cases c with
 |true=>exact⟨H1,I1,q1⟩
 |false=>exact hb wh pins s1 σ H1 Q I1 q1
theorem pt_not (ha:PT X a tA):PT X (.UnaryOp .Not a pos) (tNot tA):=by
 intro pins s σ H Q I h;exact isTrue_not (ha pins s σ H (fun c H1=>Q (!c) H1) I h)
def tAndV (ta tb:TE):TE:=fun σ H Q=>ta σ H fun x H1=>∃c,x= .bl c/\if c=true then tb σ H1 Q else Q (.bl false) H1
def tNotV (ta:TE):TE:=fun σ H Q=>ta σ H fun x H1=>∃c,x= .bl c/\Q (.bl (!c)) H1
theorem pe_one {op}(h:PE X a t):PE X (.BoolOp op [a] pos) t:=fun pins s σ H Q I hw=>BoolOp_one (h pins s σ H Q I hw)
theorem pe_and (ha:PE X a ta)(hb:PE X (.BoolOp .And (b::rest) pos) tb):PE X (.BoolOp .And (a::b::rest) pos) (tAndV ta tb):=by
 intro pins s σ H Q I h;refine BoolOp_and (thn (ha pins s σ H _ I h) fun v s1 ⟨x,H1,I1,r1,q1⟩=>?_);obtain⟨c,rfl,q1⟩:=q1;cases r1;refine qax ?_;cases c with
 |true=>exact hb pins s1 σ H1 Q I1 q1
 |false=>exact⟨.bl false,H1,I1,rfl,q1⟩
theorem pe_not (ha:PE X a ta):PE X (.UnaryOp .Not a pos) (tNotV ta):=by
 intro pins s σ H Q I h;refine UnaryOp_ (thn (ha pins s σ H _ I h) fun v s1 ⟨x,H1,I1,r1,q1⟩=>?_);obtain⟨c,rfl,q1⟩:=q1;cases r1;exact not_of (qax ⟨.bl (!c),H1,I1,rfl,q1⟩)
def tIf (t:TT)(ta tb:TE):TE:=fun σ H Q=>t σ H fun c H1=>if c=true then ta σ H1 Q else tb σ H1 Q
theorem pe_ifExp (hc:PT X c tA)(ha:PE X a ta)(hb:PE X b tb):PE X (.IfExp c a b pos) (tIf tA ta tb):=by
 intro pins s σ H Q I h;refine wpAny_IfExp (thn (hc pins s σ H _ I h) fun d s1 ⟨H1,I1,q1⟩=>?_);cases d with
 |true=>exact ha pins s1 σ H1 Q I1 q1
 |false=>exact hb pins s1 σ H1 Q I1 q1
end
def SqL (K:W.Frag)(H:Hp)(a:Addr)(xs:List V):Prop:=
 Rd H a (.lst xs)\/
  ∃(o:Obj) (its:Array Value) (n:Nat),K.lookup a=some o/\o.cls= .type "list"/\o.dict=none/\o.data= .seq its n/\its.size<=sizeLine/\Vals xs its.toList
def SqT (K:W.Frag)(H:Hp)(a:Addr)(xs:List V):Prop:=
 Rd H a (.tup xs)\/
  ∃(o:Obj) (its:Array Value) (n:Nat),K.lookup a=some o/\o.cls= .type "tuple"/\o.data= .seq its n/\its.size<=sizeLine/\Vals xs its.toList
def absV:Value->Option V
 | .none=>some .non
 | .bool b=>some (.bl b)
 | .int i _=>some (.int i)
 | .str x _=>some (.str x)
 | .bytes b _=>some (.byt b)
 | .float b _=>some (.flt b)
 | .ref a=>some (.ref a)
 | .type n=>some (.ty n)
 |_=>none
theorem RelV.abs {x:V}(r:RelV x u):absV u=some x:=by
 cases x with
 |non=>cases r;rfl
 |bl _=>cases r;rfl
 |int _=>obtain⟨t,rfl⟩:=r;rfl
 |str _=>obtain⟨t,rfl⟩:=r;rfl
 |byt _=>obtain⟨t,rfl⟩:=r;rfl
 |flt _=>obtain⟨t,rfl⟩:=r;rfl
 |ref _=>cases r;rfl
 |ty _=>cases r;rfl
theorem RelV.inj {x y:V}(r:RelV x u)(q:RelV y u):x=y:=Option.some.inj (r.abs.symm.trans q.abs)
theorem Vals.inj:∀{xs ys:List V} {us:List Value},Vals xs us->Vals ys us->xs=ys
 |_,_,_,.nil,.nil=>rfl
 |_,_,_,.cons r t,.cons r' t'=>by rw[r.inj r',Vals.inj t t']
section
variable {X:Cx} {pins:List (Addr×Obj)} {σ:St} {H:Hp} {s:Shared} {a:Addr} {xs ys:List V}
theorem SqL.of (h:H a=some (.lst xs)):SqL K H a xs:= .inl (.inl h)
theorem SqT.of (h:H a=some (.tup xs)):SqT K H a xs:= .inl (.inl h)
theorem Inv.list (I:Inv X pins σ H s)(h:SqL X.K H a xs):∃its:List Value,Vals xs its/\PlainL s.heap a its.toArray/\xs.length<=sizeLine:=by
 rcases h with h|⟨o,its,n,hk,hc,hd,hs,hz,r⟩
 ·obtain⟨z,its,n,r,e⟩:=h.ok I.hok;exact⟨its,r,⟨_,n,e,rfl,rfl,rfl⟩,z⟩
 ·refine⟨its.toList,r,⟨o,n,I.kIn a o hk,hc,hd,by simpa using hs⟩,?_⟩;have e:=r.length;simp only[qay]at e;lia
theorem Inv.tuple (I:Inv X pins σ H s)(h:SqT X.K H a xs):∃its:List Value,Vals xs its/\IsTup s.heap a its.toArray/\xs.length<=sizeLine:=by
 rcases h with h|⟨o,its,n,hk,hc,hs,hz,r⟩
 ·obtain⟨z,its,r,p⟩:=h.ok I.hok;exact⟨its,r,p,z⟩
 ·refine⟨its.toList,r,⟨o,I.kIn a o hk,hc,n,by simpa using hs⟩,?_⟩;have e:=r.length;simp only[qay]at e;lia
theorem Inv.list_inj (I:Inv X pins σ H s)(h:SqL X.K H a xs)(h':SqL X.K H a ys):xs=ys:=by
 obtain⟨its,r,⟨o,n,e,_,_,d⟩,_⟩:=I.list h;obtain⟨its',r',⟨o',n',e',_,_,d'⟩,_⟩:=I.list h';rw[e]at e';cases e';rw[d]at d';injection d' with d1 _
 have:its=its':=by simpa using congrArg Array.toList d1
 subst this;exact r.inj r'
theorem Inv.tuple_inj (I:Inv X pins σ H s)(h:SqT X.K H a xs)(h':SqT X.K H a ys):xs=ys:=by
 obtain⟨its,r,⟨o,e,_,n,d⟩,_⟩:=I.tuple h;obtain⟨its',r',⟨o',e',_,n',d'⟩,_⟩:=I.tuple h';rw[e]at e';cases e';rw[d]at d';injection d' with d1 _
 have:its=its':=by simpa using congrArg Array.toList d1
 subst this;exact r.inj r'
end
abbrev Cx.wish (X:Cx)(E:Value->Shared->Prop):Cx:={X with xe:=E}
abbrev Cx.nox (X:Cx):Cx:=X.wish fun _ _=>False
theorem Cx.Ok.wish (ok:X.Ok)(E:Value->Shared->Prop):(X.wish E).Ok:=
 ⟨ok.mod,ok.kind,ok.glob,ok.blt,ok.above,ok.inj,ok.has,ok.cab,ok.hd,ok.frames,ok.stk,ok.exf,ok.bs,ok.bsz,ok.noex,ok.exfs,ok.funs,ok.frf⟩
theorem Cx.Ok.unwish (ok:(X.wish E).Ok):X.Ok:=
 ⟨ok.mod,ok.kind,ok.glob,ok.blt,ok.above,ok.inj,ok.has,ok.cab,ok.hd,ok.frames,ok.stk,ok.exf,ok.bs,ok.bsz,ok.noex,ok.exfs,ok.funs,ok.frf⟩
section
variable {X:Cx} {pins:List (Addr×Obj)} {σ:St} {H:Hp} {s:Shared} {E:Value->Shared->Prop}
theorem Inv.wish (I:Inv X pins σ H s)(E:Value->Shared->Prop):Inv (X.wish E) pins σ H s:=⟨I.ok.wish E,I.os,I.bare,I.base,I.loc,I.cell,I.free,I.freeC,I.pin,I.hok,I.len⟩
theorem Inv.unwish (I:Inv (X.wish E) pins σ H s):Inv X pins σ H s:=⟨I.ok.unwish,I.os,I.bare,I.base,I.loc,I.cell,I.free,I.freeC,I.pin,I.hok,I.len⟩
theorem SP.unwish {D:Ends}{f:Flow}(h:SP (X.wish E) pins D f s'):SP X pins D f s':=by
 cases f with
 |next=>obtain⟨σ',H',I,q⟩:=h;exact⟨σ',H',I.unwish,q⟩
 |brk=>obtain⟨σ',H',I,q⟩:=h;exact⟨σ',H',I.unwish,q⟩
 |cont=>obtain⟨σ',H',I,q⟩:=h;exact⟨σ',H',I.unwish,q⟩
 |ret u=>obtain⟨v,σ',H',I,r,q⟩:=h;exact⟨v,σ',H',I.unwish,r,q⟩
theorem PSs.nox {st:List Stmt}{t:TS}(h:PSs X.nox st t):PSs X st t:=fun pins s σ H D I hw=>
 qaw (h pins s σ H D (I.wish _) hw) (fun _ _ q=>q.unwish) fun _ _ z=>False.elim z
end
section
variable {X:Cx} {st:Stmt} {rest:List Stmt} {t u:TS} {e:Expr} {te:TE} {pos:Pos}
def tNext:TS:=fun D σ H=>D.nx σ H
def tSeq (t u:TS):TS:=fun D σ H=>t {D with nx:=u D} σ H
theorem pss_nil:PSs X [] tNext:=fun _ _ σ H _ I h=>qaz ⟨σ,H,I,h⟩
theorem pss_cons (h1:PS X st t)(h2:PSs X rest u):PSs X (st::rest) (tSeq t u):=by
 intro pins s σ H D I h;refine wpAny_execs_cons (thn (h1 pins s σ H {D with nx:=u D} I h) fun f s1 q=>?_);cases f with
 |next=>
  obtain⟨σ',H',I',q⟩:=q;exact h2 pins s1 σ' H' D I' q
 |ret v=>exact q
 |brk=>exact q
 |cont=>exact q
theorem pss_one (h1:PS X st t):PSs X [st] t:=by
 intro pins s σ H D I h;refine wpAny_execs_cons (thn (h1 pins s σ H D I h) fun f s1 q=>?_);cases f with
 |next=>exact qaz q
 |ret v=>exact q
 |brk=>exact q
 |cont=>exact q
theorem Inv.quiet (I:Inv X pins σ H s):interactive X.env=false:=by simp[interactive,I.ok.kind]
def tDrop (te:TE):TS:=fun D σ H=>te σ H fun _ H1=>D.nx σ H1
theorem zlp (he:PE X e te)(hs:swapsWith e none pos.line X.env=pure false:=by rfl):PS X (.Expr e pos) (tDrop te):=by
 intro pins s σ H D I h;exact wpAny_Expr_any (thn (he pins s σ H _ I h) fun v s1 ⟨x,H1,I1,r1,q1⟩=>⟨σ,H1,I1,q1⟩) I.quiet hs
def tRet (te:TE):TS:=fun D σ H=>te σ H D.rt
theorem zpK (he:PE X e te):PS X (.Return (some e) pos) (tRet te):=by
 intro pins s σ H D I h;exact wpAny_Return_some (thn (he pins s σ H _ I h) fun v s1 ⟨x,H1,I1,r1,q1⟩=>⟨x,σ,H1,I1,r1,q1⟩)
def tIfS (c:TT)(t u:TS):TS:=fun D σ H=>c σ H fun b H1=>if b=true then t D σ H1 else u D σ H1
theorem ps_if {a b:List Stmt}(hc:PT X c tc)(ha:PSs X a t)(hb:PSs X b u):PS X (.If c a b pos) (tIfS tc t u):=by
 intro pins s σ H D I h;refine wpAny_If (thn (hc pins s σ H _ I h) fun d s1 ⟨H1,I1,q1⟩=>?_);cases d with
 |true=>exact ha pins s1 σ H1 D I1 q1
 |false=>exact hb pins s1 σ H1 D I1 q1
end
abbrev TG:=V->St->Hp->(St->Hp->Prop)->Prop
abbrev TGs:=List V->St->Hp->(St->Hp->Prop)->Prop
def PG (X:Cx)(target:Expr)(t:TG):Prop:=
 ∀(pins:List (Addr×Obj)) (s:Shared) (σ:St) (H:Hp) (v:V) (u:Value) (Q:St->Hp->Prop),Inv X pins σ H s->RelV v u->t v σ H Q->
  wpAny (model X.prog X.w) X.A (assign target X.env u) (fun _ s'=>∃σ' H',Inv X pins σ' H' s'/\Q σ' H') X.xe s
def PGs (X:Cx)(ts:List Expr)(t:TGs):Prop:=
 ∀(pins:List (Addr×Obj)) (s:Shared) (σ:St) (H:Hp) (vs:List V) (us:List Value) (Q:St->Hp->Prop),Inv X pins σ H s->Vals vs us->t vs σ H Q->
  wpAny (model X.prog X.w) X.A (assignInOrder ((assignEach ts X.env).map (·.2)) us) (fun _ s'=>∃σ' H',Inv X pins σ' H' s'/\Q σ' H') X.xe s
abbrev TSet:=V->V->V->Hp->(Hp->Prop)->Prop
def PSet (X:Cx)(t:TSet):Prop:=
 ∀(pins:List (Addr×Obj)) (s:Shared) (σ:St) (H:Hp) (o i v:V) (ov iv u:Value) (Q:Hp->Prop),Inv X pins σ H s->RelV o ov->RelV i iv->RelV v u->t o i v H Q->
  wpAny (model X.prog X.w) X.A (setItem ov iv u) (fun _ s'=>∃H',Inv X pins σ H' s'/\Q H') X.xe s
abbrev TIp:=V->V->Hp->VK->Prop
def PIp (X:Cx)(op:Operator)(t:TIp):Prop:=
 ∀(pins:List (Addr×Obj)) (s:Shared) (σ:St) (H:Hp) (x y:V) (v u:Value) (Q:VK),Inv X pins σ H s->RelV x v->RelV y u->t x y H Q->
  wpAny (model X.prog X.w) X.A (inplaceOp op v u) (EP X pins σ Q) X.xe s
section
variable {X:Cx} {pos:Pos}
def gName (i:Nat):TG:=fun v σ H Q=>Q (σ.set i (some v)) H
theorem zo0 (hN:X.N.Nodup)(hi:X.N[i]? =some x)(hx:Loc X.env.scope x)(hf:X.fn x=true\/X.env.scope.names.lookup x=some .local:=by first|exact .inl rfl|exact .inr rfl|assumption):PG X (.Name x pos) (gName i):=by
  intro pins s σ H v u Q I r h;exact wpAny_assign_Name (zj0 I hN hi hx r (fun s' I'=>⟨_,H,I',h⟩) hf)
def gNil:TGs:=fun vs σ H Q=>vs=[]/\Q σ H
def gCons (t:TG)(u:TGs):TGs:=fun vs σ H Q=>∃v r,vs=v::r/\t v σ H fun σ' H'=>u r σ' H' Q
theorem pgs_nil:PGs X [] gNil:=by
 intro pins s σ H vs us Q I r h;obtain⟨e,h⟩:=h;subst e;cases r;exact assignInOrder_nil ⟨σ,H,I,h⟩
theorem pgs_cons {t:TG}{u:TGs}(h1:PG X e t)(h2:PGs X es u)
  (hs:(assignEach (e::es) X.env).map (·.2)=assign e X.env::(assignEach es X.env).map (·.2):=by rfl):PGs X (e::es) (gCons t u):=by
 intro pins s σ H vs us Q I r h;obtain⟨v,vr,e1,h⟩:=h;subst e1;cases r with
 |cons r rr=>
  rw[hs];refine assignInOrder_cons (thn (h1 pins s σ H _ _ _ I r h) fun _ s1 ⟨σ1,H1,I1,q1⟩=>?_);exact h2 pins s1 σ1 H1 _ _ Q I1 rr q1
def gTup (K:W.Frag)(n:Nat)(t:TGs):TG:=fun v σ H Q=>∃a xs,v= .ref a/\SqT K H a xs/\xs.length=n/\t xs σ H Q
theorem pg_tup {t:TGs}(hc:X.calm=true)(h:PGs X es t)
  (hn:(assignEach es X.env).length=n:=by rfl) (hst:(assignEach es X.env).findIdx? (·.1)=none:=by rfl):PG X (.Tuple es k pos) (gTup X.K n t):=by
 intro pins s σ H v u Q I r hw;obtain⟨a,xs,e1,hq,hl,hw⟩:=hw;subst e1;cases r;obtain⟨its,rv,ht,hz⟩:=I.tuple hq;refine assign_Tuple_tuple (I.ok.hd hc) ht (by simp[hn,<-hl,rv.length]) hst fun h' hx=>?_
 have I1:Inv X pins σ H {s with heap:=h'}:=I.kept (t':=s.toks) fun b o e=>hx b o (qag (qad e)) e
 exact h pins _ σ H xs _ Q I1 (by simpa using rv) hw
def gSub (to ti:TE)(t:TSet):TG:=fun v σ H Q=>to σ H fun o H1=>ti σ H1 fun i H2=>t o i v H2 fun H3=>Q σ H3
theorem pg_sub {o i:Expr}{to ti:TE}{t:TSet}(ho:PE X o to)(hi:PE X i ti)(hs:PSet X t)
    (ha : ∀ v, assign (.Subscript o i pos) X.env v = (do
      let ov<-holding [v] (eval o X.env)
      let iv<-holding [v,ov] (eval i X.env)
      standAt pos
      holding [v,ov,iv] (setItem ov iv v)
      release [v,ov,iv] []):=by intro _;rfl):PG X (.Subscript o i pos) (gSub to ti t):=by
  intro pins s σ H v u Q I r h;rw[ha];refine qaA (qaB (thn (ho pins s σ H _ I h) fun ov s1 ⟨x,H1,I1,r1,q1⟩=>?_));refine qaA (qaB (thn (hi pins s1 σ H1 _ I1 q1) fun iv s2 ⟨y,H2,I2,r2,q2⟩=>?_));refine qaA (wpAny_standAt (qaA (qaB (thn (hs pins s2 σ H2 x y v ov iv u _ I2 r1 r2 r q2) fun _ s3 ⟨H3,I3,q3⟩=>?_))));exact wpAny_release ⟨σ,H3,I3,q3⟩
def tAsg (te:TE)(g:TG):TS:=fun D σ H=>te σ H fun x H1=>g x σ H1 D.nx
theorem zob {g:TG}(he:PE X e te)(hg:PG X tg g)(hs:swapsWithSole [tg] e pos.line X.env=pure false:=by rfl)(hw:swappedStores [tg] e X.env=pure none:=by rfl)
  (h1:(assignEach [tg] X.env).map (·.2)=[assign tg X.env]:=by rfl):PS X (.Assign [tg] e pos) (tAsg te g):=by
 intro pins s σ H D I h;refine wpAny_Assign_stores (thn (he pins s σ H _ I h) fun v s1 ⟨x,H1,I1,r1,q1⟩=>?_) hs hw;rw[h1];exact thn (hg pins s1 σ H1 x v _ I1 r1 q1) fun _ s2 q=>q
theorem znT (hN:X.N.Nodup)(hi:X.N[i]? =some x)(hx:Loc X.env.scope x)(he:PE X e te)(hs:swapsWith e (some (.Name x pos')) pos.line X.env=pure false:=by rfl)(hf:X.fn x=true\/X.env.scope.names.lookup x=some .local:=by first|exact .inl rfl|exact .inr rfl|assumption):
  PS X (.Assign [.Name x pos'] e pos) (tAsg te (gName i)):=by
 intro pins s σ H D I h;refine wpAny_Assign_Name (thn (he pins s σ H _ I h) fun v s1 ⟨y,H1,I1,r1,q1⟩=>?_) hs;exact zj0 I1 hN hi hx r1 (fun s2 I2=>⟨_,H1,I2,q1⟩) hf
def tAug (i:Nat)(te:TE)(ti:TIp):TS:=fun D σ H=>∃x,σ[i]? =some (some x)/\te σ H fun y H1=>ti x y H1 fun z H2=>D.nx (σ.set i (some z)) H2
theorem ps_aug {op:Operator}{ti:TIp}(hN:X.N.Nodup)(hi:X.N[i]? =some x)(hx:Loc X.env.scope x)(he:PE X e te)(ho:PIp X op ti)(hf:X.fn x=true\/X.env.scope.names.lookup x=some .local:=by first|exact .inl rfl|exact .inr rfl|assumption):
  PS X (.AugAssign (.Name x pos') op e pos) (tAug i te ti):=by
 intro pins s σ H D I h;obtain⟨v,e1,h⟩:=h;obtain⟨m,hn,hl⟩:=I.loc;have vis:Vis X.env.scope x:=by rcases hx with k|k;exact .inl k;exact .inr (.inl k)
 obtain⟨u,r,l⟩:=hl i x v hi e1 vis;refine wpAny_AugAssign_Name ?_;have go:wpAny (model X.prog X.w) X.A (eval e X.env) (fun w s₂=>wpAny (model X.prog X.w) X.A (inplaceOp op u w) (fun r s₃=>wpAny (model X.prog X.w) X.A (storeName X.env x r) (fun _=>SP X pins D .next) X.xe s₃) X.xe s₂) X.xe s:=by
  refine thn (he pins s σ H _ I h) fun w s1 ⟨y,H1,I1,r1,q1⟩=>?_
  refine thn (ho pins s1 σ H1 v y u w _ I1 r r1 q1) fun z s2 ⟨zv,H2,I2,r2,q2⟩=>?_
  exact zj0 I2 hN hi hx r2 (fun s3 I3=>⟨_,H2,I3,q2⟩) hf
 rcases l with⟨hk,hm⟩|⟨hk,c,hc,hcell⟩
 ·exact wpAny_loadName_local I.ok.kind hk hn hm go
 ·rcases hk with hk|hk
  ·exact wpAny_loadName_cell I.ok.kind hk hc hcell go
  ·rcases hx with k|k
   ·have:X.env.scope.names.lookup x=some .free:=hk;rw[k]at this;cases this
   ·have:X.env.scope.names.lookup x=some .free:=hk;rw[k]at this;cases this
def ipI (f:Int->Int->Int):TIp:=fun x y H Q=>∃i j,x= .int i/\y= .int j/\Q (.int (f i j)) H
theorem ip_add:PIp X .Add (ipI fun i j=>i+j):=by
 intro pins s σ H x y v u Q I r1 r2 h;obtain⟨i,j,e1,e2,q⟩:=h;subst e1;subst e2;obtain⟨t,rfl⟩:=r1;obtain⟨t',rfl⟩:=r2;exact iadd_int ⟨.int _,H,I.tok _,⟨_,rfl⟩,q⟩
end
section
variable {X:Cx} {pos:Pos}
def tWhile (c:TT)(tb:TS):TS:=fun D σ H=>∃W:Nat->St->Hp->Prop,(∃m,W m σ H)/\∀m σ H,W m σ H->
 c σ H fun b H1=>if b=true then ∃N:St->Hp->Prop,(∀σ' H',N σ' H'->∃m',m'<m/\W m' σ' H')/\tb {D with nx:=N,ct:=N,bk:=D.nx} σ H1 else D.nx σ H1
theorem ps_while {tb:TS}(hp:PassesOwn (model X.prog X.w) X.A X.env X.xe)(hc:PT X c tc)(hb:PSs X body tb):PS X (.While c body [] pos) (tWhile tc tb):=by
 intro pins s σ H D I h;obtain⟨W,⟨m0,w0⟩,turn⟩:=h;refine wpAny_While (codeAny_whileLoop (fun n s'=>∃σ' H',Inv X pins σ' H' s'/\W n σ' H') ?_ m0 ⟨σ,H,I,w0⟩);rintro n s1 ⟨σ1,H1,I1,w1⟩;refine qaC hp (thn (hc pins s1 σ1 H1 _ I1 (turn n σ1 H1 w1)) fun b s2 ⟨H2,I2,q2⟩=>?_);cases b with
 |true=>
  obtain⟨N,hN,q2⟩:=q2;rw[if_pos rfl];refine qaC hp (thn (hb pins s2 σ1 H2 _ I2 q2) fun f s3 q3=>?_);cases f with
  |next=>
   obtain⟨σ3,H3,I3,n3⟩:=q3;obtain⟨m',hm,w3⟩:=hN σ3 H3 n3;exact⟨m',hm,σ3,H3,I3,w3⟩
  |cont=>
   obtain⟨σ3,H3,I3,n3⟩:=q3;obtain⟨m',hm,w3⟩:=hN σ3 H3 n3;exact⟨m',hm,σ3,H3,I3,w3⟩
  |brk=>exact q3
  |ret v=>exact q3
 |false=>
  rw[if_neg qaD];exact qaz ⟨σ1,H2,I2,q2⟩
end
structure It where
 go:Nat->Hp->Prop
 yld:Nat->Hp->V->Hp->Prop
 stop:Nat->Hp->Prop
def FpOk (X:Cx)(pins:List (Addr×Obj))(H:Hp)(b:Addr):Prop:=
 H b=none/\b≠X.env.locals/\b∉X.fs/\(b∈X.ex\/X.s₀.heap.objs.size<=b)/\(∀x c,X.env.cells.lookup x=some c->c≠b)/\∀p∈X.pn++pins,p.1≠b
theorem Inv.fpOk {H H':Hp}(I:Inv X pins σ H s)(hb:s.heap.objs.size<=b)(hn:H' b=none):FpOk X pins H' b:=by
 refine⟨hn,Nat.ne_of_gt (qae I.lt hb),I.nofs hb,.inr (qal I.sz hb),fun x c e z=>?_,fun p hp z=>?_⟩
 ·obtain⟨v,q⟩:=I.cell x c e;exact absurd (qae q.lt (by rw[z];exact hb)) (qaf _)
 ·exact absurd (qae (qad (I.pin p hp).1) (by rw[z];exact hb)) (qaf _)
structure Turn (P:Program) (w:World) (K:W.Frag) (tg:Expr) (J:It) (fp:List Addr) (it:Addr) (tn:Nat->Heap->Prop):Prop where
 mem:it∈fp
 obj:∀i h,tn i h->∀b∈fp,∃o,h.get? b=some o/\∀v,o.data≠ .cell v
 keep:∀i h h',tn i h->(∀b∈fp,∀o,h.get? b=some o->h'.get? b=some o)->tn i h'
 item:∀(X:Cx),X.prog=P->X.w=w->X.K=K->X.calm=true->∀(i:Nat) (pins:List (Addr×Obj)) (s:Shared) (σ:St) (H:Hp) (E:Value->Shared->Prop),Inv X pins σ H s->(∀b∈fp,FpOk X pins H b)->tn i s.heap->J.go i H->
  wpAny (model P w) X.A (pyNext (.ref it)) (fun r s1=>∃u,r=some u/\
   wpAny (model P w) X.A (letOwnedTupleGo tg (.ref it) u) (fun _ s2=>∃x H',Inv X pins σ H' s2/\RelV x u/\J.yld i H x H'/\tn (i+1) s2.heap/\∀b∈fp,H' b=none) E s1) E s
 done:∀(X:Cx),X.prog=P->X.w=w->X.K=K->X.calm=true->∀(i:Nat) (pins:List (Addr×Obj)) (s:Shared) (σ:St) (H:Hp) (E:Value->Shared->Prop),Inv X pins σ H s->(∀b∈fp,FpOk X pins H b)->tn i s.heap->J.stop i H->
  wpAny (model P w) X.A (pyNext (.ref it)) (fun r s1=>r=none/\Inv X pins σ H s1) E s
 self:∀(A:Around) (i:Nat) (s:Shared) (Q:Value->Shared->Prop) (E:Value->Shared->Prop),tn i s.heap->Q (.ref it) s->wpAny (model P w) A (pyIter (.ref it)) Q E s
abbrev TI:=St->Hp->(It->Hp->Prop)->Prop
def PIE (X:Cx)(pins:List (Addr×Obj))(σ:St)(tg:Expr)(R:It->Hp->Prop)(itv:Value)(s2:Shared):Prop:=
 ∃(it:Addr) (fp:List Addr) (tn:Nat->Heap->Prop) (J:It) (H':Hp),itv= .ref it/\Inv X pins σ H' s2/\Turn X.prog X.w X.K tg J fp it tn/\tn 0 s2.heap/\(∀b∈fp,FpOk X pins H' b)/\R J H'
def PI (X:Cx)(tg iter:Expr)(wi:TI):Prop:=
 ∀(pins:List (Addr×Obj)) (s:Shared) (σ:St) (H:Hp) (R:It->Hp->Prop),Inv X pins σ H s->wi σ H R->
  wpAny (model X.prog X.w) X.A (eval iter X.env) (fun v s1=>wpAny (model X.prog X.w) X.A (pyIter v) (PIE X pins σ tg R) X.xe s1) X.xe s
theorem go_of {M:Model}{n:String}{vs:Array Value}{Q:Unit->Shared->Prop}(ho:s.heap.get? it=some o)(hc:o.cls= .type n)(hd:o.data= .fields vs)
    (hn:["enumerate","zip","dict_itemiterator","dict_reverseitemiterator","odict_iterator","itertools.zip_longest","itertools.pairwise"].contains n=false) (hQ:Q () s):wpAny M A (letOwnedTupleGo tg (.ref it) u) Q E s:=by
  unfold letOwnedTupleGo;cases tg<;>first
    |exact qaE hQ
    | (cases u <;> first
        |exact qaE hQ
        | (refine qaA (wpAny_load ho ?_)
           rw[hc,hd];show wpAny M A (if(["enumerate","zip","dict_itemiterator","dict_reverseitemiterator","odict_iterator","itertools.zip_longest","itertools.pairwise"].contains n&&vs[0]? ==some (rawInt _))=true then _ else _) Q E s;rw[if_neg (by intro h;rw[hn,Bool.false_and]at h;cases h)];exact qaE hQ))
def Itl (K:W.Frag)(a:Addr):It:=
 ⟨fun i H=>∃xs x,SqL K H a xs/\xs[i]? =some x,fun i H x H'=>H'=H/\∀xs,SqL K H a xs->xs[i]? =some x,fun i H=>∃xs,SqL K H a xs/\xs.length<=i⟩
def Itt (K:W.Frag)(a:Addr):It:=
 ⟨fun i H=>∃xs x,SqT K H a xs/\xs[i]? =some x,fun i H x H'=>H'=H/\∀xs,SqT K H a xs->xs[i]? =some x,fun i H=>∃xs,SqT K H a xs/\xs.length<=i⟩
def Itr (lo:Int)(n:Nat):It:=⟨fun i _=>i<n,fun i H x H'=>H'=H/\x= .int (lo+i),fun i _=>n<=i⟩
theorem zoQ {P:Program}(a it:Addr):Turn P w K tg (Itl K a) [it] it (fun i h=>h.IsListIter it a i) where
 mem:=by simp
 obj:=fun i h st b hb=>by
  have e:b=it:=by simpa using hb
  subst e;obtain⟨o,e,c,d⟩:=st;exact⟨o,e,fun v z=>by rw[d]at z;cases z⟩
 keep:=fun i h h' st k=>st.at fun o e=>k it (by simp) o e
 item:=by
  intro X hP hw hK hc i pins s σ H E I hf st hg;subst hP hw hK;obtain⟨xs,x,hq,hx⟩:=hg;obtain⟨its,rv,p,hz⟩:=I.list hq;obtain⟨u,hu,ru⟩:=rv.get hx;obtain⟨f0,f1,f2,f3,f4,f5⟩:=hf it (by simp);refine wpAny_pyNext_list_item st p.isList (x:=u) (by simpa using hu) fun h' st' sb=>?_
  have I1:Inv X pins σ H {s with heap:=h'}:=I.turned (t':=s.toks) (fun b o hb e=>(sb.2 b hb).trans e) f0 f1 f3 f4 f5;obtain⟨o,e,c,d⟩:=id st';exact⟨u,rfl,go_of (s:={s with heap:=h'}) e c d (by decide) ⟨x,H,I1,ru,⟨rfl,fun ys hy=>by rw[I.list_inj hy hq];exact hx⟩,st',fun b hb=>(hf b hb).1⟩⟩
 done:=by
  intro X hP hw hK hc i pins s σ H E I hf st hg;subst hP hw hK;obtain⟨xs,hq,hx⟩:=hg;obtain⟨its,rv,p,hz⟩:=I.list hq;obtain⟨f0,f1,f2,f3,f4,f5⟩:=hf it (by simp);have hl:=rv.length;exact wpAny_pyNext_list_end (I.ok.hd hc) st p.isList (by simp;lia) fun h' eb=>⟨rfl,I.turned (t':=s.toks) (fun b o hb e=>eb b o hb e) f0 f1 f3 f4 f5⟩
 self:=fun _ _ _ _ _ st h=>wpAny_pyIter_listiter st h
theorem znF {P:Program}(a it:Addr):Turn P w K tg (Itt K a) [it] it (fun i h=>h.IsTupleIter it a i) where
 mem:=by simp
 obj:=fun i h st b hb=>by
  have e:b=it:=by simpa using hb
  subst e;obtain⟨o,e,c,d⟩:=st;exact⟨o,e,fun v z=>by rw[d]at z;cases z⟩
 keep:=fun i h h' st k=>st.at fun o e=>k it (by simp) o e
 item:=by
  intro X hP hw hK hc i pins s σ H E I hf st hg;subst hP hw hK;obtain⟨xs,x,hq,hx⟩:=hg;obtain⟨its,rv,p,hz⟩:=I.tuple hq;obtain⟨u,hu,ru⟩:=rv.get hx;obtain⟨f0,f1,f2,f3,f4,f5⟩:=hf it (by simp);refine wpAny_pyNext_tuple_item st (show s.heap.IsTuple a its.toArray from p) (x:=u) (by simpa using hu) fun h' st' sb=>?_
  have I1:Inv X pins σ H {s with heap:=h'}:=I.turned (t':=s.toks) (fun b o hb e=>(sb.2 b hb).trans e) f0 f1 f3 f4 f5;obtain⟨o,e,c,d⟩:=id st';exact⟨u,rfl,go_of (s:={s with heap:=h'}) e c d (by decide) ⟨x,H,I1,ru,⟨rfl,fun ys hy=>by rw[I.tuple_inj hy hq];exact hx⟩,st',fun b hb=>(hf b hb).1⟩⟩
 done:=by
  intro X hP hw hK hc i pins s σ H E I hf st hg;subst hP hw hK;obtain⟨xs,hq,hx⟩:=hg;obtain⟨its,rv,p,hz⟩:=I.tuple hq;obtain⟨f0,f1,f2,f3,f4,f5⟩:=hf it (by simp);have hl:=rv.length;exact wpAny_pyNext_tuple_end (I.ok.hd hc) st (show s.heap.IsTuple a its.toArray from p) (by simp;lia) fun h' eb=>⟨rfl,I.turned (t':=s.toks) (fun b o hb e=>eb b o hb e) f0 f1 f3 f4 f5⟩
 self:=fun _ _ _ _ _ st h=>wpAny_pyIter_tupleiter st h
theorem zm8 {P:Program}{w:World}(it:Addr)(lo:Int)(n:Nat):Turn P w K tg (Itr lo n) [it] it (fun i h=>IsRangeIter h it (lo+(i:Nat)*1) ((n:Int)-(i:Nat)) 1) where
 mem:=by simp
 obj:=fun i h st b hb=>by
  have e:b=it:=by simpa using hb
  subst e;exact⟨_,st,fun v z=>by
   have z':Data.fields _=Data.cell v:=z;cases z'⟩
 keep:=fun i h h' st k=>k it (by simp) _ st
 item:=by
  intro X hP hw hK hc i pins s σ H E I hf st hg;subst hP hw hK;obtain⟨f0,f1,f2,f3,f4,f5⟩:=hf it (by simp);have W:=Walks.range (prog:=X.prog) (w:=X.w) (I.ok.hd hc) it lo 1 n;refine W.item i s _ _ hg st fun v h' tk hv st' kk=>?_
  obtain⟨t,rfl⟩:=hv;have I1:Inv X pins σ H {s with heap:=h',toks:=tk}:=I.turned (fun b o hb e=>kk b o (by simpa using hb) e) f0 f1 f3 f4 f5;refine⟨_,rfl,go_of (s:={s with heap:=h',toks:=tk}) (n:="range_iterator") st' rfl rfl (by decide) ⟨.int (lo+i),H,I1,⟨t,?_⟩,⟨rfl,rfl⟩,st',fun b hb=>(hf b hb).1⟩⟩;rw[Int.mul_one]
 done:=by
  intro X hP hw hK hc i pins s σ H E I hf st hg;subst hP hw hK;obtain⟨f0,f1,f2,f3,f4,f5⟩:=hf it (by simp);exact wpAny_pyNext_range_end (I.ok.hd hc) st (by have:n<=i:=hg;lia) fun h' eb=>⟨rfl,I.turned (t':=s.toks) (fun b o hb e=>eb b o hb e) f0 f1 f3 f4 f5⟩
 self:=fun _ _ _ _ _ st h=>wpAny_pyIter_rangeiter st h
section
variable {X:Cx} {tg:Expr}
theorem range_it {R:It->Hp->Prop}{lo hi:Int}{t u v:Tok}{tk:Nat}(I:Inv X pins σ H s)(h1: -(2^62)<=lo)(h2:lo<2^62)(h3: -(2^62)<=hi)(h4:hi<2^62)
  (q:R (Itr lo (hi-lo).toNat) H):wpAny (model X.prog X.w) X.A (pyIter (.ref s.heap.objs.size)) (PIE X pins σ tg R) E {s with heap:=s.heap.push {cls:= .type "range",data:= .fields #[.int lo t,.int hi u,.int 1 v]},toks:=tk}:=by
 refine wpAny_pyIter_range (IsRange.new ..) (small_one h1 h2 h3 h4) ?_;have I1:Inv X pins σ H {s with heap:=s.heap.push {cls:= .type "range",data:= .fields #[.int lo t,.int hi u,.int 1 v]},toks:=tk}:=I.kept fun b o e=>qaF _ e
 refine⟨(s.heap.push {cls:= .type "range",data:= .fields #[.int lo t,.int hi u,.int 1 v]}).objs.size,[(s.heap.push {cls:= .type "range",data:= .fields #[.int lo t,.int hi u,.int 1 v]}).objs.size],_,_,H,rfl,
  I1.kept (t':=tk) fun b o e=>qaF _ e,zm8 _ lo (hi-lo).toNat,?_,fun b hb=>?_,q⟩
 ·have e1:lo+((0:Nat):Int)*1=lo:=by simp
  have e2:(((hi-lo).toNat:Nat):Int)-((0:Nat):Int)=Builtin.Range.rangeSize lo hi 1:=by rw[rangeSize_one];split<;>lia
  show IsRangeIter _ _ (lo+((0:Nat):Int)*1) ((((hi-lo).toNat:Nat):Int)-((0:Nat):Int)) 1;rw[e1,e2];exact qaG _ rfl
 ·have e:b=(s.heap.push {cls:= .type "range",data:= .fields #[.int lo t,.int hi u,.int 1 v]}).objs.size:=by simpa using hb
  subst e;exact I1.fpOk (qaH _) (I1.hok.fresh (qaH _))
def iRng1 (ta:TA):TI:=fun σ H R=>ta σ H fun vs H1=>∃j:Int,vs=[.int j]/\ -(2^62)<=j/\j<2^62/\R (Itr 0 j.toNat) H1
theorem zoj {a:Expr}{ta:TA}{p pos:Pos}(hg:Gl X "range")(hm:X.mg "range"=none)(ha:PA X [a] ta)(hs:starEach [a] X.env=[(false,eval a X.env)]:=by rfl):PI X tg (.Call (.Name "range" p) [a] [] pos) (iRng1 ta):=by
 intro pins s σ H R I h;refine Call_ (zlb I hg hm boot_range (qaI (thn (ha pos pins s σ H _ I h) fun us s1 ⟨vs,H1,I1,r1,q1⟩=>?_) hs rfl));obtain⟨j,e,q1,q2,q⟩:=q1;subst e;cases r1 with
 |cons r rr=>
  cases rr;obtain⟨t,rfl⟩:=r;exact call_range_1 (range_it I1 (by lia) (by lia) q1 q2 (by simpa using q))
def tFor (wi:TI)(g:TG)(tb:TS):TS:=fun D σ H=>wi σ H fun J H1=>∃W:Nat->Nat->St->Hp->Prop,(∃m,W 0 m σ H1)/\∀i m σ H,W i m σ H->
 (J.stop i H/\D.nx σ H)\/(J.go i H/\∃N:St->Hp->Prop,(∀σ' H',N σ' H'->∃m',m'<m/\W (i+1) m' σ' H')/\∀x H',J.yld i H x H'->g x σ H' fun σ2 H2=>tb {D with nx:=N,ct:=N,bk:=D.nx} σ2 H2)
def zkP (fp:List Addr)(h:Heap):List (Addr×Obj):=fp.filterMap fun b=>(h.get? b).map fun o=>(b,o)
theorem zfy (hb:b∈fp)(e:h.get? b=some o):(b,o)∈zkP fp h:=qaj.mpr ⟨b,hb,by rw[e];rfl⟩
theorem zpq (hp:p∈zkP fp h):p.1∈fp/\h.get? p.1=some p.2:=by
 obtain⟨b,hb,e⟩:=qaj.mp hp;cases q:h.get? b with
 |none=>rw[q]at e;cases e
 |some o=>
  rw[q]at e;have e':(b,o)=p:=Option.some.inj e;subst e';exact⟨hb,q⟩
theorem Inv.pinned (I:Inv X pins σ H s)(hf:∀b∈fp,FpOk X pins H b)(ho:∀b∈fp,∃o,s.heap.get? b=some o/\∀v,o.data≠ .cell v):Inv X (pins++zkP fp s.heap) σ H s:=
 I.pins_of fun p hp=>(qar.mp hp).elim (fun z=>I.pin p (qaJ _ z)) fun z=>by
  obtain⟨hb,e⟩:=zpq z;obtain⟨f0,f1,f2,_⟩:=hf p.1 hb;obtain⟨o,e',d⟩:=ho p.1 hb;rw[e]at e';cases e';exact⟨e,f0,f1,f2,d⟩
theorem Inv.unpinned {pins pl:List (Addr×Obj)}(I:Inv X (pins++pl) σ H s):Inv X pins σ H s:=I.pins_of fun p hp=>I.pin p (qaJ _ (qas _ hp))
theorem ps_for {iter:Expr}{wi:TI}{g:TG}{tb:TS}(hp:PassesOwn (model X.prog X.w) X.A X.env X.xe)(hc:X.calm=true)(hi:PI X tg iter wi)(hg:PG X tg g)(hb:PSs X body tb)
    (hs:∀x,foldedSetIterable iter X.env x=pure x:=by intro _;rfl):PS X (.For tg iter body [] pos) (tFor wi g tb):=by
  intro pins s σ H D I h;refine wpAny_For (thn (hi pins s σ H _ I h) fun v s1 h1=>thn h1 fun itv s2 h2=>?_) hs;obtain⟨it,fp,tn,J,H2,e,I2,T,st2,f2,W,⟨m0,w0⟩,turn⟩:=h2;subst e;have stat:∀{H':Hp},(∀b∈fp,H' b=none)->∀b∈fp,FpOk X pins H' b:=fun hn b hb=>⟨hn b hb,(f2 b hb).2⟩
  refine codeAny_forLoop_any (fun n s'=>∃i σ' H',Inv X pins σ' H' s'/\tn i s'.heap/\(∀b∈fp,H' b=none)/\W i n σ' H') ?_ m0 ⟨0,σ,H2,I2,st2,fun b hb=>(f2 b hb).1,w0⟩;rintro n s3 ⟨i,σ3,H3,I3,st3,fr3,w3⟩;rcases turn i n σ3 H3 w3 with⟨stop,qn⟩|⟨go,N,hN,step⟩
  . refine qaC hp (thn (T.done X rfl rfl rfl hc i pins s3 σ3 H3 X.xe I3 (stat fr3) st3 stop) fun r s4 ⟨hr,I4⟩=>?_)
    subst hr;exact qaz ⟨σ3,H3,I4,qn⟩
  . refine qaC hp (thn (T.item X rfl rfl rfl hc i pins s3 σ3 H3 X.xe I3 (stat fr3) st3 go) fun r s4 ⟨u,hr,h4⟩=>?_)
    subst hr;refine qaC hp (thn h4 fun _ s5 ⟨x,H5,I5,r5,y5,st5,fr5⟩=>?_);have I5':=I5.pinned (stat fr5) (T.obj _ _ st5);refine qaC hp (thn (hg _ s5 σ3 H5 x u _ I5' r5 (step x H5 y5)) fun _ s6 ⟨σ6,H6,I6,q6⟩=>?_);refine qaC hp (thn (hb _ s6 σ6 H6 _ I6 q6) fun f s7 q7=>?_);have again:∀{σ7:St} {H7:Hp},Inv X (pins++zkP fp s5.heap) σ7 H7 s7->N σ7 H7->∃m,m<n/\∃i σ' H',Inv X pins σ' H' s7/\tn i s7.heap/\(∀b∈fp,H' b=none)/\W i m σ' H':=fun{σ7 H7} I7 n7=>by
      obtain⟨m',hm,w7⟩:=hN σ7 H7 n7;refine⟨m',hm,i+1,σ7,H7,I7.unpinned,T.keep _ _ _ st5 fun b hb o e=>(I7.pin (b,o) (qaJ _ (qaJ _ (zfy hb e)))).1,fun b hb=>?_,w7⟩;obtain⟨o,e,d⟩:=T.obj _ _ st5 b hb;exact(I7.pin (b,o) (qaJ _ (qaJ _ (zfy hb e)))).2.1
    cases f with
    |next=>obtain⟨σ7,H7,I7,n7⟩:=q7;exact again I7 n7
    |cont=>obtain⟨σ7,H7,I7,n7⟩:=q7;exact again I7 n7
    |brk=>obtain⟨σ7,H7,I7,q7⟩:=q7;exact⟨σ7,H7,I7.unpinned,q7⟩
    |ret v=>obtain⟨x7,σ7,H7,I7,r7,q7⟩:=q7;exact⟨x7,σ7,H7,I7.unpinned,r7,q7⟩
end
abbrev R2:=V->V->Hp->VK->Prop
def OpR (X:Cx)(f:Value->Value->Sem Value)(r:R2):Prop:=
 ∀(pins:List (Addr×Obj)) (s:Shared) (σ:St) (H:Hp) (x y:V) (v u:Value) (Q:VK),Inv X pins σ H s->RelV x v->RelV y u->r x y H Q->
  wpAny (model X.prog X.w) X.A (f v u) (EP X pins σ Q) X.xe s
def UnR (X:Cx)(f:Value->Sem Value)(r:V->Hp->VK->Prop):Prop:=
 ∀(pins:List (Addr×Obj)) (s:Shared) (σ:St) (H:Hp) (x:V) (v:Value) (Q:VK),Inv X pins σ H s->RelV x v->r x H Q->
  wpAny (model X.prog X.w) X.A (f v) (EP X pins σ Q) X.xe s
def zeS (X:Cx)(f:Value)(r:List V->Hp->VK->Prop):Prop:=
 ∀(pins:List (Addr×Obj)) (s:Shared) (σ:St) (H:Hp) (xs:List V) (us:List Value) (Q:VK),Inv X pins σ H s->Vals xs us->r xs H Q->
  wpAny (model X.prog X.w) X.A (call f us) (EP X pins σ Q) X.xe s
def TruR (X:Cx)(r:V->Hp->(Bool->Hp->Prop)->Prop):Prop:=
 ∀(pins:List (Addr×Obj)) (s:Shared) (σ:St) (H:Hp) (x:V) (v:Value) (Q:Bool->Hp->Prop),Inv X pins σ H s->RelV x v->r x H Q->
  wpAny (model X.prog X.w) X.A (truthy v) (TP X pins σ Q) X.xe s
def tOp (r:R2)(ta tb:TE):TE:=fun σ H Q=>ta σ H fun x H1=>tb σ H1 fun y H2=>r x y H2 Q
def tUn (r:V->Hp->VK->Prop)(ta:TE):TE:=fun σ H Q=>ta σ H fun x H1=>r x H1 Q
def rI (C:Int->Int->Prop)(g:Int->Int->V):R2:=fun x y H Q=>∃i j,x= .int i/\y= .int j/\C i j/\Q (g i j) H
def rI0 (g:Int->Int->V):R2:=fun x y H Q=>∃i j,x= .int i/\y= .int j/\Q (g i j) H
def rU (g:Int->V):V->Hp->VK->Prop:=fun x H Q=>∃i,x= .int i/\Q (g i) H
section
variable {X:Cx} {a b c:Expr} {ta tb tc:TE} {pos:Pos}
theorem binT (ha:PE X a ta)(hb:PE X b tb){R:V->V->Hp->Prop}(I:Inv X pins σ H s)
  (h:ta σ H fun x H1=>tb σ H1 fun y H2=>R x y H2) {Q:Value->Shared->Prop} {f:Value->Value->Sem Value}
  (hf:∀v u s2 x y H2,Inv X pins σ H2 s2->RelV x v->RelV y u->R x y H2->wpAny (model X.prog X.w) X.A (f v u) Q X.xe s2):
  wpAny (model X.prog X.w) X.A (eval a X.env) (fun v s₁=>wpAny (model X.prog X.w) X.A (eval b X.env) (fun u s₂=>wpAny (model X.prog X.w) X.A (f v u) Q X.xe s₂) X.xe s₁) X.xe s:=by
 refine thn (ha pins s σ H _ I h) fun v s1 ⟨x,H1,I1,r1,q1⟩=>?_
 refine thn (hb pins s1 σ H1 _ I1 q1) fun u s2 ⟨y,H2,I2,r2,q2⟩=>?_
 exact hf v u s2 x y H2 I2 r1 r2 q2
theorem pe_op {op:Operator}{r:R2}(ho:OpR X (binaryOp op) r)(ha:PE X a ta)(hb:PE X b tb):PE X (.BinOp a op b pos) (tOp r ta tb):=by
 intro pins s σ H Q I h;exact wpAny_BinOp (binT ha hb I h fun v u s2 x y H2 I2 rx ry q=>ho pins s2 σ H2 x y v u Q I2 rx ry q)
theorem pe_un {op:UnaryOp}(ho:UnR X (unaryOp op) r)(ha:PE X a ta):PE X (.UnaryOp op a pos) (tUn r ta):=by
 intro pins s σ H Q I h;exact UnaryOp_ (thn (ha pins s σ H _ I h) fun v s1 ⟨x,H1,I1,r1,q1⟩=>ho pins s1 σ H1 x v Q I1 r1 q1)
theorem opI {C:Int->Int->Prop}
  (rule:∀(i j:Int) (t u:Tok) (s:Shared) (Q:Value->Shared->Prop) (E:Value->Shared->Prop),C i j->Q (.int (g i j) s.toks) {s with toks:=s.toks+1}->wpAny (model X.prog X.w) X.A (f (.int i t) (.int j u)) Q E s):
  OpR X f (rI C fun i j=> .int (g i j)):=by
 intro pins s σ H x y v u Q I rx ry h;obtain⟨i,j,rfl,rfl,hc,q⟩:=h;obtain⟨t,rfl⟩:=rx;obtain⟨t',rfl⟩:=ry;exact rule i j t t' s _ _ hc ⟨.int (g i j),H,I.tok _,⟨_,rfl⟩,q⟩
theorem opI0
  (rule:∀(i j:Int) (t u:Tok) (s:Shared) (Q:Value->Shared->Prop) (E:Value->Shared->Prop),Q (.int (g i j) s.toks) {s with toks:=s.toks+1}->wpAny (model X.prog X.w) X.A (f (.int i t) (.int j u)) Q E s):
  OpR X f (rI0 fun i j=> .int (g i j)):=by
 intro pins s σ H x y v u Q I rx ry h;obtain⟨i,j,rfl,rfl,q⟩:=h;obtain⟨t,rfl⟩:=rx;obtain⟨t',rfl⟩:=ry;exact rule i j t t' s _ _ ⟨.int (g i j),H,I.tok _,⟨_,rfl⟩,q⟩
theorem opB0 {g:Int->Int->Bool}
  (rule:∀(i j:Int) (t u:Tok) (s:Shared) (Q:Value->Shared->Prop) (E:Value->Shared->Prop),Q (.bool (g i j)) s->wpAny (model X.prog X.w) X.A (f (.int i t) (.int j u)) Q E s):
  OpR X f (rI0 fun i j=> .bl (g i j)):=by
 intro pins s σ H x y v u Q I rx ry h;obtain⟨i,j,rfl,rfl,q⟩:=h;obtain⟨t,rfl⟩:=rx;obtain⟨t',rfl⟩:=ry;exact rule i j t t' s _ _ ⟨.bl (g i j),H,I,rfl,q⟩
def CPow (i j:Int):Prop:=0<=j/\j<=1000000/\i.natAbs<2^64
theorem znb (k:Nat):(0:Int)<=2^k:=by
 rw[two_pow_cast];exact Int.natCast_nonneg _
theorem op_add:OpR X (binaryOp .Add) (rI0 fun i j=> .int (i+j)):=opI0 fun _ _ _ _ _ _ _ q=>add_int q
theorem op_sub:OpR X (binaryOp .Sub) (rI0 fun i j=> .int (i-j)):=opI0 fun _ _ _ _ _ _ _ q=>sub_int q
theorem op_mod:OpR X (binaryOp .Mod) (rI (fun _ j=>0<j) fun i j=> .int (i%j)):=opI fun i j _ _ _ _ _ hc q=>by
 have h1:(0:Int)<j:=hc;exact mod_int' (by lia) (by rw[Int.fmod_eq_emod_of_nonneg i (by lia)];exact q)
theorem op_modN:OpR X (binaryOp .Mod) (rI (fun _ j=>j≠0) fun i j=> .int (i.fmod j)):=opI fun _ _ _ _ _ _ _ hc q=>mod_int' hc q
theorem op_pow:OpR X (binaryOp .Pow) (rI CPow fun i j=> .int (i^j.toNat)):=opI fun _ _ _ _ _ _ _ hc q=>pow_int_small hc.1 hc.2.1 hc.2.2 q
theorem op_shl:OpR X (binaryOp .LShift) (rI CPow fun i j=> .int (i*2^j.toNat)):=opI fun _ _ _ _ _ _ _ hc q=>lshift_int_small hc.1 hc.2.1 hc.2.2 q
theorem op_shr:OpR X (binaryOp .RShift) (rI (fun _ j=>0<=j) fun i j=> .int (i/2^j.toNat)):=opI fun i j _ _ _ _ _ hc q=>
 rshift_int hc (by rw[qaK i (znb _)];exact q)
theorem op_and:OpR X (binaryOp .BitAnd) (rI0 fun i j=> .int (Builtin.bitAnd i j)):=opI0 fun _ _ _ _ _ _ _ q=>and_int q
theorem unI {f:Value->Sem Value}{g:Int->Int}
  (rule:∀(i:Int) (t:Tok) (s:Shared) (Q:Value->Shared->Prop) (E:Value->Shared->Prop),Q (.int (g i) s.toks) {s with toks:=s.toks+1}->wpAny (model X.prog X.w) X.A (f (.int i t)) Q E s):
  UnR X f (rU fun i=> .int (g i)):=by
 intro pins s σ H x v Q I rx h;obtain⟨i,rfl,q⟩:=h;obtain⟨t,rfl⟩:=rx;exact rule i t s _ _ ⟨.int (g i),H,I.tok _,⟨_,rfl⟩,q⟩
theorem un_neg:UnR X (unaryOp .USub) (rU fun i=> .int (-i)):=unI fun _ _ _ _ _ q=>neg_int q
end
section
variable {X:Cx} {a b c:Expr} {ta tb tc:TE} {pos:Pos}
theorem fin_bl {Q:VK}{k k':Bool}(I:Inv X pins σ H s)(q:Q (.bl k) H)(e:k=k'):EP X pins σ Q (.bool k') s:=by
 subst e;exact⟨.bl k,H,I,rfl,q⟩
theorem op_lt:OpR X (compareOp .Lt) (rI0 fun i j=> .bl (decide (i<j))):=opB0 fun _ _ _ _ _ _ _ q=>lt_int q
theorem op_gt:OpR X (compareOp .Gt) (rI0 fun i j=> .bl (decide (j<i))):=opB0 fun _ _ _ _ _ _ _ q=>gt_int q
theorem op_ge:OpR X (compareOp .GtE) (rI0 fun i j=> .bl (decide (j<=i))):=opB0 fun _ _ _ _ _ _ _ q=>ge_int q
theorem op_notN:OpR X (compareOp .IsNot) (fun x y H Q=>y= .non/\Q (.bl (!decide (x= .non))) H):=by
 intro pins s σ H x y v u Q I rx ry h;obtain⟨rfl,q⟩:=h;cases ry;refine isnot_none_gen (fin_bl I q ?_);cases x<;>first
  |(cases rx;rfl)
  |(obtain⟨t,rfl⟩:=rx;rfl)
theorem OpR.or {r r':R2}(h:OpR X f r)(h':OpR X f r'):OpR X f (fun x y H Q=>r x y H Q\/r' x y H Q):=by
 intro pins s σ H x y v u Q I rx ry q;rcases q with q|q
 ·exact h pins s σ H x y v u Q I rx ry q
 ·exact h' pins s σ H x y v u Q I rx ry q
theorem zig (b:Expr)(h:op≠ .In:=by decide)(h2:op≠ .NotIn:=by decide):behindInMarks op b=false:=by
 have e1:(op==CmpOp.In)=false:=by cases op<;>first|rfl|exact absurd rfl h
 have e2:(op==CmpOp.NotIn)=false:=by cases op<;>first|rfl|exact absurd rfl h2
 cases b<;>simp[behindInMarks,e1,e2]
theorem pe_cmpR {r:R2}(ho:OpR X (compareOp op) r)(ha:PE X a ta)(hb:PE X b tb)(hm:behindInMarks op b=false):PE X (.Compare a [op] [b] pos) (tOp r ta tb):=by
 intro pins s σ H Q I h;exact wpAny_Compare1 (binT ha hb I h fun v u s2 x y H2 I2 rx ry q=>ho pins s2 σ H2 x y v u Q I2 rx ry q) hm
def tTest (t:TE):TT:=fun σ H Q=>t σ H fun x H'=>∃k,x= .bl k/\Q k H'
theorem pt_cmpR {r:R2}(ho:OpR X (compareOp op) r)(ha:PE X a ta)(hb:PE X b tb)(hm:behindInMarks op b=false):PT X (.Compare a [op] [b] pos) (tTest (tOp r ta tb)):=by
 intro pins s σ H Q I h;refine wpAny_isTrue_Compare1 (thn (ha pins s σ H _ I h) fun v s1 ⟨x,H1,I1,r1,q1⟩=>thn (hb pins s1 σ H1 _ I1 q1) fun u s2 ⟨y,H2,I2,r2,q2⟩=>
  thn (ho pins s2 σ H2 x y v u _ I2 r1 r2 q2) fun c s3 ⟨z,H3,I3,r3,k,e,q3⟩=>?_) hm
 subst e;cases r3;exact qax ⟨H3,I3,q3⟩
def TruV (K:W.Frag)(x:V)(H:Hp)(k:Bool):Prop:=
 match x with
 | .non=>k=false
 | .bl b=>k=b
 | .int i=>k=(i !=0)
 | .str y=>y.length<=sizeLine/\k=((y.length:Int) !=0)
 | .byt y=>y.size<=sizeLine/\k=((y.size:Int) !=0)
 | .ref p=>(∃xs,SqL K H p xs/\k=!xs.isEmpty)\/(∃xs,SqT K H p xs/\k=!xs.isEmpty)\/∃kvs,H p=some (.dK kvs)/\k=!kvs.isEmpty
 |_=>False
theorem znA {κ:Type}{kvs:List (κ×V)}{vs:List (κ×Value)}(r:KV kvs vs):(!vs.isEmpty)=!kvs.isEmpty:=by
 cases r<;>rfl
theorem zjj (r:Vals xs its):(!its.toArray.isEmpty)=!xs.isEmpty:=by
 cases r<;>simp
theorem zjr:(sizeLine:Nat)<2^63:=by rw[qaL];decide
theorem tru_ok:TruR X (fun x H Q=>∃k,TruV X.K x H k/\Q k H):=by
 intro pins s σ H x v Q I rx h;obtain⟨k,e,q⟩:=h;have hl:=zjr;have hs:sizeLine=16777216:=qaL;cases x with
 |non=>
  cases rx;have e':k=false:=e;subst e';exact truthy_none ⟨H,I,q⟩
 |bl b=>
  cases rx;have e':k=b:=e;subst e';exact qax ⟨H,I,q⟩
 |int i=>
  obtain⟨t,rfl⟩:=rx;have e':k=(i !=0):=e;subst e';exact PySem.P.truthy_int ⟨H,I,q⟩
 |str y=>
  obtain⟨t,rfl⟩:=rx;obtain⟨hy,e'⟩:y.length<=sizeLine/\k=((y.length:Int) !=0):=e;subst e';exact PySem.P.truthy_str (by lia) ⟨H,I.tok _,q⟩
 |byt y=>
  obtain⟨t,rfl⟩:=rx;obtain⟨hy,e'⟩:y.size<=sizeLine/\k=((y.size:Int) !=0):=e;subst e';exact W.truthy_bytes (by lia) ⟨H,I.tok _,q⟩
 |ref p=>
  cases rx;have e':(∃xs,SqL X.K H p xs/\k=!xs.isEmpty)\/(∃xs,SqT X.K H p xs/\k=!xs.isEmpty)\/∃kvs,H p=some (.dK kvs)/\k=!kvs.isEmpty:=e;rcases e' with⟨xs,hx,e'⟩|⟨xs,hx,e'⟩|⟨kvs,hx,e'⟩
  ·subst e';obtain⟨its,r,pl,hz⟩:=I.list hx;have hlen:=r.length;exact wpAny_truthy_list pl.isList (by simp only[qaM];lia) ⟨H,I.tok _,by rw[zjj r];exact q⟩
  ·subst e';obtain⟨its,r,pl,hz⟩:=I.tuple hx;have hlen:=r.length;exact truthy_tuple pl (by simp only[qaM];lia) ⟨H,I.tok _,by rw[zjj r];exact q⟩
  ·subst e';obtain⟨hz,hS,vs,r,m⟩:kvs.length<=sizeLine/\(p==sysModules)=false/\∃vs,KV kvs vs/\s.heap.DictOf (zbH X.prog X.w) p vs:=I.hok p _ hx;have hlen:kvs.length=vs.length:=Paired.length r;exact wpAny_truthy_dict hS m (by lia) ⟨H,I.tok _,by rw[znA r];exact q⟩
 |_=>exact(show False from e).elim
theorem pt_truth (ha:PE X a ta)(he:∀whole,isTrue a X.env whole=(do let v<-whole;standAt a.pos;holding [v] (truthy v))):
  PT X a (fun σ H Q=>ta σ H fun x H'=>∃k,TruV X.K x H' k/\Q k H'):=by
 intro pins s σ H Q I h;exact isTrue_plain (thn (ha pins s σ H _ I h) fun v s1 ⟨x,H1,I1,r1,q1⟩=>tru_ok pins s1 σ H1 x v Q I1 r1 q1) (he _)
theorem zm5:OpR X (binaryOp .Add) (fun x y H Q=>∃i j,x= .str i/\y= .str j/\i.length+j.length<=sizeLine/\Q (.str (i++j)) H):=by
 intro pins s σ H x y v u Q I rx ry h;obtain⟨i,j,rfl,rfl,hz,q⟩:=h;obtain⟨t,rfl⟩:=rx;obtain⟨t',rfl⟩:=ry;exact add_str (fun t' tk=>⟨.str (i++j),H,I.tok _,⟨_,rfl⟩,q⟩) hz
theorem ziI {x:V}(r:Vals [x] us):∃u,us=[u]/\RelV x u:=by
 cases r with
 |cons r1 r2=>cases r2;exact⟨_,rfl,r1⟩
theorem vals2 {x y:V}(r:Vals [x,y] us):∃u w',us=[u,w']/\RelV x u/\RelV y w':=by
 cases r with
 |cons r1 r2=>
  cases r2 with
  |cons r3 r4=>cases r4;exact⟨_,_,rfl,r1,r3⟩
theorem call_abs:zeS X (.builtin "abs") (fun xs H Q=>∃i,xs=[.int i]/\Q (.int (if i<0 then-i else i)) H):=by
 intro pins s σ H xs us Q I r h;obtain⟨i,rfl,q⟩:=h;obtain⟨u,rfl,t,rfl⟩:=ziI r;exact call_abs_int fun u tk=>⟨.int (if i<0 then-i else i),H,I.tok _,⟨_,rfl⟩,q⟩
theorem zoF (hc:X.calm=true):zeS X (.builtin "max") (fun xs H Q=>∃i j,xs=[.int i,.int j]/\Q (.int (if j>i then j else i)) H):=by
 intro pins s σ H xs us Q I r h;obtain⟨i,j,rfl,q⟩:=h;obtain⟨u,w',rfl,⟨t,rfl⟩,⟨t',rfl⟩⟩:=vals2 r;refine max_two_ints (I.ok.hd hc) fun h' tk k=>⟨_,H,I.kept k,?_,q⟩
 by_cases hj:j>i
 ·rw[if_pos hj,if_pos hj];exact⟨_,rfl⟩
 ·rw[if_neg hj,if_neg hj];exact⟨_,rfl⟩
theorem znY (hc:X.calm=true):zeS X (.builtin "min") (fun xs H Q=>∃i j,xs=[.int i,.int j]/\Q (.int (if j<i then j else i)) H):=by
 intro pins s σ H xs us Q I r h;obtain⟨i,j,rfl,q⟩:=h;obtain⟨u,w',rfl,⟨t,rfl⟩,⟨t',rfl⟩⟩:=vals2 r;refine min_two_ints (I.ok.hd hc) fun h' tk k=>⟨_,H,I.kept k,?_,q⟩
 by_cases hj:j<i
 ·rw[if_pos hj,if_pos hj];exact⟨_,rfl⟩
 ·rw[if_neg hj,if_neg hj];exact⟨_,rfl⟩
end
structure ObjM (h:Heap) (x dx C:Addr) (mA:Str->Option Value):Prop where
 obj:h.get? x=some (W.instObj C dx)
 ns:h.Ns1 dx mA
 ne:dx≠x
theorem zpG (n:h.Ns1 dx mA):∃od,h.get? dx=some od/\∀name,W.lookIn name od=some (mA name):=by
 obtain⟨o,es,ep,ho,hd,hk,_,hm⟩:=n;refine⟨o,ho,fun name=>?_⟩;have e:=hm name;unfold nsFind findBy at e;rw[<-Array.find?_toList]at e;unfold W.lookIn;rw[hd];dsimp only
 split
 ·rename_i y q;rw[q]at e;exact congrArg some e
 ·rename_i q;rw[q]at e;have a:es.toList.any (·.refKey)=false:=by
   rw[qaN];intro y hy;obtain⟨z,t,hkey⟩:=hk y (qaO.mp hy);simp[DictEntry.refKey,hkey]
  have a':¬es.toList.any (·.refKey)=true:=by rw[a];exact qaD
  rw[if_neg a'];exact congrArg some e
theorem ObjM.look {x dx C:Addr}(I:ObjM h x dx C mA):∃od,W.InstAt h x (W.instObj C dx) C (some od)/\∀name,W.lookIn name od=some (mA name):=
 let⟨od,ho,hl⟩:=zpG I.ns
 ⟨od,⟨I.obj,rfl,rfl,ho⟩,hl⟩
section
variable {prog:Program} {w:World} {A:Around} {E:Value->Shared->Prop} {s:Shared} {K:W.Frag} {x dx C f:Addr} {mA:Str->Option Value} {name:Str} {v:Value}
theorem get_map {expr:Bool}(X:K.In s.heap)(I:ObjM s.heap x dx C mA)(hg:W.plainGet K C name=true)(hh:W.hasDictIn K C=true)
  (ha:W.findIn K (.ref C) name=some none) (hv:mA name=some v) (hv':W.handedIn v=true) (h:Q v {s with toks:=s.toks+1}):
  wpAny (model prog w) A (getAttr (.ref x) name expr) Q E s:=by
 obtain⟨od,J,hl⟩:=I.look;exact W.get_value X J (W.plainGet_of hg).1 (W.findObj_own hh ha rfl (by rw[hl,hv])) hv' h
theorem get_meth {Q:Value×List Value->Shared->Prop}(X:K.In s.heap)(I:ObjM s.heap x dx C mA)(hg:W.plainGet K C name=true)
  (hf:W.findIn K (.ref C) name=some (some (.ref f))) (ht:W.isFn K (.ref f)=true) (hv:mA name=none) (h:Q (.ref f,[.ref x]) s):
  wpAny (model prog w) A (getMethod (.ref x) name pl) Q E s:=by
 obtain⟨od,J,hl⟩:=I.look;exact W.method_fn X J (W.plainGet_of hg).1 (W.plainGet_of hg).2 hf (qaP.mp ht) (by show(W.lookIn name od).map (·.isSome)=some false;rw[hl,hv];rfl) h
theorem set_map {Q:Unit->Shared->Prop}(X:K.In s.heap)(I:ObjM s.heap x dx C mA)
  (hs:W.findIn K (.ref C) "__setattr__"=some (some (.builtin "object.__setattr__"))) (hp:W.plainOver K C=true) (ht:W.takerIn K C name=some none) (hh:W.hasDictIn K C=true)
  (hw:PySem.Within mA ns) (hsz:ns.length<=sizeLine)
  (h:∀h',ObjM h' x dx C (fun y=>if y=name then some v else mA y)->Heap.SameBut dx s.heap h'->Q () {s with heap:=h',toks:=s.toks+2}):
  wpAny (model prog w) A (setAttr (.ref x) name v) Q E s:=by
 obtain⟨od,J,hl⟩:=I.look;refine W.set_plain X J hs (W.osa_open (s:={s with toks:=s.toks+1}) (r:=none) X J hp ht fun b=>?_);obtain⟨cd,hc,hd'⟩:=W.any_some hh;have hx:s.heap.get? x=some ⟨.ref C,some dx,.plain,#[]⟩:=I.obj;refine qaA (qaE (qaA (qaA (wpAny_loadPart hx (qaA (W.Looks.here (s:={s with toks:=s.toks+1}) (W.looks_clsIn X hc) ?_))))));rw[hd'];refine qaE (a:=some dx) (qaA (qaE (qaA ?_)));refine wpAny_nsSet1 (s:={s with toks:=s.toks+1}) I.ns fun h' hn2 hs2=>?_
 obtain⟨oD,esD,epD,hoD,hdD,hcD⟩:=hn2.count (PySem.Within.cons name v hw);refine qaA (wpAny_lookBehind hoD (by rw[hdD];exact pastItsLine_dict (qal hcD (by rw[qaQ];lia))) ?_);exact qaE (h _ ⟨(hs2.2 _ (Ne.symm I.ne)).trans I.obj,hn2,I.ne⟩ hs2)
theorem make_map {R:Result->Shared->Prop}{vs:List Value}(X:K.In s.heap)(hm:W.makesIn K C=true)
  (hi:W.findIn K (.ref C) "__init__"=some (some (.ref f))) (hf:W.typeIn K (.ref f)=some (.type "function"))
  (h : codeAny (model prog w) (A.under (.builtin "type.__call__" ⟨.ref C :: vs, kw⟩)) (.call (.ref f) ⟨.ref (s.heap.objs.size + 1) :: vs, kw⟩) (W.InitBack (s.heap.objs.size + 1) R)
   {s with heap:=(s.heap.push W.emptyDict).push (W.instObj C s.heap.objs.size)}):
  codeAny (model prog w) A (.call (.ref C) ⟨vs,kw⟩) R s:=by
 obtain⟨hh,g,d,t,os⟩:=s;exact W.make_core (W.makes_of X hm) (W.looks_findIn X hi) (fun self=>W.bind_fn X self hf) (.inl rfl) h
end
def putF (f:Str)(v:V):List (Str×V)->List (Str×V)
 |[]=>[(f,v)]
 |(g,x)::r=>if g=f then(g,v)::r else(g,x)::putF f v r
theorem zir (f g:Str)(v:V):∀fs:List (Str×V),(putF f v fs).lookup g=if g=f then some v else fs.lookup g
 |[]=>by
  show List.lookup g [(f,v)]=_
  by_cases h:g=f
  ·have hb:(g==f)=true:=qaP.mpr h;simp only[List.lookup,hb,if_pos h]
  ·have hb:(g==f)=false:=qab.mpr h;simp only[List.lookup,hb,if_neg h]
 |(k,x)::r=>by
  have ih:=zir f g v r;rw[show putF f v ((k,x)::r)=(if k=f then(k,v)::r else(k,x)::putF f v r)from rfl]
  by_cases hk:k=f
  ·rw[if_pos hk]
   by_cases h:g=k
   ·have hb:(g==k)=true:=qaP.mpr h;simp only[List.lookup,hb,if_pos (h.trans hk)]
   ·have hb:(g==k)=false:=qab.mpr h;simp only[List.lookup,hb,if_neg (fun e:g=f=>h (e.trans hk.symm))]
  ·rw[if_neg hk]
   by_cases h:g=k
   ·have hb:(g==k)=true:=qaP.mpr h;simp only[List.lookup,hb,if_neg (fun e:g=f=>hk (h.symm.trans e))]
   ·have hb:(g==k)=false:=qab.mpr h;simp only[List.lookup,hb];exact ih
theorem zib (f:Str)(v:V):∀fs:List (Str×V),f∈(putF f v fs).map (·.1)/\∀g,g∈fs.map (·.1)->g∈(putF f v fs).map (·.1)
 |[]=>⟨by simp[putF],fun g h=>by simp at h⟩
 |(k,x)::r=>by
  obtain⟨i1,i2⟩:=zib f v r;rw[show putF f v ((k,x)::r)=(if k=f then(k,v)::r else(k,x)::putF f v r)from rfl]
  by_cases hk:k=f
  ·rw[if_pos hk];subst hk;exact⟨by simp,fun g h=>by simpa using h⟩
  ·rw[if_neg hk];refine⟨?_,fun g h=>?_⟩
   ·rw[qaR];exact qap _ i1
   ·rw[qaR]at h ⊢;rcases qaq.mp h with e|e
    ·exact qaq.mpr (.inl e)
    ·exact qap _ (i2 g e)
theorem zid (f:Str)(v:V):∀fs:List (Str×V),(putF f v fs).length<=fs.length+1
 |[]=>by simp[putF]
 |(k,x)::r=>by
  have ih:=zid f v r;rw[show putF f v ((k,x)::r)=(if k=f then(k,v)::r else(k,x)::putF f v r)from rfl]
  by_cases hk:k=f
  ·rw[if_pos hk,qaQ,qaQ];lia
  ·rw[if_neg hk,qaQ,qaQ];lia
theorem RelO.some_of {o:Option Value}(r:RelO (some v) o):∃u,o=some u/\RelV v u:=by
 cases o with
 |none=>exact(show False from r).elim
 |some u=>exact⟨u,rfl,r⟩
theorem RelO.none_of {o:Option Value}(r:RelO none o):o=none:=by
 cases o with
 |none=>rfl
 |some u=>exact(show False from r).elim
theorem zpE (r:RelV v u):W.handedIn u=true:=by
 cases v with
 |non=>cases(show u=Value.none from r);rfl
 |bl b=>cases(show u=Value.bool b from r);rfl
 |int i=>obtain⟨t,e⟩:=(show ∃t,u=Value.int i t from r);cases e;rfl
 |str x=>obtain⟨t,e⟩:=(show ∃t,u=Value.str x t from r);cases e;rfl
 |byt b=>obtain⟨t,e⟩:=(show ∃t,u=Value.bytes b t from r);cases e;rfl
 |flt b=>obtain⟨t,e⟩:=(show ∃t,u=Value.float b t from r);cases e;rfl
 |ref a=>cases(show u=Value.ref a from r);rfl
 |ty n=>cases(show u=Value.type n from r);rfl
section
variable {P:Program} {w:World} {H H':Hp} {h h':Heap} {a C dx:Addr} {fs fs':List (Str×V)}
theorem zl6 (hok:HOk P w H h)(e:H a=some (.ins C dx fs)):∃mA,ObjM h a dx C mA/\(∀f,RelO (fs.lookup f) (mA f))/\PySem.Within mA (fs.map (·.1))/\fs.length<=1000/\H dx=some (.own a):=by
 obtain⟨d,z,ne,ob,mA,n,r,q⟩:=(show ObjOk P w H h a (.ins C dx fs)from hok a _ e);exact⟨mA,⟨ob,n,ne⟩,r,q,z,d⟩
end
structure Cls (K:W.Frag) (C:Addr):Prop where
 pg:W.plainGet K C Str.empty=true
 hd:W.hasDictIn K C=true
 po:W.plainOver K C=true
 sa:W.findIn K (.ref C) "__setattr__"=some (some (.builtin "object.__setattr__"))
theorem Cls.get (c:Cls K C)(f:Str):W.plainGet K C f=true:=c.pg
def NoAttr (K:W.Frag)(C:Addr)(f:Str):Prop:=W.findIn K (.ref C) f=some none
theorem NoAttr.taker {f:Str}(n:NoAttr K C f):W.takerIn K C f=some none:=by
 unfold W.takerIn;rw[show W.findIn K (.ref C) f=some none from n]
 rfl
structure Meth (K:W.Frag) (C:Addr) (m:Str) (f:Addr):Prop where
 at_:W.findIn K (.ref C) m=some (some (.ref f))
 fn:W.isFn K (.ref f)=true
 kp:W.keepIn K (.ref f)=true
section
variable {X:Cx} {pins:List (Addr×Obj)} {σ:St} {H:Hp} {s:Shared} {a C dx:Addr} {fs:List (Str×V)} {f:Str} {v:V} {A:Around} {E:Value->Shared->Prop}
theorem znO {b:Bool}(I:Inv X pins σ H s)(e:H a=some (.ins C dx fs))(c:Cls X.K C)(n:NoAttr X.K C f)(l:fs.lookup f=some v)
  (h:∀u s',Inv X pins σ H s'->RelV v u->Q u s'):wpAny (model X.prog X.w) A (getAttr (.ref a) f b) Q E s:=by
 obtain⟨mA,O,r,_,_,_⟩:=zl6 I.hok e;obtain⟨u,hu,ru⟩:=RelO.some_of (v:=v) (o:=mA f) (by rw[<-l];exact r f);exact get_map I.kIn O (c.get f) c.hd n hu (zpE ru) (h u _ (I.tok _) ru)
theorem zjo {g:Addr}{Q:Value×List Value->Shared->Prop}(I:Inv X pins σ H s)(e:H a=some (.ins C dx fs))(c:Cls X.K C)(k:Meth X.K C m g)(l:fs.lookup m=none)
  (h:Q (.ref g,[.ref a]) s):wpAny (model X.prog X.w) A (getMethod (.ref a) m pl) Q E s:=by
 obtain⟨mA,O,r,_,_,_⟩:=zl6 I.hok e;have hn:mA m=none:=RelO.none_of (by rw[<-l];exact r m);exact get_meth I.kIn O (c.get m) k.at_ k.fn hn h
theorem znn {Q:Unit->Shared->Prop}(I:Inv X pins σ H s)(e:H a=some (.ins C dx fs))(c:Cls X.K C)(n:NoAttr X.K C f)(hl:fs.length<1000)(ry:RelV y u)
  (h:∀s',Inv X pins σ (upd H a (.ins C dx (putF f y fs))) s'->Q () s'):wpAny (model X.prog X.w) A (setAttr (.ref a) f u) Q E s:=by
 obtain⟨mA,O,r,wi,_,ho⟩:=zl6 I.hok e;have hz:(fs.map (·.1)).length<=sizeLine:=by rw[qaS,qaL];lia
 refine set_map I.kIn O c.sa c.po n.taker c.hd wi hz fun h' O' sb=>h _ ?_
 have hd:∃o,h'.get? dx=some o:=let⟨o,_,_,e',_⟩:=O'.ns;⟨o,e'⟩;refine I.write (x:=a) (e:=dx) (by rw[e];exact True.intro) (.inr ho) (fun b q hb z=>(sb.2 b hb).trans z) hd ?_;refine⟨by rw[zam O.ne];exact ho,?_,O.ne,O'.obj,_,O'.ns,fun g=>?_,fun g hg=>?_⟩
 ·have:=zid f y fs;lia
 ·show RelO ((putF f y fs).lookup g) (if g=f then some u else mA g);rw[zir]
  by_cases q:g=f
  ·rw[if_pos q,if_pos q];exact ry
  ·rw[if_neg q,if_neg q];exact r g
 ·by_cases q:g=f
  ·rw[q];exact(zib f y fs).1
  ·refine(zib f y fs).2 g (wi g fun z=>hg ?_);show(if g=f then some u else mA g)=none;rw[if_neg q];exact z
theorem Inv.made (I:Inv X pins σ H s):Inv X pins σ (upd (upd H s.heap.objs.size (.own (s.heap.objs.size+1))) (s.heap.objs.size+1) (.ins C s.heap.objs.size []))
  {s with heap:=(s.heap.push W.emptyDict).push (W.instObj C s.heap.objs.size)}:=by
 have e1:(s.heap.push W.emptyDict).get? s.heap.objs.size=some W.emptyDict:=qaG s.heap rfl;have e2:((s.heap.push W.emptyDict).push (W.instObj C s.heap.objs.size)).get? (s.heap.objs.size+1)=some (W.instObj C s.heap.objs.size):=by
  have:=qaG (s.heap.push W.emptyDict) (o:=W.instObj C s.heap.objs.size) rfl;rwa[qaT]at this
 have e3:(s.heap.push W.emptyDict).Ns s.heap.objs.size (fun _=>none):=⟨W.emptyDict,#[],_,e1,rfl,(fun e he=>absurd he (by simp)),fun _=>rfl⟩;have I1:=I.laid (a:=s.heap.objs.size) (o:= .own (s.heap.objs.size+1)) (h':=s.heap.push W.emptyDict) (t':=s.toks) (fun b u q=>qaF _ q) (qaH _) ⟨_,e1⟩;refine I1.laid (a:=s.heap.objs.size+1) (o:= .ins C s.heap.objs.size []) (t':=s.toks) (fun b u q=>qaF _ q) (Nat.le_of_eq (qaT _ _)) ?_;have ne:s.heap.objs.size≠s.heap.objs.size+1:=qag (qaU _);refine⟨by rw[zam ne,zaq],qaV _,ne,e2,fun _=>none,(Heap.Ns1.of_empty e3).at fun o q=>qaF _ q,fun _=>True.intro,fun y hy=>absurd rfl hy⟩
theorem attr_of {env:Env}{f:Str}(hb:attributeBase e f env (eval e env)=eval e env)
  (h:wpAny (model prog w) A (eval e env) (fun o s₁=>wpAny (model prog w) A (getAttr o f true) Q E s₁) E s):wpAny (model prog w) A (eval (.Attribute e f pos) env) Q E s:=
 Attribute_any_ h (by rw[arm_eval_Attribute,hb])
end
def tFld (K:W.Frag)(ta:TE)(f:Str):TE:=fun σ H Q=>ta σ H fun x H1=>∃a C dx fs v,x= .ref a/\H1 a=some (.ins C dx fs)/\Cls K C/\NoAttr K C f/\fs.lookup f=some v/\Q v H1
def sFld (K:W.Frag)(ta tv:TE)(f:Str):TS:=fun D σ H=>tv σ H fun y H1=>ta σ H1 fun x H2=>∃a C dx fs,x= .ref a/\H2 a=some (.ins C dx fs)/\Cls K C/\NoAttr K C f/\fs.length<1000/\
 D.nx σ (upd H2 a (.ins C dx (putF f y fs)))
section
variable {X:Cx} {o e value:Expr} {f:Str} {pos pos' tpos:Pos} {ta tv:TE}
theorem zmg (he:PE X e ta)(hb:attributeBase e f X.env (eval e X.env)=eval e X.env):PE X (.Attribute e f pos) (tFld X.K ta f):=by
 intro pins s σ H Q I h;refine attr_of hb (thn (he pins s σ H _ I h) fun u s1 ⟨x,H1,I1,rx,a,C,dx,fs,v,ex,ea,c,n,l,q⟩=>?_);subst ex;obtain rfl:u=Value.ref a:=rx;exact znO I1 ea c n l fun u' s2 I2 ru=>⟨v,H1,I2,ru,q⟩
theorem zol (ha:PE X o ta)(hv:PE X value tv)(hs:swapsWith value (some (.Attribute o f pos')) pos.line X.env=pure false):PS X (.Assign [.Attribute o f pos'] value pos) (sFld X.K ta tv f):=by
 intro pins s σ H D I h;refine plainObj_wpAny_Assign_Attribute (thn (hv pins s σ H _ I h) fun u s1 ⟨y,H1,I1,ry,q⟩=>thn (ha pins s1 σ H1 _ I1 q) fun ov s2 ⟨x,H2,I2,rx,a,C,dx,fs,ex,ea,c,n,l,q2⟩=>?_) hs;subst ex;obtain rfl:ov=Value.ref a:=rx;exact znn I2 ea c n l ry fun s3 I3=>⟨σ,_,I3,q2⟩
end
structure Room (k:Nat) (A:Around):Prop where
 hd:A.handled=none
 dp:A.depth+3*k+5<recursionLimit
 un:A.units+16*k+200<cLine
 gd:A.guards=some []
theorem Room.mono (r:Room k A)(h:j<=k):Room j A:=⟨r.hd,by have:=r.dp;lia,by have:=r.un;lia,r.gd⟩
theorem Room.deeper (r:Room (k+1) A)(env:Env):Room k (A.deeper env):=
 ⟨r.hd,by have:=r.dp;show A.depth+1+3*k+5<_;lia,by have:=r.un;show A.units+3+16*k+200<_;lia,r.gd⟩
theorem zne {C:Addr}:(A.under (.builtin "type.__call__" ⟨.ref C::us,kw⟩)).depth=A.depth+1:=by
 first|rfl|simp[Around.under,Code.weight,Code.isCreation,Code.isGuard,Code.isCaller,Code.frames,Code.isFrame,guardIds]
theorem znm {C:Addr}:(A.under (.builtin "type.__call__" ⟨.ref C::us,kw⟩)).units=A.units+1:=by
 first|rfl|simp[Around.under,Code.cUnits,Code.frames,Code.isFrame]
theorem zly {C:Addr}:(A.under (.builtin "type.__call__" ⟨.ref C::us,kw⟩)).guards=A.guards:=by
 first|rfl|simp[Around.under,Code.guards,Code.isGuard,guardIds,pushGuards]
theorem Room.make (r:Room (k+1) A)(C:Addr)(us:List Value)(kw:List (Str×Value)):Room k (A.under (.builtin "type.__call__" ⟨.ref C::us,kw⟩)):=
 ⟨r.hd,by have:=r.dp;rw[zne];lia,by have:=r.un;rw[znm];lia,by rw[zly];exact r.gd⟩
theorem Room.depth (r:Room k A):A.depth<recursionLimit:=by have:=r.dp;lia
theorem Room.units (r:Room k A):A.units+64<cLine:=by have:=r.un;lia
def tNil:TA:=fun _ H Q=>Q [] H
def tCons (ta:TE)(tr:TA):TA:=fun σ H Q=>ta σ H fun x H1=>tr σ H1 fun xs H2=>Q (x::xs) H2
section
variable {X:Cx} {e:Expr} {es:List Expr} {te:TE} {t:TA} {pos:Pos}
theorem ziF:PA X [] tNil:=fun _ _ _ _ H Q I h=>Calls.spliced_nil ⟨[],H,I,.nil,h⟩
theorem zeu (ha:PE X e te)(hr:PA X es t)(hs:starEach (e::es) X.env=(false,eval e X.env)::starEach es X.env:=by rfl):PA X (e::es) (tCons te t):=by
 intro pos pins s σ H Q I h;rw[hs];show wpAny _ _ (spliced ((false,eval e X.env)::backTo pos (starEach es X.env))) _ _ s;refine Calls.spliced_cons (thn (ha pins s σ H _ I h) fun u s1 ⟨x,H1,I1,r1,q1⟩=>?_);exact thn (hr pos pins s1 σ H1 _ I1 q1) fun us s2 ⟨xs,H2,I2,r2,q2⟩=>⟨x::xs,H2,I2,.cons r1 r2,q2⟩
def tTup (t:TA):TE:=fun σ H Q=>t σ H fun xs H1=>xs.length<=sizeLine/\∀p,H1 p=none->Q (.ref p) (upd H1 p (.tup xs))
def tLst (t:TA):TE:=fun σ H Q=>t σ H fun xs H1=>xs.length<=sizeLine/\∀p,H1 p=none->Q (.ref p) (upd H1 p (.lst xs))
theorem pe_tup {x1}(h:PA X es t):PE X (.Tuple es x1 pos) (tTup t):=by
 intro pins s σ H Q I hq;refine wpAny_Tuple_spliced (thn (h pos pins s σ H _ I hq) fun us s1 ⟨xs,H1,I1,r,z,q⟩=>⟨by rw[<-r.length];exact z,?_⟩);have hf:H1 s1.heap.objs.size=none:=I1.hok.fresh (qaH _);refine⟨.ref s1.heap.objs.size,upd H1 s1.heap.objs.size (.tup xs),I1.laid (t':=s1.toks) (fun b u e=>qaF _ e) (qaH _) ?_,rfl,q _ hf⟩;exact⟨z,us,r,⟨_,qaG _ rfl,rfl,_,rfl⟩⟩
theorem pe_lst (h:PA X es t):PE X (.List es pos) (tLst t):=by
 intro pins s σ H Q I hq;refine wpAny_List_spliced (thn (h pos pins s σ H _ I hq) fun us s1 ⟨xs,H1,I1,r,z,q⟩=>⟨by rw[<-r.length];exact z,?_⟩);have hf:H1 s1.heap.objs.size=none:=I1.hok.fresh (qaH _);refine⟨.ref s1.heap.objs.size,upd H1 s1.heap.objs.size (.lst xs),I1.laid (t':=s1.toks) (fun b u e=>qaF _ e) (qaH _) ?_,rfl,q _ hf⟩;exact⟨z,us,0,r,qaG _ rfl⟩
end
abbrev Sp:=List V->Hp->VK->XK->Prop
abbrev CXT:=List Env->Hp->Shared->XK->Value->Shared->Prop
structure Env0 (P:Program) (w:World) (K:W.Frag) (mg:Str->Option Value) (base:Heap) (A:Around) (outer:List Env) (s:Shared) (H:Hp):Prop where
 frames:A.frames=some outer
 mod:Mod K mg base
 bs:∀b o,base.get? b=some o->s.heap.get? b=some o/\H b=none
 bsz:base.objs.size<=s.heap.objs.size
 funs:s.heap.FunFrames base outer
 frf:∀b∈frs outer,H b=none
 hok:HOk P w H s.heap
 bare:AllBare s.gens
def CE (outer:List Env)(P:Program)(w:World)(H:Hp)(s:Shared)(Q:VK)(u:Value)(s':Shared):Prop:=
 ∃v H',s'.os=s.os/\AllBare s'.gens/\Un (frs outer) [] H H' s.heap s'.heap/\HOk P w H' s'.heap/\RelV v u/\Q v H'
def CR (CX:CXT)(outer:List Env)(P:Program)(w:World)(H:Hp)(s:Shared)(Q:VK)(E:XK)(r:Result)(s':Shared):Prop:=
 match r with
 | .ok (.ret u)=>CE outer P w H s Q u s'
 | .ok _=>False
 | .error e=>CX outer H s E e s'
structure FnOk (P:Program) (w:World) (K:W.Frag) (mg:Str->Option Value) (base:Heap) (CX:CXT) (k:Nat) (f:Addr) (fd:FuncData) (ps:List Str) (sp:Sp):Prop where
 len:∀vs H Q E,sp vs H Q E->vs.length=ps.length
 run:∀(A:Around) (outer:List Env) (s:Shared) (H:Hp) (args:Args) (us:List Value) (vs:List V) (Q:VK) (E:XK),Room k A->Env0 P w K mg base A outer s H->BindsTo s fd args (ps.zip us)->Vals vs us->sp vs H Q E->
  codeAny (model P w) A (.call (.ref f) args) (CR CX outer P w H s Q E) s
theorem Env0.make {P:Program}(e:Env0 P w K mg base A outer s H)(C:Addr)(us:List Value)(kw:List (Str×Value)):
  Env0 P w K mg base (A.under (.builtin "type.__call__" ⟨.ref C::us,kw⟩)) outer s H:=⟨by first|exact e.frames|(simpa[Around.under,Code.envs,Code.isFrame,pushEnvs]using e.frames),e.mod,e.bs,e.bsz,e.funs,e.frf,e.hok,e.bare⟩
section
variable {X:Cx} {pins:List (Addr×Obj)} {σ:St} {H:Hp} {s s':Shared}
theorem Inv.env0 (I:Inv X pins σ H s):Env0 X.prog X.w X.K X.mg X.base X.A X.stack s H:=
 ⟨I.ok.frames,I.ok.mod,I.bs,qal I.ok.bsz I.sz,I.stack,I.stkFree,I.hok,I.bare⟩
theorem Inv.after {Q:VK}(I:Inv X pins σ H s)(h:CE X.stack X.prog X.w H s Q u s'):EP X pins σ Q u s':=by
 obtain⟨v,H',os,bare,un,hok,r,q⟩:=h;obtain⟨hh,g,d,t,os'⟩:=s';obtain rfl:os'=s.os:=os;exact⟨v,H',I.call (h':=hh) (g':=g) (d':=d) (t':=t) (ch:=[]) un hok bare (fun b z=>absurd z (by simp)),r,q⟩
end
def tCall (sp:Sp)(dvs:List V)(E:XK)(t:TA):TE:=fun σ H Q=>t σ H fun vs H1=>sp (vs++dvs) H1 Q E
def tMeth (C:Addr)(m:Str)(sp:Sp)(dvs:List V)(E:XK)(ta:TE)(t:TA):TE:=fun σ H Q=>ta σ H fun x H1=>∃a dx fs,x= .ref a/\H1 a=some (.ins C dx fs)/\fs.lookup m=none/\
 t σ H1 fun vs H2=>sp (x::(vs++dvs)) H2 Q E
def tMake (C:Addr)(sp:Sp)(dvs:List V)(E:XK)(t:TA):TE:=fun σ H Q=>t σ H fun vs H1=>∀x dx,H1 x=none->H1 dx=none->dx≠x->
 sp (.ref x::(vs++dvs)) (upd (upd H1 dx (.own x)) x (.ins C dx [])) (fun v H2=>v= .non/\Q (.ref x) H2) E
def Binds (K:W.Frag)(fd:FuncData)(ps:List Str)(ds:List Value):Prop:=
 ∀(s:Shared) (us:List Value),K.In s.heap->(us++ds).length=ps.length->BindsTo s fd ⟨us,[]⟩ (ps.zip (us++ds))
theorem Binds.all (h:∀us:List Value,us.length=ps.length->bindArgs fd ⟨us,[]⟩=pure (ps.zip us)):Binds K fd ps []:=fun s us _ hl=>by
 rw[qaW]at hl ⊢;exact .of_eq (h us hl)
def ziP (CX:CXT)(X:Cx)(E:XK):Prop:=∀(pins:List (Addr×Obj)) (σ:St) (H:Hp) (s:Shared) (e:Value) (s':Shared),Inv X pins σ H s->CX X.stack H s E e s'->X.xe e s'
section
variable {X:Cx} {CX:CXT} {k:Nat} {f C:Addr} {fd:FuncData} {ps:List Str} {sp:Sp} {dvs:List V} {ds:List Value} {E:XK} {x m:Str} {p pos apos:Pos} {e o:Expr} {es:List Expr} {ta:TE} {t:TA}
theorem zov {Q:VK}(F:FnOk X.prog X.w X.K X.mg X.base CX k f fd ps sp)(hr:Room k X.A)(hb:Binds X.K fd ps ds)(hd:Vals dvs ds)(hx:ziP CX X E)
  (I:Inv X pins σ H s) (r:Vals vs us) (h:sp (vs++dvs) H Q E):wpAny (model X.prog X.w) X.A (call (.ref f) us) (EP X pins σ Q) X.xe s:=by
 have r2:Vals (vs++dvs) (us++ds):=r.append hd;have hl:(us++ds).length=ps.length:=by rw[<-r2.length];exact F.len _ _ _ _ h
 refine wpAny_call (codeAny_mono (F.run X.A X.stack s H ⟨us,[]⟩ (us++ds) (vs++dvs) Q E hr I.env0 (hb s us I.kIn hl) r2 h) fun r s' hq=>?_);cases r with
 |error e=>exact hx pins σ H s e s' I hq
 |ok fl=>
  cases fl with
  |ret u=>exact I.after hq
  |next=>exact False.elim hq
  |brk=>exact False.elim hq
  |cont=>exact False.elim hq
theorem zjQ (F:FnOk X.prog X.w X.K X.mg X.base CX k f fd ps sp)(hr:Room k X.A)(hg:Gl X x)(hm:X.mg x=some (.ref f))(hk:W.keepIn X.K (.ref f)=true)(hb:Binds X.K fd ps ds)(hd:Vals dvs ds)(hx:ziP CX X E)
  (ha:PA X (e::es) t) (hdb:(x==("__debug__":Str))=false:=by decide) (he:starEach (e::es) X.env=(false,eval e X.env)::starEach es X.env:=by rfl) (hpl:(backTo pos (starEach es X.env)).any (·.1)=false:=by rfl):
  PE X (.Call (.Name x p) (e::es) [] pos) (tCall sp dvs E t):=by
 intro pins s σ H Q I h;refine qaX (zo3 I hg hm ?_ hdb);refine W.callWith_K (h₀:=X.base) I.ok.mod.kin hk (thn (ha pos pins s σ H _ I h) fun us s1 ⟨vs,H1,I1,r,q⟩=>⟨I1.kIn,?_⟩) he hpl;exact zov F hr hb hd hx I1 r q
theorem zqa {pl:Sem Bool}(he:PE X o ta)(c:Cls X.K C)(hm:Meth X.K C m f)(F:FnOk X.prog X.w X.K X.mg X.base CX k f fd ps sp)(hr:Room k X.A)(hb:Binds X.K fd ps ds)(hd:Vals dvs ds)(hx:ziP CX X E)(ha:PA X (e::es) t)
  (hst:starEach (e::es) X.env=(false,eval e X.env)::starEach es X.env:=by rfl) (hpl:(backTo pos (starEach es X.env)).any (·.1)=false:=by rfl)
  (ht : eval (.Call (.Attribute o m apos) (e :: es) [] pos) X.env = (do
   let ov<-eval o X.env
   standAt apos.atName
   let(f,first)<-holding [ov] (getMethod ov m pl)
   callWith pos f first (backTo pos (starEach (e::es) X.env)) (backToKw pos (keywordEach [] X.env))):=by rfl):
  PE X (.Call (.Attribute o m apos) (e::es) [] pos) (tMeth C m sp dvs E ta t):=by
 intro pins s σ H Q I h;refine W.methodCall_KW (pl:=pl) (thn (he pins s σ H _ I h) fun u s1 ⟨x,H1,I1,rx,a,dx,fs,ex,ea,l,q⟩=>?_) ht;subst ex;obtain rfl:u=Value.ref a:=rx;refine zjo I1 ea c hm l ?_;refine W.callWith_K (first:=[.ref a]) (h₀:=X.base) I.ok.mod.kin hm.kp (thn (ha pos pins s1 σ H1 _ I1 q) fun us s2 ⟨vs,H2,I2,r,q2⟩=>⟨I2.kIn,?_⟩) hst hpl;exact zov (us:= .ref a::us) (vs:= .ref a::vs) F hr hb hd hx I2 (.cons rfl r) q2
theorem pe_meth0 {pl:Sem Bool}(he:PE X o ta)(c:Cls X.K C)(hm:Meth X.K C m f)(F:FnOk X.prog X.w X.K X.mg X.base CX k f fd ps sp)(hr:Room k X.A)(hb:Binds X.K fd ps ds)(hd:Vals dvs ds)(hx:ziP CX X E)
  (ht : eval (.Call (.Attribute o m apos) [] [] pos) X.env = (do
   let ov<-eval o X.env
   standAt apos.atName
   let(f,first)<-holding [ov] (getMethod ov m pl)
   callWith pos f first (backTo pos (starEach [] X.env)) (backToKw pos (keywordEach [] X.env))):=by rfl):
  PE X (.Call (.Attribute o m apos) [] [] pos) (tMeth C m sp dvs E ta tNil):=by
 intro pins s σ H Q I h;refine W.methodCall_KW (pl:=pl) (thn (he pins s σ H _ I h) fun u s1 ⟨x,H1,I1,rx,a,dx,fs,ex,ea,l,q⟩=>?_) ht;subst ex;obtain rfl:u=Value.ref a:=rx;refine zjo I1 ea c hm l ?_;exact W.callWith_K0 (first:=[.ref a]) I1.kIn hm.kp (zov (us:=[.ref a]) (vs:=[.ref a]) F hr hb hd hx I1 (.cons rfl .nil) q)
structure Mk (K:W.Frag) (C f:Addr):Prop where
 makes:W.makesIn K C=true
 init:W.findIn K (.ref C) "__init__"=some (some (.ref f))
 fn:W.isFn K (.ref f)=true
 kp:W.keepIn K (.ref C)=true
theorem run_make {Q:VK}(M:Mk X.K C f)(F:FnOk X.prog X.w X.K X.mg X.base CX k f fd ps sp)(hr:Room (k+1) X.A)(hb:Binds X.K fd ps ds)(hd:Vals dvs ds)
  (hx:ziP CX X E) (I:Inv X pins σ H s) (r:Vals vs us)
  (h:∀x dx,H x=none->H dx=none->dx≠x->sp (.ref x::(vs++dvs)) (upd (upd H dx (.own x)) x (.ins C dx [])) (fun v H2=>v= .non/\Q (.ref x) H2) E):
  wpAny (model X.prog X.w) X.A (call (.ref C) us) (EP X pins σ Q) X.xe s:=by
 have hq:=h (s.heap.objs.size+1) s.heap.objs.size (I.hok.fresh (Nat.le_succ _)) (I.hok.fresh (qaH _)) (qag (qaU _));have I2:=Inv.made (C:=C) I;have r2:Vals (V.ref (s.heap.objs.size+1)::(vs++dvs)) (Value.ref (s.heap.objs.size+1)::(us++ds)):= .cons rfl (r.append hd);have hl:(Value.ref (s.heap.objs.size+1)::us++ds).length=ps.length:=by
  have e:=r2.length;rw[F.len _ _ _ _ hq]at e;exact e.symm
 refine wpAny_call (make_map (f:=f) I.kIn M.makes M.init (qaP.mp M.fn) (codeAny_mono (F.run _ X.stack _ _ ⟨Value.ref (s.heap.objs.size+1)::us,[]⟩ (Value.ref (s.heap.objs.size+1)::(us++ds)) _ _ E (hr.make C us [])
  (I2.env0.make C us []) (hb _ (Value.ref (s.heap.objs.size+1)::us) I2.kIn hl) r2 hq) fun r s' hq'=>?_))
 cases r with
 |error e=>exact hx pins σ _ _ e s' I2 hq'
 |ok fl=>
  cases fl with
  |ret u=>
   obtain⟨v,H',I3,rv,ev,q3⟩:=I2.after hq';subst ev;exact⟨rv,⟨V.ref (s.heap.objs.size+1),H',I3,rfl,q3⟩⟩
  |next=>exact False.elim hq'
  |brk=>exact False.elim hq'
  |cont=>exact False.elim hq'
theorem pe_make (M:Mk X.K C f)(F:FnOk X.prog X.w X.K X.mg X.base CX k f fd ps sp)(hr:Room (k+1) X.A)(hg:Gl X x)(hm:X.mg x=some (.ref C))(hb:Binds X.K fd ps ds)(hd:Vals dvs ds)(hx:ziP CX X E)
  (ha:PA X (e::es) t) (hdb:(x==("__debug__":Str))=false:=by decide) (he:starEach (e::es) X.env=(false,eval e X.env)::starEach es X.env:=by rfl) (hpl:(backTo pos (starEach es X.env)).any (·.1)=false:=by rfl):
  PE X (.Call (.Name x p) (e::es) [] pos) (tMake C sp dvs E t):=by
 intro pins s σ H Q I h;refine qaX (zo3 I hg hm ?_ hdb);refine W.callWith_K (h₀:=X.base) I.ok.mod.kin M.kp (thn (ha pos pins s σ H _ I h) fun us s1 ⟨vs,H1,I1,r,q⟩=>⟨I1.kIn,?_⟩) he hpl;exact run_make M F hr hb hd hx I1 r q
end
structure FnScope (N P:List Str) (sc:Scope):Prop where
 kind:sc.kind= .function
 co:sc.isCoroutine=false
 gen:sc.isGenerator=false
 nd:N.Nodup
 pre:N.take P.length=P
 par:∀x∈P,sc.names.lookup x=some .local\/sc.names.lookup x=some .cell
 nofree:∀y∈sc.names,y.2≠ .free
theorem zkT:∀{binds:List (Str×Value)} {m:Str->Option Value},(∀v,(x,v)∉binds)->bindL kindOf binds m x=m x
 |[],_,_=>rfl
 |(n,v)::r,m,h=>by
  unfold bindL;rw[zkT fun w hw=>h w (qap _ hw)]
  split
  ·have:x≠n:=by rintro rfl;exact h v qao
   simp[this]
  ·rfl
theorem zkR:∀{binds:List (Str×Value)} {m:Str->Option Value},(∀v,(x,v)∉binds)->bindC kindOf binds m x=m x
 |[],_,_=>rfl
 |(n,v)::r,m,h=>by
  unfold bindC;rw[zkR fun w hw=>h w (qap _ hw)]
  split
  ·rfl
  ·have:x≠n:=by rintro rfl;exact h v qao
   simp[this]
theorem zk7 {v:Value}:∀{P:List Str} {vs:List Value} {i:Nat} {m:Str->Option Value},P.Nodup->P[i]? =some x->vs[i]? =some v->kindOf x=some .local->
  bindL kindOf (P.zip vs) m x=some v
 |[],_,_,_,_,h,_,_=>by simp at h
 |_::_,[],_,_,_,_,h,_=>by simp at h
 |p::P,w::vs,0,m,nd,h1,h2,hk=>by
  simp at h1 h2;subst h1;subst h2;show bindL kindOf ((p,w)::P.zip vs) m p=_;unfold bindL;rw[zkT fun v hv=>(qaY.mp nd).1 (List.of_mem_zip hv).1,if_pos hk];simp
 |p::P,w::vs,i+1,m,nd,h1,h2,hk=>by
  show bindL kindOf ((p,w)::P.zip vs) m x=_;unfold bindL;exact zk7 (i:=i) (qaY.mp nd).2 (by simpa using h1) (by simpa using h2) hk
theorem zkZ {v:Value}:∀{P:List Str} {vs:List Value} {i:Nat} {m:Str->Option Value},P.Nodup->P[i]? =some x->vs[i]? =some v->kindOf x≠some .local->
  bindC kindOf (P.zip vs) m x=some v
 |[],_,_,_,_,h,_,_=>by simp at h
 |_::_,[],_,_,_,_,h,_=>by simp at h
 |p::P,w::vs,0,m,nd,h1,h2,hk=>by
  simp at h1 h2;subst h1;subst h2;show bindC kindOf ((p,w)::P.zip vs) m p=_;unfold bindC;rw[zkR fun v hv=>(qaY.mp nd).1 (List.of_mem_zip hv).1,if_neg hk];simp
 |p::P,w::vs,i+1,m,nd,h1,h2,hk=>by
  show bindC kindOf ((p,w)::P.zip vs) m x=_;unfold bindC;exact zkZ (i:=i) (qaY.mp nd).2 (by simpa using h1) (by simpa using h2) hk
def start (N:List Str)(vs:List V):St:=vs.map some++List.replicate (N.length-vs.length) none
def cxOf (CX:CXT)(P:Program)(w:World)(K:W.Frag)(mg:Str->Option Value)(base:Heap)(N:List Str)(qual:Str)(scope:Scope)(f:Addr)(cd:Value)(A:Around)(outer:List Env)(s:Shared)(H:Hp)(E:XK):Cx where
 prog:=P
 w:=w
 K:=K
 mg:=mg
 base:=base
 A:=A.deeper (envOfC qual scope s.heap.objs.size f cd)
 N:=N
 s₀:=s
 H₀:=H
 env:=envOfC qual scope s.heap.objs.size f cd
 outer:=outer
 stack:=envOfC qual scope s.heap.objs.size f cd::outer
 ex:=[]
 calm:=true
 fn:=fun _=>true
 pn:=[]
 xe:=fun e s'=>wpAny (model P w) (A.deeper (envOfC qual scope s.heap.objs.size f cd)) (leaving (envOfC qual scope s.heap.objs.size f cd) e) (fun _ s''=>CX outer H s E e s'') (fun e' s''=>CX outer H s E e' s'') s'
theorem zmV (h:sc.names.lookup x=some .cell):∃c,(cellsFrom n sc.names []).lookup x=some c:=by
 have q:=W.cellsFrom_some sc.names n [] (.inl h);exact qaZ.mp q
theorem zps {P:Program}{f:Addr}{s s1:Shared}{E:XK}
  (S:FnScope N ps scope) (hd:A.handled=none) (e0:Env0 P w K mg base A outer s H) (hl:vs.length=ps.length) (r:Vals vs us)
  (x:InCallC s s.heap.objs.size (bindL (envOfC qual scope s.heap.objs.size f cd).kindOf (ps.zip us) fun _=>none) (cellsFrom (s.heap.objs.size+1) scope.names []) (bindC (envOfC qual scope s.heap.objs.size f cd).kindOf (ps.zip us) fun _=>none) s1):
  Inv (cxOf CX P w K mg base N qual scope f cd A outer s H E) [] (start N vs) H s1:=by
 have hpl:ps.length<=N.length:=by have:=congrArg List.length S.pre;rw[qa0]at this;lia
 obtain⟨h1,tk,rfl,hk⟩:=x.done;have noA:∀b:Addr,b∉(cxOf CX P w K mg base N qual scope f cd A outer s H E).ex:=fun b z=>absurd (show b∈([]:List Addr)from z) (by simp)
 refine⟨⟨e0.mod,S.kind,rfl,rfl,qaH _,fun y z c h1 h2=>?_,fun y hy=>?_,fun y c _ h=>?_,fun _=>hd,Around.frames_deeper e0.frames,.inr ⟨rfl,rfl⟩,fun b z=>absurd z (noA b),e0.bs,e0.bsz,fun b _ _=>noA b,fun b z=>absurd z (noA b),e0.funs,e0.frf⟩,
  rfl,e0.bare,Un.kept hk,⟨_,x.toInCall.ns,fun i y v h1 h2 h3=>?_⟩,fun y c h=>⟨_,x.cell y c h⟩,e0.hok.fresh (qaH _),fun y c h=>?_,fun p hp=>absurd (show p∈([]:List (Addr×Obj))from hp) (by simp),e0.hok.kept hk,?_⟩
 ·exact name_of_addr x.apart (qa1 h1) (qa1 h2)
 ·have hy:scope.names.lookup y=some .cell\/scope.names.lookup y=some .free:=hy;rcases hy with hy|hy
  ·exact zmV hy
  ·exact absurd rfl (S.nofree _ (qa1 hy))
 ·exact qam (x.above y c (qa1 h))
 ·have hi:i<vs.length:=by
   unfold start at h2
   by_cases hi:i<vs.length
   ·exact hi
   ·rw[qa2 (by simpa using hi)]at h2;rw[qa3]at h2
    split at h2<;>cases h2
  have ha:vs[i]? =some v:=by
   unfold start at h2;rw[qa4 (by simpa using hi),qa5]at h2;cases e:vs[i]? with
   |none=>rw[e]at h2;cases h2
   |some a=>rw[e]at h2;cases h2;rfl
  obtain⟨u,hu,rv⟩:=r.get ha;have hp:ps[i]? =some y:=by
   rw[<-S.pre,qa6 (by lia)];exact h1
  have ndP:ps.Nodup:=by rw[<-S.pre];exact S.nd.sublist (List.take_sublist _ _)
  refine⟨u,rv,?_⟩;rcases S.par y (qa7 hp)with k|k
  ·exact .inl ⟨k,zk7 ndP hp hu k⟩
  ·obtain⟨c,e⟩:=zmV (n:=s.heap.objs.size+1) k;refine .inr ⟨.inl k,c,e,?_⟩;have q:=x.cell y c e;rw[zkZ ndP hp hu (by show scope.names.lookup y≠_;rw[k];decide)]at q;exact q
 ·exact e0.hok.fresh (qam (x.above y c (qa1 h)))
 ·unfold start;show _=N.length;rw[qa8,qaS,qa9];lia
theorem fn_of {P:Program}{f:Addr}{name qual:Str}{dV kV doc pm cdv ct oc:Value}{an od:Option Addr}
  {osl:Array (Option Value)} {N ps:List Str} {sp:Sp} (lk:K.lookup f=some ⟨oc,od,.func (W.fnOf name qual params body scope dV kV doc pm an cdv ct),osl⟩) (hcd:W.codeIn K cdv qual=true) (S:FnScope N ps scope)
  (len:∀vs H Q E,sp vs H Q E->vs.length=ps.length)
  (hbody : ∀ (A : Around) (outer : List Env) (s : Shared) (H : Hp) (vs : List V) (Q : VK) (E : XK), Room k (A.deeper (envOfC qual scope s.heap.objs.size f cdv)) -> sp vs H Q E ->
   ∃t,PSs (cxOf CX P w K mg base N qual scope f cdv A outer s H E) body t/\t {nx:=fun _ H'=>Q .non H',rt:=Q} (start N vs) H):
  FnOk P w K mg base CX (k+1) f (W.fnOf name qual params body scope dV kV doc pm an cdv ct) ps sp:=by
 refine⟨len,fun A outer s H args us vs Q E hr e0 hb r hsp=>?_⟩;have hl:=len _ _ _ _ hsp;have KX:K.In s.heap:=e0.mod.kin.keeps fun b o e=>(e0.bs b o e).1
 have lim:s.heap.NoLimit:=e0.mod.nolimit.keeps fun b o e=>(e0.bs b o e).1
 have hkind:∀y∈ps.zip us,scope.names.lookup y.1=some .local\/(scope.names.lookup y.1=some .cell/\((cellsFrom (s.heap.objs.size+1) scope.names []).lookup y.1).isSome=true):=fun⟨n,v⟩ hy=>by
  rcases S.par n (List.of_mem_zip hy).1 with q|q
  ·exact .inl q
  ·exact .inr ⟨q,W.cellsFrom_some _ _ _ (.inl q)⟩
 refine codeAny_call_function hr.depth (KX _ _ lk) rfl S.co S.gen rfl (W.codeRec_of KX hcd) (hb _ _ _ _ ?_);refine wpAny_newFunctionEnv_cells S.kind hkind fun env he s1 x=>?_
 subst he;refine⟨lim.keeps x.toInCall.keep,codeAny_func ?_⟩;obtain⟨t,ht,hq⟩:=hbody A outer s H vs Q E (hr.deeper _) hsp;have I:Inv (cxOf CX P w K mg base N qual scope f cdv A outer s H E) [] (start N vs) H s1:=zps S hr.hd e0 hl r x;refine qaw (ht [] s1 (start N vs) H _ I hq) (fun fl s' hs=>?_) fun e s' hs=>hs
 have fin:∀{σ':St} {H':Hp} {v:V} {u:Value},Inv (cxOf CX P w K mg base N qual scope f cdv A outer s H E) [] σ' H' s'->RelV v u->Q v H'->CE outer P w H s Q u s':=
  fun{σ' H' v u} J rv q=>⟨v,H',J.os,J.bare,J.base,J.hok,rv,q⟩
 cases fl with
 |ret u=>
  obtain⟨v,σ',H',J,rv,q⟩:=hs;exact fin J rv q
 |next=>
  obtain⟨σ',H',J,q⟩:=hs;exact fin (v:=V.non) (u:=Value.none) J rfl q
 |brk=>
  obtain⟨_,_,_,q⟩:=hs;exact False.elim q
 |cont=>
  obtain⟨_,_,_,q⟩:=hs;exact False.elim q
section
variable {X:Cx} {x:Str} {p pos:Pos} {e:Expr} {es:List Expr} {t:TA} {id T:String} {r:List V->Hp->VK->Prop}
def tCB (r:List V->Hp->VK->Prop)(t:TA):TE:=fun σ H Q=>t σ H fun vs H1=>r vs H1 Q
theorem zjF (hc:zeS X (.builtin id) r)(hg:Gl X x)(hm:X.mg x=none)(hv:bootBuiltins x=some (.builtin id))(ha:PA X (e::es) t)(hn:x≠"__name__":=by decide)(hdb:(x==("__debug__":Str))=false:=by decide)
  (he:starEach (e::es) X.env=(false,eval e X.env)::starEach es X.env:=by rfl) (hpl:(backTo pos (starEach es X.env)).any (·.1)=false:=by rfl):PE X (.Call (.Name x p) (e::es) [] pos) (tCB r t):=by
 intro pins s σ H Q I h;refine qaX (zlb I hg hm hv ?_ hn hdb);exact PyProof.Rows.callWith_builtin1 (thn (ha pos pins s σ H _ I h) fun us s1 ⟨vs,H1,I1,r1,q1⟩=>hc pins s1 σ H1 vs us Q I1 r1 q1) he hpl
theorem ze4 (hc:zeS X (.type T) r)(hg:Gl X x)(hm:X.mg x=none)(hv:bootBuiltins x=some (.type T))(ha:PA X (e::es) t)(hn:x≠"__name__":=by decide)(hdb:(x==("__debug__":Str))=false:=by decide)
  (he:starEach (e::es) X.env=(false,eval e X.env)::starEach es X.env:=by rfl) (hpl:(backTo pos (starEach es X.env)).any (·.1)=false:=by rfl):PE X (.Call (.Name x p) (e::es) [] pos) (tCB r t):=by
 intro pins s σ H Q I h;refine qaX (zlb I hg hm hv ?_ hn hdb);exact qaI (thn (ha pos pins s σ H _ I h) fun us s1 ⟨vs,H1,I1,r1,q1⟩=>hc pins s1 σ H1 vs us Q I1 r1 q1) he hpl
end
end L2
namespace HT
open PyProof.Rows PySem
def zbn:List Int->List Int->Bool
 |[],[]=>false
 |[],_::_=>true
 |_::_,[]=>false
 |x::xs,y::ys=>if x=y then zbn xs ys else decide (x<y)
theorem zdN (x y:Int)(xs ys:List Int):zbn (x::xs) (y::ys)=if x=y then zbn xs ys else decide (x<y):=rfl
theorem zjK:zbn [] []=false:=rfl
theorem zjg (y:Int)(ys:List Int):zbn [] (y::ys)=true:=rfl
theorem zji (x:Int)(xs:List Int):zbn (x::xs) []=false:=rfl
theorem eqAt_int (A:Around)(s:Shared)(a:Int)(t:Tok)(c:Int)(u:Tok):∃e,SeqAt.EqAt A s (.int a t) (.int c u) e/\(e=true↔a=c):=
 ⟨(a==c),SeqAt.EqAt.int_int a t c u,by simp⟩
theorem rcLt_int (A:Around)(s:Shared)(a:Int)(t:Tok)(c:Int)(u:Tok)(prog:Program)(w:World)(E:Value->Shared->Prop)(Q:Value->Shared->Prop)(h:Q (.bool (decide (a<c))) s):
  wpAny (model prog w) A (richCompare .Lt (.int a t) (.int c u)) Q E s:=
 (PyProof.Rows.lt_int h:wpAny (model prog w) A (compareOp .Lt (.int a t) (.int c u)) Q E s)
section
open PySem.SeqAt
open PySem.AutoSeq1 (wpAny_loadPart')
open PySem.MeetsSeq PySem.MeetsSeq2 PySem.MeetsSeq3
theorem zjY (l b:Addr)(items items2:Array Value)(n n2:Nat)(dd dd2:Option Addr)(sl sl2:Array (Option Value))(ns ms:List Int)(hi:IntsAre items.toList ns)(hj:IntsAre items2.toList ms):
  Meets (Builtin.«tuple.__lt__» ⟨[.ref l,.ref b],[]⟩)
   (fun _ R s => s.heap.get? l = some { cls := .type "tuple", dict := dd, data := .seq items n, slots := sl } /\ s.heap.get? b = some { cls := .type "tuple", dict := dd2, data := .seq items2 n2, slots := sl2 } /\
    R (.ok (.ret (.bool (zbn ns ms)))) s):=
 .of_wp fun prog w A R s h=>by
  obtain⟨hp,g,d,tk,os⟩:=s;obtain⟨hl,hb,h⟩:=h;have f2:=AutoSeq1.sub_tuple_tuple;have z1:items.size=ns.length:=by rw[<-hi.length];simp
  have z2:items2.size=ms.length:=by rw[<-hj.length];simp
  wp_walk using wpAny_loadPart' hl,wpAny_loadPart' hb,wpAny_forIn_list _ (fun rest b s'=>b.1=none/\s'=⟨hp,g,d,tk,os⟩/\∃(vs ws:List Value) (ns' ms':List Int),rest=vs.zip ws/\
   IntsAre vs ns'/\IntsAre ws ms'/\ns'.length+items2.size=ms'.length+items.size/\R (.ok (.ret (.bool (zbn ns' ms')))) ⟨hp,g,d,tk,os⟩) _
  case turn=>
   rintro⟨y,x⟩ rest b s' ⟨hb',rfl,vs,ws,ns',ms',hz,hvi,hwi,hlen,hR⟩;cases hvi with
   |nil=>rw[List.zip_nil_left]at hz;cases hz
   |cons a t hvi'=>
    cases hwi with
    |nil=>rw[qba]at hz;cases hz
    |cons c u hwi'=>
     rw[qbb]at hz;injection hz with hyx hrest
     injection hyx with hy hx
     subst hy hx;rw[zdN]at hR;simp only[qaQ]at hlen;obtain⟨e,he,hiff⟩:=eqAt_int A.in1 ⟨hp,g,d,tk,os⟩ a t c u;refine qaA (he prog w _ _ ?_);cases e with
     |true=>
      rw[if_pos (hiff.mp rfl)]at hR
      wp_walk
      exact⟨rfl,rfl,_,_,_,_,hrest,hvi',hwi',by lia,hR⟩
     |false=>
      rw[if_neg (fun q=>absurd (hiff.mpr q) qaD)]at hR;have hri:=rcLt_int A.in1 ⟨hp,g,d,tk,os⟩ a t c u prog w
      wp_walk using hri
      exact⟨_,rfl,by simpa using hR⟩
  case fin=>
   rintro⟨b1,b2⟩ s' ⟨hb',rfl,vs,ws,ns',ms',hz,hvi,hwi,hlen,hR⟩;simp only at hb';subst hb';have hv:zbn ns' ms'=decide (items.size<items2.size):=by
    cases hvi with
    |nil=>
     cases hwi with
     |nil=>
      simp only[qbc]at hlen;rw[zjK];exact(qaa (by lia)).symm
     |cons c u hw=>
      simp only[qbc,qaQ]at hlen;rw[zjg];exact(qak (by lia)).symm
    |cons a t hv=>
     cases hwi with
     |nil=>
      simp only[qbc,qaQ]at hlen;rw[zji];exact(qaa (by lia)).symm
     |cons c u hw=>
      rw[qbb]at hz;cases hz
   rw[hv]at hR
   wp_walk
   exact⟨_,rfl,by simpa[Builtin.Tuple.tupleCompareSizes]using hR⟩
  case h=>
   exact⟨rfl,rfl,items.toList,items2.toList,ns,ms,rfl,hi,hj,by lia,h⟩
end
section
variable {prog:Program} {w:World} {A:Around} {E:Value->Shared->Prop} {s:Shared}
theorem znj {l b:Addr}{items items2:Array Value}{ns ms:List Int}{Q:Value->Shared->Prop}(hl:IsTup s.heap l items)(hb:IsTup s.heap b items2)(hi:IntsAre items.toList ns)(hj:IntsAre items2.toList ms)
  (hu:A.units<cLine) (h:Q (.bool (zbn ns ms)) s):wpAny (model prog w) A (compareOp .Lt (.ref l) (.ref b)) Q E s:=by
 obtain⟨⟨cls,dd,data,sl⟩,ho,hc,n,hd⟩:=id hl;obtain⟨⟨cls2,dd2,data2,sl2⟩,ho2,hc2,n2,hd2⟩:=id hb;simp only at hc hd hc2 hd2;subst hc hd hc2 hd2;exact richCompare_meets_room (op:= .Lt) ⟨_,ho,rfl⟩ ⟨_,ho2,rfl⟩ PySem.F.slot_tuple_lt PySem.F.entry_tuple_lt (PySem.F.args_tuple_lt_2 _ _) (zjY l b items items2 n n2 dd dd2 sl sl2 ns ms hi hj)
  ⟨ho,ho2,show Value.bool (zbn ns ms)≠Value.notImplemented/\Q (.bool (zbn ns ms)) s from⟨(fun x=>nomatch x),h⟩⟩ hu
theorem cat_tup {t b:Addr}{vs ws:List Value}{Q:Value->Shared->Prop}(ht:IsTup s.heap t vs.toArray)(hb:IsTup s.heap b ws.toArray)(hv:vs≠[])
  (h1:ws=[]->Q (.ref t) s) (h2:ws≠[]->Q (.ref s.heap.objs.size) {s with heap:=s.heap.push {cls:= .type "tuple",data:= .seq (vs++ws).toArray}})
  (hsz:vs.length+ws.length<=sizeLine):wpAny (model prog w) A (binaryOp .Add (.ref t) (.ref b)) Q E s:=by
 obtain⟨⟨cls,dd,data,sl⟩,ho,hc,n,hd⟩:=id ht;obtain⟨⟨cls2,dd2,data2,sl2⟩,ho2,hc2,n2,hd2⟩:=id hb;simp only at hc hd hc2 hd2;subst hc hd hc2 hd2;have e:vs.toArray++ws.toArray=(vs++ws).toArray:=by simp
 by_cases hw:ws=[]
 ·exact concat_meets ⟨_,ho,rfl⟩ ⟨_,ho2,rfl⟩ noFill_tuple_add seq_tuple_add qbd qbe (qbf _ _)
   (tuple_addW1 t b vs.toArray ws.toArray n n2 dd dd2 sl sl2 (by simpa using hv) (by simp[hw])) ⟨ho,ho2,h1 hw⟩
 ·refine concat_meets ⟨_,ho,rfl⟩ ⟨_,ho2,rfl⟩ noFill_tuple_add seq_tuple_add qbd qbe (qbf _ _)
   (tuple_addW2 t b vs.toArray ws.toArray n n2 dd dd2 sl sl2 (by simpa using hv) (by simpa using hw) (by rw[qaM,qaM];exact hsz)) ⟨ho,ho2,?_⟩
  rw[e];exact h2 hw
def sIx (n d:Nat):Option Int->Nat
 |none=>d
 |some v=>if v<0 then(v+(n:Int)).toNat else min v.toNat n
theorem zmT (n d:Nat):sIx n d none=d:=rfl
theorem zj1 (n d k:Nat):sIx n d (some (k:Int))=min k n:=by
 show(if(k:Int)<0 then((k:Int)+(n:Int)).toNat else min (k:Int).toNat n)=min k n;rw[if_neg (by lia),qbg]
theorem sIx_le (n d:Nat)(hd:d<=n)(o:Option Int):sIx n d o<=n:=by
 cases o with
 |none=>exact hd
 |some v=>
  show(if v<0 then(v+(n:Int)).toNat else min v.toNat n)<=n
  by_cases hv:v<0
  ·rw[if_pos hv];lia
  ·rw[if_neg hv];exact Nat.min_le_right _ _
theorem zoY (v:Int)(n d:Nat):(if v<0 then max (v+(n:Int)) 0 else min v (n:Int))=((sIx n d (some v):Nat):Int):=by
 show(if v<0 then max (v+(n:Int)) 0 else min v (n:Int))=(((if v<0 then(v+(n:Int)).toNat else min v.toNat n):Nat):Int)
 by_cases hv:v<0
 ·simp only[if_pos hv];lia
 ·simp only[if_neg hv];lia
theorem znt (lo hi:Option Int)(n:Nat):Builtin.Slice.sliceAdjust lo hi 1 (n:Int)=(((sIx n 0 lo:Nat):Int),((sIx n n hi:Nat):Int)):=by
 have h1:¬((1:Int)<0):=by lia
 unfold Builtin.Slice.sliceAdjust;simp only[h1,qbh];refine Prod.ext ?_ ?_
 ·cases lo with
  |none=>rfl
  |some v=>exact zoY v n 0
 ·cases hi with
  |none=>rfl
  |some v=>exact zoY v n n
theorem zny (i j:Nat):Builtin.Slice.slicePlaces (i:Int) (j:Int) 1=j-i:=by
 unfold Builtin.Slice.slicePlaces;have h1:(1:Int)>0:=by lia
 simp only[h1,if_true,Int.ediv_one]
 split<;>lia
theorem zjq {v:Value}{o:Option Int}{Q:Option Int->Shared->Prop}(p:IsPart v o)(h:Q o s):wpAny (model prog w) A (Builtin.Slice.slicePartIndex v) Q E s:=by
 cases p with
 |none=>exact slicePart_none h
 |int i t=>exact slicePart_int h
theorem zeO {sl:Addr}{vl vu:Value}{lo hi:Option Int}{n:Nat}{Q:Int×Int×Nat->Shared->Prop}(hs:s.heap.IsSliceOf sl vl vu .none)(pl:IsPart vl lo)(pu:IsPart vu hi)
  (h:Q (((sIx n 0 lo:Nat):Int),1,sIx n n hi-sIx n 0 lo) s):wpAny (model prog w) A (Builtin.Slice.sliceApplied (.ref sl) (pure (n:Int))) Q E s:=by
 obtain⟨os,hos,hcs,hds⟩:=id hs;unfold Builtin.Slice.sliceApplied Builtin.Slice.sliceFields;refine qaA (qaA (qbi hos hds (x:=vl) rfl (qaA (qbi hos hds (x:=vu) rfl (qaA (qbi hos hds (x:= .none) rfl (qaE ?_)))))));refine qaA (slicePart_none ?_);show wpAny _ _ (if((1:Int)==0)=true then _ else _) _ _ s;rw[if_neg (by decide)];refine qaA (zjq pl (qaA (zjq pu (qaA (qaE ?_)))));show wpAny _ _ (match Builtin.Slice.sliceAdjust lo hi 1 (n:Int)with|(lo,hi)=>pure (lo,(1:Int),Builtin.Slice.slicePlaces lo hi 1)) _ _ s;rw[znt lo hi n];show wpAny _ _ (pure (((sIx n 0 lo:Nat):Int),(1:Int),Builtin.Slice.slicePlaces ((sIx n 0 lo:Nat):Int) ((sIx n n hi:Nat):Int) 1)) _ _ s;rw[zny];exact qaE h
theorem pick_gen (xs:Array Value)(i k:Nat):((List.range k).filterMap fun(m:Nat)=>xs[((i:Int)+(m:Int)*1).toNat]?).toArray=((xs.toList.drop i).take k).toArray:=by
 have e:(fun(m:Nat)=>xs[((i:Int)+(m:Int)*1).toNat]?)=fun m=>xs[i+m]?:=by
  funext m
  have:((i:Int)+(m:Int)*1).toNat=i+m:=by lia
  rw[this]
 rw[e];have:=pick_run xs i k;rw[List.filterMap_map]at this;have e2:((fun x=>xs[x]?) ∘ fun x=>i+x)=fun m=>xs[i+m]?:=rfl
 rw[e2]at this;rw[this]
theorem zhl {t sl:Addr}{items:Array Value}{vl vu:Value}{lo hi:Option Int}{Q:Value->Shared->Prop}(ht:IsTup s.heap t items)(hs:s.heap.IsSliceOf sl vl vu .none)(pl:IsPart vl lo)(pu:IsPart vu hi)
  (hw:¬(sIx items.size 0 lo=0/\sIx items.size items.size hi=items.size))
  (h:Q (.ref s.heap.objs.size) {s with heap:=s.heap.push {cls:= .type "tuple",data:= .seq ((items.toList.drop (sIx items.size 0 lo)).take (sIx items.size items.size hi-sIx items.size 0 lo)).toArray}})
  (hsz:items.size<=sizeLine):wpAny (model prog w) A (getItem (.ref t) (.ref sl)) Q E s:=by
 have htake:sizeOk (.seq ((items.toList.drop (sIx items.size 0 lo)).take (sIx items.size items.size hi-sIx items.size 0 lo)).toArray):=by
  show((items.toList.drop (sIx items.size 0 lo)).take (sIx items.size items.size hi-sIx items.size 0 lo)).toArray.size<=sizeLine;rw[qaM,qa0,List.length_drop,qay];lia
 have hj:sIx items.size items.size hi<=items.size:=sIx_le _ _ (qaH _) hi;obtain⟨os,hos,hcs,hds⟩:=id hs;have hTs:s.TypeIs (.ref sl) "slice":=⟨os,hos,hcs⟩;unfold getItem
 try with_reducible refine qaB ?_
 first|refine qaA (qaE ?_)|skip
 refine qaA (wpAny_sequenceKey ht.typeIs (by decide) ?_);refine qaA (qbj (name:=Str.ofString "__getitem__") ht.typeIs qbk
  (qbl qbk ht.typeIs entry_tuple_getitem ?_ (args_tuple_getitem _ _)))
 show wpAny _ _ (Builtin.Tuple.tupleItemsOf (.ref t)>>=_) _ _ s;refine qaA (tupleItemsOf_ ht ?_);refine qaA (wpAny_typeOf hTs ?_);rw[if_pos (by decide)];refine qaA (zeO hs pl pu ?_);have hno:¬((((sIx items.size 0 lo:Nat):Int)==0&&(1:Int)==1&&(sIx items.size items.size hi-sIx items.size 0 lo)==items.size)=true):=by
  intro q;rw[qbm,qbm]at q;have q1:((sIx items.size 0 lo:Nat):Int)=0:=eq_of_beq q.1.1;have q2:sIx items.size items.size hi-sIx items.size 0 lo=items.size:=eq_of_beq q.2;exact hw ⟨by lia,by lia⟩
 show wpAny _ _ (if(((sIx items.size 0 lo:Nat):Int)==0&&(1:Int)==1&&(sIx items.size items.size hi-sIx items.size 0 lo)==items.size)=true then _ else _) _ _ s;rw[if_neg hno,pick_gen]
 first
  |exact qaA (m:=Builtin.Tuple.tupleExact _) (qbn (qaE ⟨_,rfl,qaE h⟩) htake)
  |exact qaA (m:=Builtin.Tuple.tupleExact _) (qbn (qaA (qaE (qaE ⟨_,rfl,qaE h⟩))) htake)
  |exact qaA (qaA (m:=Builtin.Tuple.tupleExact _) (qbn (qaE (qaE ⟨_,rfl,qaE h⟩)) htake))
  |exact qaA (qaA (m:=Builtin.Tuple.tupleExact _) (qbn (qaE ⟨_,rfl,qaE h⟩) htake))
end
end HT
namespace L2
open PyProof.Rows PySem PySem.Spec
variable {ns:List Int} {r r':V->Option Int->Option Int->Hp->VK->Prop} {xs:List V} {us its its':List Value} {n j t':Nat} {i:Int} {pins:List (Addr×Obj)} {σ:St} {H:Hp} {s:Shared} {p:Addr} {f:Array Value->Array Value} {A:Around} {y x:V} {u v:Value}
abbrev TO:=St->Hp->(Option Int->Hp->Prop)->Prop
def PO (X:Cx)(e:Option Expr)(t:TO):Prop:=
 ∀(pins:List (Addr×Obj)) (s:Shared) (σ:St) (H:Hp) (Q:Option Int->Hp->Prop),Inv X pins σ H s->t σ H Q->
  wpAny (model X.prog X.w) X.A (evalPart e X.env) (fun u s'=>∃o H',Inv X pins σ H' s'/\IsPart u o/\Q o H') X.xe s
def tNoPart:TO:=fun _ H Q=>Q none H
def tPart (t:TE):TO:=fun σ H Q=>t σ H fun x H1=>∃i,x= .int i/\Q (some i) H1
theorem zfz:∀{us:List Value},Vals (ns.map V.int) us->IntsAre us ns:=by
 induction ns with
 |nil=>intro us r;rw[List.map_nil]at r;cases r;exact .nil
 |cons n ns ih=>
  intro us r;rw[qaR]at r;cases r with
  |cons r1 r2=>
   obtain⟨t,e⟩:=r1;subst e;exact .cons n t (ih r2)
section
variable {X:Cx} {e:Expr} {te:TE} {lo hi:Option Expr} {tl th:TO} {pos p2:Pos}
theorem po_none:PO X none tNoPart:=by
 intro pins s σ H Q I h;rw[evalPart_none];exact qaE ⟨none,H,I,.none,h⟩
theorem po_some (h:PE X e te):PO X (some e) (tPart te):=by
 intro pins s σ H Q I hw;rw[evalPart_some];refine thn (h pins s σ H _ I hw) fun u s1 ⟨x,H1,I1,r1,q1⟩=>?_
 obtain⟨i,rfl,q⟩:=q1;obtain⟨t,rfl⟩:=r1;exact⟨some i,H1,I1,.int i t,q⟩
def SlR (X:Cx)(r:V->Option Int->Option Int->Hp->VK->Prop):Prop:=
 ∀(pins:List (Addr×Obj)) (s:Shared) (σ:St) (H:Hp) (x:V) (v vl vu:Value) (lo hi:Option Int) (sl:Addr) (Q:VK),Inv X pins σ H s->RelV x v->s.heap.IsSliceOf sl vl vu .none->IsPart vl lo->IsPart vu hi->r x lo hi H Q->
  ∃T id,typeLookup (.type T) "__getitem__"=pure (some (.builtin id))/\s.TypeIs v T/\wpAny (model X.prog X.w) X.A (getItem v (.ref sl)) (EP X pins σ Q) X.xe s
theorem SlR.or (h:SlR X r)(h':SlR X r'):SlR X (fun x lo hi H Q=>r x lo hi H Q\/r' x lo hi H Q):=by
 intro pins s σ H x v vl vu lo hi sl Q I rx hs pl pu q;rcases q with q|q
 ·exact h pins s σ H x v vl vu lo hi sl Q I rx hs pl pu q
 ·exact h' pins s σ H x v vl vu lo hi sl Q I rx hs pl pu q
def tSl (r:V->Option Int->Option Int->Hp->VK->Prop)(te:TE)(tl th:TO):TE:=fun σ H Q=>te σ H fun x H1=>tl σ H1 fun l H2=>th σ H2 fun u H3=>r x l u H3 Q
theorem pe_slice (hr:SlR X r)(he:PE X e te)(hl:PO X lo tl)(hu:PO X hi th):PE X (.Subscript e (.Slice lo hi none p2) pos) (tSl r te tl th):=by
 intro pins s σ H Q I h;refine Subscript_ (thn (he pins s σ H _ I h) fun v s1 ⟨x,H1,I1,r1,q1⟩=>?_);refine wpAny_Slice (thn (hl pins s1 σ H1 _ I1 q1) fun vl s2 ⟨l,H2,I2,pl,q2⟩=>thn (hu pins s2 σ H2 _ I2 q2) fun vu s3 ⟨u,H3,I3,pu,q3⟩=>?_);rw[evalPart_none];refine qaE ?_;have I4:Inv X pins σ H3 {s3 with heap:=s3.heap.push {cls:= .type "slice",data:= .fields #[vl,vu,.none]}}:=I3.kept (t':=s3.toks) fun b ob q=>qaF _ q
 obtain⟨T,id,hT,ht,hg⟩:=hr pins {s3 with heap:=s3.heap.push {cls:= .type "slice",data:= .fields #[vl,vu,.none]}} σ H3 x v vl vu l u s3.heap.objs.size Q I4 r1 (Heap.IsSliceOf.new ..) pl pu q3;show wpAny (model X.prog X.w) X.A (subscriptTail e (.Slice lo hi none p2) v (.ref s3.heap.objs.size)) (EP X pins σ Q) X.xe {s3 with heap:=s3.heap.push {cls:= .type "slice",data:= .fields #[vl,vu,.none]}};exact tail_any (ops:=[.ref s3.heap.objs.size,v]) ht hT hg (by with_unfolding_all rfl)
def cutV (xs:List V)(lo hi:Option Int):List V:=(xs.drop (HT.sIx xs.length 0 lo)).take (HT.sIx xs.length xs.length hi-HT.sIx xs.length 0 lo)
theorem ziV (xs:List V)(lo hi:Option Int):(cutV xs lo hi).length<=xs.length:=by
 unfold cutV;rw[qa0,List.length_drop];lia
def rSlT (K:W.Frag):V->Option Int->Option Int->Hp->VK->Prop:=fun x lo hi H Q=>∃a xs,x= .ref a/\SqT K H a xs/\
 ¬(HT.sIx xs.length 0 lo=0/\HT.sIx xs.length xs.length hi=xs.length)/\∀p,H p=none->Q (.ref p) (upd H p (.tup (cutV xs lo hi)))
theorem sl_tup:SlR X (rSlT X.K):=by
 intro pins s σ H x v vl vu lo hi sl Q I rx hs pl pu h;obtain⟨a,xs,rfl,hx,hw,q⟩:=h;cases rx;obtain⟨its,r,ht,hz⟩:=I.tuple hx;have hlen:its.toArray.size=xs.length:=by rw[qaM];exact r.length.symm
 refine⟨"tuple",_,PyProof.Rows.slot_tuple_getitem.lookup,ht.typeIs,?_⟩;refine HT.zhl ht hs pl pu (by rw[hlen];exact hw) ?_ (by rw[hlen];exact hz);rw[hlen];refine⟨.ref s.heap.objs.size,_,I.laid (t':=s.toks) (o:= .tup (cutV xs lo hi)) (fun b ob q=>qaF _ q) (qaH _) ?_,rfl,q _ (I.hok.fresh (qaH _))⟩;exact⟨qal (ziV xs lo hi) hz,_,(r.drop (HT.sIx xs.length 0 lo)).take (HT.sIx xs.length xs.length hi-HT.sIx xs.length 0 lo),IsTup.new _ _⟩
def rCatT (K:W.Frag):R2:=fun x y H Q=>∃a b xs ys,x= .ref a/\y= .ref b/\SqT K H a xs/\SqT K H b ys/\xs≠[]/\xs.length+ys.length<=sizeLine/\
 (ys=[]->Q (.ref a) H)/\(ys≠[]->∀p,H p=none->Q (.ref p) (upd H p (.tup (xs++ys))))
theorem Vals.nil_iff (r:Vals xs us):us=[]↔xs=[]:=by
 cases r with
 |nil=>simp
 |cons _ _=>simp
theorem op_catT:OpR X (binaryOp .Add) (rCatT X.K):=by
 intro pins s σ H x y v u Q I rx ry h;obtain⟨a,b,xs,ys,rfl,rfl,ha,hb,hx,hz,q1,q2⟩:=h;cases rx;cases ry;obtain⟨its,r1,p1,_⟩:=I.tuple ha;obtain⟨its2,r2,p2,_⟩:=I.tuple hb;refine HT.cat_tup p1 p2 (fun z=>hx (r1.nil_iff.mp z)) (fun z=>⟨.ref a,H,I,rfl,q1 (r2.nil_iff.mp z)⟩) (fun z=>?_) (by rw[<-r1.length,<-r2.length];exact hz);refine⟨.ref s.heap.objs.size,_,I.laid (t':=s.toks) (o:= .tup (xs++ys)) (fun b ob q=>qaF _ q) (qaH _) ?_,rfl,q2 (fun w=>z (r2.nil_iff.mpr w)) _ (I.hok.fresh (qaH _))⟩;exact⟨by rw[qa8];exact hz,_,r1.append r2,IsTup.new _ _⟩
end
def ixN (n:Nat)(i:Int):Option Nat:=if 0<=i then(if i<n then some i.toNat else none)else if-(n:Int)<=i then some (i+n).toNat else none
def atI {α:Type}(xs:List α)(i:Int):Option α:=(ixN xs.length i).bind fun j=>xs[j]?
theorem zoB {n:Nat}(h:ixN n i=some j):seqIndex? i n=some j/\j<n/\ -(n:Int)<=i/\i<n:=by
 unfold ixN at h
 by_cases h0:0<=i
 ·rw[if_pos h0]at h
  by_cases h1:i<n
  ·rw[if_pos h1]at h;have e:i.toNat=j:=Option.some.inj h;exact⟨by rw[seqIndex_of h0 h1,e],by lia,by lia,h1⟩
  ·rw[if_neg h1]at h;cases h
 ·rw[if_neg h0]at h
  by_cases h1: -(n:Int)<=i
  ·rw[if_pos h1]at h;have e:(i+n).toNat=j:=Option.some.inj h;exact⟨by rw[seqIndex_neg (by lia) h1,e],by lia,h1,by lia⟩
  ·rw[if_neg h1]at h;cases h
theorem zlz {α:Type}{xs:List α}{v:α}(h:atI xs i=some v):∃j,seqIndex? i xs.length=some j/\xs[j]? =some v/\j<xs.length/\ -(xs.length:Int)<=i/\i<xs.length:=by
 unfold atI at h;cases e:ixN xs.length i with
 |none=>rw[e]at h;cases h
 |some j=>
  rw[e]at h;obtain⟨h1,h2,h3,h4⟩:=zoB e;exact⟨j,h1,h,h2,h3,h4⟩
def zjE (b:Expr):Prop:=∀o i,subscripted b false o i=operate [o,i] (getItem o i)
def IxR (X:Cx)(r:R2):Prop:=
 ∀(value slice:Expr) (pins:List (Addr×Obj)) (s:Shared) (σ:St) (H:Hp) (x y:V) (v u:Value) (Q:VK),Inv X pins σ H s->RelV x v->RelV y u->r x y H Q->
  subscripted slice false v u=operate [v,u] (getItem v u)->wpAny (model X.prog X.w) X.A (subscriptTail value slice v u) (EP X pins σ Q) X.xe s
def MtR (X:Cx)(id:String)(r:V->List V->Hp->VK->Prop):Prop:=
 ∀(pins:List (Addr×Obj)) (s:Shared) (σ:St) (H:Hp) (x:V) (xs:List V) (v:Value) (us:List Value) (Q:VK),Inv X pins σ H s->RelV x v->Vals xs us->r x xs H Q->
  wpAny (model X.prog X.w) X.A (call (.builtin id) (v::us)) (EP X pins σ Q) X.xe s
section
variable {X:Cx} {a b:Expr} {ta tb:TE} {pos:Pos}
theorem IxR.or {r r':R2}(h:IxR X r)(h':IxR X r'):IxR X (fun x y H Q=>r x y H Q\/r' x y H Q):=by
 intro value slice pins s σ H x y v u Q I rx ry q hs;rcases q with q|q
 ·exact h value slice pins s σ H x y v u Q I rx ry q hs
 ·exact h' value slice pins s σ H x y v u Q I rx ry q hs
theorem pe_ix {r:R2}(hr:IxR X r)(ha:PE X a ta)(hb:PE X b tb)(hs:zjE b):PE X (.Subscript a b pos) (tOp r ta tb):=by
 intro pins s σ H Q I h;exact Subscript_ (binT ha hb I h fun v u s2 x y H2 I2 rx ry q=>hr a b pins s2 σ H2 x y v u Q I2 rx ry q (hs _ _))
def rIxL (K:W.Frag):R2:=fun x y H Q=>∃p xs i v,x= .ref p/\y= .int i/\SqL K H p xs/\atI xs i=some v/\Q v H
def rIxT (K:W.Frag):R2:=fun x y H Q=>∃p xs i v,x= .ref p/\y= .int i/\SqT K H p xs/\atI xs i=some v/\Q v H
def rIxS:R2:=fun x y H Q=>∃z i c,x= .str z/\y= .int i/\z.length<=sizeLine/\atI z.cps.toList i=some c/\Q (.str ⟨#[c]⟩) H
theorem ix_list:IxR X (rIxL X.K):=by
 intro value slice pins s σ H x y v u Q I rx ry h hs;obtain⟨p,xs,i,z,rfl,rfl,hq,he,q⟩:=h;cases rx;obtain⟨t,rfl⟩:=ry;obtain⟨its,r,pl,hz⟩:=I.list hq;obtain⟨j,h1,h2,h3,h4,h5⟩:=zlz he;obtain⟨w,ew,rw'⟩:=r.get h2;have hl:=r.length;have hn:=zjr;have fin:EP X pins σ Q w s:=⟨z,H,I,rw',q⟩
 by_cases h0:0<=i
 ·have hj:i.toNat=j:=by
   rw[seqIndex_of h0 h5]at h1;exact Option.some.inj h1
  exact item_listR pl.isList h0 (by lia) (by rw[hj];simpa using ew) fin hs
 ·have hj:(i+(its.toArray.size:Int)).toNat=j:=by
   rw[seqIndex_neg (by lia) h4]at h1;rw[qaM,<-hl];exact Option.some.inj h1
  exact subscriptTail_builtinR (x:=w) pl.isList.typeIs slot_list_getitem.lookup
   (wpAny_getItem_list_neg (Q:=fun r s'=>r=w/\EP X pins σ Q r s') pl.isList (by lia) (by rw[qaM]<;>lia) (by lia) (by rw[hj];simpa using ew) ⟨rfl,fin⟩) hs
theorem ix_tup:IxR X (rIxT X.K):=by
 intro value slice pins s σ H x y v u Q I rx ry h hs;obtain⟨p,xs,i,z,rfl,rfl,hq,he,q⟩:=h;cases rx;obtain⟨t,rfl⟩:=ry;obtain⟨its,r,pl,hz⟩:=I.tuple hq;obtain⟨j,h1,h2,h3,h4,h5⟩:=zlz he;obtain⟨w,ew,rw'⟩:=r.get h2;have hl:=r.length;have hn:=zjr;have fin:EP X pins σ Q w s:=⟨z,H,I,rw',q⟩;exact subscriptTail_builtinR (x:=w) pl.typeIs slot_tuple_getitem.lookup
  (getItem_tuple (j:=j) (Q:=fun r s'=>r=w/\EP X pins σ Q r s') pl (by lia) (by lia) (by rw[qaM,<-hl];exact h1) (by simpa using ew) ⟨rfl,fin⟩) hs
theorem ix_str:IxR X rIxS:=by
 intro value slice pins s σ H x y v u Q I rx ry h hs;obtain⟨z,i,c,rfl,rfl,hz,he,q⟩:=h;obtain⟨t,rfl⟩:=rx;obtain⟨t',rfl⟩:=ry;obtain⟨j,h1,h2,h3,h4,h5⟩:=zlz he;have hl:z.cps.toList.length=z.length:=by simp[Str.length]
 rw[hl]at h1 h4 h5;have hn:=zjr;exact tail_any (typeIs_str s z t) slot_str_getitem.lookup (getItem_str (c:=c) (by
  have e1:decide (i< -(2^63:Int))=false:=qaa (by lia);have e2:decide (i>=2^63)=false:=qaa (by lia);rw[e1,e2,Bool.or_false]) (by rw[h1];simpa using h2) ⟨.str ⟨#[c]⟩,H,I.tok _,⟨_,rfl⟩,q⟩) hs
def rIx (K:W.Frag):R2:=fun x y H Q=>rIxL K x y H Q\/rIxT K x y H Q\/rIxS x y H Q
theorem ix_seq:IxR X (rIx X.K):=ix_list.or (ix_tup.or ix_str)
theorem znD (its:List Value)(n j:Nat)(u:Value):Obj.mapSeq (·.setIfInBounds j u) {cls:= .type "list",data:= .seq its.toArray n}={cls:= .type "list",data:= .seq (its.set j u).toArray n}:=by
 simp[Obj.mapSeq]
theorem Inv.lst (I:Inv X pins σ H s)(h:H p=some (.lst xs)):
  ∃(its:List Value) (n:Nat),Vals xs its/\s.heap.get? p=some {cls:= .type "list",data:= .seq its.toArray n}/\xs.length<=sizeLine:=by
 obtain⟨z,its,n,r,e⟩:=I.hok p _ h;exact⟨its,n,r,e,z⟩
theorem Inv.lstUpd {xs ys:List V}{n n':Nat}{f:Obj->Obj}(I:Inv X pins σ H s)(h:H p=some (.lst xs))
  (ho:s.heap.get? p=some {cls:= .type "list",data:= .seq its.toArray n}) (hf:f {cls:= .type "list",data:= .seq its.toArray n}={cls:= .type "list",data:= .seq its'.toArray n'}) (r:Vals ys its') (hz:ys.length<=sizeLine) (t:Nat):
  Inv X pins σ (upd H p (.lst ys)) {s with heap:=s.heap.update p f,toks:=t}:=by
 have e:(s.heap.update p f).get? p=some {cls:= .type "list",data:= .seq its'.toArray n'}:=by
  rw[qbo f ho (by rw[hf]<;>rfl),hf]
 refine I.write (x:=p) (e:=p) (by rw[h];trivial) (.inl rfl) (fun b u hb q=>(qbp _ _ (Ne.symm hb)).trans q) ⟨_,e⟩ ?_;exact⟨hz,its',n',r,e⟩
def rSetL:V->V->V->Hp->(Hp->Prop)->Prop:=fun o i v H Q=>∃p xs k j,o= .ref p/\i= .int k/\H p=some (.lst xs)/\ixN xs.length k=some j/\Q (upd H p (.lst (xs.set j v)))
theorem zmU:PSet X rSetL:=by
 intro pins s σ H o i v ov iv u Q I ro ri rv h;obtain⟨p,xs,k,j,rfl,rfl,hp,hj,q⟩:=h;cases ro;obtain⟨t,rfl⟩:=ri;obtain⟨its,n,r,ho,hz⟩:=I.lst hp;obtain⟨h1,h2,h3,h4⟩:=zoB hj;have hl:=r.length;have hn:=zjr;have I':Inv X pins σ (upd H p (.lst (xs.set j v))) {s with heap:=s.heap.update p (Obj.mapSeq (·.setIfInBounds j u))}:=
  I.lstUpd hp ho (znD its n j u) (r.set rv j) (by rw[qbq];exact hz) s.toks
 by_cases h0:0<=k
 ·have hk:k.toNat=j:=by
   rw[seqIndex_of h0 h4]at h1;exact Option.some.inj h1
  exact W.ki_setAt ho h0 (by lia) (by rw[qaM,<-hl];exact h4) (by rw[hk];exact⟨_,I',q⟩)
 ·have hk:(k+(its.toArray.size:Int)).toNat=j:=by
   rw[seqIndex_neg (by lia) h3]at h1;rw[qaM,<-hl];exact Option.some.inj h1
  exact W.ki_setBack ho (by lia) (by rw[qaM,<-hl];exact h3) (by lia) (by rw[hk];exact⟨_,I',q⟩)
theorem zkO (lo hi:Option Int)(n:Nat):(sliceBounds lo hi none n).1=((HT.sIx n 0 lo:Nat):Int)/\(sliceBounds lo hi none n).2.1=((HT.sIx n n hi:Nat):Int)/\(sliceBounds lo hi none n).2.2=1:=by
 refine⟨?_,?_,rfl⟩
 ·cases lo with
  |none=>simp[sliceBounds,HT.sIx]
  |some i=>
   simp only[sliceBounds,HT.sIx,Option.getD_none,show(1:Int)>0 by decide,if_true]
   by_cases h:i<0
   ·simp only[h,if_true]<;>lia
   ·simp only[h,qbh]<;>lia
 ·cases hi with
  |none=>simp[sliceBounds,HT.sIx]
  |some i=>
   simp only[sliceBounds,HT.sIx,Option.getD_none,show(1:Int)>0 by decide,if_true]
   by_cases h:i<0
   ·simp only[h,if_true]<;>lia
   ·simp only[h,qbh]<;>lia
theorem zkn (its:List Value)(lo hi:Option Int):slicePick its.toArray lo hi none=((its.drop (HT.sIx its.length 0 lo)).take (HT.sIx its.length its.length hi-HT.sIx its.length 0 lo)).toArray:=by
 obtain⟨h1,h2,h3⟩:=zkO lo hi its.toArray.size;unfold slicePick;rw[h1,h2,h3];simp only[sliceRange_one,pick_run,qaM]<;>rfl
def rSlL (K:W.Frag):V->Option Int->Option Int->Hp->VK->Prop:=fun x lo hi H Q=>∃a xs,x= .ref a/\SqL K H a xs/\∀p,H p=none->Q (.ref p) (upd H p (.lst (cutV xs lo hi)))
theorem sl_list:SlR X (rSlL X.K):=by
 intro pins s σ H x v vl vu lo hi sl Q I rx hs pl pu h;obtain⟨a,xs,rfl,hx,q⟩:=h;cases rx;obtain⟨its,r,ht,hz⟩:=I.list hx;have hlen:=r.length;refine⟨"list",_,slot_list_getitem.lookup,ht.isList.typeIs,?_⟩;refine wpAny_getItem_list_slice ht.isList hs pl pu .none (by simp) ?_ (by rw[qaM]<;>lia)
 rw[zkn,<-hlen];refine⟨.ref s.heap.objs.size,_,I.laid (t':=s.toks) (o:= .lst (cutV xs lo hi)) (fun b ob q=>qaF _ q) (qaH _) ?_,rfl,q _ (I.hok.fresh (qaH _))⟩;exact⟨qal (ziV xs lo hi) hz,_,0,(r.drop (HT.sIx xs.length 0 lo)).take (HT.sIx xs.length xs.length hi-HT.sIx xs.length 0 lo),qaG _ rfl⟩
def zja:V->Bool
 | .non=>true
 | .bl _=>true
 | .int _=>true
 | .str _=>true
 |_=>false
def eqV:V->V->Bool
 | .non,.non=>true
 | .bl a,.bl b=>a==b
 | .bl a,.int b=>(if a then 1 else 0)==b
 | .int a,.bl b=>a==(if b then 1 else 0)
 | .int a,.int b=>a==b
 | .str a,.str b=>a==b
 |_,_=>false
theorem eqAt_V (ry:RelV y u)(rx:RelV x v)(fy:zja y=true)(fx:zja x=true):SeqAt.EqAt A s u v (eqV y x):=by
 cases y with
 |non=>
  cases ry;cases x with
  |non=>cases rx;exact SeqAt.EqAt.same _
  |bl b=>cases rx;exact SeqAt.EqAt.none_bool b
  |int b=>obtain⟨t,rfl⟩:=rx;exact SeqAt.EqAt.none_int b t
  |str b=>obtain⟨t,rfl⟩:=rx;exact SeqAt.EqAt.none_str b t
  |_=>exact absurd (show false=true from fx) qaD
 |bl a=>
  cases ry;cases x with
  |non=>cases rx;exact SeqAt.EqAt.bool_none a
  |bl b=>cases rx;exact SeqAt.EqAt.bool_bool a b
  |int b=>obtain⟨t,rfl⟩:=rx;exact SeqAt.EqAt.bool_int a b t
  |str b=>obtain⟨t,rfl⟩:=rx;exact SeqAt.EqAt.bool_str a b t
  |_=>exact absurd (show false=true from fx) qaD
 |int a=>
  obtain⟨t',rfl⟩:=ry;cases x with
  |non=>cases rx;exact SeqAt.EqAt.int_none a t'
  |bl b=>cases rx;exact SeqAt.EqAt.int_bool a t' b
  |int b=>obtain⟨t,rfl⟩:=rx;exact SeqAt.EqAt.int_int a t' b t
  |str b=>obtain⟨t,rfl⟩:=rx;exact SeqAt.EqAt.int_str a t' b t
  |_=>exact absurd (show false=true from fx) qaD
 |str a=>
  obtain⟨t',rfl⟩:=ry;cases x with
  |non=>cases rx;exact SeqAt.EqAt.str_none a t'
  |bl b=>cases rx;exact SeqAt.EqAt.str_bool a t' b
  |int b=>obtain⟨t,rfl⟩:=rx;exact SeqAt.EqAt.str_int a t' b t
  |str b=>obtain⟨t,rfl⟩:=rx;exact SeqAt.EqAt.str_str a t' b t
  |_=>exact absurd (show false=true from fx) qaD
 |_=>exact absurd (show false=true from fy) qaD
def eqU (x:V)(u:Value):Bool:=match u with
 | .none=>eqV .non x
 | .bool b=>eqV (.bl b) x
 | .int i _=>eqV (.int i) x
 | .str z _=>eqV (.str z) x
 |_=>false
theorem eqU_of (r:RelV y u)(f:zja y=true):eqU x u=eqV y x:=by
 cases y with
 |non=>cases r;rfl
 |bl b=>cases r;rfl
 |int i=>obtain⟨t,rfl⟩:=r;rfl
 |str z=>obtain⟨t,rfl⟩:=r;rfl
 |_=>exact absurd (show false=true from f) qaD
theorem zi7:∀{xs:List V} {us:List Value},Vals xs us->xs.all zja=true->us.any (eqU x)=xs.any fun y=>eqV y x
 |_,_,.nil,_=>rfl
 |y::xs,u::us,.cons r t,f=>by
  rw[qbr,qbm]at f;rw[qbs,qbs,eqU_of r f.1,zi7 t f.2]
theorem zg8 (rx:RelV x v)(fx:zja x=true):∀{xs:List V} {us:List Value},Vals xs us->xs.all zja=true->∀u∈us,SeqAt.EqAt A s u v (eqU x u)
 |_,_,.nil,_=>fun u hu=>by cases hu
 |y::xs,u::us,.cons r t,f=>fun u' hu=>by
  rw[qbr,qbm]at f;rcases qaq.mp hu with rfl|hu
  ·rw[eqU_of r f.1];exact eqAt_V r rx f.1 fx
  ·exact zg8 rx fx t f.2 u' hu
def inV (x:V)(xs:List V):Bool:=xs.any fun y=>eqV y x
def rIn (K:W.Frag)(neg:Bool):R2:=fun x y H Q=>∃p xs,y= .ref p/\(SqL K H p xs\/SqT K H p xs)/\zja x=true/\xs.all zja=true/\Q (.bl (if neg then !inV x xs else inV x xs)) H
theorem zp1:OpR X (compareOp .In) (rIn X.K false):=by
 intro pins s σ H x y v u Q I rx ry h;obtain⟨p,xs,rfl,hq,fx,fs,q⟩:=h;cases ry;rcases hq with hq|hq
 ·obtain⟨its,r,pl,hz⟩:=I.list hq;refine SeqAt.in_listAt (eqU x) pl.isList (fun w hw=>zg8 rx fx r fs w (by simpa using hw)) ⟨.bl _,H,I,rfl,?_⟩;rw[show its.toArray.any (eqU x)=its.any (eqU x) by simp,zi7 r fs];exact q
 ·obtain⟨its,r,pl,hz⟩:=I.tuple hq;refine SeqAt.in_tupleAt (eqU x) pl (fun w hw=>zg8 rx fx r fs w (by simpa using hw)) ⟨.bl _,H,I,rfl,?_⟩;rw[show its.toArray.any (eqU x)=its.any (eqU x) by simp,zi7 r fs];exact q
theorem zkw:OpR X (compareOp .NotIn) (rIn X.K true):=by
 intro pins s σ H x y v u Q I rx ry h;obtain⟨p,xs,rfl,hq,fx,fs,q⟩:=h;cases ry;rcases hq with hq|hq
 ·obtain⟨its,r,pl,hz⟩:=I.list hq;refine SeqAt.notIn_listAt (eqU x) pl.isList (fun w hw=>zg8 rx fx r fs w (by simpa using hw)) ⟨.bl _,H,I,rfl,?_⟩;rw[show its.toArray.any (eqU x)=its.any (eqU x) by simp,zi7 r fs];exact q
 ·obtain⟨its,r,pl,hz⟩:=I.tuple hq;refine SeqAt.notIn_tupleAt (eqU x) pl (fun w hw=>zg8 rx fx r fs w (by simpa using hw)) ⟨.bl _,H,I,rfl,?_⟩;rw[show its.toArray.any (eqU x)=its.any (eqU x) by simp,zi7 r fs];exact q
theorem zhA:zeS X (.builtin "len") (fun xs H Q=>∃p ys,xs=[.ref p]/\(SqL X.K H p ys\/SqT X.K H p ys)/\Q (.int ys.length) H):=by
 intro pins s σ H xs us Q I r h;obtain⟨p,ys,rfl,hq,q⟩:=h;obtain⟨u,rfl,rx⟩:=ziI r;cases rx;have hn:=zjr;rcases hq with hq|hq
 ·obtain⟨its,r',pl,hz⟩:=I.list hq;have hlen:=r'.length;exact Calls.call_len_list pl.isList (by simp only[qaM]<;>lia) ⟨.int ys.length,H,I.tok _,⟨s.toks+1,by rw[qaM,hlen]⟩,q⟩
 ·obtain⟨its,r',pl,hz⟩:=I.tuple hq;have hlen:=r'.length;exact len_tuple pl (by simp only[qaM]<;>lia) ⟨.int ys.length,H,I.tok _,⟨s.toks+1,by rw[qaM,hlen]⟩,q⟩
theorem zjP:zeS X (.type "tuple") (fun xs H Q=>∃p ys,xs=[.ref p]/\((SqL X.K H p ys/\∀l,H l=none->Q (.ref l) (upd H l (.tup ys)))\/(SqT X.K H p ys/\Q (.ref p) H))):=by
 intro pins s σ H xs us Q I r h;obtain⟨p,ys,rfl,h⟩:=h;obtain⟨u,rfl,rx⟩:=ziI r;cases rx;rcases h with⟨hq,q⟩|⟨hq,q⟩
 ·obtain⟨its,r',pl,hz⟩:=I.list hq;have hlen:=r'.length;refine call_tuple_list pl.isList (fun h' kp=>?_) (by simp only[qaM]<;>lia)
  have I1:Inv X pins σ H {s with heap:=h'}:=I.kept (t':=s.toks) kp;have I2:Inv X pins σ (upd H h'.objs.size (.tup ys)) {s with heap:=h'.push {cls:= .type "tuple",data:= .seq its.toArray}}:=
   I1.laid (t':=s.toks) (fun b o e=>qaF _ e) (qaH _) (show ObjOk X.prog X.w _ _ _ (.tup ys)from⟨hz,its,r',IsTup.new _ _⟩)
  exact⟨.ref h'.objs.size,_,I2,rfl,q _ (I1.hok.fresh (qaH _))⟩
 ·obtain⟨its,r',pl,hz⟩:=I.tuple hq;exact call_tuple_same pl ⟨.ref p,H,I,rfl,q⟩
def tyV (K:W.Frag)(T:String)(x:V)(H:Hp):Prop:=match x with
 | .str _=>T="str"
 | .int _=>T="int"
 | .ref p=>(T="list"/\∃xs,SqL K H p xs)\/(T="tuple"/\∃o,K.lookup p=some o/\o.cls= .type "tuple"/\o.dict=none)\/
   (T="dict"/\((∃kvs,H p=some (.dK kvs))\/∃kvs,H p=some (.dT kvs)))\/(T="set"/\∃S n,H p=some (.set S n))
 |_=>False
theorem tyV_is {T:String}(I:Inv X pins σ H s)(r:RelV x v)(ty:tyV X.K T x H):
  s.TypeIs v T/\∀a,v= .ref a->∃ob,s.heap.get? a=some ob/\ob.dict=none:=by
 cases x with
 |str z=>
  obtain⟨t,rfl⟩:=r;cases(show T="str" from ty);exact⟨typeIs_str s z t,fun _ e=>nomatch e⟩
 |int i=>
  obtain⟨t,rfl⟩:=r;cases(show T="int" from ty);exact⟨typeIs_int s i t,fun _ e=>nomatch e⟩
 |ref p=>
  cases r;rcases ty with⟨rfl,xs,hq⟩|⟨rfl,o,hk,hc,hd⟩|⟨rfl,hk⟩|⟨rfl,S,n,hk⟩
  ·obtain⟨its,_,pl,_⟩:=I.list hq;refine⟨pl.isList.typeIs,fun a e=>?_⟩;cases e;obtain⟨o,n,e,c,hd,_⟩:=pl;exact⟨o,e,hd⟩
  ·refine⟨⟨o,I.kIn p o hk,hc⟩,fun a e=>?_⟩;cases e;exact⟨o,I.kIn _ o hk,hd⟩
  ·have z:∃o,s.heap.get? p=some o/\o.ExactDict:=by
    rcases hk with⟨kvs,hk⟩|⟨kvs,hk⟩
    ·obtain⟨_,_,_,_,o,_,_,e,ex,_⟩:=I.hok p _ hk;exact⟨o,e,ex⟩
    ·obtain⟨_,_,_,_,o,_,_,e,ex,_⟩:=I.hok p _ hk;exact⟨o,e,ex⟩
   obtain⟨o,e,ex⟩:=z;refine⟨⟨o,e,ex.1⟩,fun a e2=>?_⟩;cases e2;exact⟨o,e,ex.2.1⟩
  ·obtain⟨o,_,_,_,e,ex,_⟩:=I.hok p _ hk;refine⟨⟨o,e,ex.1⟩,fun a e2=>?_⟩;cases e2;exact⟨o,e,ex.2.1⟩
 |_=>exact False.elim ty
def tBM (K:W.Frag)(T:String)(r:V->List V->Hp->VK->Prop)(to:TE)(t:TA):TE:=fun σ H Q=>to σ H fun x H1=>tyV K T x H1/\t σ H1 fun xs H2=>r x xs H2 Q
variable {o e:Expr} {es:List Expr} {to:TE} {t:TA} {name:Str} {apos cpos:Pos} {T id:String} {r:V->List V->Hp->VK->Prop}
theorem pe_bm (pa:PlainAttrs T)(slot:Slot T name id)(hty:typeOf (.builtin id)=pure (.type "method_descriptor"))(hm:MtR X id r)(ho:PE X o to)(ha:PA X (e::es) t)
  (hbase:attributeBase o name X.env (eval o X.env)=eval o X.env:=by rfl)
  (hfew : ((backTo cpos (starEach (e :: es) X.env)).all (fun x => !x.1) && (backToKw cpos (keywordEach [] X.env)).all (fun x => x.1.isSome)
   &&decide ((e::es).length+([]:List Keyword).length+(if([]:List Keyword).isEmpty then 0 else 1)<30))=true:=by rfl)
  (hline:(apos.endLine==cpos.line)=true:=by rfl) (hs:starEach (e::es) X.env=(false,eval e X.env)::starEach es X.env:=by rfl) (hplain:(backTo cpos (starEach es X.env)).any (·.1)=false:=by rfl):
  PE X (.Call (.Attribute o name apos) (e::es) [] cpos) (tBM X.K T r to t):=by
 intro pins s σ H Q I h;refine wpAny_Call_method_late hbase hfew hline rfl (thn (ho pins s σ H _ I h) fun v s1 ⟨x,H1,I1,r1,ty,q1⟩=>?_);obtain⟨h1,h2⟩:=tyV_is I1 r1 ty;refine⟨T,id,pa,slot,hty,h1,h2,?_⟩;have hA:=ha cpos pins s1 σ H1 _ I1 q1;rw[hs]at hA ⊢;refine Calls.callWith_builtin (by show(false||(backTo cpos (starEach es X.env)).any (·.1))=false;rw[hplain]<;>rfl) (Calls.evalArgs_plain ?_)
 exact thn hA fun us s2 ⟨vs,H2,I2,r2,q2⟩=>hm pins s2 σ H2 x vs v us Q I2 r1 r2 q2
end
def MtM (X:Cx)(id:String)(r:V->List V->Hp->VK->Prop):Prop:=
 ∀(pins:List (Addr×Obj)) (s:Shared) (σ:St) (H:Hp) (x:V) (xs:List V) (v:Value) (us:List Value) (Q:VK),Inv X pins σ H s->RelV x v->Vals xs us->r x xs H Q->
  wpAny (model X.prog X.w) X.A (call (.builtin id) (v::us)) (EP X pins σ Q) X.xe s
theorem Vals.one:∀{x:V} {us:List Value},Vals [x] us->∃u,us=[u]/\RelV x u
 |_,_,.cons r .nil=>⟨_,rfl,r⟩
theorem Vals.eraseIdx:∀{xs:List V} {us:List Value} (i:Nat),Vals xs us->Vals (xs.eraseIdx i) (us.eraseIdx i)
 |_,_,_,.nil=> .nil
 |_,_,0,.cons _ t=>t
 |_,_,i+1,.cons r t=> .cons r (Vals.eraseIdx i t)
theorem Vals.rep (h:Vals xs us):∀k:Nat,Vals (List.replicate k xs).flatten (List.replicate k us).flatten
 |0=> .nil
 |k+1=>by
  rw[qbt,qbt,qbu,qbu];exact Vals.append h (Vals.rep h k)
theorem zk9 {α:Type}:∀(l:List α) (i:Nat),(l.eraseIdx i).length<=l.length
 |[],_=>qaH _
 |_::_,0=>Nat.le_succ _
 |_::r,i+1=>Nat.succ_le_succ (zk9 r i)
theorem zlc (its:List Value):∀(k:Nat) (acc:List Value),
  List.foldl (fun x1 x2=>x1++x2) acc.toArray (List.replicate k its.toArray)=(acc++(List.replicate k its).flatten).toArray
 |0,acc=>by simp
 |k+1,acc=>by
  have e:acc.toArray++its.toArray=(acc++its).toArray:=by simp
  have e2:(acc++its)++(List.replicate k its).flatten=acc++(List.replicate (k+1) its).flatten:=by
   rw[qbt,qbu,qbv]
  rw[<-e2,<-zlc its k (acc++its),<-e,qbt,qbw]
section
variable {X:Cx} {pins:List (Addr×Obj)} {σ:St} {H:Hp} {s:Shared} {l b:Addr} {xs ys zs:List V}
theorem Inv.lset (I:Inv X pins σ H s)(hH:H l=some (.lst xs))
  (e:s.heap.get? l=some {cls:= .type "list",data:= .seq its.toArray n}) (hf:f its.toArray=its'.toArray) (hv:Vals ys its') (hz:ys.length<=sizeLine):
  Inv X pins σ (upd H l (.lst ys)) {s with heap:=s.heap.update l (Obj.mapSeq f),toks:=t'}:=by
 have q:=PySem.IsL.update e f;rw[hf]at q;refine I.write (x:=l) (e:=l) (by rw[hH];exact trivial) (.inl rfl) (fun b' u hb hu=>(qbp s.heap (Obj.mapSeq f) (Ne.symm hb)).trans hu) ⟨_,q⟩ ?_;exact⟨hz,its',_,hv,q⟩
theorem Inv.lnew (I:Inv X pins σ H s)(hv:Vals ys its)(hz:ys.length<=sizeLine):
  Inv X pins σ (upd H s.heap.objs.size (.lst ys)) {s with heap:=s.heap.push {cls:= .type "list",data:= .seq its.toArray},toks:=t'}:=
 I.laid (fun _ _ q=>qaF _ q) (qaH _) ⟨hz,its,0,hv,qaG _ rfl⟩
theorem Inv.fresh (I:Inv X pins σ H s):H s.heap.objs.size=none:=I.hok.fresh (qaH _)
theorem Inv.lstM (I:Inv X pins σ H s)(hH:H l=some (.lst xs)):xs.length<=sizeLine/\∃(its:List Value) (n:Nat),Vals xs its/\xs.length=its.length/\s.heap.get? l=some {cls:= .type "list",data:= .seq its.toArray n}:=by
 obtain⟨z,its,n,r,e⟩:=I.hok l _ hH;exact⟨z,its,n,r,r.length,e⟩
theorem zmp (h:n<=sizeLine):Builtin.List.listTooLong n=false:=by
 unfold Builtin.List.listTooLong;exact qaa (by lia)
end
section
variable {X:Cx}
def rAppend:V->List V->Hp->VK->Prop:=fun x vs H Q=>∃l xs y,x= .ref l/\vs=[y]/\H l=some (.lst xs)/\xs.length<sizeLine/\Q .non (upd H l (.lst (xs++[y])))
theorem zkX:MtM X "list.append" rAppend:=by
 intro pins s σ H x vs v us Q I rx rv h;obtain⟨l,xs,y,rfl,rfl,hH,hz,q⟩:=h;cases rx;obtain⟨u,rfl,ru⟩:=rv.one;obtain⟨z,its,n,r,hl,e⟩:=I.lstM hH;refine call_meets F.slot_list_append ⟨_,e,rfl⟩ F.entry_list_append (F.args_list_append_2 _ _) (PySem.list_append l its.toArray n u (by rw[qaM];lia)) ⟨e,?_⟩;refine⟨.non,_,I.lset (its':=its++[u]) hH e (by simp) (r.append (.cons ru .nil)) ?_,rfl,q⟩;rw[qa8,List.length_singleton];lia
def rExtend:V->List V->Hp->VK->Prop:=fun x vs H Q=>∃l b xs zs,x= .ref l/\vs=[.ref b]/\H l=some (.lst xs)/\H b=some (.lst zs)/\xs.length+zs.length<=sizeLine/\Q .non (upd H l (.lst (xs++zs)))
theorem zoi:MtM X "list.extend" rExtend:=by
 intro pins s σ H x vs v us Q I rx rv h;obtain⟨l,b,xs,zs,rfl,rfl,hH,hB,hz,q⟩:=h;cases rx;obtain⟨u,rfl,ru⟩:=rv.one;cases ru;obtain⟨z,its,n,r,hl,e⟩:=I.lstM hH;obtain⟨z2,its2,n2,r2,hl2,e2⟩:=I.lstM hB;have hsz:its.toArray.size+its2.toArray.size<=sizeLine:=by rw[qaM,qaM];lia
 have hlong:¬(!its.toArray.isEmpty&&Builtin.List.listTooLong (its.toArray.size+its2.toArray.size))=true:=by
  rw[zmp hsz,Bool.and_false];exact qaD
 refine call_meets F.slot_list_extend ⟨_,e,rfl⟩ F.entry_list_extend (F.args_list_extend_2 _ _)
  (AutoSeq1.list_extend_list_list_0 l its.toArray n b its2.toArray n2 hlong (by rw[qaM];lia) (by lia)) ⟨e,e2,?_⟩
 refine⟨.non,_,I.lset (its':=its++its2) hH e (by simp) (r.append r2) ?_,rfl,q⟩;rw[qa8];lia
def rPopAt:V->List V->Hp->VK->Prop:=fun x vs H Q=>∃l xs i k y,x= .ref l/\vs=[.int i]/\H l=some (.lst xs)/\ -(2^63)<=i/\i<2^63/\seqIndex? i xs.length=some k/\xs[k]? =some y/\Q y (upd H l (.lst (xs.eraseIdx k)))
theorem mt_popAt:MtM X "list.pop" rPopAt:=by
 intro pins s σ H x vs v us Q I rx rv h;obtain⟨l,xs,i,k,y,rfl,rfl,hH,h1,h2,hk,hy,q⟩:=h;cases rx;obtain⟨u,rfl,ru⟩:=rv.one;obtain⟨t,rfl⟩:=ru;obtain⟨z,its,n,r,hl,e⟩:=I.lstM hH;obtain⟨w,hw,rw'⟩:=r.get hy;refine call_meets F.slot_list_pop ⟨_,e,rfl⟩ F.entry_list_pop (F.args_list_pop_2 _ _)
  (MeetsSeq.list_pop_at l its.toArray n i t k w (fitsIndex_both h1 h2) (by rw[qaM,<-hl];exact hk) (by rw[<-Array.getElem?_toList];exact hw) (by rw[qaM];lia)) ⟨e,?_⟩
 refine⟨y,_,I.lset (its':=its.eraseIdx k) hH e ?_ (r.eraseIdx k) ?_,rw',q⟩
 ·show its.toArray.eraseIdxIfInBounds k=(its.eraseIdx k).toArray;rw[List.eraseIdxIfInBounds_toArray]
 ·have:=zk9 xs k;lia
def rCat:R2:=fun x y H Q=>∃l b xs zs,x= .ref l/\y= .ref b/\H l=some (.lst xs)/\H b=some (.lst zs)/\xs.length+zs.length<=sizeLine/\∀p,H p=none->Q (.ref p) (upd H p (.lst (xs++zs)))
theorem op_cat:OpR X (binaryOp .Add) rCat:=by
 intro pins s σ H x y v u Q I rx ry h;obtain⟨l,b,xs,zs,rfl,rfl,hH,hB,hz,q⟩:=h;cases rx;cases ry;obtain⟨z,its,n,r,hl,e⟩:=I.lstM hH;obtain⟨z2,its2,n2,r2,hl2,e2⟩:=I.lstM hB;refine PySem.P.add_list e e2 ?_ (by rw[qaM,qaM];lia);have ea:its.toArray++its2.toArray=(its++its2).toArray:=by simp
 rw[ea];exact⟨.ref _,_,I.lnew (t':=s.toks) (r.append r2) (by rw[qa8];lia),rfl,q _ I.fresh⟩
def rRep:R2:=fun x y H Q=>∃l k xs,x= .ref l/\y= .int k/\H l=some (.lst xs)/\ -(2^63)<=k/\k<2^63/\xs.length*k.toNat<=sizeLine/\
 ∀p,H p=none->Q (.ref p) (upd H p (.lst (List.replicate k.toNat xs).flatten))
theorem len_rep {α:Type}(xs:List α)(k:Nat):(List.replicate k xs).flatten.length=k*xs.length:=by
 induction k with
 |zero=>simp
 |succ k ih=>rw[qbt,qbu,qa8,ih,Nat.succ_mul,Nat.add_comm]
theorem op_rep:OpR X (binaryOp .Mult) rRep:=by
 intro pins s σ H x y v u Q I rx ry h;obtain⟨l,k,xs,rfl,rfl,hH,h1,h2,hz,q⟩:=h;cases rx;obtain⟨t,rfl⟩:=ry;obtain⟨z,its,n,r,hl,e⟩:=I.lstM hH;have hlen:its.toArray.size*k.toNat<=sizeLine:=by rw[qaM,<-hl];exact hz
 have hcap:¬its.toArray.size*k.toNat>(2^63-1)/8:=by
  have:(sizeLine:Nat)<=(2^63-1)/8:=by decide
  lia
 have hfit:¬(!Builtin.List.listFitsIndex k)=true:=by
  rw[fitsIndex_both h1 h2];exact qaD
 have hlong:¬Builtin.List.listTooLong (its.toArray.size*k.toNat)=true:=by
  rw[zmp hlen];exact qaD
 have hnew:List.foldl (fun x1 x2=>x1++x2) #[] (List.replicate (if its.toArray.isEmpty=true then 0 else k.toNat) its.toArray)=(List.replicate k.toNat its).flatten.toArray:=by
  have f0:∀m:Nat,List.foldl (fun x1 x2=>x1++x2) #[] (List.replicate m its.toArray)=(List.replicate m its).flatten.toArray:=fun m=>by
   have:=zlc its m [];rw[List.nil_append]at this;exact this
  rw[f0];cases its with
  |nil=>simp
  |cons a r'=>rw[if_neg (by simp)]
 refine wpAny_binaryOp_repeat_ref (T:="list") (U:="int") (by decide) ⟨_,e,rfl⟩ (fun s'=>typeIs_int s' k t) noFill_list_mul F.fills_int_mul F.slot_int_rmul repeat_list F.slot_int_index.lookup
  (call_meets F.slot_int_rmul (typeIs_int s k t) F.entry_int_rmul (F.args_int_rmul_2 _ _) (int___rmul___int_list k t l its.toArray n)
   ⟨e,rfl,⟨_,e,rfl⟩,call_meets F.slot_list_mul ⟨_,e,rfl⟩ F.entry_list_mul (F.args_list_mul_2 _ _) (AutoListH.list___mul___list_int_3 l its.toArray n k t hfit hcap hlong) ⟨e,?_⟩⟩)
 rw[hnew];exact⟨.ref _,_,I.lnew (t':=s.toks) (r.rep k.toNat) (by rw[len_rep,Nat.mul_comm];exact hz),rfl,q _ I.fresh⟩
end
end L2
namespace Att
open PyProof.Rows PySem PySem.Calls PySem.W
theorem zix {P:Params}{h:Heap}:∀(ns:List Int) (vs:List Value),WellAll P h vs (ns.map WData.int)->IntsAre vs ns:=by
 intro ns
 induction ns with
 |nil=>
  intro vs w;rw[List.map_nil]at w;cases w;exact .nil
 |cons n ns ih=>
  intro vs w;rw[qaR]at w;cases w with
  |cons a b=>
   cases a;exact .cons _ _ (ih _ b)
theorem zo6 {l:OpenLaw}{n:Nat}(hn:l.most=some n){P:Params}{h:Heap}{args:List WData}{vals:List Value}
  (hpre:l.row.toRowW.claim.pre args=true) (hwl:WellAll P h vals args):
  ∃a vs ns,vals=[Value.ref a]/\args=[WData.list (ns.map WData.int)]/\h.get? a=some {cls:= .type "list",data:= .seq vs.toArray}/\IntsAre vs ns/\ns.length<=n:=by
 have hsh:WShape.hasAll [] args [.list .int]=true:=(pre_splitW hpre).1;have hc:l.pre.holds [] {args:=args}=true:=(pre_splitW hpre).2;obtain⟨d,r,rfl,h1,h2⟩:=hasAllW_cons hsh;obtain rfl:=hasAllW_nil h2;obtain⟨xs,rfl,h3⟩:=hasW_list h1;obtain⟨ns,rfl⟩:=items_int h3;have hlen:ns.length<=n:=by
  unfold OpenLaw.pre at hc;have h4:(WTm.not (.lt (.lit (.int (n:Int))) (.len (.arg 0)))).holds [] {args:=[.list (ns.map .int)]}=true:=by
   have h4:=(holds_andW hc).1;rw[hn]at h4;exact h4
  have h5:=condW_of h4 (w_not (w_lt w_lit (w_len_list (w_arg rfl))));rw[qaS]at h5;refine Nat.le_of_not_lt fun q=>?_
  have q':(n:Int)<((ns.length:Nat):Int):=by lia
  first
   |(rw[qak q']at h5;exact absurd h5 (by decide))
   |(simp at h5;lia)
 cases hwl with
 |cons w1 w2=>
  cases w2;cases w1 with
  |list ho hall=>exact⟨_,_,ns,rfl,rfl,ho,zix ns _ hall,hlen⟩
theorem zpn (l:OpenLaw)(args:List WData):l.row.toRowW.claim.post args (.bool true) args=true:=
 postW_of (r:=l.row.toRowW) (X:=(true==true))
  (show WShape.has [] (.bool true) .bool=true by first|rfl|decide|simp[WShape.has,WShape.arms,WShape.armsAll])
  (show(WTm.eq .res (.lit (.bool true))).value [] {args:=args,res:=some (.bool true),after:=args}=some (.bool (true==true))from w_eq_bool (w_res rfl) w_lit) rfl
theorem attach_call {l:OpenLaw}{n:Nat}{q:Program}{loose:List Str}{XP:(Str->Option Value)->Heap->Prop}{YP:World->Heap->Prop}{d:DefRec}
  (hn:l.most=some n) (hdf:d.params.defaults=[])
  (call : ∀ (w : World) (s₀ s₁ : Shared) (mg mb : Str -> Option Value) (fa : Addr) (o : Obj) (pm cd doc : Value) (a : Addr) (vs : List Value) (ns : List Int),
   Ground q loose [] XP w s₀ mg mb s₁.heap->YP w s₁.heap->
   s₁.heap.get? fa=some o->o.data= .func (docDef d.name d.params d.body d.scope pm cd doc)->s₁.heap.CodeRec cd d.name->mg d.name=some (.ref fa)->
   s₁.heap.get? a=some {cls:= .type "list",data:= .seq vs.toArray}->IntsAre vs ns->ns.length<=n->s₁.gens= #[]->
   codeAny (model l.prog w) callerA (.call (.ref fa) ⟨[.ref a],[]⟩) (fun r s'=>r= .ok (.ret (.bool true))/\OldK s₁.heap s'.heap/\s'.os=s₁.os/\AllBare s'.gens) s₁):
  WalkO q loose XP YP l.row.toRowW d [] (fun f vs=>PySem.call f vs):=by
 intro w s₀ s₁ mg mb G Y fa o pm cd doc dV kV ho hd hcd hD hmg hg args vals as hpre hlay hrd hwl hlo;obtain rfl:dV= .none:=Dflts.none hD hdf;obtain rfl:kV= .none:=Dflts.noKw hD;obtain⟨a,vs,ns,rfl,rfl,hobj,hints,hlen⟩:=zo6 hn hpre hwl;refine enter_call (codeAny_mono (call w s₀ s₁ mg mb fa o pm cd doc a vs ns G Y ho (fd_plain hd) hcd hmg hobj hints hlen hg) fun r s' hq=>?_);obtain⟨rfl,h2,h3,h4⟩:=hq;exact⟨.inl ⟨.bool true,.bool true,[],rfl,fun _=>rfl,.bool true,zpn l _,fun _=>⟨List.Pairwise.nil,fun _ hm=>(nomatch hm)⟩⟩,h2,h3,h4⟩
end Att
namespace L2
open PyProof.Rows PySem PySem.Spec
variable {w:World} {K:W.Frag} {CX:World->CXT} {k:Nat} {a f:Addr} {fd:FuncData} {x qual:Str} {sp:Sp} {vs:List Value} {ns:List Int} {l:W.OpenLaw} {q prog:Program} {loose ps:List Str} {XP:(Str->Option Value)->Heap->Prop} {YP:World->Heap->Prop} {d:DefRec} {oc u:Value} {osl:Array (Option Value)} {xs:List V} {o:Option V} {y:V} {h':Heap} {A:Around} {E Q:Value->Shared->Prop} {s:Shared}
theorem zgK:∀{vs:List Value} {ns:List Int},IntsAre vs ns->Vals (ns.map V.int) vs
 |_,_,.nil=> .nil
 |_,_,.cons n t h=> .cons ⟨t,rfl⟩ (zgK h)
def Only (H:Hp):Prop:=∀b,H b=none\/∃o xs,H b=some (.frz o (.lst xs))
theorem law_call {P:Program}{mg mb:Str->Option Value}{CX:CXT}{fa a:Addr}{s₁:Shared}
  (KX:K.In s₁.heap) (hns:s₁.heap.Ns mainGlobals mg) (hb:s₁.heap.Ns builtinsNs mb) (hbb:∀x:Str,x≠"__name__"->mb x=bootBuiltins x) (hlim:s₁.heap.NoLimit) (hg:s₁.gens= #[])
  (ha:s₁.heap.get? a=some {cls:= .type "list",data:= .seq vs.toArray}) (hi:IntsAre vs ns) (hl:ns.length<=sizeLine) (hr:Room k callerA)
  (F:∀base:Heap,K.In base->base.Ns mainGlobals mg->FnOk P w K mg base CX k fa fd [x] sp) (hbind:∀(s:Shared) (u:Value),BindsTo s fd ⟨[u],[]⟩ [(x,u)])
  (hsp:∀H:Hp,Only H->SqL K H a (ns.map V.int)->sp [.ref a] H (fun v _=>v= .bl true) fun _ _ _=>False)
  (hCX:∀H e s',CX [] H s₁ (fun _ _ _=>False) e s'->False):
  codeAny (model P w) callerA (.call (.ref fa) ⟨[.ref a],[]⟩) (fun r s'=>r= .ok (.ret (.bool true))/\OldK s₁.heap s'.heap/\s'.os=s₁.os/\AllBare s'.gens) s₁:=by
 have rv:=zgK hi;have lenV:=hi.length;have core:∀H:Hp,Only H->SqL K H a (ns.map V.int)->HOk P w H s₁.heap->(∀b,H b≠none->b=a)->(H a≠none->K.lookup a=none)->
   codeAny (model P w) callerA (.call (.ref fa) ⟨[.ref a],[]⟩) (fun r s'=>r= .ok (.ret (.bool true))/\OldK s₁.heap s'.heap/\s'.os=s₁.os/\AllBare s'.gens) s₁:=by
  intro H hO hS hok hA hK;have base_of:∀{b:Addr} {o:Obj},s₁.heap.get? b=some o->H b=none->(hidT s₁.heap H).get? b=some o:=fun e n=>hidT_get e n
  have noA:∀{b:Addr} {o:Obj} {es:Array DictEntry} {ep:Nat},s₁.heap.get? b=some o->o.data= .dict es ep->H b=none:=fun{b o es ep} e d=>by
   cases q:H b with
   |none=>rfl
   |some u=>
    have e':b=a:=hA b (by rw[q];simp);subst e';rw[ha]at e;cases e;have d':Data.seq vs.toArray _=Data.dict es ep:=d;cases d'
  have nsK:∀{b:Addr} {m:Str->Option Value},s₁.heap.Ns b m->(hidT s₁.heap H).Ns b m:=fun{b m} ⟨o,es,ep,e,d,r⟩=>⟨o,es,ep,base_of e (noA e d),d,r⟩
  have hKb:K.In (hidT s₁.heap H):=fun b o e=>base_of (KX b o e) (by
   cases q:H b with
   |none=>rfl
   |some u=>
    have e':b=a:=hA b (by rw[q];simp);subst e';rw[hK (by rw[q];simp)]at e;cases e)
  have hM:Mod K mg (hidT s₁.heap H):=⟨hKb,nsK hns,⟨mb,nsK hb,hbb⟩,let⟨mc,h1,h2⟩:=hlim;⟨mc,nsK h1,h2⟩⟩;have e0:Env0 P w K mg (hidT s₁.heap H) callerA [] s₁ H:=⟨rfl,hM,fun b o e=>of_hidT e,Nat.le_of_eq (zpA _ _),trivial,fun b hb=>absurd (show b∈([]:List Addr)from hb) (by simp),hok,.of_eq hg⟩;refine codeAny_mono ((F _ hKb (nsK hns)).run callerA [] s₁ H ⟨[.ref a],[]⟩ [.ref a] [.ref a] _ _ hr e0 (hbind s₁ (.ref a)) (.cons rfl .nil) (hsp H hO hS)) fun r s' h=>?_
  cases r with
  |error e=>exact(hCX H e s' h).elim
  |ok fl=>
   cases fl with
   |next=>exact False.elim h
   |brk=>exact False.elim h
   |cont=>exact False.elim h
   |ret u=>
    obtain⟨v,H',os,bare,un,hok',r',q⟩:=h;have q':v= .bl true:=q;subst q';obtain rfl:u=Value.bool true:=r';refine⟨rfl,OldK.of_keep fun b o e=>?_,os,bare⟩;cases q:H b with
    |none=>exact un.keep b o e q (by intro z;exact absurd (show b∈([]:List Addr)from z) (by simp)) (by simp)
    |some u=>
     rcases hO b with z|⟨ob,xs,z⟩
     ·rw[q]at z;cases z
     ·have z2:=un.frzs b ob _ z;obtain⟨e1,_⟩:=hok b _ z;obtain⟨e2,_⟩:=hok' b _ z2;rw[e]at e1;cases e1;exact e2
 cases hk:K.lookup a with
 |some o=>
  have e:=KX a o hk;rw[ha]at e;cases e;refine core (fun _=>none) (fun _=> .inl rfl) (.inr ⟨_,vs.toArray,_,hk,rfl,rfl,rfl,by rw[qaM,lenV];exact hl,by simpa using rv⟩) (fun b u z=>by have z':(none:Option HO)=some u:=z;cases z') (fun b z=>absurd rfl z) fun z=>absurd rfl z
 |none=>
  refine core (fun b=>if b=a then some (.frz {cls:= .type "list",data:= .seq vs.toArray} (.lst (ns.map V.int)))else none) (fun b=>?_) (.inl (.inr ⟨{cls:= .type "list",data:= .seq vs.toArray},if_pos rfl⟩)) (fun b u z=>?_) (fun b z=>?_) fun _=>hk
  ·by_cases hb:b=a
   ·exact .inr ⟨_,_,if_pos hb⟩
   ·exact .inl (if_neg hb)
  ·by_cases hb:b=a
   ·have z':=(if_pos hb).symm.trans z;cases z';subst hb;exact⟨ha,by rw[qaS];exact hl,vs,_,rv,ha⟩
   ·have z':=(if_neg hb).symm.trans z;cases z'
  ·by_cases hb:b=a
   ·exact hb
   ·exact absurd (if_neg hb) z
theorem walk_of {n k:Nat}{K:Params->W.Frag}{sp:World->Sp}
  (hn:l.most=some n) (hn2:n<=sizeLine) (hdf:d.params.defaults=[]) (hr:Room k callerA)
  (hY:∀(w:World) (h:Heap),YP w h->(K w.params).In h)
  (F : ∀ (w : World) (mg : Str -> Option Value) (fa : Addr) (h : Heap), (K w.params).In h -> h.Ns mainGlobals mg -> mg d.name = some (.ref fa) ->
   ∃fd:FuncData,(∀(s:Shared) (u:Value),BindsTo s fd ⟨[u],[]⟩ [(x,u)])/\
    ∀base:Heap,(K w.params).In base->base.Ns mainGlobals mg->FnOk l.prog w (K w.params) mg base (CX w) k fa fd [x] (sp w))
  (hsp:∀(w:World) (H:Hp) (a:Addr) (ns:List Int),ns.length<=n->Only H->SqL (K w.params) H a (ns.map V.int)->sp w [.ref a] H (fun v _=>v= .bl true) fun _ _ _=>False)
  (hCX:∀(w:World) (H:Hp) (s:Shared) (e:Value) (s':Shared),CX w [] H s (fun _ _ _=>False) e s'->False):
  W.WalkO q loose XP YP l.row.toRowW d [] (fun f vs=>PySem.call f vs):=by
 refine Att.attach_call hn hdf fun w s₀ s₁ mg mb fa o pm cd doc a vs ns G Y ho hd hcd hmg hobj hints hlen hg=>?_
 have KX:=hY w _ Y;obtain⟨fd,hb,hF⟩:=F w mg fa _ KX G.T.g hmg;exact law_call KX G.T.g G.T.b G.T.builtins G.T.nolimit hg hobj hints (qal hlen hn2) hr hF hb (fun H hO hS=>hsp w H a ns hlen hO hS) fun H e s'=>hCX w H s₁ e s'
def zfe (s:Stmt)(j:Nat):Stmt:=match s with
 | .ClassDef _ _ _ body _ _ _ _ _ _ _=>body.getD j (.Pass ⟨0,0,0,0⟩)
 |_=> .Pass ⟨0,0,0,0⟩
def zbh (s:Stmt):Arguments:=match s with
 | .FunctionDef _ a _ _ _ _ _ _ _ _=>a
 |_=>{posonlyargs:=[],args:=[],vararg:=none,kwonlyargs:=[],kw_defaults:=[],kwarg:=none,defaults:=[]}
def zaR (s:Stmt):List Stmt:=match s with
 | .FunctionDef _ _ b _ _ _ _ _ _ _=>b
 |_=>[]
def zar (s:Stmt):Scope:=match s with
 | .FunctionDef _ _ _ _ _ _ sc _ _ _=>sc
 |_=>{kind:= .function,names:=[],isGenerator:=false,isCoroutine:=false}
abbrev CX0:CXT:=fun _ _ _ _ _ _=>False
abbrev E0:XK:=fun _ _ _=>False
theorem zlh {X:Cx}:ziP CX0 X E0:=fun _ _ _ _ _ _ _ h=>h.elim
structure Fun (K:W.Frag) (x qual:Str) (st:Stmt) (f:Addr) (fd:FuncData):Prop where
 ex:∃(oc:Value) (od:Option Addr) (kV doc pm:Value) (an:Option Addr) (cdv ct:Value) (osl:Array (Option Value)),
  fd=W.fnOf x qual (zbh st) (zaR st) (zar st) .none kV doc pm an cdv ct/\K.lookup f=some ⟨oc,od,.func fd,osl⟩/\W.codeIn K cdv qual=true
 kp:W.keepIn K (.ref f)=true
section
variable {P:Program} {w:World} {K:W.Frag} {mg:Str->Option Value} {base:Heap}
theorem Fun.ok {st:Stmt}{N ps:List Str}(F:Fun K x qual st f fd)(S:FnScope N ps (zar st))(len:∀vs H Q E,sp vs H Q E->vs.length=ps.length)
  (hbody : ∀ (cdv : Value) (A : Around) (outer : List Env) (s : Shared) (H : Hp) (vs : List V) (Q : VK) (E : XK), Room k (A.deeper (envOfC qual (zar st) s.heap.objs.size f cdv)) -> sp vs H Q E ->
   ∃t,PSs (cxOf CX0 P w K mg base N qual (zar st) f cdv A outer s H E).nox (zaR st) t/\t {nx:=fun _ H'=>Q .non H',rt:=Q} (start N vs) H):FnOk P w K mg base CX0 (k+1) f fd ps sp:=by
 obtain⟨oc,od,kV,doc,pm,an,cdv,ct,osl,rfl,lk,hcd⟩:=F.ex;refine fn_of lk hcd S len fun A outer s H vs Q E hr hsp=>?_
 obtain⟨t,h,q⟩:=hbody cdv A outer s H vs Q E hr hsp;exact⟨t,h.nox,q⟩
theorem Fun.binds {st:Stmt}(F:Fun K x qual st f fd)
  (h:∀(kV doc pm:Value) (an:Option Addr) (cdv ct:Value) (us:List Value),us.length=ps.length->bindArgs (W.fnOf x qual (zbh st) (zaR st) (zar st) .none kV doc pm an cdv ct) ⟨us,[]⟩=pure (ps.zip us)):Binds K fd ps []:=by
 obtain⟨oc,od,kV,doc,pm,an,cdv,ct,osl,rfl,lk,hcd⟩:=F.ex;exact .all (h kV doc pm an cdv ct)
theorem zpV {st:Stmt}{od an:Option Addr}{kV doc pm cdv ct:Value}(l:K.lookup f=some ⟨oc,od,.func (W.fnOf x qual (zbh st) (zaR st) (zar st) .none kV doc pm an cdv ct),osl⟩)
  (c:W.codeIn K cdv qual=true) (k:W.keepIn K (.ref f)=true):Fun K x qual st f (W.fnOf x qual (zbh st) (zaR st) (zar st) .none kV doc pm an cdv ct):=⟨⟨oc,od,kV,doc,pm,an,cdv,ct,osl,rfl,l,c⟩,k⟩
end
def Same (H H':Hp):Prop:=∀b o,H b=some o->H' b=some o
theorem Same.seq {H H':Hp}(e:Same H H')(h:SqL K H a xs):SqL K H' a xs:=by
 rcases h with(h|⟨o,h⟩)|h
 ·exact .inl (.inl (e _ _ h))
 ·exact .inl (.inr ⟨o,e _ _ h⟩)
 ·exact .inr h
section
variable {κ:Type} [DecidableEq κ]
def valV (kvs:List (κ×V))(k:κ):Option V:=(kvs.find? fun kv=>decide (kv.1=k)).map (·.2)
def putK (kvs:List (κ×V))(k:κ)(v:V):List (κ×V):=
 if(kvs.any fun kv=>decide (kv.1=k))=true then kvs.map (fun kv=>if kv.1=k then(kv.1,v)else kv)else kvs++[(k,v)]
theorem zmw {p:κ×V}{r:List (κ×V)}{k:κ}(e:p.1=k):valV (p::r) k=some p.2:=by simp[valV,qbx,e]
theorem zkg {p:κ×V}{r:List (κ×V)}{k:κ}(e:¬p.1=k):valV (p::r) k=valV r k:=by simp[valV,qbx,e]
theorem zl5 (kvs:List (κ×V))(k:κ)(v:V):(putK kvs k v).length<=kvs.length+1:=by
 unfold putK
 split
 ·rw[qaS];lia
 ·rw[qa8,qaQ,qbc];lia
theorem RelO.isSome_eq {u:Option Value}(r:RelO o u):o.isSome=u.isSome:=by
 cases o with
 |none=>cases u with
  |none=>rfl
  |some _=>exact(show False from r).elim
 |some _=>cases u with
  |none=>exact(show False from r).elim
  |some _=>rfl
theorem KV.val {kvs:List (κ×V)}{vs:List (κ×Value)}(r:KV kvs vs)(k:κ):RelO (valV kvs k) (valueAt vs k):=by
 unfold KV at r
 induction r with
 |nil=>exact True.intro
 | @cons p q ps qs h t ih=>
  obtain⟨h1,h2⟩:=h
  by_cases e:p.1=k
  ·have e':q.1=k:=h1.symm.trans e;have b:valueAt (q::qs) k=some q.2:=by simp[valueAt,qbx,e']
   rw[zmw e,b];exact h2
  ·have e':¬q.1=k:=fun z=>e (h1.trans z)
   have b:valueAt (q::qs) k=valueAt qs k:=by simp[valueAt,qbx,e']
   rw[zkg e,b];exact ih
theorem KV.any {kvs:List (κ×V)}{vs:List (κ×Value)}(r:KV kvs vs)(k:κ):(kvs.any fun kv=>decide (kv.1=k))=vs.any fun kv=>decide (kv.1=k):=by
 unfold KV at r
 induction r with
 |nil=>rfl
 |cons h t ih=>rw[qbs,qbs,ih,h.1]
theorem KV.repl {kvs:List (κ×V)}{vs:List (κ×Value)}(r:KV kvs vs)(k:κ)(ry:RelV y u):
  KV (kvs.map fun kv=>if kv.1=k then(kv.1,y)else kv) (vs.map fun kv=>if kv.1=k then(kv.1,u)else kv):=by
 unfold KV at r ⊢
 induction r with
 |nil=>exact .nil
 | @cons p q ps qs h t ih=>
  rw[qaR,qaR];refine .cons ?_ ih;obtain⟨h1,h2⟩:=h
  by_cases e:p.1=k
  ·rw[if_pos e,if_pos (h1.symm.trans e)];exact⟨h1,ry⟩
  ·rw[if_neg e,if_neg (fun z=>e (h1.trans z))];exact⟨h1,h2⟩
theorem KV.put {kvs:List (κ×V)}{vs:List (κ×Value)}(r:KV kvs vs)(k:κ)(ry:RelV y u):KV (putK kvs k y) (stored vs k u):=by
 unfold putK stored;rw[r.any k]
 by_cases e:(vs.any fun kv=>decide (kv.1=k))=true
 ·rw[if_pos e,if_pos e];exact r.repl k ry
 ·rw[if_neg e,if_neg e];exact Paired.snoc r ⟨rfl,ry⟩
theorem KV.keys {kvs:List (κ×V)}{vs:List (κ×Value)}(r:KV kvs vs):kvs.map (·.1)=vs.map (·.1):=by
 unfold KV at r
 induction r with
 |nil=>rfl
 |cons h t ih=>rw[qaR,qaR,ih,h.1]
theorem KV.length {kvs:List (κ×V)}{vs:List (κ×Value)}(r:KV kvs vs):kvs.length=vs.length:=Paired.length r
end
theorem zpH {P:Program}{k:Key}(r:RelV (kV k) u):(zbH P w).is k u=true:=by
 cases k with
 |inl i=>obtain⟨t,e⟩:=(show ∃t,u=Value.int i t from r);subst e;exact zlA P w i t
 |inr x=>obtain⟨t,e⟩:=(show ∃t,u=Value.str x t from r);subst e;exact zlB P w x t
section
variable {X:Cx} {pins:List (Addr×Obj)} {σ:St} {H:Hp} {s:Shared} {a:Addr} {y v:V} {u r:Value} {o:Option V} {A:Around} {E:Value->Shared->Prop}
theorem Inv.big (I:Inv X pins σ H s):sysModules<s.heap.objs.size:=by
 have h:mainGlobals<s.heap.objs.size:=(I.mod.glob.keeps I.bk).lt;exact Nat.lt_trans (by decide) h
theorem d_write {t':Nat}{ob:HO}(I:Inv X pins σ H s)(mu:Mut (H a))(hs:Heap.SameBut a s.heap h')(he:∃q,h'.get? a=some q)(new:ObjOk X.prog X.w (upd H a ob) h' a ob):
  Inv X pins σ (upd H a ob) {s with heap:=h',toks:=t'}:=
 I.write (x:=a) (e:=a) mu (.inl rfl) (fun b q hb z=>(hs.2 b hb).trans z) he new
end
def NoSl (i:Expr):Prop:=∀ov iv,subscripted i false ov iv=operate [ov,iv] (getItem ov iv)
theorem subD_of {env:Env}{value slice:Expr}{pos:Pos}{T id:String}
  (hl:typeLookup (.type T) "__getitem__"=pure (some (.builtin id))) (hs:NoSl slice)
  (h:wpAny (model prog w) A (eval value env) (fun o s₁=>wpAny (model prog w) A (eval slice env) (fun i s₂=>s₂.TypeIs o T/\wpAny (model prog w) A (getItem o i) Q E s₂) E s₁) E s):
  wpAny (model prog w) A (eval (.Subscript value slice pos) env) Q E s:=by
 refine Subscript_ (qaw h (fun o s₁ h₁=>qaw h₁ (fun i s₂ h₂=>?_) fun _ _ x=>x) fun _ _ x=>x);obtain⟨hT,h₂⟩:=h₂;unfold subscriptTail;refine qaA ?_;rw[getitemInPython_of_ne hT.not_modules];refine qaA (wpAny_specialOf hT hl ?_);have fin:wpAny (model prog w) A (subscripted slice false o i) (fun r s₃=>wpAny (model prog w) A (letTemporaryGo value o r>>=fun _=>pure r) Q E s₃) E s₂:=by
  rw[hs o i];exact wpAny_operating (qaw h₂ (fun r s₃ h₃=>qaA (wpAny_letTemporaryGo (qaE h₃))) fun _ _ x=>x)
 first
  |exact qaE (qaA fin)
  |exact qaA (qaE (qaA fin))
  |exact qaA fin
end L2
namespace M
open L2 PySem
variable {C:Prop} {c:Ch} {G G' H:Hp} {a p l:Addr} {o:Obj} {xs ys:List V} {ks:List (List Int)} {A A':List Addr} {K:W.Frag} {x v:V} {d:D} {ds es:List D} {i:Nat} {ls:List (List D)} {dk:Option (List Int×List D)} {t:T} {ov:Option (Option V)} {s:Sl} {X:Cx} {e:Expr} {m:MO} {ρ ρ':R} {b:Bool} {f:D->D->Option D} {ma:ME} {op:Operator} {r:V->Hp->VK->Prop} {g:D->Option D}
theorem cBel {α β:Type}{o:Option α}{f:α->Option β}{b:β}(h:o.bind f=some b)(k:∀a,o=some a->f a=some b->C):C:=by
 cases o with
 |none=>cases h
 |some a=>exact k a rfl h
theorem zaz {α α' β:Type}{o:Option (α×α')}{f:α×α'->Option β}{b:β}(h:o.bind f=some b)(k:∀x y,o=some (x,y)->f (x,y)=some b->C):C:=cBel h fun a=>k a.1 a.2
theorem cMel {α β:Type}{o:Option α}{f:α->β}{b:β}(h:o.map f=some b)(k:∀a,o=some a->f a=b->C):C:=by
 cases o with
 |none=>cases h
 |some a=>exact k a rfl (Option.some.inj h)
theorem zeR {α α' β:Type}{o:Option (α×α')}{f:α×α'->β}{b:β}(h:o.map f=some b)(k:∀x y,o=some (x,y)->f (x,y)=b->C):C:=cMel h fun a=>k a.1 a.2
theorem cNN {α:Type}{a:α}(h:none=some a):C:=by cases h
theorem cSp {α β:Type}{a c:α}{b d:β}(h:some (a,b)=some (c,d)):a=c/\b=d:=by cases h;exact⟨rfl,rfl⟩
theorem cIte {α:Type}{c:Prop}[Decidable c]{a:Option α}{b:α}(h:(if c then a else none)=some b)(k:c->a=some b->C):C:=by
 by_cases z:c
 ·rw[if_pos z]at h;exact k z h
 ·rw[if_neg z]at h;exact cNN h
inductive D where
 |non|bl (b:Bool)|int (i:Int)|str (x:Str)|lst (ds:List D)|tup (ds:List D)|scr (ns:List Int)|exc (c:Str)|dic (ks:List Int) (ds:List D)|dit (ks:List (List Int)) (ds:List D)|obj (c:Str) (ns:List Str) (ls:List D) (ks:List Int) (ds:List D)
def ExcIs (a C:Addr)(h:Heap):Prop:=∃o,h.get? a=some o/\o.cls= .ref C
def kI (n:Int):Key:=Sum.inl n
def kn (a:Addr)(o:Obj):HO:= .ext (fun h=>h.get? a=some o)
def hI:Key->Int
 | .inl k=>hashInt k
 | .inr _=>0
def DtN (o:Obj)(xs:List (List Key×Addr×Value)):Prop:=o.ExactDict/\(∃es ep,o.data= .dict es ep/\es.toList=xs.map fun x=>⟨reduceHash (Builtin.Tuple.tupleHashOf (x.1.map hI)),.ref x.2.1,x.2.2⟩)/\(xs.map (·.1)).Nodup
structure DtI (G:Hp) (a:Addr) (o:Obj) (xs:List (List Key×Addr×Value)) (ks:List (List Int)) (ys:List (List Key×V)):Prop where
 sys:(a==sysModules)=false
 dn:DtN o xs
 len:ys.length<=sizeLine
 key:ys.map (·.1)=ks.map (·.map kI)
 kt:Paired (fun(p:List Key×V) (q:List Key×Addr×Value)=>p.1=q.1/\G q.2.1=some (.tup (p.1.map kV))/\RelV p.2 q.2.2) ys xs
structure DkN (a:Addr) (o:Obj) (zs:List (Int×Tok×Value)) (ks:List Int) (ys:List (Key×V)):Prop where
 sys:(a==sysModules)=false
 ex:o.ExactDict
 dat:∃es ep,o.data= .dict es ep/\es.toList=zs.map fun z=>⟨hashInt z.1,.int z.1 z.2.1,z.2.2⟩
 nd:ks.Nodup
 len:ys.length<=sizeLine
 zk:zs.map (·.1)=ks
 key:ys.map (·.1)=ks.map kI
 kv:Paired (fun(p:Key×V) (q:Int×Tok×Value)=>p.1=kI q.1/\RelV p.2 q.2.2) ys zs
mutual
def RepD (K:W.Frag)(G:Hp)(v:V):D->Prop
 | .non=>v= .non
 | .bl b=>v= .bl b
 | .int i=>v= .int i
 | .str x=>v= .str x
 | .lst ds=>∃a xs,v= .ref a/\G a=some (.lst xs)/\RepL K G xs ds
 | .tup ds=>∃a xs,v= .ref a/\G a=some (.tup xs)/\RepL K G xs ds
 | .scr ns=>∃a,v= .ref a/\SqL K G a (ns.map V.int)
 | .exc c=>∃a C,v= .ref a/\W.nsIn K mainGlobals c=some (some (.ref C))/\G a=some (.ext (ExcIs a C))
 | .dic ks ds=>∃a ys,v= .ref a/\Rd G a (.dK ys)/\ys.map (·.1)=ks.map kI/\RepL K G (ys.map (·.2)) ds
 | .dit ks ds=>∃a ys o xs,v= .ref a/\G a=some (kn a o)/\DtI G a o xs ks ys/\RepL K G (ys.map (·.2)) ds
 | .obj c ns ls ks ds=>∃a C dx vs ws p o zs ys,v= .ref a/\W.nsIn K mainGlobals c=some (some (.ref C))/\G a=some (.ins C dx vs)/\vs.map (·.1)=ns/\vs.map (·.2)=ws++[.ref p]/\RepL K G ws ls/\G p=some (kn p o)/\DkN p o zs ks ys/\RepL K G (ys.map (·.2)) ds
def RepL (K:W.Frag)(G:Hp)(xs:List V):List D->Prop
 |[]=>xs=[]
 |d::ds=>∃x ys,xs=x::ys/\RepD K G x d/\RepL K G ys ds
end
def Fz (G H:Hp):Prop:=∀a o,G a=some o->H a=some o
theorem DtI.mono {xs:List (List Key×Addr×Value)}{ys:List (List Key×V)}(d:DtI G a o xs ks ys)(h:Fz G G'):DtI G' a o xs ks ys:={d with kt:=Paired.mapP d.kt fun _ _ z=>⟨z.1,h _ _ z.2.1,z.2.2⟩}
theorem Fz.refl (G:Hp):Fz G G:=fun _ _ h=>h
theorem Fz.trans {A B C:Hp}(h:Fz A B)(k:Fz B C):Fz A C:=fun a o e=>k a o (h a o e)
theorem Fz.free (h:Fz G H)(e:H p=none):G p=none:=by
 cases q:G p with
 |none=>rfl
 |some o=>rw[h p o q]at e;cases e
theorem Fz.new (e:G p=none)(o:HO):Fz G (upd G p o):=fun a u q=>by
 rw[zam (zaI q e)];exact q
theorem Fz.upd2 (h:Fz G H)(p:Addr)(o:HO):Fz (upd G p o) (upd H p o):=fun a u q=>by
 by_cases e:a=p
 ·subst e;rw[zaq]at q ⊢;exact q
 ·rw[zam e]at q ⊢;exact h a u q
theorem Fz.right (h:Fz G H)(e:G p=none)(o:HO):Fz G (upd H p o):=fun a u q=>by
 rw[zam (zaI q e)];exact h a u q
theorem Fz.sql {G H:Hp}(h:Fz G H)(q:SqL K G a xs):SqL K H a xs:=Same.seq (H:=G) (H':=H) h q
mutual
theorem RepD.mono (h:Fz G G'):∀{v:V} {d:D},RepD K G v d->RepD K G' v d:=by
 intro v d r;cases d with
 |lst _=>exact qby (fun a=>qby fun xs=>And.imp id (And.imp (h a _) (RepL.mono h))) r
 |tup _=>exact qby (fun a=>qby fun xs=>And.imp id (And.imp (h a _) (RepL.mono h))) r
 |scr _=>exact qby (fun a=>And.imp id h.sql) r
 |exc _=>exact qby (fun a=>qby fun C=>And.imp id (And.imp id (h a _))) r
 |dic _ _=>exact qby (fun a=>qby fun ys=>And.imp id (And.imp (Or.imp (h a _) (qby fun o=>h a _)) (And.imp id (RepL.mono h)))) r
 |dit _ _=>exact qby (fun a=>qby fun ys=>qby fun o=>qby fun xs=>And.imp id (And.imp (h a _) (And.imp (fun f=>f.mono h) (RepL.mono h)))) r
 |obj _ _ _ _ _=>exact qby (fun a=>qby fun C=>qby fun dx=>qby fun vs=>qby fun ws=>qby fun p=>qby fun o=>qby fun zs=>qby fun ys=>And.imp id (And.imp id (And.imp (h a _) (And.imp id (And.imp id (And.imp (RepL.mono h) (And.imp (h p _) (And.imp id (RepL.mono h))))))))) r
 |_=>exact r
theorem RepL.mono (h:Fz G G'):∀{xs:List V} {ds:List D},RepL K G xs ds->RepL K G' xs ds:=by
 intro xs ds r;cases ds with
 |nil=>exact r
 |cons _ _=>exact qby (fun x=>qby fun ys=>And.imp id (And.imp (RepD.mono h) (RepL.mono h))) r
end
section
variable {K:W.Frag} {G:Hp}
theorem RepL.nil:RepL K G [] []:=rfl
theorem RepL.cons {x:V}{d:D}(h:RepD K G x d)(t:RepL K G xs ds):RepL K G (x::xs) (d::ds):=⟨x,xs,rfl,h,t⟩
theorem RepL.length:∀{xs:List V} {ds:List D},RepL K G xs ds->xs.length=ds.length
 |_,[],e=>by cases e;rfl
 |_,_::_,⟨x,ys,e,_,r⟩=>by subst e;rw[qaQ,qaQ,RepL.length r]
theorem RepL.get:∀{xs:List V} {ds:List D} {i:Nat} {d:D},RepL K G xs ds->ds[i]? =some d->∃x,xs[i]? =some x/\RepD K G x d
 |_,[],_,_,_,h=>by simp at h
 |_,_::_,0,_,⟨x,ys,e,q,r⟩,h=>by subst e;simp at h;subst h;exact⟨x,rfl,q⟩
 |_,_::_,i+1,_,⟨x,ys,e,q,r⟩,h=>by
  subst e;obtain⟨y,h1,h2⟩:=RepL.get (i:=i) r (by simpa using h);exact⟨y,by simpa using h1,h2⟩
theorem RepL.append:∀{xs ys:List V} {ds es:List D},RepL K G xs ds->RepL K G ys es->RepL K G (xs++ys) (ds++es)
 |_,_,[],_,e,r=>by cases e;exact r
 |_,_,_::_,_,⟨x,zs,e,q,r⟩,s=>by subst e;exact⟨x,zs++_,rfl,q,RepL.append r s⟩
theorem RepL.snoc (h:RepL K G xs ds)(q:RepD K G x d):RepL K G (xs++[x]) (ds++[d]):=h.append (.cons q .nil)
theorem RepL.take:∀{xs:List V} {ds:List D} (n:Nat),RepL K G xs ds->RepL K G (xs.take n) (ds.take n)
 |_,_,0,_=>by simp;exact .nil
 |_,[],n+1,e=>by cases e;exact .nil
 |_,_::_,n+1,⟨x,zs,e,q,r⟩=>by subst e;exact⟨x,zs.take n,rfl,q,RepL.take n r⟩
theorem RepL.drop:∀{xs:List V} {ds:List D} (n:Nat),RepL K G xs ds->RepL K G (xs.drop n) (ds.drop n)
 |_,_,0,r=>by simpa using r
 |_,[],n+1,e=>by cases e;exact .nil
 |_,_::_,n+1,⟨x,zs,e,q,r⟩=>by subst e;exact RepL.drop n r
theorem RepL.set:∀{xs:List V} {ds:List D} (i:Nat) {x:V} {d:D},RepL K G xs ds->RepD K G x d->RepL K G (xs.set i x) (ds.set i d)
 |_,[],_,_,_,e,_=>by cases e;exact .nil
 |_,_::_,0,_,_,⟨x,zs,e,q,r⟩,h=>by subst e;exact⟨_,zs,rfl,h,r⟩
 |_,_::_,i+1,_,_,⟨x,zs,e,q,r⟩,h=>by subst e;exact⟨x,_,rfl,q,RepL.set i r h⟩
theorem RepL.rep (h:RepL K G xs ds):∀k:Nat,RepL K G (List.replicate k xs).flatten (List.replicate k ds).flatten
 |0=> .nil
 |k+1=>by rw[qbt,qbt,qbu,qbu];exact h.append (RepL.rep h k)
theorem RepL.ints:∀(ns:List Int),RepL K G (ns.map V.int) (ns.map D.int)
 |[]=> .nil
 |n::ns=>⟨.int n,ns.map V.int,rfl,rfl,RepL.ints ns⟩
theorem RepL.ints_eq:∀{ns:List Int} {xs:List V},RepL K G xs (ns.map D.int)->xs=ns.map V.int
 |[],_,e=>e
 |n::ns,_,⟨x,ys,e,q,r⟩=>by subst e;cases(show x=V.int n from q);rw[RepL.ints_eq r];rfl
theorem RepL.at {i:Int}(h:RepL K G xs ds)(e:atI ds i=some d):∃x,atI xs i=some x/\RepD K G x d:=by
 unfold atI at e ⊢;rw[h.length];cases q:ixN ds.length i with
 |none=>rw[q]at e;exact cNN e
 |some j=>rw[q]at e;exact h.get e
end
inductive Ch where
 |d (x:D)|l (xs:List D)|t (xss:List (List D))
inductive T where
 |lst (cs:List Ch)|tup (cs:List Ch)|ins (c:Str) (fs:List (Str×Ch))|dic (ks:List Int) (ds:List D)|dit (ks:List (List Int)) (ds:List D)|obj (c:Str) (ns:List Str) (ls:List (List D)) (dk:Option (List Int×List D))
inductive Sl where
 |emp|val (d:D)|own (ds:List D)|par (ds:List D)|two (ds es:List D)|tre (t:T)|ptr (t:T)
abbrev R:=List Sl
def Sl.items:Sl->Option (List D)
 | .own ds=>some ds
 | .par ds=>some ds
 |_=>none
structure Bs where
 G:Hp
 H:Hp
 O:List (Nat×Addr)
def RepTb (K:W.Frag)(G H:Hp):List V->List (List D)->List Addr->Prop
 |[],[],A=>A=[]
 |x::xs,ds::dss,A=>∃r ys A2,x= .ref r/\H r=some (.lst ys)/\RepL K G ys ds/\RepTb K G H xs dss A2/\A=r::A2
 |_,_,_=>False
def RepC (K:W.Frag)(G H:Hp)(x:V):Ch->List Addr->Prop
 | .d y,A=>RepD K G x y/\A=[]
 | .l ds,A=>∃l xs,x= .ref l/\H l=some (.lst xs)/\RepL K G xs ds/\A=[l]
 | .t xss,A=>∃p xs A',x= .ref p/\H p=some (.lst xs)/\RepTb K G H xs xss A'/\A=p::A'
def RepCs (K:W.Frag)(G H:Hp):List V->List Ch->List Addr->Prop
 |[],[],A=>A=[]
 |x::xs,c::cs,A=>∃A1 A2,RepC K G H x c A1/\RepCs K G H xs cs A2/\A=A1++A2
 |_,_,_=>False
def RepO (K:W.Frag)(G H:Hp)(xs:List V)(ls:List (List D)):Option (List Int×List D)->List Addr->Prop
 |none,A=>RepTb K G H xs ls A
 |some q,A=>∃ws p o zs ys A',xs=ws++[.ref p]/\RepTb K G H ws ls A'/\H p=some (kn p o)/\DkN p o zs q.1 ys/\RepL K G (ys.map (·.2)) q.2/\A=A'++[p]
def RepT (K:W.Frag)(G H:Hp)(v:V):T->List Addr->Prop
 | .lst cs,A=>∃p xs A',v= .ref p/\H p=some (.lst xs)/\RepCs K G H xs cs A'/\A=p::A'
 | .tup cs,A=>∃p xs A',v= .ref p/\H p=some (.tup xs)/\RepCs K G H xs cs A'/\A=p::A'
 | .ins c fs,A=>∃p C dx vs A',v= .ref p/\W.nsIn K mainGlobals c=some (some (.ref C))/\H p=some (.ins C dx vs)/\H dx=some (.own p)/\vs.map (·.1)=fs.map (·.1)/\RepCs K G H (vs.map (·.2)) (fs.map (·.2)) A'/\A=p::dx::A'
 | .dic ks ds,A=>∃p ys,v= .ref p/\H p=some (.dK ys)/\ys.map (·.1)=ks.map kI/\RepL K G (ys.map (·.2)) ds/\A=[p]
 | .dit ks ds,A=>∃p ys o xs,v= .ref p/\H p=some (kn p o)/\DtI G p o xs ks ys/\RepL K G (ys.map (·.2)) ds/\A=[p]
 | .obj c ns ls dk,A=>∃p C dx vs A',v= .ref p/\W.nsIn K mainGlobals c=some (some (.ref C))/\H p=some (.ins C dx vs)/\H dx=some (.own p)/\vs.map (·.1)=ns/\RepO K G H (vs.map (·.2)) ls dk A'/\A=p::dx::A'
section
variable {K:W.Frag} {G G' H H':Hp}
theorem RepTb.move:∀{xs:List V} {dss:List (List D)} {A:List Addr},RepTb K G H xs dss A->Fz G G'->(∀a∈A,H' a=H a)->RepTb K G' H' xs dss A
 |[],[],_,h,_,_=>h
 |x::xs,ds::dss,A,⟨r,ys,A2,e1,e2,e3,e4,e5⟩,hg,hh=>⟨r,ys,A2,e1,by rw[hh r (by rw[e5];simp)];exact e2,e3.mono hg,e4.move hg fun a m=>hh a (by rw[e5];simp[m]),e5⟩
 |[],_::_,_,h,_,_=>h.elim
 |_::_,[],_,h,_,_=>h.elim
theorem RepTb.det:∀{xs:List V} {dss:List (List D)} {A A':List Addr},RepTb K G H xs dss A->RepTb K G' H' xs dss A'->A=A'
 |[],[],_,_,h,h'=>by rw[show _=[]from h,show _=[]from h']
 |x::xs,ds::dss,_,_,⟨r,ys,A2,e1,_,_,e4,e5⟩,⟨r',ys',A2',e1',_,_,e4',e5'⟩=>by
  rw[e1]at e1';cases e1';rw[e5,e5',e4.det e4']
 |[],_::_,_,_,h,_=>h.elim
 |_::_,[],_,_,h,_=>h.elim
theorem RepTb.here:∀{xs:List V} {dss:List (List D)} {A:List Addr},RepTb K G H xs dss A->∀{a:Addr},a∈A->∃xs,H a=some (.lst xs)
 |[],[],_,h,a,m=>by rw[show _=[]from h]at m;cases m
 |x::xs,ds::dss,_,⟨r,ys,A2,e1,e2,_,e4,e5⟩,a,m=>by
  rw[e5]at m;rcases qaq.mp m with rfl|m
  ·exact⟨ys,e2⟩
  ·exact e4.here m
 |[],_::_,_,h,_,_=>h.elim
 |_::_,[],_,h,_,_=>h.elim
theorem RepO.move (h:RepO K G H xs ls dk A)(hg:Fz G G')(hh:∀a∈A,H' a=H a):RepO K G' H' xs ls dk A:=by
 cases dk with
 |none=>exact RepTb.move h hg hh
 |some q=>
  obtain⟨ws,p,o,zs,ys,A',e,r,q1,q2,q3,rfl⟩:=h;exact⟨ws,p,o,zs,ys,A',e,r.move hg fun a m=>hh a (by simp[m]),by rw[hh p (by simp)];exact q1,q2,q3.mono hg,rfl⟩
theorem RepO.det (h:RepO K G H xs ls dk A)(h':RepO K G' H' xs ls dk A'):A=A':=by
 cases dk with
 |none=>exact RepTb.det h h'
 |some q=>
  obtain⟨ws,p,_,_,ys,B,e,r,_,_,_,rfl⟩:=h;obtain⟨ws',p',_,_,ys',B',e',r',_,_,_,rfl⟩:=h';rw[e]at e';obtain⟨rfl,q2⟩:=List.append_inj' e' rfl;cases q2;rw[r.det r']
theorem RepO.here (h:RepO K G H xs ls dk A)(m:a∈A):(∃xs,H a=some (.lst xs))\/∃o,H a=some (kn a o):=by
 cases dk with
 |none=>exact .inl (RepTb.here h m)
 |some q=>
  obtain⟨ws,p,o,zs,ys,B,e,r,q1,_,_,rfl⟩:=h;rcases qar.mp m with m|m
  ·exact .inl (r.here m)
  ·simp at m;subst m;exact .inr ⟨o,q1⟩
theorem RepC.move (h:RepC K G H x c A)(hg:Fz G G')(hh:∀a∈A,H' a=H a):RepC K G' H' x c A:=by
 cases c with
 |d y=>exact⟨h.1.mono hg,h.2⟩
 |l ds=>obtain⟨l,xs,e,q,r,rfl⟩:=h;exact⟨l,xs,e,by rw[hh l (by simp)];exact q,r.mono hg,rfl⟩
 |t xss=>obtain⟨p,xs,A',e,q,r,rfl⟩:=h;exact⟨p,xs,A',e,by rw[hh p (by simp)];exact q,r.move hg fun a m=>hh a (by simp[m]),rfl⟩
theorem RepCs.move:∀{xs:List V} {cs:List Ch} {A:List Addr},RepCs K G H xs cs A->Fz G G'->(∀a∈A,H' a=H a)->RepCs K G' H' xs cs A
 |[],[],_,h,_,_=>h
 |x::xs,c::cs,A,⟨A1,A2,h1,h2,e⟩,hg,hh=>⟨A1,A2,h1.move hg fun a m=>hh a (by rw[e];exact qas _ m),h2.move hg fun a m=>hh a (by rw[e];exact qaJ _ m),e⟩
 |[],_::_,_,h,_,_=>h.elim
 |_::_,[],_,h,_,_=>h.elim
theorem RepT.move (h:RepT K G H v t A)(hg:Fz G G')(hh:∀a∈A,H' a=H a):RepT K G' H' v t A:=by
 cases t with
 |lst cs=>obtain⟨p,xs,A',e,q,r,rfl⟩:=h;exact⟨p,xs,A',e,by rw[hh p (by simp)];exact q,r.move hg fun a m=>hh a (by simp[m]),rfl⟩
 |tup cs=>obtain⟨p,xs,A',e,q,r,rfl⟩:=h;exact⟨p,xs,A',e,by rw[hh p (by simp)];exact q,r.move hg fun a m=>hh a (by simp[m]),rfl⟩
 |ins c fs=>obtain⟨p,C,dx,vs,A',e,n,q,q2,f,r,rfl⟩:=h;exact⟨p,C,dx,vs,A',e,n,by rw[hh p (by simp)];exact q,by rw[hh dx (by simp)];exact q2,f,r.move hg fun a m=>hh a (by simp[m]),rfl⟩
 |dic ks ds=>obtain⟨p,ys,e,q,f,r,rfl⟩:=h;exact⟨p,ys,e,by rw[hh p (by simp)];exact q,f,r.mono hg,rfl⟩
 |dit ks ds=>obtain⟨p,ys,o,xs,e,q,f,r,rfl⟩:=h;exact⟨p,ys,o,xs,e,by rw[hh p (by simp)];exact q,f.mono hg,r.mono hg,rfl⟩
 |obj c ns ls dk=>obtain⟨p,C,dx,vs,A',e,n,q,q2,f,r,rfl⟩:=h;exact⟨p,C,dx,vs,A',e,n,by rw[hh p (by simp)];exact q,by rw[hh dx (by simp)];exact q2,f,r.move hg fun a m=>hh a (by simp[m]),rfl⟩
theorem RepC.det (h:RepC K G H x c A)(h':RepC K G' H' x c A')(hh:∀a∈A,H' a=H a):A=A':=by
 cases c with
 |d y=>rw[h.2,h'.2]
 |l ds=>obtain⟨l,xs,e,_,_,rfl⟩:=h;obtain⟨l',xs',e',_,_,rfl⟩:=h';rw[e]at e';cases e';rfl
 |t xss=>
  obtain⟨p,xs,B,e,q,r,rfl⟩:=h;obtain⟨p',xs',B',e',q',r',rfl⟩:=h';rw[e]at e';cases e';rw[hh p (by simp),q]at q';cases q';rw[r.det r']
theorem RepCs.det:∀{xs:List V} {cs:List Ch} {A A':List Addr},RepCs K G H xs cs A->RepCs K G' H' xs cs A'->(∀a∈A,H' a=H a)->A=A'
 |[],[],_,_,h,h',_=>by rw[show _=[]from h,show _=[]from h']
 |x::xs,c::cs,_,_,⟨A1,A2,h1,h2,e⟩,⟨B1,B2,k1,k2,e'⟩,hh=>by rw[e,e',h1.det k1 fun a m=>hh a (by rw[e];exact qas _ m),h2.det k2 fun a m=>hh a (by rw[e];exact qaJ _ m)]
 |[],_::_,_,_,h,_,_=>h.elim
 |_::_,[],_,_,h,_,_=>h.elim
theorem RepT.det (h:RepT K G H v t A)(h':RepT K G' H' v t A')(hh:∀a∈A,H' a=H a):A=A':=by
 cases t with
 |lst cs=>
  obtain⟨p,xs,B,e,q,r,rfl⟩:=h;obtain⟨p',xs',B',e',q',r',rfl⟩:=h';rw[e]at e';cases e';rw[hh p (by simp),q]at q';cases q';rw[r.det r' fun a m=>hh a (by simp[m])]
 |tup cs=>
  obtain⟨p,xs,B,e,q,r,rfl⟩:=h;obtain⟨p',xs',B',e',q',r',rfl⟩:=h';rw[e]at e';cases e';rw[hh p (by simp),q]at q';cases q';rw[r.det r' fun a m=>hh a (by simp[m])]
 |ins c fs=>
  obtain⟨p,C,dx,vs,B,e,n,q,q2,f,r,rfl⟩:=h;obtain⟨p',C',dx',vs',B',e',n',q',q2',f',r',rfl⟩:=h';rw[e]at e';cases e';rw[hh p (by simp),q]at q';cases q';rw[r.det r' fun a m=>hh a (by simp[m])]
 |dic ks ds=>obtain⟨p,ys,e,q,f,r,rfl⟩:=h;obtain⟨p',ys',e',q',f',r',rfl⟩:=h';rw[e]at e';cases e';rfl
 |dit ks ds=>obtain⟨p,ys,o,xs,e,q,f,r,rfl⟩:=h;obtain⟨p',ys',o',xs',e',q',f',r',rfl⟩:=h';rw[e]at e';cases e';rfl
 |obj c ns ls dk=>
  obtain⟨p,C,dx,vs,B,e,n,q,q2,f,r,rfl⟩:=h;obtain⟨p',C',dx',vs',B',e',n',q',q2',f',r',rfl⟩:=h';rw[e]at e';cases e';rw[hh p (by simp),q]at q';cases q';rw[r.det r']
theorem RepC.here (h:RepC K G H x c A)(m:a∈A):∃xs,H a=some (.lst xs):=by
 cases c with
 |d y=>rw[h.2]at m;cases m
 |l ds=>obtain⟨l,xs,_,q,_,rfl⟩:=h;simp at m;subst m;exact⟨xs,q⟩
 |t xss=>
  obtain⟨p,xs,A',_,q,r,rfl⟩:=h;rcases qaq.mp m with rfl|m
  ·exact⟨xs,q⟩
  ·exact r.here m
theorem RepCs.here:∀{xs:List V} {cs:List Ch} {A:List Addr},RepCs K G H xs cs A->∀{a:Addr},a∈A->∃xs,H a=some (.lst xs)
 |[],[],_,h,a,m=>by rw[show _=[]from h]at m;cases m
 |x::xs,c::cs,_,⟨A1,A2,h1,h2,e⟩,a,m=>by
  rw[e]at m;rcases qar.mp m with m|m
  ·exact h1.here m
  ·exact h2.here m
 |[],_::_,_,h,_,_=>h.elim
 |_::_,[],_,h,_,_=>h.elim
theorem RepT.here (h:RepT K G H v t A)(m:a∈A):H a≠none:=by
 cases t with
 |lst cs=>
  obtain⟨p,xs,B,e,q,r,rfl⟩:=h;rcases qaq.mp m with rfl|m
  ·rw[q];simp
  ·obtain⟨ys,z⟩:=r.here m;rw[z];simp
 |tup cs=>
  obtain⟨p,xs,B,e,q,r,rfl⟩:=h;rcases qaq.mp m with rfl|m
  ·rw[q];simp
  ·obtain⟨ys,z⟩:=r.here m;rw[z];simp
 |ins c fs=>
  obtain⟨p,C,dx,vs,B,e,n,q,q2,f,r,rfl⟩:=h;rcases qaq.mp m with rfl|m
  ·rw[q];simp
  rcases qaq.mp m with rfl|m
  ·rw[q2];simp
  ·obtain⟨ys,z⟩:=r.here m;rw[z];simp
 |dic ks ds=>obtain⟨p,ys,e,q,f,r,rfl⟩:=h;simp at m;subst m;rw[q];simp
 |dit ks ds=>obtain⟨p,ys,o,xs,e,q,f,r,rfl⟩:=h;simp at m;subst m;rw[q];simp
 |obj c ns ls dk=>
  obtain⟨p,C,dx,vs,B,e,n,q,q2,f,r,rfl⟩:=h;rcases qaq.mp m with rfl|m
  ·rw[q];simp
  rcases qaq.mp m with rfl|m
  ·rw[q2];simp
  ·rcases r.here m with⟨ys,z⟩|⟨ys,z⟩<;>(rw[z];simp)
end
def T.isObj:T->Bool
 | .obj _ _ _ _=>true
 |_=>false
def SlotOk (K:W.Frag)(B:Bs)(G H:Hp)(i:Nat)(ov:Option (Option V)):Sl->Prop
 | .emp=>True
 | .two _ _=>True
 | .val d=>∃v,ov=some (some v)/\RepD K G v d
 | .own ds=>∃l xs,ov=some (some (.ref l))/\G l=none/\H l=some (.lst xs)/\RepL K G xs ds/\B.H l=none
 | .par ds=>∃l xs,ov=some (some (.ref l))/\G l=none/\H l=some (.lst xs)/\RepL K G xs ds/\(i,l)∈B.O
 | .tre t=>∃v A,ov=some (some v)/\RepT K G H v t A/\A.Nodup/\∀a∈A,G a=none/\B.H a=none
 | .ptr t=>∃v A,ov=some (some v)/\RepT K G H v t A/\(A.Nodup/\∃p,v= .ref p/\(i+4096,p)∈B.O/\(t.isObj=true->(i+8192,p)∈B.O))/\∀a∈A,G a=none/\((i,a)∈B.O\/(B.H a=none/\∃p,v= .ref p/\(i+8192,p)∈B.O))
def Wr (ρ:R)(i:Nat):Prop:=∃s ds,ρ[i]? =some s/\s.items=some ds
def OwS (K:W.Frag)(G H:Hp)(ov:Option (Option V))(a:Addr):Sl->Prop
 | .own _=>ov=some (some (.ref a))
 | .par _=>ov=some (some (.ref a))
 | .tre t=>∃v A,ov=some (some v)/\RepT K G H v t A/\a∈A
 | .ptr t=>∃v A,ov=some (some v)/\RepT K G H v t A/\a∈A
 |_=>False
def Nw (K:W.Frag)(G H:Hp)(σ:St)(ρ:R)(a:Addr):Prop:=∀(i:Nat) (s:Sl),ρ[i]? =some s->¬OwS K G H σ[i]? a s
structure SI (K:W.Frag) (B:Bs) (G H:Hp) (σ:St) (ρ:R):Prop where
 fz:Fz G H
 g0:Fz B.G G
 new:∀b o,G b=some o->B.G b≠none\/B.H b=none
 keep:∀b o,B.H b=some o->(∀i,(i,b)∉B.O)->H b=some o
 there:∀b,H b=none->B.H b=none
 len:σ.length=ρ.length
 ob:∀i b,(i,b)∈B.O->B.H b≠none
 slot:∀i s,ρ[i]? =some s->SlotOk K B G H i σ[i]? s
 dis:∀(i j:Nat) (s t:Sl) (a:Addr),i≠j->ρ[i]? =some s->ρ[j]? =some t->OwS K G H σ[i]? a s->¬OwS K G H σ[j]? a t
section
variable {K:W.Frag} {B:Bs} {G G' H H':Hp} {σ:St} {ρ:R}
theorem SlotOk.own (h:SlotOk K B G H i ov s)(w:OwS K G H ov a s):G a=none/\H a≠none/\(B.H a=none\/(i,a)∈B.O):=by
 cases s with
 |emp=>exact w.elim
 |two _ _=>exact w.elim
 |val d=>exact w.elim
 |own ds=>obtain⟨l,xs,e,g,k,r,n⟩:=h;rw[show ov=_ from w]at e;cases e;exact⟨g,by rw[k];simp,.inl n⟩
 |par ds=>obtain⟨l,xs,e,g,k,r,n⟩:=h;rw[show ov=_ from w]at e;cases e;exact⟨g,by rw[k];simp,.inr n⟩
 |tre t=>
  obtain⟨v,A,e,r,nd,f⟩:=h;obtain⟨v',A',e',r',m⟩:=w;rw[e]at e';cases e';rw[<-r.det r' fun _ _=>rfl]at m;exact⟨(f a m).1,r.here m,.inl (f a m).2⟩
 |ptr t=>
  obtain⟨v,A,e,r,nd,f⟩:=h;obtain⟨v',A',e',r',m⟩:=w;rw[e]at e';cases e';rw[<-r.det r' fun _ _=>rfl]at m;exact⟨(f a m).1,r.here m,(f a m).2.elim .inr fun z=> .inl z.1⟩
theorem SlotOk.mono (h:SlotOk K B G H i ov s)(hg:Fz G G')(hw:∀a,OwS K G H ov a s->G a=none->H a≠none->G' a=none/\H' a=H a):SlotOk K B G' H' i ov s:=by
 have ow:=fun a (w:OwS K G H ov a s)=>h.own w
 cases s with
 |emp=>trivial
 |two _ _=>trivial
 |val d=>obtain⟨v,e,r⟩:=h;exact⟨v,e,r.mono hg⟩
 |own ds=>
  obtain⟨l,xs,e,g,k,r,n⟩:=h;obtain⟨h1,h2⟩:=hw l e g (by rw[k];simp);exact⟨l,xs,e,h1,h2.trans k,r.mono hg,n⟩
 |par ds=>
  obtain⟨l,xs,e,g,k,r,n⟩:=h;obtain⟨h1,h2⟩:=hw l e g (by rw[k];simp);exact⟨l,xs,e,h1,h2.trans k,r.mono hg,n⟩
 |tre t=>
  obtain⟨v,A,e,r,nd,f⟩:=h;have w:=fun a m=>hw a ⟨v,A,e,r,m⟩ (f a m).1 (r.here m)
  exact⟨v,A,e,r.move hg fun a m=>(w a m).2,nd,fun a m=>⟨(w a m).1,(f a m).2⟩⟩
 |ptr t=>
  obtain⟨v,A,e,r,nd,f⟩:=h;have w:=fun a m=>hw a ⟨v,A,e,r,m⟩ (f a m).1 (r.here m)
  exact⟨v,A,e,r.move hg fun a m=>(w a m).2,nd,fun a m=>⟨(w a m).1,(f a m).2⟩⟩
theorem SlotOk.back (h:SlotOk K B G H i ov s)(hw:∀a,OwS K G H ov a s->G a=none->H a≠none->G' a=none/\H' a=H a)(w:OwS K G' H' ov a s):OwS K G H ov a s:=by
 cases s with
 |emp=>exact w
 |two _ _=>exact w
 |val d=>exact w
 |own ds=>exact w
 |par ds=>exact w
 |tre t=>
  obtain⟨v,A,e,r,nd,f⟩:=h;obtain⟨v',A',e',r',m⟩:=w;rw[e]at e';cases e';have q:=r.det r' fun a m=>(hw a ⟨v,A,e,r,m⟩ (f a m).1 (r.here m)).2
  subst q;exact⟨v,A,e,r,m⟩
 |ptr t=>
  obtain⟨v,A,e,r,nd,f⟩:=h;obtain⟨v',A',e',r',m⟩:=w;rw[e]at e';cases e';have q:=r.det r' fun a m=>(hw a ⟨v,A,e,r,m⟩ (f a m).1 (r.here m)).2
  subst q;exact⟨v,A,e,r,m⟩
theorem SI.move (I:SI K B G H σ ρ)(fz:Fz G' H')(fg:Fz G G')(new:∀b o,G' b=some o->B.G b≠none\/B.H b=none)(keep:∀b o,B.H b=some o->(∀i,(i,b)∉B.O)->H' b=some o)(there:∀b,H' b=none->B.H b=none)
  (ow:∀(i:Nat) (s:Sl) (a:Addr),ρ[i]? =some s->OwS K G H σ[i]? a s->G a=none->H a≠none->G' a=none/\H' a=H a):SI K B G' H' σ ρ where
 fz:=fz
 g0:=I.g0.trans fg
 new:=new
 keep:=keep
 there:=there
 len:=I.len
 ob:=I.ob
 slot:=fun i s e=>(I.slot i s e).mono fg fun a w g h=>ow i s a e w g h
 dis:=fun i j s t a n e1 e2 w1 w2=>I.dis i j s t a n e1 e2 ((I.slot i s e1).back (fun a w g h=>ow i s a e1 w g h) w1) ((I.slot j t e2).back (fun a w g h=>ow j t a e2 w g h) w2)
theorem SI.chg (I:SI K B G H σ ρ){ov:Option V}{s':Sl}(fz:Fz G' H')(fg:Fz G G')(new:∀b o,G' b=some o->B.G b≠none\/B.H b=none)(keep:∀b o,B.H b=some o->(∀i,(i,b)∉B.O)->H' b=some o)(there:∀b,H' b=none->B.H b=none)
  (ow:∀(j:Nat) (s:Sl) (a:Addr),j≠i->ρ[j]? =some s->OwS K G H σ[j]? a s->G a=none->H a≠none->G' a=none/\H' a=H a/\¬OwS K G' H' (some ov) a s') (sl:SlotOk K B G' H' i (some ov) s'):SI K B G' H' (σ.set i ov) (ρ.set i s'):=by
 have atI:∀{s},(ρ.set i s')[i]? =some s->s=s'/\(σ.set i ov)[i]? =some ov:=fun{s} e=>by
  rw[qbz,if_pos rfl]at e ⊢
  split at e
  ·rename_i h;cases e;rw[if_pos (by rw[I.len];exact h)];exact⟨rfl,rfl⟩
  ·exact cNN e
 have atJ:∀{j s},j≠i->(ρ.set i s')[j]? =some s->ρ[j]? =some s/\(σ.set i ov)[j]? =σ[j]?:=fun{j s} n e=>by
  rw[qav (Ne.symm n)]at e ⊢;exact⟨e,rfl⟩
 refine⟨fz,I.g0.trans fg,new,keep,there,by rw[qbq,qbq];exact I.len,I.ob,fun j s e=>?_,fun j k s t a n e1 e2 w1 w2=>?_⟩
 ·by_cases z:j=i
  ·subst z;obtain⟨rfl,q⟩:=atI e;rw[q];exact sl
  ·obtain⟨e1,q⟩:=atJ z e;rw[q];exact(I.slot j s e1).mono fg fun a w g h=>⟨(ow j s a z e1 w g h).1,(ow j s a z e1 w g h).2.1⟩
 ·have one:∀j s,j≠i->(ρ.set i s')[j]? =some s->OwS K G' H' (σ.set i ov)[j]? a s->ρ[j]? =some s/\OwS K G H σ[j]? a s:=fun j s z e w=>by
   obtain⟨e1,q⟩:=atJ z e;rw[q]at w;exact⟨e1,(I.slot j s e1).back (fun a w g h=>⟨(ow j s a z e1 w g h).1,(ow j s a z e1 w g h).2.1⟩) w⟩
  by_cases z1:j=i
  ·subst z1;obtain⟨rfl,q1⟩:=atI e1;obtain⟨f2,w2⟩:=one k t (Ne.symm n) e2 w2;obtain⟨o1,o2,_⟩:=(I.slot k t f2).own w2;rw[q1]at w1;exact(ow k t a (Ne.symm n) f2 w2 o1 o2).2.2 w1
  ·have p1:=one j s z1 e1 w1
   by_cases z2:k=i
   ·subst z2;obtain⟨rfl,q2⟩:=atI e2;obtain⟨o1,o2,_⟩:=(I.slot j s p1.1).own p1.2;rw[q2]at w2;exact(ow j s a z1 p1.1 p1.2 o1 o2).2.2 w2
   ·have p2:=one k t z2 e2 w2;exact I.dis j k s t a n p1.1 p2.1 p1.2 p2.2
theorem SI.nw (I:SI K B G H σ ρ)(hp:H p=none):Nw K G H σ ρ p:=fun i s e w=>((I.slot i s e).own w).2.1 hp
theorem SI.nw_move (I:SI K B G H σ ρ)(n:Nw K G H σ ρ p)(ow:∀(i:Nat) (s:Sl) (a:Addr),ρ[i]? =some s->OwS K G H σ[i]? a s->G a=none->H a≠none->G' a=none/\H' a=H a):Nw K G' H' σ ρ p:=
 fun i s e w=>n i s e ((I.slot i s e).back (fun a w g h=>ow i s a e w g h) w)
theorem SI.allocF (I:SI K B G H σ ρ)(hp:H p=none)(o:HO):SI K B (upd G p o) (upd H p o) σ ρ:=
 I.move (I.fz.upd2 p o) (Fz.new (I.fz.free hp) o) (fun b u e=>by
  by_cases q:b=p
  ·subst q;exact .inr (I.there b hp)
  ·rw[zam q]at e;exact I.new b u e) (fun b u e n=>by
  have q:=I.keep b u e n;rw[zam (zaI q hp)];exact q) (fun b e=>by
  by_cases q:b=p
  ·subst q;rw[zaq]at e;cases e
  ·rw[zam q]at e;exact I.there b e) (fun i s a _ _ g h=>by
  have q:a≠p:=fun z=>h (by rw[z];exact hp)
  rw[zam q,zam q];exact⟨g,rfl⟩)
theorem SI.allocO (I:SI K B G H σ ρ)(hp:H p=none)(o:HO):SI K B G (upd H p o) σ ρ:=
 I.move (I.fz.right (I.fz.free hp) o) (Fz.refl G) I.new (fun b u e n=>by
  have q:=I.keep b u e n;rw[zam (zaI q hp)];exact q) (fun b e=>by
  by_cases q:b=p
  ·subst q;rw[zaq]at e;cases e
  ·rw[zam q]at e;exact I.there b e) (fun i s a _ _ g h=>by
  have q:a≠p:=fun z=>h (by rw[z];exact hp)
  rw[zam q];exact⟨g,rfl⟩)
theorem SI.frz (I:SI K B G H σ ρ){o:HO}(hl:H l=some o)(hB:B.H l=none)(hn:Nw K G H σ ρ l)(hg:G l=none):SI K B (upd G l o) H σ ρ:=
 I.move (fun a u q=>by
  by_cases e:a=l
  ·subst e;rw[zaq]at q;cases q;exact hl
  ·rw[zam e]at q;exact I.fz a u q) (Fz.new hg o) (fun b u e=>by
  by_cases q:b=l
  ·subst q;exact .inr hB
  ·rw[zam q]at e;exact I.new b u e) I.keep I.there (fun i s a e w g _=>by
  refine⟨?_,rfl⟩;rw[zam (fun z=>?_)]
  ·exact g
  ·subst z;exact hn i s e w)
theorem SI.set (I:SI K B G H σ ρ)(h:RepD K G v d):SI K B G H (σ.set i (some v)) (ρ.set i (.val d)):=
 I.chg I.fz (Fz.refl G) I.new I.keep I.there (fun _ _ _ _ _ _ g _=>⟨g,rfl,id⟩) ⟨v,rfl,h⟩
theorem SI.setO (I:SI K B G H σ ρ)(hg:G l=none)(hl:H l=some (.lst xs))(h:RepL K G xs ds)(hB:B.H l=none)(hn:Nw K G H σ ρ l):
  SI K B G H (σ.set i (some (.ref l))) (ρ.set i (.own ds)):=
 I.chg I.fz (Fz.refl G) I.new I.keep I.there (fun j s a _ e w g _=>⟨g,rfl,fun z=>by cases(show some (some (V.ref l))=some (some (.ref a))from z);exact hn j s e w⟩) ⟨l,xs,rfl,hg,hl,h,hB⟩
theorem SI.wr (I:SI K B G H σ ρ)(e:ρ[i]? =some s)(q:s.items=some ds):∃l xs,σ[i]? =some (some (.ref l))/\G l=none/\H l=some (.lst xs)/\RepL K G xs ds:=by
 have h:=I.slot i s e;cases s with
 |emp=>exact cNN q
 |two _ _=>exact cNN q
 |val d=>exact cNN q
 |tre _=>exact cNN q
 |ptr _=>exact cNN q
 |own es=>cases q;obtain⟨l,xs,h1,h2,h3,h4,_⟩:=h;exact⟨l,xs,h1,h2,h3,h4⟩
 |par es=>cases q;obtain⟨l,xs,h1,h2,h3,h4,_⟩:=h;exact⟨l,xs,h1,h2,h3,h4⟩
def Sl.put (s:Sl)(ds:List D):Sl:=match s with
 | .own _=> .own ds
 | .par _=> .par ds
 |s=>s
theorem zba (q:s.items=some ds):OwS K G H ov a s↔ov=some (some (.ref a)):=by
 cases s with
 |own _=>exact Iff.rfl
 |par _=>exact Iff.rfl
 |_=>exact cNN q
theorem zg9 (q:s.items=some ds)(es:List D):(s.put es).items=some es:=by
 cases s with
 |own _=>rfl
 |par _=>rfl
 |_=>exact cNN q
theorem zhB {α:Type}{l:List α}{x:α}(e:l[i]? =some x):l.set i x=l:=by
 obtain⟨h,rfl⟩:=qat.mp e;exact List.set_getElem_self h
theorem SI.chgW (I:SI K B G H σ ρ){i:Nat}(e:ρ[i]? =some s)(q:s.items=some ds)(hl:σ[i]? =some (some (.ref l)))(fz:Fz G' H')(fg:Fz G G')(nw:∀b o,G' b=some o->G b≠none\/H b=none)
  (kp:∀b o,b≠l->H b=some o->H' b=some o) (gl:G' l=none) (hl':H' l=some (.lst ys)) (r:RepL K G' ys es):SI K B G' H' σ (ρ.set i (s.put es)):=by
 obtain⟨l',xs,e1,e2,e3,e4⟩:=I.wr e q;rw[hl]at e1;cases e1;have sl:=I.slot i s e;have nb:∀b o,B.H b=some o->(∀i,(i,b)∉B.O)->b≠l:=fun b o h1 h2 z=>by
  subst z;rcases(sl.own ((zba q).mpr hl)).2.2 with z|z
  ·rw[h1]at z;cases z
  ·exact h2 i z
 have h:=I.chg (i:=i) (ov:=some (.ref l)) (s':=s.put es) (G':=G') (H':=H') fz fg (fun b o k=>?_) (fun b o k1 k2=>kp b o (nb b o k1 k2) (I.keep b o k1 k2)) (fun b k=>?_) (fun j t a z ej w g ha=>?_) ?_
 ·rwa[zhB hl]at h
 ·rcases nw b o k with h|h
  ·cases q2:G b with
   |none=>exact absurd q2 h
   |some u=>exact I.new b u q2
  ·exact .inr (I.there b h)
 ·refine I.there b ?_;cases q2:H b with
  |none=>rfl
  |some u=>
   by_cases z:b=l
   ·subst z;rw[hl']at k;cases k
   ·rw[kp b u z q2]at k;cases k
 ·have na:a≠l:=fun w'=>by subst w';exact I.dis j i t s a z ej e w ((zba q).mpr hl)
  obtain⟨u,hu⟩:=qbA.mp ha;refine⟨?_,(kp a u na hu).trans hu.symm,fun z=>na ?_⟩
  ·cases q2:G' a with
   |none=>rfl
   |some u=>
    rcases nw a u q2 with z|z
    ·exact absurd g z
    ·exact absurd z ha
  ·cases(zba (zg9 q es)).mp z;rfl
 ·cases s with
  |own es'=>obtain⟨l',xs',k1,k2,k3,k4,k5⟩:=sl;rw[hl]at k1;cases k1;exact⟨_,ys,rfl,gl,hl',r,k5⟩
  |par es'=>obtain⟨l',xs',k1,k2,k3,k4,k5⟩:=sl;rw[hl]at k1;cases k1;exact⟨_,ys,rfl,gl,hl',r,k5⟩
  |_=>cases q
theorem SI.write (I:SI K B G H σ ρ)(e:ρ[i]? =some s)(q:s.items=some ds)(hl:σ[i]? =some (some (.ref l)))(h:RepL K G ys es):
  SI K B G (upd H l (.lst ys)) σ (ρ.set i (s.put es)):=by
 obtain⟨l',xs,e1,e2,e3,e4⟩:=I.wr e q;rw[hl]at e1;cases e1;exact I.chgW e q hl (I.fz.right e2 _) (Fz.refl G) (fun b o k=> .inl (by rw[k];simp)) (fun b o z k=>by rw[zam z];exact k) e2 zaq h
theorem SI.freeze (I:SI K B G H σ ρ){i:Nat}(e:ρ[i]? =some (.own ds)):∃l xs,σ[i]? =some (some (.ref l))/\Fz G (upd G l (.lst xs))/\RepD K (upd G l (.lst xs)) (.ref l) (.lst ds)/\
  SI K B (upd G l (.lst xs)) H σ (ρ.set i (.val (.lst ds))):=by
 obtain⟨l,xs,h1,h2,h3,h4,h5⟩:=I.slot i _ e;have fz:=Fz.new h2 (.lst xs);have rep:RepD K (upd G l (.lst xs)) (.ref l) (.lst ds):=⟨l,xs,rfl,zaq,h4.mono fz⟩;refine⟨l,xs,h1,fz,rep,?_⟩;have h:=I.chg (i:=i) (ov:=some (.ref l)) (s':= .val (.lst ds)) (G':=upd G l (.lst xs)) (H':=H) (fun a u q=>?_) fz (fun b u q=>?_) I.keep I.there (fun j t a z ej w g _=>⟨?_,rfl,id⟩) ⟨.ref l,rfl,rep⟩
 ·rwa[zhB h1]at h
 ·by_cases z:a=l
  ·subst z;rw[zaq]at q;cases q;exact h3
  ·rw[zam z]at q;exact I.fz a u q
 ·by_cases z:b=l
  ·subst z;exact .inr h5
  ·rw[zam z]at q;exact I.new b u q
 ·rw[zam (fun q=>by subst q;exact I.dis j i t _ a z ej e w h1)];exact g
end
abbrev ME:=R->Option (D×R)
abbrev MO:=R->Option (List D×R)
abbrev MT:=R->Option (Bool×R)
abbrev MA:=R->Option (List D×R)
def SEb (X:Cx)(e:Expr)(m:ME)(t:TE):Prop:=∀B G H σ ρ d ρ' (Q:VK),SI X.K B G H σ ρ->m ρ=some (d,ρ')->(∀G' H' v,SI X.K B G' H' σ ρ'->Fz G G'->RepD X.K G' v d->Q v H')->t σ H Q
def SE (X:Cx)(e:Expr)(m:ME):Prop:=∃t,PE X e t/\SEb X e m t
theorem SE.el {m:ME}(h:SE X e m)(k:∀t,PE X e t->SEb X e m t->C):C:=h.elim fun t q=>k t q.1 q.2
def SOb (X:Cx)(e:Expr)(m:MO)(t:TE):Prop:=∀B G H σ ρ ds ρ' (Q:VK),SI X.K B G H σ ρ->m ρ=some (ds,ρ')->
  (∀G' H' l xs,SI X.K B G' H' σ ρ'->Fz G G'->G' l=none->H' l=some (.lst xs)->RepL X.K G' xs ds->B.H l=none->Nw X.K G' H' σ ρ' l->Q (.ref l) H')->t σ H Q
def SO (X:Cx)(e:Expr)(m:MO):Prop:=∃t,PE X e t/\SOb X e m t
theorem SO.el (h:SO X e m)(k:∀t,PE X e t->SOb X e m t->C):C:=h.elim fun t q=>k t q.1 q.2
def STtb (X:Cx)(e:Expr)(m:MT)(t:TT):Prop:=∀B G H σ ρ d ρ' (Q:Bool->Hp->Prop),SI X.K B G H σ ρ->m ρ=some (d,ρ')->(∀G' H',SI X.K B G' H' σ ρ'->Fz G G'->Q d H')->t σ H Q
def STt (X:Cx)(e:Expr)(m:MT):Prop:=∃t,PT X e t/\STtb X e m t
theorem STt.el {m:MT}(h:STt X e m)(k:∀t,PT X e t->STtb X e m t->C):C:=h.elim fun t q=>k t q.1 q.2
def SAb (X:Cx)(es:List Expr)(m:MA)(t:TA):Prop:=∀B G H σ ρ ds ρ' (Q:List V->Hp->Prop),SI X.K B G H σ ρ->m ρ=some (ds,ρ')->(∀G' H' vs,SI X.K B G' H' σ ρ'->Fz G G'->RepL X.K G' vs ds->Q vs H')->t σ H Q
def SA (X:Cx)(es:List Expr)(m:MA):Prop:=∃t,PA X es t/\SAb X es m t
theorem SA.el {es:List Expr}{m:MA}(h:SA X es m)(k:∀t,PA X es t->SAb X es m t->C):C:=h.elim fun t q=>k t q.1 q.2
theorem zhN {B:Bs}{σ:St}(I:SI K B G H σ ρ)(hg:G l=none)(hl:H l=some (.lst xs))(h:RepL K G xs ds)(hB:B.H l=none)(hn:Nw K G H σ ρ l):
  SI K B (upd G l (.lst xs)) H σ ρ/\Fz G (upd G l (.lst xs))/\RepD K (upd G l (.lst xs)) (.ref l) (.lst ds):=
 ⟨I.frz hl hB hn hg,Fz.new hg _,⟨l,xs,rfl,zaq,h.mono (Fz.new hg _)⟩⟩
def eFz (m:MO):ME:=fun ρ=>(m ρ).map fun p=>(.lst p.1,p.2)
theorem SO.se (h:SO X e m):SE X e (eFz m):=by
 refine h.el fun t p s=>?_
 refine⟨t,p,fun B G H σ ρ d ρ' Q I hm k=>?_⟩;unfold eFz at hm;cases q:m ρ with
 |none=>rw[q]at hm;exact cNN hm
 |some r=>
  obtain⟨ds,ρ1⟩:=r;rw[q]at hm;obtain⟨rfl,rfl⟩:=cSp hm;refine s B G H σ ρ ds _ Q I q fun G' H' l xs I' fz hg hl hr hB hn=>?_
  obtain⟨I2,f2,r2⟩:=zhN I' hg hl hr hB hn;exact k _ _ _ I2 (fz.trans f2) r2
def eC (d:D):ME:=fun ρ=>some (d,ρ)
def eVar (i:Nat):ME:=fun ρ=>match ρ[i]? with
 |some (.val d)=>some (d,ρ)
 |some (.own ds)=>some (.lst ds,ρ.set i (.val (.lst ds)))
 |_=>none
section
variable {X:Cx} {pos:Pos}
theorem zab (i:Nat){x:Str}(hN:X.N[i]? =some x:=by rfl)(hv:Vis X.env.scope x:=by trivial)(hd:(x==("__debug__":Str))=false:=by decide)
  (hcd:(x==("__classdict__":Str))=false:=by decide):SE X (.Name x pos) (eVar i):=by
 refine⟨_,zb3 hN hv hd hcd,fun B G H σ ρ d ρ' Q I hm k=>?_⟩;unfold eVar at hm;cases e:ρ[i]? with
 |none=>rw[e]at hm;exact cNN hm
 |some s=>
  rw[e]at hm;cases s with
  |emp=>exact cNN hm
  |two _ _=>exact cNN hm
  |tre _=>exact cNN hm
  |ptr _=>exact cNN hm
  |par ds=>exact cNN hm
  |val d'=>
   obtain⟨rfl,rfl⟩:=cSp hm;obtain⟨v,h1,h2⟩:=I.slot i _ e;exact⟨v,h1,k G H v I (Fz.refl G) h2⟩
  |own ds=>
   obtain⟨rfl,rfl⟩:=cSp hm;obtain⟨l,xs,h1,f,r,I'⟩:=I.freeze e;exact⟨.ref l,h1,k _ H _ I' f r⟩
theorem zag {i:Int}{j}:SE X (.Constant (.int i) j pos) (eC (.int i)):=⟨_,pe_int,fun B G H σ ρ d ρ' Q I hm k=>by obtain⟨rfl,rfl⟩:=cSp hm;exact k G H _ I (Fz.refl G) rfl⟩
theorem zim {j}:SE X (.Constant (.bool b) j pos) (eC (.bl b)):=⟨_,pe_bl,fun B G H σ ρ d ρ' Q I hm k=>by obtain⟨rfl,rfl⟩:=cSp hm;exact k G H _ I (Fz.refl G) rfl⟩
theorem se_non {j}:SE X (.Constant .none j pos) (eC .non):=⟨_,pe_non,fun B G H σ ρ d ρ' Q I hm k=>by obtain⟨rfl,rfl⟩:=cSp hm;exact k G H _ I (Fz.refl G) rfl⟩
theorem zd4 {x:Str}{j}:SE X (.Constant (.str x) j pos) (eC (.str x)):=⟨_,pe_str,fun B G H σ ρ d ρ' Q I hm k=>by obtain⟨rfl,rfl⟩:=cSp hm;exact k G H _ I (Fz.refl G) rfl⟩
end
def aNil:MA:=fun ρ=>some ([],ρ)
def zae (m:ME)(r:MA):MA:=fun ρ=>(m ρ).bind fun p=>(r p.2).map fun q=>(p.1::q.1,q.2)
section
variable {X:Cx} {e:Expr} {es:List Expr} {m:ME} {r:MA}
theorem zaf:SA X [] aNil:=⟨_,ziF,fun B G H σ ρ ds ρ' Q I hm k=>by obtain⟨rfl,rfl⟩:=cSp hm;exact k G H [] I (Fz.refl G) .nil⟩
theorem zaa (h:SE X e m)(hr:SA X es r)(hs:starEach (e::es) X.env=(false,eval e X.env)::starEach es X.env:=by rfl):SA X (e::es) (zae m r):=by
 refine h.el fun t p s=>?_
 refine hr.el fun u q z=>?_
 refine⟨_,zeu p q hs,fun B G H σ ρ ds ρ' Q I hm k=>?_⟩;unfold zae at hm;cases e1:m ρ with
 |none=>rw[e1]at hm;exact cNN hm
 |some a=>
  obtain⟨d,ρ1⟩:=a;rw[e1]at hm;cases e2:r ρ1 with
  |none=>simp[e2]at hm
  |some b=>
   obtain⟨es',ρ2⟩:=b;simp only[qbB,e2,qbC,Option.some.injEq,Prod.mk.injEq]at hm;obtain⟨rfl,rfl⟩:=hm;exact s B G H σ ρ d ρ1 _ I e1 fun G1 H1 v I1 f1 r1=>z B G1 H1 σ ρ1 es' ρ2 _ I1 e2 fun G2 H2 vs I2 f2 r2=>k G2 H2 (v::vs) I2 (f1.trans f2) (.cons (r1.mono f2) r2)
end
def V2 (X:Cx)(r:R2)(f:D->D->Option D):Prop:=∀B G H σ ρ x y a b d (Q:VK),SI X.K B G H σ ρ->RepD X.K G x a->RepD X.K G y b->f a b=some d->(∀G' H' v,SI X.K B G' H' σ ρ->Fz G G'->RepD X.K G' v d->Q v H')->r x y H Q
def V1 (X:Cx)(r:V->Hp->VK->Prop)(f:D->Option D):Prop:=∀B G H σ ρ x a d (Q:VK),SI X.K B G H σ ρ->RepD X.K G x a->f a=some d->(∀G' H' v,SI X.K B G' H' σ ρ->Fz G G'->RepD X.K G' v d->Q v H')->r x H Q
def VC (X:Cx)(r:List V->Hp->VK->Prop)(f:List D->Option D):Prop:=∀B G H σ ρ xs ds d (Q:VK),SI X.K B G H σ ρ->RepL X.K G xs ds->f ds=some d->(∀G' H' v,SI X.K B G' H' σ ρ->Fz G G'->RepD X.K G' v d->Q v H')->r xs H Q
def m2 (f:D->D->Option D)(ma mb:ME):ME:=fun ρ=>(ma ρ).bind fun p=>(mb p.2).bind fun q=>(f p.1 q.1).map fun d=>(d,q.2)
def m1 (f:D->Option D)(ma:ME):ME:=fun ρ=>(ma ρ).bind fun p=>(f p.1).map fun d=>(d,p.2)
def mC (f:List D->Option D)(ma:MA):ME:=fun ρ=>(ma ρ).bind fun p=>(f p.1).map fun d=>(d,p.2)
theorem m2_inv {ma mb:ME}(h:m2 f ma mb ρ=some (d,ρ')):∃a ρ1 b,ma ρ=some (a,ρ1)/\mb ρ1=some (b,ρ')/\f a b=some d:=by
 unfold m2 at h;cases e1:ma ρ with
 |none=>rw[e1]at h;exact cNN h
 |some p=>
  obtain⟨a,ρ1⟩:=p;rw[e1]at h;cases e2:mb ρ1 with
  |none=>simp[e2]at h
  |some q=>
   obtain⟨b,ρ2⟩:=q;simp only[qbB,e2]at h;cases e3:f a b with
   |none=>rw[e3]at h;exact cNN h
   |some c=>rw[e3]at h;obtain⟨rfl,rfl⟩:=cSp h;exact⟨a,ρ1,b,rfl,e2,e3⟩
theorem m1_inv {f:D->Option D}(h:m1 f ma ρ=some (d,ρ')):∃a,ma ρ=some (a,ρ')/\f a=some d:=by
 unfold m1 at h;cases e1:ma ρ with
 |none=>rw[e1]at h;exact cNN h
 |some p=>
  obtain⟨a,ρ1⟩:=p;rw[e1]at h;simp only[qbB]at h;cases e3:f a with
  |none=>rw[e3]at h;exact cNN h
  |some c=>rw[e3]at h;obtain⟨rfl,rfl⟩:=cSp h;exact⟨a,rfl,e3⟩
theorem mC_inv {f:List D->Option D}{ma:MA}(h:mC f ma ρ=some (d,ρ')):∃a,ma ρ=some (a,ρ')/\f a=some d:=by
 unfold mC at h;cases e1:ma ρ with
 |none=>rw[e1]at h;exact cNN h
 |some p=>
  obtain⟨a,ρ1⟩:=p;rw[e1]at h;simp only[qbB]at h;cases e3:f a with
  |none=>rw[e3]at h;exact cNN h
  |some c=>rw[e3]at h;obtain⟨rfl,rfl⟩:=cSp h;exact⟨a,rfl,e3⟩
section
variable {X:Cx} {a b:Expr} {ma mb:ME} {pos:Pos} {f:D->D->Option D}
theorem zme {r:R2}{ta tb:TE}(hv:V2 X r f)
  (sa:∀B G H σ ρ d ρ' (Q:VK),SI X.K B G H σ ρ->ma ρ=some (d,ρ')->(∀G' H' v,SI X.K B G' H' σ ρ'->Fz G G'->RepD X.K G' v d->Q v H')->ta σ H Q)
  (sb:∀B G H σ ρ d ρ' (Q:VK),SI X.K B G H σ ρ->mb ρ=some (d,ρ')->(∀G' H' v,SI X.K B G' H' σ ρ'->Fz G G'->RepD X.K G' v d->Q v H')->tb σ H Q):
  ∀B G H σ ρ d ρ' (Q:VK),SI X.K B G H σ ρ->m2 f ma mb ρ=some (d,ρ')->(∀G' H' v,SI X.K B G' H' σ ρ'->Fz G G'->RepD X.K G' v d->Q v H')->tOp r ta tb σ H Q:=by
 intro B G H σ ρ d ρ' Q I hm k;obtain⟨x,ρ1,y,e1,e2,e3⟩:=m2_inv hm;exact sa B G H σ ρ x ρ1 _ I e1 fun G1 H1 v I1 f1 r1=>sb B G1 H1 σ ρ1 y ρ' _ I1 e2 fun G2 H2 u I2 f2 r2=>
  hv B G2 H2 σ ρ' v u x y d Q I2 (r1.mono f2) r2 e3 fun G3 H3 z I3 f3 r3=>k G3 H3 z I3 (f1.trans (f2.trans f3)) r3
theorem zhU {r:R2}(ho:OpR X (binaryOp op) r)(hv:V2 X r f)(ha:SE X a ma)(hb:SE X b mb):SE X (.BinOp a op b pos) (m2 f ma mb):=by
 refine ha.el fun ta pa sa=>?_
 refine hb.el fun tb pb sb=>?_
 exact⟨_,pe_op ho pa pb,zme hv sa sb⟩
theorem se_cmp {op:CmpOp}{r:R2}(ho:OpR X (compareOp op) r)(hv:V2 X r f)(ha:SE X a ma)(hb:SE X b mb)(hm:behindInMarks op b=false):SE X (.Compare a [op] [b] pos) (m2 f ma mb):=by
 refine ha.el fun ta pa sa=>?_
 refine hb.el fun tb pb sb=>?_
 exact⟨_,pe_cmpR ho pa pb hm,zme hv sa sb⟩
theorem se_un {op:UnaryOp}(ho:UnR X (unaryOp op) r)(hv:V1 X r g)(ha:SE X a ma):SE X (.UnaryOp op a pos) (m1 g ma):=by
 refine ha.el fun ta pa sa=>?_
 refine⟨_,pe_un ho pa,fun B G H σ ρ d ρ' Q I hm k=>?_⟩;obtain⟨x,e1,e2⟩:=m1_inv hm;exact sa B G H σ ρ x ρ' _ I e1 fun G1 H1 v I1 f1 r1=>hv B G1 H1 σ ρ' v x d Q I1 r1 e2 fun G2 H2 z I2 f2 r2=>k G2 H2 z I2 (f1.trans f2) r2
theorem se_ix {r:R2}(hr:IxR X r)(hv:V2 X r f)(ha:SE X a ma)(hb:SE X b mb)(hs:zjE b):SE X (.Subscript a b pos) (m2 f ma mb):=by
 refine ha.el fun ta pa sa=>?_
 refine hb.el fun tb pb sb=>?_
 exact⟨_,pe_ix hr pa pb hs,zme hv sa sb⟩
end
section
variable {X:Cx} {x:Str} {p pos:Pos} {e:Expr} {es:List Expr} {ma:MA} {id T:String} {r:List V->Hp->VK->Prop} {f:List D->Option D}
theorem soundC {t:TA}(hv:VC X r f)(sa:∀B G H σ ρ ds ρ' (Q:List V->Hp->Prop),SI X.K B G H σ ρ->ma ρ=some (ds,ρ')->(∀G' H' vs,SI X.K B G' H' σ ρ'->Fz G G'->RepL X.K G' vs ds->Q vs H')->t σ H Q):
  ∀B G H σ ρ d ρ' (Q:VK),SI X.K B G H σ ρ->mC f ma ρ=some (d,ρ')->(∀G' H' v,SI X.K B G' H' σ ρ'->Fz G G'->RepD X.K G' v d->Q v H')->tCB r t σ H Q:=by
 intro B G H σ ρ d ρ' Q I hm k;obtain⟨ds,e1,e2⟩:=mC_inv hm;exact sa B G H σ ρ ds ρ' _ I e1 fun G1 H1 vs I1 f1 r1=>hv B G1 H1 σ ρ' vs ds d Q I1 r1 e2 fun G2 H2 z I2 f2 r2=>k G2 H2 z I2 (f1.trans f2) r2
theorem zcO (hc:zeS X (.builtin id) r)(hv:VC X r f)(hb:bootBuiltins x=some (.builtin id))(hm:X.mg x=none)(ha:SA X (e::es) ma)(hg:Gl X x:=by rfl)(hn:x≠"__name__":=by decide)(hdb:(x==("__debug__":Str))=false:=by decide)
  (he:starEach (e::es) X.env=(false,eval e X.env)::starEach es X.env:=by rfl) (hpl:(backTo pos (starEach es X.env)).any (·.1)=false:=by rfl):SE X (.Call (.Name x p) (e::es) [] pos) (mC f ma):=by
 refine ha.el fun t pa sa=>?_
 exact⟨_,zjF hc hg hm hb pa hn hdb he hpl,soundC hv sa⟩
theorem zoy (hc:zeS X (.type T) r)(hv:VC X r f)(hb:bootBuiltins x=some (.type T))(hm:X.mg x=none)(ha:SA X (e::es) ma)(hg:Gl X x:=by rfl)(hn:x≠"__name__":=by decide)(hdb:(x==("__debug__":Str))=false:=by decide)
  (he:starEach (e::es) X.env=(false,eval e X.env)::starEach es X.env:=by rfl) (hpl:(backTo pos (starEach es X.env)).any (·.1)=false:=by rfl):SE X (.Call (.Name x p) (e::es) [] pos) (mC f ma):=by
 refine ha.el fun t pa sa=>?_
 exact⟨_,ze4 hc hg hm hb pa hn hdb he hpl,soundC hv sa⟩
end
end M
namespace M
open L2 PySem PySem.Spec
open PyProof.Rows hiding St
variable {v:V} {ds cs out:List D} {p l DD:Addr} {xs vs ys:List V} {c:Int->Int->Bool} {g:D->R->Option R} {x qual:Str} {d:D} {C:Prop} {X:Cx} {a b e tg it:Expr} {ma:MA} {pos pos':Pos} {k i j n t:Nat} {K:W.Frag} {G H H' G' Hc Gc:Hp} {us its:List Value} {u:Value} {A:Around} {B:Bs} {σ σc:St} {ρ ρ':R} {s:Sl} {Q E:Value->Shared->Prop} {f:D->R->Option (Option D×R)} {op:CmpOp} {m:MS} {mc:MT} {tgs es ifs:List Expr} {h:List D->R->Option R} {body:List Stmt} {N ps:List Str} {fd:FuncData} {env:Env} {scope:Scope} {cl:List (Str×Addr)} {h':Heap} {prog:Program} {w:World} {use:Option (Value->Sem Unit)} {ov:Option (Option V)} {cap:List Nat} {o:Option D} {O:List (Nat×Addr)} {tg':Addr->Shared->Hp->List Addr->TG} {tt:Addr->Shared->Hp->List Addr->TT} {te:Addr->Shared->Hp->List Addr->TE} {JJ:Hp->Hp->St->R->Prop} {wi:TI} {ns:List Int}
section
variable {X:Cx} {K:W.Frag} {B:Bs} {G H:Hp} {σ:St} {ρ:R}
theorem SI.lst (I:SI K B G H σ ρ)(h:RepD K G v (.lst ds)):∃a xs,v= .ref a/\H a=some (.lst xs)/\RepL K G xs ds:=by
 obtain⟨a,xs,e,q,r⟩:=h;exact⟨a,xs,e,I.fz a _ q,r⟩
theorem SI.tup (I:SI K B G H σ ρ)(h:RepD K G v (.tup ds)):∃a xs,v= .ref a/\H a=some (.tup xs)/\RepL K G xs ds:=by
 obtain⟨a,xs,e,q,r⟩:=h;exact⟨a,xs,e,I.fz a _ q,r⟩
theorem SI.newT (I:SI K B G H σ ρ)(hp:H p=none)(h:RepL K G xs ds):SI K B (upd G p (.tup xs)) (upd H p (.tup xs)) σ ρ/\Fz G (upd G p (.tup xs))/\RepD K (upd G p (.tup xs)) (.ref p) (.tup ds):=
 ⟨I.allocF hp _,Fz.new (I.fz.free hp) _,⟨p,xs,rfl,zaq,h.mono (Fz.new (I.fz.free hp) _)⟩⟩
theorem SI.newL (I:SI K B G H σ ρ)(hp:H p=none)(h:RepL K G xs ds):SI K B (upd G p (.lst xs)) (upd H p (.lst xs)) σ ρ/\Fz G (upd G p (.lst xs))/\RepD K (upd G p (.lst xs)) (.ref p) (.lst ds):=
 ⟨I.allocF hp _,Fz.new (I.fz.free hp) _,⟨p,xs,rfl,zaq,h.mono (Fz.new (I.fz.free hp) _)⟩⟩
end
def dI2 (c:Int->Int->Bool)(g:Int->Int->D):D->D->Option D
 | .int i,.int j=>if c i j then some (g i j)else none
 |_,_=>none
theorem zmy {g:Int->Int->D}{x y d:D}(h:dI2 c g x y=some d)(k:∀i j,x= .int i->y= .int j->c i j=true->g i j=d->C):C:=by
 cases x with
 |int i=>cases y with
  |int j=>exact cIte h fun z h=>k i j rfl rfl z (Option.some.inj h)
  |_=>exact cNN h
 |_=>exact cNN h
theorem zhO {C:Int->Int->Prop}{g:Int->Int->Int}(hc:∀i j,c i j=true->C i j):V2 X (rI C fun i j=> .int (g i j)) (dI2 c fun i j=> .int (g i j)):=fun B G H σ ρ x y a b d Q I ra rb hf k=>zmy hf fun i j ea eb h ed=>by
 subst ea eb ed;exact⟨i,j,ra,rb,hc i j h,k G H _ I (Fz.refl G) rfl⟩
theorem zoR {g:Int->Int->Int}:V2 X (rI0 fun i j=> .int (g i j)) (dI2 (fun _ _=>true) fun i j=> .int (g i j)):=fun B G H σ ρ x y a b d Q I ra rb hf k=>zmy hf fun i j ea eb h ed=>by
 subst ea eb ed;exact⟨i,j,ra,rb,k G H _ I (Fz.refl G) rfl⟩
theorem zmF {g:Int->Int->Bool}:V2 X (rI0 fun i j=> .bl (g i j)) (dI2 (fun _ _=>true) fun i j=> .bl (g i j)):=fun B G H σ ρ x y a b d Q I ra rb hf k=>zmy hf fun i j ea eb h ed=>by
 subst ea eb ed;exact⟨i,j,ra,rb,k G H _ I (Fz.refl G) rfl⟩
def dSub:D->D->Option D:=dI2 (fun _ _=>true) fun i j=> .int (i-j)
def divOk (j:Int):Bool:=decide (0<j)&&decide (j.natAbs.log2<9000)
theorem op_fdivW:OpR X (binaryOp .FloorDiv) (rI (fun _ j=>0<j/\j.natAbs.log2<9000) fun i j=> .int (i/j)):=opI fun i j _ _ _ _ _ hc q=>by
 have h1:(0:Int)<j:=hc.1;exact PyProof.Rows.floordiv_int (by lia) (by rw[qaK i (by lia)];exact q) (.inl (PyProof.noPylong_of_log2 hc.2))
def dDiv:D->D->Option D:=dI2 (fun _ j=>divOk j) fun i j=> .int (i/j)
def dMod:D->D->Option D:=dI2 (fun _ j=>decide (0<j)) fun i j=> .int (i%j)
def dPow:D->D->Option D:=dI2 (fun i j=>decide (0<=j)&&decide (j<=1000000)&&decide (i.natAbs<2^64)) fun i j=> .int (i^j.toNat)
def dShl:D->D->Option D:=dI2 (fun i j=>decide (0<=j)&&decide (j<=1000000)&&decide (i.natAbs<2^64)) fun i j=> .int (i*2^j.toNat)
def dShr:D->D->Option D:=dI2 (fun _ j=>decide (0<=j)) fun i j=> .int (i/2^j.toNat)
def dAnd:D->D->Option D:=dI2 (fun _ _=>true) fun i j=> .int (Builtin.bitAnd i j)
def dLt:D->D->Option D:=dI2 (fun _ _=>true) fun i j=> .bl (decide (i<j))
def dGt:D->D->Option D:=dI2 (fun _ _=>true) fun i j=> .bl (decide (j<i))
def dGe:D->D->Option D:=dI2 (fun _ _=>true) fun i j=> .bl (decide (j<=i))
section
variable {X:Cx} {a b:Expr} {ma mb:ME} {pos:Pos}
theorem ziD (ha:SE X a ma)(hb:SE X b mb):SE X (.BinOp a .Sub b pos) (m2 dSub ma mb):=zhU op_sub zoR ha hb
theorem se_div (ha:SE X a ma)(hb:SE X b mb):SE X (.BinOp a .FloorDiv b pos) (m2 dDiv ma mb):=zhU op_fdivW (zhO fun i j h=>by simpa[divOk]using h) ha hb
theorem zgM (ha:SE X a ma)(hb:SE X b mb):SE X (.BinOp a .Mod b pos) (m2 dMod ma mb):=zhU op_mod (zhO fun i j h=>by simpa using h) ha hb
theorem zfh (ha:SE X a ma)(hb:SE X b mb):SE X (.BinOp a .Pow b pos) (m2 dPow ma mb):=zhU op_pow (zhO fun i j h=>by simp only[qbm,qbD]at h;exact⟨h.1.1,h.1.2,h.2⟩) ha hb
theorem se_shl (ha:SE X a ma)(hb:SE X b mb):SE X (.BinOp a .LShift b pos) (m2 dShl ma mb):=zhU op_shl (zhO fun i j h=>by simp only[qbm,qbD]at h;exact⟨h.1.1,h.1.2,h.2⟩) ha hb
theorem se_shr (ha:SE X a ma)(hb:SE X b mb):SE X (.BinOp a .RShift b pos) (m2 dShr ma mb):=zhU op_shr (zhO fun i j h=>by simpa using h) ha hb
theorem znl (ha:SE X a ma)(hb:SE X b mb):SE X (.BinOp a .BitAnd b pos) (m2 dAnd ma mb):=zhU op_and zoR ha hb
theorem se_ge (ha:SE X a ma)(hb:SE X b mb):SE X (.Compare a [.GtE] [b] pos) (m2 dGe ma mb):=se_cmp op_ge zmF ha hb (zig _)
end
def dNeg:D->Option D
 | .int i=>some (.int (-i))
 |_=>none
theorem ziC {ma:ME}(ha:SE X a ma):SE X (.UnaryOp .USub a pos) (m1 dNeg ma):=
 se_un un_neg (fun B G H σ ρ x a d Q I ra hf k=>by
  cases a<;>simp only[dNeg]at hf<;>try cases hf
  exact⟨_,ra,k G H _ I (Fz.refl G) rfl⟩) ha
def zj4 (i j:Int):Bool:=(decide (i.natAbs<2^64)||decide (j.natAbs<2^64))||(decide (i.natAbs<2^4000)&&decide (j.natAbs<2^4000))
def dMul:D->D->Option D
 | .int i,.int j=>if zj4 i j then some (.int (i*j))else none
 | .lst ds,.int k=>if decide (-1000000<=k)&&decide (k<=1000000)&&decide (ds.length*k.toNat<=1000000)then some (.lst (List.replicate k.toNat ds).flatten)else none
 |_,_=>none
theorem zjl {k:Int}(h:k.natAbs<2^4000):Builtin.Int.intBits k<=4000:=by
 unfold Builtin.Int.intBits
 split
 ·exact qaV _
 ·have:k.natAbs.log2<4000:=by
   rcases Nat.eq_zero_or_pos k.natAbs with h0|hp
   ·rw[h0];decide
   ·exact(Nat.log2_lt (Nat.ne_of_gt hp)).mpr h
  lia
theorem mulOk_ok {i j:Int}(h:zj4 i j=true):IntMulOk i j:=by
 unfold zj4 at h;simp only[Bool.or_eq_true,qbm,qbD]at h;rcases h with(h|h)|⟨h1,h2⟩
 ·exact .of_left (intBits_le_64 (by lia) (by lia))
 ·exact .of_right (intBits_le_64 (by lia) (by lia))
 ·have b1:=zjl h1;have b2:=zjl h2;unfold IntMulOk;intro z;simp only[qbm]at z;have z2:=z.2;unfold Builtin.Int.intTooBig at z2
  revert z2
  generalize Builtin.Int.intBits i=p at*
  generalize Builtin.Int.intBits j=q at*
  intro z2;have z3:=qbE z2;have hb:=bitsLine_eq;lia
theorem op_mulG:OpR X (binaryOp .Mult) (rI IntMulOk fun i j=> .int (i*j)):=opI fun _ _ _ _ _ _ _ hc q=>mul_int q hc
theorem ze1 {ma mb:ME}(ha:SE X a ma)(hb:SE X b mb):SE X (.BinOp a .Mult b pos) (m2 dMul ma mb):=by
 refine zhU (op_mulG.or op_rep) (fun B G H σ ρ x y a b d Q I ra rb hf k=>?_) ha hb;cases a with
 |int i=>cases b with
  |int j=>
   refine cIte hf fun h hf=>?_
   obtain rfl:=Option.some.inj hf;exact .inl ⟨i,j,ra,rb,mulOk_ok h,k G H _ I (Fz.refl G) rfl⟩
  |_=>exact cNN hf
 |lst ds=>cases b with
  |int j=>
   refine cIte hf fun h hf=>?_
   obtain rfl:=Option.some.inj hf;simp only[qbm,qbD]at h;obtain⟨a,xs,rfl,ha,r⟩:=I.lst ra;have hl:=r.length;refine .inr ⟨a,j,xs,rfl,rb,ha,by lia,by lia,by rw[hl,qaL];lia,fun p hp=>?_⟩;obtain⟨I2,f2,r2⟩:=I.newL hp (r.rep j.toNat);exact k _ _ _ I2 f2 r2
  |_=>exact cNN hf
 |_=>exact cNN hf
def dAdd:D->D->Option D
 | .int i,.int j=>some (.int (i+j))
 | .tup a,.tup b=>if a.length+b.length<=16777216 then some (.tup (a++b))else none
 | .lst a,.lst b=>if a.length+b.length<=16777216 then some (.lst (a++b))else none
 | .str a,.str b=>if a.length+b.length<=16777216 then some (.str (a++b))else none
 |_,_=>none
theorem op_catT0:OpR X (binaryOp .Add) (fun x y H Q=>∃a b ys,x= .ref a/\y= .ref b/\SqT X.K H a []/\SqT X.K H b ys/\Q (.ref b) H):=by
 intro pins s σ H x y v u Q I rx ry h;obtain⟨a,b,ys,rfl,rfl,ha,hb,q⟩:=h;cases rx;cases ry;obtain⟨its,r1,p1,_⟩:=I.tuple ha;obtain⟨its2,r2,p2,_⟩:=I.tuple hb;obtain rfl:its=[]:=by cases r1;rfl
 obtain⟨⟨cls,dd,data,sl⟩,ho,hc,n,hd⟩:=id p1;obtain⟨⟨cls2,dd2,data2,sl2⟩,ho2,hc2,n2,hd2⟩:=id p2;simp only at hc hd hc2 hd2;subst hc hd hc2 hd2;exact concat_meets ⟨_,ho,rfl⟩ ⟨_,ho2,rfl⟩ noFill_tuple_add seq_tuple_add qbd qbe (qbf _ _)
   (tuple_addW0 a b _ _ n n2 dd dd2 sl sl2 (by simp)) ⟨ho,ho2,⟨.ref b,H,I,rfl,q⟩⟩
theorem za7 {ma mb:ME}(ha:SE X a ma)(hb:SE X b mb):SE X (.BinOp a .Add b pos) (m2 dAdd ma mb):=by
 refine zhU (op_add.or (op_catT.or (op_catT0.or (op_cat.or zm5)))) (fun B G H σ ρ x y a b d Q I ra rb hf k=>?_) ha hb;cases a with
 |int i=>cases b with
  |int j=>obtain rfl:=Option.some.inj hf;exact .inl ⟨_,_,ra,rb,k G H _ I (Fz.refl G) rfl⟩
  |_=>exact cNN hf
 |str i=>cases b with
  |str j=>
   refine cIte hf fun h hf=>?_
   obtain rfl:=Option.some.inj hf;exact .inr (.inr (.inr (.inr ⟨i,j,ra,rb,by rw[qaL];exact h,k G H _ I (Fz.refl G) rfl⟩)))
  |_=>exact cNN hf
 |lst as=>cases b with
  |lst bs=>
   refine cIte hf fun h hf=>?_
   obtain rfl:=Option.some.inj hf;obtain⟨a,xs,rfl,ha,r⟩:=I.lst ra;obtain⟨b,ys,rfl,hb,r2⟩:=I.lst rb;refine .inr (.inr (.inr (.inl ⟨a,b,xs,ys,rfl,rfl,ha,hb,by rw[r.length,r2.length,qaL];exact h,fun p hp=>?_⟩)));obtain⟨I2,f2,r2⟩:=I.newL hp (r.append r2);exact k _ _ _ I2 f2 r2
  |_=>exact cNN hf
 |tup as=>cases b with
  |tup bs=>
   refine cIte hf fun h hf=>?_
   obtain rfl:=Option.some.inj hf;obtain⟨a,xs,rfl,ha,r⟩:=I.tup ra;obtain⟨b,ys,rfl,hb,r2⟩:=I.tup rb
   by_cases z:xs=[]
   ·subst z;have z':as=[]:=qbF r.length.symm;subst z';exact .inr (.inr (.inl ⟨a,b,ys,rfl,rfl,SqT.of ha,SqT.of hb,k G H _ I (Fz.refl G) rb⟩))
   ·refine .inr (.inl ⟨a,b,xs,ys,rfl,rfl,SqT.of ha,SqT.of hb,z,by rw[r.length,r2.length,qaL];exact h,fun w=>?_,fun w p hp=>?_⟩)
    ·subst w;have w':bs=[]:=qbF r2.length.symm;subst w';rw[qaW]at k;exact k G H _ I (Fz.refl G) ra
    ·obtain⟨I2,f2,r2⟩:=I.newT hp (r.append r2);exact k _ _ _ I2 f2 r2
  |_=>exact cNN hf
 |_=>exact cNN hf
mutual
def noS:D->Bool
 | .scr _=>false
 | .exc _=>false
 | .dic _ _=>false
 | .dit _ _=>false
 | .obj _ _ _ _ _=>false
 | .lst ds=>noSL ds
 | .tup ds=>noSL ds
 |_=>true
def noSL:List D->Bool
 |[]=>true
 |d::ds=>noS d&&noSL ds
end
mutual
def eqB:D->D->Bool
 | .non,.non=>true
 | .bl a,.bl b=>a==b
 | .int a,.int b=>a==b
 | .str a,.str b=>a==b
 | .bl a,.int b=>(if a then 1 else 0)==b
 | .int a,.bl b=>a==(if b then 1 else 0)
 | .lst a,.lst b=>eqBL a b
 | .tup a,.tup b=>eqBL a b
 |_,_=>false
def eqBL:List D->List D->Bool
 |[],[]=>true
 |a::as,b::bs=>eqB a b&&eqBL as bs
 |_,_=>false
end
theorem zgx:∀{as bs:List D},as.length≠bs.length->eqBL as bs=false
 |[],[],h=>absurd rfl h
 |[],_::_,_=>rfl
 |_::_,[],_=>rfl
 |a::as,b::bs,h=>by
  have:=zgx (as:=as) (bs:=bs) (fun e=>h (by simp[e]));simp[eqBL,this]
mutual
theorem zko:∀d,noS d=true->eqB d d=true
 | .non,_=>rfl
 | .bl b,_=>by simp[eqB]
 | .int b,_=>by simp[eqB]
 | .str b,_=>by simp[eqB]
 | .lst ds,h=>by simp only[noS]at h;simp only[eqB];exact zih ds h
 | .tup ds,h=>by simp only[noS]at h;simp only[eqB];exact zih ds h
 | .scr _,h=>by simp[noS]at h
 | .exc _,h=>by simp[noS]at h
 |(.dic _ _),h=>by simp[noS]at h
 |(.dit _ _),h=>by simp[noS]at h
 |(.obj _ _ _ _ _),h=>by simp[noS]at h
theorem zih:∀ds,noSL ds=true->eqBL ds ds=true
 |[],_=>rfl
 |d::ds,h=>by
  simp only[noSL,qbm]at h;simp only[eqBL,qbm];exact⟨zko d h.1,zih ds h.2⟩
end
mutual
def depth:D->Nat
 | .lst ds=>zgw ds+1
 | .tup ds=>zgw ds+1
 |_=>0
def zgw:List D->Nat
 |[]=>0
 |d::ds=>max (depth d) (zgw ds)
end
theorem zjB:∀{l:List D} {i:Nat} {d:D},l[i]? =some d->depth d<=zgw l
 |[],_,_,h=>by simp at h
 |c::l,0,d,h=>by simp at h;subst h;simp only[zgw];lia
 |c::l,i+1,d,h=>by
  have:=zjB (l:=l) (i:=i) (d:=d) (by simpa using h);simp only[zgw];lia
theorem zgR:∀{l:List D} {i:Nat} {d:D},l[i]? =some d->noSL l=true->noS d=true
 |[],_,_,h,_=>by simp at h
 |c::l,0,d,h,z=>by simp at h;subst h;simp only[noSL,qbm]at z;exact z.1
 |c::l,i+1,d,h,z=>by simp only[noSL,qbm]at z;exact zgR (l:=l) (i:=i) (by simpa using h) z.2
mutual
theorem RepD.inj:∀{a b:D} {x:V},noS a=true->noS b=true->RepD K G x a->RepD K G x b->a=b
 | .non,b,x,_,nb,ra,rb=>by
  cases(show x=V.non from ra);cases b<;>simp_all [RepD,noS]
 | .bl c,b,x,_,nb,ra,rb=>by
  cases(show x=V.bl c from ra);cases b<;>simp_all [RepD,noS]
 | .int c,b,x,_,nb,ra,rb=>by
  cases(show x=V.int c from ra);cases b<;>simp_all [RepD,noS]
 | .str c,b,x,_,nb,ra,rb=>by
  cases(show x=V.str c from ra);cases b<;>simp_all [RepD,noS]
 | .lst ds,b,x,na,nb,ra,rb=>by
  obtain⟨p,xs,rfl,q,r⟩:=ra;cases b with
  |lst es=>
   obtain⟨p2,ys,e,q2,r2⟩:=rb;cases e;rw[q]at q2;cases q2;simp only[noS]at na nb;rw[RepL.inj na nb r r2]
  |tup es=>
   obtain⟨p2,ys,e,q2,r2⟩:=rb;cases e;rw[q]at q2;cases q2
  |scr _=>simp[noS]at nb
  |exc _=>simp[noS]at nb
  |dic _ _=>simp[noS]at nb
  |dit _ _=>simp[noS]at nb
  |obj _ _ _ _ _=>simp[noS]at nb
  |non=>simp[RepD]at rb
  |bl _=>simp[RepD]at rb
  |int _=>simp[RepD]at rb
  |str _=>simp[RepD]at rb
 | .tup ds,b,x,na,nb,ra,rb=>by
  obtain⟨p,xs,rfl,q,r⟩:=ra;cases b with
  |tup es=>
   obtain⟨p2,ys,e,q2,r2⟩:=rb;cases e;rw[q]at q2;cases q2;simp only[noS]at na nb;rw[RepL.inj na nb r r2]
  |lst es=>
   obtain⟨p2,ys,e,q2,r2⟩:=rb;cases e;rw[q]at q2;cases q2
  |scr _=>simp[noS]at nb
  |exc _=>simp[noS]at nb
  |dic _ _=>simp[noS]at nb
  |dit _ _=>simp[noS]at nb
  |obj _ _ _ _ _=>simp[noS]at nb
  |non=>simp[RepD]at rb
  |bl _=>simp[RepD]at rb
  |int _=>simp[RepD]at rb
  |str _=>simp[RepD]at rb
 | .scr _,_,_,na,_,_,_=>by simp[noS]at na
 | .exc _,_,_,na,_,_,_=>by simp[noS]at na
 |(.dic _ _),_,_,na,_,_,_=>by simp[noS]at na
 |(.dit _ _),_,_,na,_,_,_=>by simp[noS]at na
 |(.obj _ _ _ _ _),_,_,na,_,_,_=>by simp[noS]at na
theorem RepL.inj:∀{as bs:List D} {xs:List V},noSL as=true->noSL bs=true->RepL K G xs as->RepL K G xs bs->as=bs
 |[],[],_,_,_,_,_=>rfl
 |[],_::_,xs,_,_,e,h=>by
  obtain⟨_,_,e2,_⟩:=h;cases(show xs=[]from e);cases e2
 |_::_,[],xs,_,_,h,e=>by
  obtain⟨_,_,e2,_⟩:=h;cases(show xs=[]from e);cases e2
 |a::as,b::bs,xs,na,nb,h,h2=>by
  obtain⟨x,ys,e,q,r⟩:=h;obtain⟨x2,ys2,e2,q2,r2⟩:=h2;subst e;cases e2;simp only[noSL,qbm]at na nb;rw[RepD.inj na.1 nb.1 q q2,RepL.inj na.2 nb.2 r r2]
end
def eqJ (ds es:List D)(j:Nat):Bool:=match ds[j]?,es[j]? with
 |some a,some b=>eqB a b
 |_,_=>false
theorem zd7:∀(as bs:List D),as.length=bs.length->(List.range as.length).all (eqJ as bs)=eqBL as bs
 |[],[],_=>by simp[eqBL]
 |a::as,b::bs,h=>by
  have ih:=zd7 as bs (by simpa using h);rw[qaQ,List.range_succ_eq_map,qbr,List.all_map];simp only[eqBL,<-ih];congr 1
 |[],_::_,h=>by simp at h
 |_::_,[],h=>by simp at h
section
variable {X:Cx} {pins:List (Addr×Obj)} {σ:St} {H G:Hp} {s:Shared}
theorem zp7 (r:Vals xs us)(h:RepL X.K G xs ds)(e:us[j]? =some u):∃x d,ds[j]? =some d/\RelV x u/\RepD X.K G x d:=by
 have hl:=r.length;have hl2:=h.length;have hj:j<us.length:=(qat.mp e).1;have ej:ds[j]? =some ds[j]:=qbG (by lia);obtain⟨x,q1,q2⟩:=h.get ej;obtain⟨u',h1,h2⟩:=r.get q1;have:u'=u:=by rw[h1]at e;exact Option.some.inj e
 subst this;exact⟨x,_,ej,h2,q2⟩
inductive Sh (K:W.Frag) (G:Hp) (s:Shared):D->Value->Prop
 |non:Sh K G s .non .none
 |bl (c:Bool):Sh K G s (.bl c) (.bool c)
 |int (c:Int) (t:Tok):Sh K G s (.int c) (.int c t)
 |str (c:Str) (t:Tok):Sh K G s (.str c) (.str c t)
 |lst {ds:List D} {p:Addr} {xs:List V} {its:List Value} (q:G p=some (.lst xs)) (r:RepL K G xs ds) (rv:Vals xs its) (pl:PlainL s.heap p its.toArray):Sh K G s (.lst ds) (.ref p)
 |tup {ds:List D} {p:Addr} {xs:List V} {its:List Value} (q:G p=some (.tup xs)) (r:RepL K G xs ds) (rv:Vals xs its) (pl:IsTup s.heap p its.toArray):Sh K G s (.tup ds) (.ref p)
theorem znG (I:Inv X pins σ H s)(fz:Fz G H){x:V}(na:noS d=true)(ra:RepD X.K G x d)(rx:RelV x u):Sh X.K G s d u:=by
 cases d with
 |non=>rw[show x=V.non from ra]at rx;rw[show u=Value.none from rx];exact .non
 |bl c=>rw[show x=V.bl c from ra]at rx;rw[show u=Value.bool c from rx];exact .bl c
 |int c=>rw[show x=V.int c from ra]at rx;exact Exists.elim rx fun t e=>by rw[e];exact .int c t
 |str c=>rw[show x=V.str c from ra]at rx;exact Exists.elim rx fun t e=>by rw[e];exact .str c t
 |lst ds=>
  obtain⟨p,xs,e,q,r⟩:=ra;rw[e]at rx;rw[show u=Value.ref p from rx];exact(I.list (SqL.of (fz _ _ q))).elim fun its h=> .lst q r h.1 h.2.1
 |tup ds=>
  obtain⟨p,xs,e,q,r⟩:=ra;rw[e]at rx;rw[show u=Value.ref p from rx];exact(I.tuple (SqT.of (fz _ _ q))).elim fun its h=> .tup q r h.1 h.2.1
 |_=>exact nomatch (show false=true from na)
theorem zjU (I:Inv X pins σ H s)(fz:Fz G H)(ih:∀(a b:D) (u v:Value),depth a<n->noS a=true->noS b=true->Sh X.K G s a u->Sh X.K G s b v->SeqAt.EqAt A s u v (eqB a b))
  {ds es:List D} {xs ys:List V} {its its2:List Value} (hd:zgw ds<n) (nd:noSL ds=true) (ne:noSL es=true) (r:RepL X.K G xs ds) (r2:RepL X.K G ys es) (rv:Vals xs its) (rv2:Vals ys its2) (j:Nat) (h1:j<its.toArray.size) (h2:j<its2.toArray.size):SeqAt.EqAt A s its.toArray[j] its2.toArray[j] (eqJ ds es j):=by
 rw[qaM]at h1 h2;obtain⟨x1,d1,e1,k1,m1⟩:=zp7 rv r (j:=j) (u:=its[j]) (qbG h1);obtain⟨x2,d2,e2,k2,m2⟩:=zp7 rv2 r2 (j:=j) (u:=its2[j]) (qbG h2);rw[show eqJ ds es j=eqB d1 d2 by unfold eqJ;rw[e1,e2]];exact ih d1 d2 _ _ (qbH (zjB e1) hd) (zgR e1 nd) (zgR e2 ne) (znG I fz (zgR e1 nd) m1 k1) (znG I fz (zgR e2 ne) m2 k2)
theorem zoq (I:Inv X pins σ H s)(fz:Fz G H)(n:Nat):∀(A:Around) (a b:D) (u v:Value),depth a<n->noS a=true->noS b=true->A.units+n<cLine->Sh X.K G s a u->Sh X.K G s b v->
  SeqAt.EqAt A s u v (eqB a b)/\SeqAt.RcAt A s u v (eqB a b):=by
 induction n with
 |zero=>intro A a b u v hd;exact absurd hd (Nat.not_lt_zero _)
 |succ n ih=>
  intro A a b u v hd na nb hu ha hb;have hu':A.units<cLine:=by lia
  cases ha with
  |non=>cases hb with
   |non=>exact⟨.same _,.none_none⟩
   |bl c=>exact⟨.none_bool _,.none_bool _⟩
   |int c t=>exact⟨.none_int _ _,.none_int _ _⟩
   |str c t=>exact⟨.none_str _ _,.none_str _ _⟩
   |lst _ _ _ pl=>exact⟨.none_list pl.isList hu',.none_list pl.isList hu'⟩
   |tup _ _ _ pl=>exact⟨.none_tuple pl hu',.none_tuple pl hu'⟩
  |bl c0=>cases hb with
   |non=>exact⟨.bool_none _,.bool_none _⟩
   |bl c=>exact⟨.bool_bool _ _,.bool_bool _ _⟩
   |int c t=>exact⟨.bool_int _ _ _,.bool_int _ _ _⟩
   |str c t=>exact⟨.bool_str _ _ _,.bool_str _ _ _⟩
   |lst _ _ _ pl=>exact⟨.bool_list _ pl.isList hu',.bool_list _ pl.isList hu'⟩
   |tup _ _ _ pl=>exact⟨.bool_tuple _ pl hu',.bool_tuple _ pl hu'⟩
  |int c0 t0=>cases hb with
   |non=>exact⟨.int_none _ _,.int_none _ _⟩
   |bl c=>exact⟨.int_bool _ _ _,.int_bool _ _ _⟩
   |int c t=>exact⟨.int_int _ _ _ _,.int_int _ _ _ _⟩
   |str c t=>exact⟨.int_str _ _ _ _,.int_str _ _ _ _⟩
   |lst _ _ _ pl=>exact⟨.int_list _ _ pl.isList hu',.int_list _ _ pl.isList hu'⟩
   |tup _ _ _ pl=>exact⟨.int_tuple _ _ pl hu',.int_tuple _ _ pl hu'⟩
  |str c0 t0=>cases hb with
   |non=>exact⟨.str_none _ _,.str_none _ _⟩
   |bl c=>exact⟨.str_bool _ _ _,.str_bool _ _ _⟩
   |int c t=>exact⟨.str_int _ _ _ _,.str_int _ _ _ _⟩
   |str c t=>exact⟨.str_str _ _ _ _,.str_str _ _ _ _⟩
   |lst _ _ _ pl=>exact⟨.str_list _ _ pl.isList hu',.str_list _ _ pl.isList hu'⟩
   |tup _ _ _ pl=>exact⟨.str_tuple _ _ pl hu',.str_tuple _ _ pl hu'⟩
  | @lst ds p xs its q r rv pl=>cases hb with
   |non=>exact⟨.list_none pl.isList hu',.list_none pl.isList hu'⟩
   |bl c=>exact⟨.list_bool _ pl.isList hu',.list_bool _ pl.isList hu'⟩
   |int c t=>exact⟨.list_int _ _ pl.isList hu',.list_int _ _ pl.isList hu'⟩
   |str c t=>exact⟨.list_str _ _ pl.isList hu',.list_str _ _ pl.isList hu'⟩
   |tup _ _ _ pl2=>exact⟨.list_tuple pl.isList pl2 hu',.list_tuple pl.isList pl2 hu'⟩
   | @lst es p2 ys its2 q2 r2 rv2 pl2=>
    have l1:=rv.length;have l2:=r.length;have l3:=rv2.length;have l4:=r2.length;have rc:SeqAt.RcAt A s (.ref p) (.ref p2) (eqBL ds es):=by
     by_cases hl:ds.length=es.length
     ·have z:=SeqAt.RcAt.lists (A:=A) (s:=s) (e:=eqJ ds es) pl.isList pl2.isList (by rw[qaM,qaM];lia) hu' (zjU I fz (fun a b u v h1 h2 h3 h4 h5=>(ih A.in1 a b u v h1 h2 h3 (by show A.units+1+n<cLine;lia) h4 h5).1) (Nat.lt_of_succ_lt_succ hd) na nb r r2 rv rv2);rw[qaM,<-l1,l2,zd7 ds es hl]at z;exact z
     ·rw[zgx hl];refine .lists_lengths pl.isList pl2.isList ?_ hu';rw[qaM,qaM,qbI];lia
    refine⟨?_,rc⟩
    by_cases hp:p=p2
    ·subst hp;rw[show D.lst ds= .lst es from RepD.inj na nb ⟨p,xs,rfl,q,r⟩ ⟨p,ys,rfl,q2,r2⟩,zko _ nb];exact .same _
    ·exact .of_refs hp rc
  | @tup ds p xs its q r rv pl=>cases hb with
   |non=>exact⟨.tuple_none pl hu',.tuple_none pl hu'⟩
   |bl c=>exact⟨.tuple_bool _ pl hu',.tuple_bool _ pl hu'⟩
   |int c t=>exact⟨.tuple_int _ _ pl hu',.tuple_int _ _ pl hu'⟩
   |str c t=>exact⟨.tuple_str _ _ pl hu',.tuple_str _ _ pl hu'⟩
   |lst _ _ _ pl2=>exact⟨.tuple_list pl pl2.isList hu',.tuple_list pl pl2.isList hu'⟩
   | @tup es p2 ys its2 q2 r2 rv2 pl2=>
    have l1:=rv.length;have l2:=r.length;have l3:=rv2.length;have l4:=r2.length;have rc:SeqAt.RcAt A s (.ref p) (.ref p2) (eqBL ds es):=by
     have z:=SeqAt.RcAt.tuples (A:=A) (s:=s) (e:=eqJ ds es) pl pl2 hu' (zjU I fz (fun a b u v h1 h2 h3 h4 h5=>(ih A.in1 a b u v h1 h2 h3 (by show A.units+1+n<cLine;lia) h4 h5).1) (Nat.lt_of_succ_lt_succ hd) na nb r r2 rv rv2);rw[qaM,qaM]at z
     by_cases hl:ds.length=es.length
     ·rw[show min its.length its2.length=ds.length by lia,show(its.length==its2.length)=true from qaP.mpr (by lia),qbJ,zd7 ds es hl]at z;exact z
     ·rw[show(its.length==its2.length)=false from qab.mpr (by lia),Bool.and_false]at z;rw[zgx hl];exact z
    refine⟨?_,rc⟩
    by_cases hp:p=p2
    ·subst hp;rw[show D.tup ds= .tup es from RepD.inj na nb ⟨p,xs,rfl,q,r⟩ ⟨p,ys,rfl,q2,r2⟩,zko _ nb];exact .same _
    ·exact .of_refs hp rc
theorem eqAt_D (I:Inv X pins σ H s)(fz:Fz G H)(n:Nat)(A:Around)(a b:D)(x y:V)(u v:Value)(hd:depth a<=n)(na:noS a=true)(nb:noS b=true)(hu:A.units+n+1<cLine)(ra:RepD X.K G x a)(rb:RepD X.K G y b)(rx:RelV x u)(ry:RelV y v):
  SeqAt.EqAt A s u v (eqB a b)/\SeqAt.RcAt A s u v (eqB a b):=zoq I fz (n+1) A a b u v (Nat.lt_succ_of_le hd) na nb hu (znG I fz na ra rx) (znG I fz nb rb ry)
end
def dEq (a b:D):Option D:=if noS a&&noS b&&decide (depth a<=50)then some (.bl (eqB a b))else none
def dNe (a b:D):Option D:=if noS a&&noS b&&decide (depth a<=50)then some (.bl (!eqB a b))else none
def rEqD (K:W.Frag)(c:Bool->Bool):R2:=fun x y H Q=>∃G a b,Fz G H/\RepD K G x a/\RepD K G y b/\noS a=true/\noS b=true/\depth a<=50/\Q (.bl (c (eqB a b))) H
theorem op_eqD (hu:X.A.units+64<cLine):OpR X (compareOp .Eq) (rEqD X.K id):=by
 intro pins s σ H x y v u Q I rx ry h;obtain⟨G,a,b,fz,ra,rb,na,nb,hd,q⟩:=h;exact(eqAt_D I fz 50 X.A a b x y v u hd na nb (by lia) ra rb rx ry).2 _ _ _ _ ⟨.bl _,H,I,rfl,q⟩
theorem zlS {ma mb:ME}(hu:X.A.units+64<cLine)(ha:SE X a ma)(hb:SE X b mb):SE X (.Compare a [.Eq] [b] pos) (m2 dEq ma mb):=by
 refine se_cmp (op_eqD hu) (fun B G H σ ρ x y a b d Q I ra rb hf k=>?_) ha hb (zig _);unfold dEq at hf;refine cIte hf fun h hf=>?_
 simp only[qbm,qbD]at h;cases hf;exact⟨G,a,b,I.fz,ra,rb,h.1.1,h.1.2,h.2,k G H _ I (Fz.refl G) rfl⟩
section
variable {X:Cx} {pins:List (Addr×Obj)} {σ:St} {H G:Hp} {s:Shared}
theorem neAt_Sh (I:Inv X pins σ H s)(fz:Fz G H)(A:Around)(a b:D)(u v:Value)(hd:depth a<=50)(na:noS a=true)(nb:noS b=true)(hu:A.units+64<cLine)(ha:Sh X.K G s a u)(hb:Sh X.K G s b v):SeqAt.RcNeAt A s u v (!eqB a b):=by
 have hu':A.units<cLine:=by lia
 have ih:∀(a b:D) (u v:Value),depth a<50->noS a=true->noS b=true->Sh X.K G s a u->Sh X.K G s b v->SeqAt.EqAt A.in1 s u v (eqB a b):=fun a b u v h1 h2 h3 h4 h5=>(zoq I fz 50 A.in1 a b u v h1 h2 h3 (by show A.units+1+50<cLine;lia) h4 h5).1
 cases ha with
 |non=>cases hb with
  |non=>exact .none_none
  |bl c=>exact .none_bool _
  |int c t=>exact .none_int _ _
  |str c t=>exact .none_str _ _
  |lst _ _ _ pl=>exact .none_list pl.isList hu'
  |tup _ _ _ pl=>exact .none_tuple pl hu'
 |bl c0=>cases hb with
  |non=>exact .bool_none _
  |bl c=>exact .bool_bool _ _
  |int c t=>exact .bool_int _ _ _
  |str c t=>exact .bool_str _ _ _
  |lst _ _ _ pl=>exact .bool_list _ pl.isList hu'
  |tup _ _ _ pl=>exact .bool_tuple _ pl hu'
 |int c0 t0=>cases hb with
  |non=>exact .int_none _ _
  |bl c=>exact .int_bool _ _ _
  |int c t=>exact .int_int _ _ _ _
  |str c t=>exact .int_str _ _ _ _
  |lst _ _ _ pl=>exact .int_list _ _ pl.isList hu'
  |tup _ _ _ pl=>exact .int_tuple _ _ pl hu'
 |str c0 t0=>cases hb with
  |non=>exact .str_none _ _
  |bl c=>exact .str_bool _ _ _
  |int c t=>exact .str_int _ _ _ _
  |str c t=>exact .str_str _ _ _ _
  |lst _ _ _ pl=>exact .str_list _ _ pl.isList hu'
  |tup _ _ _ pl=>exact .str_tuple _ _ pl hu'
 | @lst ds p xs its q r rv pl=>cases hb with
  |non=>exact .list_none pl.isList hu'
  |bl c=>exact .list_bool _ pl.isList hu'
  |int c t=>exact .list_int _ _ pl.isList hu'
  |str c t=>exact .list_str _ _ pl.isList hu'
  |tup _ _ _ pl2=>exact .list_tuple pl.isList pl2 hu'
  | @lst es p2 ys its2 q2 r2 rv2 pl2=>
   have l1:=rv.length;have l2:=r.length;have l3:=rv2.length;have l4:=r2.length;show SeqAt.RcNeAt A s (.ref p) (.ref p2) (!eqBL ds es)
   by_cases hl:ds.length=es.length
   ·have z:=SeqAt.RcNeAt.lists (A:=A) (s:=s) (e:=eqJ ds es) pl.isList pl2.isList (by rw[qaM,qaM];lia) hu' (zjU I fz ih (Nat.lt_of_succ_le hd) na nb r r2 rv rv2);rw[qaM,<-l1,l2,zd7 ds es hl]at z;exact z
   ·rw[zgx hl];refine .lists_lengths pl.isList pl2.isList ?_ hu';rw[qaM,qaM,qbI];lia
 | @tup ds p xs its q r rv pl=>cases hb with
  |non=>exact .tuple_none pl hu'
  |bl c=>exact .tuple_bool _ pl hu'
  |int c t=>exact .tuple_int _ _ pl hu'
  |str c t=>exact .tuple_str _ _ pl hu'
  |lst _ _ _ pl2=>exact .tuple_list pl pl2.isList hu'
  | @tup es p2 ys its2 q2 r2 rv2 pl2=>
   have l1:=rv.length;have l2:=r.length;have l3:=rv2.length;have l4:=r2.length;show SeqAt.RcNeAt A s (.ref p) (.ref p2) (!eqBL ds es);have z:=SeqAt.RcNeAt.tuples (A:=A) (s:=s) (e:=eqJ ds es) pl pl2 hu' (zjU I fz ih (Nat.lt_of_succ_le hd) na nb r r2 rv rv2);rw[qaM,qaM]at z
   by_cases hl:ds.length=es.length
   ·rw[show min its.length its2.length=ds.length by lia,show(its.length==its2.length)=true from qaP.mpr (by lia),qbJ,zd7 ds es hl]at z;exact z
   ·rw[show(its.length==its2.length)=false from qab.mpr (by lia),Bool.and_false]at z;rw[zgx hl];exact z
theorem neAt_D (I:Inv X pins σ H s)(fz:Fz G H)(A:Around)(a b:D)(x y:V)(u v:Value)(hd:depth a<=50)(na:noS a=true)(nb:noS b=true)(hu:A.units+64<cLine)(ra:RepD X.K G x a)(rb:RepD X.K G y b)(rx:RelV x u)(ry:RelV y v):
  SeqAt.RcNeAt A s u v (!eqB a b):=neAt_Sh I fz A a b u v hd na nb hu (znG I fz na ra rx) (znG I fz nb rb ry)
end
theorem op_neD (hu:X.A.units+64<cLine):OpR X (compareOp .NotEq) (rEqD X.K not):=by
 intro pins s σ H x y v u Q I rx ry h;obtain⟨G,a,b,fz,ra,rb,na,nb,hd,q⟩:=h;exact neAt_D I fz X.A a b x y v u hd na nb hu ra rb rx ry _ _ _ _ ⟨.bl _,H,I,rfl,q⟩
theorem v2_ne:V2 X (rEqD X.K not) dNe:=by
 intro B G H σ ρ x y a b d Q I ra rb hf k;unfold dNe at hf;refine cIte hf fun h hf=>?_
 simp only[qbm,qbD]at h;cases hf;exact⟨G,a,b,I.fz,ra,rb,h.1.1,h.1.2,h.2,k G H _ I (Fz.refl G) rfl⟩
theorem v2_eq:V2 X (rEqD X.K id) dEq:=by
 intro B G H σ ρ x y a b d Q I ra rb hf k;unfold dEq at hf;refine cIte hf fun h hf=>?_
 simp only[qbm,qbD]at h;cases hf;exact⟨G,a,b,I.fz,ra,rb,h.1.1,h.1.2,h.2,k G H _ I (Fz.refl G) rfl⟩
def dIx:D->D->Option D
 | .lst ds,.int i=>atI ds i
 | .tup ds,.int i=>atI ds i
 | .scr ns,.int i=>(atI ns i).map .int
 |_,_=>none
theorem atI_map {α β:Type}(f:α->β){xs:List α}{i:Int}{v:α}(h:atI xs i=some v):atI (xs.map f) i=some (f v):=by
 unfold atI at h ⊢;rw[qaS];cases q:ixN xs.length i with
 |none=>rw[q]at h;exact cNN h
 |some j=>
  rw[q]at h;show(xs.map f)[j]? =_;rw[qa5,show xs[j]? =some v from h]
  rfl
def ReadD (K:W.Frag)(G H:Hp)(v:V):D->Prop
 | .lst ds=>∃a xs,v= .ref a/\H a=some (.lst xs)/\RepL K G xs ds
 |d=>RepD K G v d
theorem ReadD.of (fz:Fz G H)(h:RepD K G v d):ReadD K G H v d:=by
 cases d with
 |lst ds=>obtain⟨a,xs,e,q,r⟩:=h;exact⟨a,xs,e,fz a _ q,r⟩
 |_=>exact h
def Sl.read:Sl->Option D
 | .emp=>none
 | .two _ _=>none
 | .tre _=>none
 | .ptr _=>none
 | .val d=>some d
 | .own ds=>some (.lst ds)
 | .par ds=>some (.lst ds)
def hasV (ρ:R)(j:Nat):Bool:=match ρ[j]? with
 |some (.val _)=>true
 |some (.own _)=>true
 |some (.par _)=>true
 |_=>false
theorem SI.has (I:SI K B G H σ ρ)(h:hasV ρ j=true):∃v,σ[j]? =some (some v):=by
 unfold hasV at h;cases e:ρ[j]? with
 |none=>rw[e]at h;cases h
 |some s=>
  rw[e]at h;have q:=I.slot j s e;cases s with
  |emp=>cases h
  |two _ _=>cases h
  |tre _=>cases h
  |ptr _=>cases h
  |val d=>obtain⟨v,e,_⟩:=q;exact⟨v,e⟩
  |own d=>obtain⟨l,_,e,_⟩:=q;exact⟨_,e⟩
  |par d=>obtain⟨l,_,e,_⟩:=q;exact⟨_,e⟩
theorem SI.read (I:SI K B G H σ ρ)(hv:σ[j]? =some (some v))(e:ρ[j]? =some s)(q:s.read=some d):ReadD K G H v d:=by
 have h:=I.slot j s e;cases s with
 |emp=>exact cNN q
 |two _ _=>exact cNN q
 |tre _=>exact cNN q
 |ptr _=>exact cNN q
 |val d'=>
  cases q;obtain⟨w,e1,r⟩:=h;rw[hv]at e1;cases e1;exact .of I.fz r
 |own ds=>
  cases q;obtain⟨l,xs,e1,_,h3,h4,_⟩:=h;rw[hv]at e1;cases e1;exact⟨l,xs,rfl,h3,h4⟩
 |par ds=>
  cases q;obtain⟨l,xs,e1,_,h3,h4,_⟩:=h;rw[hv]at e1;cases e1;exact⟨l,xs,rfl,h3,h4⟩
theorem zpo {x y:V}{a b d:D}{Q:VK}(I:SI K B G H σ ρ)(ra:ReadD K G H x a)(rb:RepD K G y b)(hf:dIx a b=some d)(k:∀v,RepD K G v d->Q v H):rIx K x y H Q:=by
 cases a<;>cases b<;>simp only[dIx]at hf<;>try exact cNN hf
 ·rename_i ds i;obtain⟨p,xs,rfl,hp,r⟩:=ra;obtain⟨v,e,q⟩:=r.at hf;exact .inl ⟨p,xs,i,v,rfl,rb,SqL.of hp,e,k _ q⟩
 ·rename_i ds i;obtain⟨p,xs,rfl,hp,r⟩:=I.tup ra;obtain⟨v,e,q⟩:=r.at hf;exact .inr (.inl ⟨p,xs,i,v,rfl,rb,SqT.of hp,e,k _ q⟩)
 ·rename_i ns i;obtain⟨p,rfl,hp⟩:=ra;cases e:atI ns i with
  |none=>rw[e]at hf;exact cNN hf
  |some n=>
   rw[e]at hf;cases hf;exact .inl ⟨p,_,i,.int n,rfl,rb,I.fz.sql hp,atI_map V.int e,k _ rfl⟩
theorem v2_ix:V2 X (rIx X.K) dIx:=fun B G H σ ρ x y a b d Q I ra rb hf k=>zpo I (.of I.fz ra) rb hf fun v q=>k G H v I (Fz.refl G) q
theorem zau {ma mb:ME}(ha:SE X a ma)(hb:SE X b mb)(hs:zjE b:=by exact fun _ _=>rfl):SE X (.Subscript a b pos) (m2 dIx ma mb):=se_ix ix_seq v2_ix ha hb hs
def eIxV (j:Nat)(mi:ME):ME:=fun ρ=>if hasV ρ j then(mi ρ).bind fun p=>(p.2[j]?.bind Sl.read).bind fun d=>(dIx d p.1).map fun e=>(e,p.2)else none
theorem zao {mb:ME}(j:Nat)(hb:SE X b mb)(hN:X.N[j]? =some x:=by rfl)(hv:Vis X.env.scope x:=by trivial)(hd:(x==("__debug__":Str))=false:=by decide)
    (hcd:(x==("__classdict__":Str))=false:=by decide) (hs:zjE b:=by exact fun _ _=>rfl):SE X (.Subscript (.Name x pos') b pos) (eIxV j mb):=by
  refine hb.el fun tb pb sb=>?_
  refine⟨_,pe_ix ix_seq (zb3 hN hv hd hcd) pb hs,fun B G H σ ρ d ρ' Q I hm k=>?_⟩;unfold eIxV at hm;refine cIte hm fun hh hm=>?_
  obtain⟨v,ev⟩:=I.has hh;cases e1:mb ρ with
  |none=>rw[e1]at hm;exact cNN hm
  |some q=>
    obtain⟨i,ρ1⟩:=q;rw[e1]at hm;simp only[qbB]at hm;cases e2:ρ1[j]? with
    |none=>rw[e2]at hm;exact cNN hm
    |some s=>
      rw[e2]at hm;simp only[qbB]at hm;cases e3:s.read with
      |none=>rw[e3]at hm;exact cNN hm
      |some a=>
        rw[e3]at hm;simp only[qbB]at hm;cases e4:dIx a i with
        |none=>rw[e4]at hm;exact cNN hm
        |some c=>
          rw[e4]at hm;cases hm;exact⟨v,ev,sb B G H σ ρ i ρ' _ I e1 fun G1 H1 y I1 f1 r1=>zpo I1 (I1.read ev e2 e3) r1 e4 fun w q=>k G1 H1 w I1 f1 q⟩
def dLen:List D->Option D
 |[.lst ds]=>some (.int ds.length)
 |[.tup ds]=>some (.int ds.length)
 |[.scr ns]=>some (.int ns.length)
 |_=>none
theorem zmm {x:V}{a d:D}{Q:VK}(I:SI K B G H σ ρ)(ra:ReadD K G H x a)(hf:dLen [a]=some d)(k:∀v,RepD K G v d->Q v H):
  ∃p ys,[x]=[V.ref p]/\(SqL K H p ys\/SqT K H p ys)/\Q (.int ys.length) H:=by
 cases a<;>simp only[dLen]at hf<;>try cases hf
 ·obtain⟨p,xs,rfl,hp,r⟩:=ra;exact⟨p,xs,rfl,.inl (SqL.of hp),by rw[r.length];exact k _ rfl⟩
 ·obtain⟨p,xs,rfl,hp,r⟩:=I.tup ra;exact⟨p,xs,rfl,.inr (SqT.of hp),by rw[r.length];exact k _ rfl⟩
 ·obtain⟨p,rfl,hp⟩:=ra;exact⟨p,_,rfl,.inl (I.fz.sql hp),by rw[qaS];exact k _ rfl⟩
theorem RepL.one (h:RepL K G xs [d]):∃x,xs=[x]/\RepD K G x d:=by
 obtain⟨x,ys,e,q,r⟩:=h;cases(show ys=[]from r);exact⟨x,e,q⟩
theorem RepL.two {a b:D}(h:RepL K G xs [a,b]):∃x y,xs=[x,y]/\RepD K G x a/\RepD K G y b:=by
 obtain⟨x,ys,e,q,r⟩:=h;obtain⟨y,e2,q2⟩:=r.one;subst e2;exact⟨x,y,e,q,q2⟩
theorem dLen_one (h:dLen ds=some d):∃a,ds=[a]:=by
 match ds,h with
 |[a],_=>exact⟨a,rfl⟩
 |[],h=>exact cNN h
 |_::_::_,h=>simp[dLen]at h
theorem vc_len:VC X (fun xs H Q=>∃p ys,xs=[.ref p]/\(SqL X.K H p ys\/SqT X.K H p ys)/\Q (.int ys.length) H) dLen:=by
 intro B G H σ ρ xs ds d Q I r hf k;obtain⟨a,rfl⟩:=dLen_one hf;obtain⟨x,rfl,ra⟩:=r.one;exact zmm I (.of I.fz ra) hf fun v q=>k G H v I (Fz.refl G) q
theorem zo8 {p pos:Pos}(ml:X.mg "len"=none)(ha:SA X [e] ma)(hg:Gl X "len":=by rfl)(he:starEach [e] X.env=(false,eval e X.env)::starEach [] X.env:=by rfl):SE X (.Call (.Name "len" p) [e] [] pos) (mC dLen ma):=
 zcO zhA vc_len PySem.boot_len ml ha hg (by decide) (by decide) he rfl
def zfK (j:Nat):ME:=fun ρ=>(ρ[j]?.bind Sl.read).bind fun d=>(dLen [d]).map fun e=>(e,ρ)
theorem zb6 {p pos pos':Pos}(j:Nat)(ml:X.mg "len"=none)(hN:X.N[j]? =some x:=by rfl)(hv:Vis X.env.scope x:=by trivial)(hd:(x==("__debug__":Str))=false:=by decide)
  (hcd:(x==("__classdict__":Str))=false:=by decide) (hg:Gl X "len":=by rfl) (he:starEach [.Name x pos'] X.env=(false,eval (.Name x pos') X.env)::starEach [] X.env:=by rfl):SE X (.Call (.Name "len" p) [.Name x pos'] [] pos) (zfK j):=by
 refine⟨_,zjF zhA hg ml PySem.boot_len (zeu (zb3 hN hv hd hcd) ziF he) (by decide) (by decide) he rfl,fun B G H σ ρ d ρ' Q I hm k=>?_⟩;unfold zfK at hm;cases e2:ρ[j]? with
 |none=>rw[e2]at hm;exact cNN hm
 |some s=>
  rw[e2]at hm;simp only[qbB]at hm;cases e3:s.read with
  |none=>rw[e3]at hm;exact cNN hm
  |some a=>
   rw[e3]at hm;simp only[qbB]at hm;cases e4:dLen [a]with
   |none=>rw[e4]at hm;exact cNN hm
   |some c=>
    rw[e4]at hm;obtain⟨rfl,rfl⟩:=cSp hm;have hh:hasV ρ j=true:=by
     unfold hasV;rw[e2];cases s<;>first|rfl|exact cNN e3
    obtain⟨v,ev⟩:=I.has hh;exact⟨v,ev,zmm I (I.read ev e2 e3) e4 fun w q=>k G H w I (Fz.refl G) q⟩
def zbi:List D->Option D
 |[.lst ds]=>some (.tup ds)
 |[.tup ds]=>some (.tup ds)
 |[.scr ns]=>some (.tup (ns.map .int))
 |_=>none
theorem vc_tuple:VC X (fun xs H Q=>∃p ys,xs=[.ref p]/\((SqL X.K H p ys/\∀l,H l=none->Q (.ref l) (upd H l (.tup ys)))\/(SqT X.K H p ys/\Q (.ref p) H))) zbi:=by
 intro B G H σ ρ xs ds d Q I r hf k
 match ds,hf with
 |[a],hf=>
  obtain⟨x,rfl,ra⟩:=r.one;cases a<;>simp only[zbi]at hf<;>try cases hf
  ·obtain⟨p,ys,rfl,hp,q⟩:=I.lst ra;refine⟨p,ys,rfl,.inl ⟨SqL.of hp,fun l hl=>?_⟩⟩;obtain⟨I2,f2,r2⟩:=I.newT hl q;exact k _ _ _ I2 f2 r2
  ·obtain⟨p,ys,e,hp,q⟩:=I.tup ra;subst e;exact⟨p,ys,rfl,.inr ⟨SqT.of hp,k G H _ I (Fz.refl G) ra⟩⟩
  ·obtain⟨p,rfl,hp⟩:=ra;refine⟨p,_,rfl,.inl ⟨I.fz.sql hp,fun l hl=>?_⟩⟩;obtain⟨I2,f2,r2⟩:=I.newT hl (RepL.ints _);exact k _ _ _ I2 f2 r2
 |[],hf=>exact cNN hf
 |_::_::_,hf=>simp[zbi]at hf
theorem za9 {p pos:Pos}(ml:X.mg "tuple"=none)(ha:SA X [e] ma)(hg:Gl X "tuple":=by rfl)(he:starEach [e] X.env=(false,eval e X.env)::starEach [] X.env:=by rfl)(hb:bootBuiltins "tuple"=some (.type "tuple"):=by decide+kernel):
  SE X (.Call (.Name "tuple" p) [e] [] pos) (mC zbi ma):=
 zoy zjP vc_tuple hb ml ha hg (by decide) (by decide) he rfl
def zbe:List D->Option (List D)
 |[.lst ds]=>some ds
 |[.tup ds]=>some ds
 |[.scr ns]=>some (ns.map .int)
 |_=>none
def oC (f:List D->Option (List D))(ma:MA):MO:=fun ρ=>(ma ρ).bind fun p=>(f p.1).map fun d=>(d,p.2)
theorem oC_inv {f:List D->Option (List D)}{d:List D}(h:oC f ma ρ=some (d,ρ')):∃a,ma ρ=some (a,ρ')/\f a=some d:=by
 unfold oC at h;cases e1:ma ρ with
 |none=>rw[e1]at h;exact cNN h
 |some p=>
  obtain⟨a,ρ1⟩:=p;rw[e1]at h;simp only[qbB]at h;cases e3:f a with
  |none=>rw[e3]at h;exact cNN h
  |some c=>rw[e3]at h;obtain⟨rfl,rfl⟩:=cSp h;exact⟨a,rfl,e3⟩
theorem SI.newO (I:SI K B G H σ ρ)(hp:H p=none)(xs:List V):SI K B G (upd H p (.lst xs)) σ ρ/\G p=none/\(upd H p (.lst xs)) p=some (.lst xs)/\B.H p=none/\Nw K G (upd H p (.lst xs)) σ ρ p:=
 ⟨I.allocO hp _,I.fz.free hp,zaq,I.there p hp,I.nw_move (I.nw hp) fun i s a _ _ g h=>⟨g,zam fun z=>h (by rw[z];exact hp)⟩⟩
section
variable {X:Cx} {es:List Expr} {ma:MA} {pos:Pos}
def eTup (ma:MA):ME:=fun ρ=>(ma ρ).bind fun p=>if p.1.length<=16777216 then some (.tup p.1,p.2)else none
theorem zbo {x1}(h:SA X es ma):SE X (.Tuple es x1 pos) (eTup ma):=by
 refine h.el fun t pa sa=>?_
 refine⟨_,pe_tup pa,fun B G H σ ρ d ρ' Q I hm k=>?_⟩;unfold eTup at hm;cases e1:ma ρ with
 |none=>rw[e1]at hm;exact cNN hm
 |some q=>
  obtain⟨ds,ρ1⟩:=q;rw[e1]at hm;simp only[qbB]at hm;refine cIte hm fun hl hm=>?_
  cases hm;refine sa B G H σ ρ ds ρ' _ I e1 fun G1 H1 vs I1 f1 r1=>⟨by rw[r1.length,qaL];exact hl,fun p hp=>?_⟩
  obtain⟨I2,f2,r2⟩:=I1.newT hp r1;exact k _ _ _ I2 (f1.trans f2) r2
def oLst (ma:MA):MO:=fun ρ=>(ma ρ).bind fun p=>if p.1.length<=16777216 then some (p.1,p.2)else none
theorem zgH (h:SA X es ma):SO X (.List es pos) (oLst ma):=by
 refine h.el fun t pa sa=>?_
 refine⟨_,pe_lst pa,fun B G H σ ρ d ρ' Q I hm k=>?_⟩;unfold oLst at hm;cases e1:ma ρ with
 |none=>rw[e1]at hm;exact cNN hm
 |some q=>
  obtain⟨ds,ρ1⟩:=q;rw[e1]at hm;simp only[qbB]at hm;refine cIte hm fun hl hm=>?_
  cases hm;refine sa B G H σ ρ _ ρ' _ I e1 fun G1 H1 vs I1 f1 r1=>⟨by rw[r1.length,qaL];exact hl,fun p hp=>?_⟩
  obtain⟨I2,g2,h2,b2,n2⟩:=I1.newO hp vs;exact k G1 _ p vs I2 f1 g2 h2 r1 b2 n2
end
theorem zel {α β:Type}{o:Option α}{f:α->Option β}{b:β}(h:o.bind f=some b):∃a,o=some a/\f a=some b:=by
 cases o with
 |none=>exact cNN h
 |some a=>exact⟨a,rfl,h⟩
theorem zhh {α β:Type}{o:Option α}{f:α->β}{b:β}(h:o.map f=some b):∃a,o=some a/\f a=b:=by
 cases o with
 |none=>exact cNN h
 |some a=>cases h;exact⟨a,rfl,rfl⟩
def dTru:D->Option Bool
 | .bl b=>some b
 | .int i=>some (i !=0)
 | .non=>some false
 | .lst ds=>some (!ds.isEmpty)
 | .tup ds=>some (!ds.isEmpty)
 |_=>none
def tTru (ma:ME):MT:=fun ρ=>(ma ρ).bind fun p=>(dTru p.1).map fun b=>(b,p.2)
section
variable {X:Cx} {a b c:Expr} {ma mb mc:ME} {pos:Pos}
theorem zn9 (h:RepL K G xs ds):(!xs.isEmpty)=!ds.isEmpty:=by
 have:=h.length;cases xs<;>cases ds<;>simp_all
theorem zdg (ha:SE X a ma)(he:∀whole,isTrue a X.env whole=(do let v<-whole;standAt a.pos;holding [v] (truthy v)):=by exact fun _=>rfl):STt X a (tTru ma):=by
  refine ha.el fun ta pa sa=>?_
  refine⟨_,pt_truth pa he,fun B G H σ ρ d ρ' Q I hm k=>?_⟩;refine zaz hm fun x ρ1 e1 e2=>?_
  refine cMel e2 fun t e3 e4=>?_
  obtain⟨rfl,rfl⟩:=Prod.mk.inj e4;refine sa B G H σ ρ x ρ1 _ I e1 fun G1 H1 v I1 f1 r1=>⟨t,?_,k G1 H1 I1 f1⟩
  cases x<;>simp only[dTru]at e3<;>try cases e3
  . cases r1;exact rfl
  . cases r1;exact rfl
  . cases r1;exact rfl
  . obtain⟨p,xs,rfl,hp,r⟩:=I1.lst r1
    exact .inl ⟨xs,SqL.of hp,(zn9 r).symm⟩
  . obtain⟨p,xs,rfl,hp,r⟩:=I1.tup r1
    exact .inr (.inl ⟨xs,SqT.of hp,(zn9 r).symm⟩)
theorem zhz {r:R2}{f:D->D->Option D}(ho:OpR X (compareOp op) r)(hv:V2 X r f)(hB:∀x y d,f x y=some d->∃t,d= .bl t)(ha:SE X a ma)(hb:SE X b mb)(hm:behindInMarks op b=false):STt X (.Compare a [op] [b] pos) (tTru (m2 f ma mb)):=by
 refine ha.el fun ta pa sa=>?_
 refine hb.el fun tb pb sb=>?_
 refine⟨_,pt_cmpR ho pa pb hm,fun B G H σ ρ d ρ' Q I hm k=>?_⟩;refine zaz hm fun x ρ1 e1 e2=>?_
 refine cMel e2 fun t e3 e4=>?_
 obtain⟨rfl,rfl⟩:=Prod.mk.inj e4;obtain⟨_,_,_,_,_,e5⟩:=m2_inv e1;obtain⟨t',rfl⟩:=hB _ _ _ e5;obtain rfl:t'=t:=Option.some.inj e3;refine zme hv sa sb B G H σ ρ (.bl t') ρ1 _ I e1 fun G1 H1 v I1 f1 r1=>?_
 cases(show v=V.bl t' from r1);exact⟨t',rfl,k G1 H1 I1 f1⟩
theorem zot {g:Int->Int->Bool}(x y d:D)(h:dI2 (fun _ _=>true) (fun i j=> .bl (g i j)) x y=some d):∃t,d= .bl t:=zmy h fun _ _ _ _ _ e=>⟨_,e.symm⟩
theorem bl_eq (x y d:D)(h:dEq x y=some d):∃t,d= .bl t:=by
 unfold dEq at h
 split at h
 ·cases h;exact⟨_,rfl⟩
 ·exact cNN h
theorem bl_ne (x y d:D)(h:dNe x y=some d):∃t,d= .bl t:=by
 unfold dNe at h
 split at h
 ·cases h;exact⟨_,rfl⟩
 ·exact cNN h
theorem zop (ha:SE X a ma)(hb:SE X b mb):STt X (.Compare a [.Lt] [b] pos) (tTru (m2 dLt ma mb)):=zhz op_lt zmF zot ha hb (zig _)
theorem st_gt (ha:SE X a ma)(hb:SE X b mb):STt X (.Compare a [.Gt] [b] pos) (tTru (m2 dGt ma mb)):=zhz op_gt zmF zot ha hb (zig _)
theorem st_ge (ha:SE X a ma)(hb:SE X b mb):STt X (.Compare a [.GtE] [b] pos) (tTru (m2 dGe ma mb)):=zhz op_ge zmF zot ha hb (zig _)
theorem ziO (hu:X.A.units+64<cLine)(ha:SE X a ma)(hb:SE X b mb):STt X (.Compare a [.Eq] [b] pos) (tTru (m2 dEq ma mb)):=zhz (op_eqD hu) v2_eq bl_eq ha hb (zig _)
theorem zh5 (hu:X.A.units+64<cLine)(ha:SE X a ma)(hb:SE X b mb):STt X (.Compare a [.NotEq] [b] pos) (tTru (m2 dNe ma mb)):=zhz (op_neD hu) v2_ne bl_ne ha hb (zig _)
end
def STwb (X:Cx)(e:Expr)(m:MT)(t:TT):Prop:=∀B G H σ ρ d ρ' (Q:Bool->Hp->Prop),SI X.K B G H σ ρ->m ρ=some (d,ρ')->(∀G' H',SI X.K B G' H' σ ρ'->Fz G G'->Q d H')->t σ H Q
def STw (X:Cx)(e:Expr)(m:MT):Prop:=∃t,PW X e t/\STwb X e m t
theorem STw.el {m:MT}(h:STw X e m)(k:∀t,PW X e t->STwb X e m t->C):C:=h.elim fun t q=>k t q.1 q.2
theorem STw.st {m:MT}(h:STw X e m):STt X e m:=h.el fun t p s=>⟨t,p.pt,s⟩
def zn1 (a b:MT):MT:=fun ρ=>(a ρ).bind fun p=>if p.1 then b p.2 else some (false,p.2)
def tOrM (a b:MT):MT:=fun ρ=>(a ρ).bind fun p=>if p.1 then some (true,p.2)else b p.2
def zjh (a:MT):MT:=fun ρ=>(a ρ).map fun p=>(!p.1,p.2)
section
variable {X:Cx} {a b c:Expr} {ma mb:MT} {pos:Pos} {rest:List Expr}
theorem zpB (h:STt X a ma):STw X (.BoolOp .And [a] pos) ma:=h.el fun t p s=>⟨t,pw_and1 p,s⟩
theorem zpL (h:STt X a ma):STw X (.BoolOp .Or [a] pos) ma:=h.el fun t p s=>⟨t,pw_or1 p,s⟩
theorem sw_and (ha:STt X a ma)(hb:STw X (.BoolOp .And (b::rest) pos) mb):STw X (.BoolOp .And (a::b::rest) pos) (zn1 ma mb):=by
 refine ha.el fun ta pa sa=>?_
 refine hb.el fun tb pb sb=>?_
 refine⟨_,pw_and pa pb,fun B G H σ ρ d ρ' Q I hm k=>?_⟩;refine zaz hm fun x ρ1 e1 e2=>?_
 refine sa B G H σ ρ x ρ1 _ I e1 fun G1 H1 I1 f1=>?_
 cases x with
 |true=>exact sb B G1 H1 σ ρ1 d ρ' Q I1 e2 fun G2 H2 I2 f2=>k G2 H2 I2 (f1.trans f2)
 |false=>obtain⟨rfl,rfl⟩:=cSp e2;exact k G1 H1 I1 f1
theorem sw_or (ha:STt X a ma)(hb:STw X (.BoolOp .Or (b::rest) pos) mb):STw X (.BoolOp .Or (a::b::rest) pos) (tOrM ma mb):=by
 refine ha.el fun ta pa sa=>?_
 refine hb.el fun tb pb sb=>?_
 refine⟨_,pw_or pa pb,fun B G H σ ρ d ρ' Q I hm k=>?_⟩;refine zaz hm fun x ρ1 e1 e2=>?_
 refine sa B G H σ ρ x ρ1 _ I e1 fun G1 H1 I1 f1=>?_
 cases x with
 |false=>exact sb B G1 H1 σ ρ1 d ρ' Q I1 e2 fun G2 H2 I2 f2=>k G2 H2 I2 (f1.trans f2)
 |true=>obtain⟨rfl,rfl⟩:=cSp e2;exact k G1 H1 I1 f1
theorem zhL (ha:STt X a ma):STt X (.UnaryOp .Not a pos) (zjh ma):=by
 refine ha.el fun ta pa sa=>?_
 refine⟨_,pt_not pa,fun B G H σ ρ d ρ' Q I hm k=>?_⟩;refine zeR hm fun x ρ1 e1 e2=>?_
 cases e2;exact sa B G H σ ρ x ρ1 _ I e1 fun G1 H1 I1 f1=>k G1 H1 I1 f1
end
def eAnd (a b:ME):ME:=fun ρ=>(a ρ).bind fun p=>match p.1 with
 | .bl true=>b p.2
 | .bl false=>some (.bl false,p.2)
 |_=>none
def eOr (a b:ME):ME:=fun ρ=>(a ρ).bind fun p=>match p.1 with
 | .bl true=>some (.bl true,p.2)
 | .bl false=>b p.2
 |_=>none
def dNot:D->Option D
 | .bl b=>some (.bl (!b))
 |_=>none
section
variable {X:Cx} {a b c:Expr} {ma mb:ME} {pos:Pos} {rest:List Expr} {op:BoolOp}
theorem zmC (h:SE X a ma):SE X (.BoolOp op [a] pos) ma:=h.el fun t p s=>⟨t,pe_one p,s⟩
theorem zm4 (ha:SE X a ma)(hb:SE X (.BoolOp .And (b::rest) pos) mb):SE X (.BoolOp .And (a::b::rest) pos) (eAnd ma mb):=by
 refine ha.el fun ta pa sa=>?_
 refine hb.el fun tb pb sb=>?_
 refine⟨_,pe_and pa pb,fun B G H σ ρ d ρ' Q I hm k=>?_⟩;refine zaz hm fun x ρ1 e1 e2=>?_
 refine sa B G H σ ρ x ρ1 _ I e1 fun G1 H1 v I1 f1 r1=>?_
 cases x<;>try exact cNN e2
 rename_i y;refine⟨y,r1,?_⟩;cases y with
 |true=>exact sb B G1 H1 σ ρ1 d ρ' Q I1 e2 fun G2 H2 v I2 f2 r2=>k G2 H2 v I2 (f1.trans f2) r2
 |false=>obtain⟨rfl,rfl⟩:=cSp e2;exact k G1 H1 _ I1 f1 rfl
theorem se_not (ha:SE X a ma):SE X (.UnaryOp .Not a pos) (m1 dNot ma):=by
 refine ha.el fun ta pa sa=>?_
 refine⟨_,pe_not pa,fun B G H σ ρ d ρ' Q I hm k=>?_⟩;obtain⟨x,e1,e2⟩:=m1_inv hm;refine sa B G H σ ρ x ρ' _ I e1 fun G1 H1 v I1 f1 r1=>?_
 cases x<;>simp only[dNot]at e2<;>try cases e2
 exact⟨_,r1,k G1 H1 _ I1 f1 rfl⟩
def eIf (c:MT)(a b:ME):ME:=fun ρ=>(c ρ).bind fun p=>if p.1 then a p.2 else b p.2
theorem zmI (hc:STt X c mc)(ha:SE X a ma)(hb:SE X b mb):SE X (.IfExp c a b pos) (eIf mc ma mb):=by
 refine hc.el fun tc pc sc=>?_
 refine ha.el fun ta pa sa=>?_
 refine hb.el fun tb pb sb=>?_
 refine⟨_,pe_ifExp pc pa pb,fun B G H σ ρ d ρ' Q I hm k=>?_⟩;refine zaz hm fun x ρ1 e1 e2=>?_
 refine sc B G H σ ρ x ρ1 _ I e1 fun G1 H1 I1 f1=>?_
 cases x with
 |true=>exact sa B G1 H1 σ ρ1 d ρ' Q I1 e2 fun G2 H2 v I2 f2 r2=>k G2 H2 v I2 (f1.trans f2) r2
 |false=>exact sb B G1 H1 σ ρ1 d ρ' Q I1 e2 fun G2 H2 v I2 f2 r2=>k G2 H2 v I2 (f1.trans f2) r2
end
def eChain (f g:D->D->Option D)(a b c:ME):ME:=fun ρ=>(a ρ).bind fun p=>(b p.2).bind fun q=>(f p.1 q.1).bind fun t=>match t with
 | .bl true=>(c q.2).bind fun r=>(g q.1 r.1).map fun d=>(d,r.2)
 | .bl false=>some (.bl false,q.2)
 |_=>none
inductive Fl where
 |next|brk|cont|ret (r:Sl)
abbrev MS:=R->Option (Fl×R)
def ResOk (K:W.Frag)(B:Bs)(G H:Hp)(v:V):Sl->Prop
 | .val d=>RepD K G v d
 | .own ds=>∃l xs,v= .ref l/\G l=none/\H l=some (.lst xs)/\RepL K G xs ds/\B.H l=none
 | .tre t=>∃A,RepT K G H v t A/\A.Nodup/\∀a∈A,G a=none/\B.H a=none
 | .two ds es=>∃t l xs m ys,v= .ref t/\H t=some (.tup [.ref l,.ref m])/\l≠m/\G l=none/\H l=some (.lst xs)/\RepL K G xs ds/\B.H l=none/\G m=none/\H m=some (.lst ys)/\RepL K G ys es/\B.H m=none
 |_=>False
def Post (K:W.Frag)(B:Bs)(G:Hp)(E:Ends)(fl:Fl)(ρ':R):Prop:=match fl with
 | .next=>∀G' H' σ',SI K B G' H' σ' ρ'->Fz G G'->E.nx σ' H'
 | .brk=>∀G' H' σ',SI K B G' H' σ' ρ'->Fz G G'->E.bk σ' H'
 | .cont=>∀G' H' σ',SI K B G' H' σ' ρ'->Fz G G'->E.ct σ' H'
 | .ret r=>∀G' H' σ' v,SI K B G' H' σ' ρ'->Fz G G'->ResOk K B G' H' v r->E.rt v H'
theorem Post.mono {G G1:Hp}{E:Ends}{fl:Fl}(h:Post K B G E fl ρ')(f:Fz G G1):Post K B G1 E fl ρ':=by
 cases fl with
 |next=>exact fun G' H' σ' I g=>h G' H' σ' I (f.trans g)
 |brk=>exact fun G' H' σ' I g=>h G' H' σ' I (f.trans g)
 |cont=>exact fun G' H' σ' I g=>h G' H' σ' I (f.trans g)
 |ret r=>exact fun G' H' σ' v I g=>h G' H' σ' v I (f.trans g)
def SSb (X:Cx)(st:Stmt)(m:MS)(t:TS):Prop:=∀B G H σ ρ fl ρ' (E:Ends),SI X.K B G H σ ρ->m ρ=some (fl,ρ')->Post X.K B G E fl ρ'->t E σ H
def SS (X:Cx)(st:Stmt)(m:MS):Prop:=∃t,PS X st t/\SSb X st m t
theorem SS.el {st:Stmt}(h:SS X st m)(k:∀t,PS X st t->SSb X st m t->C):C:=h.elim fun t q=>k t q.1 q.2
def SSsb (X:Cx)(st:List Stmt)(m:MS)(t:TS):Prop:=∀B G H σ ρ fl ρ' (E:Ends),SI X.K B G H σ ρ->m ρ=some (fl,ρ')->Post X.K B G E fl ρ'->t E σ H
def SSs (X:Cx)(st:List Stmt)(m:MS):Prop:=∃t,PSs X st t/\SSsb X st m t
theorem SSs.el {st:List Stmt}(h:SSs X st m)(k:∀t,PSs X st t->SSsb X st m t->C):C:=h.elim fun t q=>k t q.1 q.2
def zcw:MS:=fun ρ=>some (.next,ρ)
def sSeq (a b:MS):MS:=fun ρ=>(a ρ).bind fun p=>match p.1 with
 | .next=>b p.2
 |f=>some (f,p.2)
section
variable {X:Cx} {st:Stmt} {rest:List Stmt} {m n:MS} {e:Expr} {me:ME} {pos:Pos}
theorem zaM:SSs X [] zcw:=⟨_,pss_nil,fun B G H σ ρ fl ρ' E I hm k=>by obtain⟨rfl,rfl⟩:=cSp hm;exact k G H σ I (Fz.refl G)⟩
theorem zai (h:SS X st m):SSs X [st] m:=h.el fun t p s=>⟨t,pss_one p,s⟩
theorem zad (h:SS X st m)(hr:SSs X rest n):SSs X (st::rest) (sSeq m n):=by
 refine h.el fun t p s=>?_
 refine hr.el fun u q z=>?_
 refine⟨_,pss_cons p q,fun B G H σ ρ fl ρ' E I hm k=>?_⟩;refine zaz hm fun f ρ1 e1 e2=>?_
 refine s B G H σ ρ f ρ1 _ I e1 ?_;cases f with
 |next=>exact fun G1 H1 σ1 I1 f1=>z B G1 H1 σ1 ρ1 fl ρ' E I1 e2 (k.mono f1)
 |brk=>obtain⟨rfl,rfl⟩:=cSp e2;exact k
 |cont=>obtain⟨rfl,rfl⟩:=cSp e2;exact k
 |ret r=>obtain⟨rfl,rfl⟩:=cSp e2;exact k
def zp6 (m:ME):MS:=fun ρ=>(m ρ).map fun p=>(.next,p.2)
theorem zlU (h:SE X e me)(hs:swapsWith e none pos.line X.env=pure false:=by rfl):SS X (.Expr e pos) (zp6 me):=by
 refine h.el fun t p s=>?_
 refine⟨_,zlp p hs,fun B G H σ ρ fl ρ' E I hm k=>?_⟩;refine zeR hm fun d ρ1 e1 e2=>?_
 cases e2;exact s B G H σ ρ d ρ1 _ I e1 fun G1 H1 v I1 f1 _=>k G1 H1 σ I1 f1
def sRet (m:ME):MS:=fun ρ=>(m ρ).map fun p=>(.ret (.val p.1),p.2)
theorem zaF (h:SE X e me):SS X (.Return (some e) pos) (sRet me):=by
 refine h.el fun t p s=>?_
 refine⟨_,zpK p,fun B G H σ ρ fl ρ' E I hm k=>?_⟩;refine zeR hm fun d ρ1 e1 e2=>?_
 cases e2;exact s B G H σ ρ d ρ1 _ I e1 fun G1 H1 v I1 f1 r1=>k G1 H1 σ v I1 f1 r1
def zhd (m:MO):MS:=fun ρ=>(m ρ).map fun p=>(.ret (.own p.1),p.2)
theorem zc5 {mo:MO}(h:SO X e mo):SS X (.Return (some e) pos) (zhd mo):=by
 refine h.el fun t p s=>?_
 refine⟨_,zpK p,fun B G H σ ρ fl ρ' E I hm k=>?_⟩;refine zeR hm fun d ρ1 e1 e2=>?_
 cases e2;exact s B G H σ ρ d ρ1 _ I e1 fun G1 H1 l xs I1 f1 g1 h1 r1 b1 _=>k G1 H1 σ _ I1 f1 ⟨l,xs,rfl,g1,h1,r1,b1⟩
theorem SI.emp (I:SI K B G H σ ρ)(i:Nat):SI K B G H σ (ρ.set i .emp):=by
 by_cases hi:i<ρ.length
 ·have hs:σ[i]? =some (σ[i]'(by rw[I.len];exact hi)):=qbG _;have h:=I.chg (i:=i) (ov:=σ[i]'(by rw[I.len];exact hi)) (s':= .emp) I.fz (Fz.refl G) I.new I.keep I.there (fun _ _ _ _ _ _ g _=>⟨g,rfl,id⟩) trivial;rwa[zhB hs]at h
 ·rw[List.set_eq_of_length_le (by lia)];exact I
def zjW (i:Nat):MS:=fun ρ=>match ρ[i]? with
 |some (.val d)=>some (.ret (.val d),ρ)
 |some (.own ds)=>some (.ret (.own ds),ρ.set i .emp)
 |_=>none
theorem zhu (i:Nat)(hN:X.N[i]? =some x:=by rfl)(hv:Vis X.env.scope x:=by trivial)(hd:(x==("__debug__":Str))=false:=by decide)
  (hcd:(x==("__classdict__":Str))=false:=by decide):SS X (.Return (some (.Name x pos')) pos) (zjW i):=by
 refine⟨_,zpK (zb3 hN hv hd hcd),fun B G H σ ρ fl ρ' E I hm k=>?_⟩;unfold zjW at hm;cases e:ρ[i]? with
 |none=>rw[e]at hm;exact cNN hm
 |some s=>
  rw[e]at hm;have h:=I.slot i s e;cases s with
  |emp=>exact cNN hm
  |two _ _=>exact cNN hm
  |tre _=>exact cNN hm
  |ptr _=>exact cNN hm
  |par ds=>exact cNN hm
  |val d=>obtain⟨rfl,rfl⟩:=cSp hm;obtain⟨v,h1,h2⟩:=h;exact⟨v,h1,k G H σ v I (Fz.refl G) h2⟩
  |own ds=>
   obtain⟨rfl,rfl⟩:=cSp hm;obtain⟨l,xs,h1,h2,h3,h4,h5⟩:=h;exact⟨.ref l,h1,k G H σ _ (I.emp i) (Fz.refl G) ⟨l,xs,rfl,h2,h3,h4,h5⟩⟩
def sIf (c:MT)(a b:MS):MS:=fun ρ=>(c ρ).bind fun p=>if p.1 then a p.2 else b p.2
theorem zcr {c:Expr}{a b:List Stmt}{ma mb:MS}(hc:STt X c mc)(ha:SSs X a ma)(hb:SSs X b mb):SS X (.If c a b pos) (sIf mc ma mb):=by
 refine hc.el fun tc pc sc=>?_
 refine ha.el fun ta pa sa=>?_
 refine hb.el fun tb pb sb=>?_
 refine⟨_,ps_if pc pa pb,fun B G H σ ρ fl ρ' E I hm k=>?_⟩;refine zaz hm fun x ρ1 e1 e2=>?_
 refine sc B G H σ ρ x ρ1 _ I e1 fun G1 H1 I1 f1=>?_
 cases x with
 |true=>exact sa B G1 H1 σ ρ1 fl ρ' E I1 e2 (k.mono f1)
 |false=>exact sb B G1 H1 σ ρ1 fl ρ' E I1 e2 (k.mono f1)
end
def SGb (X:Cx)(tg:Expr)(g:D->R->Option R)(t:TG):Prop:=∀B G H σ ρ v d ρ' (Q:St->Hp->Prop),SI X.K B G H σ ρ->RepD X.K G v d->g d ρ=some ρ'->(∀G' H' σ',SI X.K B G' H' σ' ρ'->Fz G G'->Q σ' H')->t v σ H Q
def SG (X:Cx)(tg:Expr)(g:D->R->Option R):Prop:=∃t,PG X tg t/\SGb X tg g t
theorem SG.el (h:SG X tg g)(k:∀t,PG X tg t->SGb X tg g t->C):C:=h.elim fun t q=>k t q.1 q.2
def SGsb (X:Cx)(tgs:List Expr)(g:List D->R->Option R)(t:TGs):Prop:=∀B G H σ ρ vs ds ρ' (Q:St->Hp->Prop),SI X.K B G H σ ρ->RepL X.K G vs ds->g ds ρ=some ρ'->(∀G' H' σ',SI X.K B G' H' σ' ρ'->Fz G G'->Q σ' H')->t vs σ H Q
def SGs (X:Cx)(tgs:List Expr)(g:List D->R->Option R):Prop:=∃t,PGs X tgs t/\SGsb X tgs g t
theorem SGs.el {g:List D->R->Option R}(h:SGs X tgs g)(k:∀t,PGs X tgs t->SGsb X tgs g t->C):C:=h.elim fun t q=>k t q.1 q.2
def gN (i:Nat):D->R->Option R:=fun d ρ=>some (ρ.set i (.val d))
def zgk:List D->R->Option R:=fun ds ρ=>match ds with
 |[]=>some ρ
 |_=>none
def zaQ (g:D->R->Option R)(h:List D->R->Option R):List D->R->Option R:=fun ds ρ=>match ds with
 |d::ds=>(g d ρ).bind fun ρ1=>h ds ρ1
 |[]=>none
def gT (n:Nat)(g:List D->R->Option R):D->R->Option R:=fun d ρ=>match d with
 | .tup ds=>if ds.length=n then g ds ρ else none
 |_=>none
section
variable {X:Cx} {pos:Pos}
theorem zak (i:Nat)(hN:X.N.Nodup)(hi:X.N[i]? =some x:=by rfl)(hx:Loc X.env.scope x:=by trivial)(hf:X.fn x=true\/X.env.scope.names.lookup x=some .local:=by trivial):SG X (.Name x pos) (gN i):=
 ⟨_,zo0 hN hi hx hf,fun B G H σ ρ v d ρ' Q I r hm k=>by cases hm;exact k G H _ (I.set r) (Fz.refl G)⟩
theorem zb5:SGs X [] zgk:=⟨_,pgs_nil,fun B G H σ ρ vs ds ρ' Q I r hm k=>by
 cases ds with
 |nil=>cases hm;exact⟨r,k G H σ I (Fz.refl G)⟩
 |cons=>exact cNN hm⟩
theorem zax {e:Expr}(h1:SG X e g)(h2:SGs X es h)(hs:(assignEach (e::es) X.env).map (·.2)=assign e X.env::(assignEach es X.env).map (·.2):=by rfl):SGs X (e::es) (zaQ g h):=by
 refine h1.el fun t p s=>?_
 refine h2.el fun u q z=>?_
 refine⟨_,pgs_cons p q hs,fun B G H σ ρ vs ds ρ' Q I r hm k=>?_⟩;cases ds with
 |nil=>exact cNN hm
 |cons d ds=>
  obtain⟨x,ys,rfl,rx,ry⟩:=r;refine cBel hm fun ρ1 e1 e2=>?_
  exact⟨x,ys,rfl,s B G H σ ρ x d ρ1 _ I rx e1 fun G1 H1 σ1 I1 f1=>z B G1 H1 σ1 ρ1 ys ds ρ' Q I1 (ry.mono f1) e2 fun G2 H2 σ2 I2 f2=>k G2 H2 σ2 I2 (f1.trans f2)⟩
theorem zd6 {g:List D->R->Option R}(hc:X.calm=true)(h:SGs X es g)(hn:(assignEach es X.env).length=n:=by rfl)(hst:(assignEach es X.env).findIdx? (·.1)=none:=by rfl):SG X (.Tuple es k pos) (gT n g):=by
 refine h.el fun t p s=>?_
 refine⟨_,pg_tup hc p hn hst,fun B G H σ ρ v d ρ' Q I r hm k=>?_⟩;cases d<;>try exact cNN hm
 rename_i ds;simp only[gT]at hm;refine cIte hm fun hl hm=>?_
 obtain⟨a,xs,e,ha,rx⟩:=I.tup r;exact⟨a,xs,e,SqT.of ha,by rw[rx.length];exact hl,s B G H σ ρ xs ds ρ' Q I rx hm k⟩
variable {e tg:Expr} {me:ME} {mo:MO}
def sAsg (m:ME)(g:D->R->Option R):MS:=fun ρ=>(m ρ).bind fun p=>(g p.1 p.2).map fun ρ'=>(.next,ρ')
theorem zo4 (he:SE X e me)(hg:SG X tg g)(hs:swapsWithSole [tg] e pos.line X.env=pure false:=by rfl)(hw:swappedStores [tg] e X.env=pure none:=by rfl)
  (h1:(assignEach [tg] X.env).map (·.2)=[assign tg X.env]:=by rfl):SS X (.Assign [tg] e pos) (sAsg me g):=by
 refine he.el fun t p s=>?_
 refine hg.el fun u q z=>?_
 refine⟨_,zob p q hs hw h1,fun B G H σ ρ fl ρ' E I hm k=>?_⟩;refine zaz hm fun d ρ1 e1 h2=>?_
 refine cMel h2 fun ρ2 e2 e3=>?_
 obtain⟨rfl,rfl⟩:=Prod.mk.inj e3;exact s B G H σ ρ d ρ1 _ I e1 fun G1 H1 v I1 f1 r1=>z B G1 H1 σ ρ1 v d ρ2 _ I1 r1 e2 fun G2 H2 σ2 I2 f2=>k G2 H2 σ2 I2 (f1.trans f2)
def sSet (i:Nat)(m:ME):MS:=fun ρ=>(m ρ).map fun p=>(.next,p.2.set i (.val p.1))
theorem zat (i:Nat)(he:SE X e me)(hN:X.N.Nodup)(hi:X.N[i]? =some x:=by rfl)(hx:Loc X.env.scope x:=by trivial)(hs:swapsWith e (some (.Name x pos')) pos.line X.env=pure false:=by rfl)
    (hf:X.fn x=true\/X.env.scope.names.lookup x=some .local:=by trivial):SS X (.Assign [.Name x pos'] e pos) (sSet i me):=by
  refine he.el fun t p s=>?_
  refine⟨_,znT hN hi hx p hs hf,fun B G H σ ρ fl ρ' E I hm k=>?_⟩;refine zeR hm fun d ρ1 e1 e3=>?_
  cases e3;exact s B G H σ ρ d ρ1 _ I e1 fun G1 H1 v I1 f1 r1=>k G1 H1 _ (I1.set r1) f1
def zi2 (i:Nat)(m:MO):MS:=fun ρ=>(m ρ).map fun p=>(.next,p.2.set i (.own p.1))
theorem zeg (i:Nat)(he:SO X e mo)(hN:X.N.Nodup)(hi:X.N[i]? =some x:=by rfl)(hx:Loc X.env.scope x:=by trivial)(hs:swapsWith e (some (.Name x pos')) pos.line X.env=pure false:=by rfl)
    (hf:X.fn x=true\/X.env.scope.names.lookup x=some .local:=by trivial):SS X (.Assign [.Name x pos'] e pos) (zi2 i mo):=by
  refine he.el fun t p s=>?_
  refine⟨_,znT hN hi hx p hs hf,fun B G H σ ρ fl ρ' E I hm k=>?_⟩;refine zeR hm fun d ρ1 e1 e3=>?_
  cases e3;exact s B G H σ ρ d ρ1 _ I e1 fun G1 H1 l xs I1 f1 g1 h1 r1 b1 n1=>k G1 H1 _ (I1.setO g1 h1 r1 b1 n1) f1
def sApp (i:Nat)(m:ME):MS:=fun ρ=>if(ρ[i]?.bind Sl.items).isSome then(m ρ).bind fun p=>p.2[i]?.bind fun s=>s.items.bind fun ds=>if ds.length<16777216 then some (.next,p.2.set i (s.put (ds++[p.1])))else none else none
theorem zmd (i:Nat){pos' apos cpos:Pos}(he:SE X e me)(hN:X.N[i]? =some x:=by rfl)(hv:Vis X.env.scope x:=by trivial)(hd:(x==("__debug__":Str))=false:=by decide)
  (hcd:(x==("__classdict__":Str))=false:=by decide)
  (hbase:attributeBase (.Name x pos') "append" X.env (eval (.Name x pos') X.env)=eval (.Name x pos') X.env:=by rfl)
  (hfew : ((backTo cpos (starEach [e] X.env)).all (fun x => !x.1) && (backToKw cpos (keywordEach [] X.env)).all (fun x => x.1.isSome)
   &&decide ([e].length+([]:List Keyword).length+(if([]:List Keyword).isEmpty then 0 else 1)<30))=true:=by rfl)
  (hline:(apos.endLine==cpos.line)=true:=by rfl) (hs:starEach [e] X.env=(false,eval e X.env)::starEach [] X.env:=by rfl):SS X (.Expr (.Call (.Attribute (.Name x pos') "append" apos) [e] [] cpos) pos) (sApp i me):=by
 refine he.el fun t p s=>?_
 refine⟨_,zlp (pe_bm qbK PySem.F.slot_list_append PySem.F.type_list_append zkX (zb3 hN hv hd hcd) (zeu p ziF hs) hbase hfew hline hs rfl) (by rfl),fun B G H σ ρ fl ρ' E I hm k=>?_⟩;unfold sApp at hm;refine cIte hm fun hso hm=>?_
 obtain⟨ds0,hso⟩:=qaZ.mp hso;refine cBel hso fun s0 e0 q0=>?_
 obtain⟨l,xs0,h1,h2,h3,h4⟩:=I.wr e0 q0;refine zaz hm fun d ρ1 e1 hm=>?_
 refine cBel hm fun s1 e2 hm=>?_
 refine cBel hm fun ds e3 hm=>?_
 refine cIte hm fun hl hm=>?_
 obtain⟨rfl,rfl⟩:=cSp hm;refine⟨.ref l,h1,.inl ⟨rfl,_,SqL.of h3⟩,s B G H σ ρ d ρ1 _ I e1 fun G1 H1 v I1 f1 r1=>?_⟩;obtain⟨l',xs,k1,k2,k3,k4⟩:=I1.wr e2 e3;rw[h1]at k1;cases k1;refine⟨l,xs,v,rfl,rfl,k3,by rw[k4.length,qaL];exact hl,?_⟩;exact k G1 _ σ (I1.write e2 e3 h1 (k4.snoc r1)) f1
def sPut (j:Nat)(mi me:ME):MS:=fun ρ=>(me ρ).bind fun p=>if hasV p.2 j then(mi p.2).bind fun q=>match q.1 with
 | .int k=>q.2[j]?.bind fun s=>s.items.bind fun ds=>(ixN ds.length k).bind fun n=>some (.next,q.2.set j (s.put (ds.set n p.1)))
 |_=>none else none
theorem zpW (j:Nat){i:Expr}{mi:ME}{pos' tpos:Pos}(he:SE X e me)(hi:SE X i mi)(hN:X.N[j]? =some x:=by rfl)(hv:Vis X.env.scope x:=by trivial)(hd:(x==("__debug__":Str))=false:=by decide)
  (hcd:(x==("__classdict__":Str))=false:=by decide)
  (ha : ∀ v, assign (.Subscript (.Name x pos') i tpos) X.env v = (do
   let ov<-holding [v] (eval (.Name x pos') X.env)
   let iv<-holding [v,ov] (eval i X.env)
   standAt tpos
   holding [v,ov,iv] (setItem ov iv v)
   release [v,ov,iv] []):=by exact fun _=>rfl)
  (hs:swapsWithSole [.Subscript (.Name x pos') i tpos] e pos.line X.env=pure false:=by rfl) (hw:swappedStores [.Subscript (.Name x pos') i tpos] e X.env=pure none:=by rfl)
  (h1:(assignEach [.Subscript (.Name x pos') i tpos] X.env).map (·.2)=[assign (.Subscript (.Name x pos') i tpos) X.env]:=by rfl):SS X (.Assign [.Subscript (.Name x pos') i tpos] e pos) (sPut j mi me):=by
 refine he.el fun t p s=>?_
 refine hi.el fun u q z=>?_
 refine⟨_,zob p (pg_sub (zb3 hN hv hd hcd) q zmU ha) hs hw h1,fun B G H σ ρ fl ρ' E I hm k=>?_⟩;refine zaz hm fun d ρ1 e1 hm=>?_
 refine s B G H σ ρ d ρ1 _ I e1 fun G1 H1 v I1 f1 r1=>?_
 refine cIte hm fun hh hm=>?_
 obtain⟨w,ew⟩:=I1.has hh;refine zaz hm fun kd ρ2 e2 hm=>?_
 cases kd<;>try exact cNN hm
 rename_i kk;refine cBel hm fun s2 e3 hm=>?_
 refine cBel hm fun ds e4 hm=>?_
 refine cBel hm fun n e5 hm=>?_
 obtain⟨rfl,rfl⟩:=cSp hm;refine⟨w,ew,z B G1 H1 σ ρ1 (.int kk) ρ2 _ I1 e2 fun G2 H2 y I2 f2 r2=>?_⟩;obtain⟨l,xs,k1,k2,k3,k4⟩:=I2.wr e3 e4;rw[ew]at k1;cases k1;refine⟨l,xs,kk,n,rfl,r2,k3,by rw[k4.length];exact e5,?_⟩;exact k G2 _ σ (I2.write e3 e4 ew (k4.set n (r1.mono f2))) (f1.trans f2)
end
structure Itm (K:W.Frag) (J:It) (G:Hp) (items:List D):Prop where
 go:∀H i,Fz G H->i<items.length->J.go i H
 yld:∀H i x H',Fz G H->J.yld i H x H'->∀d,items[i]? =some d->(H'=H/\RepD K G x d)\/∃p xs ds,H p=none/\H'=upd H p (.tup xs)/\x= .ref p/\d= .tup ds/\RepL K G xs ds
 stop:∀H i,Fz G H->items.length<=i->J.stop i H
def SItb (X:Cx)(tg it:Expr)(m:MA)(wi:TI):Prop:=∀B G H σ ρ ds ρ' (Q:It->Hp->Prop),SI X.K B G H σ ρ->m ρ=some (ds,ρ')->(∀J G' H',SI X.K B G' H' σ ρ'->Fz G G'->Itm X.K J G' ds->Q J H')->wi σ H Q
def SIt (X:Cx)(tg it:Expr)(m:MA):Prop:=∃wi,PI X tg it wi/\SItb X tg it m wi
theorem SIt.el {m:MA}(h:SIt X tg it m)(k:∀wi,PI X tg it wi->SItb X tg it m wi->C):C:=h.elim fun wi q=>k wi q.1 q.2
def forM (f:D->R->Option (Fl×R)):List D->R->Option (Fl×R)
 |[],ρ=>some (.next,ρ)
 |d::ds,ρ=>(f d ρ).bind fun p=>match p.1 with
  | .next=>forM f ds p.2
  | .cont=>forM f ds p.2
  | .brk=>some (.next,p.2)
  | .ret r=>some (.ret r,p.2)
def sFor (mi:MA)(g:D->R->Option R)(mb:MS):MS:=fun ρ=>(mi ρ).bind fun p=>forM (fun d ρ=>(g d ρ).bind fun ρ'=>mb ρ') p.1 p.2
theorem SI.yld {x:V}(I:SI K B G H σ ρ)
  (h:(H'=H/\RepD K G x d)\/∃p xs ds,H p=none/\H'=upd H p (.tup xs)/\x= .ref p/\d= .tup ds/\RepL K G xs ds):∃G',SI K B G' H' σ ρ/\Fz G G'/\RepD K G' x d:=by
 rcases h with⟨rfl,r⟩|⟨p,xs,ds,hp,rfl,rfl,rfl,r⟩
 ·exact⟨G,I,Fz.refl G,r⟩
 ·obtain⟨I2,f2,r2⟩:=I.newT hp r;exact⟨_,I2,f2,r2⟩
theorem zdY {mi:MA}{mb:MS}(hp:PassesOwn (model X.prog X.w) X.A X.env X.xe)(hc:X.calm=true)(hi:SIt X tg it mi)(hg:SG X tg g)(hb:SSs X body mb)
    (hs:∀x,foldedSetIterable it X.env x=pure x:=by exact fun _=>rfl):SS X (.For tg it body [] pos) (sFor mi g mb):=by
  refine hi.el fun wi pi si=>?_
  refine hg.el fun tg' pg sg=>?_
  refine hb.el fun tb pb sb=>?_
  refine⟨_,ps_for hp hc pi pg pb hs,fun B G H σ ρ fl ρ' E I hm k=>?_⟩;refine zaz hm fun ds ρ1 e1 hm=>?_
  refine si B G H σ ρ ds ρ1 _ I e1 fun J G1 H1 I1 f1 IT=>?_
  refine⟨fun i m σ H=>m=ds.length-i/\i<=ds.length/\∃G2 ρ2,SI X.K B G2 H σ ρ2/\Fz G1 G2/\forM (fun d ρ=>(g d ρ).bind fun ρ'=>mb ρ') (ds.drop i) ρ2=some (fl,ρ'),⟨ds.length,by simp,qaV _,G1,ρ1,I1,Fz.refl _,by simpa using hm⟩,?_⟩;rintro i m σ2 H2 ⟨rfl,hi,G2,ρ2,I2,f2,e2⟩
  by_cases hlt:i<ds.length
  . rw[List.drop_eq_getElem_cons hlt]at e2
    simp only[forM]at e2;refine zaz e2 fun f ρ3 e3 e4=>?_
    refine cBel e3 fun ρ2' e5 e6=>?_
    have fz2:Fz G1 H2:=f2.trans I2.fz;refine .inr ⟨IT.go H2 i fz2 hlt,fun σ' H'=>(∃G3,SI X.K B G3 H' σ' ρ3/\Fz G1 G3)/\(f= .next\/f= .cont),?_,fun x H' y=>?_⟩
    . rintro σ' H' ⟨⟨G3,I3,f3⟩,hf⟩
      refine⟨ds.length-(i+1),by lia,rfl,hlt,G3,ρ3,I3,f3,?_⟩;rcases hf with rfl|rfl<;>exact e4
    . have yy:=IT.yld H2 i x H' fz2 y ds[i] (qbG hlt)
      have yy2:(H'=H2/\RepD X.K G2 x ds[i])\/∃p xs es,H2 p=none/\H'=upd H2 p (.tup xs)/\x= .ref p/\ds[i]= .tup es/\RepL X.K G2 xs es:=by
        rcases yy with⟨a,b⟩|⟨p,xs,es,a,b,c,d,e⟩
        . exact .inl ⟨a,b.mono f2⟩
        . exact .inr ⟨p,xs,es,a,b,c,d,e.mono f2⟩
      obtain⟨G3,I3,f3,r3⟩:=I2.yld yy2;refine sg B G3 H' σ2 ρ2 x ds[i] ρ2' _ I3 r3 e5 fun G4 H4 σ4 I4 f4=>sb B G4 H4 σ4 ρ2' f ρ3 _ I4 e6 ?_
      have ff:Fz G1 G4:=f2.trans (f3.trans f4);cases f with
      |next=>exact fun G5 H5 σ5 I5 f5=>⟨⟨G5,I5,ff.trans f5⟩,.inl rfl⟩
      |cont=>exact fun G5 H5 σ5 I5 f5=>⟨⟨G5,I5,ff.trans f5⟩,.inr rfl⟩
      |brk=>obtain⟨rfl,rfl⟩:=cSp e4;exact fun G5 H5 σ5 I5 f5=>k G5 H5 σ5 I5 (f1.trans (ff.trans f5))
      |ret r=>obtain⟨rfl,rfl⟩:=cSp e4;exact fun G5 H5 σ5 v I5 f5=>k G5 H5 σ5 v I5 (f1.trans (ff.trans f5))
  . have e:i=ds.length:=by lia
    subst e;rw[List.drop_length]at e2;obtain⟨rfl,rfl⟩:=cSp e2;exact .inl ⟨IT.stop H2 _ (f2.trans I2.fz) (qaH _),k G2 H2 σ2 I2 (f1.trans f2)⟩
section
variable {X:Cx} {tg it:Expr} {me:ME}
def iSeq (m:ME):MA:=fun ρ=>(m ρ).bind fun p=>(zbe [p.1]).map fun ds=>(ds,p.2)
theorem pi_or {l:Expr}{tl:TE}(hl:PE X l tl):PI X tg l (fun σ H R=>tl σ H fun x H1=>∃a,x= .ref a/\(((∃xs,SqL X.K H1 a xs)/\R (Itl X.K a) H1)\/((∃xs,SqT X.K H1 a xs)/\R (Itt X.K a) H1))):=by
 intro pins s σ H R I h;refine thn (hl pins s σ H _ I h) fun v s1 ⟨x,H1,I1,r1,q1⟩=>?_
 obtain⟨a,e,q⟩:=q1;subst e;cases r1;rcases q with⟨⟨xs,hq⟩,q⟩|⟨⟨xs,hq⟩,q⟩
 ·obtain⟨its,rv,p,hz⟩:=I1.list hq;refine wpAny_pyIter_list p.isList ?_;refine⟨s1.heap.objs.size,[s1.heap.objs.size],_,_,H1,rfl,I1.kept (t':=s1.toks) fun b o e=>qaF _ e,zoQ a _,⟨_,qaG _ rfl,rfl,rfl⟩,fun b hb=>?_,q⟩;have e:b=s1.heap.objs.size:=by simpa using hb
  subst e;exact I1.fpOk (qaH _) (I1.hok.fresh (qaH _))
 ·obtain⟨its,rv,p,hz⟩:=I1.tuple hq;refine qbL (show s1.heap.IsTuple a its.toArray from p) ?_;refine⟨s1.heap.objs.size,[s1.heap.objs.size],_,_,H1,rfl,I1.kept (t':=s1.toks) fun b o e=>qaF _ e,znF a _,⟨_,qaG _ rfl,rfl,rfl⟩,fun b hb=>?_,q⟩;have e:b=s1.heap.objs.size:=by simpa using hb
  subst e;exact I1.fpOk (qaH _) (I1.hok.fresh (qaH _))
theorem zmk {a:Addr}(hg:SqL K G a xs)(r:RepL K G xs ds):Itm K (Itl K a) G ds where
 go:=fun H i f hi=>by
  have hl:=r.length;exact⟨xs,xs[i],f.sql hg,qbG (by lia)⟩
 yld:=fun H i x H' f y d e=>by
  obtain⟨rfl,y⟩:=y;have hx:=y xs (f.sql hg);obtain⟨x',h1,h2⟩:=r.get e;rw[hx]at h1;cases h1;exact .inl ⟨rfl,h2⟩
 stop:=fun H i f hi=>⟨xs,f.sql hg,by rw[r.length];exact hi⟩
theorem itm_tup {a:Addr}(hg:G a=some (.tup xs))(r:RepL K G xs ds):Itm K (Itt K a) G ds where
 go:=fun H i f hi=>by
  have hl:=r.length;exact⟨xs,xs[i],SqT.of (f _ _ hg),qbG (by lia)⟩
 yld:=fun H i x H' f y d e=>by
  obtain⟨rfl,y⟩:=y;have hx:=y xs (SqT.of (f _ _ hg));obtain⟨x',h1,h2⟩:=r.get e;rw[hx]at h1;cases h1;exact .inl ⟨rfl,h2⟩
 stop:=fun H i f hi=>⟨xs,SqT.of (f _ _ hg),by rw[r.length];exact hi⟩
theorem zbd (h:SE X it me):SIt X tg it (iSeq me):=by
 refine h.el fun t p s=>?_
 refine⟨_,pi_or p,fun B G H σ ρ ds ρ' Q I hm k=>?_⟩;refine zaz hm fun d ρ1 e1 hm=>?_
 refine cMel hm fun es e2 e3=>?_
 cases e3;refine s B G H σ ρ d ρ1 _ I e1 fun G1 H1 v I1 f1 r1=>?_
 cases d<;>simp only[zbe]at e2<;>try cases e2
 ·obtain⟨a,xs,rfl,ha,r⟩:=r1;exact⟨a,rfl,.inl ⟨⟨xs,SqL.of (I1.fz _ _ ha)⟩,k _ G1 H1 I1 f1 (zmk (SqL.of ha) r)⟩⟩
 ·obtain⟨a,xs,rfl,ha,r⟩:=r1;exact⟨a,rfl,.inr ⟨⟨xs,SqT.of (I1.fz _ _ ha)⟩,k _ G1 H1 I1 f1 (itm_tup ha r)⟩⟩
 ·obtain⟨a,rfl,ha⟩:=r1;exact⟨a,rfl,.inl ⟨⟨_,I1.fz.sql ha⟩,k _ G1 H1 I1 f1 (zmk ha (RepL.ints _))⟩⟩
end
def zb2 (lo:Int)(n:Nat):List D:=(List.range n).map fun(i:Nat)=>D.int (lo+(i:Int))
theorem zoa (lo:Int)(n:Nat):Itm K (Itr lo n) G (zb2 lo n) where
 go:=fun H i f hi=>by show i<n;simpa[zb2]using hi
 yld:=fun H i x H' f y d e=>by
  obtain⟨rfl,rfl⟩:=y;unfold zb2 at e;rw[qa5]at e;cases q:(List.range n)[i]? with
  |none=>rw[q]at e;exact cNN e
  |some j=>
   rw[q]at e;have hj:j=i:=by
    have:=qat.mp q;obtain⟨h1,h2⟩:=this;simpa using h2.symm
   subst hj;cases e;exact .inl ⟨rfl,rfl⟩
 stop:=fun H i f hi=>by show n<=i;simpa[zb2]using hi
def zeD (j:Int):Bool:=decide (-1000000000000<=j)&&decide (j<=1000000000000)
theorem zb1 {j:Int}(h:zeD j=true): -(2^62)<=j/\j<2^62:=by
 unfold zeD at h;simp only[qbm,qbD]at h;lia
def iR1 (ma:MA):MA:=fun ρ=>(ma ρ).bind fun p=>match p.1 with
 |[.int j]=>if zeD j then some (zb2 0 j.toNat,p.2)else none
 |_=>none
def iR2 (ma:MA):MA:=fun ρ=>(ma ρ).bind fun p=>match p.1 with
 |[.int i,.int j]=>if zeD i&&zeD j then some (zb2 i (j-i).toNat,p.2)else none
 |_=>none
section
variable {X:Cx} {tg a b:Expr} {ma:MA} {p pos:Pos}
theorem zaP (hm:X.mg "range"=none)(ha:SA X [a] ma)(hg:Gl X "range":=by rfl)(hs:starEach [a] X.env=[(false,eval a X.env)]:=by rfl):SIt X tg (.Call (.Name "range" p) [a] [] pos) (iR1 ma):=by
 obtain⟨t,pa,sa⟩:=ha;refine⟨_,zoj hg hm pa hs,fun B G H σ ρ ds ρ' Q I hm k=>?_⟩;obtain⟨⟨es,ρ1⟩,e1,h2⟩:=zel hm;dsimp only at h2;refine sa B G H σ ρ es ρ1 _ I e1 fun G1 H1 vs I1 f1 r1=>?_
 split at h2
 ·rename_i j
  split at h2
  ·rename_i hj;cases h2;obtain⟨x,rfl,rx⟩:=r1.one;cases(show x=V.int j from rx);exact⟨j,rfl,(zb1 hj).1,(zb1 hj).2,k _ G1 H1 I1 f1 (zoa 0 _)⟩
  ·exact cNN h2
 ·exact cNN h2
end
def ResF (K:W.Frag)(G' H' H:Hp)(v:V):Sl->Prop
 | .val d=>RepD K G' v d
 | .own ds=>∃l xs,v= .ref l/\G' l=none/\H' l=some (.lst xs)/\RepL K G' xs ds/\H l=none
 | .tre t=>∃A,RepT K G' H' v t A/\A.Nodup/\∀a∈A,G' a=none/\H a=none
 | .two ds es=>∃t l xs m ys,v= .ref t/\H' t=some (.tup [.ref l,.ref m])/\l≠m/\G' l=none/\H' l=some (.lst xs)/\RepL K G' xs ds/\H l=none/\G' m=none/\H' m=some (.lst ys)/\RepL K G' ys es/\H m=none
 |_=>False
def spP (K:W.Frag)(n:Nat)(F:List D->Option Sl):Sp:=fun vs H Q _=>∃G ds r,F ds=some r/\ds.length=n/\Fz G H/\RepL K G vs ds/\
 ∀G' H' v,Fz G G'->Fz G' H'->(∀b o,G' b=some o->G b≠none\/H b=none)->Fz H H'->ResF K G' H' H v r->Q v H'
def spM (K:W.Frag)(n:Nat)(F:List D->List D->Option (Sl×List D)):Sp:=fun vs H Q _=>∃G l xs cs ws ds r out,vs= .ref l::ws/\F cs ds=some (r,out)/\ds.length+1=n/\Fz G H/\G l=none/\H l=some (.lst xs)/\RepL K G xs cs/\RepL K G ws ds/\
 ∀G' H' v ys,Fz G G'->Fz G' H'->(∀b o,G' b=some o->G b≠none\/H b=none)->(∀b o,b≠l->H b=some o->H' b=some o)->G' l=none->H' l=some (.lst ys)->RepL K G' ys out->ResF K G' H' H v r->Q v H'
def fP (N:Nat)(m:MS):List D->Option Sl:=fun ds=>(m (ds.map .val++List.replicate (N-ds.length) .emp)).bind fun p=>match p.1 with
 | .ret r=>some r
 | .next=>some (.val .non)
 |_=>none
def fM (N:Nat)(m:MS):List D->List D->Option (Sl×List D):=fun cs ds=>(m (.par cs::(ds.map .val++List.replicate (N-(ds.length+1)) .emp))).bind fun p=>match p.1,(p.2[0]?:Option Sl)with
 |Fl.ret r,some (Sl.par out)=>some (r,out)
 |Fl.next,some (Sl.par out)=>some (.val .non,out)
 |_,_=>none
theorem ziv (h:vs.length<=N.length):(L2.start N vs).length=N.length:=by
 unfold L2.start;rw[qa8,qaS,qa9];lia
theorem SI.start (fz:Fz G H)(r:RepL K G vs ds)(h:ds.length<=N.length):
  SI K ⟨G,H,[]⟩ G H (L2.start N vs) (ds.map .val++List.replicate (N.length-ds.length) .emp) where
 fz:=fz
 g0:=Fz.refl G
 new:=fun b o e=> .inl (by show G b≠none;rw[e];simp)
 keep:=fun b o e _=>e
 there:=fun b e=>e
 ob:=fun i b m=>by cases m
 len:=by rw[ziv (by rw[r.length];exact h),qa8,qaS,qa9];lia
 slot:=fun i s e=>by
  by_cases hi:i<ds.length
  ·rw[qa4 (by simpa using hi),qa5,qbG hi]at e;cases e;obtain⟨x,h1,h2⟩:=r.get (qbG hi);refine⟨x,?_,h2⟩;unfold L2.start;rw[qa4 (by rw[qaS,r.length];exact hi),qa5,h1]
   rfl
  ·rw[qa2 (by simpa using hi),qa3]at e
   split at e
   ·cases e;trivial
   ·exact cNN e
 dis:=fun i j s _ a _ e _ w=>by
  exfalso
  by_cases hi:i<ds.length
  ·rw[qa4 (by simpa using hi),qa5,qbG hi]at e;cases e;exact w
  ·rw[qa2 (by simpa using hi),qa3]at e
   split at e
   ·cases e;exact w
   ·exact cNN e
theorem SI.startM (fz:Fz G H)(hg:G l=none)(hl:H l=some (.lst xs))(rc:RepL K G xs cs)(r:RepL K G vs ds)(h:ds.length+1<=N.length):
  SI K ⟨G,H,[(0,l)]⟩ G H (L2.start N (.ref l::vs)) (.par cs::(ds.map .val++List.replicate (N.length-(ds.length+1)) .emp)) where
 fz:=fz
 g0:=Fz.refl G
 new:=fun b o e=> .inl (by show G b≠none;rw[e];simp)
 keep:=fun b o e _=>e
 there:=fun b e=>e
 ob:=fun i b m=>by
  have:b=l:=((by simpa using m):i=0/\b=l).2;subst this;show H b≠none;rw[hl];simp
 len:=by
  have:=r.length;rw[ziv (by rw[qaQ,r.length];exact h),qaQ,qa8,qaS,qa9];lia
 slot:=fun i s e=>by
  cases i with
  |zero=>simp at e;subst e;exact⟨l,xs,rfl,hg,hl,rc,by simp⟩
  |succ i=>
   rw[qbM]at e
   by_cases hi:i<ds.length
   ·rw[qa4 (by simpa using hi),qa5,qbG hi]at e;cases e;obtain⟨x,h1,h2⟩:=r.get (qbG hi);refine⟨x,?_,h2⟩;unfold L2.start;rw[qaR,qbN,qbM,qa4 (by rw[qaS,r.length];exact hi),qa5,h1]
    rfl
   ·rw[qa2 (by simpa using hi),qa3]at e
    split at e
    ·cases e;trivial
    ·exact cNN e
 dis:=fun i j s t a hij hi hj w1 w2=>by
  have z:∀(i:Nat) (s:Sl),(Sl.par cs::(ds.map .val++List.replicate (N.length-(ds.length+1)) .emp))[i]? =some s->OwS K G H (L2.start N (.ref l::vs))[i]? a s->i=0:=fun i s e q=>by
   cases i with
   |zero=>rfl
   |succ i=>
    exfalso;rw[qbM]at e
    by_cases hi:i<ds.length
    ·rw[qa4 (by simpa using hi),qa5,qbG hi]at e;cases e;exact q
    ·rw[qa2 (by simpa using hi),qa3]at e
     split at e
     ·cases e;exact q
     ·exact cNN e
  exact hij ((z i s hi w1).trans (z j t hj w2).symm)
section
variable {P:Program} {w:World} {K:W.Frag} {mg:Str->Option Value} {base:Heap}
theorem zon {st:Stmt}{f:Addr}(F:Fun K x qual st f fd)(S:FnScope N ps (zar st))(hn:ps.length=n)(hN:n<=N.length)
  (body:∀(cdv:Value) (A:Around) (outer:List Env) (s:Shared) (H:Hp) (E:XK),Room k (A.deeper (envOfC qual (zar st) s.heap.objs.size f cdv))->SSs (cxOf CX0 P w K mg base N qual (zar st) f cdv A outer s H E).nox (zaR st) m):
  FnOk P w K mg base CX0 (k+1) f fd ps (spP K n (fP N.length m)):=by
 refine F.ok S (fun vs H Q E h=>?_) (fun cdv A outer s H vs Q E hr h=>?_)
 ·obtain⟨G,ds,r,_,h2,_,h4,_⟩:=h;rw[h4.length,h2,hn]
 ·obtain⟨G,ds,r,e1,h2,fz,h4,kk⟩:=h;obtain⟨t,pt,so⟩:=body cdv A outer s H E hr;refine⟨t,pt,?_⟩;refine zaz e1 fun fl ρ' e2 e3=>?_
  refine so ⟨G,H,[]⟩ G H (L2.start N vs) _ fl ρ' _ (SI.start fz h4 (by lia)) e2 ?_;have fin:∀G' H' σ' v,SI K ⟨G,H,[]⟩ G' H' σ' ρ'->Fz G G'->ResF K G' H' H v r->Q v H':=fun G' H' σ' v I f rr=>kk G' H' v f I.fz I.new (fun b o e=>I.keep b o e (by simp)) rr
  cases fl with
  |next=>cases e3;exact fun G' H' σ' I f=>fin G' H' σ' .non I f rfl
  |brk=>exact cNN e3
  |cont=>exact cNN e3
  |ret r'=>
   cases e3;refine fun G' H' σ' v I f rr=>fin G' H' σ' v I f ?_
   cases r with
   |val d=>exact rr
   |own ds=>exact rr
   |emp=>exact rr
   |two _ _=>exact rr
   |tre _=>exact rr
   |ptr _=>exact rr
   |par ds=>exact rr
theorem fnM_ok {st:Stmt}{f:Addr}(F:Fun K x qual st f fd)(S:FnScope N ps (zar st))(hn:ps.length=n)(hN:n<=N.length)
  (body:∀(cdv:Value) (A:Around) (outer:List Env) (s:Shared) (H:Hp) (E:XK),Room k (A.deeper (envOfC qual (zar st) s.heap.objs.size f cdv))->SSs (cxOf CX0 P w K mg base N qual (zar st) f cdv A outer s H E).nox (zaR st) m):
  FnOk P w K mg base CX0 (k+1) f fd ps (spM K n (fM N.length m)):=by
 refine F.ok S (fun vs H Q E h=>?_) (fun cdv A outer s H vs Q E hr h=>?_)
 ·obtain⟨G,l,xs,cs,ws,ds,r,out,rfl,_,h2,_,_,_,_,h4,_⟩:=h;rw[qaQ,h4.length,h2,hn]
 ·obtain⟨G,l,xs,cs,ws,ds,r,out,rfl,e1,h2,fz,hg,hl,rc,h4,kk⟩:=h;obtain⟨t,pt,so⟩:=body cdv A outer s H E hr;refine⟨t,pt,?_⟩;refine zaz e1 fun fl ρ' e2 e3=>?_
  refine so ⟨G,H,[(0,l)]⟩ G H _ _ fl ρ' _ (SI.startM fz hg hl rc h4 (by lia)) e2 ?_;have fin:∀G' H' σ' v,ρ'[0]? =some (.par out)->SI K ⟨G,H,[(0,l)]⟩ G' H' σ' ρ'->Fz G G'->ResF K G' H' H v r->Q v H':=fun G' H' σ' v e0 I f rr=>by
   obtain⟨l',ys,k1,k2,k3,k4,k5⟩:=I.slot 0 _ e0;have:l'=l:=by simpa using k5
   subst this;exact kk G' H' v ys f I.fz I.new (fun b o hb e=>I.keep b o e (fun i hm=>by simp at hm;exact hb hm.2)) k2 k3 k4 rr
  cases e0:ρ'[0]? with
  |none=>rw[e0]at e3;cases fl<;>exact cNN e3
  |some s0=>
   rw[e0]at e3;cases s0 with
   |emp=>cases fl<;>exact cNN e3
   |two _ _=>cases fl<;>exact cNN e3
   |tre _=>cases fl<;>exact cNN e3
   |ptr _=>cases fl<;>exact cNN e3
   |val d=>cases fl<;>exact cNN e3
   |own d=>cases fl<;>exact cNN e3
   |par o2=>
    cases fl with
    |next=>obtain⟨rfl,rfl⟩:=cSp e3;exact fun G' H' σ' I f=>fin G' H' σ' .non e0 I f rfl
    |brk=>exact cNN e3
    |cont=>exact cNN e3
    |ret r'=>
     cases e3;refine fun G' H' σ' v I f rr=>fin G' H' σ' v e0 I f ?_
     cases r with
     |val d=>exact rr
     |own ds=>exact rr
     |emp=>exact rr
     |two _ _=>exact rr
     |tre _=>exact rr
     |ptr _=>exact rr
     |par ds=>exact rr
end
structure FD (P:Program) (w:World) (K:W.Frag) (mg:Str->Option Value) (base:Heap) (k:Nat) (x:Str) (sp:Sp):Prop where
 ex:∃f fd ps,FnOk P w K mg base CX0 k f fd ps sp/\mg x=some (.ref f)/\W.keepIn K (.ref f)=true/\Binds K fd ps []
theorem zpD (nw:∀b o,G' b=some o->G b≠none\/H b=none)(kp:Fz H H'):∀(i:Nat) (s:Sl) (a:Addr),ρ[i]? =some s->OwS K G H σ[i]? a s->G a=none->H a≠none->G' a=none/\H' a=H a:=fun i s a _ _ g h=>by
 obtain⟨u,hu⟩:=qbA.mp h;refine⟨?_,(kp a u hu).trans hu.symm⟩;cases q:G' a with
 |none=>rfl
 |some u=>
  rcases nw a u q with z|z
  ·exact absurd g z
  ·exact absurd z h
theorem SI.grow (I:SI K B G H σ ρ)(f:Fz G G')(fz:Fz G' H')(nw:∀b o,G' b=some o->G b≠none\/H b=none)(kp:Fz H H'):SI K B G' H' σ ρ:=
 I.move fz f (fun b o e=>by
  rcases nw b o e with h|h
  ·cases q:G b with
   |none=>exact absurd q h
   |some u=>exact I.new b u q
  ·exact .inr (I.there b h)) (fun b o e n=>kp b o (I.keep b o e n)) (fun b e=>I.there b (kp.free e)) (zpD nw kp)
theorem SI.own_ne (I:SI K B G H σ ρ)(hp:H p=none)(nw:∀b o,G' b=some o->G b≠none\/H b=none)(kp:Fz H H'):Nw K G' H' σ ρ p:=I.nw_move (I.nw hp) (zpD nw kp)
def zbb (F:List D->Option Sl)(ma:MA):ME:=fun ρ=>(ma ρ).bind fun p=>(F p.1).bind fun r=>match r with
 | .val d=>some (d,p.2)
 | .own ds=>some (.lst ds,p.2)
 |_=>none
def zlM (F:List D->Option Sl)(ma:MA):MO:=fun ρ=>(ma ρ).bind fun p=>(F p.1).bind fun r=>match r with
 | .own ds=>some (ds,p.2)
 |_=>none
section
variable {X:Cx} {x:Str} {p pos:Pos} {e:Expr} {es:List Expr} {ma:MA} {k k' n:Nat} {F:List D->Option Sl}
theorem zav (fd:FD X.prog X.w X.K X.mg X.base k x (spP X.K n F))(hr:Room k' X.A)(ha:SA X (e::es) ma)(hn:(e::es).length=n:=by rfl)(hk:k<=k':=by decide)(hg:Gl X x:=by rfl)(hdb:(x==("__debug__":Str))=false:=by decide)
  (he:starEach (e::es) X.env=(false,eval e X.env)::starEach es X.env:=by rfl) (hpl:(backTo pos (starEach es X.env)).any (·.1)=false:=by rfl) (hlen:∀ρ as ρ',ma ρ=some (as,ρ')->as.length=n):SE X (.Call (.Name x p) (e::es) [] pos) (zbb F ma):=by
 obtain⟨f,fdd,ps,G0,h1,h2,h3⟩:=fd.ex;refine ha.el fun t pa sa=>?_
 refine⟨_,zjQ G0 (hr.mono hk) hg h1 h2 h3 .nil zlh pa hdb he hpl,fun B G H σ ρ d ρ' Q I hm kk=>?_⟩;refine zaz hm fun as ρ1 e1 hm=>?_
 refine cBel hm fun r e2 hm=>?_
 refine sa B G H σ ρ as ρ1 _ I e1 fun G1 H1 vs I1 f1 r1=>?_
 show spP X.K n F (vs++[]) H1 Q E0;rw[qaW];refine⟨G1,as,r,e2,hlen ρ as ρ1 e1,I1.fz,r1,fun G2 H2 v f2 fz2 nw kp rr=>?_⟩;have I2:=I1.grow f2 fz2 nw kp;cases r with
 |val d'=>obtain⟨rfl,rfl⟩:=cSp hm;exact kk G2 H2 v I2 (f1.trans f2) rr
 |own ds=>
  obtain⟨rfl,rfl⟩:=cSp hm;obtain⟨l,xs,rfl,g3,h3,r3,b3⟩:=rr;obtain⟨I3,f3,r4⟩:=zhN I2 g3 h3 r3 (I1.there l b3) (I1.own_ne b3 nw kp);exact kk _ H2 _ I3 (f1.trans (f2.trans f3)) r4
 |emp=>exact cNN hm
 |two _ _=>exact cNN hm
 |tre _=>exact cNN hm
 |ptr _=>exact cNN hm
 |par _=>exact cNN hm
theorem zik (fd:FD X.prog X.w X.K X.mg X.base k x (spP X.K n F))(hr:Room k' X.A)(ha:SA X (e::es) ma)(hn:(e::es).length=n:=by rfl)(hk:k<=k':=by decide)(hg:Gl X x:=by rfl)(hdb:(x==("__debug__":Str))=false:=by decide)
  (he:starEach (e::es) X.env=(false,eval e X.env)::starEach es X.env:=by rfl) (hpl:(backTo pos (starEach es X.env)).any (·.1)=false:=by rfl) (hlen:∀ρ as ρ',ma ρ=some (as,ρ')->as.length=n):SO X (.Call (.Name x p) (e::es) [] pos) (zlM F ma):=by
 obtain⟨f,fdd,ps,G0,h1,h2,h3⟩:=fd.ex;refine ha.el fun t pa sa=>?_
 refine⟨_,zjQ G0 (hr.mono hk) hg h1 h2 h3 .nil zlh pa hdb he hpl,fun B G H σ ρ d ρ' Q I hm kk=>?_⟩;refine zaz hm fun as ρ1 e1 hm=>?_
 refine cBel hm fun r e2 hm=>?_
 refine sa B G H σ ρ as ρ1 _ I e1 fun G1 H1 vs I1 f1 r1=>?_
 show spP X.K n F (vs++[]) H1 Q E0;rw[qaW];refine⟨G1,as,r,e2,hlen ρ as ρ1 e1,I1.fz,r1,fun G2 H2 v f2 fz2 nw kp rr=>?_⟩;have I2:=I1.grow f2 fz2 nw kp;cases r with
 |val d'=>exact cNN hm
 |own ds=>
  obtain⟨rfl,rfl⟩:=cSp hm;obtain⟨l,xs,rfl,g3,h3,r3,b3⟩:=rr;exact kk G2 H2 l xs I2 (f1.trans f2) g3 h3 r3 (I1.there l b3) (I1.own_ne b3 nw kp)
 |emp=>exact cNN hm
 |two _ _=>exact cNN hm
 |tre _=>exact cNN hm
 |ptr _=>exact cNN hm
 |par _=>exact cNN hm
end
def aLen (ma:MA)(n:Nat):Prop:=∀ρ as ρ',ma ρ=some (as,ρ')->as.length=n
theorem zah:aLen aNil 0:=fun ρ as ρ' h=>by obtain⟨rfl,rfl⟩:=cSp h;rfl
theorem zac {m:ME}{r:MA}(h:aLen r n):aLen (zae m r) (n+1):=fun ρ as ρ' e=>by
 refine zaz e fun d ρ1 _ h2=>?_
 refine zeR h2 fun ds ρ2 e3 e4=>?_
 cases e4;rw[qaQ,h ρ1 ds ρ2 e3]
def zaW (F:List D->List D->Option (Sl×List D))(j:Nat)(ma:MA):ME:=fun ρ=>if(ρ[j]?.bind Sl.items).isSome then(ma ρ).bind fun p=>p.2[j]?.bind fun s=>s.items.bind fun cs=>(F cs p.1).bind fun r=>match r.1 with
 | .val d=>some (d,p.2.set j (s.put r.2))
 | .own ds=>some (.lst ds,p.2.set j (s.put r.2))
 |_=>none else none
def zmi (F:List D->List D->Option (Sl×List D))(j:Nat)(ma:MA):MO:=fun ρ=>if(ρ[j]?.bind Sl.items).isSome then(ma ρ).bind fun p=>p.2[j]?.bind fun s=>s.items.bind fun cs=>(F cs p.1).bind fun r=>match r.1 with
 | .own ds=>some (ds,p.2.set j (s.put r.2))
 |_=>none else none
theorem SI.growW (I:SI K B G H σ ρ)(e:ρ[j]? =some s)(q:s.items=some cs)(hl:σ[j]? =some (some (.ref l)))
  (f:Fz G G') (fz:Fz G' H') (nw:∀b o,G' b=some o->G b≠none\/H b=none) (kp:∀b o,b≠l->H b=some o->H' b=some o) (gl:G' l=none) (hl':H' l=some (.lst ys)) (r:RepL K G' ys out):SI K B G' H' σ (ρ.set j (s.put out)):=
 I.chgW e q hl fz f nw kp gl hl' r
theorem SI.own_neW (I:SI K B G H σ ρ)(e:ρ[j]? =some s)(q:s.items=some cs)(hl:σ[j]? =some (some (.ref l)))(hp:H p=none)
  (nw:∀b o,G' b=some o->G b≠none\/H b=none) (kp:∀b o,b≠l->H b=some o->H' b=some o):Nw K G' H' σ (ρ.set j (s.put out)) p:=fun i t et w=>by
 obtain⟨l',xs,e1,e2,e3,e4⟩:=I.wr e q;rw[hl]at e1;cases e1;have hpl:p≠l:=fun z=>by rw[z,e3]at hp;cases hp
 by_cases z:i=j
 ·subst z;rw[qbz,if_pos rfl]at et
  split at et
  ·cases et;have:=(zba (zg9 q out)).mp w;rw[hl]at this;exact hpl (V.ref.inj (Option.some.inj (Option.some.inj this))).symm
  ·cases et
 ·rw[qav (Ne.symm z)]at et;have sl:=I.slot i t et;refine(sl.own (sl.back (fun a w g h=>?_) w)).2.1 hp;have na:a≠l:=fun w'=>by subst w';exact I.dis i j t s a z et e w ((zba q).mpr hl)
  obtain⟨u,hu⟩:=qbA.mp h;refine⟨?_,(kp a u na hu).trans hu.symm⟩;cases q2:G' a with
  |none=>rfl
  |some u=>
   rcases nw a u q2 with z|z
   ·exact absurd g z
   ·exact absurd z h
section
variable {X:Cx} {x y:Str} {p py pos:Pos} {es:List Expr} {ma:MA} {k k' n:Nat} {F:List D->List D->Option (Sl×List D)}
theorem soundM {t:TA}{Q:VK}(sa:∀B G H σ ρ ds ρ' (Q:List V->Hp->Prop),SI X.K B G H σ ρ->ma ρ=some (ds,ρ')->(∀G' H' vs,SI X.K B G' H' σ ρ'->Fz G G'->RepL X.K G' vs ds->Q vs H')->t σ H Q)
  (hlen:∀ρ as ρ',ma ρ=some (as,ρ')->as.length+1=n) (I:SI X.K B G H σ ρ) {ds0:List D} (h0:ρ[j]?.bind Sl.items=some ds0) {as:List D} {ρ1:R} (e1:ma ρ=some (as,ρ1)) {s:Sl} (e2:ρ1[j]? =some s) {cs:List D} (e3:s.items=some cs)
  {r:Sl} {out:List D} (e4:F cs as=some (r,out))
  (kk:∀G' H' v,SI X.K B G' H' σ (ρ1.set j (s.put out))->Fz G G'->True->(∃H1,ResF X.K G' H' H1 v r/\(∀b,H1 b=none->B.H b=none)/\∀b,H1 b=none->Nw X.K G' H' σ (ρ1.set j (s.put out)) b)->Q v H'):
  tCall (spM X.K n F) [] E0 (tCons (tVar j) t) σ H Q:=by
 obtain⟨s0,k0,q0⟩:=zel h0;obtain⟨l,xs0,h1,h2,h3,h4⟩:=I.wr k0 q0;refine⟨.ref l,h1,sa B G H σ ρ as ρ1 _ I e1 fun G1 H1 vs I1 f1 r1=>?_⟩;show spM X.K n F ((.ref l::vs)++[]) H1 Q E0;rw[qaW];obtain⟨l',xs,m1,m2,m3,m4⟩:=I1.wr e2 e3;rw[h1]at m1;cases m1;refine⟨G1,l,xs,cs,vs,as,r,out,rfl,e4,hlen ρ as ρ1 e1,I1.fz,m2,m3,m4,r1,fun G2 H2 v ys f2 fz2 nw kp gl hl r2 rr=>?_⟩;exact kk G2 H2 v (I1.growW e2 e3 h1 f2 fz2 nw kp gl hl r2) (f1.trans f2) trivial ⟨H1,rr,fun b hb=>I1.there b hb,fun b hb=>I1.own_neW e2 e3 h1 hb nw kp⟩
theorem zay (j:Nat)(fd:FD X.prog X.w X.K X.mg X.base k x (spM X.K n F))(hr:Room k' X.A)(ha:SA X es ma)(hlen:∀ρ as ρ',ma ρ=some (as,ρ')->as.length+1=n)(hN:X.N[j]? =some y:=by rfl)(hv:Vis X.env.scope y:=by trivial)(hd:(y==("__debug__":Str))=false:=by decide)
  (hcd:(y==("__classdict__":Str))=false:=by decide) (hk:k<=k':=by decide) (hg:Gl X x:=by rfl) (hdb:(x==("__debug__":Str))=false:=by decide)
  (he:starEach (.Name y py::es) X.env=(false,eval (.Name y py) X.env)::starEach es X.env:=by rfl) (hpl:(backTo pos (starEach es X.env)).any (·.1)=false:=by rfl):SE X (.Call (.Name x p) (.Name y py::es) [] pos) (zaW F j ma):=by
 obtain⟨f,fdd,ps,G0,h1,h2,h3⟩:=fd.ex;refine ha.el fun t pa sa=>?_
 refine⟨_,zjQ G0 (hr.mono hk) hg h1 h2 h3 .nil zlh (zeu (zb3 hN hv hd hcd) pa he) hdb he hpl,fun B G H σ ρ d ρ' Q I hm kk=>?_⟩;unfold zaW at hm;refine cIte hm fun hso hm=>?_
 obtain⟨ds0,hso⟩:=qaZ.mp hso;refine zaz hm fun as ρ1 e1 hm=>?_
 refine cBel hm fun s e2 hm=>?_
 refine cBel hm fun cs e3 hm=>?_
 refine zaz hm fun r out e4 hm=>?_
 refine soundM sa hlen I hso e1 e2 e3 e4 fun G' H' v I' f' _ ⟨H1,rr,bb,nn⟩=>?_
 cases r with
 |val d'=>obtain⟨rfl,rfl⟩:=cSp hm;exact kk G' H' v I' f' rr
 |own ds=>
  obtain⟨rfl,rfl⟩:=cSp hm;obtain⟨l,xs,rfl,g3,h3,r3,b3⟩:=rr;obtain⟨I3,f3,r4⟩:=zhN I' g3 h3 r3 (bb l b3) (nn l b3);exact kk _ H' _ I3 (f'.trans f3) r4
 |emp=>exact cNN hm
 |two _ _=>exact cNN hm
 |tre _=>exact cNN hm
 |ptr _=>exact cNN hm
 |par _=>exact cNN hm
theorem so_callM (j:Nat)(fd:FD X.prog X.w X.K X.mg X.base k x (spM X.K n F))(hr:Room k' X.A)(ha:SA X es ma)(hlen:∀ρ as ρ',ma ρ=some (as,ρ')->as.length+1=n)(hN:X.N[j]? =some y:=by rfl)(hv:Vis X.env.scope y:=by trivial)(hd:(y==("__debug__":Str))=false:=by decide)
  (hcd:(y==("__classdict__":Str))=false:=by decide) (hk:k<=k':=by decide) (hg:Gl X x:=by rfl) (hdb:(x==("__debug__":Str))=false:=by decide)
  (he:starEach (.Name y py::es) X.env=(false,eval (.Name y py) X.env)::starEach es X.env:=by rfl) (hpl:(backTo pos (starEach es X.env)).any (·.1)=false:=by rfl):SO X (.Call (.Name x p) (.Name y py::es) [] pos) (zmi F j ma):=by
 obtain⟨f,fdd,ps,G0,h1,h2,h3⟩:=fd.ex;refine ha.el fun t pa sa=>?_
 refine⟨_,zjQ G0 (hr.mono hk) hg h1 h2 h3 .nil zlh (zeu (zb3 hN hv hd hcd) pa he) hdb he hpl,fun B G H σ ρ d ρ' Q I hm kk=>?_⟩;unfold zmi at hm;refine cIte hm fun hso hm=>?_
 obtain⟨ds0,hso⟩:=qaZ.mp hso;refine zaz hm fun as ρ1 e1 hm=>?_
 refine cBel hm fun s e2 hm=>?_
 refine cBel hm fun cs e3 hm=>?_
 refine zaz hm fun r out e4 hm=>?_
 refine soundM sa hlen I hso e1 e2 e3 e4 fun G' H' v I' f' _ ⟨H1,rr,bb,nn⟩=>?_
 cases r with
 |val d'=>exact cNN hm
 |own ds=>
  obtain⟨rfl,rfl⟩:=cSp hm;obtain⟨l,xs,rfl,g3,h3,r3,b3⟩:=rr;exact kk G' H' l xs I' f' g3 h3 r3 (bb l b3) (nn l b3)
 |emp=>exact cNN hm
 |two _ _=>exact cNN hm
 |tre _=>exact cNN hm
 |ptr _=>exact cNN hm
 |par _=>exact cNN hm
end
def ze7 (env:Env)(cs:List (Str×Addr))(x:Str×NameKind):List (Str×Addr):=if x.2== .free then(x.1,(env.cells.lookup x.1).getD 0)::cs else cs
def clOf (scope:Scope)(env:Env):List (Str×Addr):=scope.names.foldl (ze7 env) []
theorem zhP:∀(names:List (Str×NameKind)) (cs:List (Str×Addr)),(∀y∈names,y.2= .free->∃c,env.cells.lookup y.1=some c)->
  (forIn names cs (fun x r=>if x.2==NameKind.free then do let a<-cellOf env x.1;pure (ForInStep.yield ((x.1,a)::r))else pure (ForInStep.yield r)):Sem (List (Str×Addr)))=pure (names.foldl (ze7 env) cs)
 |[],cs,_=>rfl
 |(n,k)::r,cs,h=>by
  have ih:=fun cs'=>zhP r cs' (fun y hy=>h y (qap _ hy))
  rw[qbO,qbw]
  by_cases hk:(k==NameKind.free)=true
  ·obtain⟨c,hc⟩:=h (n,k) qao (by simpa using hk);have e:ze7 env cs (n,k)=(n,c)::cs:=by unfold ze7;simp[hk,hc]
   rw[e,<-ih];simp only[hk,if_true];unfold cellOf;simp only at hc;rw[hc]
   rfl
  ·have e:ze7 env cs (n,k)=cs:=by unfold ze7;simp[hk]
   rw[e,<-ih];simp only[hk]
   rfl
theorem znJ {env:Env}(h:∀y∈scope.names,y.2= .free->∃c,env.cells.lookup y.1=some c):closureFor scope env=pure (clOf scope env):=by
 unfold closureFor clOf;have e:=zhP (env:=env) scope.names [] h;simp only[bind_pure];exact e
theorem zdw {c:Addr}:∀{names:List (Str×NameKind)} {cs:List (Str×Addr)},(∀y∈names,y.2= .free->∃c,env.cells.lookup y.1=some c)->(cs.lookup x=some c->env.cells.lookup x=some c)->
  (names.foldl (ze7 env) cs).lookup x=some c->env.cells.lookup x=some c
 |[],cs,_,h0,h=>h0 h
 |(n,k)::r,cs,hn,h0,h=>by
  rw[qbw]at h;refine zdw (names:=r) (fun y hy=>hn y (qap _ hy)) ?_ h;intro q;unfold ze7 at q
  split at q
  ·rename_i hk;obtain⟨c',hc⟩:=hn (n,k) qao (by simpa using hk);rw[qbP]at q;simp only at hc
   by_cases z:(x==n)=true
   ·rw[z]at q;have zz:x=n:=by simpa using z
    subst zz;simp only[hc,qbQ]at q;rw[hc];exact q
   ·have z':(x==n)=false:=by simpa using z
    rw[z']at q;exact h0 q
  ·exact h0 q
theorem zeY:∀{names:List (Str×NameKind)} {cs:List (Str×Addr)},((x,NameKind.free)∈names\/(cs.lookup x).isSome=true)->((names.foldl (ze7 env) cs).lookup x).isSome=true
 |[],cs,h=>by
  rcases h with h|h
  ·simp at h
  ·exact h
 |(n,k)::r,cs,h=>by
  rw[qbw];refine zeY (names:=r) ?_;rcases h with h|h
  ·rcases qaq.mp h with h|h
   ·cases h;refine .inr ?_;unfold ze7;simp
   ·exact .inl h
  ·refine .inr ?_;unfold ze7
   split
   ·rw[qbP]
    by_cases z:(x==n)=true
    ·rw[z];rfl
    ·have z':(x==n)=false:=by simpa using z
     rw[z'];exact h
   ·exact h
theorem zi8 {c:Addr}:∀{names:List (Str×NameKind)} {n:Nat} {acc:List (Str×Addr)},(cellsFrom n names acc).lookup x=some c->(n<=c/\(x,NameKind.cell)∈names)\/acc.lookup x=some c
 |[],n,acc,h=> .inr h
 |(m,k)::r,n,acc,h=>by
  unfold cellsFrom at h
  split at h
  ·rename_i hk;have hk':k= .cell:=by simpa using hk
   subst hk';rcases zi8 h with⟨h1,h2⟩|h1
   ·exact .inl ⟨Nat.le_of_succ_le h1,qap _ h2⟩
   ·rw[qbP]at h1;cases q:x==m with
    |true=>
     rw[q]at h1;cases h1;rw[qaP.mp q];exact .inl ⟨qaH _,qao⟩
    |false=>rw[q]at h1;exact .inr h1
  ·rcases zi8 h with⟨h1,h2⟩|h1
   ·exact .inl ⟨h1,qap _ h2⟩
   ·exact .inr h1
theorem zmA:∀{names:List (Str×NameKind)} {n:Nat} {acc:List (Str×Addr)},(x,NameKind.cell)∉names->(cellsFrom n names acc).lookup x=acc.lookup x
 |[],n,acc,_=>rfl
 |(m,k)::r,n,acc,h=>by
  unfold cellsFrom
  split
  ·rename_i hk;have hk':k= .cell:=by simpa using hk
   subst hk';rw[zmA fun z=>h (qap _ z),qbP];cases q:x==m with
   |true=>exact absurd (by rw[qaP.mp q];exact qao) h
   |false=>rfl
  ·exact zmA fun z=>h (qap _ z)
theorem zms:∀{names:List (Str×NameKind)} {n:Nat} {acc:List (Str×Addr)},(x,NameKind.cell)∈names->∃c,(cellsFrom n names acc).lookup x=some c/\n<=c
 |(m,k)::r,n,acc,h=>by
  unfold cellsFrom
  by_cases hr:(x,NameKind.cell)∈r
  ·split
   ·obtain⟨c,h1,h2⟩:=zms (n:=n+1) (acc:=(m,n)::acc) hr;exact⟨c,h1,Nat.le_of_succ_le h2⟩
   ·exact zms hr
  ·rcases qaq.mp h with e|e
   ·cases e;rw[if_pos (qbR _),zmA hr,qbP,qbR];exact⟨n,rfl,qaH _⟩
   ·exact absurd e hr
theorem zn2:∀{names:List (Str×NameKind)} {n:Nat} {acc:List (Str×Addr)},(∀x c,acc.lookup x=some c->c<n)->(∀x y c,acc.lookup x=some c->acc.lookup y=some c->x=y)->
  ∀x y c,(cellsFrom n names acc).lookup x=some c->(cellsFrom n names acc).lookup y=some c->x=y
 |[],n,acc,_,hi=>hi
 |(m,k)::r,n,acc,hl,hi=>by
  unfold cellsFrom
  split
  ·refine zn2 (fun x c h=>?_) (fun x y c h1 h2=>?_)
   ·rw[qbP]at h;cases q:x==m with
    |true=>rw[q]at h;cases h;exact qaU _
    |false=>rw[q]at h;exact qbS (hl x c h)
   ·rw[qbP]at h1 h2;cases q:x==m with
    |true=>
     rw[q]at h1;cases h1;cases q2:y==m with
     |true=>rw[qaP.mp q,qaP.mp q2]
     |false=>rw[q2]at h2;exact absurd (hl y n h2) (qaf _)
    |false=>
     rw[q]at h1;cases q2:y==m with
     |true=>rw[q2]at h2;cases h2;exact absurd (hl x n h1) (qaf _)
     |false=>rw[q2]at h2;exact hi x y c h1 h2
  ·exact zn2 hl hi
theorem zlI:∀{names:List (Str×NameKind)} {h:Heap} {acc:List (Str×Addr)},(∀x c,acc.lookup x=some c->∃v,h.IsCell c v)->∀x c,(cellsFrom h.objs.size names acc).lookup x=some c->∃v,(pushCells h names).IsCell c v
 |[],h,acc,ha=>ha
 |(m,k)::r,h,acc,ha=>by
  unfold cellsFrom pushCells
  split
  ·intro x c e;rw[<-qaT h {cls:= .type "cell",data:= .cell none}]at e;refine zlI (fun y d q=>?_) x c e;rw[qbP]at q;cases z:y==m with
   |true=>rw[z]at q;cases q;exact⟨none,_,qaG _ rfl,rfl⟩
   |false=>
    rw[z]at q;obtain⟨v,hv⟩:=ha y d q;exact⟨v,hv.keeps fun b o e=>qaF _ e⟩
  ·exact zlI ha
theorem zlL {M:Model}{s:Shared}{globals:Addr}{Q:Env->Shared->Prop}
  (hQ : ∀ h' : Heap, h'.Ns s.heap.objs.size (fun _ => none) -> (∀ a o, s.heap.get? a = some o -> h'.get? a = some o) ->
   ((∀x c,cl.lookup x=some c->∃v,s.heap.IsCell c v)->∀x c,(cellsFrom (s.heap.objs.size+1) scope.names cl).lookup x=some c->∃v,h'.IsCell c v)->
   Q (newEnv scope s.heap.objs.size globals (cellsFrom (s.heap.objs.size+1) scope.names cl) qual none .none (some env) builtinsNs) {s with heap:=h'}):
  wpAny M A (newFunctionEnv scope globals cl [] qual none .none (some env)) Q E s:=by
 simp only[newFunctionEnv,Option.isSome_some,if_true];refine qaA (wpAny_alloc ?_);refine qaA (wpAny_layCells _ (fun name kind cells=>by cases hkc:kind==NameKind.cell<;>simp[hkc]) _ _ _ _ ?_)
 rw[show({s with heap:=s.heap.push {cls:= .type "dict",data:= .dict #[]}}:Shared).heap.objs.size=s.heap.objs.size+1 from qaT ..];refine qaA ?_;rw[qbT];refine qaE (qaE (hQ _ ((Heap.Ns.new s.heap (.type "dict")).keeps (pushCells_keeps _ _)) (fun a o e=>pushCells_keeps _ _ a o (qaF _ e)) fun hc x c e=>?_));rw[<-qaT s.heap {cls:= .type "dict",data:= .dict #[]}]at e;refine zlI (fun y d q=>?_) x c e;obtain⟨v,hv⟩:=hc y d q;exact⟨v,hv.keeps fun b o e=>qaF _ e⟩
def clC (scope:Scope)(env:Env)(C:Addr):List (Str×Addr):=cellsFrom (C+1) scope.names (clOf scope env)
def ownC (scope:Scope)(x:Str):Bool:=match scope.names.lookup x with
 |some .cell=>true
 |_=>false
def cxC (X:Cx)(N:List Str)(scope:Scope)(C:Addr)(s:Shared)(H:Hp)(fp:List Addr):Cx:=
 {X with N:=N,s₀:=s,H₀:=H,env:=compEnvC scope (clC scope X.env C) C X.env,outer:=X.stack,ex:=fp,fn:=ownC scope,pn:=[],xe:=fun _ _=>False}
structure BlkOk (X:Cx) (scope:Scope):Prop where
 kind:scope.kind= .function
 uniq:∀y∈scope.names,scope.names.lookup y.1=some y.2
 free:∀y∈scope.names,y.2= .free->X.env.kindOf y.1=some .cell\/X.env.kindOf y.1=some .free
theorem zfD {α:Type}{v:α}:∀{l:List (Str×α)},l.lookup x=some v->(x,v)∈l
 |[],h=>by simp at h
 |(n,w)::r,h=>by
  rw[qbP]at h
  by_cases z:(x==n)=true
  ·rw[z]at h;have zz:x=n:=by simpa using z
   subst zz;cases h;exact qao
  ·have z':(x==n)=false:=by simpa using z
   rw[z']at h;exact qap _ (zfD h)
theorem zdx {env:Env}{x:Str}:∀{names:List (Str×NameKind)},(names.map fun(n,k)=>if(k==NameKind.free&&env.scope.kind== .function&&env.kindOf n==some .cell)then(n,NameKind.cell)else(n,k)).lookup x=
  (names.lookup x).map fun k=>if(k==NameKind.free&&env.scope.kind== .function&&env.kindOf x==some .cell)then NameKind.cell else k
 |[]=>rfl
 |(n,k)::r=>by
  have ih:=zdx (env:=env) (x:=x) (names:=r);show List.lookup x ((if(k==NameKind.free&&env.scope.kind== .function&&env.kindOf n==some .cell)=true then(n,NameKind.cell)else(n,k))::_)=_;cases hx:x==n with
  |true=>
   have zz:x=n:=by simpa using hx
   by_cases hc:(k==NameKind.free&&env.scope.kind== .function&&env.kindOf n==some .cell)=true
   ·rw[if_pos hc];simp only[qbP,hx,qbC];rw[zz,if_pos hc]
   ·rw[if_neg hc];simp only[qbP,hx,qbC];rw[zz,if_neg hc]
  |false=>
   by_cases hc:(k==NameKind.free&&env.scope.kind== .function&&env.kindOf n==some .cell)=true
   ·rw[if_pos hc];simp only[qbP,hx];exact ih
   ·rw[if_neg hc];simp only[qbP,hx];exact ih
section
variable {X:Cx} {pins:List (Addr×Obj)} {σ:St} {H:Hp} {s:Shared} {scope:Scope} {N:List Str} {fp:List Addr} {C:Addr}
theorem ziy (I:Inv X pins σ H s)(b:BlkOk X scope):∀y∈scope.names,y.2= .free->∃c,X.env.cells.lookup y.1=some c:=fun y hy hf=>I.ok.has y.1 (b.free y hy hf)
theorem blk_vis (h:(relabel scope X.env).names.lookup x=some .cell\/(relabel scope X.env).names.lookup x=some .free):(x,NameKind.free)∈scope.names\/(x,NameKind.cell)∈scope.names:=by
 have e:(relabel scope X.env).names.lookup x=(scope.names.lookup x).map fun k=>if(k==NameKind.free&&X.env.scope.kind== .function&&X.env.kindOf x==some .cell)then NameKind.cell else k:=zdx
 rw[e]at h;cases q:scope.names.lookup x with
 |none=>rw[q]at h;simp at h
 |some k=>
  have hm:=zfD q
  by_cases hk:k= .free
  ·subst hk;exact .inl hm
  ·rw[q]at h;have hkf:(k==NameKind.free)=false:=by simpa using hk
   simp only[qbC,hkf,Bool.false_and,qbU,qbh,Option.some.injEq]at h;rcases h with h|h
   ·subst h;exact .inr hm
   ·exact absurd h hk
theorem zgA (I:Inv X pins σ H s)(b:BlkOk X scope){c:Addr}(h:(clOf scope X.env).lookup x=some c):X.env.cells.lookup x=some c:=zdw (ziy I b) (by simp) h
theorem zhs (I:Inv X pins σ H s)(b:BlkOk X scope){c:Addr}(h:(clC scope X.env C).lookup x=some c):C<c\/X.env.cells.lookup x=some c:=by
 rcases zi8 h with⟨h1,_⟩|h1
 ·exact .inl h1
 ·exact .inr (zgA I b h1)
theorem zmv (b:BlkOk X scope)(h:(x,NameKind.free)∈scope.names):(clC scope X.env C).lookup x=(clOf scope X.env).lookup x:=zmA fun z=>by
 have h1:=b.uniq _ h;have h2:=b.uniq _ z;simp only at h1 h2;rw[h1]at h2;cases h2
theorem blk_ok (I:Inv X pins σ H s)(b:BlkOk X scope)(hC:s.heap.objs.size<=C)(hf:∀b∈fp,FpOk X pins H b)(hfC:∀b∈fp,b<C):(cxC X N scope C s H fp).Ok where
 mod:=I.ok.mod
 kind:=b.kind
 glob:=I.ok.glob
 blt:=I.ok.blt
 above:=hC
 inj:=zn2 (fun x c h=>by
  obtain⟨v,hv⟩:=I.cell x c (zgA I b h);exact qbS (qae hv.lt hC)) fun x y c h1 h2=>I.ok.inj x y c (zgA I b h1) (zgA I b h2)
 has:=fun x hx=>by
  rcases blk_vis (x:=x) hx with hm|hm
  ·show ∃c,(clC scope X.env C).lookup x=some c;rw[zmv b hm];exact qaZ.mp (zeY (.inl hm))
  ·obtain⟨c,h,_⟩:=zms (n:=C+1) (acc:=clOf scope X.env) hm;exact⟨c,h⟩
 cab:=fun x c h e=>by
  have h':ownC scope x=true:=h;unfold ownC at h'
  split at h'
  ·rename_i q;obtain⟨c',h1,h2⟩:=zms (n:=C+1) (acc:=clOf scope X.env) (zfD q);have e':some c'=some c:=h1.symm.trans e;cases e';exact qal hC (Nat.le_of_succ_le h2)
  ·cases h'
 hd:=I.ok.hd
 frames:=I.ok.frames
 stk:= .inl rfl
 exf:=fun a ha=>⟨qag (hfC a ha),fun x c e z=>by
  rcases zhs I b e with q|q
  ·exact Nat.lt_asymm q (z ▸ hfC a ha)
  ·exact(hf a ha).2.2.2.2.1 x c q z⟩
 bs:=I.bs
 bsz:=qal I.ok.bsz I.sz
 noex:=fun a o e ha=>by
  rcases(hf a ha).2.2.2.1 with z|z
  ·exact I.ok.noex a o e z
  ·exact absurd (qae (qad e) (qal I.ok.bsz z)) (qaf _)
 exfs:=fun a ha hs=>by
  rcases qaq.mp (I.stkSub a hs)with z|z
  ·exact(hf a ha).2.1 z
  ·exact(hf a ha).2.2.1 z
 funs:=I.stack
 frf:=I.stkFree
theorem zoG {tk:Nat}(I:Inv X pins σ H s)(b:BlkOk X scope)(hf:∀b∈fp,FpOk X pins H b)(hfs:∀b∈fp,b<s.heap.objs.size)
  (hns:h'.Ns s.heap.objs.size (fun _=>none)) (hk:∀a o,s.heap.get? a=some o->h'.get? a=some o) (hcl:∀x c,(clC scope X.env s.heap.objs.size).lookup x=some c->∃v,h'.IsCell c v) (hl:σc.length=N.length)
  (hσ:∀(i:Nat) (x:Str) (v:V),N[i]? =some x->σc[i]? =some (some v)->(x,NameKind.free)∈scope.names/\∃j:Nat,X.N[j]? =some x/\σ[j]? =some (some v)) (hloc:∀(i:Nat) (x:Str) (v:V),N[i]? =some x->σc[i]? =some (some v)->¬(relabel scope X.env).names.lookup x=some .local):
  Inv (cxC X N scope s.heap.objs.size s H fp) [] σc H {s with heap:=h',toks:=tk}:=by
 have ok:=blk_ok (N:=N) I b (qaH _) hf hfs;refine⟨ok,rfl,I.bare,Un.kept hk,⟨_,hns,fun i x v h1 h2 h3=>?_⟩,fun x c e=>?_,I.hok.fresh (qaH _),fun x c e=>?_,fun p hp=>absurd (show p∈([]:List (Addr×Obj))from hp) (by simp),I.hok.kept hk,hl⟩
 ·obtain⟨hm,j,hj,hv⟩:=hσ i x v h1 h2;have hkind:=b.free _ hm rfl;obtain⟨m,hn,hloc'⟩:=I.loc;have hvis:Vis X.env.scope x:=by
   rcases hkind with z|z
   ·exact .inr (.inl z)
   ·exact .inr (.inr z)
  obtain⟨u,ru,lk⟩:=hloc' j x v hj hv hvis;refine⟨u,ru,?_⟩;rcases lk with⟨z,_⟩|⟨_,c,ec,hc⟩
  ·exfalso;rcases hkind with w|w<;>simp only at w<;>rw[z]at w<;>cases w
  ·refine .inr ⟨?_,c,?_,?_⟩
   ·rcases h3 with z|z|z
    ·exact absurd z (hloc i x v h1 h2)
    ·exact .inl z
    ·exact .inr z
   ·have hs:((clOf scope X.env).lookup x).isSome=true:=zeY (.inl hm);obtain⟨c',ec'⟩:=qaZ.mp hs;have:=zdw (ziy I b) (by simp) ec';rw[ec]at this;cases this;exact(zmv b hm).trans ec'
   ·obtain⟨o,ho,hd⟩:=hc;exact⟨o,hk _ _ ho,hd⟩
 ·exact hcl x c e
 ·rcases zhs I b e with q|q
  ·exact I.hok.fresh (qam q)
  ·exact I.freeC x c q
theorem znR {h':Heap}{s1:Shared}(I:Inv X pins σ H s)(hf:∀b∈fp,FpOk X pins H b)(J:Inv (cxC X N scope s.heap.objs.size s H fp) [] σc H' s1)(hs:Heap.SameBut s.heap.objs.size s1.heap h'):Inv X pins σ H' {s1 with heap:=h'}:=by
 have kp:∀a o,a≠s.heap.objs.size->s1.heap.get? a=some o->h'.get? a=some o:=fun a o ha e=>hs.extBut a o ha e
 have free:H' s.heap.objs.size=none:=J.free;have ntr:∀a u,H' a=some u->a≠s.heap.objs.size:=fun a u e z=>by rw[z,free]at e;exact cNN e
 have lt:∀a o,s.heap.get? a=some o->a≠s.heap.objs.size:=fun a o e=>qag (qad e)
 have u:Un (frs X.stack) fp H H' s.heap s1.heap:=J.base;have u':Un (frs X.stack) fp H H' s.heap h':=by
  refine⟨fun a o e n hb hx=>kp a o (lt a o e) (u.keep a o e n hb hx),fun a o e n hb hx=>?_,u.free,fun a o e hx=>?_,u.tups,u.frzs,u.tbls⟩
  ·obtain⟨sl,q⟩:=u.slot a o e n hb hx;exact⟨sl,kp a _ (lt a o e) q⟩
  ·obtain⟨o',q⟩:=u.there a o e hx;exact⟨o',kp a _ (lt a o e) q⟩
 have hok:HOk X.prog X.w H' h':=fun a o e=>(J.hok a o e).stay (fun c v hc q=>by
  refine kp c v ?_ q;rcases hc with rfl|hc
  ·exact ntr _ _ e
  ·exact ntr _ _ hc) (fun _ q=>q) fun _ _ q=>q
 obtain⟨hh,g,d,t,os'⟩:=s1;have os:os'=s.os:=J.os;subst os;have z:=I.call (h':=h') (g':=g) (d':=d) (t':=t) (ch:=fp) u' hok J.bare (fun a ha=>⟨(hf a ha).2.2.2.1,(hf a ha).2.1,(hf a ha).2.2.2.2.1,(hf a ha).2.2.2.2.2⟩);exact z
end
def PTs (X:Cx)(ifs:List Expr)(t:TT):Prop:=∀(pins:List (Addr×Obj)) (s:Shared) (σ:St) (H:Hp) (Q:Bool->Hp->Prop),Inv X pins σ H s->t σ H Q->
 wpAny (model X.prog X.w) X.A (forIn ifs true fun c r=>if r=true then do let ok<-isTrue c X.env (eval c X.env);pure (ForInStep.yield ok)else pure (ForInStep.yield r)) (TP X pins σ Q) X.xe s
theorem pts_nil:PTs X [] (fun _ H Q=>Q true H):=fun pins s σ H Q I h=>wpAny_tests_nil ⟨H,I,h⟩
theorem pts_one {c:Expr}{t:TT}(h:PT X c t):PTs X [c] t:=fun pins s σ H Q I hw=>wpAny_tests_one (h pins s σ H Q I hw)
theorem zlw {R:Result->Shared->Prop}{s:Shared}{elt target iter:Expr}{it acc:Value}(I:Nat->Shared->Prop)
  (turn : ∀ n s, I n s -> wpAny (model prog w) A (pyNext it) (fun r s₁ => match r with
   |none=>R (.ok .next) s₁
   | some v => wpAny (model prog w) A (letOwnedTupleGo target it v) (fun _ s₁' => wpAny (model prog w) A (assign target env v) (fun _ s₂ =>
     wpAny (model prog w) A (forIn ifs true fun c r=>if r=true then do let ok<-isTrue c env (eval c env);pure (ForInStep.yield ok)else pure (ForInStep.yield r)) (fun ok s₃=>
      if ok=true then wpAny (model prog w) A (eval elt env) (fun x s₄=>
       wpAny (model prog w) A (call (.builtin "list.append") [acc,x]) (fun _ s₅=>∃m,m<n/\I m s₅) (fun _ _=>False) s₄) (fun _ _=>False) s₃
      else ∃m,m<n/\I m s₃) (fun _ _=>False) s₂) (fun _ _=>False) s₁') (fun _ _=>False) s₁) (fun _ _=>False) s)
  (n:Nat) (h:I n s):codeAny (model prog w) A (.compLoop (.ListComp elt [⟨target,iter,ifs,0⟩] scope pos) 0 it acc env) R s:=by
 refine codeAny_loop rfl I (fun n s hI=>?_) n h;show wpAny _ A ((compTurn (.ListComp elt [⟨target,iter,ifs,0⟩] scope pos) 0 it acc env).onRaise (fun x=>do noteFrame x env;theTreesLotGoes x)) _ _ s;refine wpAny_noted ?_;rw[compTurn_list];have no:∀{E:Value->Shared->Prop},∀x s',(fun(_:Value) (_:Shared)=>False) x s'->E x s':=fun _ _ z=>z.elim
 refine qaA (wpAny_standAt (qaA (qaw (turn n s hI) (fun r s₁ h₁=>?_) no)));cases r with
 |none=>exact qaE h₁
 |some v=>
  refine qaA (qaw h₁ (fun _ s₁' h₁'=>?_) no);refine qaA (qaw h₁' (fun _ s₂ h₂=>qaA (qaw h₂ (fun ok s₃ h₃=>?_) no)) no);cases ok with
  |false=>exact qaE ⟨rfl,h₃⟩
  |true=>
   exact qaA (qaA (qaw h₃ (fun x s₄ h₄=>qaA (qaw h₄ (fun _ s₅ h₅=>qaE (qaE ⟨rfl,h₅⟩)) no)) no))
def tLC (σ0:St->St)(wi:TI)(g:Addr->Shared->Hp->List Addr->TG)(tt:Addr->Shared->Hp->List Addr->TT)(te:Addr->Shared->Hp->List Addr->TE):TE:=fun σ H Q=>wi σ H fun J H1=>∀D,H1 D=none->∃W:Nat->Nat->St->Hp->Prop,(∃m,W 0 m (σ0 σ) (upd H1 D (.lst [])))/\∀i m σ H,W i m σ H->
 (J.stop i H /\ Q (.ref D) H) \/ (J.go i H /\ ∀ C s₀ H₀ fp x H', J.yld i H x H' -> g C s₀ H₀ fp x σ H' fun σ2 H2 => tt C s₀ H₀ fp σ2 H2 fun ok H3 => if ok = true then te C s₀ H₀ fp σ2 H3 fun v H4 => ∃ xs, H4 D = some (.lst xs) /\ xs.length < sizeLine /\ ∃ m', m' < m /\ W (i + 1) m' σ2 (upd H4 D (.lst (xs ++ [v])))
  else ∃m',m'<m/\W (i+1) m' σ2 H3)
section
variable {X:Cx} {elt iter tg:Expr} {ifs:List Expr} {scope:Scope} {pos:Pos} {N:List Str} {σ0:St->St} {wi:TI} {g:Addr->Shared->Hp->List Addr->TG} {tt:Addr->Shared->Hp->List Addr->TT} {te:Addr->Shared->Hp->List Addr->TE}
structure Cap (X:Cx) (scope:Scope) (N:List Str) (σ0:St->St):Prop where
 len:∀σ,(σ0 σ).length=N.length
 src:∀(σ:St) (i:Nat) (x:Str) (v:V),N[i]? =some x->(σ0 σ)[i]? =some (some v)->(x,NameKind.free)∈scope.names/\∃j:Nat,X.N[j]? =some x/\σ[j]? =some (some v)
 loc:∀(σ:St) (i:Nat) (x:Str) (v:V),N[i]? =some x->(σ0 σ)[i]? =some (some v)->¬(relabel scope X.env).names.lookup x=some .local
theorem zn7 {E:Value->Shared->Prop}(hc:X.calm=true)(b:BlkOk X scope)(cap:Cap X scope N σ0)(hi:PI X tg iter wi)(hg:∀C s H fp,PG (cxC X N scope C s H fp) tg (g C s H fp))(ht:∀C s H fp,PTs (cxC X N scope C s H fp) ifs (tt C s H fp))(he:∀C s H fp,PE (cxC X N scope C s H fp) elt (te C s H fp))
  {pins:List (Addr×Obj)} {s:Shared} {σ:St} {H:Hp} {Q:VK} (I:Inv X pins σ H s) (h:tLC σ0 wi g tt te σ H Q) {QQ:Value->Shared->Prop} {p0:Pos}
  (hs:∀x,foldedSetIterable iter X.env x=pure x)
  (fin : match use with
   |none=>∀u s',EP X pins σ Q u s'->QQ u s'
   |some f=>∀(D:Addr) (fp:List Addr) (C:Addr) (H1 H':Hp) (σc:St) (s1 s':Shared),Inv X pins σ H1 s1->(∀b∈fp,FpOk X pins H1 b)->C=s1.heap.objs.size->Inv (cxC X N scope C s1 H1 fp) [] σc H' s'->Q (.ref D) H'->
     wpAny (model X.prog X.w) X.A (f (.ref D)) (fun _ s''=>∃m,s''.heap.Ns C m/\∀h',Heap.SameBut C s''.heap h'->QQ .none {s'' with heap:=h'}) X.xe s'):
  wpAny (model X.prog X.w) X.A (comprehension (.ListComp elt [⟨tg,iter,ifs,0⟩] scope pos) scope X.env p0 (newList []) false (eval iter X.env) use) QQ X.xe s:=by
 refine wpAny_comprehension_free (cl:=clOf scope X.env) (g:=⟨tg,iter,ifs,0⟩) (gs:=[]) rfl hs (znJ (ziy I b)) b.kind (fun x hx hl=>hl ▸ b.uniq x hx) ?_;refine thn (hi pins s σ H _ I h) fun v s1 h1=>thn h1 fun itv s2 h2=>?_
 obtain⟨it,fp,tn,J,H2,e,I2,T,st2,f2,h3⟩:=h2;subst e;refine qbn ?_ (by show(0:Nat)<=sizeLine;exact qaV _);have hD:H2 s2.heap.objs.size=none:=I2.fresh;obtain⟨W,⟨m0,w0⟩,turn⟩:=h3 _ hD;have I3:Inv X pins σ (upd H2 s2.heap.objs.size (.lst [])) {s2 with heap:=s2.heap.push {cls:= .type "list",data:= .seq ([]:List Value).toArray}}:=I2.lnew (t':=s2.toks) .nil (qaV _);have f3:∀b∈fp,FpOk X pins (upd H2 s2.heap.objs.size (.lst [])) b:=fun b hb=>by
  obtain⟨a1,a2⟩:=f2 b hb;obtain⟨o,ho,_⟩:=T.obj _ _ st2 b hb;exact⟨by rw[zam (qag (qad ho))];exact a1,a2⟩
 have st3:tn 0 (s2.heap.push {cls:= .type "list",data:= .seq ([]:List Value).toArray}):=T.keep _ _ _ st2 fun b hb o e=>qaF _ e
 generalize hs3:({s2 with heap:=s2.heap.push {cls:= .type "list",data:= .seq ([]:List Value).toArray}}:Shared)=s3 at I3
 have hs3':s3.heap=s2.heap.push {cls:= .type "list",data:= .seq ([]:List Value).toArray}:=by rw[<-hs3]
 rw[<-hs3']at st3;have hfs:∀b∈fp,b<s3.heap.objs.size:=fun b hb=>by
  obtain⟨o,ho,_⟩:=T.obj _ _ st3 b hb;exact qad ho
 show wpAny _ _ (newFunctionEnv scope X.env.globals (clOf scope X.env) [] X.env.qual none .none (some X.env)) _ _ s3;refine zlL fun h' hns hk hcl=>?_
 have hcl:=hcl fun x c e=>I3.cell x c (zgA I3 b e)
 generalize hDD:s2.heap.objs.size=DD at*
 have B0:Inv (cxC X N scope s3.heap.objs.size s3 (upd H2 DD (.lst [])) fp) [] (σ0 σ) (upd H2 DD (.lst [])) {s3 with heap:=h'}:=
  zoG (tk:=s3.toks) I3 b f3 hfs hns hk hcl (cap.len σ) (cap.src σ) (cap.loc σ)
 have stat:∀{H':Hp},(∀b∈fp,H' b=none)->∀b∈fp,FpOk (cxC X N scope s3.heap.objs.size s3 (upd H2 DD (.lst [])) fp) [] H' b:=fun hn b' hb=>by
  refine⟨hn b' hb,qag (hfs b' hb),fun z=>?_,.inl hb,fun x c e=>?_,fun p hp=>absurd (show p∈([]:List (Addr×Obj))from hp) (by simp)⟩
  ·rcases qaq.mp (I3.stkSub b' z)with w|w
   ·exact(f3 b' hb).2.1 w
   ·exact(f3 b' hb).2.2.1 w
  ·intro z;rcases zhs I3 b e with q|q
   ·exact Nat.lt_asymm q (z ▸ hfs b' hb)
   ·exact(f3 b' hb).2.2.2.2.1 x c q z
 have tn0:tn 0 h':=T.keep _ _ _ st3 fun b' hb o e=>hk b' o e
 have post:∀(s':Shared) (σc:St) (H':Hp),Inv (cxC X N scope s3.heap.objs.size s3 (upd H2 DD (.lst [])) fp) [] σc H' s'->Q (.ref DD) H'->compPost (model X.prog X.w) X.A X.xe use QQ (.ref DD) s3.heap.objs.size (.ok .next) s':=fun s' σc H' J' q=>by
  cases use with
  |none=>
   obtain⟨m,hn,_⟩:=J'.loc;exact⟨m,hn,fun h'' hs''=>fin _ _ ⟨.ref DD,H',znR I3 f3 J' hs'',rfl,q⟩⟩
  |some f=>exact fin DD fp _ _ H' σc s3 s' I3 f3 rfl J' q
 have loop:codeAny (model X.prog X.w) X.A (.compLoop (.ListComp elt [⟨tg,iter,ifs,0⟩] scope pos) 0 (.ref it) (.ref DD) (compEnvC scope (clC scope X.env s3.heap.objs.size) s3.heap.objs.size X.env)) (compPost (model X.prog X.w) X.A X.xe use QQ (.ref DD) s3.heap.objs.size) {s3 with heap:=h'}:=by
  refine zlw (fun n s'=>∃i σ' H',Inv (cxC X N scope s3.heap.objs.size s3 (upd H2 DD (.lst [])) fp) [] σ' H' s'/\tn i s'.heap/\(∀b∈fp,H' b=none)/\W i n σ' H') ?_ m0 ⟨0,σ0 σ,_,B0,tn0,fun b' hb=>(f3 b' hb).1,w0⟩;rintro n s5 ⟨i,σ5,H5,I5,st5,fr5,w5⟩;rcases turn i n σ5 H5 w5 with⟨stop,qn⟩|⟨go,step⟩
  ·refine thn (T.done (cxC X N scope s3.heap.objs.size s3 (upd H2 DD (.lst [])) fp) rfl rfl rfl hc i [] s5 σ5 H5 (fun _ _=>False) I5 (stat fr5) st5 stop) fun r s6 ⟨hr,I6⟩=>?_
   subst hr;exact post s6 σ5 H5 I6 qn
  ·refine thn (T.item (cxC X N scope s3.heap.objs.size s3 (upd H2 DD (.lst [])) fp) rfl rfl rfl hc i [] s5 σ5 H5 (fun _ _=>False) I5 (stat fr5) st5 go) fun r s6 ⟨u,hr,h6⟩=>?_
   subst hr;refine thn h6 fun _ s7 ⟨x,H7,I7,r7,y7,st7,fr7⟩=>?_
   have I7':=I7.pinned (stat fr7) (T.obj _ _ st7);have again:∀{σ8:St} {H8:Hp} {s8:Shared} {m':Nat},Inv (cxC X N scope s3.heap.objs.size s3 (upd H2 DD (.lst [])) fp) ([]++zkP fp s7.heap) σ8 H8 s8->m'<n->W (i+1) m' σ8 H8->
     ∃m,m<n/\∃i σ' H',Inv (cxC X N scope s3.heap.objs.size s3 (upd H2 DD (.lst [])) fp) [] σ' H' s8/\tn i s8.heap/\(∀b∈fp,H' b=none)/\W i m σ' H':=fun{σ8 H8 s8 m'} I8 hm w8=>by
    refine⟨m',hm,i+1,σ8,H8,I8.unpinned,T.keep _ _ _ st7 fun b' hb o e=>(I8.pin (b',o) (qaJ _ (qaJ _ (zfy hb e)))).1,fun b' hb=>?_,w8⟩;obtain⟨o,e,d⟩:=T.obj _ _ st7 b' hb;exact(I8.pin (b',o) (qaJ _ (qaJ _ (zfy hb e)))).2.1
   refine thn (hg _ _ _ _ _ s7 σ5 H7 x u _ I7' r7 (step _ _ _ _ x H7 y7)) fun _ s8 ⟨σ8,H8,I8,q8⟩=>?_
   refine thn (ht _ _ _ _ _ s8 σ8 H8 _ I8 q8) fun ok s9 ⟨H9,I9,q9⟩=>?_
   cases ok with
   |false=>
    obtain⟨m',hm,w9⟩:=q9;exact again I9 hm w9
   |true=>
    refine thn (he _ _ _ _ _ s9 σ8 H9 _ I9 q9) fun u10 s10 ⟨v10,H10,I10,r10,xs,hx,hz,m',hm,w10⟩=>?_
    refine thn (zkX _ s10 σ8 H10 (.ref DD) [v10] (.ref DD) [u10] (fun v H'=>v= .non/\H'=upd H10 DD (.lst (xs++[v10]))) I10 rfl (.cons r10 .nil) ⟨DD,xs,v10,rfl,rfl,hx,hz,rfl,rfl⟩) fun _ s11 ⟨_,H11,I11,_,_,e11⟩=>?_
    subst e11;exact again I11 hm w10
 exact codeAny_compStart_list loop (T.self _ _ _ _ _ tn0 loop)
theorem pe_lc (hc:X.calm=true)(b:BlkOk X scope)(cap:Cap X scope N σ0)(hi:PI X tg iter wi)(hg:∀C s H fp,PG (cxC X N scope C s H fp) tg (g C s H fp))(ht:∀C s H fp,PTs (cxC X N scope C s H fp) ifs (tt C s H fp))(he:∀C s H fp,PE (cxC X N scope C s H fp) elt (te C s H fp))
    (hs:∀x,foldedSetIterable iter X.env x=pure x:=by exact fun _=>rfl):PE X (.ListComp elt [⟨tg,iter,ifs,0⟩] scope pos) (tLC σ0 wi g tt te):=by
  intro pins s σ H Q I h;rw[eval_ListComp];exact zn7 (use:=none) (E:=X.xe) hc b cap hi hg ht he I h hs (fun u s' q=>q)
end
def zdb (ρ:R):Bool:=ρ.all fun s=>match s with
 | .own _=>false
 | .par _=>false
 | .tre _=>false
 | .ptr _=>false
 |_=>true
theorem zjV (h:zdb ρ=true){a:Addr}(e:ρ[i]? =some s):¬OwS K G H ov a s:=fun w=>by
 unfold zdb at h;rw[qbV]at h;have:=h s (qa7 e);cases s with
 |emp=>exact w
 |two _ _=>exact w
 |val d=>exact w
 |_=>exact absurd (show false=true from this) qaD
theorem zfG (h:zdb ρ=true)(e:ρ[i]? =some s):(∀t,s≠ .tre t)/\∀t,s≠ .ptr t:=by
 unfold zdb at h;rw[qbV]at h;have:=h s (qa7 e)
 constructor
 ·rintro t rfl;exact absurd (show false=true from this) qaD
 ·rintro t rfl;exact absurd (show false=true from this) qaD
theorem zfA (h:zdb ρ=true):¬Wr ρ i:=fun⟨s,ds,e,q⟩=>by
 unfold zdb at h;rw[qbV]at h;have:=h s (qa7 e);cases s with
 |emp=>exact cNN q
 |two _ _=>exact cNN q
 |tre _=>exact cNN q
 |ptr _=>exact cNN q
 |val d=>exact cNN q
 |own d=>exact absurd (show false=true from this) qaD
 |par d=>exact absurd (show false=true from this) qaD
structure VS (K:W.Frag) (G:Hp) (σ:St) (ρ:R):Prop where
 len:σ.length=ρ.length
 no:zdb ρ=true
 val:∀(i:Nat) d,ρ[i]? =some (.val d)->∃v,σ[i]? =some (some v)/\RepD K G v d
theorem VS.si (h:VS K G σ ρ)(fz:Fz G H):SI K ⟨G,H,[]⟩ G H σ ρ where
 fz:=fz
 g0:=Fz.refl G
 new:=fun b o e=> .inl (by show G b≠none;rw[e];simp)
 keep:=fun b o e _=>e
 there:=fun b e=>e
 ob:=fun i b m=>by cases m
 len:=h.len
 slot:=fun i s e=>by
  cases s with
  |emp=>trivial
  |two _ _=>trivial
  |tre t=>exact absurd rfl ((zfG h.no e).1 t)
  |ptr t=>exact absurd rfl ((zfG h.no e).2 t)
  |val d=>exact h.val i d e
  |own ds=>exact absurd ⟨_,ds,e,rfl⟩ (zfA h.no (i:=i))
  |par ds=>exact absurd ⟨_,ds,e,rfl⟩ (zfA h.no (i:=i))
 dis:=fun i j s _ a _ e _ w=>absurd w (zjV h.no e)
theorem VS.of (I:SI K B G H σ ρ)(h:zdb ρ=true):VS K G σ ρ:=⟨I.len,h,fun i d e=>I.slot i _ e⟩
def fz1 (i:Nat)(ρ:R):R:=match ρ[i]? with
 |some (.own ds)=>ρ.set i (.val (.lst ds))
 |_=>ρ
def fzL:List Nat->R->R
 |[],ρ=>ρ
 |i::is,ρ=>fzL is (fz1 i ρ)
theorem SI.fz1 (I:SI K B G H σ ρ)(i:Nat):∃G',SI K B G' H σ (M.fz1 i ρ)/\Fz G G':=by
 unfold M.fz1;cases e:ρ[i]? with
 |none=>exact⟨G,I,Fz.refl G⟩
 |some s=>
  cases s with
  |own ds=>obtain⟨l,xs,_,f,_,I'⟩:=I.freeze e;exact⟨_,I',f⟩
  |emp=>exact⟨G,I,Fz.refl G⟩
  |two _ _=>exact⟨G,I,Fz.refl G⟩
  |tre _=>exact⟨G,I,Fz.refl G⟩
  |ptr _=>exact⟨G,I,Fz.refl G⟩
  |val _=>exact⟨G,I,Fz.refl G⟩
  |par _=>exact⟨G,I,Fz.refl G⟩
theorem SI.fzL:∀(is:List Nat) {G:Hp} {ρ:R},SI K B G H σ ρ->∃G',SI K B G' H σ (M.fzL is ρ)/\Fz G G'
 |[],G,ρ,I=>⟨G,I,Fz.refl G⟩
 |i::is,G,ρ,I=>by
  obtain⟨G1,I1,f1⟩:=I.fz1 i;obtain⟨G2,I2,f2⟩:=SI.fzL is I1;exact⟨G2,I2,f1.trans f2⟩
def capS (ρ:R)(i:Nat):Sl:=match ρ[i]? with
 |some (.val d)=> .val d
 |_=> .emp
theorem znx (ρ:R)(i:Nat):capS ρ i= .emp\/∃d,capS ρ i= .val d:=by
 unfold capS
 split
 ·exact .inr ⟨_,rfl⟩
 ·exact .inl rfl
def capR (cap:List Nat)(t:Nat)(ρ:R):R:=cap.map (capS ρ)++List.replicate t .emp
def capσ (cap:List Nat)(t:Nat)(σ:St):St:=cap.map (fun i=>(σ[i]?).join)++List.replicate t none
theorem zpc (I:SI K B G H σ ρ)(cap:List Nat)(t:Nat):VS K G (capσ cap t σ) (capR cap t ρ) where
 len:=by unfold capσ capR;simp
 no:=by
  unfold zdb capR;rw[qbV];intro s hs;rcases qar.mp hs with h|h
  ·obtain⟨i,_,rfl⟩:=qbW.mp h;rcases znx ρ i with e|⟨d,e⟩
   ·rw[e]
   ·rw[e]
  ·rw[List.eq_of_mem_replicate h]
 val:=fun i d e=>by
  unfold capR at e
  by_cases hi:i<cap.length
  ·rw[qa4 (by simpa using hi),qa5,qbG hi]at e;have e':capS ρ cap[i]= .val d:=by simpa using e
   unfold capS at e'
   split at e'
   ·rename_i d' q;cases e';obtain⟨v,h1,h2⟩:=I.slot _ _ q;refine⟨v,?_,h2⟩;unfold capσ;rw[qa4 (by simpa using hi),qa5,qbG hi];simp[h1]
   ·cases e'
  ·rw[qa2 (by simpa using hi),qa3]at e
   split at e
   ·cases e
   ·exact cNN e
def zdA (f:D->R->Option (Option D×R)):List D->R->Option (List D×R)
 |[],ρ=>some ([],ρ)
 |d::ds,ρ=>(f d ρ).bind fun p=>(zdA f ds p.2).map fun q=>(p.1.toList++q.1,q.2)
def turnM (g:D->R->Option R)(mt:MT)(me:ME):D->R->Option (Option D×R):=fun d ρ=>(g d ρ).bind fun ρ1=>(mt ρ1).bind fun p=>if p.1 then(me p.2).bind fun q=>if zdb q.2 then some (some q.1,q.2)else none else if zdb p.2 then some (none,p.2)else none
def oLC (cap:List Nat)(t:Nat)(mi:MA)(g:D->R->Option R)(mt:MT)(me:ME):MO:=fun ρ=>(mi ρ).bind fun p=>if p.1.length<=16777216 then(zdA (turnM g mt me) p.1 (capR cap t (fzL cap p.2))).map fun q=>(q.1,fzL cap p.2)else none
def STsb (X:Cx)(ifs:List Expr)(m:MT)(t:TT):Prop:=∀B G H σ ρ d ρ' (Q:Bool->Hp->Prop),SI X.K B G H σ ρ->m ρ=some (d,ρ')->(∀G' H',SI X.K B G' H' σ ρ'->Fz G G'->Q d H')->t σ H Q
def STs (X:Cx)(ifs:List Expr)(m:MT):Prop:=∃t,PTs X ifs t/\STsb X ifs m t
def zbB:MT:=fun ρ=>some (true,ρ)
theorem zaC:STs X [] zbB:=⟨_,pts_nil,fun B G H σ ρ d ρ' Q I hm k=>by obtain⟨rfl,rfl⟩:=cSp hm;exact k G H I (Fz.refl G)⟩
theorem zfd {c:Expr}{m:MT}(h:STt X c m):STs X [c] m:=h.el fun t p s=>⟨t,pts_one p,s⟩
def blkB (env:Env)(scope:Scope):Bool:=(scope.names.all fun x=>scope.names.lookup x.1==some x.2&&(x.2 != .free||(env.kindOf x.1==some .cell||env.kindOf x.1==some .free)))
theorem zkt (hk:scope.kind= .function)(h:blkB X.env scope=true):BlkOk X scope:=by
 unfold blkB at h;rw[qbV]at h;refine⟨hk,fun x hx=>?_,fun x hx hf=>?_⟩
 ·have:=h x hx;simp only[qbm,Bool.or_eq_true,qbI,qaP]at this;exact this.1
 ·have:=h x hx;simp only[qbm,Bool.or_eq_true,qbI,qaP]at this;exact(this.2).resolve_left (fun z=>z hf)
def capB (names:List (Str×NameKind))(N XN:List Str)(cap:List Nat)(t:Nat):Bool:=N.length==cap.length+t&&(cap.zip N).all fun p=>XN[p.1]? ==some p.2&&names.lookup p.2==some .free
theorem zli (h:capB scope.names N X.N cap t=true):Cap X scope N (capσ cap t):=by
 unfold capB at h;rw[qbm,qbV]at h;obtain⟨hl,h⟩:=h;have hl:N.length=cap.length+t:=by simpa using hl
 have key:∀(σ:St) (i:Nat) (x:Str) (v:V),N[i]? =some x->(capσ cap t σ)[i]? =some (some v)->∃j,cap[i]? =some j/\σ[j]? =some (some v)/\X.N[j]? =some x/\scope.names.lookup x=some .free:=fun σ i x v h1 h2=>by
  unfold capσ at h2
  by_cases hi:i<cap.length
  ·rw[qa4 (by simpa using hi),qa5,qbG hi]at h2;have h3:(σ[cap[i]]?).join=some v:=by simpa using h2
   have hz:(cap[i],x)∈cap.zip N:=by
    refine qa7 (i:=i) ?_;rw[qbX];exact⟨qbG hi,h1⟩
   have:=h _ hz;simp only[qbm,qaP]at this;refine⟨cap[i],qbG hi,?_,this.1,this.2⟩;cases q:σ[cap[i]]? with
   |none=>rw[q]at h3;exact cNN h3
   |some o=>rw[q]at h3;rw[show o=some v from h3]
  ·rw[qa2 (by simpa using hi),qa3]at h2
   split at h2<;>cases h2
 refine⟨fun σ=>by unfold capσ;simp[hl],fun σ i x v h1 h2=>?_,fun σ i x v h1 h2 z=>?_⟩
 ·obtain⟨j,_,a,b,c⟩:=key σ i x v h1 h2;exact⟨zfD c,j,b,a⟩
 ·obtain⟨j,_,a,b,c⟩:=key σ i x v h1 h2;have e:(relabel scope X.env).names.lookup x=(scope.names.lookup x).map fun k=>if(k==NameKind.free&&X.env.scope.kind== .function&&X.env.kindOf x==some .cell)then NameKind.cell else k:=zdx
  rw[e,c]at z;simp only[qbC,Option.some.injEq]at z
  split at z<;>cases z
def turnG (ok:R->Bool)(g:D->R->Option R)(mt:MT)(me:ME):D->R->Option (Option D×R):=fun d ρ=>(g d ρ).bind fun ρ1=>(mt ρ1).bind fun p=>if p.1 then(me p.2).bind fun q=>if ok q.2 then some (some q.1,q.2)else none else if ok p.2 then some (none,p.2)else none
theorem cSp2 {α β:Type}{a c:α}{b d:β}(h:some (a,b)=some (c,d))(k:a=c->b=d->C):C:=k (cSp h).1 (cSp h).2
theorem turnG_el {ok:R->Bool}{mt:MT}{me:ME}(h:turnG ok g mt me d ρ=some (o,ρ'))(k:∀ρ1 b ρ2,g d ρ=some ρ1->mt ρ1=some (b,ρ2)->((b=true/\∃dv,me ρ2=some (dv,ρ')/\o=some dv)\/(b=false/\o=none/\ρ2=ρ'))->ok ρ'=true->C):C:=by
 unfold turnG at h;refine cBel h fun ρ1 e1 h=>zaz h fun b ρ2 e2 h=>?_
 cases b with
 |true=>exact zaz h fun dv ρ3 e3 h=>cIte h fun z h=>cSp2 h fun q1 q2=>by subst q2;exact k ρ1 _ ρ2 e1 e2 (.inl ⟨rfl,dv,e3,q1.symm⟩) z
 |false=>exact cIte h fun z h=>cSp2 h fun q1 q2=>by subst q2;exact k ρ1 _ ρ2 e1 e2 (.inr ⟨rfl,q1.symm,rfl⟩) z
theorem znN {d:D}(h:zdA f (d::ds) ρ=some (out,ρ'))(k:∀o ρ1 rest,f d ρ=some (o,ρ1)->zdA f ds ρ1=some (rest,ρ')->out=o.toList++rest->C):C:=by
 simp only[zdA]at h;exact zaz h fun o ρ1 e1 h=>zeR h fun rest ρ2 e2 h=>by
  obtain⟨rfl,rfl⟩:=Prod.mk.inj h;exact k o ρ1 rest e1 e2 rfl
structure LcG (K:W.Frag) (O:List (Nat×Addr)) (G2 H1:Hp) (DD:Addr) (Hc Gc:Hp) (xs:List V):Prop where
 fc:Fz G2 Gc
 fcH:Fz Gc Hc
 nw:∀b o,Gc b=some o->G2 b≠none\/H1 b=none
 kp:∀b o,(∀i,(i,b)∉O)->H1 b=some o->Hc b=some o
 gD:Gc DD=none
 hDc:Hc DD=some (.lst xs)
theorem none_of {b:Addr}(h:∀o,H b=some o->False):H b=none:=by
 cases q:H b with
 |none=>rfl
 |some u=>exact(h u q).elim
theorem LcG.next {G2 H1:Hp}(J:LcG K O G2 H1 DD Hc Gc xs)(hO:∀i,(i,DD)∉O){σ':St}(I:SI K ⟨Gc,Hc,O⟩ G' H' σ' ρ'):LcG K O G2 H1 DD H' G' xs where
 fc:=J.fc.trans I.g0
 fcH:=I.fz
 nw:=fun b o e=>(I.new b o e).elim (fun h=>by
  cases q:Gc b with
  |none=>exact absurd q h
  |some u=>exact J.nw b u q) fun h=> .inr (none_of fun u q=>Classical.byCases (p:=∀i,(i,b)∉O) (fun n=>cNN ((show Hc b=none from h).symm.trans (J.kp b u n q))) fun n=>n fun i m=>I.ob i b m h)
 kp:=fun b o n e=>I.keep b o (J.kp b o n e) n
 gD:=none_of fun u q=>(I.new DD u q).elim (fun h=>h J.gD) fun h=>cNN ((show Hc DD=none from h).symm.trans J.hDc)
 hDc:=I.keep DD _ J.hDc hO
theorem LcG.put {G2 H1:Hp}(J:LcG K O G2 H1 DD Hc Gc xs)(hD:H1 DD=none)(ys:List V):LcG K O G2 H1 DD (upd Hc DD (.lst ys)) Gc ys where
 fc:=J.fc
 fcH:=J.fcH.right J.gD _
 nw:=J.nw
 kp:=fun b o n e=>(zam (zaI e hD)).trans (J.kp b o n e)
 gD:=J.gD
 hDc:=zaq
section
variable {X:Cx} {elt iter tg:Expr} {ifs:List Expr} {scope:Scope} {pos:Pos} {N:List Str} {cap:List Nat} {t:Nat} {mi:MA} {g:D->R->Option R} {mt:MT} {me:ME}
structure LcB (X:Cx) (scope:Scope) (N:List Str) (elt tg:Expr) (ifs:List Expr) (g:D->R->Option R) (mt:MT) (me:ME) (tg':Addr->Shared->Hp->List Addr->TG) (tt:Addr->Shared->Hp->List Addr->TT) (te:Addr->Shared->Hp->List Addr->TE):Prop where
 sg:∀C s H fp,SGb (cxC X N scope C s H fp) tg g (tg' C s H fp)
 st:∀C s H fp,STsb (cxC X N scope C s H fp) ifs mt (tt C s H fp)
 se:∀C s H fp,SEb (cxC X N scope C s H fp) elt me (te C s H fp)
def LcW (σs:St)(J:It)(DD:Addr)(H1:Hp)(tg':Addr->Shared->Hp->List Addr->TG)(tt:Addr->Shared->Hp->List Addr->TT)(te:Addr->Shared->Hp->List Addr->TE)(Q:VK):Prop:=∃W:Nat->Nat->St->Hp->Prop,(∃m,W 0 m σs (upd H1 DD (.lst [])))/\∀i m σ H,W i m σ H->
 (J.stop i H /\ Q (.ref DD) H) \/ (J.go i H /\ ∀ C s₀ H₀ fp x H', J.yld i H x H' -> tg' C s₀ H₀ fp x σ H' fun σ2 H2 => tt C s₀ H₀ fp σ2 H2 fun ok H3 => if ok = true then te C s₀ H₀ fp σ2 H3 fun v H4 => ∃ xs, H4 DD = some (.lst xs) /\ xs.length < sizeLine /\ ∃ m', m' < m /\ W (i + 1) m' σ2 (upd H4 DD (.lst (xs ++ [v])))
  else ∃m',m'<m/\W (i+1) m' σ2 H3)
theorem ziL (blk:LcB X scope N elt tg ifs g mt me tg' tt te){ok:R->Bool}{items all:List D}{ρs ρf:R}{G1 G2 H1:Hp}{σs:St}{J:It}{Q:VK}
  (IT:Itm X.K J G1 items) (f2:Fz G1 G2) (fH:Fz G2 H1) (hD:H1 DD=none) (hlen:items.length<=16777216) (hO:∀i,(i,DD)∉O)
  (jsi:∀G H σ ρ,JJ G H σ ρ->Fz G H->SI X.K ⟨G,H,O⟩ G H σ ρ) (joi:∀Gb Hb G H σ ρ,SI X.K ⟨Gb,Hb,O⟩ G H σ ρ->ok ρ=true->JJ G H σ ρ) (jup:∀G H σ ρ xs,JJ G H σ ρ->JJ G (upd H DD (.lst xs)) σ ρ)
  (j0:JJ G2 H1 σs ρs) (e2:zdA (turnG ok g mt me) items ρs=some (all,ρf))
  (k:∀Gc Hc σc xs,LcG X.K O G2 H1 DD Hc Gc xs->RepL X.K Gc xs all->JJ Gc Hc σc ρf->Q (.ref DD) Hc):LcW σs J DD H1 tg' tt te Q:=by
 refine⟨fun i m σc Hc=>m=items.length-i/\i<=items.length/\∃Gc ρc acc xs rest,LcG X.K O G2 H1 DD Hc Gc xs/\RepL X.K Gc xs acc/\xs.length<=i/\JJ Gc Hc σc ρc/\zdA (turnG ok g mt me) (items.drop i) ρc=some (rest,ρf)/\all=acc++rest,
  ⟨items.length,rfl,qaV _,G2,ρs,[],[],all,⟨Fz.refl _,fH.right (fH.free hD) _,fun b o e=> .inl (by rw[e];exact nofun),fun b o _ e=>(zam (zaI e hD)).trans e,fH.free hD,zaq⟩,.nil,qaH _,jup _ _ _ _ _ j0,e2,rfl⟩,?_⟩
 rintro i m σc Hc ⟨rfl,hi,Gc,ρc,acc,xs,rest,J0,ra,hx,jj,ec,eall⟩
 by_cases hlt:i<items.length
 ·refine .inr ⟨IT.go Hc i (f2.trans (J0.fc.trans J0.fcH)) hlt,fun C s₀ H₀ fp x H' y=>?_⟩;rw[List.drop_eq_getElem_cons hlt]at ec;refine znN ec fun o ρ3 rest2 h3 h4 er=>turnG_el h3 fun ρ5 b ρ6 h5 h6 hb hok=>?_
  have f3':Fz G1 Gc:=f2.trans J0.fc;have yy2:(H'=Hc/\RepD X.K Gc x items[i])\/∃p xs es,Hc p=none/\H'=upd Hc p (.tup xs)/\x= .ref p/\items[i]= .tup es/\RepL X.K Gc xs es:=(IT.yld Hc i x H' (f3'.trans J0.fcH) y items[i] (qbG hlt)).imp (fun q=>⟨q.1,q.2.mono f3'⟩) fun⟨p,xs,es,a,b,c,d,e⟩=>⟨p,xs,es,a,b,c,d,e.mono f3'⟩
  obtain⟨G3,I3,f3,r3⟩:=(jsi _ _ _ _ jj J0.fcH).yld yy2;refine blk.sg C s₀ H₀ fp _ G3 H' σc ρc x items[i] ρ5 _ I3 r3 h5 fun G4 H4 σ4 I4 f4=>blk.st C s₀ H₀ fp _ G4 H4 σ4 ρ5 b ρ6 _ I4 h6 fun G5 H5 I5 f5=>?_
  have hlt2:items.length-(i+1)<items.length-i:=by lia
  rcases hb with⟨rfl,dv,h7,rfl⟩|⟨rfl,rfl,rfl⟩
  ·refine blk.se C s₀ H₀ fp _ G5 H5 σ4 ρ6 dv _ _ I5 h7 fun G6 H6 v I6 f6 r6=>?_
   have J1:=J0.next hO I6;exact⟨xs,J1.hDc,by rw[qaL];lia,_,hlt2,rfl,hlt,G6,_,acc++[dv],xs++[v],rest2,J1.put hD _,(ra.mono I6.g0).snoc r6,by rw[qa8,List.length_singleton];lia,jup _ _ _ _ _ (joi _ _ _ _ _ _ I6 hok),h4,by rw[eall,er,qbv];rfl⟩
  ·exact⟨_,hlt2,rfl,hlt,G5,_,acc,xs,rest2,J0.next hO I5,ra.mono I5.g0,by lia,joi _ _ _ _ _ _ I5 hok,h4,by rw[eall,er];rfl⟩
 ·have e:i=items.length:=by lia
  subst e;rw[List.drop_length]at ec;have hr:=cSp ec;obtain⟨q1,q2⟩:=hr;subst q1 q2;rw[qaW]at eall;subst eall;exact .inl ⟨IT.stop Hc _ (f2.trans (J0.fc.trans J0.fcH)) (qaH _),k Gc Hc σc xs J0 ra jj⟩
theorem zjX (si:SItb X tg iter mi wi)(blk:LcB X scope N elt tg ifs g mt me tg' tt te):
  ∀B G H σ ρ ds ρ' (Q:VK),SI X.K B G H σ ρ->oLC cap t mi g mt me ρ=some (ds,ρ')->
   (∀G' H' l xs,SI X.K B G' H' σ ρ'->Fz G G'->G' l=none->H' l=some (.lst xs)->RepL X.K G' xs ds->B.H l=none->Nw X.K G' H' σ ρ' l->Q (.ref l) H')->tLC (capσ cap t) wi tg' tt te σ H Q:=fun B G H σ ρ ds ρ' Q I hm k=>
 zaz hm fun items ρ1 e1 hm=>si B G H σ ρ items ρ1 _ I e1 fun J G1 H1 I1 f1 IT DD hD=>cIte hm fun hlen hm=>zeR hm fun all ρf e2 e3=>by
  obtain⟨rfl,rfl⟩:=Prod.mk.inj e3;obtain⟨G2,I2,f2⟩:=SI.fzL cap I1;exact ziL blk (O:=[]) (JJ:=fun G _ σ ρ=>VS X.K G σ ρ) IT f2 I2.fz hD hlen (fun i m=>nomatch m) (fun G H σ ρ h f=>h.si f) (fun _ _ _ _ _ _ I h=>VS.of I h) (fun _ _ _ _ _ h=>h) (zpc I2 cap t) e2
   fun Gc Hc σc xs J ra _=>k Gc Hc DD xs (I2.grow J.fc J.fcH J.nw fun b o e=>J.kp b o nofun e) (f1.trans (f2.trans J.fc)) J.gD J.hDc ra (I2.there DD hD) (I2.own_ne hD J.nw fun b o e=>J.kp b o nofun e)
theorem LcB.mk' (hg:∀C s H fp,SG (cxC X N scope C s H fp) tg g)(ht:∀C s H fp,STs (cxC X N scope C s H fp) ifs mt)(he:∀C s H fp,SE (cxC X N scope C s H fp) elt me):LcB X scope N elt tg ifs g mt me (fun C s H fp=>(hg C s H fp).choose) (fun C s H fp=>(ht C s H fp).choose) (fun C s H fp=>(he C s H fp).choose):=⟨fun C s H fp=>(hg C s H fp).choose_spec.2,fun C s H fp=>(ht C s H fp).choose_spec.2,fun C s H fp=>(he C s H fp).choose_spec.2⟩
theorem zbT (cap:List Nat)(t:Nat)(N:List Str)(hc:X.calm=true)(hi:SIt X tg iter mi)(hg:∀C s H fp,SG (cxC X N scope C s H fp) tg g)(ht:∀C s H fp,STs (cxC X N scope C s H fp) ifs mt)(he:∀C s H fp,SE (cxC X N scope C s H fp) elt me)
    (hk:scope.kind= .function:=by rfl) (hb:blkB X.env scope=true:=by kernel_rfl) (hcap:capB scope.names N X.N cap t=true:=by kernel_rfl)
    (hs:∀x,foldedSetIterable iter X.env x=pure x:=by exact fun _=>rfl):SO X (.ListComp elt [⟨tg,iter,ifs,0⟩] scope pos) (oLC cap t mi g mt me):=by
  refine hi.el fun wi pi si=>?_
  exact⟨_,pe_lc hc (zkt hk hb) (zli hcap) pi (fun C s H fp=>(hg C s H fp).choose_spec.1) (fun C s H fp=>(ht C s H fp).choose_spec.1) (fun C s H fp=>(he C s H fp).choose_spec.1) hs,
    zjX si (.mk' hg ht he)⟩
end
section
variable {X:Cx} {elt iter tg:Expr} {ifs:List Expr} {scope:Scope} {pos lpos pos':Pos} {N:List Str} {cap:List Nat} {t:Nat} {mi:MA} {g:D->R->Option R} {mt:MT} {me:ME}
theorem zkl {σ0:St->St}(hN:X.N.Nodup)(hxi:X.N[i]? =some x)(hx:Loc X.env.scope x)(hf:X.fn x=true\/X.env.scope.names.lookup x=some .local)
  (hsw:swapsWith (.ListComp elt [⟨tg,iter,ifs,0⟩] scope lpos) (some (.Name x pos')) pos.line X.env=pure true) (hc:X.calm=true) (b:BlkOk X scope) (cap:Cap X scope N σ0) (hi:PI X tg iter wi) (hg:∀C s H fp,PG (cxC X N scope C s H fp) tg (tg' C s H fp)) (ht:∀C s H fp,PTs (cxC X N scope C s H fp) ifs (tt C s H fp)) (he:∀C s H fp,PE (cxC X N scope C s H fp) elt (te C s H fp))
  (hs:∀x,foldedSetIterable iter X.env x=pure x):PS X (.Assign [.Name x pos'] (.ListComp elt [⟨tg,iter,ifs,0⟩] scope lpos) pos) (fun E σ H=>tLC σ0 wi tg' tt te σ H fun v H'=>E.nx (σ.set i (some v)) H'):=by
 intro pins s σ H E I h;rw[exec_Assign_Name_used _ _ _ _ hsw];refine qaA (wpAny_standAt (qaA ?_));show wpAny _ _ (do let _<-comprehension (.ListComp elt [⟨tg,iter,ifs,0⟩] scope lpos) scope X.env _ (newList []) false (eval iter X.env) (some (assign (.Name x pos') X.env))) _ _ s;refine qaA (thn (zn7 (use:=some (assign (.Name x pos') X.env)) (QQ:=fun _ s'=>SP X pins E .next s') (E:=X.xe) hc b cap hi hg ht he I h hs ?_) fun _ s' hq=>qaE (qaE hq));intro D fp C H1 H' σc s1 s' I1 f1 eC J q;subst eC;have I2:Inv X pins σ H' s':=by
  have z:=znR (h':=s'.heap) I1 f1 J (Heap.SameBut.refl _ _);exact z
 obtain⟨m,⟨o,es,ep,ho,hd,hrest⟩,_⟩:=J.loc;have fpk:FpOk X pins H' s1.heap.objs.size:=I1.fpOk (qaH _) J.free;have I3:Inv X (pins++[(s1.heap.objs.size,o)]) σ H' s':=I2.pins_of fun p hp=>by
  rcases qar.mp hp with hp|hp
  ·exact I2.pin p (qaJ _ hp)
  ·have e:p=(s1.heap.objs.size,o):=by simpa using hp
   subst e;exact⟨ho,fpk.1,fpk.2.1,fpk.2.2.1,fun v z=>by rw[hd]at z;cases z⟩
 refine thn (zo0 hN hxi hx hf (pins++[(s1.heap.objs.size,o)]) s' σ H' (.ref D) (.ref D) (fun σ2 H2=>E.nx σ2 H2) I3 rfl q) fun _ s'' ⟨σ2,H2,I4,q4⟩=>?_
 have pC:=I4.pin (s1.heap.objs.size,o) (qaJ _ (qaJ _ (by simp)));refine⟨m,⟨o,es,ep,pC.1,hd,hrest⟩,fun h' hs'=>?_⟩;have I5:Inv X pins σ2 H2 s'':=I4.unpinned;have fp2:FpOk X pins H2 s1.heap.objs.size:=I1.fpOk (qaH _) pC.2.1;have I6:=I5.turned (t':=s''.toks) (h':=h') (it:=s1.heap.objs.size) (fun b' o' hb e=>hs'.extBut b' o' hb e) fp2.1 fp2.2.1 fp2.2.2.2.1 fp2.2.2.2.2.1 fp2.2.2.2.2.2;exact⟨σ2,H2,I6,q4⟩
end
section
variable {X:Cx} {pins:List (Addr×Obj)} {σ:St} {H:Hp} {s:Shared}
theorem zgF {A:Around}(hh:A.handled=none)(I:Inv X pins σ H s)(hq:SqL X.K H p ys\/SqT X.K H p ys)
  (k : ∀ (its : List Value) (s₂ : Shared) (St : Nat -> Heap -> Prop), Vals ys its -> Walks X.prog X.w A s.heap.objs.size [s.heap.objs.size, p] [s.heap.objs.size] its.length (fun i v => its[i]? = some v) St -> St 0 s₂.heap -> (∀ b ∈ [s.heap.objs.size, p], b < s₂.heap.objs.size) ->
   (∀h' tk,(∀b o,b∉[s.heap.objs.size]->s₂.heap.get? b=some o->h'.get? b=some o)->Inv X pins σ H {s₂ with heap:=h',toks:=tk})->Q (.ref s.heap.objs.size) s₂):wpAny (model X.prog X.w) A (pyIter (.ref p)) Q E s:=by
 have fin:∀(o:Obj),∀h' tk,(∀b o',b∉[s.heap.objs.size]->(s.heap.push o).get? b=some o'->h'.get? b=some o')->Inv X pins σ H {({s with heap:=s.heap.push o}:Shared)with heap:=h',toks:=tk}:=fun o h' tk hk=>by
  have z:=I.kept (h':=h') (t':=tk) fun b o' e=>hk b o' (by simpa using qag (qad e)) (qaF _ e)
  exact z
 rcases hq with hq|hq
 ·obtain⟨its,r,pl,hz⟩:=I.list hq;have hlt:p<s.heap.objs.size:=by obtain⟨_,_,e,_⟩:=pl;exact qad e
  refine wpAny_pyIter_list pl.isList (k its _ (fun i h=>h.IsListIter s.heap.objs.size p i/\h.IsList p its.toArray) r ?_ ⟨⟨_,qaG _ rfl,rfl,rfl⟩,pl.isList.push _⟩ (fun b hb=>?_) (fin _))
  ·have w:=Walks.list (prog:=X.prog) (w:=X.w) (A:=A) hh s.heap.objs.size p (qag hlt) its.toArray;simpa using w
  ·show b<(s.heap.push _).objs.size;rw[qaT];simp at hb;rcases hb with z|z
   ·rw[z];exact qaU _
   ·rw[z];exact qbS hlt
 ·obtain⟨its,r,pl,hz⟩:=I.tuple hq;have hlt:p<s.heap.objs.size:=pl.lt;refine qbL (show s.heap.IsTuple p its.toArray from pl) (k its _ (fun i h=>h.IsTupleIter s.heap.objs.size p i/\h.IsTuple p its.toArray) r ?_ ⟨⟨_,qaG _ rfl,rfl,rfl⟩,(show s.heap.IsTuple p its.toArray from pl).push _⟩ (fun b hb=>?_) (fin _))
  ·have w:=Walks.tuple (prog:=X.prog) (w:=X.w) (A:=A) hh s.heap.objs.size p (qag hlt) its.toArray;simpa using w
  ·show b<(s.heap.push _).objs.size;rw[qaT];simp at hb;rcases hb with z|z
   ·rw[z];exact qaU _
   ·rw[z];exact qbS hlt
end
theorem zjw (ns:List Int):∀j,preSum (fun i=>ns.getD i 0) j=(ns.take j).sum
 |0=>by simp[preSum]
 |j+1=>by
  rw[preSum,zjw ns j]
  by_cases h:j<ns.length
  ·rw[qbY h,List.sum_append];simp[h]
  ·rw[qbZ (by lia),qbZ (by lia)];simp[qb0 (by lia:ns.length<=j)]
theorem zke (r:Vals (ns.map V.int) its){v:Value}(e:its[i]? =some v):∃t,v= .int (ns.getD i 0) t:=by
 have hl:=r.length;have hi:i<its.length:=(qat.mp e).1;rw[qaS]at hl;have e2:(ns.map V.int)[i]? =some (.int ns[i]):=by rw[qa5,qbG (by lia)];rfl
 obtain⟨u,h1,t,h2⟩:=r.get e2;rw[e]at h1;cases h1;exact⟨t,by rw[h2];simp[show i<ns.length by lia]⟩
def rSum (K:W.Frag):List V->Hp->VK->Prop:=fun xs H Q=>∃(p:Addr) (ns:List Int),xs=[.ref p]/\(SqL K H p (ns.map V.int)\/SqT K H p (ns.map V.int))/\Q (.int ns.sum) H
theorem zpR (hc:X.calm=true):zeS X (.builtin "sum") (rSum X.K):=by
 intro pins s σ H xs us Q I r h;obtain⟨p,ns,rfl,hq,q⟩:=h;obtain⟨u,rfl,ru⟩:=ziI r;cases ru;refine call_sum_walkG (zgF (A:=X.A.in1) (I.ok.hd hc) I hq fun its s₂ St rv W st hfp fin=>?_);refine⟨_,_,_,_,_,_,fun i=>ns.getD i 0,rfl,W,st,hfp,fun i v e=>zke rv e,fun h' tk t' hk=>⟨.int ns.sum,H,fin h' tk hk,⟨t',?_⟩,q⟩⟩;have hl:=rv.length;rw[qaS]at hl;rw[zjw,<-hl,qbZ (qaH _)]
def za8:List D->Option (List Int)
 |[]=>some []
 | .int i::ds=>(za8 ds).map (i:: ·)
 |_=>none
theorem zeb:∀{ds:List D} {ns:List Int},za8 ds=some ns->ds=ns.map .int
 |[],ns,h=>by cases h;rfl
 |d::ds,ns,h=>by
  cases d<;>simp only[za8]at h<;>try exact cNN h
  refine cMel h fun ms e1 e2=>?_
  subst e2;rw[zeb e1];rfl
@[simp] theorem intsOf_map:∀(ns:List Int),za8 (ns.map .int)=some ns
 |[]=>rfl
 |n::ns=>by simp[za8,intsOf_map ns]
def dSum:List D->Option D
 |[d]=>(zbe [d]).bind fun ds=>(za8 ds).map fun ns=> .int ns.sum
 |_=>none
theorem zg4 (I:SI K B G H σ ρ){x:V}(r:RepD K G x d)(e:zbe [d]=some ds):∃p ys,x= .ref p/\(SqL K H p ys\/SqT K H p ys)/\RepL K G ys ds:=by
 cases d<;>simp only[zbe]at e<;>try cases e
 ·obtain⟨p,ys,ex,hp,q⟩:=I.lst r;exact⟨p,ys,ex,.inl (SqL.of hp),q⟩
 ·obtain⟨p,ys,ex,hp,q⟩:=I.tup r;exact⟨p,ys,ex,.inr (SqT.of hp),q⟩
 ·obtain⟨p,ex,hp⟩:=r;exact⟨p,_,ex,.inl (I.fz.sql hp),RepL.ints _⟩
theorem vc_sum:VC X (rSum X.K) dSum:=by
 intro B G H σ ρ xs ds d Q I r hf k
 match ds,hf with
 |[a],hf=>
  refine cBel hf fun es e1 hf=>?_
  refine cMel hf fun ns e2 e3=>?_
  subst e3;obtain⟨x,rfl,ra⟩:=r.one;obtain⟨p,ys,rfl,hq,ry⟩:=zg4 I ra e1;rw[zeb e2]at ry;rw[RepL.ints_eq ry]at hq;exact⟨p,ns,rfl,hq,k G H _ I (Fz.refl G) rfl⟩
 |[],hf=>exact cNN hf
 |_::_::_,hf=>exact cNN hf
theorem se_sum {p pos:Pos}(hc:X.calm=true)(ml:X.mg "sum"=none)(ha:SA X [e] ma)(hg:Gl X "sum":=by rfl)(he:starEach [e] X.env=(false,eval e X.env)::starEach [] X.env:=by rfl):SE X (.Call (.Name "sum" p) [e] [] pos) (mC dSum ma):=
 zcO (zpR hc) vc_sum (by decide+kernel) ml ha hg (by decide) (by decide) he rfl
def zej:List D->Option (List Bool)
 |[]=>some []
 | .bl b::ds=>(zej ds).map (b:: ·)
 |_=>none
theorem zjz:∀{ds:List D} {bs:List Bool},zej ds=some bs->ds=bs.map .bl
 |[],ns,h=>by cases h;rfl
 |d::ds,ns,h=>by
  cases d<;>simp only[zej]at h<;>try exact cNN h
  refine cMel h fun ms e1 e2=>?_
  subst e2;rw[zjz e1];rfl
@[simp] theorem boolsOf_map:∀(bs:List Bool),zej (bs.map .bl)=some bs
 |[]=>rfl
 |n::ns=>by simp[zej,boolsOf_map ns]
theorem RepL.bools_eq:∀{bs:List Bool} {xs:List V},RepL K G xs (bs.map D.bl)->xs=bs.map V.bl
 |[],_,e=>e
 |n::ns,_,⟨x,ys,e,q,r⟩=>by subst e;cases(show x=V.bl n from q);rw[RepL.bools_eq r];rfl
theorem zpk {bs:List Bool}(r:Vals (bs.map V.bl) its){v:Value}(e:its[i]? =some v):∃b,bs[i]? =some b/\v= .bool b:=by
 have hl:=r.length;have hi:i<its.length:=(qat.mp e).1;rw[qaS]at hl;have e2:(bs.map V.bl)[i]? =some (.bl bs[i]):=by rw[qa5,qbG (by lia)];rfl
 obtain⟨u,h1,h2⟩:=r.get e2;rw[e]at h1;cases h1;exact⟨bs[i],qbG (by lia),h2⟩
def rAll (K:W.Frag)(f:List Bool->Bool):List V->Hp->VK->Prop:=fun xs H Q=>∃(p:Addr) (bs:List Bool),xs=[.ref p]/\(SqL K H p (bs.map V.bl)\/SqT K H p (bs.map V.bl))/\Q (.bl (f bs)) H
theorem zoD (hc:X.calm=true):zeS X (.builtin "all") (rAll X.K fun bs=>bs.all id):=by
 intro pins s σ H xs us Q I r h;obtain⟨p,bs,rfl,hq,q⟩:=h;obtain⟨u,rfl,ru⟩:=ziI r;cases ru;refine call_all_walk (zgF (A:=X.A.in1) (I.ok.hd hc) I hq fun its s₂ St rv W st hfp fin=>?_);have hl:=rv.length;rw[qaS]at hl;refine⟨_,_,_,_,_,_,fun i=>(bs[i]?).getD true,rfl,W,st,fun i v s' Q' E' hP hQ=>?_,fun h' tk hk=>⟨.bl (bs.all id),H,fin h' tk hk,?_,q⟩⟩
 ·obtain⟨b,e,rfl⟩:=zpk rv hP;simp only[e,qbQ]at hQ;exact qax hQ
 ·rw[<-hl,LSm.range_all];rfl
def dAll (f:List Bool->Bool):List D->Option D
 |[d]=>(zbe [d]).bind fun ds=>(zej ds).map fun bs=> .bl (f bs)
 |_=>none
theorem vc_all (f:List Bool->Bool):VC X (rAll X.K f) (dAll f):=by
 intro B G H σ ρ xs ds d Q I r hf k
 match ds,hf with
 |[a],hf=>
  refine cBel hf fun es e1 hf=>?_
  refine cMel hf fun ns e2 e3=>?_
  subst e3;obtain⟨x,rfl,ra⟩:=r.one;obtain⟨p,ys,rfl,hq,ry⟩:=zg4 I ra e1;rw[zjz e2]at ry;rw[RepL.bools_eq ry]at hq;exact⟨p,ns,rfl,hq,k G H _ I (Fz.refl G) rfl⟩
 |[],hf=>exact cNN hf
 |_::_::_,hf=>exact cNN hf
theorem se_all {p pos:Pos}(hc:X.calm=true)(ml:X.mg "all"=none)(ha:SA X [e] ma)(hg:Gl X "all":=by rfl)(he:starEach [e] X.env=(false,eval e X.env)::starEach [] X.env:=by rfl):SE X (.Call (.Name "all" p) [e] [] pos) (mC (dAll fun bs=>bs.all id) ma):=
 zcO (zoD hc) (vc_all _) (by decide+kernel) ml ha hg (by decide) (by decide) he rfl
def d2I (g:Int->Int->Int):List D->Option D
 |[.int i,.int j]=>some (.int (g i j))
 |_=>none
theorem vc_2I (g:Int->Int->Int):VC X (fun xs H Q=>∃i j,xs=[.int i,.int j]/\Q (.int (g i j)) H) (d2I g):=by
 intro B G H σ ρ xs ds d Q I r hf k;unfold d2I at hf
 split at hf
 ·rename_i i j;cases hf;obtain⟨x,y,rfl,rx,ry⟩:=r.two;cases(show x=V.int i from rx);cases(show y=V.int j from ry);exact⟨i,j,rfl,k G H _ I (Fz.refl G) rfl⟩
 ·exact cNN hf
def max2 (i j:Int):Int:=if j>i then j else i
def min2 (i j:Int):Int:=if j<i then j else i
theorem se_max2 {p pos:Pos}(hc:X.calm=true)(ml:X.mg "max"=none)(ha:SA X [a,b] ma)(hg:Gl X "max":=by rfl)(he:starEach [a,b] X.env=(false,eval a X.env)::starEach [b] X.env:=by rfl)(hpl:(backTo pos (starEach [b] X.env)).any (·.1)=false:=by rfl):SE X (.Call (.Name "max" p) [a,b] [] pos) (mC (d2I max2) ma):=
 zcO (zoF hc) (vc_2I max2) (by decide+kernel) ml ha hg (by decide) (by decide) he hpl
theorem zok {p pos:Pos}(hc:X.calm=true)(ml:X.mg "min"=none)(ha:SA X [a,b] ma)(hg:Gl X "min":=by rfl)(he:starEach [a,b] X.env=(false,eval a X.env)::starEach [b] X.env:=by rfl)(hpl:(backTo pos (starEach [b] X.env)).any (·.1)=false:=by rfl):SE X (.Call (.Name "min" p) [a,b] [] pos) (mC (d2I min2) ma):=
 zcO (znY hc) (vc_2I min2) (by decide+kernel) ml ha hg (by decide) (by decide) he hpl
def abs1 (i:Int):Int:=if i<0 then-i else i
def dAbs:List D->Option D
 |[.int i]=>some (.int (abs1 i))
 |_=>none
theorem zkK {p pos:Pos}(ml:X.mg "abs"=none)(ha:SA X [a] ma)(hg:Gl X "abs":=by rfl)(he:starEach [a] X.env=(false,eval a X.env)::starEach [] X.env:=by rfl):SE X (.Call (.Name "abs" p) [a] [] pos) (mC dAbs ma):=
 zcO call_abs (fun B G H σ ρ xs ds d Q I r hf k=>by
  unfold dAbs at hf
  split at hf
  ·rename_i i;cases hf;obtain⟨x,rfl,rx⟩:=r.one;cases(show x=V.int i from rx);exact⟨i,rfl,k G H _ I (Fz.refl G) rfl⟩
  ·exact cNN hf) (by decide+kernel) ml ha hg (by decide) (by decide) he rfl
def isI (T:String):D->Bool
 | .non=>false
 | .bl _=>T=="bool"||T=="int"
 | .int _=>T=="int"
 | .str _=>T=="str"
 | .lst _=>T=="list"
 | .tup _=>T=="tuple"
 | .scr _=>T=="list"
 | .exc _=>false
 | .dic _ _=>false
 | .dit _ _=>false
 | .obj _ _ _ _ _=>false
def okT (T:String):Bool:=["int","bool","tuple","list","str"].contains T
def eIsI (T:String)(ma:ME):ME:=fun ρ=>(ma ρ).bind fun p=>if okT T&&noS1 p.1 then some (.bl (isI T p.1),p.2)else none
where noS1:D->Bool
 | .scr _=>false
 | .exc _=>false
 | .dic _ _=>false
 | .dit _ _=>false
 | .obj _ _ _ _ _=>false
 |_=>true
def cutD {α:Type}(xs:List α)(lo hi:Option Int):List α:=(xs.drop (HT.sIx xs.length 0 lo)).take (HT.sIx xs.length xs.length hi-HT.sIx xs.length 0 lo)
theorem RepL.cut (h:RepL K G xs ds)(lo hi:Option Int):RepL K G (cutV xs lo hi) (cutD ds lo hi):=by
 unfold cutV cutD;rw[h.length];exact(h.drop _).take _
section
variable {prog:Program} {w:World} {A:Around} {E:Value->Shared->Prop} {s:Shared}
theorem zga {t sl:Addr}{items:Array Value}{vl vu:Value}{lo hi:Option Int}(ht:IsTup s.heap t items)(hs:s.heap.IsSliceOf sl vl vu .none)(pl:IsPart vl lo)(pu:IsPart vu hi)
  (hw:HT.sIx items.size 0 lo=0/\HT.sIx items.size items.size hi=items.size) (h:Q (.ref t) s):wpAny (model prog w) A (getItem (.ref t) (.ref sl)) Q E s:=by
 obtain⟨os,hos,hcs,hds⟩:=id hs;have hTs:s.TypeIs (.ref sl) "slice":=⟨os,hos,hcs⟩;unfold getItem
 try with_reducible refine qaB ?_
 first|refine qaA (qaE ?_)|skip
 refine qaA (wpAny_sequenceKey ht.typeIs (by decide) ?_);refine qaA (qbj (name:=Str.ofString "__getitem__") ht.typeIs qbk
  (qbl qbk ht.typeIs entry_tuple_getitem ?_ (args_tuple_getitem _ _)))
 show wpAny _ _ (Builtin.Tuple.tupleItemsOf (.ref t)>>=_) _ _ s;refine qaA (tupleItemsOf_ ht ?_);refine qaA (wpAny_typeOf hTs ?_);rw[if_pos (by decide)];refine qaA (HT.zeO hs pl pu ?_);have hyes:(((HT.sIx items.size 0 lo:Nat):Int)==0&&(1:Int)==1&&(HT.sIx items.size items.size hi-HT.sIx items.size 0 lo)==items.size)=true:=by
  rw[hw.1,hw.2];simp
 show wpAny _ _ (if(((HT.sIx items.size 0 lo:Nat):Int)==0&&(1:Int)==1&&(HT.sIx items.size items.size hi-HT.sIx items.size 0 lo)==items.size)=true then _ else _) _ _ s;rw[if_pos hyes];refine qaA (m:=Builtin.Tuple.tupleIsExact _) ?_;unfold Builtin.Tuple.tupleIsExact;refine qaA (wpAny_typeOf ht.typeIs (qaE ?_));rw[if_pos (by decide)];refine qaA (wpAny_rule ?_);exact qaE ⟨_,rfl,qaE h⟩
end
def rSlTW (K:W.Frag):V->Option Int->Option Int->Hp->VK->Prop:=fun x lo hi H Q=>∃a xs,x= .ref a/\SqT K H a xs/\(HT.sIx xs.length 0 lo=0/\HT.sIx xs.length xs.length hi=xs.length)/\Q (.ref a) H
theorem sl_tupW:SlR X (rSlTW X.K):=by
 intro pins s σ H x v vl vu lo hi sl Q I rx hs pl pu h;obtain⟨a,xs,rfl,hx,hw,q⟩:=h;cases rx;obtain⟨its,r,ht,hz⟩:=I.tuple hx;have hlen:its.toArray.size=xs.length:=by rw[qaM];exact r.length.symm
 refine⟨"tuple",_,PyProof.Rows.slot_tuple_getitem.lookup,ht.typeIs,?_⟩;exact zga ht hs pl pu (by rw[hlen];exact hw) ⟨.ref a,H,I,rfl,q⟩
abbrev MP:=R->Option (Option Int×R)
def SPtb (X:Cx)(e:Option Expr)(m:MP)(t:TO):Prop:=∀B G H σ ρ o ρ' (Q:Option Int->Hp->Prop),SI X.K B G H σ ρ->m ρ=some (o,ρ')->(∀G' H',SI X.K B G' H' σ ρ'->Fz G G'->Q o H')->t σ H Q
def SPt (X:Cx)(e:Option Expr)(m:MP):Prop:=∃t,PO X e t/\SPtb X e m t
theorem SPt.el {e:Option Expr}{m:MP}(h:SPt X e m)(k:∀t,PO X e t->SPtb X e m t->C):C:=h.elim fun t q=>k t q.1 q.2
def pNo:MP:=fun ρ=>some (none,ρ)
def zhx (m:ME):MP:=fun ρ=>(m ρ).bind fun p=>match p.1 with
 | .int i=>some (some i,p.2)
 |_=>none
theorem zl8:SPt X none pNo:=⟨_,po_none,fun B G H σ ρ o ρ' Q I hm k=>by obtain⟨rfl,rfl⟩:=cSp hm;exact k G H I (Fz.refl G)⟩
theorem zc0 {m:ME}(h:SE X e m):SPt X (some e) (zhx m):=by
 refine h.el fun t p s=>?_
 refine⟨_,po_some p,fun B G H σ ρ o ρ' Q I hm k=>?_⟩;refine zaz hm fun d ρ1 e1 hm=>?_
 refine s B G H σ ρ d ρ1 _ I e1 fun G1 H1 v I1 f1 r1=>?_
 cases d<;>try cases hm
 rename_i i;exact⟨i,r1,k G1 H1 I1 f1⟩
def dCut (d:D)(lo hi:Option Int):Option D:=match d with
 | .lst ds=>some (.lst (cutD ds lo hi))
 | .tup ds=>some (.tup (cutD ds lo hi))
 | .scr ns=>some (.lst ((cutD ns lo hi).map .int))
 |_=>none
def eCut (ma:ME)(ml mh:MP):ME:=fun ρ=>(ma ρ).bind fun p=>(ml p.2).bind fun q=>(mh q.2).bind fun r=>(dCut p.1 q.1 r.1).map fun d=>(d,r.2)
theorem zph (ns:List Int)(lo hi:Option Int):cutV (ns.map V.int) lo hi=(cutD ns lo hi).map V.int:=by
 unfold cutV cutD;rw[qaS,<-List.map_drop,<-List.map_take]
theorem zgP {lo hi:Option Expr}{ma:ME}{ml mh:MP}{pos p2:Pos}(he:SE X e ma)(hl:SPt X lo ml)(hu:SPt X hi mh):SE X (.Subscript e (.Slice lo hi none p2) pos) (eCut ma ml mh):=by
 refine he.el fun ta pa sa=>?_
 refine hl.el fun tl pl sl=>?_
 refine hu.el fun th ph sh=>?_
 refine⟨_,pe_slice (sl_list.or (sl_tup.or sl_tupW)) pa pl ph,fun B G H σ ρ d ρ' Q I hm k=>?_⟩;refine zaz hm fun x ρ1 e1 hm=>?_
 refine zaz hm fun l ρ2 e2 hm=>?_
 refine zaz hm fun u ρ3 e3 hm=>?_
 refine cMel hm fun c e4 e5=>?_
 obtain⟨rfl,rfl⟩:=Prod.mk.inj e5;refine sa B G H σ ρ x ρ1 _ I e1 fun G1 H1 v I1 f1 r1=>sl B G1 H1 σ ρ1 l ρ2 _ I1 e2 fun G2 H2 I2 f2=>sh B G2 H2 σ ρ2 u ρ3 _ I2 e3 fun G3 H3 I3 f3=>?_
 have r3:=r1.mono (f2.trans f3);dsimp only at e4;cases x with
 |exc _=>exact cNN e4
 |dic _ _=>exact cNN e4
 |dit _ _=>exact cNN e4
 |obj _ _ _ _ _=>exact cNN e4
 |non=>exact cNN e4
 |bl _=>exact cNN e4
 |int _=>exact cNN e4
 |str _=>exact cNN e4
 |lst ds=>
  cases e4;obtain⟨a,xs,rfl,ha,r⟩:=I3.lst r3;refine .inl ⟨a,xs,rfl,SqL.of ha,fun p hp=>?_⟩;obtain⟨I4,f4,r4⟩:=I3.newL hp (r.cut l u);exact k _ _ _ I4 (f1.trans (f2.trans (f3.trans f4))) r4
 |tup ds=>
  cases e4;obtain⟨a,xs,rfl,ha,r⟩:=I3.tup r3
  by_cases hw:HT.sIx xs.length 0 l=0/\HT.sIx xs.length xs.length u=xs.length
  ·refine .inr (.inr ⟨a,xs,rfl,SqT.of ha,hw,?_⟩);have e:cutD ds l u=ds:=by
    unfold cutD;rw[<-r.length,hw.1,hw.2,List.drop_zero,Nat.sub_zero,qbZ (by rw[r.length];exact qaH _)]
   rw[e]at k;exact k G3 H3 _ I3 (f1.trans (f2.trans f3)) r3
  ·refine .inr (.inl ⟨a,xs,rfl,SqT.of ha,hw,fun p hp=>?_⟩);obtain⟨I4,f4,r4⟩:=I3.newT hp (r.cut l u);exact k _ _ _ I4 (f1.trans (f2.trans (f3.trans f4))) r4
 |scr ns=>
  cases e4;obtain⟨a,rfl,ha⟩:=r3;refine .inl ⟨a,_,rfl,I3.fz.sql ha,fun p hp=>?_⟩;rw[zph];obtain⟨I4,f4,r4⟩:=I3.newL hp (RepL.ints (cutD ns l u));exact k _ _ _ I4 (f1.trans (f2.trans (f3.trans f4))) r4
theorem zbs (h:aLen ma n):∀ρ as ρ',ma ρ=some (as,ρ')->as.length+1=n+1:=fun ρ as ρ' e=>congrArg (· +1) (h ρ as ρ' e)
section
variable {X:Cx} {elt iter tg:Expr} {ifs:List Expr} {scope:Scope} {pos lpos pos':Pos} {N:List Str} {cap:List Nat} {t:Nat} {mi:MA} {g:D->R->Option R} {mt:MT} {me:ME}
theorem zgv (i:Nat)(cap:List Nat)(t:Nat)(N:List Str)(hc:X.calm=true)(hi:SIt X tg iter mi)(hg:∀C s H fp,SG (cxC X N scope C s H fp) tg g)(ht:∀C s H fp,STs (cxC X N scope C s H fp) ifs mt)(he:∀C s H fp,SE (cxC X N scope C s H fp) elt me)(hN:X.N.Nodup)
    (hxi:X.N[i]? =some x:=by rfl) (hx:Loc X.env.scope x:=by trivial) (hf:X.fn x=true\/X.env.scope.names.lookup x=some .local:=by trivial)
    (hsw:swapsWith (.ListComp elt [⟨tg,iter,ifs,0⟩] scope lpos) (some (.Name x pos')) pos.line X.env=pure true:=by rfl)
    (hk:scope.kind= .function:=by rfl) (hb:blkB X.env scope=true:=by kernel_rfl) (hcap:capB scope.names N X.N cap t=true:=by kernel_rfl)
    (hs:∀x,foldedSetIterable iter X.env x=pure x:=by exact fun _=>rfl):SS X (.Assign [.Name x pos'] (.ListComp elt [⟨tg,iter,ifs,0⟩] scope lpos) pos) (sSet i (eFz (oLC cap t mi g mt me))):=by
  refine hi.el fun wi pi si=>?_
  refine⟨_,zkl hN hxi hx hf hsw hc (zkt hk hb) (zli hcap) pi (fun C s H fp=>(hg C s H fp).choose_spec.1) (fun C s H fp=>(ht C s H fp).choose_spec.1) (fun C s H fp=>(he C s H fp).choose_spec.1) hs,fun B G H σ ρ fl ρ' E I hm k=>?_⟩;refine zeR hm fun d ρ1 e1 e3=>?_
  refine zeR e1 fun ds ρ2 e4 e5=>?_
  obtain⟨rfl,rfl⟩:=Prod.mk.inj e5;obtain⟨rfl,rfl⟩:=Prod.mk.inj e3;refine zjX si (.mk' hg ht he) B G H σ ρ ds ρ2 _ I e4 fun G1 H1 l xs I1 f1 g1 h1 r1 b1 n1=>?_
  obtain⟨I2,f2,r2⟩:=zhN I1 g1 h1 r1 b1 n1;exact k _ H1 _ (I2.set r2) (f1.trans f2)
end
def rRng2:List V->Hp->VK->Prop:=fun xs H Q=>∃i j,xs=[.int i,.int j]/\∀p,H p=none->Q (.ref p) (upd H p (.rng i j))
theorem zoP:zeS X (.type "range") rRng2:=by
 intro pins s σ H xs us Q I r h;obtain⟨i,j,rfl,q⟩:=h;obtain⟨u,w',rfl,⟨t,rfl⟩,⟨t',rfl⟩⟩:=vals2 r;refine call_range_2 ⟨.ref s.heap.objs.size,_,I.laid (o:= .rng i j) (fun b o e=>qaF _ e) (qaH _) ⟨t,t',s.toks,qaG _ rfl⟩,rfl,q _ I.fresh⟩
def rRng1:List V->Hp->VK->Prop:=fun xs H Q=>∃j,xs=[.int j]/\∀p,H p=none->Q (.ref p) (upd H p (.rng 0 j))
theorem zpe:zeS X (.type "range") rRng1:=by
 intro pins s σ H xs us Q I r h;obtain⟨j,rfl,q⟩:=h;obtain⟨u,rfl,t,rfl⟩:=ziI r;refine call_range_1 ⟨.ref s.heap.objs.size,_,I.laid (o:= .rng 0 j) (fun b o e=>qaF _ e) (qaH _) ⟨_,_,_,qaG _ rfl⟩,rfl,q _ I.fresh⟩
def rListR:List V->Hp->VK->Prop:=fun xs H Q=>∃p i j,xs=[.ref p]/\H p=some (.rng i j)/\(-(2^62)<=i/\i<2^62/\ -(2^62)<=j/\j<2^62)/\(j-i).toNat<=16777216/\∀l,H l=none->Q (.ref l) (upd H l (.lst ((List.range (j-i).toNat).map fun(k:Nat)=>V.int (i+k))))
theorem zjt (hc:X.calm=true):zeS X (.type "list") rListR:=by
 intro pins s σ H xs us Q I r h;obtain⟨p,i,j,rfl,hp,⟨h1,h2,h3,h4⟩,hz,q⟩:=h;obtain⟨u,rfl,ru⟩:=ziI r;cases ru;obtain⟨t,t',t'',e⟩:=I.hok p _ hp;refine call_list_range (a:=i) (b:=j) (c:=1) (t:=t) (u:=t') (v:=t'') (n:=(j-i).toNat) (I.ok.hd hc) e (small_one h1 h2 h3 h4) (by rw[rangeSize_one];split<;>lia) (by lia) fun h' tk acc' c' hk hl ⟨hs1,hs2⟩=>?_
 refine⟨.ref s.heap.objs.size,_,I.laid (h':=h') (t':=tk) (o:= .lst ((List.range (j-i).toNat).map fun(k:Nat)=>V.int (i+k))) hk (qaH _) ⟨by rw[qaS,qb1,qaL];exact hz,acc'.toList,c',?_,by simpa using hl⟩,rfl,q _ I.fresh⟩;have key:∀(n:Nat) (l:List Value),l.length=n->(∀k v,l[k]? =some v->∃t,v=Value.int (i+(k:Nat)*1) t)->Vals ((List.range n).map fun(k:Nat)=>V.int (i+k)) l:=by
  intro n
  induction n with
  |zero=>intro l hl _;have:l=[]:=qbF hl;subst this;exact .nil
  |succ n ih=>
   intro l hl hv;have e:l=l.take n++[l[n]'(by lia)]:=by
    rw[<-qbY (by lia),qbZ (by lia)]
   rw[qb2,qb3,e];refine Vals.append (ih (l.take n) (by rw[qa0];lia) fun k v hk=>?_) (.cons ?_ .nil)
   ·have hkn:k<n:=by
     have:=(qat.mp hk).1;rw[qa0]at this;lia
    rw[qa6 hkn]at hk;exact hv k v hk
   ·obtain⟨t,ht⟩:=hv n _ (qbG (by lia));exact⟨t,by rw[ht,Int.mul_one]⟩
 exact key _ acc'.toList (by rw[qay];exact hs1) fun k v hk=>hs2 k v (by simpa using hk)
theorem zjm (i:Int)(n:Nat):RepL K G ((List.range n).map fun(k:Nat)=>V.int (i+k)) (zb2 i n):=by
 have e1:((List.range n).map fun(k:Nat)=>V.int (i+k))=((List.range n).map fun(k:Nat)=>i+(k:Int)).map V.int:=by rw[qb4];rfl
 have e2:zb2 i n=((List.range n).map fun(k:Nat)=>i+(k:Int)).map D.int:=by unfold zb2;rw[qb4];rfl
 rw[e1,e2];exact RepL.ints _
def oR (m:MA):MO:=fun ρ=>(m ρ).bind fun p=>if p.1.length<=16777216 then some p else none
theorem zoc {p q pos pos':Pos}(ml:X.mg "list"=none)(mr:X.mg "range"=none)(ha:SA X [a,b] ma)(hc:X.calm=true:=by rfl)(hg:Gl X "list":=by rfl)(hgr:Gl X "range":=by rfl)
  (he:starEach [a,b] X.env=(false,eval a X.env)::starEach [b] X.env:=by rfl) (hpl:(backTo pos' (starEach [b] X.env)).any (·.1)=false:=by rfl)
  (he2:starEach [.Call (.Name "range" q) [a,b] [] pos'] X.env=(false,eval (.Call (.Name "range" q) [a,b] [] pos') X.env)::starEach [] X.env:=by rfl):
  SO X (.Call (.Name "list" p) [.Call (.Name "range" q) [a,b] [] pos'] [] pos) (oR (iR2 ma)):=by
 refine ha.el fun t pa sa=>?_
 refine⟨_,ze4 (zjt hc) hg ml (by decide+kernel) (zeu (ze4 zoP hgr mr (by decide+kernel) pa (by decide) (by decide) he hpl) ziF he2) (by decide) (by decide) he2 rfl,fun B G H σ ρ ds ρ' Q I hm k=>?_⟩;refine zaz hm fun items ρ1 e1 hm=>?_
 refine zaz e1 fun es ρ2 e2 h2=>?_
 dsimp only at hm h2;refine cIte hm fun hlen hm=>?_
 obtain⟨rfl,rfl⟩:=Prod.mk.inj (Option.some.inj hm);refine sa B G H σ ρ es ρ2 _ I e2 fun G1 H1 vs I1 f1 r1=>?_
 split at h2
 ·rename_i i j;refine cIte h2 fun hj h2=>?_
  simp only[qbm]at hj;obtain⟨rfl,rfl⟩:=Prod.mk.inj (Option.some.inj h2);obtain⟨x,y,rfl,rx,ry⟩:=r1.two;cases(show x=V.int i from rx);cases(show y=V.int j from ry);refine⟨i,j,rfl,fun p hp=>⟨p,i,j,rfl,zaq,⟨(zb1 hj.1).1,(zb1 hj.1).2,(zb1 hj.2).1,(zb1 hj.2).2⟩,by simpa[zb2]using hlen,fun l hl=>?_⟩⟩;have I2:=I1.allocO hp (.rng i j);obtain⟨I3,g3,h3,b3,n3⟩:=I2.newO hl ((List.range (j-i).toNat).map fun(k:Nat)=>V.int (i+k));exact k G1 _ l _ I3 f1 g3 h3 (zjm i _) b3 n3
 ·exact cNN h2
end M
namespace M
open L2 PySem
@[simp] theorem atI_nat' {α:Type} (xs:List α) (i:Nat):atI xs (i:Int)=xs[i]?:=by
 unfold atI ixN;rw[if_pos (by lia)]
 by_cases h:i<xs.length
 ·rw[if_pos (by lia)];simp
 ·rw[if_neg (by lia)];simp[qb0 (by lia:xs.length<=i)]
end M
namespace M
open L2 PyProof.Rows PySem PySem.Spec
def zpm (i:Nat)(g:Int->Int->Int)(me:ME):MS:=fun ρ=>match ρ[i]? with
 |some (.val (.int a))=>(me ρ).bind fun p=>match p.1 with
  | .int b=>some (.next,p.2.set i (.val (.int (g a b))))
  |_=>none
 |_=>none
section
variable {X:Cx} {e:Expr} {me:ME} {pos:Pos}
theorem ss_augI (i:Nat){x:Str}{pos':Pos}{op:Operator}{g:Int->Int->Int}(ho:PIp X op (ipI g))(he:SE X e me)(hN:X.N.Nodup)(hi:X.N[i]? =some x:=by rfl)(hx:Loc X.env.scope x:=by trivial)
    (hf:X.fn x=true\/X.env.scope.names.lookup x=some .local:=by trivial):SS X (.AugAssign (.Name x pos') op e pos) (zpm i g me):=by
  refine he.el fun t p s=>?_
  refine⟨_,ps_aug hN hi hx p ho hf,fun B G H σ ρ fl ρ' E I hm k=>?_⟩;unfold zpm at hm
  split at hm
  . rename_i a e0
    refine zaz hm fun d ρ1 e1 h2=>?_
    dsimp only at h2
    split at h2
    . rename_i b
      obtain⟨rfl,rfl⟩:=cSp h2;obtain⟨v,h1,hv⟩:=I.slot i _ e0;cases(show v=V.int a from hv);refine⟨_,h1,s B G H σ ρ (.int b) ρ1 _ I e1 fun G1 H1 w I1 f1 r1=>?_⟩;cases(show w=V.int b from r1);exact⟨a,b,rfl,rfl,k G1 H1 _ (I1.set (d:= .int (g a b)) rfl) f1⟩
    . exact cNN h2
  . exact cNN hm
theorem zo9 (i:Nat){x:Str}{pos':Pos}(he:SE X e me)(hN:X.N.Nodup)(hi:X.N[i]? =some x:=by rfl)(hx:Loc X.env.scope x:=by trivial)
  (hf:X.fn x=true\/X.env.scope.names.lookup x=some .local:=by trivial):SS X (.AugAssign (.Name x pos') .Add e pos) (zpm i (fun i j=>i+j) me):=ss_augI i ip_add he hN hi hx hf
end
end M
namespace M
open L2 PySem PySem.Spec
open PyProof.Rows hiding St
def zky (lt:Int->Int->Bool)(ns:List Int):Int:=ns.getD (argBest (fun i j=>lt (ns.getD i 0) (ns.getD j 0)) (ns.length-1)) 0
def rBest (K:W.Frag)(lt:Int->Int->Bool):List V->Hp->VK->Prop:=fun xs H Q=>∃(p:Addr) (ns:List Int),xs=[.ref p]/\ns≠[]/\(SqL K H p (ns.map V.int)\/SqT K H p (ns.map V.int))/\Q (.int (zky lt ns)) H
theorem zn3 {X:Cx}(hc:X.calm=true):zeS X (.builtin "max") (rBest X.K fun i j=>decide (i>j)):=by
 intro pins s σ H xs us Q I r h;obtain⟨p,ns,rfl,ne,hq,q⟩:=h;obtain⟨u,rfl,ru⟩:=ziI r;cases ru;refine call_max_walk (zgF (A:=X.A.in1) (I.ok.hd hc) I hq fun its s₂ St rv W st hfp fin=>?_);have hl:=rv.length;rw[qaS]at hl;have hp:0<its.length:=by rw[<-hl];exact qb5.mpr ne
 refine⟨_,_,_,_,_,_,_,rfl,W,st,hfp,hp,CmpOf.ints_gt (fun i=>ns.getD i 0) (fun i v e=>zke rv e),fun v h' tk hP hk=>?_⟩;obtain⟨t,rfl⟩:=zke rv hP;refine⟨.int (zky _ ns),H,fin h' tk hk,⟨t,?_⟩,q⟩;unfold zky;rw[hl]
def zpM (lt:Int->Int->Bool):List D->Option D
 |[d]=>(zbe [d]).bind fun ds=>(za8 ds).bind fun ns=>if ns.isEmpty then none else some (.int (zky lt ns))
 |_=>none
theorem vc_best {X:Cx}(lt:Int->Int->Bool):VC X (rBest X.K lt) (zpM lt):=by
 intro B G H σ ρ xs ds d Q I r hf k
 match ds,hf with
 |[a],hf=>
  refine cBel hf fun es e1 hf=>?_
  refine cBel hf fun ns e2 hf=>?_
  split at hf
  ·exact cNN hf
  ·rename_i ne;cases hf;obtain⟨x,rfl,ra⟩:=r.one;obtain⟨p,ys,rfl,hq,ry⟩:=zg4 I ra e1;rw[zeb e2]at ry;rw[RepL.ints_eq ry]at hq;exact⟨p,ns,rfl,fun z=>ne (by rw[z];rfl),hq,k G H _ I (Fz.refl G) rfl⟩
 |[],hf=>exact cNN hf
 |_::_::_,hf=>exact cNN hf
def dMaxL:List D->Option D:=zpM fun i j=>decide (i>j)
theorem se_maxL {X:Cx}{e:Expr}{ma:MA}{p pos:Pos}(hc:X.calm=true)(ml:X.mg "max"=none)(ha:SA X [e] ma)(hg:Gl X "max":=by rfl)(he:starEach [e] X.env=(false,eval e X.env)::starEach [] X.env:=by rfl):SE X (.Call (.Name "max" p) [e] [] pos) (mC dMaxL ma):=
 zcO (zn3 hc) (vc_best _) (by decide+kernel) ml ha hg (by decide) (by decide) he rfl
def oRep (ma mb:ME):MO:=fun ρ=>(ma ρ).bind fun p=>(mb p.2).bind fun q=>match p.1,q.1 with
 | .lst xs,.int k=>if zeD k&&decide (xs.length*k.toNat<=16777216)then some ((List.replicate k.toNat xs).flatten,q.2)else none
 |_,_=>none
theorem RepL.times {K:W.Frag}{G:Hp}{xs:List V}{ds:List D}(h:RepL K G xs ds):∀n:Nat,RepL K G (List.replicate n xs).flatten (List.replicate n ds).flatten
 |0=>RepL.nil
 |n+1=>by
  rw[qbt,qbu,qbt,qbu];exact h.append (h.times n)
theorem so_rep {X:Cx}{a b:Expr}{ma mb:ME}{pos:Pos}(ha:SE X a ma)(hb:SE X b mb):SO X (.BinOp a .Mult b pos) (oRep ma mb):=by
 refine ha.el fun ta pa sa=>?_
 refine hb.el fun tb pb sb=>?_
 refine⟨_,pe_op op_rep pa pb,fun B G H σ ρ d ρ' Q I hm k=>?_⟩;refine zaz hm fun x ρ1 e1 hm=>?_
 refine zaz hm fun y ρ2 e2 hm=>?_
 refine sa B G H σ ρ x ρ1 _ I e1 fun G1 H1 v I1 f1 r1=>sb B G1 H1 σ ρ1 y ρ2 _ I1 e2 fun G2 H2 u I2 f2 r2=>?_
 dsimp only at hm
 split at hm
 ·rename_i xs n _;refine cIte hm fun hs hm=>?_
  obtain⟨rfl,rfl⟩:=cSp hm;simp only[qbm,qbD]at hs;cases(show u=V.int n from r2);obtain⟨l,ys,rfl,hl,r⟩:=I2.lst (r1.mono f2);have a1:=zb1 hs.1;refine⟨l,n,ys,rfl,rfl,hl,by lia,by lia,by rw[r.length,qaL];exact hs.2,fun p hp=>?_⟩;obtain⟨I3,g3,h3,b3,n3⟩:=I2.newO hp (List.replicate n.toNat ys).flatten;exact k G2 _ p _ I3 (f1.trans f2) g3 h3 (r.times _) b3 n3
 ·exact cNN hm
def flV:D->Option V
 | .non=>some .non
 | .bl b=>some (.bl b)
 | .int i=>some (.int i)
 | .str x=>some (.str x)
 |_=>none
def zlK:List D->Option (List V)
 |[]=>some []
 |d::ds=>(flV d).bind fun v=>(zlK ds).map (v:: ·)
theorem flV_ok {K:W.Frag}{G:Hp}{x v:V}{d:D}(r:RepD K G x d)(e:flV d=some v):x=v/\zja v=true:=by
 cases d<;>simp only[flV]at e<;>cases e<;>exact⟨r,rfl⟩
theorem zmx {K:W.Frag}{G:Hp}:∀{ys xs:List V} {ds:List D},RepL K G ys ds->zlK ds=some xs->ys=xs/\xs.all zja=true
 |ys,xs,[],r,e=>by cases e;cases(show ys=[]from r);exact⟨rfl,rfl⟩
 |ys,xs,d::ds,r,e=>by
  obtain⟨y,zs,rfl,ry,rz⟩:=r;refine cBel e fun v e1 e=>?_
  obtain⟨vs,e2,rfl⟩:=zhh e;obtain⟨rfl,f1⟩:=flV_ok ry e1;obtain⟨rfl,f2⟩:=zmx rz e2;exact⟨rfl,by rw[qbr,f1,f2];rfl⟩
def dInB (neg:Bool)(a b:D):Option D:=(flV a).bind fun x=>(zbe [b]).bind fun ds=>(zlK ds).map fun xs=> .bl (if neg then !inV x xs else inV x xs)
def dIn:D->D->Option D:=dInB false
def zpu:D->D->Option D:=dInB true
theorem v2_in {X:Cx}(neg:Bool):V2 X (rIn X.K neg) (dInB neg):=by
 intro B G H σ ρ x y a b d Q I ra rb hf k;refine cBel hf fun v e1 hf=>?_
 refine cBel hf fun ds e2 hf=>?_
 obtain⟨xs,e3,rfl⟩:=zhh hf;obtain⟨rfl,f1⟩:=flV_ok ra e1;obtain⟨p,ys,rfl,hq,ry⟩:=zg4 I rb e2;obtain⟨rfl,f2⟩:=zmx ry e3;exact⟨p,ys,rfl,hq,f1,f2,k G H _ I (Fz.refl G) rfl⟩
theorem bl_in (neg:Bool):∀x y d,dInB neg x y=some d->∃t,d= .bl t:=by
 intro x y d hf;refine cBel hf fun v e1 hf=>?_
 refine cBel hf fun ds e2 hf=>?_
 obtain⟨xs,e3,rfl⟩:=zhh hf;exact⟨_,rfl⟩
theorem st_in {X:Cx}{a b:Expr}{ma mb:ME}{pos:Pos}(ha:SE X a ma)(hb:SE X b mb)(hm:behindInMarks .In b=false:=by rfl):STt X (.Compare a [.In] [b] pos) (tTru (m2 dIn ma mb)):=zhz zp1 (v2_in false) (bl_in false) ha hb hm
theorem st_notIn {X:Cx}{a b:Expr}{ma mb:ME}{pos:Pos}(ha:SE X a ma)(hb:SE X b mb)(hm:behindInMarks .NotIn b=false:=by rfl):STt X (.Compare a [.NotIn] [b] pos) (tTru (m2 zpu ma mb)):=zhz zkw (v2_in true) (bl_in true) ha hb hm
end M
namespace M
open L2 PySem PySem.Spec
open PyProof.Rows hiding St
open Sem (wp)
variable {b N i:Nat} {a it l:Addr} {t:Bool} {h h':Heap} {is xs:Array Value} {Q:Value->Shared->Prop}
theorem nin2 {b x y z:Nat}(h:b∈[x,y])(h1:x≠z)(h2:y≠z):b≠z:=by
 simp at h;rcases h with rfl|rfl<;>assumption
theorem nA {N a b:Nat}(h:a≠b):N+a≠N+b:=fun e=>h (qb6 e)
theorem nB (h:0≠b):N≠N+b:=fun e=>h (qb6 (show N+0=N+b from e))
theorem nC (h:b≠0):N+b≠N:=fun e=>h (qb6 (show N+b=N+0 from e))
theorem nL {a N b:Nat}(h:a<N):a≠N+b:=qag (qae h (Nat.le_add_right _ _))
theorem ne_ {a b:Nat}(h:a≠b):a≠b:=h
def SrcIt:Bool->Heap->Addr->Addr->Nat->Prop
 |true,h,it,a,i=>h.IsTupleIter it a i
 |false,h,it,a,i=>h.IsListIter it a i
def SrcH:Bool->Heap->Addr->Array Value->Prop
 |true,h,a,its=>h.IsTuple a its
 |false,h,a,its=>h.IsList a its
theorem SrcIt.at (x:SrcIt t h it a i)(e:∀o,h.get? it=some o->h'.get? it=some o):SrcIt t h' it a i:=by
 cases t
 ·exact Heap.IsListIter.at x e
 ·exact Heap.IsTupleIter.at x e
theorem SrcH.at (x:SrcH t h a is)(e:∀o,h.get? a=some o->h'.get? a=some o):SrcH t h' a is:=by
 cases t
 ·exact Heap.IsList.at x e
 ·obtain⟨o,ho,r⟩:=x;exact⟨o,e _ ho,r⟩
theorem SrcIt.obj (x:SrcIt t h it a i):∃o,h.get? it=some o/\∀v,o.data≠ .cell v:=by
 cases t<;>(obtain⟨o,e,c,d⟩:=x;exact⟨o,e,fun v z=>by rw[d]at z;cases z⟩)
theorem SrcH.lt (x:SrcH t h a is):a<h.objs.size:=by
 cases t<;>(obtain⟨o,e,_⟩:=x;exact qad e)
section
variable {prog:Program} {w:World} {A:Around} {E:Value->Shared->Prop} {s:Shared}
theorem zmt {items}(hit:s.heap.IsTupleIter it l i)(hl:s.heap.IsTuple l items)
  (k : (∃ x, items[i]? = some x /\ ∀ h', h'.IsTupleIter it l (i + 1) -> Heap.SameBut it s.heap h' -> Q x { s with heap := h' }) \/
   (items[i]? =none/\A.handled=none/\∀h' e,Heap.ExtBut it s.heap h'->(∃o,h'.get? e=some o/\o.cls= .type "StopIteration")->E (.ref e) {s with heap:=h'})):
  wpAny (model prog w) A (Builtin.SmallTypes.nextOf (.ref it)) Q E s:=by
 obtain⟨o,ho,hc,hd⟩:=id hit;obtain⟨ol,hol,-,nl,hdl⟩:=hl;have ne:¬((Value.ref l==Value.none)=true):=qaD;unfold Builtin.SmallTypes.nextOf;refine qaA (qbj (name:=Str.ofString "__next__") hit.typeIs slot_tupleiter_next (qbl slot_tupleiter_next hit.typeIs entry_tupleiter_next ?_ (args_tupleiter_next _)));refine(?_:wpAny _ _ (field (.ref it) 0>>=_) _ _ s);refine qaA (qbi ho hd (x:= .ref l) rfl (?_:wpAny _ _ (if(Value.ref l==Value.none)=true then _ else _) _ _ s));rw[if_neg ne];refine(?_:wpAny _ _ (field (.ref it) 1>>=_) _ _ s);refine qaA (qbi ho hd (x:= .int i 0) rfl (?_:wpAny _ _ (seqItems? (.ref l)>>=_) _ _ s));refine qaA (qb7 hol hdl ?_);rcases k with⟨x,hx,k⟩|⟨hx,hh,k⟩<;>simp only[qbg,hx]
 ·have upd:∀h':Heap,h'.get? it=some (o.mapFields fun a=>a.setIfInBounds 1 (rawInt (((i:Nat):Int)+1)))->h'.IsTupleIter it l (i+1):=fun h' e=>⟨_,e,(Obj.cls_mapFields ..).trans hc,by rw[qb8 hd];simp[rawInt]⟩
  refine qaA (qb9 ho hd (by simp) (qaE ⟨x,rfl,qaE (k _ ?_ (qca ..))⟩));refine⟨_,qbo _ ho (Obj.isFreed_of_fields (qb8 hd _)),(Obj.cls_mapFields ..).trans hc,?_⟩;rw[qb8 hd];simp[rawInt]
 ·refine qaA (wpAny_rule (qaA (qb9 ho hd (by simp) (?_:wpAny _ _ (newExc (.type "StopIteration") []>>=_) _ _ _))));refine qaA ?_;simp only[newExc,newTuple];refine qaA (qbn (qaA (m:=firstArgMember _ _) (wpAny_of_eq (a:=Value.none) (by first|rfl|(simp only[firstArgMember];rfl)) (qbn ?_ (by size_fits)))) (by size_fits));simp only[raiseNew];refine qaA (wpAny_handled ?_)
  first|rw[show A.in1.handled=none from hh]|rw[hh]
  exact qaA (qaE (wpAny_throw (k _ _ (((qca ..).extBut.push _).push _) ⟨_,qaG _ rfl,rfl⟩)))
theorem zdR (hh:A.handled=none)(it l:Addr)(hne:l≠it)(items:Array Value):Draws prog w A it [it,l] items.size (fun i v=>items[i]? =some v) (fun i h=>SrcIt t h it l i/\SrcH t h l items):=by
 cases t
 ·exact Draws.list hh it l hne items
 ·refine⟨fun _ _ st=>?_,fun _ _ _ st hk=>⟨SrcIt.at st.1 fun o e=>hk it (by simp) o e,SrcH.at st.2 fun o e=>hk l (by simp) o e⟩,fun i s Q E hi st hQ=>?_,fun s Q E st hE=>zmt st.1 st.2 (.inr ⟨by simp,hh,hE⟩)⟩
  ·obtain⟨o,e,-⟩:=SrcIt.obj st.1;exact⟨o,e⟩
  ·exact zmt st.1 st.2 (.inl ⟨items[i],by simp[hi],fun h' a b=>hQ _ h' s.toks (by simp[hi]) ⟨a,SrcH.at st.2 fun o e=>(b.2 l hne).trans e⟩ b⟩)
def srcO (t:Bool)(a:Addr):Obj:={cls:= .type (if t then "tuple_iterator" else "list_iterator"),data:= .fields #[.ref a,.int 0 0]}
theorem zlN (e:h.get? it=some (srcO t a)):SrcIt t h it a 0:=by
 cases t<;>exact⟨_,e,rfl,rfl⟩
theorem zh8 (t:Bool)(a:Addr):(srcO t a).isFreed=false:=by cases t<;>rfl
theorem zfE {items}(hl:SrcH t s.heap a items)(hQ:Q (.ref s.heap.objs.size) {s with heap:=s.heap.push (srcO t a)}):
  wpAny (model prog w) A (pyIter (.ref a)) Q E s:=by
 cases t
 ·exact wpAny_pyIter_list hl hQ
 ·exact qbL hl hQ
end
abbrev tup_ (vs:Array Value):Obj:={cls:= .type "tuple",data:= .seq vs}
abbrev zip_ (ti to:Addr):Obj:={cls:= .type "zip",data:= .fields #[.none,.bool false,.bool false,.ref ti,.ref to]}
abbrev z2a (h:Heap)(t1 t2:Bool)(l1 l2:Addr):Heap:=(h.push (srcO t1 l1)).push (srcO t2 l2)
abbrev z2b (h:Heap)(t1 t2:Bool)(l1 l2:Addr):Heap:=(z2a h t1 t2 l1 l2).push (tup_ #[.ref h.objs.size,.ref (h.push (srcO t1 l1)).objs.size])
abbrev z2c (h:Heap)(t1 t2:Bool)(l1 l2:Addr):Heap:=(z2b h t1 t2 l1 l2).push (tup_ #[.none,.none])
abbrev z2d (h:Heap)(t1 t2:Bool)(l1 l2:Addr):Heap:=(z2c h t1 t2 l1 l2).push (zip_ (z2a h t1 t2 l1 l2).objs.size (z2b h t1 t2 l1 l2).objs.size)
theorem zno (t1 t2:Bool)(l1 l2:Addr)(xs ys:Array Value):Meets (Builtin.«zip.__new__» ⟨[.type "zip",.ref l1,.ref l2],[]⟩) (fun _ R s=>SrcH t1 s.heap l1 xs/\SrcH t2 s.heap l2 ys/\
   R (.ok (.ret (.ref (z2c s.heap t1 t2 l1 l2).objs.size))) {s with heap:=z2d s.heap t1 t2 l1 l2}):=
 .of_wp fun prog w A R s h=>by
  obtain⟨hp,g,d,tk,os⟩:=s;obtain⟨b1,b2,h⟩:=h;have hsub:=sub_zip;have L1:SrcH t1 (Shared.heap ⟨hp,g,d,tk,os⟩) l1 xs:=b1;have L2:SrcH t2 (Shared.heap ⟨hp.push (srcO t1 l1),g,d,tk,os⟩) l2 ys:=SrcH.at b2 fun o e=>qaF _ e
  wp_walk using zfE L1,zfE L2
  exact⟨_,rfl,h⟩
section
variable {prog:Program} {w:World} {A:Around} {E:Value->Shared->Prop} {s:Shared}
theorem zpw {t1 t2:Bool}{l1 l2:Addr}{xs ys:Array Value}(h1:SrcH t1 s.heap l1 xs)(h2:SrcH t2 s.heap l2 ys)
  (k : ∀ h', IsZip h' (s.heap.objs.size + 4) (s.heap.objs.size + 2) (s.heap.objs.size + 3) .none -> IsPair h' (s.heap.objs.size + 2) (.ref s.heap.objs.size) (.ref (s.heap.objs.size + 1)) ->
   IsPair h' (s.heap.objs.size+3) .none .none->SrcIt t1 h' s.heap.objs.size l1 0->SrcIt t2 h' (s.heap.objs.size+1) l2 0->
   (∀c o,s.heap.get? c=some o->h'.get? c=some o)->Q (.ref (s.heap.objs.size+4)) {s with heap:=h'}):wpAny (model prog w) A (call (.type "zip") [.ref l1,.ref l2]) Q E s:=by
 refine callType_new F.called_zip (by decide) (F.typeCall_zip_2 _ _) (F.newCall_zip_2 _ _) (fun obj=>F.args_object_init_3 obj _ _) F.entry_zip_new (zno t1 t2 l1 l2 xs ys) ⟨h1,h2,(?_:_/\_)⟩;have y1:(s.heap.push (srcO t1 l1)).objs.size=s.heap.objs.size+1:=qaT ..;have y2:(z2a s.heap t1 t2 l1 l2).objs.size=s.heap.objs.size+2:=by rw[qaT,y1]
 have y3:(z2b s.heap t1 t2 l1 l2).objs.size=s.heap.objs.size+3:=by rw[qaT,y2]
 have y4:(z2c s.heap t1 t2 l1 l2).objs.size=s.heap.objs.size+4:=by rw[qaT,y3]
 have g5:(z2d s.heap t1 t2 l1 l2).get? (z2c s.heap t1 t2 l1 l2).objs.size=some _:=qaG _ rfl;have g4:(z2d s.heap t1 t2 l1 l2).get? (z2b s.heap t1 t2 l1 l2).objs.size=some _:=qaF _ (qaG _ rfl);have g3:(z2d s.heap t1 t2 l1 l2).get? (z2a s.heap t1 t2 l1 l2).objs.size=some _:=qaF _ (qaF _ (qaG _ rfl));have g2:(z2d s.heap t1 t2 l1 l2).get? (s.heap.push (srcO t1 l1)).objs.size=some (srcO t2 l2):=qaF _ (qaF _ (qaF _ (qaG _ (zh8 ..))));have g1:(z2d s.heap t1 t2 l1 l2).get? s.heap.objs.size=some (srcO t1 l1):=qaF _ (qaF _ (qaF _ (qaF _ (qaG _ (zh8 ..)))));rw[y2,y3,y4]at g5;rw[y1,y2]at g3;rw[y3]at g4;rw[y1]at g2;rw[y4];exact⟨⟨_,g5,rfl⟩,k _ g5 g3 g4 (zlN g1) (zlN g2) fun c o x=>qaF _ (qaF _ (qaF _ (qaF _ (qaF _ x))))⟩
abbrev en_ (it:Addr):Obj:={cls:= .type "enumerate",data:= .fields #[.none,.bool false,.ref it,rawInt 0,.none,.none]}
theorem zm6 (t:Bool)(l:Addr)(o:Obj)(xs:Array Value):Meets (Builtin.«enumerate.__new__» ⟨[.type "enumerate",.ref l],[]⟩) (fun _ R s=>s.heap.get? l=some o/\SrcH t s.heap l xs/\
   R (.ok (.ret (.ref (s.heap.push (srcO t l)).objs.size))) {s with heap:=(s.heap.push (srcO t l)).push (en_ s.heap.objs.size)}):=
 .of_wp fun prog w A R s h=>by
  obtain⟨hp,g,d,tk,os⟩:=s;obtain⟨hl,b,h⟩:=h;have hsub:=sub_enumerate;have hL:SrcH t (Shared.heap ⟨hp,g,d,tk,os⟩) l xs:=b
  wp_walk using qcb hl
  refine wpAny_stack_any fun st=>qaE ?_
  split
  ·rename_i c _ _ _ _ _;cases(c==Value.type "enumerate")<;>(wp_walk using qcb hl,zfE hL;exact⟨_,rfl,h⟩)
  ·wp_walk using qcb hl,zfE hL
   exact⟨_,rfl,h⟩
theorem zoC (h1:SrcH t s.heap l xs)
  (k:∀h',IsEnum h' (s.heap.objs.size+1) s.heap.objs.size 0 .none->SrcIt t h' s.heap.objs.size l 0->(∀b o,s.heap.get? b=some o->h'.get? b=some o)->Q (.ref (s.heap.objs.size+1)) {s with heap:=h'}):
  wpAny (model prog w) A (call (.type "enumerate") [.ref l]) Q E s:=by
 have⟨o,ho⟩:∃o,s.heap.get? l=some o:=by cases t<;>(obtain⟨o,e,-⟩:=h1;exact⟨o,e⟩)
 refine callType_new F.called_enumerate (by decide) (F.typeCall_enumerate_1 _) (F.newCall_enumerate_1 _) (fun obj=>F.args_object_init_2 obj _) F.entry_enumerate_new (zm6 t l o xs) ⟨ho,h1,(?_:_/\_)⟩;have y1:(s.heap.push (srcO t l)).objs.size=s.heap.objs.size+1:=qaT ..;have g2:((s.heap.push (srcO t l)).push (en_ s.heap.objs.size)).get? (s.heap.push (srcO t l)).objs.size=some _:=qaG _ rfl;have g1:((s.heap.push (srcO t l)).push (en_ s.heap.objs.size)).get? s.heap.objs.size=some (srcO t l):=qaF _ (qaG _ (zh8 ..));rw[y1]at g2;rw[y1];exact⟨⟨_,g2,rfl⟩,k _ g2 (zlN g1) fun b o x=>qaF _ (qaF _ x)⟩
end
end M
namespace M
local macro_rules | `(tactic| ac_rfl) => `(tactic| first | exact M.nA (by decide) | exact M.nB (by decide) | exact M.nC (by decide) | exact M.nL (by assumption) | exact Nat.ne_of_lt (by assumption) | lia)
open L2 PySem PySem.Spec
open PyProof.Rows hiding St
open Sem (wp)
variable {t' ek:Nat} {h':Heap} {fp:List Addr} {vs xs:List V} {its:List Value} {t:Bool} {X:Cx} {pins:List (Addr×Obj)} {σ:St} {H:Hp} {s:Shared} {a:Addr} {K:W.Frag} {elts:List Expr} {ep p pos:Pos} {es:List D}
section
variable {X:Cx} {pins:List (Addr×Obj)} {σ:St} {H:Hp} {s:Shared}
theorem zl9 (I:Inv X pins σ H s)(k:∀b o,b∉fp->s.heap.get? b=some o->h'.get? b=some o)(hf:∀b∈fp,FpOk X pins H b):Inv X pins σ H {s with heap:=h',toks:=t'}:=by
 have nit:∀b u,H b=some u->b∉fp:=fun b u e z=>by rw[(hf b z).1]at e;exact cNN e
 refine I.step (g':=s.gens) (d':=s.drawn) (ch:=fp) (fun b hb=>?_) (fun b o _ _ hc e _=>k b o hc e) (fun b o _ _ hc e _=>⟨o.slots,k b o hc e⟩) (fun _ _ _ _ n=>n)
  (fun b o hc e=>⟨o,k b o hc e⟩) (fun _ _ e=>e) (fun _ _ _ e=>e) (fun b ps e=>⟨#[],by rw[e];simp⟩) (fun m hm=>?_) (fun b u e=>?_) I.bare
 ·obtain⟨f0,f1,f2,f3,f4,f5⟩:=hf b hb;exact⟨f3,f1,f4,f5⟩
 ·obtain⟨o,es,ep,ho,r⟩:=hm;exact⟨o,es,ep,k _ o (fun z=>(hf _ z).2.1 rfl) ho,r⟩
 ·refine(I.hok b u e).stay (fun c v hc q=>k c v ?_ q) (fun _ q=>q) fun _ _ q=>q
  rcases hc with z|z
  ·rw[z];exact nit b u e
  ·exact nit c _ z
theorem zp8 {t':Nat}{h':Heap}{fp:List Addr}(I:Inv X pins σ H s)(k:∀b o,b∉fp->s.heap.get? b=some o->h'.get? b=some o)(hf:∀b∈fp,FpOk X pins H b)(hl:∀b∈fp,b<s.heap.objs.size)
  (hT:h'.get? s.heap.objs.size=some (tup_ its.toArray)) (hz:vs.length<=sizeLine) (r:Vals vs its):Inv X pins σ (upd H s.heap.objs.size (.tup vs)) {s with heap:=h',toks:=t'}:=by
 have I1:=I.laid (t':=s.toks) (a:=s.heap.objs.size) (o:= .tup vs) (h':=s.heap.push (tup_ its.toArray)) (fun b u q=>qaF _ q) (qaH _) ⟨hz,its,r,IsTup.new _ _⟩;refine zl9 (s:={s with heap:=s.heap.push (tup_ its.toArray),toks:=s.toks}) (t':=t') (fp:=fp) I1 (fun b o hb e=>?_) fun b hb=>?_
 ·have e':(s.heap.push (tup_ its.toArray)).get? b=some o:=e;rcases Heap.get?_push_cases e' with⟨rfl,rfl⟩|q
  ·exact hT
  ·exact k b o hb q
 ·obtain⟨f0,fr⟩:=hf b hb;refine⟨?_,fr⟩;rw[zam (qag (hl b hb))];exact f0
end
def SrcSq (t:Bool)(K:W.Frag)(H:Hp)(a:Addr)(xs:List V):Prop:=match t with
 |true=>SqT K H a xs
 |false=>SqL K H a xs
theorem SrcSq.heap (I:Inv X pins σ H s)(h:SrcSq t X.K H a xs):∃its:List Value,Vals xs its/\SrcH t s.heap a its.toArray/\xs.length<=sizeLine:=by
 cases t
 ·obtain⟨its,r,p,z⟩:=I.list h;exact⟨its,r,p.isList,z⟩
 ·obtain⟨its,r,p,z⟩:=I.tuple h;exact⟨its,r,p,z⟩
theorem SrcSq.inj {xs ys:List V}(I:Inv X pins σ H s)(h:SrcSq t X.K H a xs)(h':SrcSq t X.K H a ys):xs=ys:=by
 cases t
 ·exact I.list_inj h h'
 ·exact I.tuple_inj h h'
def Itz2 (K:W.Frag)(t1:Bool)(a1:Addr)(t2:Bool)(a2:Addr)(n:Nat):It where
 go:=fun i H=>i<n/\∃xs ys,SrcSq t1 K H a1 xs/\SrcSq t2 K H a2 ys/\n=min xs.length ys.length
 yld:=fun i H x H'=>∃p x1 x2,H p=none/\H'=upd H p (.tup [x1,x2])/\x= .ref p/\∀xs ys,SrcSq t1 K H a1 xs->SrcSq t2 K H a2 ys->xs[i]? =some x1/\ys[i]? =some x2
 stop:=fun i H=>n<=i/\∃xs ys,SrcSq t1 K H a1 xs/\SrcSq t2 K H a2 ys/\n=min xs.length ys.length
theorem nin4 {c N:Nat}(h:c∉([N,N+1,N+2,N+3,N+4]:List Nat)):c≠N/\c≠N+1/\c≠N+3/\c≠N+4:=
 ⟨fun e=>h (e ▸ .head _),fun e=>h (e ▸ .tail _ (.head _)),fun e=>h (e ▸ .tail _ (.tail _ (.tail _ (.head _)))),fun e=>h (e ▸ .tail _ (.tail _ (.tail _ (.tail _ (.head _)))))⟩
def Ite (K:W.Frag)(t1:Bool)(a1:Addr)(n:Nat):It where
 go:=fun i H=>i<n/\∃xs,SrcSq t1 K H a1 xs/\n=xs.length
 yld:=fun i H x H'=>∃p x1,H p=none/\H'=upd H p (.tup [.int i,x1])/\x= .ref p/\∀xs,SrcSq t1 K H a1 xs->xs[i]? =some x1
 stop:=fun i H=>n<=i/\∃xs,SrcSq t1 K H a1 xs/\n=xs.length
theorem zpa {P:Program}{w:World}(t1:Bool)(a1:Nat)(n N:Nat)(l1:a1<N):
  Turn P w K (.Tuple elts ek ep) (Ite K t1 a1 n) ([N+1,N]:List Nat) (N+1:Nat) (fun i h=>i<=n/\(∃old,IsEnum h (N+1:Nat) N i old)/\SrcIt t1 h N a1 i) where
 mem:=by simp
 obj:=fun i h st b hb=>by
  obtain⟨-,⟨old,h1⟩,h0⟩:=st;simp only[qaq,qcc,or_false]at hb;rcases hb with rfl|rfl
  ·exact⟨_,h1,fun v z=>by cases z⟩
  ·exact h0.obj
 keep:=fun i h h' st k=>by
  obtain⟨hi,⟨old,h1⟩,h0⟩:=st;exact⟨hi,⟨old,k _ (by simp) _ h1⟩,h0.at fun o e=>k _ (by simp) o e⟩
 item:=by
  intro X hP hw hK hc i pins s σ H E I hf st hg;subst hP hw hK;obtain⟨hi,⟨old,h1⟩,h0⟩:=st;obtain⟨hn,xs,q1,en⟩:=hg;obtain⟨us,ru,hu,zu⟩:=q1.heap I;have lu:=ru.length;have D1:=zdR (prog:=X.prog) (w:=X.w) (A:=X.A.in1) (t:=t1) (I.ok.hd hc) N a1 (ne_ (by ac_rfl)) us.toArray;refine wpAny_pyNext_enum_itemD D1 h1 ⟨h0,hu⟩ (by simp;lia) (ne_ (by ac_rfl)) (fun z=>nin2 (z:=N+1) z (by lia) (by lia) rfl) fun x h' tk p1 ho g0 gT gz kk=>?_
  obtain⟨x1,hx1⟩:∃x1,xs[i]? =some x1:=⟨xs[i]'(by lia),qbG _⟩;obtain⟨u1,hu1,r1⟩:=ru.get hx1;have e1:u1=x:=by
   have:us[i]? =some x:=by simpa using p1
   rw[hu1]at this;cases this;rfl
  subst e1;refine⟨_,rfl,wpAny_letOwnedTupleGo_enum (s:={s with heap:=h',toks:=tk+1}) ho fun h'' he' sb=>?_⟩
  replace sb:Heap.SameBut (N+1:Nat) h' h'':=sb
  have lz:N+1<s.heap.objs.size:=qad h1;have kk':∀b o,b∉([N+1,N]:List Nat)->s.heap.get? b=some o->h''.get? b=some o:=fun b o hb e=>
   (sb.2 b fun z=>hb (by simp[z])).trans (kk b o (fun z=>hb (by simp[z])) (fun z=>hb (by simp[z])) e)
  have I1:=zp8 (t':=tk+1) (vs:=[.int i,x1]) (its:=[.int i tk,u1]) I kk' hf (fun b hb=>by
   have:b=N+1\/b=N:=by simpa using hb
   exact qbH (show(b:Nat)<=N+1 by rcases this with h|h<;>rw[h]<;>simp) lz) ((sb.2 _ (ne_ (by ac_rfl))).trans gT) (by simp;rw[qaL];decide) (.cons ⟨_,rfl⟩ (.cons r1 .nil))
  refine⟨.ref s.heap.objs.size,_,I1,rfl,⟨_,x1,I.hok.fresh (qaH _),rfl,rfl,fun xs' b1=>?_⟩,⟨hn,⟨_,by simpa using he'⟩,SrcIt.at g0.1 fun o e=>(sb.2 _ (ne_ (by ac_rfl))).trans e⟩,fun b hb=>?_⟩
  ·rw[SrcSq.inj I b1 q1];exact hx1
  ·have:b=N+1\/b=N:=by simpa using hb
   rw[zam (qag (qbH (show(b:Nat)<=N+1 by rcases this with h|h<;>rw[h]<;>simp) lz))]
   exact(hf b hb).1
 done:=by
  intro X hP hw hK hc i pins s σ H E I hf st hg;subst hP hw hK;obtain⟨hi,⟨old,h1⟩,h0⟩:=st;obtain⟨hn,xs,q1,en⟩:=hg;obtain⟨us,ru,hu,zu⟩:=q1.heap I;have lu:=ru.length;have D1:=zdR (prog:=X.prog) (w:=X.w) (A:=X.A.in1) (t:=t1) (I.ok.hd hc) N a1 (ne_ (by ac_rfl)) us.toArray;have W:=WalksT.enumerateD D1 (N+1:Nat) (ne_ (by ac_rfl)) (fun z=>nin2 (z:=N+1) z (by lia) (by lia) rfl) (by simp);have ei:i=us.toArray.size:=by simp;lia
  subst ei;exact W.done s _ _ ⟨⟨old,h1⟩,h0,hu⟩ fun h' tk kk=>⟨rfl,zl9 I kk hf⟩
 self:=fun _ _ _ _ _ st h=>by
  obtain⟨hi,⟨old,h1⟩,h0⟩:=st;exact wpAny_pyIter_enum h1 h
theorem boot_zip:bootBuiltins "zip"=some (.type "zip"):=by decide+kernel
theorem zjc:bootBuiltins "enumerate"=some (.type "enumerate"):=by decide+kernel
section
variable {X:Cx} {elts:List Expr} {ek:Nat} {ep:Pos}
theorem pi_enum {a:Expr}{ta:TA}(hg:Gl X "enumerate")(hm:X.mg "enumerate"=none)(ha:PA X [a] ta)(hs:starEach [a] X.env=(false,eval a X.env)::starEach [] X.env:=by rfl)(hs2:(backTo pos (starEach [] X.env)).any (·.1)=false:=by rfl):
  PI X (.Tuple elts ek ep) (.Call (.Name "enumerate" p) [a] [] pos) (fun σ H R=>ta σ H fun vs H1=>∃t1 a1 xs,vs=[.ref a1]/\SrcSq t1 X.K H1 a1 xs/\R (Ite X.K t1 a1 xs.length) H1):=by
 intro pins s σ H R I h;refine Call_ (zlb I hg hm zjc (qaI (thn (ha pos pins s σ H _ I h) fun us s1 ⟨vs,H1,I1,r1,q1⟩=>?_) hs hs2));obtain⟨t1,a1,xs,e,q1,q⟩:=q1;subst e;cases r1 with
 |cons r rr=>
  cases rr;cases r;obtain⟨us,ru,hu,-⟩:=q1.heap I1;refine zoC hu fun h' g1 g0 kk=>wpAny_pyIter_enum g1 ⟨_,_,_,_,H1,rfl,I1.kept (t':=s1.toks) kk,zpa t1 a1 xs.length s1.heap.objs.size hu.lt,⟨qaV _,⟨_,g1⟩,g0⟩,fun b hb=>?_,q⟩
  have:b=s1.heap.objs.size+1\/b=s1.heap.objs.size:=by simpa using hb
  have le:s1.heap.objs.size<=b:=by rcases this with h|h<;>rw[h]<;>simp
  exact I1.fpOk le (I1.hok.fresh le)
end
theorem zoW {G:Hp}{x:V}{d:D}(r:RepD K G x d)(e:zbe [d]=some es):∃t a xs,x= .ref a/\(∀H,Fz G H->SrcSq t K H a xs)/\RepL K G xs es:=by
 cases d<;>simp only[zbe]at e<;>try cases e
 ·obtain⟨a,xs,rfl,ha,r⟩:=r;exact⟨false,a,xs,rfl,fun H f=>SqL.of (f _ _ ha),r⟩
 ·obtain⟨a,xs,rfl,ha,r⟩:=r;exact⟨true,a,xs,rfl,fun H f=>SqT.of (f _ _ ha),r⟩
 ·obtain⟨a,rfl,ha⟩:=r;exact⟨false,a,_,rfl,fun H f=>f.sql ha,RepL.ints _⟩
def zlt (xs ys:List D):List D:=List.zipWith (fun x y=>D.tup [x,y]) xs ys
def zip3D (xs ys zs:List D):List D:=List.zipWith (fun x (p:D×D)=>D.tup [x,p.1,p.2]) xs (List.zip ys zs)
def zlF (xs:List D):List D:=List.zipWith (fun x (i:Nat)=>D.tup [.int i,x]) xs (List.range xs.length)
def iZ2 (ma:MA):MA:=fun ρ=>(ma ρ).bind fun p=>match p.1 with
 |[a,b]=>(zbe [a]).bind fun xs=>(zbe [b]).bind fun ys=>some (zlt xs ys,p.2)
 |_=>none
def iEn (ma:MA):MA:=fun ρ=>(ma ρ).bind fun p=>(zbe p.1).map fun xs=>(zlF xs,p.2)
theorem zg6 {a:Expr}{ma:MA}(hm:X.mg "enumerate"=none)(ha:SA X [a] ma)(hg:Gl X "enumerate":=by rfl)(hs:starEach [a] X.env=(false,eval a X.env)::starEach [] X.env:=by rfl)(hs2:(backTo pos (starEach [] X.env)).any (·.1)=false:=by rfl):
  SIt X (.Tuple elts ek ep) (.Call (.Name "enumerate" p) [a] [] pos) (iEn ma):=by
 refine ha.el fun t pa sa=>?_
 refine⟨_,pi_enum hg hm pa hs hs2,fun B G H σ ρ ds ρ' Q I hm k=>?_⟩;refine zaz hm fun es ρ1 e1 h2=>?_
 refine cMel h2 fun xs ex h2=>?_
 cases h2;refine sa B G H σ ρ es ρ1 _ I e1 fun G1 H1 vs I1 f1 r1=>?_
 match es,ex,r1 with
 |[],ex,_=>exact cNN ex
 |_::_::_,ex,_=>exact absurd ex (by simp[zbe])
 |[d],ex,r1=>
  obtain⟨x,rfl,rx⟩:=r1.one;obtain⟨t1,a1,us,rfl,s1,c1⟩:=zoW rx ex;have n1:=c1.length;refine⟨t1,a1,us,rfl,s1 _ I1.fz,k _ G1 H1 I1 f1 ⟨fun H i f hi=>?_,fun H i x H' f y d e=>?_,fun H i f hi=>?_⟩⟩
  ·exact⟨by simp[zlF]at hi;lia,us,s1 _ f,rfl⟩
  ·obtain⟨p,x1,hp,eh,ex',q⟩:=y;have q1:=q us (s1 _ f);have hi:i<us.length:=(qat.mp q1).1;have g1:xs[i]? =some (xs[i]'(by lia)):=qbG _;simp only[zlF,qcd]at e;rw[g1,show(List.range xs.length)[i]? =some i from by rw[List.getElem?_range (by lia)]]at e;cases e;obtain⟨v1,b1,r1⟩:=c1.get g1;rw[q1]at b1;cases b1;exact .inr ⟨p,_,_,hp,eh,ex',rfl,⟨_,_,rfl,rfl,_,_,rfl,r1,rfl⟩⟩
  ·exact⟨by simp[zlF]at hi;lia,us,s1 _ f,rfl⟩
end M
namespace M
open L2 PySem PySem.Spec
open PyProof.Rows hiding St
variable {K:W.Frag} {G H:Hp} {x:Str} {X:Cx} {a:Expr} {σ:St} {ρ:R} {b:Nat} {cs:List D} {l:Addr} {ys:List V} {cap:List Nat} {tg':Addr->Shared->Hp->List Addr->TG} {tt:Addr->Shared->Hp->List Addr->TT} {te:Addr->Shared->Hp->List Addr->TE}
def isN:D->Bool
 | .non=>true
 |_=>false
theorem isN_ok {x:V}{d:D}(r:RepD K G x d):decide (x= .non)=isN d:=by
 cases d with
 |non=>cases(show x=V.non from r);rfl
 |bl b=>cases(show x=V.bl b from r);rfl
 |int i=>cases(show x=V.int i from r);rfl
 |str s=>cases(show x=V.str s from r);rfl
 |lst ds=>obtain⟨a,xs,rfl,-⟩:=r;rfl
 |tup ds=>obtain⟨a,xs,rfl,-⟩:=r;rfl
 |scr ns=>obtain⟨a,rfl,-⟩:=r;rfl
 |exc c=>obtain⟨a,C,rfl,-⟩:=r;rfl
 |dic _ _=>obtain⟨a,ys,rfl,-⟩:=r;rfl
 |dit _ _=>obtain⟨a,ys,o,xs,rfl,-⟩:=r;rfl
 |obj _ _ _ _ _=>obtain⟨_,_,_,_,_,_,_,_,_,rfl,-⟩:=r;rfl
def zl7:D->D->Option D
 |a,.non=>some (.bl (!isN a))
 |_,_=>none
theorem v2_notN:V2 X (fun x y H Q=>y= .non/\Q (.bl (!decide (x= .non))) H) zl7:=by
 intro B G H σ ρ x y a b d Q I ra rb hf k;cases b<;>simp only[zl7]at hf<;>cases hf
 exact⟨rb,k G H _ I (Fz.refl G) (by rw[isN_ok ra];rfl)⟩
theorem bl_notN:∀x y d,zl7 x y=some d->∃t,d= .bl t:=by
 intro x y d hf;cases y<;>simp only[zl7]at hf<;>cases hf
 exact⟨_,rfl⟩
section
variable {X:Cx} {a b:Expr} {ma mb:ME} {pos:Pos}
theorem st_isNot (ha:SE X a ma)(hb:SE X b mb)(hm:behindInMarks .IsNot b=false:=by rfl):STt X (.Compare a [.IsNot] [b] pos) (tTru (m2 zl7 ma mb)):=zhz op_notN v2_notN bl_notN ha hb hm
end
theorem zpz {ma:MA}{p q pos pos':Pos}(ml:X.mg "list"=none)(mr:X.mg "range"=none)(ha:SA X [a] ma)(hc:X.calm=true:=by rfl)(hg:Gl X "list":=by rfl)(hgr:Gl X "range":=by rfl)
  (he:starEach [a] X.env=(false,eval a X.env)::starEach [] X.env:=by rfl) (hpl:(backTo pos' (starEach [] X.env)).any (·.1)=false:=by rfl)
  (he2:starEach [.Call (.Name "range" q) [a] [] pos'] X.env=(false,eval (.Call (.Name "range" q) [a] [] pos') X.env)::starEach [] X.env:=by rfl):
  SO X (.Call (.Name "list" p) [.Call (.Name "range" q) [a] [] pos'] [] pos) (oR (iR1 ma)):=by
 refine ha.el fun t pa sa=>?_
 refine⟨_,ze4 (zjt hc) hg ml (by decide+kernel) (zeu (ze4 zpe hgr mr (by decide+kernel) pa (by decide) (by decide) he hpl) ziF he2) (by decide) (by decide) he2 rfl,fun B G H σ ρ ds ρ' Q I hm k=>?_⟩;refine zaz hm fun items ρ1 e1 hm=>?_
 refine zaz e1 fun es ρ2 e2 h2=>?_
 dsimp only at hm h2;refine cIte hm fun hlen hm=>?_
 obtain⟨rfl,rfl⟩:=Prod.mk.inj (Option.some.inj hm);refine sa B G H σ ρ es ρ2 _ I e2 fun G1 H1 vs I1 f1 r1=>?_
 split at h2
 ·rename_i j;refine cIte h2 fun hj h2=>?_
  obtain⟨rfl,rfl⟩:=Prod.mk.inj (Option.some.inj h2);obtain⟨x,rfl,rx⟩:=r1.one;cases(show x=V.int j from rx);refine⟨j,rfl,fun p hp=>⟨p,0,j,rfl,zaq,⟨by decide,by decide,(zb1 hj).1,(zb1 hj).2⟩,by simpa[zb2]using hlen,fun l hl=>?_⟩⟩;have I2:=I1.allocO hp (.rng 0 j);have ej:(j-0).toNat=j.toNat:=by rw[Int.sub_zero]
  rw[ej]at*;obtain⟨I3,g3,h3,b3,n3⟩:=I2.newO hl ((List.range j.toNat).map fun(k:Nat)=>V.int (0+k));exact k G1 _ l _ I3 f1 g3 h3 (zjm 0 _) b3 n3
 ·exact cNN h2
def zlO (b:Nat)(ρ:R):Bool:=match ρ[b]? with
 |some (.par _)=>zdb (ρ.set b .emp)
 |_=>false
def zha (b:Nat)(ρ:R):List D:=match ρ[b]? with
 |some (.par cs)=>cs
 |_=>[]
def turnP (b:Nat)(g:D->R->Option R)(mt:MT)(me:ME):D->R->Option (Option D×R):=fun d ρ=>(g d ρ).bind fun ρ1=>(mt ρ1).bind fun p=>if p.1 then(me p.2).bind fun q=>if zlO b q.2 then some (some q.1,q.2)else none else if zlO b p.2 then some (none,p.2)else none
def oLCM (cap:List Nat)(t b w:Nat)(mi:MA)(g:D->R->Option R)(mt:MT)(me:ME):MO:=fun ρ=>(mi ρ).bind fun p=>if p.1.length<=16777216 then
    ((fzL (cap.filter (· !=w)) p.2)[w]?).bind fun s=>s.items.bind fun cs=>(zdA (turnP b g mt me) p.1 ((capR cap t (fzL (cap.filter (· !=w)) p.2)).set b (.par cs))).map fun q=>(q.1,(fzL (cap.filter (· !=w)) p.2).set w (s.put (zha b q.2)))
  else none
theorem VS.setEmp (h:VS K G σ ρ)(b:Nat):VS K G σ (ρ.set b .emp) where
 len:=by rw[qbq];exact h.len
 no:=by
  have h0:=h.no;unfold zdb at*;rw[qbV]at*;intro s hs;rcases qce hs with z|z
  ·exact h0 s z
  ·rw[z]
 val:=fun i d e=>by
  rw[qbz]at e
  split at e
  ·split at e
   ·cases e
   ·exact cNN e
  ·exact h.val i d e
theorem VS.siP (h:VS K G σ (ρ.set b .emp))(fz:Fz G H)(hb:ρ[b]? =some (.par cs))(hs:σ[b]? =some (some (.ref l)))(gl:G l=none)(hl:H l=some (.lst ys))(r:RepL K G ys cs):SI K ⟨G,H,[(b,l)]⟩ G H σ ρ where
 fz:=fz
 g0:=Fz.refl G
 new:=fun b o e=> .inl (by show G b≠none;rw[e];simp)
 keep:=fun b o e _=>e
 there:=fun b e=>e
 ob:=fun i c m=>by
  have:i=b/\c=l:=by simpa using m
  rw[this.2];show H l≠none;rw[hl];simp
 len:=by rw[h.len,qbq]
 slot:=fun i s e=>by
  by_cases z:i=b
  ·subst z;rw[hb]at e;cases e;exact⟨l,ys,hs,gl,hl,r,by simp⟩
  ·have e':(ρ.set b .emp)[i]? =some s:=by rw[qav (Ne.symm z)];exact e
   cases s with
   |emp=>trivial
   |two _ _=>trivial
   |tre t=>exact absurd rfl ((zfG h.no e').1 t)
   |ptr t=>exact absurd rfl ((zfG h.no e').2 t)
   |val d=>exact h.val i d e'
   |own ds=>exact absurd ⟨_,ds,e',rfl⟩ (zfA h.no (i:=i))
   |par ds=>exact absurd ⟨_,ds,e',rfl⟩ (zfA h.no (i:=i))
 dis:=fun i j s t a hij e1 e2 w1 w2=>by
  have key:∀(i:Nat) (s:Sl) ov,ρ[i]? =some s->OwS K G H ov a s->i=b:=fun i s ov e w=>by
   by_cases z:i=b
   ·exact z
   ·exact absurd w (zjV h.no (show(ρ.set b .emp)[i]? =some s by rw[qav (Ne.symm z)];exact e))
  exact hij ((key i s _ e1 w1).trans (key j t _ e2 w2).symm)
theorem VS.ofP {B:Bs}(I:SI K B G H σ ρ)(hO:B.O=[(b,l)])(h:zlO b ρ=true):∃cs ys,ρ[b]? =some (.par cs)/\σ[b]? =some (some (.ref l))/\G l=none/\H l=some (.lst ys)/\RepL K G ys cs/\VS K G σ (ρ.set b .emp):=by
 unfold zlO at h
 split at h
 ·rename_i cs e;obtain⟨l',ys,h1,h2,h3,h4,h5⟩:=I.slot b _ e;have hl:l'=l:=by rw[hO]at h5;simpa using h5
  subst hl;refine⟨cs,ys,e,h1,h2,h3,h4,⟨by rw[qbq];exact I.len,h,fun i d e'=>?_⟩⟩;rw[qbz]at e'
  split at e'
  ·split at e'
   ·cases e'
   ·exact cNN e'
  ·exact I.slot i _ e'
 ·cases h
def PaAt (K:W.Frag)(b:Nat)(l:Addr)(G H:Hp)(σ:St)(ρ:R):Prop:=∃cs ys,ρ[b]? =some (.par cs)/\σ[b]? =some (some (.ref l))/\G l=none/\H l=some (.lst ys)/\RepL K G ys cs
theorem PaAt.upd {l DD:Addr}(h:PaAt K b l G H σ ρ)(n:l≠DD)(xs:List V):PaAt K b l G (L2.upd H DD (.lst xs)) σ ρ:=h.imp fun _ h=>h.imp fun _ h=>⟨h.1,h.2.1,h.2.2.1,(zam n).trans h.2.2.2.1,h.2.2.2.2⟩
theorem zka {b w t:Nat}(h1:cap[b]? =some w)(h2:σ[w]? =some (some (.ref l))):b<cap.length/\(capσ cap t σ)[b]? =some (some (.ref l)):=by
 have hb:b<cap.length:=(qat.mp h1).1;have hbe:cap[b]=w:=(qat.mp h1).2;refine⟨hb,?_⟩;unfold capσ;rw[qa4 (by rw[qaS];exact hb),qa5,qbG hb,hbe,qbC,h2]
 rfl
theorem zgn (cap:List Nat)(t:Nat)(ρ:R):(capR cap t ρ).length=cap.length+t:=by unfold capR;simp
section
variable {X:Cx} {elt iter tg:Expr} {ifs:List Expr} {scope:Scope} {pos:Pos} {N:List Str} {cap:List Nat} {t bk wk:Nat} {mi:MA} {g:D->R->Option R} {mt:MT} {me:ME}
theorem zpU (hbw:cap[bk]? =some wk){wi:TI}(si:SItb X tg iter mi wi)(blk:LcB X scope N elt tg ifs g mt me tg' tt te):
    ∀B G H σ ρ ds ρ' (Q:VK),SI X.K B G H σ ρ->oLCM cap t bk wk mi g mt me ρ=some (ds,ρ')->
      (∀G' H' l xs,SI X.K B G' H' σ ρ'->Fz G G'->G' l=none->H' l=some (.lst xs)->RepL X.K G' xs ds->B.H l=none->Nw X.K G' H' σ ρ' l->Q (.ref l) H')->tLC (capσ cap t) wi tg' tt te σ H Q:=fun B G H σ ρ ds ρ' Q I hm k=>
  zaz hm fun items ρ1 e1 hm=>si B G H σ ρ items ρ1 _ I e1 fun J G1 H1 I1 f1 IT DD hD=>cIte hm fun hlen hm=>cBel hm fun sw ew hm=>cBel hm fun cs0 qw hm=>zeR hm fun all ρf e2 e3=>by
    obtain⟨rfl,rfl⟩:=Prod.mk.inj e3;obtain⟨G2,I2,f2⟩:=SI.fzL (cap.filter (· !=wk)) I1;obtain⟨l,ys0,hσ,gl0,hl0,rl0⟩:=I2.wr ew qw;have hlD:l≠DD:=zaI hl0 hD;have hb:=zka (t:=t) hbw hσ;refine ziL blk (O:=[(bk,l)]) (JJ:=fun G H σ ρ=>PaAt X.K bk l G H σ ρ/\VS X.K G σ (ρ.set bk .emp)) IT f2 I2.fz hD hlen (fun i m=>?_) (fun G H σ ρ h f=>?_) (fun _ _ _ _ _ _ I h=>?_) (fun _ _ _ _ xs h=>⟨h.1.upd hlD xs,h.2⟩) ⟨⟨cs0,ys0,?_,hb.2,gl0,hl0,rl0⟩,?_⟩ e2 fun Gc Hc σc xs J ra jj=>?_
    . rw[qcf]at m;exact hlD (Prod.mk.inj m).2.symm
    . obtain⟨⟨cs,ys,a1,a2,a3,a4,a5⟩,vs⟩:=h
      exact vs.siP f a1 a2 a3 a4 a5
    . obtain⟨cs',ys',w1,w2,w3,w4,w5,w6⟩:=VS.ofP I rfl h
      exact⟨⟨cs',ys',w1,w2,w3,w4,w5⟩,w6⟩
    . rw[qbz,if_pos rfl,if_pos (by rw[zgn];lia)]
    . rw[List.set_set];exact(zpc I2 cap t).setEmp bk
    . obtain⟨⟨cs,ys,a1,a2,a3,a4,a5⟩,vs⟩:=jj
      have hp:zha bk ρf=cs:=by unfold zha;rw[a1]
      rw[hp]at k;have kp:∀b o,b≠l->H1 b=some o->Hc b=some o:=fun b o n e=>J.kp b o (fun i m=>n (Prod.mk.inj (qcf.mp m)).2) e
      exact k Gc Hc DD xs (I2.growW ew qw hσ J.fc J.fcH J.nw kp a3 a4 a5) (f1.trans (f2.trans J.fc)) J.gD J.hDc ra (I2.there DD hD) (I2.own_neW ew qw hσ hD J.nw kp)
theorem znH (i:Nat){lpos pos':Pos}(cap:List Nat)(t bk wk:Nat)(N:List Str)(hc:X.calm=true)(hi:SIt X tg iter mi)(hg:∀C s H fp,SG (cxC X N scope C s H fp) tg g)(ht:∀C s H fp,STs (cxC X N scope C s H fp) ifs mt)(he:∀C s H fp,SE (cxC X N scope C s H fp) elt me)(hN:X.N.Nodup)(hbw:cap[bk]? =some wk:=by rfl)
    (hxi:X.N[i]? =some x:=by rfl) (hx:Loc X.env.scope x:=by trivial) (hf:X.fn x=true\/X.env.scope.names.lookup x=some .local:=by trivial)
    (hsw:swapsWith (.ListComp elt [⟨tg,iter,ifs,0⟩] scope lpos) (some (.Name x pos')) pos.line X.env=pure true:=by rfl)
    (hk:scope.kind= .function:=by rfl) (hb:blkB X.env scope=true:=by kernel_rfl) (hcap:capB scope.names N X.N cap t=true:=by kernel_rfl)
    (hs:∀x,foldedSetIterable iter X.env x=pure x:=by exact fun _=>rfl):SS X (.Assign [.Name x pos'] (.ListComp elt [⟨tg,iter,ifs,0⟩] scope lpos) pos) (sSet i (eFz (oLCM cap t bk wk mi g mt me))):=by
  refine hi.el fun wi pi si=>?_
  refine⟨_,zkl hN hxi hx hf hsw hc (zkt hk hb) (zli hcap) pi (fun C s H fp=>(hg C s H fp).choose_spec.1) (fun C s H fp=>(ht C s H fp).choose_spec.1) (fun C s H fp=>(he C s H fp).choose_spec.1) hs,fun B G H σ ρ fl ρ' E I hm k=>?_⟩;refine zeR hm fun d ρ1 e1 e3=>?_
  refine zeR e1 fun ds ρ2 e4 e5=>?_
  obtain⟨rfl,rfl⟩:=Prod.mk.inj e5;obtain⟨rfl,rfl⟩:=Prod.mk.inj e3;refine zpU hbw si (.mk' hg ht he) B G H σ ρ ds ρ2 _ I e4 fun G1 H1 l xs I1 f1 g1 h1 r1 b1 n1=>?_
  obtain⟨I2,f2,r2⟩:=zhN I1 g1 h1 r1 b1 n1;exact k _ H1 _ (I2.set r2) (f1.trans f2)
end
end M
namespace M
open L2 PySem
theorem zhk:∀{ds:List D} {ns:List Int},za8 ds=some ns->ds=ns.map .int
 |[],_,h=>by cases h;rfl
 | .int i::ds,_,h=>by
  refine cMel h fun ms e1 e2=>?_
  cases e2;rw[zhk e1];rfl
 | .non::_,_,h=>by exact cNN h
 | .bl _::_,_,h=>by exact cNN h
 | .str _::_,_,h=>by exact cNN h
 | .lst _::_,_,h=>by exact cNN h
 | .tup _::_,_,h=>by exact cNN h
 | .scr _::_,_,h=>by exact cNN h
 | .exc _::_,_,h=>by exact cNN h
 |(.dic _ _)::_,_,h=>by exact cNN h
 |(.dit _ _)::_,_,h=>by exact cNN h
 |(.obj _ _ _ _ _)::_,_,h=>by exact cNN h
def sExt (i:Nat)(m:ME):MS:=fun ρ=>if(ρ[i]?.bind Sl.items).isSome then(m ρ).bind fun p=>p.2[i]?.bind fun s=>s.items.bind fun ds=>match p.1 with
 | .lst es=>if ds.length+es.length<=16777216 then some (.next,p.2.set i (s.put (ds++es)))else none
 |_=>none else none
section
variable {X:Cx} {e:Expr} {me:ME} {pos:Pos}
theorem ss_ext (i:Nat){x:Str}{pos' apos cpos:Pos}(he:SE X e me)(hN:X.N[i]? =some x:=by rfl)(hv:Vis X.env.scope x:=by trivial)(hd:(x==("__debug__":Str))=false:=by decide)
  (hcd:(x==("__classdict__":Str))=false:=by decide)
  (hbase:attributeBase (.Name x pos') "extend" X.env (eval (.Name x pos') X.env)=eval (.Name x pos') X.env:=by rfl)
  (hfew : ((backTo cpos (starEach [e] X.env)).all (fun x => !x.1) && (backToKw cpos (keywordEach [] X.env)).all (fun x => x.1.isSome)
   &&decide ([e].length+([]:List Keyword).length+(if([]:List Keyword).isEmpty then 0 else 1)<30))=true:=by rfl)
  (hline:(apos.endLine==cpos.line)=true:=by rfl) (hs:starEach [e] X.env=(false,eval e X.env)::starEach [] X.env:=by rfl):SS X (.Expr (.Call (.Attribute (.Name x pos') "extend" apos) [e] [] cpos) pos) (sExt i me):=by
 refine he.el fun t p s=>?_
 refine⟨_,zlp (pe_bm qbK PySem.F.slot_list_extend PySem.F.type_list_extend zoi (zb3 hN hv hd hcd) (zeu p ziF hs) hbase hfew hline hs rfl) (by rfl),fun B G H σ ρ fl ρ' E I hm k=>?_⟩;unfold sExt at hm;refine cIte hm fun hso hm=>?_
 obtain⟨ds0,hso⟩:=qaZ.mp hso;refine cBel hso fun s0 e0 q0=>?_
 obtain⟨l,xs0,h1,h2,h3,h4⟩:=I.wr e0 q0;refine zaz hm fun d ρ1 e1 hm=>?_
 refine cBel hm fun s1 e2 hm=>?_
 refine cBel hm fun ds e3 hm=>?_
 cases d with
 |lst es=>
  dsimp only at hm;refine cIte hm fun hl hm=>?_
  obtain⟨rfl,rfl⟩:=cSp hm;refine⟨.ref l,h1,.inl ⟨rfl,_,SqL.of h3⟩,s B G H σ ρ (.lst es) ρ1 _ I e1 fun G1 H1 v I1 f1 r1=>?_⟩;obtain⟨l',xs,k1,k2,k3,k4⟩:=I1.wr e2 e3;rw[h1]at k1;cases k1;obtain⟨b,zs,rfl,hb,rb⟩:=r1;refine⟨l,b,xs,zs,rfl,rfl,k3,I1.fz _ _ hb,by rw[k4.length,rb.length,qaL];exact hl,?_⟩;exact k G1 _ σ (I1.write e2 e3 h1 (k4.append rb)) f1
 |_=>exact cNN hm
end
end M
namespace M
open L2 PySem PySem.Spec
open PyProof.Rows hiding St
def iR2L (ma:MA):MA:=fun ρ=>(ma ρ).bind fun p=>match p.1 with
 |[.int i,.int j]=>some (zb2 i (j-i).toNat,p.2)
 |_=>none
end M
namespace HT
open PySem PySem.Spec
def LtOn (prog:Program)(w:World)(A:Around)(P:Nat->Value->Prop)(bt:Nat->Nat->Bool)(s₂:Shared)(wr:List Addr):Prop:=
 ∀i j vi vj h' tk (Q E:Value->Shared->Prop),P i vi->P j vj->(∀b o,b∉wr->s₂.heap.get? b=some o->h'.get? b=some o)->Q (.bool (bt i j)) {s₂ with heap:=h',toks:=tk}->
  wpAny (model prog w) A (richCompare .Lt vi vj) Q E {s₂ with heap:=h',toks:=tk}
theorem zh2:(toString "min"++toString ".loop":String)="min.loop":=by decide
section
variable {prog:Program} {w:World} {A:Around} {R:Result->Shared->Prop} {I:Addr} {fp wr:List Addr} {n:Nat} {P:Nat->Value->Prop} {St:Nat->Heap->Prop}
theorem zow (W:Walks prog w A.in1 I fp wr n P St)(bt:Nat->Nat->Bool)(s₂:Shared)(lt:LtOn prog w A.in1 P bt s₂ wr)(S:Addr)(hSf:S∉fp)(hS0:s₂.heap.get? S=none)
  (hR:∀v h' tk,P (argBest bt (n-1)) v->(∀b o,b∉wr->s₂.heap.get? b=some o->h'.get? b=some o)->R (.ok (.ret v)) {s₂ with heap:=h',toks:=tk}):
  ∀(k j:Nat) (h:Heap) (tk:Nat) (vb:Value) (c:Nat),n-(j+1)=k->j+1<=n->St (j+1) h->P (argBest bt j) vb->
  h.get? S=some {cls:= .type "list",dict:=none,data:= .seq #[vb,vb] c,slots:= #[]}->(∀b o,b∉wr->s₂.heap.get? b=some o->h.get? b=some o)->
  codeAny (model prog w) A (.builtin "min.loop" ⟨[.ref I,.none,.ref S],[]⟩) R {s₂ with heap:=h,toks:=tk}:=by
 have hSw:S∉wr:=fun z=>hSf (W.sub _ z)
 have neS:∀b o,s₂.heap.get? b=some o->S≠b:=fun b o e z=>by rw[<-z,hS0]at e;cases e
 intro k
 induction k with
 |zero=>
  intro j h tk vb c hk hj hst hPb hS hkp;have hin:j+1=n:=by lia
  refine codeAny_builtin F.entry_min_loop ?_;rw[qcg qch _];show wpAny _ A.in1 (seqItems? (.ref S)>>=_) _ _ _;refine qaA (qb7 hS rfl ?_);show wpAny _ A.in1 (tryCatch (pyNext (.ref I)) _>>=_) _ _ _;refine qaA (qci (W.done _ _ _ (hin ▸ hst) fun h' tk' hk'=>?_));have hS':=hk' S _ hSw hS;show wpAny _ A.in1 (updateSeq S (fun _=> #[])>>=_) _ _ _;refine qaA ?_;refine wpAny_updateSeq hS' rfl (qaA (qcj (qaE ?_)));exact hR vb _ tk' (by rw[<-hin];exact hPb) fun b o hbw e=>(qbp _ _ (neS b o e)).trans (hk' b o hbw (hkp b o hbw e))
 |succ k ih=>
  intro j h tk vb c hk hj hst hPb hS hkp;have hlt:j+1<n:=by lia
  refine codeAny_builtin F.entry_min_loop ?_;rw[qcg qch _];show wpAny _ A.in1 (seqItems? (.ref S)>>=_) _ _ _;refine qaA (qb7 hS rfl ?_);show wpAny _ A.in1 (tryCatch (pyNext (.ref I)) _>>=_) _ _ _;refine qaA (qci (W.item (j+1) _ _ _ hlt hst fun v h' tk' hP hst' hk'=>?_));have hS':=hk' S _ hSw hS;have hkp':∀b o,b∉wr->s₂.heap.get? b=some o->h'.get? b=some o:=fun b o hb e=>hk' b o hb (hkp b o hb e)
  show wpAny _ A.in1 (tryCatch (holding [v,v] (richCompare .Lt v vb>>=_)) _>>=_) _ _ _;refine qaA (qci (qaB (qaA (lt (j+1) (argBest bt j) v vb h' tk' _ _ hP hPb hkp' ?_))));refine qaA (qaB (qax ?_));refine qaA (qcj (qaE ?_));cases hb:bt (j+1) (argBest bt j)with
  |true=>
   simp only[if_true];refine qaA ?_;refine wpAny_updateSeq hS' rfl (qaA (qcj ?_));rw[zh2];refine qaE ⟨qck qch _,ih (j+1) _ tk' v _ (by lia) hlt (W.frame _ _ _ hst' fun b hbf o e=>?_) (by simp only[argBest,hb,if_true];exact hP) (qbo _ hS' rfl) fun b o hbw e=>?_⟩
   ·exact(qbp _ _ (fun z:S=b=>hSf (by rw[z];exact hbf))).trans e
   ·exact(qbp _ _ (neS b o e)).trans (hkp' b o hbw e)
  |false=>
   simp only[qbU,qbh];refine qaA (qcj ?_);rw[zh2];exact qaE ⟨qck qch _,ih (j+1) _ tk' vb c (by lia) hlt hst' (by simp only[argBest,hb,qbU,qbh];exact hPb) hS' hkp'⟩
end
section
variable {prog:Program} {w:World} {A:Around} {E:Value->Shared->Prop} {s:Shared}
theorem zp2 {x:Value}{Q:Value->Shared->Prop}
  (h : wpAny (model prog w) A.in1 (pyIter x) (fun it s₂ => ∃ I fp wr n P St bt, it = .ref I /\ Walks prog w A.in1 I fp wr n P St /\ St 0 s₂.heap /\ (∀ b ∈ fp, b < s₂.heap.objs.size) /\ 0 < n /\ LtOn prog w A.in1 P bt s₂ wr /\
   ∀v h' tk,P (argBest bt (n-1)) v->(∀b o,b∉wr->s₂.heap.get? b=some o->h'.get? b=some o)->Q v {s₂ with heap:=h',toks:=tk}) E s):
  wpAny (model prog w) A (call (.builtin "min") [x]) Q E s:=by
 refine call_function_tree F.kind_min F.plain_min F.entry_min (F.args_min1 _) ?_;show wpAny _ A.in1 (Builtin.Builtins.bindParams "min" ["key","default"] 0 ⟨[],[]⟩>>=_) _ _ s;refine qaA (wpAny_of_eq (show Builtin.Builtins.bindParams "min" ["key","default"] 0 ⟨[],[]⟩=pure [none,none]from rfl) ?_);refine qaA (qaE ?_);refine qaA (qaw h (fun it s₂ h₂=>?_) fun _ _ e=>e);obtain⟨I,fp,wr,n,P,St,bt,rfl,W,hst,hfp,hn,lt,hQ⟩:=h₂;refine qaA (qbn ?_);have hSf:s₂.heap.objs.size∉fp:=fun hm=>qaf _ (hfp _ hm)
 have hSw:s₂.heap.objs.size∉wr:=fun z=>hSf (W.sub _ z)
 have hS0:s₂.heap.get? s₂.heap.objs.size=none:=by
  cases q:s₂.heap.get? s₂.heap.objs.size with
  |none=>rfl
  |some o=>exact absurd (qad q) (qaf _)
 have neS:∀b o,s₂.heap.get? b=some o->s₂.heap.objs.size≠b:=fun b o e z=>by rw[<-z,hS0]at e;cases e
 rw[zh2];refine qaE ⟨qck qch _,codeAny_builtin F.entry_min_loop ?_⟩;rw[qcg qch _];have hS:(s₂.heap.push {cls:= .type "list",data:= .seq #[]}).get? s₂.heap.objs.size=some {cls:= .type "list",data:= .seq #[]}:=qaG _ rfl;show wpAny _ A.in1 (seqItems? (.ref s₂.heap.objs.size)>>=_) _ _ _;refine qaA (qb7 hS rfl ?_);show wpAny _ A.in1 (tryCatch (pyNext (.ref I)) _>>=_) _ _ _;refine qaA (qci (W.item 0 _ _ _ hn (W.frame _ _ _ hst fun b _ o e=>qaF _ e) fun v h' tk hP hst' hk'=>?_));have hS':=hk' _ _ hSw hS;show wpAny _ A.in1 (updateSeq s₂.heap.objs.size (fun _=> #[v,v])>>=_) _ _ _;refine qaA ?_;refine wpAny_updateSeq hS' rfl ?_;rw[zh2];refine qaE ⟨qck qch _,zow W bt s₂ lt s₂.heap.objs.size hSf hS0 hQ _ 0 _ tk v _ rfl hn (W.frame _ _ _ hst' fun b hbf o e=>?_) hP (qbo _ hS' rfl) fun b o hbw e=>?_⟩
 ·exact(qbp _ _ (fun z:s₂.heap.objs.size=b=>hSf (by rw[z];exact hbf))).trans e
 ·exact(qbp _ _ (neS b o e)).trans (hk' b o hbw (qaF _ e))
end
end HT
namespace M
open L2 PySem PySem.Spec
open PyProof.Rows hiding St
def ziM:List D->Option (List (List Int))
 |[]=>some []
 | .tup ds::r=>(za8 ds).bind fun ns=>(ziM r).map fun nss=>ns::nss
 |_::_=>none
def zla (nss:List (List Int)):Nat:=argBest (fun i j=>HT.zbn (nss.getD i []) (nss.getD j [])) (nss.length-1)
def zor:List D->Option D
 |[.lst ds]=>(ziM ds).bind fun nss=>if nss.isEmpty then none else ds[zla nss]?
 |_=>none
theorem zhY {as:List Addr}{its:List Value}(r:Vals (as.map V.ref) its){i:Nat}{v:Value}(e:its[i]? =some v):∃a,as[i]? =some a/\v= .ref a:=by
 have hl:=r.length;have hi:i<its.length:=(qat.mp e).1;rw[qaS]at hl;have e2:(as.map V.ref)[i]? =some (.ref as[i]):=by rw[qa5,qbG (by lia)];rfl
 obtain⟨u,h1,h2⟩:=r.get e2;rw[e]at h1;cases h1;exact⟨_,qbG (by lia),h2⟩
theorem ziR {K:W.Frag}{G:Hp}:∀{ys:List V} {ds:List D} {nss:List (List Int)},RepL K G ys ds->ziM ds=some nss->∃as:List Addr,ys=as.map V.ref/\as.length=nss.length/\∀(i:Nat) a ns,as[i]? =some a->nss[i]? =some ns->G a=some (.tup (ns.map V.int))
 |_,[],nss,r,e=>by cases e;cases r;exact⟨[],rfl,rfl,fun i a ns h=>by simp at h⟩
 |_,d::ds,nss,⟨x,ys,e0,q,r⟩,e=>by
  subst e0;cases d with
  |tup es=>
   refine cBel e fun ns e1 e=>?_
   refine cMel e fun ms e2 e3=>?_
   subst e3;obtain⟨as,rfl,hl,h⟩:=ziR r e2;obtain⟨a,zs,rfl,ha,rz⟩:=q;rw[zeb e1]at rz;rw[RepL.ints_eq rz]at ha;refine⟨a::as,rfl,by rw[qaQ,qaQ,hl],fun i b ns' h1 h2=>?_⟩;cases i with
   |zero=>simp at h1 h2;subst h1 h2;exact ha
   |succ i=>exact h i b ns' (by simpa using h1) (by simpa using h2)
  |non=>exact cNN e
  |bl _=>exact cNN e
  |int _=>exact cNN e
  |str _=>exact cNN e
  |lst _=>exact cNN e
  |scr _=>exact cNN e
  |exc _=>exact cNN e
  |dic _ _=>exact cNN e
  |dit _ _=>exact cNN e
  |obj _ _ _ _ _=>exact cNN e
def rMinT (K:W.Frag):List V->Hp->VK->Prop:=fun xs H Q=>∃(p:Addr) (as:List Addr) (nss:List (List Int)),xs=[.ref p]/\nss≠[]/\as.length=nss.length/\SqL K H p (as.map V.ref)/\(∀(i:Nat) a ns,as[i]? =some a->nss[i]? =some ns->SqT K H a (ns.map V.int))/\∀a,as[zla nss]? =some a->Q (.ref a) H
theorem zoh {A:Around}(h:A.units+64<cLine):A.in1.units<cLine:=by
 have:A.in1.units=A.units+1\/A.in1.units=A.units:=by first|exact .inr rfl|exact .inl rfl|(simp[Around.in1,Around.units])
 lia
theorem zns {X:Cx}(hc:X.calm=true)(hu:X.A.units+64<cLine):zeS X (.builtin "min") (rMinT X.K):=by
 intro pins s σ H xs us Q I r h;obtain⟨p,as,nss,rfl,ne,hl,hq,ht,q⟩:=h;obtain⟨u,rfl,ru⟩:=ziI r;cases ru;refine HT.zp2 (zgF (A:=X.A.in1) (I.ok.hd hc) I (.inl hq) fun its s₂ St rv W st hfp fin=>?_);have hl2:=rv.length;rw[qaS]at hl2;have hp:0<its.length:=by rw[<-hl2,hl];exact qb5.mpr ne
 have hu':X.A.in1.units<cLine:=zoh hu;have get:∀i a,as[i]? =some a->SqT X.K H a ((nss.getD i []).map V.int):=fun i a e=>by
  have hi:i<nss.length:=by rw[<-hl];exact(qat.mp e).1
  rw[qcl,qbG hi];exact ht i a _ e (qbG hi)
 refine⟨_,_,_,_,_,_,fun i j=>HT.zbn (nss.getD i []) (nss.getD j []),rfl,W,st,hfp,hp,fun i j vi vj h' tk Q' E' hi hj hk qq=>?_,fun v h' tk hP hk=>?_⟩
 ·obtain⟨a,ea,rfl⟩:=zhY rv hi;obtain⟨b,eb,rfl⟩:=zhY rv hj;have I':=fin h' tk hk;obtain⟨its1,r1,p1,_⟩:=I'.tuple (get i a ea);obtain⟨its2,r2,p2,_⟩:=I'.tuple (get j b eb);exact HT.znj p1 p2 (zfz r1) (zfz r2) hu' qq
 ·obtain⟨a,ea,rfl⟩:=zhY rv hP;refine⟨.ref a,H,fin h' tk hk,rfl,q a ?_⟩;unfold zla;rw[<-hl,hl2];exact ea
theorem vc_minT {X:Cx}:VC X (rMinT X.K) zor:=by
 intro B G H σ ρ xs ds d Q I r hf k
 match ds,hf with
 |[.lst es],hf=>
  refine cBel hf fun nss e1 hf=>?_
  split at hf
  ·exact cNN hf
  ·rename_i ne;obtain⟨x,rfl,ra⟩:=r.one;obtain⟨p,ys,rfl,hp,ry⟩:=I.lst ra;obtain⟨as,rfl,hl,h⟩:=ziR ry e1;refine⟨p,as,nss,rfl,fun z=>ne (by rw[z];rfl),hl,SqL.of hp,fun i a ns h1 h2=>SqT.of (I.fz _ _ (h i a ns h1 h2)),fun a ea=>?_⟩;obtain⟨y,e2,ry2⟩:=ry.get hf;rw[qa5,ea]at e2;cases e2;exact k G H _ I (Fz.refl G) ry2
 |[],hf=>exact cNN hf
 |[.non],hf=>exact cNN hf
 |[.bl _],hf=>exact cNN hf
 |[.int _],hf=>exact cNN hf
 |[.str _],hf=>exact cNN hf
 |[.tup _],hf=>exact cNN hf
 |[.scr _],hf=>exact cNN hf
 |[.exc _],hf=>exact cNN hf
 |[.dic _ _],hf=>exact cNN hf
 |[.dit _ _],hf=>exact cNN hf
 |[.obj _ _ _ _ _],hf=>exact cNN hf
 |a::b::c,hf=>exact absurd hf (by unfold zor;simp)
theorem se_minT {X:Cx}{e:Expr}{ma:MA}{p pos:Pos}(hc:X.calm=true)(hu:X.A.units+64<cLine)(ml:X.mg "min"=none)(ha:SA X [e] ma)(hg:Gl X "min":=by rfl)(he:starEach [e] X.env=(false,eval e X.env)::starEach [] X.env:=by rfl):SE X (.Call (.Name "min" p) [e] [] pos) (mC zor ma):=
 zcO (zns hc hu) vc_minT (by decide+kernel) ml ha hg (by decide) (by decide) he rfl
theorem nn {α:Type}{o:Option α}{x:α}(e:o=some x):o≠none:=by rw[e];exact fun z=>by cases z
abbrev MX:=R->Option Str
def zfO (mc:MT)(mb:MS):Nat->MS
 |0,_=>none
 |n+1,ρ=>(mc ρ).bind fun p=>if p.1 then(mb p.2).bind fun q=>match q.1 with
  | .next=>zfO mc mb n q.2
  | .cont=>zfO mc mb n q.2
  | .brk=>some (.next,q.2)
  | .ret r=>some (.ret r,q.2)
  else some (.next,p.2)
theorem zkm {X:Cx}{c:Expr}{body:List Stmt}{mc:MT}{mb:MS}{pos:Pos}(fuel:Nat)(hp:PassesOwn (model X.prog X.w) X.A X.env X.xe)(hc:STt X c mc)(hb:SSs X body mb):SS X (.While c body [] pos) (zfO mc mb fuel):=by
 refine hc.el fun tc pc sc=>?_
 refine hb.el fun tb pb sb=>?_
 refine⟨_,ps_while hp pc pb,fun B G H σ ρ fl ρ' E I hm k=>?_⟩;refine⟨fun m σ' H'=>∃G' ρ1,SI X.K B G' H' σ' ρ1/\Fz G G'/\zfO mc mb m ρ1=some (fl,ρ'),⟨fuel,G,ρ,I,Fz.refl G,hm⟩,fun m σ1 H1 w=>?_⟩;obtain⟨G1,ρ1,I1,f1,e1⟩:=w;cases m with
 |zero=>exact cNN e1
 |succ m=>
  refine zaz e1 fun b ρ2 e2 e1=>?_
  refine sc B G1 H1 σ1 ρ1 b ρ2 _ I1 e2 fun G2 H2 I2 f2=>?_
  dsimp only at e1;cases b with
  |false=>
   rw[if_neg (by simp)]at e1 ⊢;obtain⟨rfl,rfl⟩:=cSp e1;exact k G2 H2 σ1 I2 (f1.trans f2)
  |true=>
   rw[if_pos rfl]at e1 ⊢;refine zaz e1 fun f ρ3 e3 e1=>?_
   refine⟨fun σ' H'=>∃G' ρ1,SI X.K B G' H' σ' ρ1/\Fz G G'/\zfO mc mb m ρ1=some (fl,ρ'),fun σ' H' h=>⟨m,qaU m,h⟩,?_⟩;refine sb B G2 H2 σ1 ρ2 f ρ3 _ I2 e3 ?_;have ff:=f1.trans f2;cases f with
   |next=>exact fun G' H' σ' I3 f3=>⟨G',ρ3,I3,ff.trans f3,e1⟩
   |cont=>exact fun G' H' σ' I3 f3=>⟨G',ρ3,I3,ff.trans f3,e1⟩
   |brk=>obtain⟨rfl,rfl⟩:=cSp e1;exact fun G' H' σ' I3 f3=>k G' H' σ' I3 (ff.trans f3)
   |ret r=>obtain⟨rfl,rfl⟩:=cSp e1;exact fun G' H' σ' v I3 f3 rr=>k G' H' σ' v I3 (ff.trans f3) rr
end M
namespace M
open L2 PySem
def zhV:Sl->Sl->Bool
 | .own ds,.own es=>match za8 ds,za8 es with
  |some a,some b=>a==b
  |_,_=>false
 | .par ds,.par es=>match za8 ds,za8 es with
  |some a,some b=>a==b
  |_,_=>false
 | .own _,_=>false
 | .par _,_=>false
 | .tre _,_=>false
 | .ptr _,_=>false
 |_,_=>true
theorem zkD {ds es:List D}(h:(match za8 ds,za8 es with
  |some a,some b=>a==b
  |_,_=>false)=true):∃ns:List Int,ds=ns.map .int/\es=ns.map .int:=by
 cases a:za8 ds with
 |none=>rw[a]at h;cases h
 |some x=>
  cases b:za8 es with
  |none=>rw[a,b]at h;cases h
  |some y=>
   rw[a,b]at h;have e:x=y:=by simpa using h
   subst e;exact⟨x,zhk a,zhk b⟩
end M
namespace M
open L2 PySem PySem.Spec
open PyProof.Rows hiding St
def Sl.putT (s:Sl)(t:T):Sl:=match s with
 | .tre _=> .tre t
 | .ptr _=> .ptr t
 |s=>s
def Sl.tree:Sl->Option T
 | .tre t=>some t
 |_=>none
section
variable {J κ:Type} [DecidableEq J] [DecidableEq κ]
def lkD:List J->List D->J->Option D
 |k::ks,d::ds,j=>if k=j then some d else lkD ks ds j
 |_,_,_=>none
def ptD (ks:List J)(ds:List D)(j:J)(d:D):List J×List D:=if ks.contains j then(ks,List.zipWith (fun k x=>if k=j then d else x) ks ds)else(ks++[j],ds++[d])
variable {K:W.Frag} {G:Hp} {em:J->κ}
theorem zmc (inj:∀a b,em a=em b->a=b):∀{ks:List J} {ds:List D} {ys:List (κ×V)} {j:J} {d:D},ys.map (·.1)=ks.map em->RepL K G (ys.map (·.2)) ds->lkD ks ds j=some d->∃v,valV ys (em j)=some v/\RepD K G v d
 |[],_,_,_,_,_,_,h=>by exact cNN h
 |_::_,[],_,_,_,_,_,h=>by exact cNN h
 |k::ks,x::ds,[],j,d,e,_,_=>by cases e
 |k::ks,x::ds,y::ys,j,d,e,⟨z,zs,e1,r1,r2⟩,h=>by
  cases e1;have e2:=List.cons.inj e;unfold lkD at h
  by_cases q:k=j
  ·rw[if_pos q]at h;cases h;subst q;exact⟨y.2,zmw e2.1,r1⟩
  ·rw[if_neg q]at h;obtain⟨v,h1,h2⟩:=zmc inj e2.2 r2 h;refine⟨v,?_,h2⟩;rw[zkg fun z=>q (inj _ _ (e2.1.symm.trans z)),h1]
theorem zh3 (inj:∀a b,em a=em b->a=b):∀{ks:List J} {ds:List D} {ys:List (κ×V)} {j:J},ys.map (·.1)=ks.map em->RepL K G (ys.map (·.2)) ds->lkD ks ds j=none->valV ys (em j)=none
 |[],_,[],_,_,_,_=>rfl
 |[],_,_::_,_,e,_,_=>by cases e
 |_::_,_,[],_,e,_,_=>by cases e
 |k::ks,[],y::ys,_,_,r,_=>by cases r
 |k::ks,x::ds,y::ys,j,e,⟨z,zs,e1,r1,r2⟩,h=>by
  cases e1;have e2:=List.cons.inj e;unfold lkD at h
  by_cases q:k=j
  ·rw[if_pos q]at h;cases h
  ·rw[if_neg q]at h;rw[zkg fun z=>q (inj _ _ (e2.1.symm.trans z)),zh3 inj e2.2 r2 h]
theorem zk5 (inj:∀a b,em a=em b->a=b){ks:List J}{ds:List D}{ys:List (κ×V)}{j:J}(e:ys.map (·.1)=ks.map em)(r:RepL K G (ys.map (·.2)) ds):(valV ys (em j)).isSome=(lkD ks ds j).isSome:=by
 cases h:lkD ks ds j with
 |none=>rw[zh3 inj e r h];rfl
 |some d=>obtain⟨v,h1,_⟩:=zmc inj e r h;rw[h1];rfl
theorem pt_rep (inj:∀a b,em a=em b->a=b){ks:List J}{ds:List D}{ys:List (κ×V)}{j:J}{v:V}{d:D}(e:ys.map (·.1)=ks.map em)(r:RepL K G (ys.map (·.2)) ds)(rv:RepD K G v d):
  (putK ys (em j) v).map (·.1)=(ptD ks ds j d).1.map em/\RepL K G ((putK ys (em j) v).map (·.2)) (ptD ks ds j d).2:=by
 have any:(ys.any fun kv=>decide (kv.1=em j))=ks.contains j:=by
  clear r
  induction ys generalizing ks with
  |nil=>cases ks with
   |nil=>rfl
   |cons _ _=>cases e
  |cons y ys ih=>cases ks with
   |nil=>cases e
   |cons k ks=>
    have e2:=List.cons.inj e;rw[qbs,ih e2.2,qcm];congr 1
    by_cases q:j=k
    ·subst q;simp[e2.1]
    ·rw[qaa (fun z=>q (inj _ _ (e2.1.symm.trans z)).symm)];simp[q]
 unfold putK ptD;rw[any]
 by_cases q:ks.contains j=true
 ·rw[if_pos q,if_pos q]
  constructor
  ·rw[qb4,<-e];apply qcn;intro a _;simp only[Function.comp]
   split<;>rfl
  ·clear any q;rw[qb4]
   induction ys generalizing ks ds with
   |nil=>cases ks with
    |nil=>exact RepL.nil
    |cons _ _=>cases e
   |cons y ys ih=>cases ks with
    |nil=>cases e
    |cons k ks=>
     have e2:=List.cons.inj e;cases ds with
     |nil=>cases r
     |cons x ds=>
      obtain⟨z,zs,e1,r1,r2⟩:=r;cases e1;refine RepL.cons ?_ (ih e2.2 r2);simp only[Function.comp]
      by_cases q:k=j
      ·rw[if_pos q,if_pos (by rw[<-q];exact e2.1)];exact rv
      ·rw[if_neg q,if_neg fun z=>q (inj _ _ (e2.1.symm.trans z))];exact r1
 ·rw[if_neg q,if_neg q];rw[qb3,qb3,qb3,e];exact⟨rfl,r.append (.cons rv .nil)⟩
end
theorem zis (a b:Int)(h:kI a=kI b):a=b:=by cases h;rfl
def Sl.dic:Sl->Option (List Int×List D)
 | .tre (.dic ks ds)=>some (ks,ds)
 | .val (.dic ks ds)=>some (ks,ds)
 |_=>none
def tDI (j:Nat)(neg:Bool)(mk:ME):MT:=fun ρ=>(mk ρ).bind fun p=>match p.1 with
 | .int k=>(p.2[j]?.bind Sl.dic).map fun q=>(((lkD q.1 q.2 k).isSome !=neg),p.2)
 |_=>none
def fzD (j:Nat)(ρ:R):R:=match ρ[j]? with
 |some (.tre (.dic ks ds))=>ρ.set j (.val (.dic ks ds))
 |_=>ρ
def eCallMO (F:List D->List D->Option (Sl×List D))(mo:MO)(ma:MA):ME:=fun ρ=>(mo ρ).bind fun p=>(ma p.2).bind fun q=>(F p.1 q.1).bind fun r=>match r.1 with
 | .val d=>some (d,q.2)
 | .own ds=>some (.lst ds,q.2)
 |_=>none
def Ch.sl:Ch->Sl
 | .d x=> .val x
 | .l ds=> .own ds
 | .t xss=> .tre (.lst (xss.map .l))
def putCs:List Nat->List Ch->R->R
 |i::is,c::cs,ρ=>putCs is cs (ρ.set i c.sl)
 |_,_,ρ=>ρ
def sUnT (j:Nat)(is:List Nat):MS:=fun ρ=>match ρ[j]? with
 |some (.tre (.lst cs))=>if cs.length=is.length then some (.next,putCs is cs (ρ.set j .emp))else none
 |_=>none
end M
namespace M
open L2 PySem PySem.Spec
open PyProof.Rows hiding St
open Classical in
def fMT (N:Nat)(m:MS):List D->T->List D->Option (Sl×List D):=fun cs t ds=>(m (.par cs:: .tre t::(ds.map .val++List.replicate (N-(ds.length+2)) .emp))).bind fun p=>match p.1,(p.2[0]?:Option Sl)with
 |Fl.ret r,some (Sl.par out)=>some (r,out)
 |Fl.next,some (Sl.par out)=>some (.val .non,out)
 |_,_=>none
abbrev MP':=R->Option (List Ch×R)
end M
namespace M
open L2 PySem PySem.Spec
open PyProof.Rows hiding St
def Ch.D:Ch->M.D
 | .d x=>x
 | .l ds=> .lst ds
 | .t xss=> .lst (xss.map .lst)
section
variable {K:W.Frag} {B:Bs} {G G' H H':Hp} {σ:St} {ρ:R}
theorem zmG {Gz:Hp}(fg:Fz G Gz):∀{xs:List V} {dss:List (List D)} {A:List Addr},RepTb K G H xs dss A->(∀a∈A,Gz a=H a)->RepL K Gz xs (dss.map .lst)
 |[],[],_,_,_=>rfl
 |x::xs,ds::dss,_,⟨r,ys,A2,e1,e2,e3,e4,e5⟩,h=>⟨x,xs,rfl,⟨r,ys,e1,by rw[h r (by rw[e5];simp)];exact e2,e3.mono fg⟩,zmG fg e4 fun a m=>h a (by rw[e5];simp[m])⟩
 |[],_::_,_,h,_=>h.elim
 |_::_,[],_,h,_=>h.elim
theorem nw_emp (I:SI K B G H σ ρ){i:Nat}{s:Sl}{a:Addr}(e:ρ[i]? =some s)(w:OwS K G H σ[i]? a s):Nw K G H σ (ρ.set i .emp) a:=fun j t ej w'=>by
 by_cases z:j=i
 ·subst z;rw[qbz,if_pos rfl]at ej
  split at ej
  ·cases ej;exact w'
  ·exact cNN ej
 ·rw[qav (Ne.symm z)]at ej;exact I.dis j i t s a z ej e w' w
open Classical in
def frA (G H:Hp)(A:List Addr):Hp:=fun b=>if b∈A then H b else G b
theorem zhI {G H:Hp}{A:List Addr}{b:Addr}(h:b∈A):frA G H A b=H b:=by unfold frA;rw[if_pos h]
theorem zer {G H:Hp}{A:List Addr}{b:Addr}(h:b∉A):frA G H A b=G b:=by unfold frA;rw[if_neg h]
theorem znW {G H:Hp}{A:List Addr}(hA:∀a∈A,G a=none):Fz G (frA G H A):=fun b o e=>by
 rw[zer fun m=>by rw[hA b m]at e;cases e];exact e
theorem SI.frzA (I:SI K B G H σ ρ){A:List Addr}(hA:∀a∈A,G a=none/\B.H a=none/\Nw K G H σ ρ a):SI K B (frA G H A) H σ ρ:=
 I.move (fun a u q=>by
  by_cases m:a∈A
  ·rw[zhI m]at q;exact q
  ·rw[zer m]at q;exact I.fz a u q) (znW fun a m=>(hA a m).1) (fun b u q=>by
  by_cases m:b∈A
  ·exact .inr (hA b m).2.1
  ·rw[zer m]at q;exact I.new b u q) I.keep I.there (fun i s a e w g _=>⟨by rw[zer fun m=>(hA a m).2.2 i s e w];exact g,rfl⟩)
end
def sTA (i j:Nat):MS:=fun ρ=>match ρ[i]?,ρ[j]? with
 |some (.tre (.lst cs)),some (.own ds)=>if cs.length<16777216 then some (.next,(ρ.set j .emp).set i (.tre (.lst (cs++[.l ds]))))else none
 |_,_=>none
abbrev MQ:=R->Option D
def fzT (j:Nat)(ρ:R):R:=match ρ[j]? with
 |some (.tre (.lst cs))=>ρ.set j (.val (.lst (cs.map Ch.D)))
 |_=>ρ
section
variable {X:Cx} {x y:Str} {pos p' q' tpos:Pos}
variable {e:Expr} {es:List Expr} {ma:MA} {k k' n:Nat} {F:List D->Option Sl}
variable {a b:Expr} {mi mk:MQ}
def sPar (i j:Nat)(ma:MA):MS:=fun ρ=>(ma ρ).bind fun p=>match p.1 with
 |[c,d]=>some (.next,(p.2.set i (.val c)).set j (.val d))
 |_=>none
end
end M
namespace M
local macro_rules | `(tactic| ac_rfl) => `(tactic| first | exact M.nA (by decide) | exact M.nB (by decide) | exact M.nC (by decide) | exact M.nL (by assumption) | exact Nat.ne_of_lt (by assumption) | lia)
open L2 PySem PySem.Spec
open PyProof.Rows hiding St
open Sem (wp)
variable {a b u:Value} {Q E:Value->Shared->Prop} {i:Nat} {prog:Program} {w:World} {A:Around} {s:Shared} {tg:Expr} {K:W.Frag} {X:Cx} {p pos:Pos}
abbrev zdP (h:Heap)(z TI TO:Addr)(f0:Value)(b:Bool):Prop:=h.get? z=some {cls:= .type "zip",data:= .fields #[f0,.bool b,.bool false,.ref TI,.ref TO]}
def ZipAt (h:Heap)(z TI TO:Addr):Prop:=∃f0 b,zdP h z TI TO f0 b/\(f0= .none\/∃T:Nat,f0=rawInt T)
section
variable {prog:Program} {w:World} {A:Around} {E:Value->Shared->Prop} {s:Shared}
theorem zoT {a:Addr}{Q:Option Obj->Shared->Prop}(h:Q (s.heap.get? a) s):wpAny (model prog w) A (loadIfAlive a) Q E s:=fun Γ p hΓ=>by
 show Sem.wp _ _ (Sem.loadIfAlive a Sem.pure) _ _ p s;rw[Sem.wp_loadIfAlive];exact(qaE (M:=model prog w) (A:=A) (E:=E) h) Γ p hΓ
theorem zoI {z TI TO:Addr}{f0:Value}{b:Bool}(hz:zdP s.heap z TI TO f0 b)(hf:f0= .none\/∃T:Nat,f0=rawInt T){Q:Bool->Shared->Prop}(h1:Q true s)
  (h2:∀h',zdP h' z TI TO f0 true->Heap.SameBut z s.heap h'->Q false {s with heap:=h'}):wpAny (model prog w) A (Builtin.SmallTypes.ownedTupleIsFree (.ref z)) Q E s:=by
 unfold Builtin.SmallTypes.ownedTupleIsFree;refine qaA (qbi hz rfl (x:=f0) rfl ?_);rcases hf with rfl|⟨T,rfl⟩
 ·exact qaE h1
 ·refine(?_:wpAny _ _ (loadIfAlive _>>=_) _ _ _);refine qaA (zoT ?_);cases e:s.heap.get? (T:Int).toNat with
  |none=>exact qaE h1
  |some o=>
   refine(?_:wpAny _ _ (field (.ref z) 1>>=_) _ _ _);refine qaA (qbi hz rfl (x:= .bool b) rfl ?_);cases b
   ·refine(?_:wpAny _ _ (setField (.ref z) 1 (.bool true)>>=_) _ _ _);exact qaA (qco hz (by simp) fun g1 z1 s1=>qaE (h2 g1 z1 s1))
   ·exact qaE (h2 s.heap hz ⟨rfl,fun _ _=>rfl⟩)
variable {N a1 a2:Nat} {n1 n2:Nat} {P1 P2:Nat->Value->Prop} {S1 S2:Nat->Heap->Prop}
theorem znw (D1:Draws prog w A N [N,a1] n1 P1 S1)(D2:Draws prog w A (N+1) [N+1,a2] n2 P2 S2)(l1:a1<N)(l2:a2<N)
  (hz':ZipAt s.heap (N+4) (N+2) (N+3)) (hTI:IsPair s.heap (N+2) (.ref N) (.ref (N+1))) (hTO:IsPair s.heap (N+3) a b) (h1:S1 i s.heap) (h2:S2 i s.heap) (i1:i<n1) (i2:i<n2)
  (k : ∀ x y h' tk, P1 i x -> P2 i y -> ZipAt h' (N + 4) (N + 2) (N + 3) -> (∃ a b, IsPair h' (N + 3) a b) -> S1 (i + 1) h' -> S2 (i + 1) h' -> IsPair h' s.heap.objs.size x y ->
   (∀c o,c≠N->c≠N+1->c≠N+3->c≠N+4->s.heap.get? c=some o->h'.get? c=some o)->Q (.ref s.heap.objs.size) {s with heap:=h',toks:=tk}):
  wpAny (model prog w) A (Builtin.«zip.__next__» ⟨[.ref (N+4)],[]⟩) (fun fin s'=>∃v,fin= .done (.ret v)/\Q v s') E s:=by
 obtain⟨f0,bb,hz,hf⟩:=hz';refine(?_:wpAny _ _ (field (.ref (N+4)) 2>>=_) _ _ _);refine qaA (qbi hz rfl (x:= .bool false) rfl (?_:wpAny _ _ (field (.ref (N+4)) 3>>=_) _ _ _));refine qaA (qbi hz rfl (x:= .ref (N+2)) rfl (qaA (qb7 hTI rfl (?_:wpAny _ _ (Builtin.SmallTypes.ownedTupleIsFree (.ref (N+4))>>=_) _ _ _))));refine qaA (zoI hz hf ?_ fun g0 z0 s0=>?_)
 ·simp only[if_true];refine qaA (wpAny_rule (qaA (qbi hz rfl (x:= .ref (N+3)) rfl (qaA (qco hz (by simp) fun g1 z1 s1=>qaA ?_)))))
  replace z1:zdP g1 (N+4) (N+2) (N+3) .ellipsis bb:=z1
  simp only[List.zipIdx_cons,List.zipIdx_nil,qbO,qbT];refine qaA (qaA (qcp (?_:wpAny _ _ (Builtin.SmallTypes.nextOf (.ref N)>>=_) _ _ _)));have e1:S1 i g1:=D1.frame _ _ _ h1 fun b hb o e=>(s1.2 b (nin2 hb (by ac_rfl) (by ac_rfl))).trans e
  refine qaA (D1.item i _ _ _ i1 e1 fun x g2 t2 p1 f2 s2=>qaE ?_);have q2:IsPair g2 (N+3) a b:=(s2.2 _ (ne_ (by ac_rfl))).trans ((s1.2 _ (ne_ (by ac_rfl))).trans hTO);refine qaA (qb7 q2 rfl (qaA (qcq q2 fun g3 q3 s3=>qaA (qcj (qaE ?_)))))
  replace q3:IsPair g3 (N+3) x b:=q3
  refine qaA (qaA (qcp (?_:wpAny _ _ (Builtin.SmallTypes.nextOf (.ref (N+1))>>=_) _ _ _)));have e3:S2 i g3:=D2.frame _ _ _ h2 fun b hb o e=>(s3.2 b (nin2 hb (by ac_rfl) (by ac_rfl))).trans ((s2.2 b (nin2 hb (by ac_rfl) (by ac_rfl))).trans ((s1.2 b (nin2 hb (by ac_rfl) (by ac_rfl))).trans e))
  refine qaA (D2.item i _ _ _ i2 e3 fun y g4 t4 p2 f4 s4=>qaE ?_);have q4:IsPair g4 (N+3) x b:=(s4.2 _ (ne_ (by ac_rfl))).trans q3;refine qaA (qb7 q4 rfl (qaA (qcq q4 fun g5 q5 s5=>qaA (qcj (qaE (qaE ?_))))))
  replace q5:IsPair g5 (N+3) x y:=q5
  have sz:g5.objs.size=s.heap.objs.size:=by rw[s5.1,s4.1,s3.1,s2.1,s1.1]
  have z5:zdP g5 (N+4) (N+2) (N+3) .ellipsis bb:=(s5.2 _ (ne_ (by ac_rfl))).trans ((s4.2 _ (ne_ (by ac_rfl))).trans ((s3.2 _ (ne_ (by ac_rfl))).trans ((s2.2 _ (ne_ (by ac_rfl))).trans z1)));have zl:(N+4:Nat)<g5.objs.size:=qad z5;have k5:∀c o,c≠N->c≠N+1->c≠N+3->c≠N+4->s.heap.get? c=some o->g5.get? c=some o:=fun c o c1 c2 c3 c4 e=>(s5.2 c c3).trans ((s4.2 c c2).trans ((s3.2 c c3).trans ((s2.2 c c1).trans ((s1.2 c c4).trans e))))
  have f5:S1 (i+1) g5:=D1.frame _ _ _ f2 fun b hb o e=>(s5.2 b (nin2 hb (by ac_rfl) (by ac_rfl))).trans ((s4.2 b (nin2 hb (by ac_rfl) (by ac_rfl))).trans ((s3.2 b (nin2 hb (by ac_rfl) (by ac_rfl))).trans e))
  have f5':S2 (i+1) g5:=D2.frame _ _ _ f4 fun b hb o e=>(s5.2 b (nin2 hb (by ac_rfl) (by ac_rfl))).trans e
  refine qaA (qb7 q5 rfl (qaA (wpAny_newTuple (?_:wpAny _ _ (Builtin.SmallTypes.ownedTupleHandOut (.ref (N+4)) (.ref g5.objs.size)>>=_) _ _ _))));refine qaA ?_;unfold Builtin.SmallTypes.ownedTupleHandOut;refine qaA (qco (show zdP (g5.push {cls:= .type "tuple",data:= .seq #[x,y]}) (N+4) (N+2) (N+3) .ellipsis bb from qaF _ z5) (by simp) fun g7 z7 s7=>?_)
  replace z7:zdP g7 (N+4) (N+2) (N+3) (rawInt g5.objs.size) bb:=z7
  refine qco z7 (by simp) fun g8 z8 s8=>qaE ⟨_,rfl,?_⟩
  replace z8:zdP g8 (N+4) (N+2) (N+3) (rawInt g5.objs.size) false:=z8
  have up:∀c o,c≠N+4->g5.get? c=some o->g8.get? c=some o:=fun c o c1 e=>(s8.2 c c1).trans ((s7.2 c c1).trans (qaF _ e))
  have T8:IsPair g8 g5.objs.size x y:=(s8.2 _ (ne_ (by ac_rfl))).trans ((s7.2 _ (ne_ (by ac_rfl))).trans (qaG _ rfl));rw[sz]at z8 T8;refine(?_:Q (.ref g5.objs.size) _);rw[sz];exact k x y g8 _ p1 p2 ⟨_,_,z8,.inr ⟨_,rfl⟩⟩ ⟨_,_,up _ _ (ne_ (by ac_rfl)) q5⟩ (D1.frame _ _ _ f5 fun b hb o e=>up b o (nin2 hb (by ac_rfl) (by ac_rfl)) e) (D2.frame _ _ _ f5' fun b hb o e=>up b o (nin2 hb (by ac_rfl) (by ac_rfl)) e) T8 fun c o c1 c2 c3 c4 e=>up c o c4 (k5 c o c1 c2 c3 c4 e)
 ·simp only[qbU,qbh];simp only[List.forIn_toArray,qbO,qbT];have e0:S1 i g0:=D1.frame _ _ _ h1 fun b hb o e=>(s0.2 b (nin2 hb (by ac_rfl) (by ac_rfl))).trans e
  refine qaA (qaA (qaA (qaB (?_:wpAny _ _ (Builtin.SmallTypes.nextOf (.ref N)>>=_) _ _ _))));refine qaA (D1.item i _ _ _ i1 e0 fun x g2 t2 p1 f2 s2=>qaE (qaE ?_));refine qaA (qaA (qaB (?_:wpAny _ _ (Builtin.SmallTypes.nextOf (.ref (N+1))>>=_) _ _ _)));have e3:S2 i g2:=D2.frame _ _ _ h2 fun b hb o e=>(s2.2 b (nin2 hb (by ac_rfl) (by ac_rfl))).trans ((s0.2 b (nin2 hb (by ac_rfl) (by ac_rfl))).trans e)
  refine qaA (D2.item i _ _ _ i2 e3 fun y g4 t4 p2 f4 s4=>qaE (qaE (qaE ?_)));have sz:g4.objs.size=s.heap.objs.size:=by rw[s4.1,s2.1,s0.1]
  have z4:zdP g4 (N+4) (N+2) (N+3) f0 true:=(s4.2 _ (ne_ (by ac_rfl))).trans ((s2.2 _ (ne_ (by ac_rfl))).trans z0);have f4':S1 (i+1) g4:=D1.frame _ _ _ f2 fun b hb o e=>(s4.2 b (nin2 hb (by ac_rfl) (by ac_rfl))).trans e
  refine(?_:wpAny _ _ (newTuple [x,y]>>=_) _ _ _);refine qaA (wpAny_newTuple (qaE ⟨_,rfl,?_⟩));have k5:∀c o,c≠N->c≠N+1->c≠N+3->c≠N+4->s.heap.get? c=some o->g4.get? c=some o:=fun c o c1 c2 c3 c4 e=>(s4.2 c c2).trans ((s2.2 c c1).trans ((s0.2 c c4).trans e))
  have q4:IsPair g4 (N+3) a b:=(s4.2 _ (ne_ (by ac_rfl))).trans ((s2.2 _ (ne_ (by ac_rfl))).trans ((s0.2 _ (ne_ (by ac_rfl))).trans hTO));have T8:IsPair (g4.push {cls:= .type "tuple",data:= .seq #[x,y]}) g4.objs.size x y:=qaG _ rfl;rw[sz]at T8;refine(?_:Q (.ref g4.objs.size) _);rw[sz];exact k x y _ _ p1 p2 ⟨_,_,qaF _ z4,hf⟩ ⟨_,_,qaF _ q4⟩ (D1.frame _ _ _ f4' fun b hb o e=>qaF _ e) (D2.frame _ _ _ f4 fun b hb o e=>qaF _ e) T8 fun c o c1 c2 c3 c4 e=>qaF _ (k5 c o c1 c2 c3 c4 e)
theorem zpr {Q:Fin->Shared->Prop}(D1:Draws prog w A N [N,a1] n1 P1 S1)(D2:Draws prog w A (N+1) [N+1,a2] n2 P2 S2)(l1:a1<N)(l2:a2<N)
  (hz':ZipAt s.heap (N+4) (N+2) (N+3)) (hTI:IsPair s.heap (N+2) (.ref N) (.ref (N+1))) (hTO:IsPair s.heap (N+3) a b) (h1:S1 i s.heap) (h2:S2 i s.heap) (hi:i=n1\/(i<n1/\i=n2))
  (k:∀h' e tk,(∀c o,c≠N->c≠N+1->c≠N+3->c≠N+4->s.heap.get? c=some o->h'.get? c=some o)->(∃o,h'.get? e=some o/\o.cls= .type "StopIteration")->E (.ref e) {s with heap:=h',toks:=tk}):
  wpAny (model prog w) A (Builtin.«zip.__next__» ⟨[.ref (N+4)],[]⟩) Q E s:=by
 obtain⟨f0,bb,hz,hf⟩:=hz';refine(?_:wpAny _ _ (field (.ref (N+4)) 2>>=_) _ _ _);refine qaA (qbi hz rfl (x:= .bool false) rfl (?_:wpAny _ _ (field (.ref (N+4)) 3>>=_) _ _ _));refine qaA (qbi hz rfl (x:= .ref (N+2)) rfl (qaA (qb7 hTI rfl (?_:wpAny _ _ (Builtin.SmallTypes.ownedTupleIsFree (.ref (N+4))>>=_) _ _ _))));refine qaA (zoI hz hf ?_ fun g0 z0 s0=>?_)
 ·simp only[if_true];refine qaA (wpAny_rule (qaA (qbi hz rfl (x:= .ref (N+3)) rfl (qaA (qco hz (by simp) fun g1 z1 s1=>qaA ?_)))))
  replace z1:zdP g1 (N+4) (N+2) (N+3) .ellipsis bb:=z1
  simp only[List.zipIdx_cons,List.zipIdx_nil,qbO,qbT];refine qaA (qaA (qcp (?_:wpAny _ _ (Builtin.SmallTypes.nextOf (.ref N)>>=_) _ _ _)));have e1:S1 i g1:=D1.frame _ _ _ h1 fun b hb o e=>(s1.2 b (nin2 hb (by ac_rfl) (by ac_rfl))).trans e
  rcases hi with rfl|⟨i1,rfl⟩
  ·refine qaA (D1.done _ _ _ e1 fun g2 e x2 he=>?_);obtain⟨oe,hoe,hce⟩:=he;have z2:zdP g2 (N+4) (N+2) (N+3) .ellipsis bb:=x2 _ _ (ne_ (by ac_rfl)) z1;have hez:e≠N+4:=fun x=>by subst x;rw[z2]at hoe;cases hoe;simp at hce
   exact qco z2 (by simp) fun g3 _ s3=>k g3 e _ (fun c o c1 c2 c3 c4 x=>(s3.2 c c4).trans (x2 c o c1 ((s1.2 c c4).trans x))) ⟨oe,(s3.2 _ hez).trans hoe,hce⟩
  ·refine qaA (D1.item i _ _ _ i1 e1 fun x g2 t2 p1 f2 s2=>qaE ?_);have q2:IsPair g2 (N+3) a b:=(s2.2 _ (ne_ (by ac_rfl))).trans ((s1.2 _ (ne_ (by ac_rfl))).trans hTO);refine qaA (qb7 q2 rfl (qaA (qcq q2 fun g3 q3 s3=>qaA (qcj (qaE ?_)))))
   replace q3:IsPair g3 (N+3) x b:=q3
   refine qaA (qaA (qcp (?_:wpAny _ _ (Builtin.SmallTypes.nextOf (.ref (N+1))>>=_) _ _ _)));have e3:S2 i g3:=D2.frame _ _ _ h2 fun b hb o e=>(s3.2 b (nin2 hb (by ac_rfl) (by ac_rfl))).trans ((s2.2 b (nin2 hb (by ac_rfl) (by ac_rfl))).trans ((s1.2 b (nin2 hb (by ac_rfl) (by ac_rfl))).trans e))
   refine qaA (D2.done _ _ _ e3 fun g4 e x4 he=>?_);obtain⟨oe,hoe,hce⟩:=he;have z3:zdP g3 (N+4) (N+2) (N+3) .ellipsis bb:=(s3.2 _ (ne_ (by ac_rfl))).trans ((s2.2 _ (ne_ (by ac_rfl))).trans z1);have z4:zdP g4 (N+4) (N+2) (N+3) .ellipsis bb:=x4 _ _ (ne_ (by ac_rfl)) z3;have hez:e≠N+4:=fun x=>by subst x;rw[z4]at hoe;cases hoe;simp at hce
   exact qco z4 (by simp) fun g5 _ s5=>k g5 e _ (fun c o c1 c2 c3 c4 x=>(s5.2 c c4).trans (x4 c o c2 ((s3.2 c c3).trans ((s2.2 c c1).trans ((s1.2 c c4).trans x))))) ⟨oe,(s5.2 _ hez).trans hoe,hce⟩
 ·simp only[qbU,qbh,List.forIn_toArray,qbO,qbT];have e0:S1 i g0:=D1.frame _ _ _ h1 fun b hb o e=>(s0.2 b (nin2 hb (by ac_rfl) (by ac_rfl))).trans e
  refine qaA (qaA (qaA (qaB (?_:wpAny _ _ (Builtin.SmallTypes.nextOf (.ref N)>>=_) _ _ _))));rcases hi with rfl|⟨i1,rfl⟩
  ·refine qaA (D1.done _ _ _ e0 fun g2 e x2 he=>?_);exact k g2 e _ (fun c o c1 c2 c3 c4 x=>x2 c o c1 ((s0.2 c c4).trans x)) he
  ·refine qaA (D1.item i _ _ _ i1 e0 fun x g2 t2 p1 f2 s2=>qaE (qaE ?_));refine qaA (qaA (qaB (?_:wpAny _ _ (Builtin.SmallTypes.nextOf (.ref (N+1))>>=_) _ _ _)));have e3:S2 i g2:=D2.frame _ _ _ h2 fun b hb o e=>(s2.2 b (nin2 hb (by ac_rfl) (by ac_rfl))).trans ((s0.2 b (nin2 hb (by ac_rfl) (by ac_rfl))).trans e)
   refine qaA (D2.done _ _ _ e3 fun g4 e x4 he=>?_);exact k g4 e _ (fun c o c1 c2 c3 c4 x=>x4 c o c2 ((s2.2 c c1).trans ((s0.2 c c4).trans x))) he
end
theorem ZipAt.at {h h':Heap}{z TI TO:Addr}(x:ZipAt h z TI TO)(e:∀o,h.get? z=some o->h'.get? z=some o):ZipAt h' z TI TO:=by
 obtain⟨f0,b,q,r⟩:=x;exact⟨f0,b,e _ q,r⟩
theorem zlH {z TI TO:Addr}(hz:ZipAt s.heap z TI TO)(h:Q (.ref z) s):wpAny (model prog w) A (pyIter (.ref z)) Q E s:=by
 obtain⟨f0,b,q,r⟩:=hz;have hT:s.TypeIs (.ref z) "zip":=⟨_,q,rfl⟩;exact wpAny_pyIter_slot hT F.slot_zip_iter (qbl F.slot_zip_iter hT F.entry_zip_iter (qaE ⟨.ref z,rfl,"zip",.builtin "zip.__next__",hT,F.slot_zip_next.lookup,h⟩) (F.args_zip_iter_1 (.ref z)))
theorem letGoZ {z TI TO:Addr}{Q:Unit->Shared->Prop}(hz:ZipAt s.heap z TI TO)(h1:Q () s)
  (h2:∀h',ZipAt h' z TI TO->Heap.SameBut z s.heap h'->Q () {s with heap:=h'}):wpAny (model prog w) A (letOwnedTupleGo tg (.ref z) u) Q E s:=by
 obtain⟨f0,b,q,r⟩:=hz;have core:∀a:Addr,wpAny (model prog w) A (do
   let o<-load z
   match o.cls,o.data with
    |Value.type n,Data.fields vs=>
     if(["enumerate","zip","dict_itemiterator","dict_reverseitemiterator","odict_iterator","itertools.zip_longest","itertools.pairwise"].contains n&&vs[0]? ==some (rawInt ↑a))=true then do
      rule "for.unpacks-the-owned-tuple"
      updateField z 0 Value.none
     else pure ()
    |x,x_1=>pure ()) Q E s:=fun a=>by
  refine qaA (wpAny_load q ?_);dsimp only
  split
  ·refine qaA (wpAny_rule ?_);refine(?_:wpAny _ _ (setField (.ref z) 0 .none) _ _ _);exact qco q (by simp) fun g1 z1 s1=>h2 g1 ⟨_,_,z1,.inl rfl⟩ s1
  ·exact qaE h1
 unfold letOwnedTupleGo;cases tg<;>first|exact qaE h1|(cases u<;>first|exact qaE h1|exact core _)
theorem znB {P:Program}{w:World}(t1:Bool)(a1:Nat)(t2:Bool)(a2:Nat)(n N:Nat)(l1:a1<N)(l2:a2<N):
  Turn P w K tg (Itz2 K t1 a1 t2 a2 n) ([N,N+1,N+2,N+3,N+4]:List Nat) (N+4:Nat)
   (fun i h=>i<=n/\ZipAt h (N+4:Nat) (N+2:Nat) (N+3:Nat)/\IsPair h (N+2:Nat) (.ref N) (.ref (N+1:Nat))/\(∃a b,IsPair h (N+3:Nat) a b)/\SrcIt t1 h N a1 i/\SrcIt t2 h (N+1:Nat) a2 i) where
 mem:=by simp
 obj:=fun i h st b hb=>by
  obtain⟨-,h4,h2,⟨a,c,h3⟩,h0,h1⟩:=st;simp only[qaq,qcc,or_false]at hb;rcases hb with rfl|rfl|rfl|rfl|rfl
  ·exact h0.obj
  ·exact h1.obj
  ·exact⟨_,h2,fun v z=>by cases z⟩
  ·exact⟨_,h3,fun v z=>by cases z⟩
  ·obtain⟨f0,bb,z4,-⟩:=h4;exact⟨_,z4,fun v z=>by cases z⟩
 keep:=fun i h h' st k=>by
  obtain⟨hi,h4,h2,⟨a,c,h3⟩,h0,h1⟩:=st;exact⟨hi,h4.at fun o e=>k _ (by simp) o e,k _ (by simp) _ h2,⟨a,c,k _ (by simp) _ h3⟩,h0.at fun o e=>k _ (by simp) o e,h1.at fun o e=>k _ (by simp) o e⟩
 item:=by
  intro X hP hw hK hc i pins s σ H E I hf st hg;subst hP hw hK;obtain⟨hi,h4,h2,⟨a,c,h3⟩,h0,h1⟩:=st;obtain⟨hn,xs,ys,q1,q2,en⟩:=hg;obtain⟨us,ru,hu,zu⟩:=q1.heap I;obtain⟨ws,rw',hw',zw⟩:=q2.heap I;have lu:=ru.length;have lw:=rw'.length;have D1:=zdR (prog:=X.prog) (w:=X.w) (A:=X.A.in1) (t:=t1) (I.ok.hd hc) N a1 (ne_ (by ac_rfl)) us.toArray;have D2:=zdR (prog:=X.prog) (w:=X.w) (A:=X.A.in1) (t:=t2) (I.ok.hd hc) (N+1) a2 (ne_ (by ac_rfl)) ws.toArray;have z4:=h4;obtain⟨f0,bb,z4,-⟩:=z4;have hT:s.TypeIs (.ref (N+4:Nat)) "zip":=⟨_,z4,rfl⟩;unfold pyNext;refine qaA (qcr (qbj (name:=Str.ofString "__next__") hT qcs (qbl qcs hT F.entry_zip_next
   (znw D1 D2 l1 l2 h4 h2 h3 ⟨h0,hu⟩ ⟨h1,hw'⟩ (by simp;lia) (by simp;lia) fun x y h' tk p1 p2 g4 g3 g0 g1 gT kk=>qaE ?_) (F.args_zip_next_1 _))))
  obtain⟨x1,hx1⟩:∃x1,xs[i]? =some x1:=⟨xs[i]'(by lia),qbG _⟩;obtain⟨x2,hx2⟩:∃x2,ys[i]? =some x2:=⟨ys[i]'(by lia),qbG _⟩;obtain⟨u1,hu1,r1⟩:=ru.get hx1;obtain⟨u2,hu2,r2⟩:=rw'.get hx2;have e1:u1=x:=by
   have:us[i]? =some x:=by simpa using p1
   rw[hu1]at this;cases this;rfl
  have e2:u2=y:=by
   have:ws[i]? =some y:=by simpa using p2
   rw[hu2]at this;cases this;rfl
  subst e1 e2;refine⟨_,rfl,?_⟩;have fin:∀h'',ZipAt h'' (N+4:Nat) (N+2:Nat) (N+3:Nat)->Heap.SameBut (N+4:Nat) h' h''->∃x H',L2.Inv X pins σ H' {s with heap:=h'',toks:=tk}/\RelV x (.ref s.heap.objs.size)/\(Itz2 X.K t1 a1 t2 a2 n).yld i H x H'/\(i+1<=n/\ZipAt h'' (N+4:Nat) (N+2:Nat) (N+3:Nat)/\IsPair h'' (N+2:Nat) (.ref N) (.ref (N+1:Nat))/\(∃a b,IsPair h'' (N+3:Nat) a b)/\SrcIt t1 h'' N a1 (i+1)/\SrcIt t2 h'' (N+1:Nat) a2 (i+1))/\∀b∈([N,N+1,N+2,N+3,N+4]:List Nat),H' b=none:=fun h'' z'' sb=>by
   have lz:N+4<s.heap.objs.size:=qad z4;have kk':∀b o,b∉([N,N+1,N+2,N+3,N+4]:List Nat)->s.heap.get? b=some o->h''.get? b=some o:=fun b o hb e=>by
    obtain⟨c1,c2,c3,c4⟩:=nin4 hb;exact(sb.2 b c4).trans (kk b o c1 c2 c3 c4 e)
   have I1:=zp8 (t':=tk) (vs:=[x1,x2]) (its:=[u1,u2]) I kk' hf (fun b hb=>by
    have:b=N\/b=N+1\/b=N+2\/b=N+3\/b=N+4:=by simpa using hb
    exact qbH (show(b:Nat)<=N+4 by rcases this with h|h|h|h|h<;>rw[h]<;>simp) lz) ((sb.2 _ (ne_ (by ac_rfl))).trans gT) (by simp;rw[qaL];decide) (.cons r1 (.cons r2 .nil))
   refine⟨.ref s.heap.objs.size,_,I1,rfl,⟨_,x1,x2,I.hok.fresh (qaH _),rfl,rfl,fun xs' ys' b1 b2=>?_⟩,⟨hn,z'',(sb.2 _ (ne_ (by ac_rfl))).trans (kk _ _ (ne_ (by ac_rfl)) (ne_ (by ac_rfl)) (ne_ (by ac_rfl)) (ne_ (by ac_rfl)) h2),(let⟨a',b',e'⟩:=g3;⟨a',b',(sb.2 _ (ne_ (by ac_rfl))).trans e'⟩),SrcIt.at g0.1 fun o e=>(sb.2 _ (ne_ (by ac_rfl))).trans e,SrcIt.at g1.1 fun o e=>(sb.2 _ (ne_ (by ac_rfl))).trans e⟩,fun b hb=>?_⟩
   ·rw[SrcSq.inj I b1 q1,SrcSq.inj I b2 q2];exact⟨hx1,hx2⟩
   ·have:b=N\/b=N+1\/b=N+2\/b=N+3\/b=N+4:=by simpa using hb
    rw[zam (qag (qbH (show(b:Nat)<=N+4 by rcases this with h|h|h|h|h<;>rw[h]<;>simp) lz))]
    exact(hf b hb).1
  exact letGoZ (s:={s with heap:=h',toks:=tk}) g4 (fin h' g4 ⟨rfl,fun _ _=>rfl⟩) fun h'' z'' sb=>fin h'' z'' sb
 done:=by
  intro X hP hw hK hc i pins s σ H E I hf st hg;subst hP hw hK;obtain⟨hi,h4,h2,⟨a,c,h3⟩,h0,h1⟩:=st;obtain⟨hn,xs,ys,q1,q2,en⟩:=hg;obtain⟨us,ru,hu,zu⟩:=q1.heap I;obtain⟨ws,rw',hw',zw⟩:=q2.heap I;have lu:=ru.length;have lw:=rw'.length;have D1:=zdR (prog:=X.prog) (w:=X.w) (A:=X.A.in1) (t:=t1) (I.ok.hd hc) N a1 (ne_ (by ac_rfl)) us.toArray;have D2:=zdR (prog:=X.prog) (w:=X.w) (A:=X.A.in1) (t:=t2) (I.ok.hd hc) (N+1) a2 (ne_ (by ac_rfl)) ws.toArray;have z4:=h4;obtain⟨f0,bb,z4,-⟩:=z4;have hT:s.TypeIs (.ref (N+4:Nat)) "zip":=⟨_,z4,rfl⟩;unfold pyNext;refine qaA (qcr (qbj (name:=Str.ofString "__next__") hT qcs (qbl qcs hT F.entry_zip_next
   (zpr D1 D2 l1 l2 h4 h2 h3 ⟨h0,hu⟩ ⟨h1,hw'⟩ (by simp;lia) fun h' e tk kk he=>?_) (F.args_zip_next_1 _))))
  obtain⟨o,ho,hce⟩:=he;refine qaA (wpAny_isInstance (T:="StopIteration") (b:=true) ⟨o,ho,hce⟩ isSubtype_stop (qaE ⟨rfl,zl9 I (fun b o hb e=>?_) hf⟩));obtain⟨c1,c2,c3,c4⟩:=nin4 hb;exact kk b o c1 c2 c3 c4 e
 self:=fun _ _ _ _ _ st h=>zlH st.2.1 h
theorem pi_zip2N {a b:Expr}{ta:TA}(hg:Gl X "zip")(hm:X.mg "zip"=none)(ha:PA X [a,b] ta)(hs:starEach [a,b] X.env=(false,eval a X.env)::starEach [b] X.env:=by rfl)(hs2:(backTo pos (starEach [b] X.env)).any (·.1)=false:=by rfl):
  PI X tg (.Call (.Name "zip" p) [a,b] [] pos) (fun σ H R=>ta σ H fun vs H1=>∃t1 a1 xs t2 a2 ys,vs=[.ref a1,.ref a2]/\SrcSq t1 X.K H1 a1 xs/\SrcSq t2 X.K H1 a2 ys/\R (Itz2 X.K t1 a1 t2 a2 (min xs.length ys.length)) H1):=by
 intro pins s σ H R I h;refine Call_ (zlb I hg hm boot_zip (qaI (thn (ha pos pins s σ H _ I h) fun us s1 ⟨vs,H1,I1,r1,q1⟩=>?_) hs hs2));obtain⟨t1,a1,xs,t2,a2,ys,e,q1,q2,q⟩:=q1;subst e;cases r1 with
 |cons r rr=>
  cases rr with
  |cons r' rr=>
   cases rr;cases r;cases r';obtain⟨us,ru,hu,-⟩:=q1.heap I1;obtain⟨ws,rw',hw',-⟩:=q2.heap I1;refine zpw hu hw' fun h' g4 g2 g3 g0 g1 kk=>wpAny_pyIter_zip g4 ⟨_,_,_,_,H1,rfl,I1.kept (t':=s1.toks) kk,znB t1 a1 t2 a2 (min xs.length ys.length) s1.heap.objs.size hu.lt hw'.lt,⟨qaV _,⟨_,_,g4,.inl rfl⟩,g2,⟨_,_,g3⟩,g0,g1⟩,fun b hb=>?_,q⟩
   have:b=s1.heap.objs.size\/b=s1.heap.objs.size+1\/b=s1.heap.objs.size+2\/b=s1.heap.objs.size+3\/b=s1.heap.objs.size+4:=by simpa using hb
   have le:s1.heap.objs.size<=b:=by rcases this with h|h|h|h|h<;>rw[h]<;>simp
   exact I1.fpOk le (I1.hok.fresh le)
theorem zfC {a b:Expr}{ma:MA}(hm:X.mg "zip"=none)(ha:SA X [a,b] ma)(hg:Gl X "zip":=by rfl)(hs:starEach [a,b] X.env=(false,eval a X.env)::starEach [b] X.env:=by rfl)(hs2:(backTo pos (starEach [b] X.env)).any (·.1)=false:=by rfl):
  SIt X tg (.Call (.Name "zip" p) [a,b] [] pos) (iZ2 ma):=by
 refine ha.el fun t pa sa=>?_
 refine⟨_,pi_zip2N hg hm pa hs hs2,fun B G H σ ρ ds ρ' Q I hm k=>?_⟩;refine zaz hm fun es ρ1 e1 h2=>?_
 dsimp only at h2;refine sa B G H σ ρ es ρ1 _ I e1 fun G1 H1 vs I1 f1 r1=>?_
 split at h2
 ·refine cBel h2 fun xs ex h2=>?_
  refine cBel h2 fun ys ey h2=>?_
  obtain⟨rfl,rfl⟩:=cSp h2;obtain⟨x,y,rfl,rx,ry⟩:=r1.two;obtain⟨t1,a1,us,rfl,s1,c1⟩:=zoW rx ex;obtain⟨t2,a2,ws,rfl,s2,c2⟩:=zoW ry ey;have n1:=c1.length;have n2:=c2.length;refine⟨t1,a1,us,t2,a2,ws,rfl,s1 _ I1.fz,s2 _ I1.fz,k _ G1 H1 I1 f1 ⟨fun H i f hi=>?_,fun H i x H' f y d e=>?_,fun H i f hi=>?_⟩⟩
  ·exact⟨by simp[zlt]at hi;lia,us,ws,s1 _ f,s2 _ f,rfl⟩
  ·obtain⟨p,x1,x2,hp,eh,ex',q⟩:=y;obtain⟨q1,q2⟩:=q us ws (s1 _ f) (s2 _ f);simp only[zlt,qcd]at e
   split at e
   ·rename_i d1 d2 g1 g2;cases e;obtain⟨v1,b1,r1⟩:=c1.get g1;obtain⟨v2,b2,r2⟩:=c2.get g2;rw[q1]at b1;cases b1;rw[q2]at b2;cases b2;exact .inr ⟨p,_,_,hp,eh,ex',rfl,⟨_,_,rfl,r1,_,_,rfl,r2,rfl⟩⟩
   ·exact cNN e
  ·exact⟨by simp[zlt]at hi;lia,us,ws,s1 _ f,s2 _ f,rfl⟩
 ·exact cNN h2
end M
namespace M
open L2 PySem PySem.Spec
open PyProof.Rows hiding St
theorem ndk {l:List Str}(h:decide l.Nodup=true:=by kernel_rfl):l.Nodup:=qbE h
theorem us_0 {p:List Value->Prop}(h:p []):∀us:List Value,us.length=0->p us:=fun us e=>by
 cases us with
 |nil=>exact h
 |cons=>cases e
theorem us_s {p:List Value->Prop}{n:Nat}(h:∀(a:Value) (us:List Value),us.length=n->p (a::us)):∀us:List Value,us.length=n+1->p us:=fun us e=>by
 cases us with
 |nil=>cases e
 |cons a us=>exact h a us (Nat.succ.inj e)
section
variable {P:Program} {w:World} {K:W.Frag} {mg:Str->Option Value} {base hp:Heap} {x:Str} {st:Stmt} {f:Addr}
def FnAt (K:W.Frag)(x:Str)(st:Stmt):Prop:=∃f fd,W.nsIn K mainGlobals x=some (some (.ref f))/\Fun K x x st f fd
theorem FnAt.mk {oc:Value}{od an:Option Addr}{osl:Array (Option Value)}{kV doc pm cdv ct:Value}(a:W.nsIn K mainGlobals x=some (some (.ref f)))(l:K.lookup f=some ⟨oc,od,.func (W.fnOf x x (zbh st) (zaR st) (zar st) .none kV doc pm an cdv ct),osl⟩)
  (c:W.codeIn K cdv x=true) (k:W.keepIn K (.ref f)=true):FnAt K x st:=⟨f,_,a,zpV l c k⟩
abbrev BindsAt (x:Str)(st:Stmt)(ps:List Str):Prop:=∀(kV doc pm:Value) (an:Option Addr) (cdv ct:Value) (us:List Value),us.length=ps.length->bindArgs (W.fnOf x x (zbh st) (zaR st) (zar st) .none kV doc pm an cdv ct) ⟨us,[]⟩=pure (ps.zip us)
theorem FnAt.law (h:FnAt K x st)(X:K.In hp)(G:hp.Ns mainGlobals mg)(hf:mg x=some (.ref f)):∃kV doc pm an cdv ct,Fun K x x st f (W.fnOf x x (zbh st) (zaR st) (zar st) .none kV doc pm an cdv ct):=by
 obtain⟨f',fd,a,T⟩:=h;have e:=hf.symm.trans (W.mg_of X G a);cases e;obtain⟨oc,od,kV,doc,pm,an,cdv,ct,osl,rfl,lk,hcd⟩:=id T.ex;exact⟨kV,doc,pm,an,cdv,ct,T⟩
variable {N:List Str} {k n:Nat} {m:MS}
abbrev Bd (P:Program)(w:World)(K:W.Frag)(mg:Str->Option Value)(base:Heap)(x:Str)(st:Stmt)(N:List Str)(k:Nat)(m:MS):Prop:=∀(f:Addr) (cdv:Value) (A:Around) (outer:List Env) (s:Shared) (H:Hp) (E:XK),Room k (A.deeper (PyProof.Rows.envOfC x (zar st) s.heap.objs.size f cdv))->N.Nodup->SSs (cxOf CX0 P w K mg base N x (zar st) f cdv A outer s H E).nox (zaR st) m
structure DefOk (x:Str) (st:Stmt) (N:List Str) (n:Nat):Prop where
 sc:FnScope N (N.take n) (zar st)
 len:(N.take n).length=n
 le:n<=N.length
 bs:BindsAt x st (N.take n)
theorem lawP {fd:FuncData}(F:Fun K x x st f fd)(b:Bd P w K mg base x st N k m)(d:DefOk x st N n:=by exact⟨⟨rfl,rfl,rfl,by decide+kernel,rfl,by decide+kernel,by decide+kernel⟩,rfl,by decide,fun _ _ _ _ _ _=>by repeat (first | exact us_0 rfl | refine us_s fun _ => ?_)⟩):FnOk P w K mg base CX0 (k+1) f fd (N.take n) (spP K n (fP N.length m)):=zon F d.sc d.len d.le fun cdv A outer s H E hr=>b _ cdv A outer s H E hr d.sc.nd
theorem fdP (X:K.In hp)(G:hp.Ns mainGlobals mg)(h:FnAt K x st)(b:Bd P w K mg base x st N k m)(d:DefOk x st N n:=by exact⟨⟨rfl,rfl,rfl,by decide+kernel,rfl,by decide+kernel,by decide+kernel⟩,rfl,by decide,fun _ _ _ _ _ _=>by repeat (first | exact us_0 rfl | refine us_s fun _ => ?_)⟩):FD P w K mg base (k+1) x (spP K n (fP N.length m)):=
 let⟨f,fd,a,T⟩:=h
 ⟨⟨f,fd,_,zon T d.sc d.len d.le fun cdv A outer s H E hr=>b _ cdv A outer s H E hr d.sc.nd,W.mg_of X G a,T.kp,T.binds d.bs⟩⟩
theorem fdM (X:K.In hp)(G:hp.Ns mainGlobals mg)(h:FnAt K x st)(b:Bd P w K mg base x st N k m)(d:DefOk x st N n:=by exact⟨⟨rfl,rfl,rfl,by decide+kernel,rfl,by decide+kernel,by decide+kernel⟩,rfl,by decide,fun _ _ _ _ _ _=>by repeat (first | exact us_0 rfl | refine us_s fun _ => ?_)⟩):FD P w K mg base (k+1) x (spM K n (fM N.length m)):=
 let⟨f,fd,a,T⟩:=h
 ⟨⟨f,fd,_,fnM_ok T d.sc d.len d.le fun cdv A outer s H E hr=>b _ cdv A outer s H E hr d.sc.nd,W.mg_of X G a,T.kp,T.binds d.bs⟩⟩
end
end M
namespace M
open PySem
section
variable {prog:Program} {w:World} {A:Around} {E:Value->Shared->Prop} {s:Shared} {it d:Addr} {i ep:Nat} {es:Array DictEntry} {od:Obj}
theorem raw_item {Q:Option Value->Shared->Prop}(ki:s.heap.IsKeyIter it d i es.size ep)(g1:s.heap.get? d=some od)(g2:od.data= .dict es ep)(hi:i<es.size)
  (k:∀h',h'.IsKeyIter it d (i+1) es.size ep->Heap.SameBut it s.heap h'->Q (some es[i].key) {s with heap:=h'}):wpAny (model prog w) A (pyNext (.ref it)) Q E s:=by
 obtain⟨oi,q1,q2,q3⟩:=id ki;have no:Builtin.Dict_items.ownsTuple "dict_keyiterator"=false:=by decide
 unfold pyNext;refine qaA (qcr (qbj (name:=Str.ofString "__next__") ki.typeIs qct (qbl qct ki.typeIs F.entry_dict_keyiterator_next ?_ (F.args_dict_keyiterator_next_1 _))));refine qaA (qaE (qaA (qaA ?_)))
 first|refine qaA (qcu ki.typeIs (qaE ?_))|refine qaA (qcv ki.typeIs (qaE ?_))
 refine qaA (wpAny_fieldsOf q1 q3 ?_);simp only[no,qbU,qbh];show wpAny _ _ (if(Value.ref d==Value.none)=true then _ else _) _ _ s;rw[if_neg (show ¬((Value.ref d==Value.none)=true)from qaD)];refine qaA (qaE (qaA (wpAny_dictEntries g1 g2 ?_)));rw[if_neg (by simp)];refine qaA (qaE (qaA (wpAny_dictEpoch g1 g2 ?_)));rw[if_neg (by simp)];refine qaE ?_;simp only[show ¬((i:Int)<0)from by lia,qbh,qbg,Array.getElem?_eq_getElem hi];refine qaA ?_
 first|refine qaA (qcu ki.typeIs (qaE ?_))|refine qaA (qcv ki.typeIs (qaE ?_))
 refine qaA (wpAny_isOneOf_keyiter ki.typeIs ?_);show wpAny _ _ (setField (.ref it) 1 (rawInt ((i:Int)+1))>>=_) _ _ s;refine qaA (qb9 q1 q3 (by simp) ?_);have ki':(s.heap.update it (Obj.mapFields (·.setIfInBounds 1 (rawInt ((i:Int)+1))))).IsKeyIter it d (i+1) es.size ep:=
  ⟨_,qbo _ q1 (Obj.isFreed_of_fields (qb8 q3 _)),(Obj.cls_mapFields ..).trans q2,by rw[qb8 q3];simp[rawInt]⟩
 refine qaA (qaB (qaA (wpAny_isOneOf_keyiter (s:={s with heap:=s.heap.update it (Obj.mapFields (·.setIfInBounds 1 (rawInt ((i:Int)+1))))}) ki'.typeIs ?_)));show wpAny _ _ (pure es[i].key) _ _ _;exact qaE (qaE ⟨_,rfl,qaE (k _ ki' (qca ..))⟩)
theorem raw_end {Q:Option Value->Shared->Prop}(hh:A.handled=none)(ki:s.heap.IsKeyIter it d i es.size ep)(g1:s.heap.get? d=some od)(g2:od.data= .dict es ep)(hi:es.size<=i)
  (k:∀h',Heap.ExtBut it s.heap h'->Q none {s with heap:=h'}):wpAny (model prog w) A (pyNext (.ref it)) Q E s:=by
 obtain⟨oi,q1,q2,q3⟩:=id ki;have no:Builtin.Dict_items.ownsTuple "dict_keyiterator"=false:=by decide
 unfold pyNext;refine qaA (qcr (qbj (name:=Str.ofString "__next__") ki.typeIs qct (qbl qct ki.typeIs F.entry_dict_keyiterator_next ?_ (F.args_dict_keyiterator_next_1 _))));refine qaA (qaE (qaA (qaA ?_)))
 first|refine qaA (qcu ki.typeIs (qaE ?_))|refine qaA (qcv ki.typeIs (qaE ?_))
 refine qaA (wpAny_fieldsOf q1 q3 ?_);simp only[no,qbU,qbh];show wpAny _ _ (if(Value.ref d==Value.none)=true then _ else _) _ _ s;rw[if_neg (show ¬((Value.ref d==Value.none)=true)from qaD)];refine qaA (qaE (qaA (wpAny_dictEntries g1 g2 ?_)));rw[if_neg (by simp)];refine qaA (qaE (qaA (wpAny_dictEpoch g1 g2 ?_)));rw[if_neg (by simp)];refine qaE ?_;simp only[show ¬((i:Int)<0)from by lia,qbh,qbg,Array.getElem?_eq_none hi];refine qaA ?_
 first|refine qaA (qcu ki.typeIs (qaE ?_))|refine qaA (qcv ki.typeIs (qaE ?_))
 show wpAny _ _ (setField (.ref it) 0 .none>>=_) _ _ s;refine qaA (qb9 q1 q3 (by simp) ?_);show wpAny _ _ (newExc (.type "StopIteration") []>>=_) _ _ _;refine qaA ?_;simp only[newExc,newTuple];refine qaA (qbn ?_ (by size_fits));refine qaA (m:=firstArgMember _ _) (wpAny_of_eq (a:=Value.none) (by first|rfl|(simp only[firstArgMember];rfl)) ?_);refine qbn ?_ (by size_fits);simp only[raiseNew];refine qaA (wpAny_handled ?_);rw[show A.in1.handled=none from hh];refine qaA (qaE (wpAny_throw ?_));refine qaA (wpAny_isInstance (b:=true) (T:="StopIteration") ⟨_,qaG _ rfl,rfl⟩ isSubtype_stop ?_);exact qaE (k _ (((qca ..).extBut.push _).push _))
theorem raw_iter {Q:Value->Shared->Prop}(nm:(d==sysModules)=false)(g1:s.heap.get? d=some od)(g0:od.ExactDict)(g2:od.data= .dict es ep)
  (k:Q (.ref s.heap.objs.size) {s with heap:=s.heap.push {cls:= .type "dict_keyiterator",data:= .fields #[.ref d,.int 0 0,.int es.size 0,.int ep 0]}}):wpAny (model prog w) A (pyIter (.ref d)) Q E s:=by
 have hT:s.TypeIs (.ref d) "dict":=⟨od,g1,g0.1⟩;refine wpAny_pyIter_slot hT F.slot_dict_iter (qbl F.slot_dict_iter hT F.entry_dict_iter ?_ (F.args_dict_iter_1 _));unfold Builtin.«dict.__iter__»;refine qaA ?_;unfold Builtin.Dict.dictSlotNone;refine qaA (wpAny_notOrdered_dict hT ?_);show wpAny _ _ (pure (Value.ref d)) _ _ s;refine qaE ?_;show wpAny _ _ (Builtin.Dict.showsAll d>>=_) _ _ s;unfold Builtin.Dict.showsAll;rw[if_neg (by rw[nm];exact qaD)];refine qaA (qaE (qaA (wpAny_dictEntries g1 g2 (qaA (wpAny_dictEpoch g1 g2 ?_)))));refine qaA (qbn (qaE ⟨_,rfl,"dict_keyiterator",_,⟨_,qaG _ rfl,rfl⟩,F.slot_dict_keyiterator_next.lookup,?_⟩));simpa[rawInt]using k
end
end M
namespace M
open L2 PySem PySem.Spec
open PyProof.Rows hiding St
variable {P:Program} {w:World} {H G:Hp} {h:Heap} {a b:Addr} {o:Obj} {xs:List (List L2.Key×Addr×Value)} {ks:List (List Int)} {ys:List (List L2.Key×V)}
theorem zlr (ok:HOk P w H h)(e:H a=some (kn a o)):h.get? a=some o:=(show ObjOk P w H h a (kn a o)from ok a _ e).1
theorem kn_ok (e:h.get? a=some o):ObjOk P w H h a (kn a o):=⟨e,⟨o,e⟩,fun _ _ e1 k=>k o e1⟩
def Sl.dit:Sl->Option (List (List Int)×List D)
 | .tre (.dit ks ds)=>some (ks,ds)
 | .val (.dit ks ds)=>some (ks,ds)
 |_=>none
def keyT:D->Option (List Int)
 | .tup es=>za8 es
 |_=>none
def sDPT (j:Nat)(mk me:ME):MS:=fun ρ=>(me ρ).bind fun p=>if(p.2[j]?.bind Sl.dit).isSome then(mk p.2).bind fun q=>(keyT q.1).bind fun k=>q.2[j]?.bind fun s=>match s.tree with
  |some (.dit ks ds)=>if ks.length<16777216 then some (.next,q.2.set j (s.putT (.dit (ptD ks ds k p.1).1 (ptD ks ds k p.1).2)))else none
  |_=>none else none
def iDKT (j:Nat):MA:=fun ρ=>match ρ[j]? with
 |some (.val (.dit ks ds))=>some (ks.map fun k=> .tup (k.map .int),ρ)
 |_=>none
end M
namespace M
open L2 PySem PySem.Spec
open PyProof.Rows hiding St
def fzDT (j:Nat)(ρ:R):R:=match ρ[j]? with
 |some (.tre (.dit ks ds))=>ρ.set j (.val (.dit ks ds))
 |_=>ρ
def eCallU (F:List D->Option Sl)(ma:MA):ME:=fun ρ=>(ma ρ).bind fun p=>(F p.1).bind fun r=>match r with
 | .tre (.tup cs)=>some (.tup (cs.map Ch.D),p.2)
 |_=>none
def fzU (j:Nat)(ρ:R):R:=match ρ[j]? with
 |some (.tre (.tup cs))=>ρ.set j (.val (.tup (cs.map Ch.D)))
 |_=>ρ
def sCp (i j n:Nat)(mb:MS):MS:=fun ρ=>match ρ[i]?,ρ[j]? with
 |some _,some (.tre (.tup cs))=>match cs[n]? with
  |some (.d .non)=>some (.next,ρ.set i (.val .non))
  |some (.l ds)=>mb (ρ.set i (.own ds))
  |_=>none
 |_,_=>none
def turnT (g:D->R->Option R)(mt:MT)(mo:MO):D->R->Option (Option (List D)×R):=fun d ρ=>(g d ρ).bind fun ρ1=>(mt ρ1).bind fun p=>if p.1 then(mo p.2).bind fun q=>if zdb q.2 then some (some q.1,q.2)else none else if zdb p.2 then some (none,p.2)else none
def rowsOf:List Ch->Option (List (List D))
 |[]=>some []
 | .l ds::cs=>(rowsOf cs).map (ds:: ·)
 |_=>none
def zl1 (b c:Nat)(ρ:R):Bool:=match ρ[b]?,ρ[c]? with
 |some (.par _),some (.par _)=>zdb ((ρ.set b .emp).set c .emp)
 |_,_=>false
def turnQ (b c:Nat)(g:D->R->Option R)(mt:MT)(me:ME):D->R->Option (Option D×R):=fun d ρ=>(g d ρ).bind fun ρ1=>(mt ρ1).bind fun p=>if p.1 then(me p.2).bind fun q=>if zl1 b c q.2 then some (some q.1,q.2)else none else if zl1 b c p.2 then some (none,p.2)else none
def oLC2 (cap:List Nat)(t b w c v:Nat)(mi:MA)(g:D->R->Option R)(mt:MT)(me:ME):MO:=fun ρ=>(mi ρ).bind fun p=>if p.1.length<=16777216 then
  ((fzL (cap.filter fun i=>i !=w&&i !=v) p.2)[w]?).bind fun s=>s.items.bind fun cs=>((fzL (cap.filter fun i=>i !=w&&i !=v) p.2)[v]?).bind fun s2=>s2.items.bind fun cs2=>
   (zdA (turnQ b c g mt me) p.1 (((capR cap t (fzL (cap.filter fun i=>i !=w&&i !=v) p.2)).set b (.par cs)).set c (.par cs2))).map fun q=>(q.1,((fzL (cap.filter fun i=>i !=w&&i !=v) p.2).set w (s.put (zha b q.2))).set v (s2.put (zha c q.2)))
 else none
theorem VS.siQ {K:W.Frag}{G H:Hp}{σ:St}{ρ:R}{b c:Nat}{cs cs2:List D}{l l2:Addr}{ys ys2:List V}(h:VS K G σ ((ρ.set b .emp).set c .emp))(fz:Fz G H)(hbc:b≠c)(ll:l≠l2)
  (hb:ρ[b]? =some (.par cs)) (hs:σ[b]? =some (some (.ref l))) (gl:G l=none) (hl:H l=some (.lst ys)) (r:RepL K G ys cs)
  (hb2:ρ[c]? =some (.par cs2)) (hs2:σ[c]? =some (some (.ref l2))) (gl2:G l2=none) (hl2:H l2=some (.lst ys2)) (r2:RepL K G ys2 cs2):SI K ⟨G,H,[(b,l),(c,l2)]⟩ G H σ ρ where
 fz:=fz
 g0:=Fz.refl G
 new:=fun b o e=> .inl (by show G b≠none;rw[e];simp)
 keep:=fun b o e _=>e
 there:=fun b e=>e
 ob:=fun i d m=>by
  have:(i=b/\d=l)\/(i=c/\d=l2):=by simpa using m
  rcases this with z|z
  ·rw[z.2];show H l≠none;rw[hl];simp
  ·rw[z.2];show H l2≠none;rw[hl2];simp
 len:=by rw[h.len,qbq,qbq]
 slot:=fun i s e=>by
  by_cases z:i=b
  ·subst z;rw[hb]at e;cases e;exact⟨l,ys,hs,gl,hl,r,by simp⟩
  ·by_cases z2:i=c
   ·subst z2;rw[hb2]at e;cases e;exact⟨l2,ys2,hs2,gl2,hl2,r2,by simp⟩
   ·have e':((ρ.set b .emp).set c .emp)[i]? =some s:=by rw[qav (Ne.symm z2),qav (Ne.symm z)];exact e
    cases s with
    |emp=>trivial
    |two _ _=>trivial
    |tre t=>exact absurd rfl ((zfG h.no e').1 t)
    |ptr t=>exact absurd rfl ((zfG h.no e').2 t)
    |val d=>exact h.val i d e'
    |own ds=>exact absurd ⟨_,ds,e',rfl⟩ (zfA h.no (i:=i))
    |par ds=>exact absurd ⟨_,ds,e',rfl⟩ (zfA h.no (i:=i))
 dis:=fun i j s t a hij e1 e2 w1 w2=>by
  have key:∀(i:Nat) (s:Sl),ρ[i]? =some s->OwS K G H σ[i]? a s->(i=b/\a=l)\/(i=c/\a=l2):=fun i s e w=>by
   by_cases z:i=b
   ·subst z;rw[hb]at e;cases e;have w:σ[i]? =some (some (.ref a)):=w;rw[hs]at w;exact .inl ⟨rfl,(V.ref.inj (Option.some.inj (Option.some.inj w))).symm⟩
   ·by_cases z2:i=c
    ·subst z2;rw[hb2]at e;cases e;have w:σ[i]? =some (some (.ref a)):=w;rw[hs2]at w;exact .inr ⟨rfl,(V.ref.inj (Option.some.inj (Option.some.inj w))).symm⟩
    ·exact absurd w (zjV h.no (show((ρ.set b .emp).set c .emp)[i]? =some s by rw[qav (Ne.symm z2),qav (Ne.symm z)];exact e))
  rcases key i s e1 w1 with⟨z1,z2⟩|⟨z1,z2⟩<;>rcases key j t e2 w2 with⟨y1,y2⟩|⟨y1,y2⟩
  ·exact hij (z1.trans y1.symm)
  ·exact ll (z2.symm.trans y2)
  ·exact ll (y2.symm.trans z2)
  ·exact hij (z1.trans y1.symm)
theorem VS.ofQ {K:W.Frag}{B:Bs}{G H:Hp}{σ:St}{ρ:R}{b c:Nat}{l l2:Addr}(I:SI K B G H σ ρ)(hbc:b≠c)(hO:B.O=[(b,l),(c,l2)])(h:zl1 b c ρ=true):
  ∃cs ys cs2 ys2,(ρ[b]? =some (.par cs)/\σ[b]? =some (some (.ref l))/\G l=none/\H l=some (.lst ys)/\RepL K G ys cs)/\(ρ[c]? =some (.par cs2)/\σ[c]? =some (some (.ref l2))/\G l2=none/\H l2=some (.lst ys2)/\RepL K G ys2 cs2)/\VS K G σ ((ρ.set b .emp).set c .emp):=by
 unfold zl1 at h
 split at h
 ·rename_i cs cs2 e e2;obtain⟨l',ys,h1,h2,h3,h4,h5⟩:=I.slot b _ e;obtain⟨l2',ys2,k1,k2,k3,k4,k5⟩:=I.slot c _ e2;have hl:l'=l:=by
   rw[hO]at h5;have:(b=b/\l'=l)\/(b=c/\l'=l2):=by simpa using h5
   rcases this with z|z
   ·exact z.2
   ·exact absurd z.1 hbc
  have hl2:l2'=l2:=by
   rw[hO]at k5;have:(c=b/\l2'=l)\/(c=c/\l2'=l2):=by simpa using k5
   rcases this with z|z
   ·exact absurd z.1.symm hbc
   ·exact z.2
  subst hl hl2;refine⟨cs,ys,cs2,ys2,⟨e,h1,h2,h3,h4⟩,⟨e2,k1,k2,k3,k4⟩,⟨by rw[qbq,qbq];exact I.len,h,fun i d e'=>?_⟩⟩;rw[qbz]at e'
  split at e'
  ·split at e'
   ·cases e'
   ·exact cNN e'
  ·rw[qbz]at e'
   split at e'
   ·split at e'
    ·cases e'
    ·exact cNN e'
   ·exact I.slot i _ e'
 ·cases h
theorem nw_two {K:W.Frag}{B:Bs}{G H G' H':Hp}{σ:St}{ρ:R}{j j2:Nat}{s s2:Sl}{cs out cs2 out2:List D}{l l2 p:Addr}(I:SI K B G H σ ρ)(jj:j≠j2)(e:ρ[j]? =some s)(q:s.items=some cs)(hl:σ[j]? =some (some (.ref l)))(e2:ρ[j2]? =some s2)(q2:s2.items=some cs2)(hl2:σ[j2]? =some (some (.ref l2)))(hp:H p=none)
  (nw:∀b o,G' b=some o->G b≠none\/H b=none) (kp:∀b o,b≠l->b≠l2->H b=some o->H' b=some o):Nw K G' H' σ ((ρ.set j (s.put out)).set j2 (s2.put out2)) p:=fun i t et w=>by
 obtain⟨l',xs,e1,f2,e3,e4⟩:=I.wr e q;rw[hl]at e1;cases e1;obtain⟨l',xs2,e1,f2',e3',e4'⟩:=I.wr e2 q2;rw[hl2]at e1;cases e1;have hpl:p≠l:=fun z=>by rw[z,e3]at hp;cases hp
 have hpl2:p≠l2:=fun z=>by rw[z,e3']at hp;cases hp
 by_cases z2:i=j2
 ·subst z2;rw[qbz,if_pos rfl]at et
  split at et
  ·cases et;have:=(zba (zg9 q2 out2)).mp w;rw[hl2]at this;exact hpl2 (V.ref.inj (Option.some.inj (Option.some.inj this))).symm
  ·cases et
 ·rw[qav (Ne.symm z2)]at et
  by_cases z:i=j
  ·subst z;rw[qbz,if_pos rfl]at et
   split at et
   ·cases et;have:=(zba (zg9 q out)).mp w;rw[hl]at this;exact hpl (V.ref.inj (Option.some.inj (Option.some.inj this))).symm
   ·cases et
  ·rw[qav (Ne.symm z)]at et;have sl:=I.slot i t et;refine(sl.own (sl.back (fun a w g h=>?_) w)).2.1 hp;have na:a≠l:=fun w'=>by subst w';exact I.dis i j t s a z et e w ((zba q).mpr hl)
   have na2:a≠l2:=fun w'=>by subst w';exact I.dis i j2 t s2 a z2 et e2 w ((zba q2).mpr hl2)
   obtain⟨u,hu⟩:=qbA.mp h;refine⟨?_,(kp a u na na2 hu).trans hu.symm⟩;cases q3:G' a with
   |none=>rfl
   |some u=>
    rcases nw a u q3 with z|z
    ·exact absurd g z
    ·exact absurd z h
theorem grow_two {K:W.Frag}{B:Bs}{G H G' H':Hp}{σ:St}{ρ:R}{j j2:Nat}{s s2:Sl}{cs out cs2 out2:List D}{l l2:Addr}{ys ys2:List V}(I:SI K B G H σ ρ)(jj:j≠j2)(e:ρ[j]? =some s)(q:s.items=some cs)(hl:σ[j]? =some (some (.ref l)))(e2:ρ[j2]? =some s2)(q2:s2.items=some cs2)(hl2:σ[j2]? =some (some (.ref l2)))
  (f:Fz G G') (fz:Fz G' H') (nw:∀b o,G' b=some o->G b≠none\/H b=none) (kp:∀b o,b≠l->b≠l2->H b=some o->H' b=some o) (gl:G' l=none) (hl':H' l=some (.lst ys)) (r:RepL K G' ys out) (gl2:G' l2=none) (hl2':H' l2=some (.lst ys2)) (r2:RepL K G' ys2 out2):
  SI K B G' H' σ ((ρ.set j (s.put out)).set j2 (s2.put out2)):=by
 obtain⟨l',xs2,e1,f2',e3',e4'⟩:=I.wr e2 q2;rw[hl2]at e1;cases e1;have ll:l≠l2:=fun z=>I.dis j j2 s s2 l jj e e2 ((zba q).mpr hl) ((zba q2).mpr (by rw[z];exact hl2))
 have I1:=I.growW (G':=G') (H':=upd H' l2 (.lst xs2)) (out:=out) e q hl f (fun b o h=>by
  have:b≠l2:=fun z=>by rw[z,gl2]at h;cases h
  rw[zam this];exact fz b o h) nw (fun b o n h=>by
  by_cases z:b=l2
  ·subst z;rw[zaq];rw[e3']at h;exact h
  ·rw[zam z];exact kp b o n z h) gl (by rw[zam ll];exact hl') r
 have e2':(ρ.set j (s.put out))[j2]? =some s2:=by rw[qav jj];exact e2
 exact I1.growW e2' q2 hl2 (Fz.refl _) fz (fun b o h=> .inl (by rw[h];simp)) (fun b o n h=>by rw[zam n]at h;exact h) gl2 hl2' r2
section
variable {X:Cx} {elt iter tg:Expr} {ifs:List Expr} {scope:Scope} {pos:Pos} {N:List Str} {cap:List Nat} {t bk wk ck vk:Nat} {mi:MA} {g:D->R->Option R} {mt:MT} {me:ME}
theorem zpO (hbw:cap[bk]? =some wk)(hcv:cap[ck]? =some vk)(hbc:bk≠ck)(hwv:wk≠vk){wi:TI}(si:SItb X tg iter mi wi){tg':Addr->Shared->Hp->List Addr->TG}{tt:Addr->Shared->Hp->List Addr->TT}{te:Addr->Shared->Hp->List Addr->TE}(blk:LcB X scope N elt tg ifs g mt me tg' tt te):
  ∀B G H σ ρ ds ρ' (Q:VK),SI X.K B G H σ ρ->oLC2 cap t bk wk ck vk mi g mt me ρ=some (ds,ρ')->
   (∀G' H' l xs,SI X.K B G' H' σ ρ'->Fz G G'->G' l=none->H' l=some (.lst xs)->RepL X.K G' xs ds->B.H l=none->Nw X.K G' H' σ ρ' l->Q (.ref l) H')->tLC (capσ cap t) wi tg' tt te σ H Q:=fun B G H σ ρ ds ρ' Q I hm k=>
 zaz hm fun items ρ1 e1 hm=>si B G H σ ρ items ρ1 _ I e1 fun J G1 H1 I1 f1 IT DD hD=>cIte hm fun hlen hm=>cBel hm fun sw ew hm=>cBel hm fun cs0 qw hm=>cBel hm fun sv ev hm=>cBel hm fun cs1 qv hm=>zeR hm fun all ρf e2 e3=>by
  obtain⟨rfl,rfl⟩:=Prod.mk.inj e3;obtain⟨G2,I2,f2⟩:=SI.fzL (cap.filter fun i=>i !=wk&&i !=vk) I1;obtain⟨l,ys0,hσ,gl0,hl0,rl0⟩:=I2.wr ew qw;obtain⟨l2,ys1,hσ2,gl1,hl1,rl1⟩:=I2.wr ev qv;have ll:l≠l2:=fun z=>I2.dis wk vk sw sv l hwv ew ev ((zba qw).mpr hσ) ((zba qv).mpr (by rw[z];exact hσ2))
  have hlD:l≠DD:=zaI hl0 hD;have hlD2:l2≠DD:=zaI hl1 hD;have hb:=zka (t:=t) hbw hσ;have hb2:=zka (t:=t) hcv hσ2;have two:∀{i:Nat} {a:Addr},(i,a)∈[(bk,l),(ck,l2)]->a=l\/a=l2:=fun m=>(qaq.mp m).imp (fun q=>(Prod.mk.inj q).2) fun m=>(Prod.mk.inj (qcf.mp m)).2
  refine ziL blk (O:=[(bk,l),(ck,l2)]) (JJ:=fun G H σ ρ=>PaAt X.K bk l G H σ ρ/\PaAt X.K ck l2 G H σ ρ/\VS X.K G σ ((ρ.set bk .emp).set ck .emp)) IT f2 I2.fz hD hlen (fun i m=>(two m).elim (fun q=>hlD q.symm) fun q=>hlD2 q.symm) (fun G H σ ρ h f=>?_) (fun _ _ _ _ _ _ I h=>?_) (fun _ _ _ _ xs h=>⟨h.1.upd hlD xs,h.2.1.upd hlD2 xs,h.2.2⟩) ⟨⟨cs0,ys0,?_,hb.2,gl0,hl0,rl0⟩,⟨cs1,ys1,?_,hb2.2,gl1,hl1,rl1⟩,?_⟩ e2 fun Gc Hc σc xs J ra jj=>?_
  ·obtain⟨⟨cs,ys,a1,a2,a3,a4,a5⟩,⟨cs2,ys2,b1,b2,b3,b4,b5⟩,vs⟩:=h;exact vs.siQ f hbc ll a1 a2 a3 a4 a5 b1 b2 b3 b4 b5
  ·obtain⟨cs',ys',cs2',ys2',w1,w2,w6⟩:=VS.ofQ I hbc rfl h;exact⟨⟨cs',ys',w1⟩,⟨cs2',ys2',w2⟩,w6⟩
  ·rw[qav (Ne.symm hbc),qbz,if_pos rfl,if_pos (by rw[zgn];lia)]
  ·rw[qbz,if_pos rfl,if_pos (by rw[qbq,zgn];lia)]
  ·rw[List.set_comm _ _ (Ne.symm hbc),List.set_set,List.set_set];exact((zpc I2 cap t).setEmp bk).setEmp ck
  ·obtain⟨⟨cs,ys,a1,a2,a3,a4,a5⟩,⟨cs2,ys2,b1,b2,b3,b4,b5⟩,vs⟩:=jj;have hp:zha bk ρf=cs:=by unfold zha;rw[a1]
   have hp2:zha ck ρf=cs2:=by unfold zha;rw[b1]
   rw[hp,hp2]at k;have kp:∀b o,b≠l->b≠l2->H1 b=some o->Hc b=some o:=fun b o n n2 e=>J.kp b o (fun i m=>(two m).elim n n2) e
   exact k Gc Hc DD xs (grow_two I2 hwv ew qw hσ ev qv hσ2 J.fc J.fcH J.nw kp a3 a4 a5 b3 b4 b5) (f1.trans (f2.trans J.fc)) J.gD J.hDc ra (I2.there DD hD) (nw_two I2 hwv ew qw hσ ev qv hσ2 hD J.nw kp)
theorem so_lc2 (cap:List Nat)(t bk wk ck vk:Nat)(N:List Str)(hc:X.calm=true)(hi:SIt X tg iter mi)(hg:∀C s H fp,SG (cxC X N scope C s H fp) tg g)(ht:∀C s H fp,STs (cxC X N scope C s H fp) ifs mt)(he:∀C s H fp,SE (cxC X N scope C s H fp) elt me)(hbw:cap[bk]? =some wk:=by rfl)(hcv:cap[ck]? =some vk:=by rfl)(hbc:bk≠ck:=by decide)(hwv:wk≠vk:=by decide)
    (hk:scope.kind= .function:=by rfl) (hb:blkB X.env scope=true:=by kernel_rfl) (hcap:capB scope.names N X.N cap t=true:=by kernel_rfl)
    (hs:∀x,foldedSetIterable iter X.env x=pure x:=by exact fun _=>rfl):SO X (.ListComp elt [⟨tg,iter,ifs,0⟩] scope pos) (oLC2 cap t bk wk ck vk mi g mt me):=by
  refine hi.el fun wi pi si=>?_
  exact⟨_,pe_lc hc (zkt hk hb) (zli hcap) pi (fun C s H fp=>(hg C s H fp).choose_spec.1) (fun C s H fp=>(ht C s H fp).choose_spec.1) (fun C s H fp=>(he C s H fp).choose_spec.1) hs,
    zpO hbw hcv hbc hwv si (.mk' hg ht he)⟩
end
def ePop (j:Nat)(me:ME):ME:=fun ρ=>if(ρ[j]?.bind Sl.items).isSome then(me ρ).bind fun p=>match p.1 with
 | .int i=>p.2[j]?.bind fun s=>s.items.bind fun ds=>if 0<=i/\i<ds.length/\ds.length<=16777216 then(ds[i.toNat]?).map fun d=>(d,p.2.set j (s.put (ds.eraseIdx i.toNat)))else none
 |_=>none else none
theorem RepL.erase {K:W.Frag}{G:Hp}:∀{xs:List V} {ds:List D} (k:Nat),RepL K G xs ds->RepL K G (xs.eraseIdx k) (ds.eraseIdx k)
 |_,[],_,h=>by cases h;simp;rfl
 |_,d::ds,0,⟨x,ys,e,a,b⟩=>by subst e;exact b
 |_,d::ds,k+1,⟨x,ys,e,a,b⟩=>by subst e;exact⟨x,_,rfl,a,RepL.erase k b⟩
section
variable {X:Cx} {x:Str} {e:Expr} {me:ME}
theorem se_pop (j:Nat){p' apos cpos:Pos}(he:SE X e me)(hN:X.N[j]? =some x:=by rfl)(hv:Vis X.env.scope x:=by trivial)(hd:(x==("__debug__":Str))=false:=by decide)
  (hcd:(x==("__classdict__":Str))=false:=by decide)
  (hbase:attributeBase (.Name x p') "pop" X.env (eval (.Name x p') X.env)=eval (.Name x p') X.env:=by rfl)
  (hfew : ((backTo cpos (starEach [e] X.env)).all (fun x => !x.1) && (backToKw cpos (keywordEach [] X.env)).all (fun x => x.1.isSome)
   &&decide ([e].length+([]:List Keyword).length+(if([]:List Keyword).isEmpty then 0 else 1)<30))=true:=by rfl)
  (hline:(apos.endLine==cpos.line)=true:=by rfl) (hs:starEach [e] X.env=(false,eval e X.env)::starEach [] X.env:=by rfl):SE X (.Call (.Attribute (.Name x p') "pop" apos) [e] [] cpos) (ePop j me):=by
 refine he.el fun t p s=>?_
 refine⟨_,pe_bm qbK PySem.F.slot_list_pop PySem.F.type_list_pop mt_popAt (zb3 hN hv hd hcd) (zeu p ziF hs) hbase hfew hline hs rfl,fun B G H σ ρ d ρ' Q I hm k=>?_⟩;unfold ePop at hm;refine cIte hm fun hso hm=>?_
 obtain⟨ds0,hso⟩:=qaZ.mp hso;refine cBel hso fun s0 e0 q0=>?_
 obtain⟨l,xs0,h1,h2,h3,h4⟩:=I.wr e0 q0;refine zaz hm fun dv ρ1 e1 hm=>?_
 dsimp only at hm
 split at hm
 ·rename_i i;refine cBel hm fun s1 e2 hm=>?_
  refine cBel hm fun ds e3 hm=>?_
  refine cIte hm fun hl hm=>?_
  refine cMel hm fun dd e4 e5=>?_
  obtain⟨rfl,rfl⟩:=Prod.mk.inj e5;refine⟨.ref l,h1,.inl ⟨rfl,_,SqL.of h3⟩,s B G H σ ρ (.int i) ρ1 _ I e1 fun G1 H1 v I1 f1 r1=>?_⟩;obtain⟨l',xs,k1,k2,k3,k4⟩:=I1.wr e2 e3;rw[h1]at k1;cases k1;cases(show v= .int i from r1);obtain⟨y,hy,ry⟩:=k4.get e4;have len:=k4.length;refine⟨l,xs,i,i.toNat,y,rfl,rfl,k3,by lia,by lia,by unfold seqIndex?;simp;lia,hy,?_⟩;exact k G1 _ y (I1.write e2 e3 h1 (k4.erase i.toNat)) f1 ry
 ·exact cNN hm
end
end M
namespace M
open PySem PySem.W
open PyProof.Rows (bubble mirror bubble_size bubble_perm mirror_size mirror_perm getElem?_bubble getElem?_mirror_all)
variable {cmp:Nat->Nat->(Bool->Shared->Prop)->Shared->Prop} {s:Shared} {a b i j n m k:Nat} {p q:Array Nat}
def kGd (n:Nat)(lt:Nat->Nat->Bool){α:Type}:KasT α->(α->Prop)->Prop
 | .ret a,Q=>Q a
 | .ask i j k,Q=>i<n/\j<n/\kGd n lt (k (lt i j)) Q
def kRun (lt:Nat->Nat->Bool){α:Type}:KasT α->α
 | .ret a=>a
 | .ask i j k=>kRun lt (k (lt i j))
section
variable {n:Nat} {lt:Nat->Nat->Bool} {α β:Type}
theorem zfF {f:α->KasT β}{Q:β->Prop}:∀{t:KasT α},kGd n lt t (fun a=>kGd n lt (f a) Q)->kGd n lt (t.bind f) Q
 | .ret _,h=>h
 | .ask _ _ _,⟨h1,h2,h3⟩=>⟨h1,h2,zfF h3⟩
theorem zcb {Q Q':α->Prop}(q:∀a,Q a->Q' a):∀{t:KasT α},kGd n lt t Q->kGd n lt t Q'
 | .ret a,h=>q a h
 | .ask _ _ _,⟨h1,h2,h3⟩=>⟨h1,h2,zcb q h3⟩
theorem zlo {Q:α->Prop}:∀{t:KasT α},kGd n lt t Q->Q (kRun lt t)
 | .ret _,h=>h
 | .ask i j k,⟨_,_,h3⟩=>zlo (t:=k (lt i j)) h3
theorem kGd_wp {Q0:α->Prop}{Q:α->Shared->Prop}(hc:∀i j C,i<n->j<n->C (lt i j) s->cmp i j C s):
  ∀{t:KasT α},kGd n lt t Q0->Q (kRun lt t) s->t.kasWp cmp Q s
 | .ret _,_,h=>h
 | .ask i j k,⟨h1,h2,h3⟩,h=>hc i j _ h1 h2 (kGd_wp (t:=k (lt i j)) hc h3 h)
end
structure Ord (lt:Nat->Nat->Bool):Prop where
 tr:∀a b c,lt b a=false->lt c b=false->lt c a=false
 as:∀a b,lt a b=true->lt b a=false
theorem Ord.rf {lt:Nat->Nat->Bool}(o:Ord lt)(a:Nat):lt a a=false:=by
 cases h:lt a a with
 |false=>rfl
 |true=>rw[o.as a a h]at h;cases h
theorem Ord.lt_le {lt:Nat->Nat->Bool}(o:Ord lt){a b c:Nat}(h:lt a b=true)(k:lt c b=false):lt a c=true:=by
 cases z:lt a c with
 |true=>rfl
 |false=>rw[o.tr b c a k z]at h;cases h
def kv (p:Array Nat)(k:Nat):Nat:=p.getD k 0
theorem zpT (h:p[i]? =q[j]?):kv p i=kv q j:=by
 unfold kv;rw[qcw,qcw,h]
structure Pm (n:Nat) (p:Array Nat):Prop where
 pm:p.toList.Perm (List.range n)
theorem Pm.size (h:Pm n p):p.size=n:=by
 have:=h.pm.length_eq;rwa[qay,qb1]at this
theorem Pm.lt (h:Pm n p)(hn:0<n)(k:Nat):kv p k<n:=by
 unfold kv
 by_cases hk:k<p.size
 ·have:p.getD k 0=p[k]:=by simp[Array.getD,hk]
  rw[this];exact qai.mp (h.pm.mem_iff.mp (qaO.mpr (Array.getElem_mem hk)))
 ·have:p.getD k 0=0:=by simp[Array.getD,hk]
  rw[this];exact hn
theorem Pm.bub (h:Pm n p)(a d:Nat):Pm n (bubble p a d):=⟨(Array.perm_iff_toList_perm.mp (bubble_perm p a d)).trans h.pm⟩
theorem Pm.rev (h:Pm n p)(i j:Nat):Pm n (kas_rev p i j):=⟨(Array.perm_iff_toList_perm.mp (mirror_perm p i j _)).trans h.pm⟩
theorem zpF {i j:Nat}(hj:j<=p.size)(k:Nat):kv (kas_rev p i j) k=if i<=k/\k<j then kv p (i+j-1-k)else kv p k:=by
 have h:=getElem?_mirror_all (i:=i) hj k
 split
 ·rename_i z;rw[if_pos z]at h;exact zpT h
 ·rename_i z;rw[if_neg z]at h;exact zpT h
theorem kv_bub {a d:Nat}(ha:a<p.size)(hd:d<=a)(k:Nat):kv (bubble p a d) k=if k=a-d then kv p a else if a-d<k/\k<=a then kv p (k-1)else kv p k:=by
 have h:=getElem?_bubble ha d hd k
 by_cases z:k=a-d
 ·rw[if_pos z]at h ⊢;exact zpT h
 ·rw[if_neg z]at h ⊢
  by_cases y:a-d<k/\k<=a
  ·rw[if_pos y]at h ⊢;exact zpT h
  ·rw[if_neg y]at h ⊢;exact zpT h
section
variable {n:Nat} {lt:Nat->Nat->Bool}
def Up (lt:Nat->Nat->Bool)(p:Array Nat)(m:Nat):Prop:=∀i,0<i->i<m->lt (kv p i) (kv p (i-1))=false
def Dn (lt:Nat->Nat->Bool)(p:Array Nat)(m:Nat):Prop:=∀i,0<i->i<m->lt (kv p (i-1)) (kv p i)=false
def Eqv (lt:Nat->Nat->Bool)(a b:Nat):Prop:=lt a b=false/\lt b a=false
theorem Eqv.sy (h:Eqv lt a b):Eqv lt b a:=⟨h.2,h.1⟩
theorem Eqv.tr (o:Ord lt){a b c:Nat}(h:Eqv lt a b)(k:Eqv lt b c):Eqv lt a c:=⟨o.tr c b a k.1 h.1,o.tr a b c h.2 k.2⟩
theorem Up.le (o:Ord lt)(h:Up lt p m):∀{j i:Nat},i<=j->j<m->lt (kv p j) (kv p i)=false
 |0,i,h1,_=>by cases Nat.le_zero.mp h1;exact o.rf _
 |j+1,i,h1,h2=>by
  rcases qcx h1 with z|z
  ·exact o.tr _ _ _ (Up.le o h (by lia) (by lia)) (h (j+1) (by lia) h2)
  ·subst z;exact o.rf _
theorem Dn.eqv (o:Ord lt)(h:Dn lt p m)(e:∀k,Eqv lt (kv q k) (kv p k)):Dn lt q m:=fun i h1 h2=>
 o.tr _ _ _ (e i).2 (o.tr _ _ _ (h i h1 h2) (e (i-1)).1)
theorem zlC (o:Ord lt)(hj:j<=p.size)(h:∀k,i<=k->k<j->Eqv lt (kv p k) (kv p (j-1)))(k:Nat):Eqv lt (kv (kas_rev p i j) k) (kv p k):=by
 rw[zpF hj]
 split
 ·rename_i z;exact(h _ (by lia) (by lia)).tr o (h k z.1 z.2).sy
 ·exact⟨o.rf _,o.rf _⟩
theorem Dn.turn (h:Dn lt p m)(hm:m<=p.size):Up lt (kas_rev p 0 m) m:=fun i h1 h2=>by
 rw[zpF hm,zpF hm,if_pos ⟨by lia,h2⟩,if_pos ⟨by lia,by lia⟩];have:=h (0+m-1-(i-1)) (by lia) (by lia);rwa[show 0+m-1-(i-1)-1=0+m-1-i by lia]at this
theorem zom (hn:0<n)(hp:Pm n p):∀(f m:Nat),1<=m->Up lt p m->kGd n lt (kas_asc p f m) fun r=>m<=r/\r<=m+f/\Up lt p r/\(r<m+f->lt (kv p r) (kv p (r-1))=true)
 |0,m,_,h=>⟨qaH _,qaH _,h,fun z=>absurd z (qaf _)⟩
 |f+1,m,h1,h=>by
  refine⟨hp.lt hn m,hp.lt hn (m-1),?_⟩;show kGd n lt (if lt (kv p m) (kv p (m-1))=true then _ else _) _
  split
  ·rename_i c;exact⟨qaH _,by lia,h,fun _=>c⟩
  ·rename_i c;have c':lt (kv p m) (kv p (m-1))=false:=by simpa using c
   refine zcb (fun r hr=>⟨by lia,by lia,hr.2.2.1,fun z=>hr.2.2.2 (by lia)⟩) (zom hn hp f (m+1) (by lia) fun i a b=>?_);rcases qcx (qcy b)with z|z
   ·exact h i a z
   ·subst z;exact c'
theorem zjS (o:Ord lt)(hn:0<n):∀(f:Nat) (p:Array Nat) (m q:Nat),Pm n p->m+f<=n->q+1<=m->Dn lt p m->(∀k,m-(q+1)<=k->k<m->Eqv lt (kv p k) (kv p (m-1)))->
  kGd n lt (kas_desc f p m q) fun r=>Pm n r.1/\m<=r.2.1/\r.2.1<=m+f/\r.2.2+1<=r.2.1/\Dn lt r.1 r.2.1/\∀k,r.2.1-(r.2.2+1)<=k->k<r.2.1->Eqv lt (kv r.1 k) (kv r.1 (r.2.1-1))
 |0,p,m,q,hp,hm,hq,h,e=>⟨hp,qaH _,qaH _,hq,h,e⟩
 |f+1,p,m,q,hp,hm,hq,h,e=>by
  have more:∀{p':Array Nat},Dn lt p' m->lt (kv p' (m-1)) (kv p' m)=false->Dn lt p' (m+1):=fun h' c i a b=>by
   rcases qcx (qcy b)with z|z
   ·exact h' i a z
   ·subst z;exact c
  have one:∀{p':Array Nat} (k:Nat),m+1-(0+1)<=k->k<m+1->Eqv lt (kv p' k) (kv p' (m+1-1)):=fun k a b=>by
   obtain rfl:k=m:=by lia
   exact⟨o.rf _,o.rf _⟩
  refine⟨hp.lt hn m,hp.lt hn (m-1),?_⟩;show kGd n lt (if lt (kv p m) (kv p (m-1))=true then(if q>0 then _ else _)else KasT.ask (kv p (m-1)) (kv p m) _) _
  split
  ·rename_i c;have c2:=o.as _ _ c
   split
   ·have ev:=zlC o (p:=p) (i:=m-(q+1)) (j:=m) (by rw[hp.size];lia) e;have hl:lt (kv (kas_rev p (m-(q+1)) m) (m-1)) (kv (kas_rev p (m-(q+1)) m) m)=false:=o.tr _ _ _ (ev m).2 (o.tr _ _ _ c2 (ev (m-1)).1);exact zcb (fun r hr=>⟨hr.1,by lia,by lia,hr.2.2.2.1,hr.2.2.2.2⟩) (zjS o hn f _ (m+1) 0 (hp.rev _ _) (by lia) (by lia) (more (h.eqv o ev) hl) one)
   ·exact zcb (fun r hr=>⟨hr.1,by lia,by lia,hr.2.2.2.1,hr.2.2.2.2⟩) (zjS o hn f _ (m+1) 0 hp (by lia) (by lia) (more h c2) one)
  ·rename_i c;have c':lt (kv p m) (kv p (m-1))=false:=by simpa using c
   refine⟨hp.lt hn (m-1),hp.lt hn m,?_⟩;show kGd n lt (if lt (kv p (m-1)) (kv p m)=true then _ else _) _
   split
   ·exact⟨hp,qaH _,Nat.le_add_right m (f+1),hq,h,e⟩
   ·rename_i d;have d':lt (kv p (m-1)) (kv p m)=false:=by simpa using d
    refine zcb (fun r hr=>⟨hr.1,by lia,by lia,hr.2.2.2.1,hr.2.2.2.2⟩) (zjS o hn f p (m+1) (q+1) hp (by lia) (by lia) (more h d') fun k a b=>?_);rcases qcx (qcy b)with z|z
    ·exact(e k (by lia) z).tr o ⟨d',c'⟩
    ·subst z;exact⟨o.rf _,o.rf _⟩
def Run (lt:Nat->Nat->Bool)(n:Nat)(r:Nat×Array Nat):Prop:=Pm n r.2/\1<=r.1/\r.1<=n/\Up lt r.2 r.1
theorem zmP (hn:0<n)(hp:Pm n p)(h1:1<=m)(h2:m<=n)(h:Dn lt p m):kGd n lt (kas_tail3 m n p) (Run lt n):=by
 refine zfF (zcb (fun r hr=>?_) (zom hn (hp.rev 0 m) (n-m) m h1 (h.turn (by rw[hp.size];exact h2))));exact⟨hp.rev 0 m,by lia,by lia,hr.2.2.1⟩
theorem ziE (o:Ord lt)(hn:0<n){p:Array Nat}(hp:Pm n p)(h1:1<=m)(h2:m<n)(h:Dn lt p (m+1)):kGd n lt (kas_descPart m n p) (Run lt n):=by
 refine zfF (zcb (fun r hr=>?_) (zjS o hn (n-(m+1)) p (m+1) 0 hp (by lia) (by lia) h fun k a b=>?_))
 ·obtain⟨a1,a2,a3,a4,a5,a6⟩:=hr
  split
  ·have ev:=zlC o (p:=r.1) (i:=r.2.1-(r.2.2+1)) (j:=r.2.1) (by rw[a1.size];lia) a6;exact zmP hn (a1.rev _ _) (by lia) (by lia) (a5.eqv o ev)
  ·exact zmP hn a1 (by lia) (by lia) a5
 ·obtain rfl:k=m:=by lia
  exact⟨o.rf _,o.rf _⟩
theorem gd_count (o:Ord lt)(hn:0<n){p:Array Nat}(hp:Pm n p):kGd n lt (kas_count n p) (Run lt n):=by
 refine zfF (zcb (fun m hm=>?_) (zom hn hp (n-1) 1 (qaH _) fun i a b=>absurd a (by lia)));obtain⟨a1,a2,a3,a4⟩:=hm
 split
 ·exact⟨hp,a1,by lia,a3⟩
 ·rename_i ne;have ne':m≠n:=by simpa using ne
  have c:=a4 (by lia)
  split
  ·refine⟨hp.lt hn 0,hp.lt hn (m-1),?_⟩;show kGd n lt (if lt (kv p 0) (kv p (m-1))=true then _ else _) _
   split
   ·exact⟨hp,a1,by lia,a3⟩
   ·rename_i d;have d':lt (kv p 0) (kv p (m-1))=false:=by simpa using d
    have eq:∀k,0<=k->k<m->Eqv lt (kv p k) (kv p (m-1)):=fun k _ hk=>⟨o.tr _ _ _ d' (a3.le o (qaV k) hk)|>fun z=>?_,a3.le o (by lia) (by lia)⟩
    ·have ev:=zlC o (p:=p) (i:=0) (j:=m) (by rw[hp.size];lia) eq;refine ziE o hn (hp.rev 0 m) a1 (by lia) fun i x y=>?_
     rcases qcx (qcy y)with z|z
     ·exact o.tr _ _ _ (ev i).2 (o.tr _ _ _ ((eq (i-1) (by lia) (by lia)).tr o (eq i (by lia) z).sy).1 (ev (i-1)).1)
     ·subst z;exact o.tr _ _ _ (ev i).2 (o.tr _ _ _ (o.as _ _ c) (ev (i-1)).1)
    ·exact o.tr _ _ _ d' (a3.le o (qaV k) hk)
  ·obtain rfl:m=1:=by lia
   refine ziE o hn hp (qaH _) (by lia) fun i x y=>?_
   obtain rfl:i=1:=by lia
   exact o.as _ _ c
theorem zjR (o:Ord lt)(hn:0<n)(hp:Pm n p)(hu:Up lt p k):∀(f l r:Nat),l<=r->r<=k->r-l<=f->(∀i,i<l->lt (kv p k) (kv p i)=false)->(∀i,r<=i->i<k->lt (kv p k) (kv p i)=true)->
  kGd n lt (kas_place p k f l r) fun x=>x<=k/\(∀i,i<x->lt (kv p k) (kv p i)=false)/\∀i,x<=i->i<k->lt (kv p k) (kv p i)=true
 |0,l,r,h1,h2,h3,h4,h5=>by
  obtain rfl:l=r:=by lia
  exact⟨h2,h4,h5⟩
 |f+1,l,r,h1,h2,h3,h4,h5=>by
  unfold kas_place
  split
  ·obtain rfl:l=r:=by lia
   exact⟨h2,h4,h5⟩
  ·rename_i ne;refine⟨hp.lt hn k,hp.lt hn _,?_⟩;show kGd n lt (if lt (kv p k) (kv p ((l+r)/2))=true then _ else _) _
   split
   ·rename_i c;refine zjR o hn hp hu f l _ (by lia) (by lia) (by lia) h4 fun i a b=>?_
    exact o.lt_le c (hu.le o a b)
   ·rename_i c;have c':lt (kv p k) (kv p ((l+r)/2))=false:=by simpa using c
    refine zjR o hn hp hu f _ r (by lia) h2 (by lia) (fun i a=>?_) h5;exact o.tr _ _ _ (hu.le o (i:=i) (j:=(l+r)/2) (by lia) (by lia)) c'
theorem gd_bin (o:Ord lt)(hn:0<n):∀(f:Nat) (p:Array Nat) (k:Nat),k+f=n->1<=k->Pm n p->Up lt p k->kGd n lt (kas_bin f p k) fun q=>Pm n q/\Up lt q n
 |0,p,k,h1,_,hp,hu=>by
  obtain rfl:k=n:=by lia
  exact⟨hp,hu⟩
 |f+1,p,k,h1,hk,hp,hu=>by
  refine zfF (zcb (fun x hx=>?_) (zjR o hn hp hu k 0 k (qaV _) (qaH _) (by lia) (fun i a=>absurd a (by lia)) fun i a b=>absurd a (by lia)));obtain⟨b1,b2,b3⟩:=hx;have hs:k<p.size:=by rw[hp.size];lia
  refine gd_bin o hn f _ (k+1) (by lia) (by lia) (hp.bub _ _) fun i a b=>?_
  have e:k-(k-x)=x:=by lia
  rw[kv_bub hs (by lia),kv_bub hs (by lia),e]
  by_cases z:i=x
  ·rw[if_pos z,if_neg (by lia),if_neg (by lia)];exact b2 (i-1) (by lia)
  ·rw[if_neg z]
   by_cases y:x<i
   ·rw[if_pos ⟨y,by lia⟩]
    by_cases u:i-1=x
    ·rw[if_pos u,u];exact o.as _ _ (b3 x (qaH _) (by lia))
    ·rw[if_neg u,if_pos ⟨by lia,by lia⟩];exact hu (i-1) (by lia) (by lia)
   ·rw[if_neg (fun q=>y q.1),if_neg (by lia),if_neg (by lia)];exact hu i a (by lia)
theorem zlQ (o:Ord lt)(hn:0<n):kGd n lt (kas_sort n) fun q=>Pm n q/\Up lt q n:=by
 refine zfF (zcb (fun r hr=>?_) (gd_count o hn (p:=List.toArray (List.range n)) ⟨List.Perm.refl _⟩));obtain⟨a1,a2,a3,a4⟩:=hr
 split
 ·rw[show max r.1 1=r.1 by lia];exact gd_bin o hn _ _ _ (by lia) a2 a1 a4
 ·obtain e:r.1=n:=by lia
  rw[e]at a4;exact⟨a1,a4⟩
end
def srt (n:Nat)(lt:Nat->Nat->Bool):List Nat:=if n<2 then List.range n else(kRun lt (kas_sort n)).toList
theorem zgL {n:Nat}{lt:Nat->Nat->Bool}(o:Ord lt):(srt n lt).Perm (List.range n):=by
 unfold srt
 split
 ·exact List.Perm.refl _
 ·exact(zlo (zlQ o (n:=n) (by lia))).1.pm
theorem srt_up {n:Nat}{lt:Nat->Nat->Bool}(o:Ord lt)(hij:i<=j)(ha:(srt n lt)[i]? =some a)(hb:(srt n lt)[j]? =some b):lt b a=false:=by
 unfold srt at ha hb
 split at ha
 ·rename_i h;rw[if_pos h]at hb;have h1:=(qat.mp hb).1;rw[qb1]at h1;obtain rfl:i=j:=by lia
  rw[ha]at hb;cases hb;exact o.rf _
 ·rename_i h;rw[if_neg h]at hb;obtain⟨p1,p2⟩:=zlo (zlQ o (n:=n) (by lia));have e:∀{k c:Nat},(kRun lt (kas_sort n)).toList[k]? =some c->kv (kRun lt (kas_sort n)) k=c:=fun{k c} q=>by
   unfold kv;rw[Array.getElem?_toList]at q;rw[qcw,q];rfl
  have h1:=(qat.mp hb).1;rw[qay,p1.size]at h1;rw[<-e ha,<-e hb];exact p2.le o hij h1
end M
namespace HT
open PySem PySem.W
open PyProof.Rows (seqObj listItems_at listUpdate_at seqEpoch_at get?_update_seq size_push' sortedHeap sortedAll list_sort_plain arrOf failedOf general' keyKind' pairsOf collect_list)
def outA (vs:List Value)(lt:Nat->Nat->Bool):List Value:=(M.srt vs.length lt).map fun i=>vs.getD i Value.none
theorem outA_len {vs:List Value}{lt:Nat->Nat->Bool}(o:M.Ord lt):(outA vs lt).length=vs.length:=by
 unfold outA;rw[qaS,(M.zgL o).length_eq,qb1]
theorem zni (vs:List Value):(List.range vs.length).map (fun i=>vs.getD i Value.none)=vs:=by
 refine List.ext_getElem (by simp) fun i h1 h2=>?_
 rw[List.getElem_map,List.getElem_range,qcl,qbG h2]
 rfl
section
variable {prog:Program} {w:World} {A:Around} {E:Value->Shared->Prop} {s:Shared}
def Asked (prog:Program)(w:World)(A:Around)(ks:List Value)(lt:Nat->Nat->Bool)(s:Shared):Prop:=
 ∃κ,(∀(Q:PyProof.Rows.SortKind->Shared->Prop) (E:Value->Shared->Prop),Q κ s->wpAny (model prog w) A (keyKind' (List.toArray ks)) Q E s)/\∀i j C,i<ks.length->j<ks.length->C (lt i j) s->kas_ask prog w A κ ks i j C s
theorem znz {a:Addr}{vs:List Value}{n:Nat}{lt:Nat->Nat->Bool}{P:PySem.Fin->Shared->Prop}(o:M.Ord lt)(ho:s.heap.get? a=some (seqObj "list" vs.toArray n))(h64:vs.length<64)
  (hk:2<=vs.length->∀h',(∀b u,b≠a->s.heap.get? b=some u->h'.get? b=some u)->Asked prog w A vs lt {s with heap:=h'})
  (h:P (.done (.ret .none)) {s with heap:=sortedHeap s.heap a vs (outA vs lt).toArray}):wpAny (model prog w) A (Builtin.«list.sort» ⟨[.ref a],[]⟩) P E s:=by
 rw[list_sort_plain];have ha:=qad ho;have hsl:vs.length<=sizeLine:=by rw[qaL];lia
 obtain⟨e1,g1⟩:∃c,(s.heap.update a (Obj.mapSeq fun _=> #[])).get? a=some (seqObj "list" #[] c):=⟨_,get?_update_seq ho fun _=> #[]⟩;refine qaA (listItems_at ho rfl (qaA (listUpdate_at ho rfl (qaA (seqEpoch_at g1 rfl (qaA (wpAny_newTuple (qaA (wpAny_newList (qaB ?_) (qaV _))) hsl)))) (by rw[qaM];exact hsl) (qaV _))))
 generalize hH:((s.heap.update a (Obj.mapSeq fun _=>(#[]:Array Value))).push (seqObj "tuple" vs.toArray 0)).push (seqObj "list" #[] 0)=H3
 have g3:H3.get? a=some (seqObj "list" #[] e1):=by
  rw[<-hH];exact qaF _ (qaF _ g1)
 have k3:∀b u,b≠a->s.heap.get? b=some u->H3.get? b=some u:=fun b u z q=>by
  rw[<-hH];exact qaF _ (qaF _ ((qbp _ _ (Ne.symm z)).trans q))
 show wpAny _ A _ P E {s with heap:=H3};dsimp only;have fin:∀(st:PyProof.Rows.SortSt),(arrOf st).map (·.2)=(outA vs lt).toArray->failedOf st=none->wpAny (model prog w) A (do
   let sorted:=(arrOf st).map (·.2)
   let touched:=(<-seqEpoch a) !=e1
   Builtin.List.listUpdate (.ref a) fun _=>sorted
   if let some e:=failedOf st then rule "list.sort.comparison-raised";throw e
   if touched then rule "list.sort.modified";raiseError "ValueError" "list modified during sort"
   ret .none) P E {s with heap:=H3}:=fun st e f=>by
  dsimp only;rw[e,f];refine qaA (seqEpoch_at g3 rfl (qaA (listUpdate_at g3 rfl ?_ (qaV _) (by rw[qaM,outA_len o];lia))));simp only[bne_self_eq_false,qbU,qbh];refine qaE ?_;rw[<-hH];exact h
 have hz:vs.toArray.size=vs.length:=qaM ..
 by_cases h2:vs.length<2
 ·simp only[if_pos (show vs.toArray.size<2 by rw[hz];exact h2)];refine qaA (qaE ?_);rw[StateT.run_pure];refine qaA (qaE (fin _ ?_ rfl));unfold outA M.srt;rw[if_pos h2,zni];show((vs.toArray.zip vs.toArray).map (·.2))=_;apply Array.toList_inj.mp;simp[List.map_snd_zip]
 ·simp only[if_neg (show ¬vs.toArray.size<2 by rw[hz];exact h2)];obtain⟨κ,a1,a2⟩:=hk (by lia) H3 k3;refine qaA (a1 _ _ (qaA (qaw (kat_run (Q:=fun st s'=>s'={s with heap:=H3}/\(arrOf st).map (·.2)=(outA vs lt).toArray/\failedOf st=none) (G:=fun p s'=>s'={s with heap:=H3}/\p=M.kRun lt (kas_sort vs.length)) rfl (by lia) h64 (fun p st s' b1 b2 b3 b4=>⟨b4.1,?_,b3⟩) (M.kGd_wp (n:=vs.length) (lt:=lt) a2 (M.zlQ o (by lia)) ⟨rfl,rfl⟩)) (fun r s' ⟨c1,c2,c3⟩=>?_) fun _ _ x=>x)))
  ·rw[kat_snds rfl b2,b4.2];unfold outA M.srt;rw[if_neg h2]
  ·subst c1;exact fin r.2 c2 c3
theorem sortedA {l:Addr}{vs:List Value}{lt:Nat->Nat->Bool}{Q:Value->Shared->Prop}(o:M.Ord lt)(hl:s.heap.IsList l vs.toArray)(h64:vs.length<64)
    (hk:2<=vs.length->∀h',(∀b u,s.heap.get? b=some u->h'.get? b=some u)->Asked prog w A.in1.in1 vs lt {s with heap:=h'})
    (h:Q (.ref (s.heap.objs.size+1)) {s with heap:=sortedAll s.heap vs (outA vs lt).toArray}):wpAny (model prog w) A (call (.builtin "sorted") [.ref l]) Q E s:=by
  have hsl:vs.length<=sizeLine:=by rw[qaL];lia
  have hsz:((s.heap.push (seqObj "list" #[] 0)).update s.heap.objs.size (Obj.mapSeq (· ++vs.toArray))).objs.size=s.heap.objs.size+1:=(Heap.size_update ..).trans (size_push' ..);refine Calls.call_function_entry PyProof.Rows.kind_sorted PyProof.Rows.plain_sorted PyProof.Rows.entry_sorted (PyProof.Rows.args_sorted1 _) (?_:wpAny _ _ (Builtin.«sorted» _) _ _ _);unfold Builtin.«sorted»;refine qaA (m:=checkCount "sorted" 1 1 _) (qaE (qaA (collect_list hl (qaA (wpAny_newList ?_ hsl)) hsl)));have g:(((s.heap.push (seqObj "list" #[] 0)).update s.heap.objs.size (Obj.mapSeq (· ++vs.toArray))).push (seqObj "list" vs.toArray 0)).get? (s.heap.objs.size+1)=some (seqObj "list" vs.toArray 0):=hsz ▸ qaG _ rfl;show wpAny _ _ _ _ _ {s with heap:=((s.heap.push (seqObj "list" #[] 0)).update s.heap.objs.size (Obj.mapSeq (· ++vs.toArray))).push (seqObj "list" vs.toArray 0)};rw[hsz];refine qaA (qaB (qbl PyProof.Rows.slot_list_sort ⟨_,g,rfl⟩ PyProof.Rows.entry_list_sort (znz o g h64 (fun h2 h' k=>hk h2 h' fun b u q=>?_) ⟨_,rfl,qaE ⟨_,rfl,h⟩⟩) (PyProof.Rows.args_list_sort _)));have hlt:=qad q;exact k b u (qag (qbS hlt)) (qaF _ ((qbp _ _ (Nat.ne_of_gt hlt)).trans (qaF _ q)))
end
end HT
namespace HT
open PySem PySem.Spec PySem.W
open PyProof.Rows (IntsAre IsTup)
theorem lex_tr:∀a b c:List Int,zbn b a=false->zbn c b=false->zbn c a=false
 |[],_,[],_,_=>rfl
 |[],_,_::_,_,_=>rfl
 |_::_,[],_,h,_=>by cases h
 |_::_,_::_,[],_,h=>by cases h
 |x::xs,y::ys,z::zs,h,k=>by
  rw[zdN]at h k ⊢
  by_cases e:y=x
  ·by_cases f:z=y
   ·rw[if_pos e]at h;rw[if_pos f]at k;rw[if_pos (f.trans e)];exact lex_tr xs ys zs h k
   ·rw[if_neg f]at k;subst e;rw[if_neg f];exact k
  ·rw[if_neg e]at h;have h':=qcz h
   by_cases f:z=y
   ·rw[if_neg (by lia)];exact qaa (by lia)
   ·rw[if_neg f]at k;have k':=qcz k;rw[if_neg (by lia)];exact qaa (by lia)
theorem lex_as:∀a b:List Int,zbn a b=true->zbn b a=false
 |[],[],h=>by cases h
 |[],_::_,_=>rfl
 |_::_,[],h=>by cases h
 |x::xs,y::ys,h=>by
  rw[zdN]at h ⊢
  by_cases e:x=y
  ·rw[if_pos e]at h;rw[if_pos e.symm];exact lex_as xs ys h
  ·rw[if_neg e]at h;have h':=qbE h;rw[if_neg (by lia)];exact qaa (by lia)
def zgh (nss:List (List Int))(i j:Nat):Bool:=zbn (nss.getD i []) (nss.getD j [])
theorem zle (nss:List (List Int)):M.Ord (zgh nss):=⟨fun _ _ _=>lex_tr _ _ _,fun _ _=>lex_as _ _⟩
section
variable {prog:Program} {w:World} {A:Around} {E:Value->Shared->Prop} {s:Shared}
theorem zcA {α:Type}{l:List α}{i:Nat}{x d:α}(h:l[i]? =some x):l.getD i d=x:=by rw[qcl,h];rfl
theorem znp {ks:List Value}{ns:List Int}(hi:IntsAre ks ns)(h2:2<=ks.length):Asked prog w A ks (zgh (ns.map fun n=>[n])) s:=by
 refine⟨PyProof.Rows.oneType',fun Q E h=>?_,fun i j C h1 h3 h=>?_⟩
 ·rw[PyProof.Rows.ksk_kind (kz:=ns) hi (by rw[qaM];exact h2)];exact qaE h
 ·obtain⟨n,t,e1,e2⟩:=hi.at i _ (qbG h1);obtain⟨m,u,f1,f2⟩:=hi.at j _ (qbG h3);unfold kas_ask;rw[zcA (qbG h1),zcA (qbG h3),e1,f1];refine kat_lt_int ?_;unfold zgh at h;rw[zcA (x:=[n]) (by rw[qa5,e2];rfl),zcA (x:=[m]) (by rw[qa5,f2];rfl),zdN]at h
  by_cases z:n=m
  ·subst z;rw[if_pos rfl]at h;rw[qaa (Int.lt_irrefl n)];exact h
  ·rwa[if_neg z]at h
theorem zpZ {b fin:Bool}{Q:Bool->Shared->Prop}:∀{xs ys:List Value} {ns ms:List Int} (i:Nat),IntsAre xs ns->IntsAre ys ms->fin=decide (ns.length<ms.length)->Q (zbn ns ms) s->KatLex prog w A b fin Q (xs.zip ys) i s
 |_,_,_,_,i,.nil,.nil,e,h=>by subst e;exact h
 |_,_,_,_,i,.nil,.cons _ _ _,e,h=>by subst e;exact h
 |_,_,_,_,i,.cons _ _ _,.nil,e,h=>by subst e;exact h
 |_,_,_,_,i,.cons n t hx,.cons m u hy,e,h=>by
  refine kat_cons (wpAny_eqBool_int ?_);rw[zdN]at h
  by_cases z:n=m
  ·rw[if_pos z]at h;rw[qaP.mpr z];exact kat_yes (zpZ (i+1) hx hy (by rw[e];simp) h)
  ·rw[if_neg z]at h;rw[qab.mpr z];refine kat_no ?_;cases hb:(b&&i==0)with
   |true=>exact PyProof.Rows.oneLt_int h
   |false=>exact kat_one _ _ (PyProof.Rows.lt_int h)
def zn6 (h:Heap)(ks:List Value)(nss:List (List Int)):Prop:=ks.length=nss.length/\∀(i:Nat) v ns,ks[i]? =some v->nss[i]? =some ns->∃a its,v= .ref a/\IsTup h a (List.toArray its)/\IntsAre its ns/\ns≠[]
theorem zoO {h:Heap}:∀{ks:List Value} {nss:List (List Int)},zn6 h ks nss->∃fs,KatTups h ks fs/\fs.length=ks.length/\∀v∈fs,∃n t,v=Value.int n t
 |[],nss,_=>⟨[],KatTups.nil,rfl,fun v hv=>absurd hv (by simp)⟩
 |k::ks,[],⟨h1,_⟩=>by simp at h1
 |k::ks,ns::nss,⟨h1,h2⟩=>by
  obtain⟨a,its,rfl,⟨o,ho,hc,n,hd⟩,hi,ne⟩:=h2 0 _ _ rfl rfl;obtain⟨fs,g1,g2,g3⟩:=zoO (ks:=ks) (nss:=nss) ⟨by simpa using h1,fun i v ns e1 e2=>h2 (i+1) v ns (by simpa using e1) (by simpa using e2)⟩;cases hi with
  |nil=>exact absurd rfl ne
  |cons m t hi=>
   refine⟨.int m t::fs,KatTups.cons ho hc hd rfl g1,by simp[g2],fun v hv=>?_⟩;rcases qaq.mp hv with rfl|hv
   ·exact⟨m,t,rfl⟩
   ·exact g3 v hv
theorem znK {ks:List Value}{nss:List (List Int)}(ht:zn6 s.heap ks nss)(h2:2<=ks.length):Asked prog w A ks (zgh nss) s:=by
 obtain⟨fs,g1,g2,g3⟩:=zoO ht;refine⟨PyProof.Rows.tuples' true,fun Q E h=>?_,fun i j C h1 h3 h=>?_⟩
 ·refine kat_kind (T:= .type "int") g1 (by lia) (fun v hv=>?_) rfl h;obtain⟨n,t,rfl⟩:=g3 v hv;exact Looks.now
 ·have hl:=ht.1;obtain⟨a,its,e1,⟨o,ho,hc,n,hd⟩,hi,_⟩:=ht.2 i _ _ (qbG h1) (qbG (by lia));obtain⟨b,its2,f1,⟨o2,ho2,hc2,n2,hd2⟩,hi2,_⟩:=ht.2 j _ _ (qbG h3) (qbG (by lia));unfold kas_ask;rw[zcA (qbG h1),zcA (qbG h3),e1,f1];unfold zgh at h;rw[zcA (qbG (l:=nss) (i:=i) (by lia)),zcA (qbG (l:=nss) (i:=j) (by lia))]at h;refine kat_lt ho hd ho2 hd2 (zpZ 0 hi hi2 ?_ h);rw[qaM,qaM,hi.length,hi2.length]
end
end HT
namespace M
open L2 PySem PySem.Spec
open PyProof.Rows hiding St
def znC (ds:List D):Option (List (List Int)):=match za8 ds with
 |some ns=>some (ns.map fun n=>[n])
 |none=>(ziM ds).bind fun nss=>if nss.all fun ns=>!ns.isEmpty then some nss else none
def srtD (nss:List (List Int))(ds:List D):List D:=(srt ds.length (HT.zgh nss)).map fun i=>ds.getD i .non
def dSrt:List D->Option (List D)
 |[.lst ds]=>if ds.length<64 then(znC ds).map fun nss=>srtD nss ds else none
 |_=>none
def KeyV (K:W.Frag)(H:Hp)(ys:List V)(nss:List (List Int)):Prop:=
 (∃ns:List Int,ys=ns.map V.int/\nss=ns.map fun n=>[n])\/∃as:List Addr,ys=as.map V.ref/\as.length=nss.length/\∀(i:Nat) a ns,as[i]? =some a->nss[i]? =some ns->SqT K H a (ns.map V.int)/\ns≠[]
def srtV (nss:List (List Int))(ys:List V):List V:=(srt ys.length (HT.zgh nss)).map fun i=>ys.getD i .non
def rSrt (K:W.Frag):List V->Hp->VK->Prop:=fun xs H Q=>∃(p:Addr) (ys:List V) (nss:List (List Int)),xs=[.ref p]/\SqL K H p ys/\ys.length<64/\KeyV K H ys nss/\∀l,H l=none->Q (.ref l) (upd H l (.lst (srtV nss ys)))
theorem zkz {ys:List V}{its:List Value}(r:Vals ys its):∀ix:List Nat,Vals (ix.map fun i=>ys.getD i .non) (ix.map fun i=>its.getD i .none)
 |[]=> .nil
 |i::ix=>by
  refine .cons ?_ (zkz r ix);dsimp only;cases e:ys[i]? with
  |some y=>
   obtain⟨u,h1,h2⟩:=r.get e;rw[HT.zcA e,HT.zcA h1];exact h2
  |none=>
   rw[qcl,qcl,e,r.none_of e];exact rfl
theorem zlJ {X:Cx}:zeS X (.builtin "sorted") (rSrt X.K):=by
 intro pins s σ H xs us Q I r h;obtain⟨p,ys,nss,rfl,hq,h64,kv,q⟩:=h;obtain⟨u,rfl,ru⟩:=ziI r;cases ru;obtain⟨its,rv,pl,hz⟩:=I.list hq;have hl:=rv.length;refine HT.sortedA (HT.zle nss) pl.isList (by lia) (fun h2 h' k=>?_) ?_
 ·rcases kv with⟨ns,rfl,rfl⟩|⟨as,rfl,e1,e2⟩
  ·exact HT.znp (zfz rv) h2
  ·refine HT.znK ⟨by rw[<-hl,qaS,e1],fun i v ns e3 e4=>?_⟩ h2;obtain⟨a,ea,rfl⟩:=zhY rv e3;obtain⟨g1,g2⟩:=e2 i a ns ea e4;have I':Inv X pins σ H {s with heap:=h'}:=I.kept k;obtain⟨its2,r2,p2,_⟩:=I'.tuple g1;exact⟨a,its2,rfl,p2,zfz r2,g2⟩
 ·obtain⟨e,he⟩:=PyProof.Rows.sortedAll_at s.heap its (HT.outA its (HT.zgh nss)).toArray;refine⟨.ref (s.heap.objs.size+1),upd H (s.heap.objs.size+1) (.lst (srtV nss ys)),I.laid (t':=s.toks) (fun b u z=>PyProof.Rows.sortedAll_old z) (Nat.le_succ _) ?_,rfl,q _ (I.hok.fresh (Nat.le_succ _))⟩;have r2:=zkz rv (srt ys.length (HT.zgh nss));refine⟨?_,HT.outA its (HT.zgh nss),e,?_,he⟩
  ·unfold srtV;rw[qaS,(zgL (HT.zle nss)).length_eq,qb1];exact hz
  ·unfold HT.outA srtV;rw[<-hl];exact r2
theorem RepL.picks {K:W.Frag}{G:Hp}{ys:List V}{ds:List D}(r:RepL K G ys ds):∀ix:List Nat,RepL K G (ix.map fun i=>ys.getD i .non) (ix.map fun i=>ds.getD i .non)
 |[]=> .nil
 |i::ix=>by
  refine .cons ?_ (RepL.picks r ix);dsimp only;cases e:ds[i]? with
  |some y=>
   obtain⟨u,h1,h2⟩:=r.get e;rw[HT.zcA e,HT.zcA h1];exact h2
  |none=>
   have e':ys[i]? =none:=by rw[qac]at e ⊢;rw[r.length];exact e
   rw[qcl,qcl,e,e'];exact rfl
theorem keyV_of {K:W.Frag}{G H:Hp}{ys:List V}{ds:List D}{nss:List (List Int)}(f:Fz G H)(r:RepL K G ys ds)(e:znC ds=some nss):KeyV K H ys nss:=by
 unfold znC at e
 split at e
 ·rename_i ns h;cases e;rw[zeb h]at r;exact .inl ⟨ns,RepL.ints_eq r,rfl⟩
 ·refine cBel e fun ms e1 e=>?_
  split at e
  ·rename_i ha;cases e;obtain⟨as,rfl,hl,h⟩:=ziR r e1;refine .inr ⟨as,rfl,hl,fun i a ns h1 h2=>⟨SqT.of (f _ _ (h i a ns h1 h2)),fun z=>?_⟩⟩;have:=qbV.mp ha ns (qa7 h2);rw[z]at this;cases this
  ·exact cNN e
theorem zpj {X:Cx}{e:Expr}{ma:MA}{p pos:Pos}(ml:X.mg "sorted"=none)(ha:SA X [e] ma)(hg:Gl X "sorted":=by rfl)(he:starEach [e] X.env=(false,eval e X.env)::starEach [] X.env:=by rfl)(hb:bootBuiltins "sorted"=some (.builtin "sorted"):=by decide+kernel):
  SO X (.Call (.Name "sorted" p) [e] [] pos) (oC dSrt ma):=by
 obtain⟨t,pa,sa⟩:=ha;refine⟨_,zjF zlJ hg ml hb pa (by decide) (by decide) he rfl,fun B G H σ ρ ds ρ' Q I hm k=>?_⟩;obtain⟨as,e1,e2⟩:=oC_inv hm;refine sa B G H σ ρ as ρ' _ I e1 fun G1 H1 vs I1 f1 r1=>?_
 unfold dSrt at e2
 split at e2
 ·rename_i es
  split at e2
  ·rename_i h64;obtain⟨nss,e3,rfl⟩:=zhh e2;obtain⟨x,rfl,ra⟩:=r1.one;obtain⟨q,ys,rfl,hp,ry⟩:=I1.lst ra;have hl:=ry.length;refine⟨q,ys,nss,rfl,SqL.of hp,by lia,keyV_of I1.fz ry e3,fun l h0=>?_⟩;obtain⟨I2,g2,h2,b2,n2⟩:=I1.newO h0 (srtV nss ys);refine k G1 _ l _ I2 f1 g2 h2 ?_ b2 n2;unfold srtV srtD;rw[hl];exact ry.picks _
  ·exact cNN e2
 ·exact cNN e2
end M
namespace HT
open PySem
def SIt (h:Heap)(I S:Addr)(first:Value)(i n ep:Nat):Prop:=∃o,h.get? I=some o/\o.cls= .type "set_iterator"/\o.data= .fields #[first,.int i 0,.ref S,.int n 0,.int ep 0]
end HT
namespace M
open L2 PySem PySem.Spec
open PyProof.Rows hiding St
theorem zgK:∀{its:List Value} {ns:List Int},IntsAre its ns->Vals (ns.map V.int) its
 |_,_,.nil=> .nil
 |_,_,.cons n t h=> .cons ⟨t,rfl⟩ (zgK h)
end M
namespace M
open L2 PySem
def zoZ (f g h:D->D->Option D)(a b c d:ME):ME:=fun ρ=>(a ρ).bind fun p=>(b p.2).bind fun q=>(f p.1 q.1).bind fun t=>match t with
 | .bl true=>(c q.2).bind fun r=>(g q.1 r.1).bind fun t'=>match t' with
  | .bl true=>(d r.2).bind fun s=>(h r.1 s.1).map fun x=>(x,s.2)
  | .bl false=>some (.bl false,r.2)
  |_=>none
 | .bl false=>some (.bl false,q.2)
 |_=>none
end M
namespace M
open L2 PySem PySem.Spec
open PyProof.Rows hiding St
def zng:D->Bool
 | .int _=>true
 |_=>false
def flD:D->Bool
 | .non=>true
 | .bl _=>true
 | .int _=>true
 | .str _=>true
 | .tup ds=>ds.all zng
 |_=>false
def flC:Ch->Bool
 | .d x=>flD x
 | .l ds=>ds.all flD
 | .t _=>false
def flT:T->Bool
 | .tup cs=>cs.all flC
 | .ins _ fs=>fs.all fun f=>flC f.2
 |_=>false
def flS:Sl->Bool
 | .emp=>true
 | .val d=>flD d
 | .own ds=>ds.all flD
 | .par ds=>ds.all flD
 | .tre t=>flT t
 | .ptr t=>flT t
 | .two _ _=>false
open Classical in
section
variable {K:W.Frag} {G Gx G2 H H2:Hp}
theorem RepT.head {v:V}{t:T}{A:List Addr}(r:RepT K G H v t A):∃p,v= .ref p/\p∈A:=by
 cases t with
 |lst cs=>obtain⟨p,xs,A',h1,h2,h3,rfl⟩:=r;exact⟨p,h1,by simp⟩
 |tup cs=>obtain⟨p,xs,A',h1,h2,h3,rfl⟩:=r;exact⟨p,h1,by simp⟩
 |ins c fs=>obtain⟨p,C,dx,ws,A',h1,h2,h3,h4,h5,h6,rfl⟩:=r;exact⟨p,h1,by simp⟩
 |dic ks ds=>obtain⟨p,ys,h1,h2,h3,h4,rfl⟩:=r;exact⟨p,h1,by simp⟩
 |dit ks ds=>obtain⟨p,ys,o,xs,h1,h2,h3,h4,rfl⟩:=r;exact⟨p,h1,by simp⟩
 |obj c ns ls dk=>obtain⟨p,C,dx,ws,A',h1,h2,h3,h4,h5,h6,rfl⟩:=r;exact⟨p,h1,by simp⟩
end
abbrev MG:=R->Option (R×R)
def Sl.hand:Sl->Option Sl
 | .own ds=>some (.par ds)
 | .par ds=>some (.par ds)
 | .tre t=>if t.isObj then none else some (.ptr t)
 | .ptr t=>if t.isObj then none else some (.ptr t)
 |_=>none
def oddC:Ch->Bool
 | .d (.str _)=>true
 | .l _=>true
 |_=>false
def Sl.look:Sl->Option D
 | .val d=>some d
 | .own ds=>some (.lst ds)
 | .par ds=>some (.lst ds)
 | .tre (.tup cs)=>if cs.any oddC then some (.tup (cs.map Ch.D))else none
 | .tre (.obj c ns ls (some q))=>some (.obj c ns (ls.map D.lst) q.1 q.2)
 | .ptr (.obj c ns ls (some q))=>some (.obj c ns (ls.map D.lst) q.1 q.2)
 |_=>none
def hasA (ρ:R)(j:Nat):Bool:=match ρ[j]? with
 |some (.val _)=>true
 |some (.own _)=>true
 |some (.par _)=>true
 |some (.tre _)=>true
 |some (.ptr _)=>true
 |_=>false
section
variable {K:W.Frag} {B:Bs} {G Gx Gy H:Hp} {σ:St} {ρ:R}
theorem zp4 {Gz:Hp}(fg:Fz G Gz){p C dx:Addr}{c:Str}{ns:List Str}{vs:List (Str×V)}{ls:List (List D)}{q:List Int×List D}{A:List Addr}(h0:W.nsIn K mainGlobals c=some (some (.ref C)))(h1:Gz p=some (.ins C dx vs))(h2:vs.map (·.1)=ns)(r:RepO K G H (vs.map (·.2)) ls (some q) A)(h:∀a∈A,Gz a=H a):RepD K Gz (.ref p) (.obj c ns (ls.map D.lst) q.1 q.2):=by
 obtain⟨ws,p2,o,zs,ys,A',e,r1,q1,q2,q3,rfl⟩:=r;exact⟨p,C,dx,vs,ws,p2,o,zs,ys,rfl,h0,h1,h2,e,zmG fg r1 fun a m=>h a (by simp[m]),by rw[h p2 (by simp)];exact q1,q2,q3.mono fg⟩
end
def spG (K:W.Frag)(n:Nat)(F:R->Option (Sl×R)):Sp:=fun vs H Q _=>∃G O as r outs,F as=some (r,outs)/\as.length=n/\SI K ⟨G,H,O⟩ G H (vs.map some) as/\
 ∀G' H' v,Fz G G'->Fz G' H'->(∀b o,G' b=some o->G b≠none\/H b=none)->(∀b o,H b=some o->(∀i,(i,b)∉O)->H' b=some o)->(∀b,H' b=none->H b=none)->
  (∀(i:Nat) (s:Sl),outs[i]? =some s->∃ov,SlotOk K ⟨G,H,O⟩ G' H' i ov s)->ResF K G' H' H v r->Q v H'
def outS:R->R->Option R
 |[],_=>some []
 | .par _::as,.par ds::ρ=>(outS as ρ).map (.par ds:: ·)
 | .ptr _::as,.ptr t::ρ=>(outS as ρ).map (.ptr t:: ·)
 | .val _::as,_::ρ=>(outS as ρ).map (.emp:: ·)
 |_,_=>none
def fG (N:Nat)(m:MS):R->Option (Sl×R):=fun as=>(m (as++List.replicate (N-as.length) .emp)).bind fun p=>match p.1 with
 | .ret r=>(outS as p.2).map fun o=>(r,o)
 | .next=>(outS as p.2).map fun o=>(.val .non,o)
 |_=>none
theorem zkj {y s:Sl}{o ρ:R}{i:Nat}{u:Sl}(e:(y::o)[i]? =some s)(z:y= .emp\/u=y)(ih:∀{i:Nat} {s:Sl},o[i]? =some s->s= .emp\/ρ[i]? =some s):s= .emp\/(u::ρ)[i]? =some s:=by
 cases i with
 |zero=>rw[List.getElem?_cons_zero]at e ⊢;rw[<-Option.some.inj e];exact z.imp id fun q=>congrArg _ q
 |succ i=>rw[qbM]at e ⊢;exact ih e
theorem outS_get {as ρ os:R}{i:Nat}{s:Sl}(h:outS as ρ=some os)(e:os[i]? =some s):s= .emp\/ρ[i]? =some s:=by
 induction as generalizing ρ os i s with
 |nil=>rw[<-Option.some.inj h,List.getElem?_nil]at e;exact cNN e
 |cons x as ih=>
  cases ρ with
  |nil=>cases x<;>exact cNN h
  |cons y ρ=>
   cases x with
   |val d=>exact cMel h fun o q z=>by subst z;exact zkj e (.inl rfl) (ih q)
   |par d=>cases y with
    |par d'=>exact cMel h fun o q z=>by subst z;exact zkj e (.inr rfl) (ih q)
    |_=>exact cNN h
   |ptr d=>cases y with
    |ptr d'=>exact cMel h fun o q z=>by subst z;exact zkj e (.inr rfl) (ih q)
    |_=>exact cNN h
   |_=>exact cNN h
theorem SI.startG {K:W.Frag}{B:Bs}{G H:Hp}{N:List Str}{vs:List V}{as:R}(I:SI K B G H (vs.map some) as)(h:as.length<=N.length):SI K B G H (L2.start N vs) (as++List.replicate (N.length-as.length) .emp):=by
 have hl:vs.length=as.length:=by simpa using I.len
 have at1:∀{i:Nat} {s:Sl},(as++List.replicate (N.length-as.length) Sl.emp)[i]? =some s->(as[i]? =some s/\(L2.start N vs)[i]? =(vs.map some)[i]?)\/s= .emp:=fun{i s} e=>by
  by_cases hi:i<as.length
  ·rw[qa4 hi]at e;refine .inl ⟨e,?_⟩;unfold L2.start;rw[qa4 (by simpa[hl]using hi)]
  ·rw[qa2 (by lia),qa3]at e
   split at e
   ·cases e;exact .inr rfl
   ·exact cNN e
 refine⟨I.fz,I.g0,I.new,I.keep,I.there,?_,I.ob,fun i s e=>?_,fun i j s t a n e1 e2 w1 w2=>?_⟩
 ·rw[ziv (by lia),qa8,qa9];lia
 ·rcases at1 e with⟨e1,e2⟩|rfl
  ·rw[e2];exact I.slot i s e1
  ·trivial
 ·rcases at1 e1 with⟨f1,f2⟩|rfl
  ·rcases at1 e2 with⟨g1,g2⟩|rfl
   ·rw[f2]at w1;rw[g2]at w2;exact I.dis i j s t a n f1 g1 w1 w2
   ·exact w2
  ·exact w1
section
variable {P:Program} {w:World} {K:W.Frag} {mg:Str->Option Value} {base:Heap}
theorem fnG_ok {x qual:Str}{st:Stmt}{f:Addr}{fd:FuncData}{N ps:List Str}{k n:Nat}{m:MS}(F:Fun K x qual st f fd)(S:FnScope N ps (zar st))(hn:ps.length=n)(hN:n<=N.length)
  (body:∀(cdv:Value) (A:Around) (outer:List Env) (s:Shared) (H:Hp) (E:XK),Room k (A.deeper (envOfC qual (zar st) s.heap.objs.size f cdv))->SSs (cxOf CX0 P w K mg base N qual (zar st) f cdv A outer s H E).nox (zaR st) m):
  FnOk P w K mg base CX0 (k+1) f fd ps (spG K n (fG N.length m)):=by
 refine F.ok S (fun vs H Q E h=>?_) (fun cdv A outer s H vs Q E hr h=>?_)
 ·obtain⟨G,O,as,r,outs,_,h2,I,_⟩:=h;have:=I.len;rw[qaS]at this;lia
 ·obtain⟨G,O,as,r,outs,e1,h2,I,kk⟩:=h;obtain⟨t,pt,so⟩:=body cdv A outer s H E hr;refine⟨t,pt,?_⟩;refine zaz e1 fun fl ρ' e2 e3=>?_
  refine so ⟨G,H,O⟩ G H (L2.start N vs) _ fl ρ' _ (I.startG (by lia)) e2 ?_;have fin:∀G' H' σ' v,outS as ρ'=some outs->SI K ⟨G,H,O⟩ G' H' σ' ρ'->Fz G G'->ResF K G' H' H v r->Q v H':=fun G' H' σ' v eo J f rr=>
   kk G' H' v f J.fz J.new (fun b o e n=>J.keep b o e n) J.there (fun i s e=>by
    rcases outS_get eo e with rfl|q
    ·exact⟨none,trivial⟩
    ·exact⟨_,J.slot i s q⟩) rr
  cases fl with
  |brk=>exact cNN e3
  |cont=>exact cNN e3
  |next=>
   refine cMel e3 fun o q1 q2=>?_
   cases q2;exact fun G' H' σ' J f=>fin G' H' σ' .non q1 J f rfl
  |ret r'=>
   refine cMel e3 fun o q1 q2=>?_
   cases q2;refine fun G' H' σ' v J f rr=>fin G' H' σ' v q1 J f ?_
   cases r with
   |val d=>exact rr
   |own ds=>exact rr
   |emp=>exact rr
   |two _ _=>exact rr
   |tre _=>exact rr
   |ptr _=>exact rr
   |par ds=>exact rr
end
def backS (u s:Sl):Sl:=match s with
 | .par ds=>u.put ds
 | .ptr t=>u.putT t
 |_=>u
def zlq:List (Option Nat)->R->R->R
 | some j :: js, s :: os, ρ => zlq js os (match ρ[j]? with
  |some u=>ρ.set j (backS u s)
  |none=>ρ)
 |none::js,_::os,ρ=>zlq js os ρ
 |_,_,ρ=>ρ
def znU:R->Option (List D)
 |[]=>some []
 | .val d::as=>(znU as).map (d:: ·)
 |_=>none
def znL (F:List D->Option Sl):R->Option (Sl×R):=fun as=>(znU as).bind fun ds=>(F ds).map fun r=>(r,as.map fun _=> .emp)
def ckG (ls:List Nat)(z:Sl×R):Bool:=ls.isEmpty||(flS z.1&&z.2.all flS)
def bkT (n:Int)(ds:List D):T:= .ins "SumBook" [("many",.d (.int n)),("kept",.l ds)]
def T.bk:T->Option (Int×List D)
 | .ins c [(a,.d (.int n)),(b,.l ds)]=>if c="SumBook"/\a="many"/\b="kept" then some (n,ds)else none
 |_=>none
def Sl.bk:Sl->Option (Int×List D)
 | .tre t=>t.bk
 | .ptr t=>t.bk
 |_=>none
theorem bkT_bk {n:Int}{ds:List D}:(bkT n ds).bk=some (n,ds):=by
 show(if("SumBook":Str)="SumBook"/\("many":Str)="many"/\("kept":Str)="kept" then some (n,ds)else none)=some (n,ds);rw[if_pos ⟨rfl,rfl,rfl⟩]
def onlyV (ρ:R):R:=ρ.map fun s=>match s with
 | .val d=> .val d
 |_=> .emp
section
variable {P:Program} {w:World} {K:W.Frag} {mg:Str->Option Value} {base hp:Heap} {x mt:Str} {st:Stmt} {f:Addr} {N:List Str} {k n:Nat} {m:MS}
structure DefOkM (x q:Str) (st:Stmt) (N:List Str) (n:Nat):Prop where
 sc:FnScope N (N.take n) (zar st)
 len:(N.take n).length=n
 le:n<=N.length
 bs:∀(kV doc pm:Value) (an:Option Addr) (cdv ct:Value) (us:List Value),us.length=(N.take n).length->bindArgs (W.fnOf x q (zbh st) (zaR st) (zar st) .none kV doc pm an cdv ct) ⟨us,[]⟩=pure ((N.take n).zip us)
end
section
variable {K:W.Frag} {B:Bs} {G H:Hp} {σ:St} {ρ:R}
open Classical in
def Bs.reA (B:Bs)(K:W.Frag)(G H:Hp)(σ:St)(ρ:R)(A:List Addr):Bs:=⟨G,fun b=>if(∃(i:Nat) (s:Sl),ρ[i]? =some s/\OwS K G H σ[i]? b s)/\B.H b=none then none else H b,B.O.filter fun z=>!A.contains z.2⟩
theorem reA_O {A:List Addr}{z:Nat×Addr}:z∈(B.reA K G H σ ρ A).O↔z∈B.O/\z.2∉A:=by
 unfold Bs.reA;simp
theorem zkc (I:SI K B G H σ ρ){A:List Addr}{b:Addr}(h:(B.reA K G H σ ρ A).H b=none):B.H b=none:=by
 unfold Bs.reA at h;dsimp only at h
 split at h
 ·rename_i w;exact w.2
 ·exact I.there b h
theorem SI.reA (I:SI K B G H σ ρ){A:List Addr}(hA:∀a∈A,Nw K G H σ ρ a):SI K (B.reA K G H σ ρ A) G H σ ρ where
 fz:=I.fz
 g0:=Fz.refl G
 new:=fun b o e=> .inl (by show G b≠none;rw[e];simp)
 keep:=fun b o e _=>by
  unfold Bs.reA at e;dsimp only at e
  split at e
  ·exact cNN e
  ·exact e
 there:=fun b e=>by
  unfold Bs.reA;dsimp only
  split
  ·rfl
  ·exact e
 ob:=fun i b m=>by
  have hb:=I.ob i b (reA_O.mp m).1;unfold Bs.reA;dsimp only;rw[if_neg fun w=>hb w.2];exact fun z=>hb (I.there b z)
 len:=I.len
 slot:=fun i s e=>by
  have h:=I.slot i s e;have own:∀{a:Addr},OwS K G H σ[i]? a s->B.H a=none->(B.reA K G H σ ρ A).H a=none:=fun{a} w n=>by
   unfold Bs.reA;dsimp only;rw[if_pos ⟨⟨i,s,e,w⟩,n⟩]
  have inO:∀{n:Nat} {a:Addr},OwS K G H σ[i]? a s->(n,a)∈B.O->(n,a)∈(B.reA K G H σ ρ A).O:=fun{n a} w m=>reA_O.mpr ⟨m,fun z=>hA a z i s e w⟩
  cases s with
  |emp=>trivial
  |two _ _=>trivial
  |val d=>exact h
  |own ds=>obtain⟨l,xs,k1,k2,k3,k4,k5⟩:=h;exact⟨l,xs,k1,k2,k3,k4,own k1 k5⟩
  |par ds=>obtain⟨l,xs,k1,k2,k3,k4,k5⟩:=h;exact⟨l,xs,k1,k2,k3,k4,inO k1 k5⟩
  |tre t=>obtain⟨v,A',k1,k2,k3,k4⟩:=h;exact⟨v,A',k1,k2,k3,fun a m=>⟨(k4 a m).1,own ⟨v,A',k1,k2,m⟩ (k4 a m).2⟩⟩
  |ptr t=>
   obtain⟨v,A',k1,k2,⟨k3,p,rfl,k5,k6⟩,k4⟩:=h;obtain⟨p2,q1,q2⟩:=k2.head;cases q1;exact⟨_,A',k1,k2,⟨k3,p,rfl,inO ⟨_,A',k1,k2,q2⟩ k5,fun z=>inO ⟨_,A',k1,k2,q2⟩ (k6 z)⟩,fun a m=>⟨(k4 a m).1,(k4 a m).2.imp (inO ⟨_,A',k1,k2,m⟩) fun z=>⟨own ⟨_,A',k1,k2,m⟩ z.1,by
    obtain⟨y1,p3,y2,y3⟩:=z;cases y2;exact⟨p,rfl,inO ⟨_,A',k1,k2,q2⟩ y3⟩⟩⟩⟩
 dis:=I.dis
end
abbrev MXG:=R->Option (Str×R)
end M
namespace M
open L2 PySem PySem.Spec
open PyProof.Rows hiding St
open Builtin Builtin.Str
def sIx (x:Str)(i:Int):Option Str:=(atI x.cps.toList i).map fun c=>⟨#[c]⟩
def tS (i:Int):Str:=Str.ofString (toString i)
end M
namespace M
open L2 PySem PySem.Spec
open PyProof.Rows hiding St
variable {ks:List Int} {k j i:Nat} {v:V} {u oc:Value} {K:W.Frag} {tg e:Expr} {X:Cx} {l C p a:Addr} {m:MO} {pl:Sem Bool} {s:Sl} {xs ys:List V} {ds:List D} {vs:List (Str×V)} {o:Obj} {c x:Str} {ns:List Str} {ls:List (List D)} {dk:List Int×List D} {q:Str×List Str×List (List D)×Option (List Int×List D)} {osl:Array (Option Value)}
section
variable {P:Program} {w:World} {H G:Hp} {h:Heap} {a:Addr} {o:Obj} {zs:List (Int×Tok×Value)} {ks:List Int} {ys:List (L2.Key×V)}
def enK (z:Int×Tok×Value):DictEntry:=⟨hashInt z.1,.int z.1 z.2.1,z.2.2⟩
def vsK (zs:List (Int×Tok×Value)):List (L2.Key×Value):=zs.map fun z=>(kI z.1,z.2.2)
theorem enK_is (z:Int×Tok×Value):(zbH P w).is (kI z.1) (enK z).key=true:=zpH (k:=kI z.1) ⟨z.2.1,rfl⟩
theorem zkI:∀zs:List (Int×Tok×Value),Pairs (zbH P w) (zs.map enK) (vsK zs)
 |[]=> .nil
 |z::zs=> .cons (enK_is z) rfl (zkI zs)
theorem zmN (zs:List (Int×Tok×Value)):(vsK zs).map (·.1)=(zs.map (·.1)).map kI:=by
 unfold vsK;rw[qb4,qb4];rfl
theorem nodup_kI (h:ks.Nodup):(ks.map kI).Nodup:=by
 induction ks with
 |nil=>exact List.nodup_nil
 |cons k ks ih=>
  rw[qaY]at h;rw[qaR,qaY];refine⟨fun m=>?_,ih h.2⟩;obtain⟨j,hj,e⟩:=qbW.mp m;cases zis _ _ e;exact h.1 hj
theorem zmJ:∀{as bs:List Int},as.map kI=bs.map kI->as=bs
 |[],[],_=>rfl
 |[],_::_,h=>by cases h
 |_::_,[],h=>by cases h
 |a::as,b::bs,h=>by
  have e:=List.cons.inj h;rw[zis _ _ e.1,zmJ e.2]
theorem DkN.kvs (d:DkN a o zs ks ys):KV ys (vsK zs):=by
 have h:=d.kv;unfold vsK
 generalize zs=zs at h
 generalize ys=ys at h
 induction h with
 |nil=>exact .nil
 | @cons p q ps qs e _ ih=>exact .cons ⟨e.1,e.2⟩ ih
theorem DkN.of (d:DkN a o zs ks ys)(g:h.get? a=some o):h.DictOf (zbH P w) a (vsK zs):=by
 obtain⟨es,ep,h1,h2⟩:=d.dat;refine⟨o,es,ep,g,d.ex,h1,fun e m=>?_,?_,?_⟩
 ·have m':e∈es.toList:=qaO.mpr m;rw[h2]at m';obtain⟨z,hz,e1⟩:=qbW.mp m';subst e1;exact⟨kI z.1,enK_is z,rfl⟩
 ·rw[h2];exact zkI zs
 ·rw[zmN,d.zk];exact nodup_kI d.nd
theorem zs_of:∀{es:List DictEntry} {kvs:List (L2.Key×Value)},Pairs (zbH P w) es kvs->(∀e∈es,∃k,(zbH P w).is k e.key=true/\e.hash=(zbH P w).hash k)->(∀q∈kvs,∃n,q.1=kI n)->∃zs,es=zs.map enK/\kvs=vsK zs
 |_,_,.nil,_,_=>⟨[],rfl,rfl⟩
 |_,_,@Pairs.cons _ _ _ _ _ e kv es kvs h1 h2 ht,hk,hn=>by
  obtain⟨zs,e1,e2⟩:=zs_of ht (fun x m=>hk x (qap _ m)) fun x m=>hn x (qap _ m)
  obtain⟨n,hn9⟩:=hn kv qao;obtain⟨k,q1,q2⟩:=hk e qao;rw[hn9]at h1;obtain rfl:k=kI n:=(zbH P w).inj _ _ _ q1 h1;rcases za6 (k:=kI n) (v:=e.key) h1 with⟨i,t,z1,z2⟩|⟨x,t,z1,z2⟩
  ·obtain⟨eh,ek,ev⟩:=e;obtain⟨kk,vv⟩:=kv;have z1:n=i:=by unfold kI at z1;exact Sum.inl.inj z1
   subst z1;dsimp only at h2 hn9 z2 q2;subst h2 hn9 z2 q2;exact⟨(n,t,ev)::zs,by rw[e1];rfl,by rw[e2];rfl⟩
  ·exact nomatch (show(Sum.inl n:L2.Key)=Sum.inr x from z1)
theorem DkN.put {k:Int}(d:DkN a o zs ks ys)(hl:ks.length<sizeLine)(rv:RelV v u)(dd:h.DictOf (zbH P w) a (stored (vsK zs) (kI k) u))(ds:List D)(dv:D):∃o' zs',h.get? a=some o'/\DkN a o' zs' (ptD ks ds k dv).1 (putK ys (kI k) v):=by
 obtain⟨o',es,ep,h1,h2,h3,h4,h5,h6⟩:=dd;have kv:=d.kvs.put (kI k) rv;have key:(putK ys (kI k) v).map (·.1)=((ptD ks ds k dv).1).map kI:=by
  unfold putK ptD;have any:(ys.any fun kv=>decide (kv.1=kI k))=ks.contains k:=by
   have e:=d.key
   generalize ys=ys at e
   generalize ks=ks at e
   induction ys generalizing ks with
   |nil=>cases ks with
    |nil=>rfl
    |cons _ _=>cases e
   |cons y ys ih=>cases ks with
    |nil=>cases e
    |cons j ks=>
     have e2:=List.cons.inj e;rw[qbs,ih ks e2.2,qcm];congr 1
     by_cases q:k=j
     ·subst q;simp[e2.1]
     ·rw[qaa (fun z=>q (zis _ _ (e2.1.symm.trans z)).symm)];simp[q]
  rw[any]
  split
  ·rw[<-d.key,qb4];refine qcn fun p _=>?_
   show(if p.1=kI k then(p.1,v)else p).1=p.1
   split<;>rfl
  ·rw[qb3,qb3,d.key];rfl
 have ik:∀q∈stored (vsK zs) (kI k) u,∃n,q.1=kI n:=fun q m=>by
  have m1:q.1∈(stored (vsK zs) (kI k) u).map (·.1):=qbW.mpr ⟨q,m,rfl⟩;rw[<-KV.keys kv,key]at m1;obtain⟨n,_,e⟩:=qbW.mp m1;exact⟨n,e.symm⟩
 obtain⟨zs',e1,e2⟩:=zs_of h5 (fun e m=>h4 e (qaO.mp m)) ik;rw[e2]at kv h6;have zk:zs'.map (·.1)=(ptD ks ds k dv).1:=by
  apply zmJ;rw[<-zmN,<-KV.keys kv,key]
 refine⟨o',zs',h1,d.sys,h2,⟨es,ep,h3,e1⟩,?_,?_,zk,key,?_⟩
 ·have:((ptD ks ds k dv).1).Nodup:=by
   unfold ptD
   split
   ·exact d.nd
   ·rename_i c;rw[qcA];refine⟨d.nd,by simp,fun x hx y hy z=>c ?_⟩;have:y=k:=by simpa using hy
    subst this;subst z;exact qcB.mpr hx
  exact this
 ·have l1:=zl5 ys (kI k) v;have l2:ys.length=ks.length:=by have:=congrArg List.length d.key;simpa using this
  lia
 ·unfold vsK at kv
  generalize putK ys (kI k) v=yy at kv
  clear zk e1 e2 h6 key
  induction zs' generalizing yy with
  |nil=>cases kv;exact .nil
  |cons z zs' ih=>
   cases kv with
   |cons r t=>exact .cons ⟨r.1,r.2⟩ (ih _ t)
def Itn (d:Addr)(o:Obj)(ks:List Int):It:=
 ⟨fun i H=>H d=some (kn d o)/\i<ks.length,fun i H x H'=>H'=H/\∃k,ks[i]? =some k/\x= .int k,fun i H=>H d=some (kn d o)/\ks.length<=i⟩
theorem zna (d it:Addr)(dn:DkN d o zs ks ys):Turn P w K tg (Itn d o ks) [it] it (fun i h=>∃es ep,o.data= .dict es ep/\h.IsKeyIter it d i ks.length ep) where
 mem:=by simp
 obj:=fun i h ⟨es,ep,_,st⟩ b hb=>by
  have e:b=it:=by simpa using hb
  subst e;obtain⟨o,e,c,d⟩:=st;exact⟨o,e,fun v z=>by rw[d]at z;cases z⟩
 keep:=fun i h h' ⟨es,ep,q,st⟩ k=>⟨es,ep,q,st.at fun o e=>k it (by simp) o e⟩
 item:=by
  intro X hP hw hK hc i pins s σ H E I hf ⟨es,ep,q,st⟩ hg;subst hP hw hK;have g:=zlr I.hok hg.1;obtain⟨es',ep',h2,he⟩:=dn.dat;rw[h2]at q;cases q;have hz:es.size=ks.length:=by have h1:=congrArg List.length he;have h2:=congrArg List.length dn.zk;simp at h1 h2;lia
  obtain⟨f0,f1,f2,f3,f4,f5⟩:=hf it (by simp);have hi:i<es.size:=by rw[hz];exact hg.2
  rw[<-hz]at st;refine raw_item st g h2 hi fun h' st' sb=>?_
  have I1:Inv X pins σ H {s with heap:=h'}:=I.turned (t':=s.toks) (fun b o hb e=>(sb.2 b hb).trans e) f0 f1 f3 f4 f5;obtain⟨o',e,c,d'⟩:=id st';have hx:zs[i]? =some (zs[i]'(by have:=congrArg List.length dn.zk;simp at this;lia)):=qbG _
  generalize zs[i]'_=z at hx
  have hk:ks[i]? =some z.1:=by rw[<-dn.zk,qa5,hx];rfl
  have key:es[i].key= .int z.1 z.2.1:=by
   have h1:es.toList[i]? =some es[i]:=by simp[hi]
   rw[he,qa5,hx]at h1;rw[<-Option.some.inj h1]
  rw[key];exact⟨_,rfl,go_of (s:={s with heap:=h'}) e c d' (by decide) ⟨.int z.1,H,I1,⟨_,rfl⟩,⟨rfl,_,hk,rfl⟩,⟨es,ep,h2,by rw[<-hz];exact st'⟩,fun b hb=>(hf b hb).1⟩⟩
 done:=by
  intro X hP hw hK hc i pins s σ H E I hf ⟨es,ep,q,st⟩ hg;subst hP hw hK;have g:=zlr I.hok hg.1;obtain⟨es',ep',h2,he⟩:=dn.dat;rw[h2]at q;cases q;have hz:es.size=ks.length:=by have h1:=congrArg List.length he;have h2:=congrArg List.length dn.zk;simp at h1 h2;lia
  obtain⟨f0,f1,f2,f3,f4,f5⟩:=hf it (by simp);rw[<-hz]at st;exact raw_end (I.ok.hd hc) st g h2 (by rw[hz];exact hg.2) fun h' eb=>⟨rfl,I.turned (t':=s.toks) (fun b o hb e=>eb b o hb e) f0 f1 f3 f4 f5⟩
 self:=fun _ _ _ _ _ ⟨_,_,_,st⟩ h=>wpAny_pyIter_keyiter st h
def iKnN (tl:TE):TI:=fun σ H R=>tl σ H fun x H1=>∃d o zs ks ys,x= .ref d/\H1 d=some (kn d o)/\DkN d o zs ks ys/\R (Itn d o ks) H1
theorem pi_kn {tg l:Expr}{tl:TE}(hl:PE X l tl):PI X tg l (iKnN tl):=by
 intro pins s σ H R I h;refine thn (hl pins s σ H _ I h) fun v s1 ⟨x,H1,I1,r1,q1⟩=>?_
 obtain⟨d,o,zs,ks,ys,e,hd,dn,q⟩:=q1;subst e;cases r1;have g:=zlr I1.hok hd;obtain⟨es,ep,h2,he⟩:=dn.dat;have hz:es.size=ks.length:=by have h1:=congrArg List.length he;have h2:=congrArg List.length dn.zk;simp at h1 h2;lia
 refine raw_iter dn.sys g dn.ex h2 ?_;refine⟨s1.heap.objs.size,[s1.heap.objs.size],_,_,H1,rfl,I1.kept (t':=s1.toks) fun b o e=>qaF _ e,zna d _ dn,⟨es,ep,h2,_,qaG _ rfl,rfl,by rw[hz];rfl⟩,fun b hb=>?_,q⟩;have e:b=s1.heap.objs.size:=by simpa using hb
 subst e;exact I1.fpOk (qaH _) (I1.hok.fresh (qaH _))
end
def DkG (H:Hp)(x y:V)(r:Option V):Prop:=∃(a:Addr) (o:Obj) (zs:List (Int×Tok×Value)) (ks:List Int) (ys:List (L2.Key×V)) (k:Int),x= .ref a/\y= .int k/\H a=some (kn a o)/\DkN a o zs ks ys/\r=valV ys (kI k)
section
variable {X:Cx} {e i value:Expr} {td ty tv:TE} {pos pos':Pos}
def tDGN (td ty:TE):TE:=fun σ H Q=>td σ H fun x H1=>ty σ H1 fun y H2=>∃v,DkG H2 x y (some v)/\Q v H2
theorem pe_dgetN (ho:PE X e td)(hi:PE X i ty)(hs:NoSl i):PE X (.Subscript e i pos) (tDGN td ty):=by
 intro pins s σ H Q I h;refine subD_of PySem.F.slot_dict_getitem.lookup hs (thn (ho pins s σ H _ I h) fun u s1 ⟨x,H1,I1,rx,q1⟩=>thn (hi pins s1 σ H1 _ I1 q1) fun iv s2 ⟨y,H2,I2,ry,v,g,q2⟩=>?_);obtain⟨a,o,zs,ks,ys,k,rfl,rfl,g1,g2,g4⟩:=g;obtain rfl:u=Value.ref a:=rx;have dd:=g2.of (P:=X.prog) (w:=X.w) (zlr I2.hok g1);obtain⟨w',hw,rw'⟩:=RelO.some_of (v:=v) (o:=valueAt (vsK zs) (kI k)) (by rw[g4];exact g2.kvs.val (kI k));exact⟨dd.typeIs,wpAny_getItem_of (zpH (k:=kI k) ry) dd.mapOf hw ⟨v,H2,I2.tok _,rw',q2⟩⟩
def tDIN (neg:Bool)(ty td:TE):TE:=fun σ H Q=>ty σ H fun y H1=>td σ H1 fun x H2=>∃r,DkG H2 x y r/\Q (.bl (r.isSome !=neg)) H2
theorem pc_dinN (hi:PE X i ty)(ho:PE X e td):PC X .In i e (tDIN false ty td):=by
 intro pins s σ H Q I h;refine thn (hi pins s σ H _ I h) fun iv s1 ⟨y,H1,I1,ry,q1⟩=>thn (ho pins s1 σ H1 _ I1 q1) fun u s2 ⟨x,H2,I2,rx,r,g,q2⟩=>?_
 obtain⟨a,o,zs,ks,ys,k,rfl,rfl,g1,g2,g4⟩:=g;obtain rfl:u=Value.ref a:=rx;have dd:=g2.of (P:=X.prog) (w:=X.w) (zlr I2.hok g1);refine wpAny_in_of (zpH (k:=kI k) ry) g2.sys dd.mapOf ?_;have q:=(g2.kvs.val (kI k)).isSome_eq;rw[<-q,<-g4];have z:(r.isSome !=false)=r.isSome:=by cases r.isSome<;>rfl
 rw[z]at q2;exact⟨.bl r.isSome,H2,I2.tok _,rfl,q2⟩
theorem znh (hi:PE X i ty)(ho:PE X e td):PC X .NotIn i e (tDIN true ty td):=by
 intro pins s σ H Q I h;refine thn (hi pins s σ H _ I h) fun iv s1 ⟨y,H1,I1,ry,q1⟩=>thn (ho pins s1 σ H1 _ I1 q1) fun u s2 ⟨x,H2,I2,rx,r,g,q2⟩=>?_
 obtain⟨a,o,zs,ks,ys,k,rfl,rfl,g1,g2,g4⟩:=g;obtain rfl:u=Value.ref a:=rx;have dd:=g2.of (P:=X.prog) (w:=X.w) (zlr I2.hok g1);refine wpAny_notIn_of (zpH (k:=kI k) ry) g2.sys dd.mapOf ?_;have q:=(g2.kvs.val (kI k)).isSome_eq;rw[<-q,<-g4];have z:(r.isSome !=true)=!r.isSome:=by cases r.isSome<;>rfl
 rw[z]at q2;exact⟨.bl (!r.isSome),H2,I2.tok _,rfl,q2⟩
def sDPN (td ty tv:TE):TS:=fun D σ H=>tv σ H fun v H1=>td σ H1 fun x H2=>ty σ H2 fun y H3=>∃(a:Addr) (o:Obj) (zs:List (Int×Tok×Value)) (ks:List Int) (ys:List (L2.Key×V)) (k:Int),x= .ref a/\y= .int k/\H3 a=some (kn a o)/\DkN a o zs ks ys/\ks.length<sizeLine/\∀o' zs' ks' ys',(∀ds dv,ks'=(ptD ks ds k dv).1)->ys'=putK ys (kI k) v->DkN a o' zs' ks' ys'->D.nx σ (upd H3 a (kn a o'))
theorem ptD_fst {J:Type}[DecidableEq J](ks:List J)(ds es:List D)(j:J)(d e:D):(ptD ks ds j d).1=(ptD ks es j e).1:=by unfold ptD;split<;>rfl
theorem ps_dputN (ho:PE X e td)(hi:PE X i ty)(hv:PE X value tv)(hs:swapsWith value (some (.Subscript e i pos')) pos.line X.env=pure false):
  PS X (.Assign [.Subscript e i pos'] value pos) (sDPN td ty tv):=by
 intro pins s σ H D I h;refine wpAny_Assign_Subscript (thn (hv pins s σ H _ I h) fun r s1 ⟨v,H1,I1,rv,q1⟩=>thn (ho pins s1 σ H1 _ I1 q1) fun u s2 ⟨x,H2,I2,rx,q2⟩=>thn (hi pins s2 σ H2 _ I2 q2) fun iv s3 ⟨y,H3,I3,ry,a,o,zs,ks,ys,k,e1,e2,g1,g2,hl,q3⟩=>?_) hs;subst e1 e2;obtain rfl:u=Value.ref a:=rx;have hz:(vsK zs).length<=sizeLine:=by rw[<-g2.kvs.length];exact g2.len
 refine wpAny_setItem_pairs (hsz:=hz) (zpH (k:=kI k) ry) (g2.of (zlr I3.hok g1)) fun h' dd' hs=>?_
 obtain⟨o',zs',go,dn⟩:=g2.put hl rv dd' [] .non;exact⟨σ,_,d_write I3 (by rw[g1];exact True.intro) hs ⟨o',go⟩ (kn_ok go),q3 o' zs' _ _ (fun ds dv=>ptD_fst _ _ _ _ _ _) rfl dn⟩
def tDNewn:TE:=fun _ H Q=>∀p o,H p=none->DkN p o [] [] []->Q (.ref p) (upd H p (kn p o))
theorem pe_dnewN:PE X (.Dict [] [] pos) tDNewn:=fun pins s σ H Q I h=>
 wpAny_Dict_empty ⟨.ref s.heap.objs.size,_,I.laid (a:=s.heap.objs.size) (o:=kn s.heap.objs.size {cls:= .type "dict",data:= .dict #[]}) (t':=s.toks) (fun _ _ q=>qaF _ q) (qaH _) (kn_ok (qaG _ rfl)),rfl,h _ _ (I.hok.fresh (qaH _)) ⟨qab.mpr (Ne.symm (qag I.big)),⟨rfl,rfl,rfl⟩,⟨#[],0,rfl,rfl⟩,List.nodup_nil,qaV _,rfl,rfl,.nil⟩⟩
end
def OC (K:W.Frag)(c:Str)(ns:List Str):Prop:=∃C,W.nsIn K mainGlobals c=some (some (.ref C))/\Cls K C/\∀f∈ns,NoAttr K C f
theorem zfc:∀{vs:List (Str×V)} {ns:List Str} {k:Nat} {f:Str} {v:V},vs.map (·.1)=ns->ns[k]? =some f->(ns.take k).contains f=false->(vs.map (·.2))[k]? =some v->vs.lookup f=some v
 |[],_,_,_,_,e,h,_,_=>by subst e;simp at h
 |(g,u)::vs,_,0,f,v,e,h,_,q=>by
  subst e;simp at h q;subst h q;simp[List.lookup]
 |(g,u)::vs,_,k+1,f,v,e,h,n,q=>by
  subst e;rw[qaR,List.take_succ_cons,qcm,qcC]at n;have:=zfc (vs:=vs) rfl (by simpa using h) n.2 (by simpa using q);simp only[List.lookup,n.1,this]
theorem zgQ:∀{vs:List (Str×V)} {f:Str},(vs.map (·.1)).contains f=false->vs.lookup f=none
 |[],_,_=>rfl
 |(g,u)::vs,f,n=>by
  rw[qaR,qcm,qcC]at n;simp only[List.lookup,n.1,zgQ n.2]
def dAt (c:Str)(ns:List Str)(k:Nat):D->Option D
 | .obj c' ns' ls _ _=>if c'=c/\ns'=ns then ls[k]? else none
 |_=>none
abbrev MK:=R->Option ((List Int×List D)×R)
def SDkb (X:Cx)(e:Expr)(m:MK)(t:TE):Prop:=∀B G H σ ρ q ρ' (Q:VK),SI X.K B G H σ ρ->m ρ=some (q,ρ')->(∀G' H' p o zs ys,SI X.K B G' H' σ ρ'->Fz G G'->G' p=some (kn p o)->DkN p o zs q.1 ys->RepL X.K G' (ys.map (·.2)) q.2->Q (.ref p) H')->t σ H Q
def SDk (X:Cx)(e:Expr)(m:MK):Prop:=∃t,PE X e t/\SDkb X e m t
theorem SDk.el {m:MK}{C:Prop}(h:SDk X e m)(k:∀t,PE X e t->SDkb X e m t->C):C:=h.elim fun t q=>k t q.1 q.2
def kAt (c:Str)(ns:List Str)(me:ME):MK:=fun ρ=>(me ρ).bind fun p=>match p.1 with
 | .obj c' ns' _ ks ds=>if c'=c/\ns'=ns then some ((ks,ds),p.2)else none
 |_=>none
def eKG (md:MK)(mi:ME):ME:=fun ρ=>(md ρ).bind fun p=>(mi p.2).bind fun q=>match q.1 with
 | .int k=>(lkD p.1.1 p.1.2 k).map fun d=>(d,q.2)
 |_=>none
def tKI (neg:Bool)(mi:ME)(md:MK):MT:=fun ρ=>(mi ρ).bind fun p=>(md p.2).bind fun q=>match p.1 with
 | .int k=>some (((lkD q.1.1 q.1.2 k).isSome !=neg),q.2)
 |_=>none
def iKN (md:MK):MA:=fun ρ=>(md ρ).map fun p=>(p.1.1.map .int,p.2)
structure MV (P:Program) (w:World) (K:W.Frag) (mg:Str->Option Value) (base:Heap) (k:Nat) (c m:Str) (sp:Sp):Prop where
 ex:∃C f fd ps,W.nsIn K mainGlobals c=some (some (.ref C))/\Cls K C/\Meth K C m f/\FnOk P w K mg base CX0 k f fd ps sp/\Binds K fd ps []
def zeQ (F:List D->Option Sl)(c:Str)(ns:List Str)(mo:ME)(ma:MA):ME:=fun ρ=>(mo ρ).bind fun p=>match p.1 with
 | .obj c' ns' ls ks ds=>if c'=c/\ns'=ns then(ma p.2).bind fun q=>(F (.obj c' ns' ls ks ds::q.1)).bind fun r=>match r with
  | .val d=>some (d,q.2)
  | .own ds=>some (.lst ds,q.2)
  |_=>none else none
 |_=>none
section
variable {X:Cx} {c f mt:Str} {ns:List Str} {e i a:Expr} {es:List Expr} {me mi mo:ME} {ma:MA} {md:MK} {p pos pos' ap:Pos} {k k' n:Nat} {F:List D->Option Sl} {tg:Expr}
theorem zdc (k:Nat)(oc:OC X.K c ns)(he:SE X e me)(hk:ns[k]? =some f:=by rfl)(hn:(ns.take k).contains f=false:=by decide+kernel)(hb:attributeBase e f X.env (eval e X.env)=eval e X.env:=by rfl):SE X (.Attribute e f pos) (m1 (dAt c ns k) me):=by
 obtain⟨C,c1,c2,c3⟩:=oc;refine he.el fun t pe se=>?_
 refine⟨_,zmg pe hb,fun B G H σ ρ d ρ' Q I hm kk=>?_⟩;refine zaz hm fun o ρ1 e1 hm'=>?_
 clear hm;have hm:=hm';clear hm';try dsimp only at hm
 refine cMel hm fun d' e2 e3=>?_
 cases e3;refine se B G H σ ρ o _ _ I e1 fun G1 H1 v I1 f1 r1=>?_
 cases o<;>try exact cNN e2
 rename_i c' ns' ls ks ds;unfold dAt at e2;dsimp only at e2
 split at e2
 ·rename_i h;obtain⟨rfl,rfl⟩:=h;obtain⟨a,C2,dx,vs,ws,q,o,zs,ys,rfl,h1,h2,h3,h4,h5,h6,h7,h8⟩:=r1;rw[c1]at h1;cases h1;obtain⟨x,g1,g2⟩:=h5.get e2;refine⟨a,C,dx,vs,x,rfl,I1.fz _ _ h2,c2,c3 f (qa7 hk),zfc h3 hk hn ?_,kk G1 H1 x I1 f1 g2⟩;rw[h4,qa4 (qat.mp g1).1,g1]
 ·exact cNN e2
theorem zjk (k:Nat)(oc:OC X.K c ns)(he:SE X e me)(hk:ns[k]? =some f:=by rfl)(hl:k+1=ns.length:=by rfl)(hn:(ns.take k).contains f=false:=by decide+kernel)(hb:attributeBase e f X.env (eval e X.env)=eval e X.env:=by rfl):SDk X (.Attribute e f pos) (kAt c ns me):=by
 obtain⟨C,c1,c2,c3⟩:=oc;refine he.el fun t pe se=>?_
 refine⟨_,zmg pe hb,fun B G H σ ρ d ρ' Q I hm kk=>?_⟩;refine zaz hm fun o ρ1 e1 hm'=>?_
 clear hm;have hm:=hm';clear hm';try dsimp only at hm
 try dsimp only at hm
 refine se B G H σ ρ o ρ1 _ I e1 fun G1 H1 v I1 f1 r1=>?_
 cases o<;>try exact cNN hm
 rename_i c' ns' ls ks ds;dsimp only at hm
 split at hm
 ·rename_i h;obtain⟨rfl,rfl⟩:=h;cases hm;obtain⟨a,C2,dx,vs,ws,q,o,zs,ys,rfl,h1,h2,h3,h4,h5,h6,h7,h8⟩:=r1;rw[c1]at h1;cases h1;refine⟨a,C,dx,vs,.ref q,rfl,I1.fz _ _ h2,c2,c3 f (qa7 hk),zfc h3 hk hn ?_,kk G1 H1 q o zs ys I1 f1 h6 h7 h8⟩;have l1:=congrArg List.length h3;have l2:=congrArg List.length h4;simp at l1 l2;rw[h4,show k=ws.length by lia];simp
 ·exact cNN hm
theorem zj2 (hd:SDk X e md)(hi:SE X i mi)(hs:NoSl i:=by exact fun _ _=>rfl):SE X (.Subscript e i pos) (eKG md mi):=by
  refine hd.el fun t pd sd=>?_
  refine hi.el fun u pi si=>?_
  refine⟨_,pe_dgetN pd pi hs,fun B G H σ ρ d ρ' Q I hm kk=>?_⟩;refine zaz hm fun q ρ1 e1 hm'=>?_
  clear hm;have hm:=hm';clear hm';try dsimp only at hm
  refine zaz hm fun y ρ2 e2 hm'=>?_
  clear hm;have hm:=hm';clear hm';try dsimp only at hm
  refine sd B G H σ ρ q ρ1 _ I e1 fun G1 H1 p o zs ys I1 f1 g1 g2 g3=>si B G1 H1 σ ρ1 y ρ2 _ I1 e2 fun G2 H2 v I2 f2 r2=>?_
  cases y<;>try exact cNN hm
  rename_i n;refine cMel hm fun d' e3 e4=>?_
  cases e4;obtain⟨w,h1,h2⟩:=zmc zis g2.key (g3.mono f2) e3;exact⟨w,⟨p,o,zs,q.1,ys,n,rfl,r2,I2.fz _ _ (f2 _ _ g1),g2,h1.symm⟩,kk G2 H2 w I2 (f1.trans f2) h2⟩
theorem st_dkIn (hi:SE X i mi)(hd:SDk X e md)(hm:behindInMarks .In e=false:=by rfl):STt X (.Compare i [.In] [e] pos) (tKI false mi md):=by
 refine hd.el fun t pd sd=>?_
 refine hi.el fun u pi si=>?_
 refine⟨_,pt_cmp (pc_dinN pi pd) hm,fun B G H σ ρ b ρ' Q I hm kk=>?_⟩;refine zaz hm fun y ρ1 e1 hm'=>?_
 clear hm;have hm:=hm';clear hm';try dsimp only at hm
 refine zaz hm fun q ρ2 e2 hm'=>?_
 clear hm;have hm:=hm';clear hm';try dsimp only at hm
 refine si B G H σ ρ y ρ1 _ I e1 fun G1 H1 v I1 f1 r1=>sd B G1 H1 σ ρ1 q ρ2 _ I1 e2 fun G2 H2 p o zs ys I2 f2 g1 g2 g3=>?_
 cases y<;>try cases hm
 rename_i n;refine⟨valV ys (kI n),⟨p,o,zs,q.1,ys,n,rfl,r1,I2.fz _ _ g1,g2,rfl⟩,_,rfl,?_⟩;rw[zk5 zis g2.key g3];exact kk G2 H2 I2 (f1.trans f2)
theorem znu (hi:SE X i mi)(hd:SDk X e md)(hm:behindInMarks .NotIn e=false:=by rfl):STt X (.Compare i [.NotIn] [e] pos) (tKI true mi md):=by
 refine hd.el fun t pd sd=>?_
 refine hi.el fun u pi si=>?_
 refine⟨_,pt_cmp (znh pi pd) hm,fun B G H σ ρ b ρ' Q I hm kk=>?_⟩;refine zaz hm fun y ρ1 e1 hm'=>?_
 clear hm;have hm:=hm';clear hm';try dsimp only at hm
 refine zaz hm fun q ρ2 e2 hm'=>?_
 clear hm;have hm:=hm';clear hm';try dsimp only at hm
 refine si B G H σ ρ y ρ1 _ I e1 fun G1 H1 v I1 f1 r1=>sd B G1 H1 σ ρ1 q ρ2 _ I1 e2 fun G2 H2 p o zs ys I2 f2 g1 g2 g3=>?_
 cases y<;>try cases hm
 rename_i n;refine⟨valV ys (kI n),⟨p,o,zs,q.1,ys,n,rfl,r1,I2.fz _ _ g1,g2,rfl⟩,_,rfl,?_⟩;rw[zk5 zis g2.key g3];exact kk G2 H2 I2 (f1.trans f2)
theorem it_dk (hd:SDk X e md):SIt X tg e (iKN md):=by
 refine hd.el fun t pd sd=>?_
 refine⟨_,pi_kn pd,fun B G H σ ρ ds ρ' Q I hm kk=>?_⟩;refine zeR hm fun q ρ1 e1 hm'=>?_
 clear hm;have hm:=hm';clear hm';try dsimp only at hm
 cases hm;refine sd B G H σ ρ q _ _ I e1 fun G1 H1 p o zs ys I1 f1 g1 g2 g3=>⟨p,o,zs,q.1,ys,rfl,I1.fz _ _ g1,g2,?_⟩
 refine kk _ _ _ I1 f1 ⟨fun H' i f hi=>⟨f _ _ g1,by simpa using hi⟩,fun H' i x H'' f y d ed=>?_,fun H' i f hi=>⟨f _ _ g1,by simpa using hi⟩⟩;obtain⟨rfl,y,ey,rfl⟩:=y;refine .inl ⟨rfl,?_⟩;rw[qa5,ey]at ed;cases ed
 rfl
theorem se_methV (hc:ns.contains mt=false)(md:MV X.prog X.w X.K X.mg X.base k c mt (spP X.K n F))(hr:Room k' X.A)(he:SE X e mo)(ha:SA X (a::es) ma)(hn:(a::es).length+1=n:=by rfl)(hk:k<=k':=by decide)
  (hst:starEach (a::es) X.env=(false,eval a X.env)::starEach es X.env:=by rfl) (hpl:(backTo pos (starEach es X.env)).any (·.1)=false:=by rfl) (hlen:∀ρ as ρ',ma ρ=some (as,ρ')->as.length+1=n)
  (ht : eval (.Call (.Attribute e mt ap) (a :: es) [] pos) X.env = (do
   let ov<-eval e X.env
   standAt ap.atName
   let(f,first)<-holding [ov] (getMethod ov mt pl)
   callWith pos f first (backTo pos (starEach (a::es) X.env)) (backToKw pos (keywordEach [] X.env))):=by rfl):SE X (.Call (.Attribute e mt ap) (a::es) [] pos) (zeQ F c ns mo ma):=by
 obtain⟨C,f,fdd,ps,c1,c2,c3,c4,c5⟩:=md.ex;refine ha.el fun t pa sa=>?_
 refine he.el fun u pe se=>?_
 refine⟨_,zqa pe c2 c3 (c4) (hr.mono hk) c5 .nil zlh pa hst hpl ht,fun B G H σ ρ d ρ' Q I hm kk=>?_⟩;refine zaz hm fun o ρ1 e1 hm'=>?_
 clear hm;have hm:=hm';clear hm';try dsimp only at hm
 refine se B G H σ ρ o ρ1 _ I e1 fun G1 H1 v I1 f1 r1=>?_
 cases o<;>try exact cNN hm
 rename_i c' ns' ls ks ds;dsimp only at hm
 split at hm
 ·rename_i h;obtain⟨rfl,rfl⟩:=h;have r1':=r1;obtain⟨q,C2,dx,vs,ws,p2,o,zs,ys,rfl,h1,h2,h3,h4⟩:=r1;rw[c1]at h1;cases h1;obtain⟨⟨as,ρ2⟩,e2,hm'⟩:=zel hm;clear hm;have hm:=hm';clear hm';try dsimp only at hm
  refine cBel hm fun r e3 hm'=>?_
  clear hm;have hm:=hm';clear hm';try dsimp only at hm
  refine⟨q,dx,vs,rfl,I1.fz _ _ h2,zgQ (by rw[h3];exact hc),sa B G1 H1 σ ρ1 as ρ2 _ I1 e2 fun G2 H2 us I2 f2 r2=>?_⟩;rw[qaW];refine⟨G2,_::as,r,e3,by rw[qaQ];exact hlen _ _ _ e2,I2.fz,.cons (r1'.mono f2) r2,fun G3 H3 v f3 fz3 nw kp rr=>?_⟩;have I3:=I2.grow f3 fz3 nw kp;cases r with
  |val d'=>obtain⟨rfl,rfl⟩:=cSp hm;exact kk G3 H3 v I3 (f1.trans (f2.trans f3)) rr
  |own ds=>
   obtain⟨rfl,rfl⟩:=cSp hm;obtain⟨l,xs,rfl,g3,h3,r3,b3⟩:=rr;obtain⟨I4,f4,r4⟩:=zhN I3 g3 h3 r3 (I2.there l b3) (I2.own_ne b3 nw kp);exact kk _ H3 _ I4 (f1.trans (f2.trans (f3.trans f4))) r4
  |emp=>exact cNN hm
  |two _ _=>exact cNN hm
  |tre _=>exact cNN hm
  |ptr _=>exact cNN hm
  |par _=>exact cNN hm
 ·exact cNN hm
theorem zea (hc:ns.contains mt=false)(md:MV X.prog X.w X.K X.mg X.base k c mt (spP X.K 1 F))(hr:Room k' X.A)(he:SE X e mo)(hk:k<=k':=by decide)
  (ht : eval (.Call (.Attribute e mt ap) [] [] pos) X.env = (do
   let ov<-eval e X.env
   standAt ap.atName
   let(f,first)<-holding [ov] (getMethod ov mt pl)
   callWith pos f first (backTo pos (starEach [] X.env)) (backToKw pos (keywordEach [] X.env))):=by rfl):SE X (.Call (.Attribute e mt ap) [] [] pos) (zeQ F c ns mo aNil):=by
 obtain⟨C,f,fdd,ps,c1,c2,c3,c4,c5⟩:=md.ex;refine he.el fun u pe se=>?_
 refine⟨_,pe_meth0 pe c2 c3 c4 (hr.mono hk) c5 .nil zlh ht,fun B G H σ ρ d ρ' Q I hm kk=>?_⟩;refine zaz hm fun o ρ1 e1 hm'=>?_
 clear hm;have hm:=hm';clear hm';try dsimp only at hm
 refine se B G H σ ρ o ρ1 _ I e1 fun G1 H1 v I1 f1 r1=>?_
 cases o<;>try exact cNN hm
 rename_i c' ns' ls ks ds;dsimp only at hm
 split at hm
 ·rename_i h;obtain⟨rfl,rfl⟩:=h;have r1':=r1;obtain⟨q,C2,dx,vs,ws,p2,o,zs,ys,rfl,h1,h2,h3,h4⟩:=r1;rw[c1]at h1;cases h1;obtain⟨⟨as,ρ2⟩,e2,hm'⟩:=zel hm;clear hm;have hm:=hm';clear hm';try dsimp only at hm
  obtain⟨rfl,rfl⟩:=cSp e2;refine cBel hm fun r e3 hm'=>?_
  clear hm;have hm:=hm';clear hm';try dsimp only at hm
  refine⟨q,dx,vs,rfl,I1.fz _ _ h2,zgQ (by rw[h3];exact hc),?_⟩;refine⟨G1,[_],r,e3,rfl,I1.fz,.cons r1' .nil,fun G3 H3 v f3 fz3 nw kp rr=>?_⟩;have I3:=I1.grow f3 fz3 nw kp;cases r with
  |val d'=>obtain⟨rfl,rfl⟩:=cSp hm;exact kk G3 H3 v I3 (f1.trans f3) rr
  |own ds=>
   obtain⟨rfl,rfl⟩:=cSp hm;obtain⟨l,xs,rfl,g3,h3,r3,b3⟩:=rr;obtain⟨I4,f4,r4⟩:=zhN I3 g3 h3 r3 (I1.there l b3) (I1.own_ne b3 nw kp);exact kk _ H3 _ I4 (f1.trans (f3.trans f4)) r4
  |emp=>exact cNN hm
  |two _ _=>exact cNN hm
  |tre _=>exact cNN hm
  |ptr _=>exact cNN hm
  |par _=>exact cNN hm
 ·exact cNN hm
end
def Sl.ob:Sl->Option (Str×List Str×List (List D)×Option (List Int×List D))
 | .tre (.obj c ns ls dk)=>some (c,ns,ls,dk)
 | .ptr (.obj c ns ls dk)=>some (c,ns,ls,dk)
 |_=>none
structure ObAt (K:W.Frag) (G H:Hp) (p C dx:Addr) (c:Str) (ns:List Str) (ls:List (List D)) (dk:Option (List Int×List D)) (vs:List (Str×V)) (A:List Addr):Prop where
 nc:W.nsIn K mainGlobals c=some (some (.ref C))
 ob:H p=some (.ins C dx vs)
 dx:H dx=some (.own p)
 nm:vs.map (·.1)=ns
 rp:RepO K G H (vs.map (·.2)) ls dk A
section
variable {K:W.Frag} {B:Bs} {G G' H H':Hp} {σ:St} {ρ:R} {p C dx:Addr} {c:Str} {ns ns':List Str} {ls ls':List (List D)} {dk dk':Option (List Int×List D)} {vs vs':List (Str×V)} {A A':List Addr}
theorem ObAt.rep (b:ObAt K G H p C dx c ns ls dk vs A):RepT K G H (.ref p) (.obj c ns ls dk) (p::dx::A):=⟨p,C,dx,vs,A,rfl,b.nc,b.ob,b.dx,b.nm,b.rp,rfl⟩
theorem ob_rep (r:RepT K G H v (.obj c ns ls dk) A):∃p C dx vs A',v= .ref p/\A=p::dx::A'/\ObAt K G H p C dx c ns ls dk vs A':=by
 obtain⟨p,C,dx,vs,A',h1,h2,h3,h4,h5,h6,h7⟩:=r;exact⟨p,C,dx,vs,A',h1,h7,h2,h3,h4,h5,h6⟩
theorem zoM (q:s.ob=some (c,ns,ls,dk)):s= .tre (.obj c ns ls dk)\/s= .ptr (.obj c ns ls dk):=by
 cases s with
 |tre t=>cases t<;>cases q;exact .inl rfl
 |ptr t=>cases t<;>cases q;exact .inr rfl
 |_=>exact cNN q
theorem SI.obj (I:SI K B G H σ ρ){s:Sl}(e:ρ[j]? =some s)(q:s.ob=some (c,ns,ls,dk)):∃p C dx vs A,σ[j]? =some (some (.ref p))/\ObAt K G H p C dx c ns ls dk vs A/\(p::dx::A).Nodup/\(∀a,OwS K G H σ[j]? a s↔a∈p::dx::A):=by
 have h:=I.slot j s e;have fin:∀{v:V} {A:List Addr},σ[j]? =some (some v)->RepT K G H v (.obj c ns ls dk) A->A.Nodup->(∀a,OwS K G H σ[j]? a s↔∃v A,σ[j]? =some (some v)/\RepT K G H v (.obj c ns ls dk) A/\a∈A)->∃p C dx vs A,σ[j]? =some (some (.ref p))/\ObAt K G H p C dx c ns ls dk vs A/\(p::dx::A).Nodup/\(∀a,OwS K G H σ[j]? a s↔a∈p::dx::A):=fun{v A} h1 h2 h3 h4=>by
  have h2':=h2;obtain⟨p,C,dx,vs,A',rfl,rfl,b⟩:=ob_rep h2;refine⟨p,C,dx,vs,A',h1,b,h3,fun a=>(h4 a).trans ⟨fun⟨v2,A2,k1,k2,k3⟩=>?_,fun m=>⟨_,_,h1,h2',m⟩⟩⟩;rw[h1]at k1;cases k1;rwa[h2'.det k2 fun _ _=>rfl]
 rcases zoM q with rfl|rfl
 ·obtain⟨v,A,h1,h2,h3,_⟩:=h;exact fin h1 h2 h3 fun a=>Iff.rfl
 ·obtain⟨v,A,h1,h2,h3,_⟩:=h;exact fin h1 h2 h3.1 fun a=>Iff.rfl
theorem SI.chO (I:SI K B G H σ ρ)(e:ρ[j]? =some s)(q:s.ob=some (c,ns,ls,dk))(hp:σ[j]? =some (some (.ref p)))(b:ObAt K G H p C dx c ns ls dk vs A)(nd:(p::dx::A).Nodup)(ow:∀a,OwS K G H σ[j]? a s↔a∈p::dx::A)
  (fz:Fz G H') (kp:∀x o,x∉p::dx::A->H x=some o->H' x=some o) (th:∀x,H' x=none->H x=none) (b':ObAt K G H' p C dx c ns' ls' dk' vs' A') (nd':(p::dx::A').Nodup) (sub:∀a∈A',a∈A\/(G a=none/\B.H a=none/\Nw K G H σ ρ a)):
  SI K B G H' σ (ρ.set j (s.putT (.obj c ns' ls' dk'))):=by
 have sl:=I.slot j s e;have sub2:∀a∈p::dx::A',a∈p::dx::A\/(G a=none/\B.H a=none/\Nw K G H σ ρ a):=fun a m=>by
  rcases qaq.mp m with rfl|m
  ·exact .inl (by simp)
  rcases qaq.mp m with rfl|m
  ·exact .inl (by simp)
  ·exact(sub a m).imp (fun z=>by simp[z]) id
 have g':∀a∈p::dx::A',G a=none:=fun a m=>(sub2 a m).elim (fun z=>(sl.own ((ow a).mpr z)).1) fun z=>z.1
 have h:=I.chg (i:=j) (ov:=some (.ref p)) (s':=s.putT (.obj c ns' ls' dk')) (G':=G) (H':=H') fz (Fz.refl G) I.new (fun x o k1 k2=>kp x o (fun m=>?_) (I.keep x o k1 k2)) (fun x k=>I.there x (th x k)) (fun i t a z ei w g ha=>?_) ?_
 ·rwa[zhB hp]at h
 ·rcases(sl.own ((ow x).mpr m)).2.2 with z|z
  ·rw[k1]at z;cases z
  ·exact k2 j z
 ·have na:a∉p::dx::A:=fun m=>I.dis i j t s a z ei e w ((ow a).mpr m)
  obtain⟨x,hx⟩:=qbA.mp ha;refine⟨g,(kp a x na hx).trans hx.symm,fun w'=>?_⟩;have:∃v A,some (some (V.ref p))=some (some v)/\RepT K G H' v (.obj c ns' ls' dk') A/\a∈A:=by
   rcases zoM q with rfl|rfl<;>exact w'
  obtain⟨v2,A2,k1,k2,k3⟩:=this;cases k1;rw[<-b'.rep.det k2 fun _ _=>rfl]at k3;rcases sub2 a k3 with y|y
  ·exact na y
  ·exact y.2.2 i t ei w
 ·rcases zoM q with rfl|rfl
  ·obtain⟨v,A0,h1,h2,h3,h4⟩:=sl;rw[hp]at h1;cases h1;have eA:p::dx::A=A0:=b.rep.det h2 fun _ _=>rfl
   subst eA;exact⟨.ref p,_,rfl,b'.rep,nd',fun a m=>⟨g' a m,(sub2 a m).elim (fun z=>(h4 a z).2) fun z=>z.2.1⟩⟩
  ·obtain⟨v,A0,h1,h2,h3,h4⟩:=sl;rw[hp]at h1;cases h1;have eA:p::dx::A=A0:=b.rep.det h2 fun _ _=>rfl
   subst eA;obtain⟨h3,p2,y1,y2,y3⟩:=h3;cases y1;exact⟨.ref p,_,rfl,b'.rep,⟨nd',p,rfl,y2,fun _=>y3 rfl⟩,fun a m=>⟨g' a m,(sub2 a m).elim (fun z=>(h4 a z).2) fun z=> .inr ⟨z.2.1,p,rfl,y3 rfl⟩⟩⟩
theorem zg0:∀{xs:List V} {dss:List (List D)} {A:List Addr} {k:Nat} {ds:List D},RepTb K G H xs dss A->dss[k]? =some ds->∃l ys,xs[k]? =some (.ref l)/\A[k]? =some l/\H l=some (.lst ys)/\RepL K G ys ds
 |[],[],_,_,_,_,e=>by simp at e
 |x::xs,d::dss,A,0,ds,⟨r,ys,A2,e1,e2,e3,e4,e5⟩,e=>by
  simp at e;subst e;exact⟨r,ys,by rw[e1];rfl,by rw[e5];rfl,e2,e3⟩
 |x::xs,d::dss,A,k+1,ds,⟨r,ys,A2,e1,e2,e3,e4,e5⟩,e=>by
  obtain⟨l,zs,h1,h2,h3,h4⟩:=zg0 (k:=k) e4 (by simpa using e);exact⟨l,zs,by simpa using h1,by rw[e5];simpa using h2,h3,h4⟩
 |[],_::_,_,_,_,h,_=>h.elim
 |_::_,[],_,_,_,h,_=>h.elim
theorem zi4:∀{xs:List V} {dss:List (List D)} {A:List Addr},RepTb K G H xs dss A->xs.length=dss.length/\A.length=dss.length
 |[],[],_,h=>by rw[show _=[]from h];exact⟨rfl,rfl⟩
 |x::xs,d::dss,A,⟨r,ys,A2,e1,e2,e3,e4,e5⟩=>by
  obtain⟨h1,h2⟩:=zi4 e4;rw[e5];exact⟨by simp[h1],by simp[h2]⟩
 |[],_::_,_,h=>h.elim
 |_::_,[],_,h=>h.elim
theorem zh4:∀{xs:List V} {dss:List (List D)} {A:List Addr} {k:Nat} {l l':Addr} {ys:List V} {ds:List D},RepTb K G H xs dss A->A[k]? =some l->Fz G G'->(∀a∈A,a≠l->H' a=H a)->A.Nodup->H' l'=some (.lst ys)->RepL K G' ys ds->RepTb K G' H' (xs.set k (.ref l')) (dss.set k ds) (A.set k l')
 |[],[],_,_,_,_,_,_,h,e,_,_,_,_,_=>by rw[show _=[]from h]at e;simp at e
 |x::xs,d::dss,A,0,l,l',ys,ds,⟨r,zs,A2,e1,e2,e3,e4,e5⟩,e,fg,hh,nd,hl,rr=>by
  subst e5;simp at e;subst e;rw[qaY]at nd;exact⟨l',ys,A2,rfl,hl,rr,e4.move fg fun a m=>hh a (by simp[m]) fun z=>nd.1 (z ▸ m),rfl⟩
 |x::xs,d::dss,A,k+1,l,l',ys,ds,⟨r,zs,A2,e1,e2,e3,e4,e5⟩,e,fg,hh,nd,hl,rr=>by
  subst e5;rw[qaY]at nd;have e':A2[k]? =some l:=by simpa using e
  exact⟨r,zs,A2.set k l',e1,by rw[hh r (by simp) fun z=>nd.1 (z ▸ qa7 e')];exact e2,e3.mono fg,zh4 e4 e' fg (fun a m=>hh a (by simp[m])) nd.2 hl rr,rfl⟩
 |[],_::_,_,_,_,_,_,_,h,_,_,_,_,_,_=>h.elim
 |_::_,[],_,_,_,_,_,_,h,_,_,_,_,_,_=>h.elim
theorem zkN:∀{xs:List V} {dss:List (List D)} {A:List Addr} {l:Addr} {ys:List V} {ds:List D},RepTb K G H xs dss A->H l=some (.lst ys)->RepL K G ys ds->RepTb K G H (xs++[.ref l]) (dss++[ds]) (A++[l])
 |[],[],_,l,ys,ds,h,h1,h2=>by rw[show _=[]from h];exact⟨l,ys,[],rfl,h1,h2,rfl,rfl⟩
 |x::xs,d::dss,A,l,ys,ds,⟨r,zs,A2,e1,e2,e3,e4,e5⟩,h1,h2=>by
  subst e5;exact⟨r,zs,A2++[l],e1,e2,e3,zkN e4 h1 h2,rfl⟩
 |[],_::_,_,_,_,_,h,_,_=>h.elim
 |_::_,[],_,_,_,_,h,_,_=>h.elim
theorem zm0 (r:RepO K G H xs ls dk A)(e:ls[k]? =some ds):∃l ys,xs[k]? =some (.ref l)/\A[k]? =some l/\H l=some (.lst ys)/\RepL K G ys ds:=by
 cases dk with
 |none=>exact zg0 (show RepTb K G H xs ls A from r) e
 |some q=>
  obtain⟨ws,p,o,zs,ys,A',rfl,r1,q1,q2,q3,rfl⟩:=r;obtain⟨l,ys,h1,h2,h3,h4⟩:=zg0 r1 e;exact⟨l,ys,by rw[qa4 (qat.mp h1).1];exact h1,by rw[qa4 (qat.mp h2).1];exact h2,h3,h4⟩
theorem zmD {l l':Addr}(r:RepO K G H xs ls dk A)(hk:k<ls.length)(e:A[k]? =some l)(fg:Fz G G')(hh:∀a∈A,a≠l->H' a=H a)(nd:A.Nodup)(hl:H' l'=some (.lst ys))(rr:RepL K G' ys ds):RepO K G' H' (xs.set k (.ref l')) (ls.set k ds) dk (A.set k l'):=by
 cases dk with
 |none=>exact zh4 (show RepTb K G H xs ls A from r) e fg hh nd hl rr
 |some q=>
  obtain⟨ws,p,o,zs,ys',A',rfl,r1,q1,q2,q3,rfl⟩:=r;obtain⟨l1,l2⟩:=zi4 r1;have hA:k<A'.length:=by lia
  have e':A'[k]? =some l:=by rw[qa4 hA]at e;exact e
  rw[qcA]at nd;have pl:p≠l:=fun z=>nd.2.2 l (qa7 e') p (by simp) z.symm
  exact⟨ws.set k (.ref l'),p,o,zs,ys',A'.set k l',List.set_append_left _ _ (by lia),zh4 r1 e' fg (fun a m=>hh a (by simp[m])) nd.1 hl rr,by rw[hh p (by simp) pl];exact q1,q2,q3.mono fg,List.set_append_left _ _ hA⟩
end
def isLst:D->Bool
 | .lst _=>true
 |_=>false
def okLs (ls:List (List D)):Bool:=ls.all fun l=>l.any isLst
def fl2:D->Bool
 | .lst ds=>ds.all zng
 |d=>flD d
def obD (c:Str)(ns:List Str)(ls:List (List D))(q:List Int×List D):D:= .obj c ns (ls.map D.lst) q.1 q.2
def eLkO (j:Nat)(m:ME):ME:=fun ρ=>match ρ[j]?.bind Sl.ob with
 |some (c,ns,ls,some dk)=>(m (ρ.set j (.val (obD c ns ls dk)))).bind fun p=>if okLs ls&&fl2 p.1&&((ρ.set j .emp).zip p.2).all (fun q=>zhV q.1 q.2)then some (p.1,ρ)else none
 |_=>none
def oLkO (j:Nat)(m:MO):MO:=fun ρ=>match ρ[j]?.bind Sl.ob with
 |some (c,ns,ls,some dk)=>(m (ρ.set j (.val (obD c ns ls dk)))).bind fun p=>if okLs ls&&p.1.all fl2&&((ρ.set j .emp).zip p.2).all (fun q=>zhV q.1 q.2)then some (p.1,ρ)else none
 |_=>none
def Od2 (o:HO):Prop:=(∀xs,o≠ .tup xs)/\∀xs,o= .lst xs->¬ ∀x∈xs,∃i,x=V.int i
theorem od_ins {C dx:Addr}:Od2 (.ins C dx vs):=by constructor<;>(intro xs z;cases z)
theorem od_own:Od2 (.own p):=by constructor<;>(intro xs z;cases z)
theorem od_kn:Od2 (kn p o):=by constructor<;>(intro xs z;cases z)
theorem od_lst (h:¬ ∀x∈ys,∃i,x=V.int i):Od2 (.lst ys):=by
 constructor
 ·intro xs z;cases z
 ·intro xs z;cases z;exact h
section
variable {K:W.Frag} {B B2:Bs} {G G' G2 H H' H2:Hp} {σ:St} {ρ:R}
theorem zm7 {s s1:Sl}(lk:zhV s s1=true)(q:SlotOk K B G H i σ[i]? s)(q1:SlotOk K B2 G2 H2 i σ[i]? s1)(w:OwS K G H σ[i]? a s):G2 a=none/\H2 a=H a:=by
 cases s with
 |emp=>exact w.elim
 |two _ _=>exact w.elim
 |val d=>exact w.elim
 |tre _=>cases s1<;>cases lk
 |ptr _=>cases s1<;>cases lk
 |own d0=>
  cases s1 with
  |own d1=>
   obtain⟨ns,rfl,rfl⟩:=zkD lk;obtain⟨a1,xs1,m1,m2,m3,m4,m5⟩:=q1;obtain⟨a0,xs0,n1,n2,n3,n4,n5⟩:=q;cases n1.symm.trans (show σ[i]? =some (some (.ref a))from w);cases n1.symm.trans m1;exact⟨m2,by rw[m3,n3,RepL.ints_eq m4,RepL.ints_eq n4]⟩
  |_=>cases lk
 |par d0=>
  cases s1 with
  |par d1=>
   obtain⟨ns,rfl,rfl⟩:=zkD lk;obtain⟨a1,xs1,m1,m2,m3,m4,m5⟩:=q1;obtain⟨a0,xs0,n1,n2,n3,n4,n5⟩:=q;cases n1.symm.trans (show σ[i]? =some (some (.ref a))from w);cases n1.symm.trans m1;exact⟨m2,by rw[m3,n3,RepL.ints_eq m4,RepL.ints_eq n4]⟩
  |_=>cases lk
theorem ziQ:∀{ds:List D},ds.all zng=true->∃ns:List Int,ds=ns.map .int
 |[],_=>⟨[],rfl⟩
 |d::ds,h=>by
  rw[qbr,qbm]at h;obtain⟨ns,e⟩:=ziQ h.2;cases d with
  |int n=>exact⟨n::ns,by rw[e];rfl⟩
  |_=>exact nomatch h.1
theorem zmh (h:∀a o,G a=some o->G' a=some o\/Od2 o){d:D}(e:fl2 d=true)(r:RepD K G v d):RepD K G' v d:=by
 cases d with
 |non=>exact r
 |bl _=>exact r
 |int _=>exact r
 |str _=>exact r
 |tup ds=>
  obtain⟨ns,rfl⟩:=ziQ (show ds.all zng=true from e);obtain⟨a,xs,rfl,g,r⟩:=r;rcases h a _ g with z|z
  ·exact⟨a,xs,rfl,z,by rw[RepL.ints_eq r];exact RepL.ints ns⟩
  ·exact absurd rfl (z.1 xs)
 |lst ds=>
  obtain⟨ns,rfl⟩:=ziQ (show ds.all zng=true from e);obtain⟨a,xs,rfl,g,r⟩:=r;rcases h a _ g with z|z
  ·exact⟨a,xs,rfl,z,by rw[RepL.ints_eq r];exact RepL.ints ns⟩
  ·refine absurd (fun x m=>?_) (z.2 xs rfl);rw[RepL.ints_eq r]at m;obtain⟨n,_,e⟩:=qbW.mp m;exact⟨n,e.symm⟩
 |_=>exact nomatch e
theorem zkW (h:∀a o,G a=some o->G' a=some o\/Od2 o):∀{ds:List D} {xs:List V},ds.all fl2=true->RepL K G xs ds->RepL K G' xs ds
 |[],_,_,r=>r
 |d::ds,_,e,⟨x,ys,e1,e2,e3⟩=>by
  rw[qbr,qbm]at e;exact⟨x,ys,e1,zmh h e.1 e2,zkW h e.2 e3⟩
theorem lst_odd (h:ds.any isLst=true)(r:RepL K G xs ds):¬ ∀x∈xs,∃i,x=V.int i:=fun z=>by
 obtain⟨d,m,e⟩:=qcD.mp h;obtain⟨i,hi,rfl⟩:=qcE.mp m;obtain⟨x,h1,h2⟩:=r.get (qbG hi);cases q:ds[i]with
 |lst es=>
  rw[q]at h2;obtain⟨a,ys,e2,_⟩:=h2;obtain⟨n,e3⟩:=z x (qa7 h1);rw[e2]at e3;cases e3
 |_=>rw[q]at e;cases e
def Bs.lkO (B:Bs)(K:W.Frag)(G H:Hp)(σ:St)(ρ:R)(A:List Addr):Bs:=⟨frA G H A,(B.reA K G H σ ρ A).H,(B.reA K G H σ ρ A).O⟩
theorem zjn (I:SI K B G H σ ρ)(e:ρ[j]? =some s)(q:s.ob=some (c,ns,ls,some dk))(ok:okLs ls=true):
  ∃A:List Addr,(∀a,OwS K G H σ[j]? a s↔a∈A)/\(∀a∈A,∃o,H a=some o/\Od2 o)/\SI K (B.lkO K G H σ (ρ.set j .emp) A) (frA G H A) H σ (ρ.set j (.val (obD c ns ls dk)))/\Fz G (frA G H A):=by
 obtain⟨p,C,dx,vs,A,hp,b,nd,ow⟩:=I.obj e q;have sl:=I.slot j s e;have gn:∀a∈p::dx::A,G a=none:=fun a m=>(sl.own ((ow a).mpr m)).1
 have fg:=znW (G:=G) (H:=H) gn;have I0:=I.emp j;have nw:∀a∈p::dx::A,Nw K G H σ (ρ.set j .emp) a:=fun a m=>nw_emp I e ((ow a).mpr m)
 have J0:=I0.reA nw;refine⟨p::dx::A,ow,fun a m=>?_,?_,fg⟩
 ·rcases qaq.mp m with rfl|m
  ·exact⟨_,b.ob,od_ins⟩
  rcases qaq.mp m with rfl|m
  ·exact⟨_,b.dx,od_own⟩
  ·obtain⟨ws,p2,o,zs,ys,A',e1,r1,q1,q2,q3,rfl⟩:=b.rp;rcases qar.mp m with m|m
   ·obtain⟨k,hk,rfl⟩:=qcE.mp m;have hk2:k<ls.length:=by rw[<-(zi4 r1).2];exact hk
    obtain⟨l,zs,h1,h2,h3,h4⟩:=zg0 r1 (qbG hk2);rw[qbG hk]at h2;cases h2;exact⟨_,h3,od_lst (lst_odd (qbV.mp ok _ (qcF hk2)) h4)⟩
   ·simp at m;subst m;exact⟨_,q1,od_kn⟩
 ·have I1:SI K (B.lkO K G H σ (ρ.set j .emp) (p::dx::A)) (frA G H (p::dx::A)) H σ (ρ.set j .emp):=by
   refine⟨fun a u z=>?_,Fz.refl _,fun b o z=> .inl (by show frA G H (p::dx::A) b≠none;rw[z];simp),J0.keep,J0.there,J0.len,J0.ob,fun i t ei=>?_,fun i k t u a n e1 e2 w1 w2=>?_⟩
   ·by_cases m:a∈p::dx::A
    ·rw[zhI m]at z;exact z
    ·rw[zer m]at z;exact I.fz a u z
   ·have h:=(J0.slot i t ei).mono (G':=frA G H (p::dx::A)) (H':=H) fg fun a w g h=>⟨by rw[zer fun m=>nw a m i t ei w];exact g,rfl⟩
    exact h
   ·have bk:=fun{i:Nat} {t:Sl} (ei:(ρ.set j .emp)[i]? =some t) {a:Addr} (w:OwS K (frA G H (p::dx::A)) H σ[i]? a t)=>(J0.slot i t ei).back (G':=frA G H (p::dx::A)) (H':=H) (fun a w g h=>⟨by rw[zer fun m=>nw a m i t ei w];exact g,rfl⟩) w
    exact J0.dis i k t u a n e1 e2 (bk e1 w1) (bk e2 w2)
  have I2:=I1.set (i:=j) (v:= .ref p) (d:=obD c ns ls dk) (zp4 fg b.nc (by rw[zhI (by simp)];exact b.ob) b.nm b.rp fun a m=>zhI (by simp[m]));rwa[zhB hp,List.set_set]at I2
theorem zmM (I:SI K B G H σ ρ){A:List Addr}{ρ1:R}{G3 H3:Hp}(e:ρ[j]? =some s)(ow:∀a,OwS K G H σ[j]? a s↔a∈A)(od:∀a∈A,∃o,H a=some o/\Od2 o)(J:SI K (B.lkO K G H σ (ρ.set j .emp) A) G3 H3 σ ρ1)(f3:Fz (frA G H A) G3)(al:((ρ.set j .emp).zip ρ1).all (fun q=>zhV q.1 q.2)=true):
  ∃G',SI K B G' H3 σ ρ/\Fz G G'/\Fz G' G3/\(∀a,a∉A->G' a=G3 a)/\(∀a o,G3 a=some o->G' a=some o\/Od2 o)/\∀(i:Nat) (t:Sl) (a:Addr),ρ[i]? =some t->OwS K G H σ[i]? a t->G' a=none/\H3 a=H a:=by
 have gn:∀a∈A,G a=none:=fun a m=>((I.slot j s e).own ((ow a).mpr m)).1
 have h3:∀a∈A,G3 a=H a:=fun a m=>by
  obtain⟨o,ho,_⟩:=od a m;rw[ho];exact f3 a o (by rw[zhI m];exact ho)
 have hh3:∀a∈A,H3 a=H a:=fun a m=>by
  obtain⟨o,ho,_⟩:=od a m;rw[ho];exact J.fz a o (by rw[h3 a m];exact ho)
 have I0:=I.emp j;have nwA:∀a∈A,Nw K G H σ (ρ.set j .emp) a:=fun a m=>nw_emp I e ((ow a).mpr m)
 have hin:∀a,a∈A->(if a∈A then none else G3 a)=none:=fun a m=>if_pos m
 have hout:∀a,a∉A->(if a∈A then none else G3 a)=G3 a:=fun a m=>if_neg m
 have fg:Fz G (fun a=>if a∈A then none else G3 a):=fun a o ea=>by
  have n:a∉A:=fun m=>by rw[gn a m]at ea;exact cNN ea
  show(if a∈A then none else G3 a)=_;rw[hout a n];exact f3 a o (by rw[zer n];exact ea)
 have sub:Fz (fun a=>if a∈A then none else G3 a) G3:=fun a o ea=>by
  dsimp only at ea
  split at ea
  ·exact cNN ea
  ·exact ea
 have len1:ρ1.length=ρ.length:=by rw[<-J.len,I.len]
 have kpO:∀(i:Nat) (t:Sl) (a:Addr),ρ[i]? =some t->OwS K G H σ[i]? a t->(if a∈A then none else G3 a)=none/\H3 a=H a:=fun i t a es w=>by
  by_cases hi:i=j
  ·subst hi;rw[e]at es;cases es;have m:=(ow a).mp w;exact⟨hin a m,hh3 a m⟩
  have il:i<ρ.length:=(qat.mp es).1;have es1:ρ1[i]? =some (ρ1[i]'(by lia)):=qbG _;have lk:zhV t (ρ1[i]'(by lia))=true:=
   qbV.mp al (t,ρ1[i]'(by lia)) (by
    apply qa7 (i:=i);rw[qbX];exact⟨by rw[qav (Ne.symm hi)];exact es,es1⟩)
  obtain⟨z1,z2⟩:=zm7 lk (I.slot i t es) (J.slot i _ es1) w;refine⟨?_,z2⟩
  by_cases m:a∈A
  ·exact hin a m
  ·rw[hout a m];exact z1
 refine⟨_,I.move (sub.trans J.fz) fg (fun b o eb=>?_) (fun b o eb n=>J.keep b o (by
   unfold Bs.lkO Bs.reA;dsimp only;rw[if_neg fun w=>by rw[w.2]at eb;cases eb];exact I.keep b o eb n) fun i m=>n i (reA_O (K:=K) (G:=G) (H:=H) (σ:=σ) (ρ:=ρ.set j .emp) (A:=A)|>.mp m).1) (fun b eb=>zkc (A:=A) I0 (J.there b eb)) fun i t a es w _ _=>kpO i t a es w,fg,sub,hout,fun a o ea=>?_,kpO⟩
 ·have n:b∉A:=fun m=>by rw[hin b m]at eb;exact cNN eb
  rcases J.new b o (sub b o eb)with z|z
  ·have z:frA G H A b≠none:=z;rw[zer n]at z;obtain⟨u,hu⟩:=qbA.mp z;exact I.new b u hu
  ·exact .inr (zkc (A:=A) I0 z)
 ·by_cases m:a∈A
  ·obtain⟨u,hu,od⟩:=od a m;rw[h3 a m,hu]at ea;cases ea;exact .inr od
  ·exact .inl (by show(if a∈A then none else G3 a)=some o;rw[hout a m];exact ea)
end
section
variable {X:Cx} {e:Expr}
theorem zb9 {m:ME}(j:Nat)(h:SE X e m):SE X e (eLkO j m):=by
 refine h.el fun t pt so=>?_
 refine⟨t,pt,fun B G H σ ρ d ρ' Q I hm kk=>?_⟩;unfold eLkO at hm
 split at hm
 ·rename_i c ns ls dk e0;refine cBel e0 fun s e1 e2=>?_
  refine zaz hm fun d' ρ1 e3 hm=>?_
  dsimp only at hm;refine cIte hm fun al hm=>?_
  cases hm;rw[qbm,qbm]at al;obtain⟨⟨ok,fl⟩,al⟩:=al;obtain⟨A,ow,od,I1,f1⟩:=zjn I e1 e2 ok;refine so _ _ H σ _ d ρ1 _ I1 e3 fun G3 H3 v I3 f3 r3=>?_
  obtain⟨G',J,fg,sub,_,th,_⟩:=zmM I e1 ow od I3 f3 al;exact kk G' H3 v J fg (zmh th fl r3)
 ·exact cNN hm
theorem zio {t:TE}(j:Nat)(so:∀B G H σ ρ ds ρ' (Q:VK),SI K B G H σ ρ->m ρ=some (ds,ρ')->
  (∀G' H' l xs,SI K B G' H' σ ρ'->Fz G G'->G' l=none->H' l=some (.lst xs)->RepL K G' xs ds->B.H l=none->Nw K G' H' σ ρ' l->Q (.ref l) H')->t σ H Q):
  ∀B G H σ ρ ds ρ' (Q:VK),SI K B G H σ ρ->oLkO j m ρ=some (ds,ρ')->
  (∀G' H' l xs,SI K B G' H' σ ρ'->Fz G G'->G' l=none->H' l=some (.lst xs)->RepL K G' xs ds->B.H l=none->Nw K G' H' σ ρ' l->Q (.ref l) H')->t σ H Q:=by
 intro B G H σ ρ ds ρ' Q I hm kk;unfold oLkO at hm
 split at hm
 ·rename_i c ns ls dk e0;obtain⟨s,e1,e2⟩:=zel e0;obtain⟨⟨d',ρ1⟩,e3,hm⟩:=zel hm;dsimp only at hm
  split at hm
  ·rename_i al;cases hm;rw[qbm,qbm]at al;obtain⟨⟨ok,fl⟩,al⟩:=al;obtain⟨A,ow,od,I1,f1⟩:=zjn I e1 e2 ok;refine so _ _ H σ _ ds ρ1 _ I1 e3 fun G3 H3 l xs I3 f3 g3 h3 r3 b3 n3=>?_
   obtain⟨G',J,fg,sub,out,th,kpO⟩:=zmM I e1 ow od I3 f3 al;have nA:l∉A:=fun m=>by
    obtain⟨o,ho,_⟩:=od l m;rw[f3 l o (by rw[zhI m];exact ho)]at g3;cases g3
   refine kk G' H3 l xs J fg (by rw[out l nA];exact g3) h3 (zkW th fl r3) (zkc (A:=A) (I.emp j) b3) fun i t ei w=>?_
   have w0:=(I.slot i t ei).back (fun a w _ _=>kpO i t a ei w) w
   by_cases hi:i=j
   ·subst hi;rw[e1]at ei;cases ei;exact nA ((ow l).mp w0)
   have il:i<ρ.length:=(qat.mp ei).1;have len1:ρ1.length=ρ.length:=by rw[<-I3.len,I.len]
   have es1:ρ1[i]? =some (ρ1[i]'(by lia)):=qbG _;have lk:zhV t (ρ1[i]'(by lia))=true:=
    qbV.mp al (t,ρ1[i]'(by lia)) (by
     apply qa7 (i:=i);rw[qbX];exact⟨by rw[qav (Ne.symm hi)];exact ei,es1⟩)
   refine n3 i _ es1 ?_
   generalize ρ1[i]'(by lia)=u at lk es1
   cases t with
   |own d0=>cases u with
    |own d1=>exact w0
    |_=>cases lk
   |par d0=>cases u with
    |par d1=>exact w0
    |_=>cases lk
   |tre _=>cases u<;>cases lk
   |ptr _=>cases u<;>cases lk
   |_=>exact w0.elim
  ·cases hm
 ·cases hm
theorem so_lookO (j:Nat)(h:SO X e m):SO X e (oLkO j m):=by
 refine h.el fun t pt so=>?_
 exact⟨t,pt,zio j so⟩
end
def sOFs (c:Str)(ns:List Str)(j k i:Nat)(me:ME):MS:=fun ρ=>(me ρ).bind fun p=>match p.2[j]?.bind Sl.ob,p.2[i]? with
 |some (c',ns',ls,dk),some (.val (.int n))=>if c'=c/\ns'=ns then(ls[k]?).bind fun ds=>(ixN ds.length n).bind fun m=>(p.2[j]?).map fun s=>(.next,p.2.set j (s.putT (.obj c ns (ls.set k (ds.set m p.1)) dk)))else none
 |_,_=>none
def sOFr (c:Str)(ns:List Str)(j k:Nat)(mo:MO):MS:=fun ρ=>(mo ρ).bind fun p=>match p.2[j]?.bind Sl.ob with
 |some (c',ns',ls,dk)=>if c'=c/\ns'=ns/\k<ls.length then(p.2[j]?).map fun s=>(.next,p.2.set j (s.putT (.obj c ns (ls.set k p.1) dk)))else none
 |_=>none
def sOFa (c:Str)(ns ns2:List Str)(j:Nat)(mo:MO):MS:=fun ρ=>(mo ρ).bind fun p=>match p.2[j]?.bind Sl.ob with
 |some (c',ns',ls,none)=>if c'=c/\ns'=ns then(p.2[j]?).map fun s=>(.next,p.2.set j (s.putT (.obj c ns2 (ls++[p.1]) none)))else none
 |_=>none
def sOFd (c:Str)(ns ns2:List Str)(j:Nat):MS:=fun ρ=>match ρ[j]?.bind Sl.ob with
 |some (c',ns',ls,none)=>if c'=c/\ns'=ns then(ρ[j]?).map fun s=>(.next,ρ.set j (s.putT (.obj c ns2 ls (some ([],[])))))else none
 |_=>none
def sOFk (c:Str)(ns:List Str)(j i:Nat)(me:ME):MS:=fun ρ=>(me ρ).bind fun p=>match p.2[j]?.bind Sl.ob,p.2[i]? with
 |some (c',ns',ls,some q),some (.val (.int n))=>if c'=c/\ns'=ns/\q.1.length<16777216 then(p.2[j]?).map fun s=>(.next,p.2.set j (s.putT (.obj c ns ls (some (ptD q.1 q.2 n p.1)))))else none
 |_,_=>none
theorem zkb:∀{vs:List (Str×V)} {f:Str} {v:V},(vs.map (·.1)).contains f=false->putF f v vs=vs++[(f,v)]
 |[],_,_,_=>rfl
 |(g,u)::vs,f,v,n=>by
  rw[qaR,qcm,qcC]at n;have:¬g=f:=fun z=>by subst z;simp at n
  show(if g=f then _ else _)=_;rw[if_neg this,zkb n.2]
  rfl
theorem znZ:∀{vs:List (Str×V)} {ns:List Str} {k:Nat} {f:Str} {v:V},vs.map (·.1)=ns->ns[k]? =some f->(ns.take k).contains f=false->(putF f v vs).map (·.1)=ns/\(putF f v vs).map (·.2)=(vs.map (·.2)).set k v
 |[],_,_,_,_,e,h,_=>by subst e;simp at h
 |(g,u)::vs,_,0,f,v,e,h,_=>by
  subst e;simp at h;subst h;have e2:putF g v ((g,u)::vs)=(g,v)::vs:=by unfold putF;rw[if_pos rfl]
  rw[e2];exact⟨rfl,rfl⟩
 |(g,u)::vs,_,k+1,f,v,e,h,n=>by
  subst e;rw[qaR,List.take_succ_cons,qcm,qcC]at n;obtain⟨h1,h2⟩:=znZ (vs:=vs) (v:=v) rfl (by simpa using h) n.2;have:¬g=f:=fun z=>by subst z;simp at n
  unfold putF;rw[if_neg this];exact⟨by rw[qaR,h1,qaR],by rw[qaR,h2,qaR,qcG]⟩
theorem zjy:∀{A:List Addr},A.Nodup->l∉A->∀k:Nat,(A.set k l).Nodup
 |[],h,_,_=>h
 |a::A,h,n,0=>by
  rw[qaY]at h;rw[qcH,qaY];exact⟨fun m=>n (by simp[m]),h.2⟩
 |a::A,h,n,k+1=>by
  rw[qaY]at h;rw[qcG,qaY];refine⟨fun m=>?_,zjy h.2 (fun m=>n (by simp[m])) k⟩;rcases qce m with z|z
  ·exact h.1 z
  ·exact n (by simp[z])
section
variable {K:W.Frag} {B:Bs} {G H:Hp} {σ:St} {ρ:R}
theorem SI.obHas (h:ρ[j]?.bind Sl.ob=some q):∃s,ρ[j]? =some s/\s.ob=some (q.1,q.2.1,q.2.2.1,q.2.2.2):=by
 refine cBel h fun s e1 e2=>?_
 exact⟨s,e1,by rw[e2]⟩
end
section
variable {X:Cx} {c f x y:Str} {ns ns2:List Str} {e:Expr} {me:ME} {mo:MO} {p p2 p3 pos ap tpos:Pos} {k:Nat}
theorem zh1 (j k i:Nat)(oc:OC X.K c ns)(he:SE X e me)(hk:ns[k]? =some f:=by rfl)(hn:(ns.take k).contains f=false:=by decide+kernel)(hN:X.N[j]? =some x:=by rfl)(hv:Vis X.env.scope x:=by trivial)(hd:(x==("__debug__":Str))=false:=by decide)
    (hcd:(x==("__classdict__":Str))=false:=by decide) (hN2:X.N[i]? =some y:=by rfl) (hv2:Vis X.env.scope y:=by trivial) (hd2:(y==("__debug__":Str))=false:=by decide)
    (hcd2:(y==("__classdict__":Str))=false:=by decide) (hb:attributeBase (.Name x p) f X.env (eval (.Name x p) X.env)=eval (.Name x p) X.env:=by rfl)
    (ha : ∀ v, assign (.Subscript (.Attribute (.Name x p) f ap) (.Name y p2) tpos) X.env v = (do
      let ov<-holding [v] (eval (.Attribute (.Name x p) f ap) X.env)
      let iv<-holding [v,ov] (eval (.Name y p2) X.env)
      standAt tpos
      holding [v,ov,iv] (setItem ov iv v)
      release [v,ov,iv] []):=by exact fun _=>rfl)
    (hs:swapsWithSole [.Subscript (.Attribute (.Name x p) f ap) (.Name y p2) tpos] e pos.line X.env=pure false:=by rfl) (hw:swappedStores [.Subscript (.Attribute (.Name x p) f ap) (.Name y p2) tpos] e X.env=pure none:=by rfl)
    (h1:(assignEach [.Subscript (.Attribute (.Name x p) f ap) (.Name y p2) tpos] X.env).map (·.2)=[assign (.Subscript (.Attribute (.Name x p) f ap) (.Name y p2) tpos) X.env]:=by rfl):
    SS X (.Assign [.Subscript (.Attribute (.Name x p) f ap) (.Name y p2) tpos] e pos) (sOFs c ns j k i me):=by
  obtain⟨C,c1,c2,c3⟩:=oc;refine he.el fun t pt so=>?_
  refine⟨_,zob pt (pg_sub (zmg (zb3 hN hv hd hcd) hb) (zb3 hN2 hv2 hd2 hcd2) zmU ha) hs hw h1,fun B G H σ ρ fl ρ' E I hm kk=>?_⟩;refine zaz hm fun d ρ1 e1 hm=>?_
  refine so B G H σ ρ d ρ1 _ I e1 fun G1 H1 v I1 f1 r1=>?_
  dsimp only at hm
  split at hm
  . rename_i c' ns' ls dk n e2 e3
    refine cIte hm fun h hm=>?_
    obtain⟨rfl,rfl⟩:=h;refine cBel hm fun ds e4 hm=>?_
    refine cBel hm fun m e5 hm=>?_
    refine cMel hm fun s e6 hm=>?_
    cases hm;obtain⟨s',e7,e8⟩:=SI.obHas e2;rw[e6]at e7;cases e7;obtain⟨q,C2,dx,vs,A,hp,b,nd,ow⟩:=I1.obj e6 e8;have h2:=b.nc;rw[c1]at h2;cases h2;obtain⟨l,xs,g1,g2,g3,g4⟩:=zm0 b.rp e4;obtain⟨w,k1,k2⟩:=I1.slot i _ e3;cases(show w=V.int n from k2);have lA:l∈A:=qa7 g2;have gl:G1 l=none:=((I1.slot j s e6).own ((ow l).mpr (by simp[lA]))).1;rw[qaY,qaY]at nd;have pl:q≠l:=fun z=>nd.1 (by rw[z];simp[lA])
    have dl:dx≠l:=fun z=>nd.2.1 (z ▸ lA)
    have hk2:k<ls.length:=(qat.mp e4).1;refine⟨.ref q,hp,q,C,dx,vs,.ref l,rfl,b.ob,c2,c3 f (qa7 hk),zfc b.nm hk hn g1,.int n,k1,l,xs,n,m,rfl,rfl,g3,by rw[g4.length];exact e5,?_⟩;have lk:A.set k l=A:=zhB g2;have b':ObAt X.K G1 (upd H1 l (.lst (xs.set m v))) q C dx c' ns' (ls.set k (ds.set m d)) dk vs A:=by
      refine⟨b.nc,by rw[zam pl];exact b.ob,by rw[zam dl];exact b.dx,b.nm,?_⟩;have:=zmD (H':=upd H1 l (.lst (xs.set m v))) b.rp hk2 g2 (Fz.refl G1) (fun a _ n=>zam n) nd.2.2 zaq (g4.set m r1);rw[lk]at this;rwa[zhB g1]at this
    exact kk G1 _ σ (I1.chO e6 e8 hp b (by rw[qaY,qaY];exact nd) ow (I1.fz.right gl _) (fun z o n hz=>by rw[zam (fun y=>n (by rw[y];simp[lA]))];exact hz) (fun z hz=>by
      by_cases y:z=l
      . subst y;rw[zaq]at hz;cases hz
      . rw[zam y]at hz;exact hz) b' (by rw[qaY,qaY];exact nd) fun a m=> .inl m) f1
  . exact cNN hm
theorem ss_obRep (j k:Nat)(oc:OC X.K c ns)(he:SO X e mo)(hk:ns[k]? =some f:=by rfl)(hn:(ns.take k).contains f=false:=by decide+kernel)(hl:ns.length<1000:=by decide)(hN:X.N[j]? =some x:=by rfl)(hv:Vis X.env.scope x:=by trivial)(hd:(x==("__debug__":Str))=false:=by decide)
    (hcd:(x==("__classdict__":Str))=false:=by decide) (hs:swapsWith e (some (.Attribute (.Name x p) f ap)) pos.line X.env=pure false:=by rfl):
    SS X (.Assign [.Attribute (.Name x p) f ap] e pos) (sOFr c ns j k mo):=by
  obtain⟨C,c1,c2,c3⟩:=oc;refine he.el fun t pt so=>?_
  refine⟨_,zol (zb3 hN hv hd hcd) pt hs,fun B G H σ ρ fl ρ' E I hm kk=>?_⟩;refine zaz hm fun ds ρ1 e1 hm=>?_
  refine so B G H σ ρ ds ρ1 _ I e1 fun G1 H1 l xs I1 f1 gl hl1 r1 bl nl=>?_
  dsimp only at hm
  split at hm
  . rename_i c' ns' ls dk e2
    refine cIte hm fun h hm=>?_
    obtain⟨rfl,rfl,hk2⟩:=h;refine cMel hm fun s e6 hm=>?_
    cases hm;obtain⟨s',e7,e8⟩:=SI.obHas e2;rw[e6]at e7;cases e7;obtain⟨q,C2,dx,vs,A,hp,b,nd,ow⟩:=I1.obj e6 e8;have h2:=b.nc;rw[c1]at h2;cases h2;obtain⟨l0,xs0,g1,g2,g3,g4⟩:=zm0 b.rp (qbG hk2);have nown:l∉q::dx::A:=fun m=>nl j s e6 ((ow l).mpr m)
    have gq:G1 q=none:=((I1.slot j s e6).own ((ow q).mpr (by simp))).1;have lv:vs.length<1000:=by have:=congrArg List.length b.nm;simp at this;lia
    obtain⟨n1,n2⟩:=znZ (v:= .ref l) b.nm hk hn;rw[qaY,qaY]at nd;have qA:q∉A:=fun z=>nd.1 (by simp[z])
    have qd:q≠dx:=fun z=>nd.1 (by simp[z])
    have lq:l≠q:=fun z=>nown (by simp[z])
    refine⟨.ref q,hp,q,C,dx,vs,rfl,b.ob,c2,c3 f (qa7 hk),lv,?_⟩;have b':ObAt X.K G1 (upd H1 q (.ins C dx (putF f (.ref l) vs))) q C dx c' ns' (ls.set k ds) dk (putF f (.ref l) vs) (A.set k l):=by
      refine⟨b.nc,zaq,by rw[zam (Ne.symm qd)];exact b.dx,n1,?_⟩;rw[n2];exact zmD b.rp hk2 g2 (Fz.refl G1) (fun a m _=>zam fun z=>qA (z ▸ m)) nd.2.2 (by rw[zam lq];exact hl1) r1
    have sub:∀a∈A.set k l,a∈A\/a=l:=fun a m=>qce m
    refine kk G1 _ σ (I1.chO e6 e8 hp b (by rw[qaY,qaY];exact nd) ow (I1.fz.right gq _) (fun z o n hz=>by rw[zam (fun y=>n (by rw[y];simp))];exact hz) (fun z hz=>by
      by_cases y:z=q
      . subst y;rw[zaq]at hz;cases hz
      . rw[zam y]at hz;exact hz) b' ?_ fun a m=>(sub a m).imp id fun z=>by subst z;exact⟨gl,bl,nl⟩) f1
    rw[qaY,qaY];refine⟨fun m=>?_,fun m=>?_,?_⟩
    . rcases qaq.mp m with z|m
      . exact qd z
      . exact(sub q m).elim qA fun z=>lq z.symm
    . exact(sub dx m).elim nd.2.1 fun z=>nown (by simp[z])
    . exact zjy nd.2.2 (fun m=>nown (by simp[m])) k
  . exact cNN hm
theorem zhX (j:Nat)(ns2:List Str)(oc:OC X.K c ns2)(he:SO X e mo)(hk:ns2=ns++[f]:=by rfl)(hn:ns.contains f=false:=by decide+kernel)(hl:ns.length<1000:=by decide)(hN:X.N[j]? =some x:=by rfl)(hv:Vis X.env.scope x:=by trivial)(hd:(x==("__debug__":Str))=false:=by decide)
    (hcd:(x==("__classdict__":Str))=false:=by decide) (hs:swapsWith e (some (.Attribute (.Name x p) f ap)) pos.line X.env=pure false:=by rfl):
    SS X (.Assign [.Attribute (.Name x p) f ap] e pos) (sOFa c ns ns2 j mo):=by
  obtain⟨C,c1,c2,c3⟩:=oc;refine he.el fun t pt so=>?_
  refine⟨_,zol (zb3 hN hv hd hcd) pt hs,fun B G H σ ρ fl ρ' E I hm kk=>?_⟩;refine zaz hm fun ds ρ1 e1 hm2=>?_
  clear hm;refine so B G H σ ρ ds ρ1 _ I e1 fun G1 H1 l xs I1 f1 gl hl1 r1 bl nl=>?_
  dsimp only at hm2
  split at hm2
  . rename_i c' ns' ls e2
    split at hm2
    . rename_i h
      obtain⟨rfl,rfl⟩:=h;obtain⟨s,e6,hm2⟩:=zhh hm2;cases hm2;obtain⟨s',e7,e8⟩:=SI.obHas e2;rw[e6]at e7;cases e7;obtain⟨q,C2,dx,vs,A,hp,b,nd,ow⟩:=I1.obj e6 e8;have h2:=b.nc;rw[c1]at h2;cases h2;have nown:l∉q::dx::A:=fun m=>nl j s e6 ((ow l).mpr m)
      have gq:G1 q=none:=((I1.slot j s e6).own ((ow q).mpr (by simp))).1;have lv:vs.length<1000:=by have:=congrArg List.length b.nm;simp at this;lia
      have pf:=zkb (v:= .ref l) (by rw[b.nm];exact hn);rw[qaY,qaY]at nd;have qA:q∉A:=fun z=>nd.1 (by simp[z])
      have qd:q≠dx:=fun z=>nd.1 (by simp[z])
      have lq:l≠q:=fun z=>nown (by simp[z])
      refine⟨.ref q,hp,q,C,dx,vs,rfl,b.ob,c2,c3 f (by rw[hk];simp),lv,?_⟩;have b':ObAt X.K G1 (upd H1 q (.ins C dx (putF f (.ref l) vs))) q C dx c' ns2 (ls++[ds]) none (putF f (.ref l) vs) (A++[l]):=by
        refine⟨b.nc,zaq,by rw[zam (Ne.symm qd)];exact b.dx,by rw[pf,qb3,b.nm,hk];rfl,?_⟩;rw[pf,qb3];refine zkN (RepTb.move (show RepTb X.K G1 H1 (vs.map (·.2)) ls A from b.rp) (Fz.refl G1) fun a m=>zam fun z=>qA (z ▸ m)) (by rw[zam lq];exact hl1) r1
      refine kk G1 _ σ (I1.chO e6 e8 hp b (by rw[qaY,qaY];exact nd) ow (I1.fz.right gq _) (fun z o n hz=>by rw[zam (fun y=>n (by rw[y];simp))];exact hz) (fun z hz=>by
        by_cases y:z=q
        . subst y;rw[zaq]at hz;cases hz
        . rw[zam y]at hz;exact hz) b' ?_ fun a m=>(qar.mp m).imp id fun z=>by
          have:a=l:=by simpa using z
          subst this;exact⟨gl,bl,nl⟩) f1
      rw[<-qbN,<-qbN,qcA];refine⟨by rw[qaY,qaY];exact nd,by simp,fun a ha b hb z=>nown ?_⟩;have:b=l:=by simpa using hb
      rw[<-this,<-z];exact ha
    . exact cNN hm2
  . exact cNN hm2
theorem ss_obDic (j:Nat)(ns2:List Str)(oc:OC X.K c ns2)(hk:ns2=ns++[f]:=by rfl)(hn:ns.contains f=false:=by decide+kernel)(hl:ns.length<1000:=by decide)(hN:X.N[j]? =some x:=by rfl)(hv:Vis X.env.scope x:=by trivial)(hd:(x==("__debug__":Str))=false:=by decide)
    (hcd:(x==("__classdict__":Str))=false:=by decide) (hs:swapsWith (.Dict [] [] tpos) (some (.Attribute (.Name x p) f ap)) pos.line X.env=pure false:=by rfl):
    SS X (.Assign [.Attribute (.Name x p) f ap] (.Dict [] [] tpos) pos) (sOFd c ns ns2 j):=by
  obtain⟨C,c1,c2,c3⟩:=oc;refine⟨_,zol (zb3 hN hv hd hcd) pe_dnewN hs,fun B G H σ ρ fl ρ' E I hm kk=>?_⟩;unfold sOFd at hm
  split at hm
  . rename_i c' ns' ls e2
    split at hm
    . rename_i h
      obtain⟨rfl,rfl⟩:=h;obtain⟨s,e6,hm⟩:=zhh hm;cases hm;obtain⟨s',e7,e8⟩:=SI.obHas e2;rw[e6]at e7;cases e7;intro l o hl0 dn;have I1:=I.allocO hl0 (kn l o);have nl:Nw X.K G (upd H l (kn l o)) σ ρ l:=I.nw_move (I.nw hl0) fun i s a _ _ g h=>⟨g,zam fun z=>h (by rw[z];exact hl0)⟩
      have gl:G l=none:=I.fz.free hl0;have bl:B.H l=none:=I.there l hl0;obtain⟨q,C2,dx,vs,A,hp,b,nd,ow⟩:=I1.obj e6 e8;have h2:=b.nc;rw[c1]at h2;cases h2;have nown:l∉q::dx::A:=fun m=>nl j s e6 ((ow l).mpr m)
      have gq:G q=none:=((I1.slot j s e6).own ((ow q).mpr (by simp))).1;have lv:vs.length<1000:=by have:=congrArg List.length b.nm;simp at this;lia
      have pf:=zkb (v:= .ref l) (by rw[b.nm];exact hn);rw[qaY,qaY]at nd;have qA:q∉A:=fun z=>nd.1 (by simp[z])
      have qd:q≠dx:=fun z=>nd.1 (by simp[z])
      have lq:l≠q:=fun z=>nown (by simp[z])
      refine⟨.ref q,hp,q,C,dx,vs,rfl,b.ob,c2,c3 f (by rw[hk];simp),lv,?_⟩;have b':ObAt X.K G (upd (upd H l (kn l o)) q (.ins C dx (putF f (.ref l) vs))) q C dx c' ns2 ls (some ([],[])) (putF f (.ref l) vs) (A++[l]):=by
        refine⟨b.nc,zaq,by rw[zam (Ne.symm qd)];exact b.dx,by rw[pf,qb3,b.nm,hk];rfl,?_⟩;rw[pf,qb3];exact⟨vs.map (·.2),l,o,[],[],A,rfl,RepTb.move (show RepTb X.K G (upd H l (kn l o)) (vs.map (·.2)) ls A from b.rp) (Fz.refl G) fun a m=>zam fun z=>qA (z ▸ m),by rw[zam lq];exact zaq,dn,RepL.nil,rfl⟩
      refine kk G _ σ (I1.chO e6 e8 hp b (by rw[qaY,qaY];exact nd) ow (I1.fz.right gq _) (fun z o n hz=>by rw[zam (fun y=>n (by rw[y];simp))];exact hz) (fun z hz=>by
        by_cases y:z=q
        . subst y;rw[zaq]at hz;cases hz
        . rw[zam y]at hz;exact hz) b' ?_ fun a m=>(qar.mp m).imp id fun z=>by
          have:a=l:=by simpa using z
          subst this;exact⟨gl,bl,nl⟩) (Fz.refl G)
      rw[<-qbN,<-qbN,qcA];refine⟨by rw[qaY,qaY];exact nd,by simp,fun a ha b hb z=>nown ?_⟩;have:b=l:=by simpa using hb
      rw[<-this,<-z];exact ha
    . exact cNN hm
  . exact cNN hm
theorem ss_obPut (j k i:Nat)(oc:OC X.K c ns)(he:SE X e me)(hk:ns[k]? =some f:=by rfl)(hkl:k+1=ns.length:=by rfl)(hn:(ns.take k).contains f=false:=by decide+kernel)(hN:X.N[j]? =some x:=by rfl)(hv:Vis X.env.scope x:=by trivial)(hd:(x==("__debug__":Str))=false:=by decide)
    (hcd:(x==("__classdict__":Str))=false:=by decide) (hN2:X.N[i]? =some y:=by rfl) (hv2:Vis X.env.scope y:=by trivial) (hd2:(y==("__debug__":Str))=false:=by decide)
    (hcd2:(y==("__classdict__":Str))=false:=by decide) (hb:attributeBase (.Name x p) f X.env (eval (.Name x p) X.env)=eval (.Name x p) X.env:=by rfl)
    (hs:swapsWith e (some (.Subscript (.Attribute (.Name x p) f ap) (.Name y p2) tpos)) pos.line X.env=pure false:=by rfl):
    SS X (.Assign [.Subscript (.Attribute (.Name x p) f ap) (.Name y p2) tpos] e pos) (sOFk c ns j i me):=by
  obtain⟨C,c1,c2,c3⟩:=oc;refine he.el fun t pt so=>?_
  refine⟨_,ps_dputN (zmg (zb3 hN hv hd hcd) hb) (zb3 hN2 hv2 hd2 hcd2) pt hs,fun B G H σ ρ fl ρ' E I hm kk=>?_⟩;refine zaz hm fun d ρ1 e1 hm=>?_
  refine so B G H σ ρ d ρ1 _ I e1 fun G1 H1 v I1 f1 r1=>?_
  dsimp only at hm
  split at hm
  . rename_i c' ns' ls qd n e2 e3
    refine cIte hm fun h hm=>?_
    obtain⟨rfl,rfl,hln⟩:=h;refine cMel hm fun s e6 hm=>?_
    cases hm;obtain⟨s',e7,e8⟩:=SI.obHas e2;rw[e6]at e7;cases e7;obtain⟨q,C2,dx,vs,A,hp,b,nd,ow⟩:=I1.obj e6 e8;have h2:=b.nc;rw[c1]at h2;cases h2;obtain⟨w,k1,k2⟩:=I1.slot i _ e3;cases(show w=V.int n from k2);have rp:=b.rp;obtain⟨ws,l,o,zs,ys,A',g1,g2,g3,g4,g5,rfl⟩:=rp;have lA:l∈A'++[l]:=by simp
    have gl:G1 l=none:=((I1.slot j s e6).own ((ow l).mpr (by simp))).1;have nd0:=nd;rw[qaY,qaY]at nd;have pl:q≠l:=fun z=>nd.1 (by rw[z];simp)
    have dl:dx≠l:=fun z=>nd.2.1 (by rw[z];simp)
    have l1:=congrArg List.length b.nm;have l2:=congrArg List.length g1;simp at l1 l2;have g0:(vs.map (·.2))[k]? =some (.ref l):=by rw[g1,show k=ws.length by lia];simp
    refine⟨.ref q,hp,q,C,dx,vs,.ref l,rfl,b.ob,c2,c3 f (qa7 hk),zfc b.nm hk hn g0,.int n,k1,l,o,zs,qd.1,ys,n,rfl,rfl,g3,g4,by rw[qaL];exact hln,fun o' zs' ks' ys' hks hys dn=>?_⟩;obtain rfl:=hks qd.2 d;subst hys;obtain⟨m1,m2⟩:=pt_rep zis (j:=n) g4.key g5 r1;have nA':∀a∈A',a≠l:=fun a m z=>by
      have:=nd.2.2;rw[qcA]at this;exact this.2.2 a m l (by simp) z
    have b':ObAt X.K G1 (upd H1 l (kn l o')) q C dx c' ns' ls (some (ptD qd.1 qd.2 n d)) vs (A'++[l]):=
      ⟨b.nc,by rw[zam pl];exact b.ob,by rw[zam dl];exact b.dx,b.nm,ws,l,o',zs',_,A',g1,g2.move (Fz.refl G1) fun a m=>zam (nA' a m),zaq,dn,m2,rfl⟩
    exact kk G1 _ σ (I1.chO e6 e8 hp b nd0 ow (I1.fz.right gl _) (fun z o n hz=>by rw[zam (fun y=>n (by rw[y];simp))];exact hz) (fun z hz=>by
      by_cases y:z=l
      . subst y;rw[zaq]at hz;cases hz
      . rw[zam y]at hz;exact hz) b' nd0 fun a m=> .inl m) f1
  . exact cNN hm
end
section
variable {K:W.Frag} {B:Bs} {G H:Hp} {σ:St} {ρ:R} {p:Addr} {t t3:T} {A:List Addr} {vs:List V} {ds:List D} {F:R->Option (Sl×R)} {d:D} {rest:R} {Q:VK} {E:XK}
theorem coreO (fz:Fz G H)(r:RepT K G H (.ref p) t A)(nd:A.Nodup)(gA:∀a∈A,G a=none)(rv:RepL K G vs ds)(eF:F (.ptr t::ds.map .val)=some (.val d,.ptr t3::rest))
  (kk:∀G2 H2 v A3,Fz G G2->Fz G2 H2->(∀b o,G2 b=some o->G b≠none\/H b=none)->(∀b o,H b=some o->b∉A->H2 b=some o)->(∀b,H2 b=none->H b=none)->RepT K G2 H2 (.ref p) t3 A3->A3.Nodup->(∀a∈A3,G2 a=none/\(a∈A\/H a=none))->RepD K G2 v d->Q v H2):spG K (ds.length+1) F (.ref p::vs) H Q E:=by
 have hd:p∈A:=by obtain⟨p2,e,m⟩:=r.head;cases e;exact m
 have mO:∀{i:Nat} {b:Addr},(i,b)∈A.map (fun a=>((0:Nat),a))++[(4096,p),(8192,p)]->(i=0/\b∈A)\/(i=4096/\b=p)\/(i=8192/\b=p):=fun{i b} m=>by
  rcases qar.mp m with m|m
  ·obtain⟨a,m,e⟩:=qbW.mp m;cases e;exact .inl ⟨rfl,m⟩
  ·simp at m;exact .inr m
 have inA:∀{i:Nat} {b:Addr},(i,b)∈A.map (fun a=>((0:Nat),a))++[(4096,p),(8192,p)]->b∈A:=fun{i b} m=>by
  rcases mO m with z|z|z
  ·exact z.2
  ·rw[z.2];exact hd
  ·rw[z.2];exact hd
 have at0:∀{i:Nat} {s:Sl},(Sl.ptr t::ds.map .val)[i]? =some s->(i=0/\s= .ptr t)\/∃k x,i=k+1/\ds[k]? =some x/\s= .val x:=fun{i s} e=>by
  cases i with
  |zero=>simp at e;exact .inl ⟨rfl,e.symm⟩
  |succ k=>
   rw[qbM,qa5]at e;refine cMel e fun x h1 h2=>?_
   exact .inr ⟨k,x,rfl,h1,h2.symm⟩
 refine⟨G,A.map (fun a=>((0:Nat),a))++[(4096,p),(8192,p)],_,_,_,eF,by simp,⟨fz,Fz.refl G,fun b o e=> .inl (by show G b≠none;rw[e];simp),fun b o e _=>e,fun b e=>e,by simp[rv.length],fun i b m=>r.here (inA m),fun i s e=>?_,fun i k s u a n e1 e2 w1 w2=>?_⟩,fun G2 H2 v f2 fz2 nw kp th so rr=>?_⟩
 ·rcases at0 e with⟨rfl,rfl⟩|⟨k,x,rfl,h1,rfl⟩
  ·exact⟨.ref p,A,rfl,r,⟨nd,p,rfl,by simp,fun _=>by simp⟩,fun a m=>⟨gA a m,.inl (by simp[m])⟩⟩
  ·obtain⟨y,g1,g2⟩:=rv.get h1;exact⟨y,by simp[g1],g2⟩
 ·rcases at0 e1 with⟨rfl,rfl⟩|⟨k1,x,rfl,h1,rfl⟩
  ·rcases at0 e2 with⟨rfl,rfl⟩|⟨k2,x,rfl,h1,rfl⟩
   ·exact n rfl
   ·exact w2
  ·exact w1
 ·obtain⟨ov,so⟩:=so 0 (.ptr t3) rfl;obtain⟨v3,A3,h1,h2,⟨h3,p3,rfl,h4,h5⟩,h6⟩:=so;have e3:p3=p:=by
   rcases mO h4 with z|z|z
   ·lia
   ·exact z.2
   ·lia
  subst e3;refine kk G2 H2 v A3 f2 fz2 nw (fun b o hb n=>kp b o hb fun i m=>n (inA m)) th h2 h3 (fun a m=>⟨(h6 a m).1,(h6 a m).2.imp inA fun z=>z.1⟩) rr
theorem callO (I:SI K B G H σ ρ){c c3:Str}{ns ns3:List Str}{ls l3:List (List D)}{dk d3:Option (List Int×List D)}(e:ρ[j]? =some s)(q:s.ob=some (c,ns,ls,dk))(hp:σ[j]? =some (some (.ref p)))(rv:RepL K G vs ds)(eF:F (.ptr (.obj c ns ls dk)::ds.map .val)=some (.val d,.ptr (.obj c3 ns3 l3 d3)::rest))
  (kk:∀G2 H2 v,SI K B G2 H2 σ (ρ.set j (s.putT (.obj c3 ns3 l3 d3)))->Fz G G2->RepD K G2 v d->Q v H2):spG K (ds.length+1) F (.ref p::vs) H Q E:=by
 obtain⟨p1,C,dx,ws,A,hp1,b,nd,ow⟩:=I.obj e q;rw[hp]at hp1;cases hp1;have sl:=I.slot j s e;refine coreO I.fz b.rep nd (fun a m=>(sl.own ((ow a).mpr m)).1) rv eF fun G2 H2 v A3 f2 fz2 nw kp th r3 nd3 h3 rr=>kk G2 H2 v ?_ f2 rr
 have sub:∀a∈A3,a∈p::dx::A\/H a=none:=fun a m=>(h3 a m).2
 have h:=I.chg (i:=j) (ov:=some (.ref p)) (s':=s.putT (.obj c3 ns3 l3 d3)) (G':=G2) (H':=H2) fz2 f2 (fun x o hx=>?_) (fun x o k1 k2=>kp x o (I.keep x o k1 k2) fun m=>?_) (fun x k=>I.there x (th x k)) (fun i t a z ei w g ha=>?_) ?_
 ·rwa[zhB hp]at h
 ·rcases nw x o hx with z|z
  ·obtain⟨u,hu⟩:=qbA.mp z;exact I.new x u hu
  ·exact .inr (I.there x z)
 ·rcases(sl.own ((ow x).mpr m)).2.2 with z|z
  ·rw[k1]at z;cases z
  ·exact k2 j z
 ·have na:a∉p::dx::A:=fun m=>I.dis i j t s a z ei e w ((ow a).mpr m)
  obtain⟨x,hx⟩:=qbA.mp ha;refine⟨?_,(kp a x hx na).trans hx.symm,fun w'=>?_⟩
  ·cases y:G2 a with
   |none=>rfl
   |some o=>
    rcases nw a o y with y|y
    ·exact absurd g y
    ·exact absurd y ha
  ·have:∃v A,some (some (V.ref p))=some (some v)/\RepT K G2 H2 v (.obj c3 ns3 l3 d3) A/\a∈A:=by
    rcases zoM q with rfl|rfl<;>exact w'
   obtain⟨v2,A2,k1,k2,k3⟩:=this;cases k1;rw[<-r3.det k2 fun _ _=>rfl]at k3;rcases sub a k3 with y|y
   ·exact na y
   ·exact ha y
 ·rcases zoM q with rfl|rfl
  ·obtain⟨v,A0,k1,k2,k3,k4⟩:=sl;rw[hp]at k1;cases k1;have eA:p::dx::A=A0:=b.rep.det k2 fun _ _=>rfl
   subst eA;exact⟨.ref p,_,rfl,r3,nd3,fun a m=>⟨(h3 a m).1,(sub a m).elim (fun z=>(k4 a z).2) fun z=>I.there a z⟩⟩
  ·obtain⟨v,A0,k1,k2,k3,k4⟩:=sl;rw[hp]at k1;cases k1;have eA:p::dx::A=A0:=b.rep.det k2 fun _ _=>rfl
   subst eA;obtain⟨k3,p2,y1,y2,y3⟩:=k3;cases y1;exact⟨.ref p,_,rfl,r3,⟨nd3,p,rfl,y2,fun _=>y3 rfl⟩,fun a m=>⟨(h3 a m).1,(sub a m).elim (fun z=>(k4 a z).2) fun z=> .inr ⟨I.there a z,p,rfl,y3 rfl⟩⟩⟩
end
def zhM (F:R->Option (Sl×R))(c:Str)(ns:List Str)(j:Nat)(ma:MA):ME:=fun ρ=>match ρ[j]?.bind Sl.ob with
 |some (c',ns',_,_)=>if c'=c/\ns'=ns then(ma ρ).bind fun q=>match q.2[j]?.bind Sl.ob with
  |some (c2,ns2,l2,d2)=>(F (.ptr (.obj c2 ns2 l2 d2)::q.1.map .val)).bind fun z=>match z with
   |(.val d,.ptr (.obj c3 ns3 l3 d3)::_)=>(q.2[j]?).map fun s=>(d,q.2.set j (s.putT (.obj c3 ns3 l3 d3)))
   |_=>none
  |none=>none else none
 |none=>none
def sMkO (i:Nat)(c:Str)(ns:List Str)(F:R->Option (Sl×R))(ma:MA):MS:=fun ρ=>(ma ρ).bind fun q=>(F (.ptr (.obj c [] [] none)::q.1.map .val)).bind fun z=>match z with
 |(.val .non,.ptr (.obj c3 ns3 l3 (some d3))::_)=>if c3=c/\ns3=ns then some (.next,q.2.set i (.val (obD c ns l3 d3)))else none
 |_=>none
structure MkO (P:Program) (w:World) (K:W.Frag) (mg:Str->Option Value) (base:Heap) (k:Nat) (c:Str) (sp:Sp):Prop where
 ex:∃C f fd ps,W.nsIn K mainGlobals c=some (some (.ref C))/\mg c=some (.ref C)/\Mk K C f/\FnOk P w K mg base CX0 k f fd ps sp/\Binds K fd ps []
section
variable {X:Cx} {c x y mt:Str} {ns:List Str} {a:Expr} {es:List Expr} {ma:MA} {p py pos ap tpos:Pos} {k k' n:Nat} {F:R->Option (Sl×R)}
theorem zj9 (j:Nat)(hc:ns.contains mt=false)(md:MV X.prog X.w X.K X.mg X.base k c mt (spG X.K n F))(hr:Room k' X.A)(ha:SA X (a::es) ma)(hlen:∀ρ as ρ',ma ρ=some (as,ρ')->as.length+1=n)(hN:X.N[j]? =some x:=by rfl)(hv:Vis X.env.scope x:=by trivial)(hd:(x==("__debug__":Str))=false:=by decide)
  (hcd:(x==("__classdict__":Str))=false:=by decide) (hk:k<=k':=by decide)
  (hst:starEach (a::es) X.env=(false,eval a X.env)::starEach es X.env:=by rfl) (hpl:(backTo pos (starEach es X.env)).any (·.1)=false:=by rfl)
  (ht : eval (.Call (.Attribute (.Name x p) mt ap) (a :: es) [] pos) X.env = (do
   let ov<-eval (.Name x p) X.env
   standAt ap.atName
   let(f,first)<-holding [ov] (getMethod ov mt pl)
   callWith pos f first (backTo pos (starEach (a::es) X.env)) (backToKw pos (keywordEach [] X.env))):=by rfl):SE X (.Call (.Attribute (.Name x p) mt ap) (a::es) [] pos) (zhM F c ns j ma):=by
 obtain⟨C,f,fdd,ps,c1,c2,c3,c4,c5⟩:=md.ex;refine ha.el fun t pa sa=>?_
 refine⟨_,zqa (zb3 hN hv hd hcd) c2 c3 c4 (hr.mono hk) c5 .nil zlh pa hst hpl ht,fun B G H σ ρ d ρ' Q I hm kk=>?_⟩;unfold zhM at hm
 split at hm
 ·rename_i c' ns' ls dk e0
  split at hm
  ·rename_i h;obtain⟨rfl,rfl⟩:=h;obtain⟨s0,e1,e2⟩:=SI.obHas e0;obtain⟨q,C2,dx,vs,A,hp,b,nd,ow⟩:=I.obj e1 e2;have h2:=b.nc;rw[c1]at h2;cases h2;obtain⟨⟨as,ρ1⟩,e3,hm2⟩:=zel hm;clear hm;refine⟨.ref q,hp,q,dx,vs,rfl,b.ob,zgQ (by rw[b.nm];exact hc),sa B G H σ ρ as ρ1 _ I e3 fun G1 H1 us I1 f1 r1=>?_⟩;dsimp only at hm2
   split at hm2
   ·rename_i c2' ns2 l2 d2 e4;refine cBel hm2 fun z e5 hm3=>?_
    clear hm2
    split at hm3
    ·rename_i d' c3' ns3 l3 d3 rest;refine cMel hm3 fun s1 e6 e7=>?_
     cases e7;obtain⟨s2,e8,e9⟩:=SI.obHas e4;rw[e6]at e8;cases e8;have hl:=hlen _ _ _ e3;rw[qaW,<-hl];exact callO I1 e6 e9 hp r1 e5 fun G2 H2 v I2 f2 rr=>kk G2 H2 v I2 (f1.trans f2) rr
    ·exact cNN hm3
   ·exact cNN hm2
  ·exact cNN hm
 ·exact cNN hm
theorem ss_mkO (i:Nat)(mk:MkO X.prog X.w X.K X.mg X.base k c (spG X.K n F))(hr:Room k' X.A)(ha:SA X (a::es) ma)(hlen:∀ρ as ρ',ma ρ=some (as,ρ')->as.length+1=n)(hN:X.N.Nodup)(hi:X.N[i]? =some x:=by rfl)(hx:Loc X.env.scope x:=by trivial)(hf:X.fn x=true\/X.env.scope.names.lookup x=some .local:=by trivial)(hk:k+1<=k':=by decide)(hg:Gl X c:=by rfl)(hdb:(c==("__debug__":Str))=false:=by decide)
  (hs:swapsWith (.Call (.Name c p) (a::es) [] pos) (some (.Name x py)) tpos.line X.env=pure false:=by rfl) (hst:starEach (a::es) X.env=(false,eval a X.env)::starEach es X.env:=by rfl) (hpl:(backTo pos (starEach es X.env)).any (·.1)=false:=by rfl):SS X (.Assign [.Name x py] (.Call (.Name c p) (a::es) [] pos) tpos) (sMkO i c ns F ma):=by
 obtain⟨C,f,fd,ps,c1,c2,c3,c4,c5⟩:=mk.ex;refine ha.el fun t pa sa=>?_
 refine⟨_,znT hN hi hx (pe_make c3 c4 (hr.mono hk) hg c2 c5 .nil zlh pa hdb hst hpl) hs hf,fun B G H σ ρ fl ρ' E I hm kk=>?_⟩;refine zaz hm fun as ρ1 e1 hm2=>?_
 clear hm;refine cBel hm2 fun z e2 hm3=>?_
 clear hm2
 split at hm3
 ·rename_i c3' ns3 l3 d3 rest;refine cIte hm3 fun h hm3=>?_
  obtain⟨rfl,rfl⟩:=h;obtain⟨rfl,rfl⟩:=cSp hm3;refine sa B G H σ ρ as ρ1 _ I e1 fun G1 H1 us I1 f1 r1=>?_
  intro q dx hq hdx nq;have hl:=hlen _ _ _ e1;rw[qaW,<-hl];have hH:∀b,(upd (upd H1 dx (.own q)) q (.ins C dx [])) b=none->H1 b=none:=fun b hb=>by
   by_cases y:b=q
   ·subst y;rw[zaq]at hb;cases hb
   ·rw[zam y]at hb
    by_cases y2:b=dx
    ·subst y2;rw[zaq]at hb;cases hb
    ·rwa[zam y2]at hb
  have hH2:∀b o,H1 b=some o->(upd (upd H1 dx (.own q)) q (.ins C dx [])) b=some o/\b∉[q,dx]:=fun b o hb=>by
   have n1:b≠q:=fun z=>by rw[z,hq]at hb;exact cNN hb
   have n2:b≠dx:=fun z=>by rw[z,hdx]at hb;exact cNN hb
   exact⟨by rw[zam n1,zam n2];exact hb,by simp[n1,n2]⟩
  refine coreO (A:=[q,dx]) (t:= .obj _ [] [] none) (fun a o ea=>(hH2 a o (I1.fz a o ea)).1) ⟨q,C,dx,[],[],rfl,c1,zaq,by rw[zam nq];exact zaq,rfl,rfl,rfl⟩ (by simp[Ne.symm nq]) (fun a m=>?_) r1 e2 fun G2 H2 v A3 f2 fz2 nw kp th r3 nd3 h3 rr=>⟨rr,?_⟩
  ·have:a=q\/a=dx:=by simpa using m
   rcases this with rfl|rfl
   ·exact I1.fz.free hq
   ·exact I1.fz.free hdx
  ·have nw':∀b o,G2 b=some o->G1 b≠none\/H1 b=none:=fun b o e=>(nw b o e).imp id (hH b)
   have kp':∀b o,H1 b=some o->H2 b=some o:=fun b o e=>kp b o (hH2 b o e).1 (hH2 b o e).2
   have I2:=I1.grow f2 fz2 nw' kp';have fr:∀a∈A3,H1 a=none:=fun a m=>by
    rcases(h3 a m).2 with y|y
    ·have:a=q\/a=dx:=by simpa using y
     rcases this with rfl|rfl
     ·exact hq
     ·exact hdx
    ·exact hH a y
   have hA:∀a∈A3,G2 a=none/\B.H a=none/\Nw X.K G2 H2 σ ρ1 a:=fun a m=>⟨(h3 a m).1,I1.there a (fr a m),I1.own_ne (fr a m) nw' kp'⟩
   have fg:=znW (G:=G2) (H:=H2) fun a m=>(hA a m).1
   obtain⟨q2,C2,dx2,vs2,A2,e4,rfl,b2⟩:=ob_rep r3;cases e4;have I3:=(I2.frzA hA).set (i:=i) (v:= .ref q) (d:=obD c3' ns3 l3 d3) (zp4 fg b2.nc (by rw[zhI (by simp)];exact b2.ob) b2.nm b2.rp fun a m=>zhI (by simp[m]));exact kk _ H2 _ I3 (f1.trans (f2.trans fg))
 ·exact cNN hm3
end
section
variable {P:Program} {w:World} {K:W.Frag} {mg:Str->Option Value} {base hp:Heap} {c x mt:Str} {st:Stmt} {f:Addr} {N:List Str} {k n:Nat} {m:MS}
def MAtC (K:W.Frag)(c mt q:Str)(st:Stmt):Prop:=∃C f fd,W.nsIn K mainGlobals c=some (some (.ref C))/\Cls K C/\Meth K C mt f/\Fun K mt q st f fd
theorem MAtC.mk {q:Str}{od an:Option Addr}{kV doc pm cdv ct:Value}(n:W.nsIn K mainGlobals c=some (some (.ref C)))(cl:Cls K C)(a:W.findIn K (.ref C) mt=some (some (.ref f)))(i:W.isFn K (.ref f)=true)(l:K.lookup f=some ⟨oc,od,.func (W.fnOf mt q (zbh st) (zaR st) (zar st) .none kV doc pm an cdv ct),osl⟩)
  (cc:W.codeIn K cdv q=true) (k:W.keepIn K (.ref f)=true):MAtC K c mt q st:=⟨C,f,_,n,cl,⟨a,i,k⟩,zpV l cc k⟩
theorem mvG {q:Str}(h:MAtC K c mt q st)(b:Bd P w K mg base q st N k m)(d:DefOkM mt q st N n:=by exact⟨⟨rfl,rfl,rfl,by decide+kernel,rfl,by decide+kernel,by decide+kernel⟩,rfl,by decide,fun _ _ _ _ _ _=>by repeat (first | exact us_0 rfl | refine us_s fun _ => ?_)⟩):MV P w K mg base (k+1) c mt (spG K n (fG N.length m)):=
 let⟨C,f,fd,a1,a2,a3,T⟩:=h
 ⟨⟨C,f,fd,_,a1,a2,a3,fnG_ok T d.sc d.len d.le fun cdv A outer s H E hr=>b _ cdv A outer s H E hr d.sc.nd,T.binds d.bs⟩⟩
theorem mvP {q:Str}(h:MAtC K c mt q st)(b:Bd P w K mg base q st N k m)(d:DefOkM mt q st N n:=by exact⟨⟨rfl,rfl,rfl,by decide+kernel,rfl,by decide+kernel,by decide+kernel⟩,rfl,by decide,fun _ _ _ _ _ _=>by repeat (first | exact us_0 rfl | refine us_s fun _ => ?_)⟩):MV P w K mg base (k+1) c mt (spP K n (fP N.length m)):=
 let⟨C,f,fd,a1,a2,a3,T⟩:=h
 ⟨⟨C,f,fd,_,a1,a2,a3,zon T d.sc d.len d.le fun cdv A outer s H E hr=>b _ cdv A outer s H E hr d.sc.nd,T.binds d.bs⟩⟩
structure IAtC (K:W.Frag) (mg:Str->Option Value) (c q:Str) (st:Stmt):Prop where
 ex:∃C f fd,W.nsIn K mainGlobals c=some (some (.ref C))/\mg c=some (.ref C)/\Mk K C f/\Fun K "__init__" q st f fd
theorem mkG {q:Str}(h:IAtC K mg c q st)(b:Bd P w K mg base q st N k m)(d:DefOkM "__init__" q st N n:=by exact⟨⟨rfl,rfl,rfl,by decide+kernel,rfl,by decide+kernel,by decide+kernel⟩,rfl,by decide,fun _ _ _ _ _ _=>by repeat (first | exact us_0 rfl | refine us_s fun _ => ?_)⟩):MkO P w K mg base (k+1) c (spG K n (fG N.length m)):=
 let⟨C,f,fd,a1,a2,a3,T⟩:=h.ex
 ⟨⟨C,f,fd,_,a1,a2,a3,fnG_ok T d.sc d.len d.le fun cdv A outer s H E hr=>b _ cdv A outer s H E hr d.sc.nd,T.binds d.bs⟩⟩
end
def zc7 (i j:Int):Bool:=decide (i.natAbs.log2<60000000)&&decide (j.natAbs.log2<60000000)
theorem zp3 {i j:Int}(h:zc7 i j=true):IntMulOk i j:=by
 unfold zc7 at h;rw[qbm,qbD,qbD]at h;have bits:∀k:Int,k.natAbs.log2<60000000->Builtin.Int.intBits k<=60000000:=fun k h=>by
  unfold Builtin.Int.intBits
  split
  ·exact qaV _
  ·lia
 have b1:=bits i h.1;have b2:=bits j h.2;unfold IntMulOk;intro z;simp only[qbm]at z;have z2:=z.2;unfold Builtin.Int.intTooBig at z2
 revert z2
 generalize Builtin.Int.intBits i=p at*
 generalize Builtin.Int.intBits j=q at*
 intro z2;have z3:=qbE z2;have hb:=bitsLine_eq;lia
def zjO:D->D->Option D:=dI2 zc7 fun i j=> .int (i*j)
def zkB (j:Int):Bool:=decide (j≠0)&&decide (j.natAbs.log2<9000)
theorem op_fdivF:OpR X (binaryOp .FloorDiv) (rI (fun _ j=>j≠0/\j.natAbs.log2<9000) fun i j=> .int (i.fdiv j)):=opI fun i j _ _ _ _ _ hc q=>
 PyProof.Rows.floordiv_int hc.1 q (.inl (PyProof.noPylong_of_log2 hc.2))
def zls:D->D->Option D:=dI2 (fun _ j=>zkB j) fun i j=> .int (i.fdiv j)
def dModF:D->D->Option D:=dI2 (fun _ j=>decide (j≠0)) fun i j=> .int (i.fmod j)
section
variable {X:Cx} {a b:Expr} {ma mb:ME} {pos:Pos}
theorem zgf (ha:SE X a ma)(hb:SE X b mb):SE X (.BinOp a .Mult b pos) (m2 zjO ma mb):=zhU op_mulG (zhO fun i j h=>zp3 h) ha hb
theorem zie (ha:SE X a ma)(hb:SE X b mb):SE X (.BinOp a .FloorDiv b pos) (m2 zls ma mb):=zhU op_fdivF (zhO fun i j h=>by simpa[zkB]using h) ha hb
theorem se_modF (ha:SE X a ma)(hb:SE X b mb):SE X (.BinOp a .Mod b pos) (m2 dModF ma mb):=zhU op_modN (zhO fun i j h=>by simpa using h) ha hb
end
section
variable {X:Cx} {elt tg iter:Expr} {ifs:List Expr} {scope:Scope} {lpos pos pos':Pos} {mi:MA} {g:D->R->Option R} {mt:MT} {me:ME}
theorem zkL (j i:Nat)(cap:List Nat)(t:Nat)(N:List Str)(hc:X.calm=true)(hi:SIt X tg iter mi)(hg:∀C s H fp,SG (cxC X N scope C s H fp) tg g)(ht:∀C s H fp,STs (cxC X N scope C s H fp) ifs mt)(he:∀C s H fp,SE (cxC X N scope C s H fp) elt me)(hN:X.N.Nodup)
    (hxi:X.N[i]? =some x:=by rfl) (hx:Loc X.env.scope x:=by trivial) (hf:X.fn x=true\/X.env.scope.names.lookup x=some .local:=by trivial)
    (hsw:swapsWith (.ListComp elt [⟨tg,iter,ifs,0⟩] scope lpos) (some (.Name x pos')) pos.line X.env=pure true:=by rfl)
    (hk:scope.kind= .function:=by rfl) (hb:blkB X.env scope=true:=by kernel_rfl) (hcap:capB scope.names N X.N cap t=true:=by kernel_rfl)
    (hs:∀x,foldedSetIterable iter X.env x=pure x:=by exact fun _=>rfl):SS X (.Assign [.Name x pos'] (.ListComp elt [⟨tg,iter,ifs,0⟩] scope lpos) pos) (sSet i (eFz (oLkO j (oLC cap t mi g mt me)))):=by
  refine hi.el fun wi pi si=>?_
  refine⟨_,zkl hN hxi hx hf hsw hc (zkt hk hb) (zli hcap) pi (fun C s H fp=>(hg C s H fp).choose_spec.1) (fun C s H fp=>(ht C s H fp).choose_spec.1) (fun C s H fp=>(he C s H fp).choose_spec.1) hs,fun B G H σ ρ fl ρ' E I hm k=>?_⟩;refine zeR hm fun d ρ1 e1 e3=>?_
  refine zeR e1 fun ds ρ2 e4 e5=>?_
  obtain⟨rfl,rfl⟩:=Prod.mk.inj e5;obtain⟨rfl,rfl⟩:=Prod.mk.inj e3;refine zio j (zjX si (.mk' hg ht he)) B G H σ ρ ds ρ2 _ I e4 fun G1 H1 l xs I1 f1 g1 h1 r1 b1 n1=>?_
  obtain⟨I2,f2,r2⟩:=zhN I1 g1 h1 r1 b1 n1;exact k _ H1 _ (I2.set r2) (f1.trans f2)
end
def slC:Str:="Slant"
def slN:List Str:=["block","weights","ways","backs","slants"]
theorem OC.take (h:OC K c ns)(k:Nat):OC K c (ns.take k):=by
 obtain⟨C,c1,c2,c3⟩:=h;exact⟨C,c1,c2,fun f m=>c3 f (qcI m)⟩
def bigF:Nat:=2^10000
end M
namespace M
open L2 PySem
open PyProof.Rows hiding St
def rAnyI (K:W.Frag):List V->Hp->VK->Prop:=fun xs H Q=>∃(p:Addr) (ns:List Int),xs=[.ref p]/\(SqL K H p (ns.map V.int)\/SqT K H p (ns.map V.int))/\Q (.bl (ns.any fun n=>n !=0)) H
theorem zoJ {X:Cx}(hc:X.calm=true):zeS X (.builtin "any") (rAnyI X.K):=by
 intro pins s σ H xs us Q I r h;obtain⟨p,ns,rfl,hq,q⟩:=h;obtain⟨u,rfl,ru⟩:=ziI r;cases ru;refine call_any_walk (zgF (A:=X.A.in1) (I.ok.hd hc) I hq fun its s₂ St rv W st hfp fin=>?_);have hl:=rv.length;rw[qaS]at hl;refine⟨_,_,_,_,_,_,fun i=>((ns.map fun n=>n !=0)[i]?).getD false,rfl,W,st,fun i v s' Q' E' hP hQ=>?_,fun h' tk hk=>⟨.bl (ns.any fun n=>n !=0),H,fin h' tk hk,?_,q⟩⟩
 ·have hi:i<its.length:=(qat.mp hP).1;have e2:(ns.map V.int)[i]? =some (.int ns[i]):=by rw[qa5,qbG (by lia)];rfl
  obtain⟨u,h1,h2⟩:=rv.get e2;rw[hP]at h1;cases h1;obtain⟨t,rfl⟩:=(show ∃t,v=Value.int ns[i] t from h2);have e3:(ns.map fun n=>n !=0)[i]? =some (ns[i] !=0):=by rw[qa5,qbG (by lia)];rfl
  simp only[e3,qbQ]at hQ;exact PySem.P.truthy_int hQ
 ·have h2:its.length=(ns.map fun n=>n !=0).length:=by rw[qaS];lia
  rw[h2,LSm.range_any,List.any_map];rfl
def zoS:List D->Option D
 |[d]=>(zbe [d]).bind fun ds=>(za8 ds).map fun ns=> .bl (ns.any fun n=>n !=0)
 |_=>none
theorem vc_anyI {X:Cx}:VC X (rAnyI X.K) zoS:=by
 intro B G H σ ρ xs ds d Q I r hf k
 match ds,hf with
 |[a],hf=>
  refine cBel hf fun es e1 hf=>?_
  refine cMel hf fun ns e2 e3=>?_
  subst e3;obtain⟨x,rfl,ra⟩:=r.one;obtain⟨p,ys,rfl,hq,ry⟩:=zg4 I ra e1;rw[zeb e2]at ry;rw[RepL.ints_eq ry]at hq;exact⟨p,ns,rfl,hq,k G H _ I (Fz.refl G) rfl⟩
 |[],hf=>exact cNN hf
 |_::_::_,hf=>exact cNN hf
theorem zpi {X:Cx}{e:Expr}{ma:MA}{p pos:Pos}(hc:X.calm=true)(ml:X.mg "any"=none)(ha:SA X [e] ma)(hg:Gl X "any":=by rfl)(he:starEach [e] X.env=(false,eval e X.env)::starEach [] X.env:=by rfl):SE X (.Call (.Name "any" p) [e] [] pos) (mC zoS ma):=
 zcO (zoJ hc) vc_anyI (by decide+kernel) ml ha hg (by decide) (by decide) he rfl
end M
namespace M
open L2 PySem
variable {c d x:D} {b:MS} {z:Bool} {Q:Fl×R->Prop} {a i n j N k:Nat} {f:D->R->Option (Option D×R)} {g:D->R->Option R} {mt:MT} {me m:ME} {ρ:R} {r:Sl} {h:List D->R->Option R} {ds xs ys:List D} {mi ma:MA} {t:Option Sl} {F:List D->List D->Option (Sl×List D)} {cap:List Nat} {I:R->Prop} {ns:List Int}
abbrev Rt {α:Type}(_:α->Prop):Type:=Option α
def OkQ {α:Type}(Q:α->Prop)(o:Rt Q):Prop:=∃a,o=some a/\Q a
def Ok {α:Type}(o:Option α)(Q:α->Prop):Prop:=OkQ Q o
abbrev RtS {α:Sort u}(_:α):Type:=Option Sl
section
variable {α β:Type} {o:Option α} {Q Q':α->Prop}
theorem ok_some {a:α}:OkQ Q (some a)=Q a:=propext ⟨fun⟨_,e,q⟩=>by cases e;exact q,fun q=>⟨a,rfl,q⟩⟩
theorem ok_none:OkQ Q (none:Option α)=False:=propext ⟨fun⟨_,e,_⟩=>(by cases e),False.elim⟩
theorem ok_bind {f:α->Option β}{Q:β->Prop}:OkQ Q (o.bind f)=OkQ (fun a=>OkQ Q (f a)) o:=by
 cases o with
 |none=>exact propext ⟨fun⟨_,e,_⟩=>(by cases e),fun⟨_,e,_⟩=>(by cases e)⟩
 |some a=>exact propext ⟨fun h=>⟨a,rfl,h⟩,fun⟨_,e,h⟩=>by cases e;exact h⟩
theorem ok_map {f:α->β}{Q:β->Prop}:OkQ Q (o.map f)=OkQ (fun a=>Q (f a)) o:=by
 cases o with
 |none=>exact propext ⟨fun⟨_,e,_⟩=>(by cases e),fun⟨_,e,_⟩=>(by cases e)⟩
 |some a=>exact propext ⟨fun h=>⟨a,rfl,ok_some.mp h⟩,fun⟨_,e,h⟩=>by cases e;exact ok_some.mpr h⟩
theorem zfq {c:Prop}[Decidable c]:OkQ Q (if c then o else none)=(c/\OkQ Q o):=by
 by_cases h:c
 ·rw[if_pos h];exact propext ⟨fun k=>⟨h,k⟩,fun k=>k.2⟩
 ·rw[if_neg h];exact propext ⟨fun k=>(ok_none.mp k).elim,fun k=>absurd k.1 h⟩
theorem ok_Q:Ok o Q=OkQ Q o:=rfl
def gd {α:Type}(b:Bool)(o:Option α):Option α:=if b then o else none
theorem ok_gd {b:Bool}(h:b=true):OkQ Q (gd b o)=OkQ Q o:=by subst h;rfl
theorem Ok.mono (h:Ok o Q)(k:∀a,Q a->Q' a):Ok o Q':=by
 obtain⟨a,e,q⟩:=h;exact⟨a,e,k a q⟩
theorem zaB {Q':α->Prop}(h:∀a,Q a=Q' a):OkQ Q o=OkQ Q' o:=by rw[funext h]
end
section
variable {c:MT} {a b:MS} {ρ:R}
theorem zkV {α:Type}{o u:Option α}{Q:α->Prop}:OkQ Q (if z then o else u)=((z=true->OkQ Q o)/\(z=false->OkQ Q u)):=by cases z<;>simp
theorem ok_sIf:OkQ Q (sIf c a b ρ)=(OkQ (fun p=>(p.1=true->OkQ Q (a p.2))/\(p.1=false->OkQ Q (b p.2))) (c ρ)):=by
 unfold sIf;rw[ok_bind];exact zaB fun p=>zkV
theorem ok_eIf {a b:ME}{Q:D×R->Prop}:OkQ Q (eIf c a b ρ)=(OkQ (fun p=>(p.1=true->OkQ Q (a p.2))/\(p.1=false->OkQ Q (b p.2))) (c ρ)):=by
 unfold eIf;rw[ok_bind];exact zaB fun p=>zkV
theorem ok_tAnd {a b:MT}{Q:Bool×R->Prop}:OkQ Q (zn1 a b ρ)=(OkQ (fun p=>(p.1=true->OkQ Q (b p.2))/\(p.1=false->Q (false,p.2))) (a ρ)):=by
 unfold zn1;rw[ok_bind];exact zaB fun p=>by rw[zkV,ok_some]
theorem ok_tOr {a b:MT}{Q:Bool×R->Prop}:OkQ Q (tOrM a b ρ)=(OkQ (fun p=>(p.1=true->Q (true,p.2))/\(p.1=false->OkQ Q (b p.2))) (a ρ)):=by
 unfold tOrM;rw[ok_bind];exact zaB fun p=>by rw[zkV,ok_some]
theorem ok_eAnd {a b:ME}{Q:D×R->Prop}:OkQ Q (eAnd a b ρ)=(OkQ (fun p=>∃z,p.1= .bl z/\(z=true->OkQ Q (b p.2))/\(z=false->Q (.bl false,p.2))) (a ρ)):=by
 unfold eAnd;rw[ok_bind];have:∀p:D×R,Ok (match p.1 with
  | .bl true=>b p.2
  | .bl false=>some (.bl false,p.2)
  |_=>none) Q↔∃z,p.1= .bl z/\(z=true->Ok (b p.2) Q)/\(z=false->Q (.bl false,p.2)):=by
  rintro⟨d,ρ⟩;cases d with
  |bl z=>cases z<;>simp[ok_Q,ok_some]
  |_=>simp[ok_Q,ok_none]
 exact zaB fun p=>propext (this p)
theorem ok_eOr {a b:ME}{Q:D×R->Prop}:OkQ Q (eOr a b ρ)=(OkQ (fun p=>∃z,p.1= .bl z/\(z=true->Q (.bl true,p.2))/\(z=false->OkQ Q (b p.2))) (a ρ)):=by
 unfold eOr;rw[ok_bind];have:∀p:D×R,Ok (match p.1 with
  | .bl true=>some (.bl true,p.2)
  | .bl false=>b p.2
  |_=>none) Q↔∃z,p.1= .bl z/\(z=true->Q (.bl true,p.2))/\(z=false->Ok (b p.2) Q):=by
  rintro⟨d,ρ⟩;cases d with
  |bl z=>cases z<;>simp[ok_Q,ok_some]
  |_=>simp[ok_Q,ok_none]
 exact zaB fun p=>propext (this p)
theorem ok_chain {f g:D->D->Option D}{a b c:ME}{Q:D×R->Prop}:OkQ Q (eChain f g a b c ρ)=(OkQ (fun p=>OkQ (fun q=>OkQ (fun t=>∃z,t= .bl z/\(z=true->OkQ (fun r=>OkQ (fun d=>Q (d,r.2)) (g q.1 r.1)) (c q.2))/\(z=false->Q (.bl false,q.2))) (f p.1 q.1)) (b p.2)) (a ρ)):=by
 unfold eChain;rw[ok_bind];have:∀(p q:D×R) (t:D),Ok (match t with
  | .bl true=>(c q.2).bind fun r=>(g q.1 r.1).map fun d=>(d,r.2)
  | .bl false=>some (.bl false,q.2)
  |_=>none) Q↔∃z,t= .bl z/\(z=true->Ok (c q.2) fun r=>Ok (g q.1 r.1) fun d=>Q (d,r.2))/\(z=false->Q (.bl false,q.2)):=by
  intro p q t;cases t with
  |bl z=>
   cases z
   ·simp[ok_Q,ok_some]
   ·simp only[ok_Q,ok_bind,D.bl.injEq,qcJ,forall_const,reduceCtorEq,qcK,and_true];exact iff_of_eq (zaB fun r=>ok_map)
  |_=>simp[ok_Q,ok_none]
 exact zaB fun p=>by rw[ok_bind];exact zaB fun q=>by rw[ok_bind];exact zaB fun t=>propext (this p q t)
theorem ok_turnM {Q:Option D×R->Prop}:OkQ Q (turnM g mt me d ρ)=(OkQ (fun ρ1=>OkQ (fun p=>(p.1=true->OkQ (fun q=>zdb q.2=true/\Q (some q.1,q.2)) (me p.2))/\(p.1=false->zdb p.2=true/\Q (none,p.2))) (mt ρ1)) (g d ρ)):=by
 unfold turnM;rw[ok_bind];exact zaB fun ρ1=>by rw[ok_bind];exact zaB fun p=>by rw[zkV,ok_bind,zfq,ok_some];congr 1;exact propext (imp_congr Iff.rfl (iff_of_eq (zaB fun q=>by rw[zfq,ok_some])))
theorem ok_turnP {bk:Nat}{Q:Option D×R->Prop}:OkQ Q (turnP bk g mt me d ρ)=(OkQ (fun ρ1=>OkQ (fun p=>(p.1=true->OkQ (fun q=>zlO bk q.2=true/\Q (some q.1,q.2)) (me p.2))/\(p.1=false->zlO bk p.2=true/\Q (none,p.2))) (mt ρ1)) (g d ρ)):=by
 unfold turnP;rw[ok_bind];exact zaB fun ρ1=>by rw[ok_bind];exact zaB fun p=>by rw[zkV,ok_bind,zfq,ok_some];congr 1;exact propext (imp_congr Iff.rfl (iff_of_eq (zaB fun q=>by rw[zfq,ok_some])))
theorem znr (n:Nat):Int.natAbs (no_index (OfNat.ofNat n))=n:=rfl
end
section
theorem ok_sNext:OkQ Q (zcw ρ)=(Q (.next,ρ)):=ok_some
def SeqK (b:MS)(Q:Fl×R->Prop)(p:Fl×R):Prop:=OkQ Q (match p.1 with
 | .next=>b p.2
 |f=>some (f,p.2))
theorem zn4:SeqK b Q (.next,ρ)=(OkQ Q (b ρ)):=rfl
theorem seqK_ret:SeqK b Q (.ret r,ρ)=(Q (.ret r,ρ)):=ok_some
theorem seqK_brk:SeqK b Q (.brk,ρ)=(Q (.brk,ρ)):=ok_some
theorem zoe:SeqK b Q (.cont,ρ)=(Q (.cont,ρ)):=ok_some
theorem ok_sSeq {a b:MS}:OkQ Q (sSeq a b ρ)=(OkQ (SeqK b Q) (a ρ)):=ok_bind
theorem ok_sExpr:OkQ Q (zp6 m ρ)=(OkQ (fun p=>Q (.next,p.2)) (m ρ)):=ok_map
theorem ok_sRet:OkQ Q (sRet m ρ)=(OkQ (fun p=>Q (.ret (.val p.1),p.2)) (m ρ)):=ok_map
theorem ok_sRetO {m:MO}:OkQ Q (zhd m ρ)=(OkQ (fun p=>Q (.ret (.own p.1),p.2)) (m ρ)):=ok_map
theorem ok_sRetV:OkQ Q (zjW i ρ)=OkQ Q (match ρ[i]? with
 |some (.val d)=>some (.ret (.val d),ρ)
 |some (.own ds)=>some (.ret (.own ds),ρ.set i .emp)
 |_=>none):=rfl
theorem ok_gN {Q:R->Prop}:OkQ Q (gN i d ρ)=(Q (ρ.set i (.val d))):=ok_some
theorem ok_gsNil {ds:List D}{ρ:R}{Q:R->Prop}:OkQ Q (zgk ds ρ)=OkQ Q (match ds with
 |[]=>some ρ
 |_=>none):=rfl
theorem zpf {Q:R->Prop}:OkQ Q (zaQ g h ds ρ)=OkQ Q (match ds with
 |d::ds=>(g d ρ).bind fun ρ1=>h ds ρ1
 |[]=>none):=rfl
theorem ok_gT {g:List D->R->Option R}{Q:R->Prop}:OkQ Q (gT n g d ρ)=OkQ Q (match d with
 | .tup ds=>if ds.length=n then g ds ρ else none
 |_=>none):=rfl
theorem ok_sAsg:OkQ Q (sAsg m g ρ)=(OkQ (fun p=>OkQ (fun ρ'=>Q (.next,ρ')) (g p.1 p.2)) (m ρ)):=ok_bind.trans (zaB fun _=>ok_map)
theorem ok_sSet:OkQ Q (sSet i m ρ)=(OkQ (fun p=>Q (.next,p.2.set i (.val p.1))) (m ρ)):=ok_map
theorem ok_sSetO {m:MO}:OkQ Q (zi2 i m ρ)=(OkQ (fun p=>Q (.next,p.2.set i (.own p.1))) (m ρ)):=ok_map
theorem ok_sApp:OkQ Q (sApp i m ρ)=OkQ Q (gd ((ρ[i]?.bind Sl.items).isSome) ((m ρ).bind fun p=>p.2[i]?.bind fun s=>s.items.bind fun ds=>if ds.length<16777216 then some (.next,p.2.set i (s.put (ds++[p.1])))else none)):=rfl
theorem ok_sPut {mi me:ME}:OkQ Q (sPut j mi me ρ)=OkQ Q ((me ρ).bind fun p=>gd (hasV p.2 j) ((mi p.2).bind fun q=>match q.1 with
 | .int k=>q.2[j]?.bind fun s=>s.items.bind fun ds=>(ixN ds.length k).bind fun n=>some (.next,q.2.set j (s.put (ds.set n p.1)))
 |_=>none)):=rfl
theorem ok_eC {Q:D×R->Prop}:OkQ Q (eC d ρ)=(Q (d,ρ)):=ok_some
def eVQ (Q:D×R->Prop)(s:RtS Q)(ρ:R)(i:Nat):Prop:=match s with
 |some (.val d)=>Q (d,ρ)
 |some (.own ds)=>Q (.lst ds,ρ.set i (.val (.lst ds)))
 |_=>False
theorem ziJ {Q:D×R->Prop}:eVQ Q (some (.val d)) ρ i=Q (d,ρ):=rfl
theorem eVQ_own {Q:D×R->Prop}:eVQ Q (some (.own ds)) ρ i=Q (.lst ds,ρ.set i (.val (.lst ds))):=rfl
theorem ziB {Q:D×R->Prop}:OkQ Q (eVar i ρ)=eVQ Q ρ[i]? ρ i:=by
 unfold eVar eVQ;cases ρ[i]? with
 |none=>exact ok_none
 |some s=>cases s<;>first|exact ok_some|exact ok_none
def Vb (Q:D->D->Prop)(P:Prop)(s:RtS Q)(t:Option Sl):Prop:=match s,t with
 |some (.val x),some (.val y)=>Q x y
 |_,_=>P
theorem Vb_val {Q:D->D->Prop}{P:Prop}{x y:D}:Vb Q P (some (.val x)) (some (.val y))=Q x y:=rfl
theorem Vb_own {Q:D->D->Prop}{P:Prop}:Vb Q P (some (.own xs)) t=P:=rfl
theorem Vb_own2 {Q:D->D->Prop}{P:Prop}:Vb Q P (some (.val x)) (some (.own ys))=P:=rfl
def Va (Q:D->Prop)(P:Prop)(s:RtS Q):Prop:=match s with
 |some (.val x)=>Q x
 |_=>P
theorem Va_val {Q:D->Prop}{P:Prop}:Va Q P (some (.val x))=Q x:=rfl
theorem Va_own {Q:D->Prop}{P:Prop}:Va Q P (some (.own xs))=P:=rfl
theorem ok_aNil {Q:List D×R->Prop}:OkQ Q (aNil ρ)=(Q ([],ρ)):=ok_some
theorem ok_aCons {r:MA}{Q:List D×R->Prop}:OkQ Q (zae m r ρ)=(OkQ (fun p=>OkQ (fun q=>Q (p.1::q.1,q.2)) (r p.2)) (m ρ)):=ok_bind.trans (zaB fun _=>ok_map)
theorem ok_m2 {f:D->D->Option D}{ma mb:ME}{Q:D×R->Prop}:OkQ Q (m2 f ma mb ρ)=(OkQ (fun p=>OkQ (fun q=>OkQ (fun d=>Q (d,q.2)) (f p.1 q.1)) (mb p.2)) (ma ρ)):=ok_bind.trans (zaB fun _=>ok_bind.trans (zaB fun _=>ok_map))
theorem ok_m2VV {f:D->D->Option D}{a b:Nat}{Q:D×R->Prop}:OkQ Q (m2 f (eVar a) (eVar b) ρ)=Vb (fun x y=>OkQ (fun d=>Q (d,ρ)) (f x y)) (OkQ (fun p=>OkQ (fun q=>OkQ (fun d=>Q (d,q.2)) (f p.1 q.1)) (eVar b p.2)) (eVar a ρ)) ρ[a]? ρ[b]?:=by
 rw[ok_m2,Vb.eq_def]
 split
 ·rename_i x y h1 h2;rw[ziB,h1,ziJ,ziB,h2,ziJ]
 ·rfl
theorem ok_m2VC {f:D->D->Option D}{Q:D×R->Prop}:OkQ Q (m2 f (eVar a) (eC c) ρ)=Va (fun x=>OkQ (fun d=>Q (d,ρ)) (f x c)) (OkQ (fun p=>OkQ (fun d=>Q (d,p.2)) (f p.1 c)) (eVar a ρ)) ρ[a]?:=by
 rw[ok_m2,Va.eq_def,show(fun p:D×R=>OkQ (fun q=>OkQ (fun d=>Q (d,q.2)) (f p.1 q.1)) (eC c p.2))=fun p=>OkQ (fun d=>Q (d,p.2)) (f p.1 c)from funext fun p=>ok_eC]
 split
 ·rename_i x h1;rw[ziB,h1,ziJ]
 ·rfl
theorem ok_m2CV {f:D->D->Option D}{Q:D×R->Prop}:OkQ Q (m2 f (eC c) (eVar a) ρ)=Va (fun x=>OkQ (fun d=>Q (d,ρ)) (f c x)) (OkQ (fun p=>OkQ (fun d=>Q (d,p.2)) (f c p.1)) (eVar a ρ)) ρ[a]?:=by
 rw[ok_m2,Va.eq_def,ok_eC]
 split
 ·rename_i x h1;rw[ziB,h1,ziJ]
 ·rfl
theorem ok_m1 {f:D->Option D}{ma:ME}{Q:D×R->Prop}:OkQ Q (m1 f ma ρ)=(OkQ (fun p=>OkQ (fun d=>Q (d,p.2)) (f p.1)) (ma ρ)):=ok_bind.trans (zaB fun _=>ok_map)
theorem ok_mC {f:List D->Option D}{Q:D×R->Prop}:OkQ Q (mC f ma ρ)=(OkQ (fun p=>OkQ (fun d=>Q (d,p.2)) (f p.1)) (ma ρ)):=ok_bind.trans (zaB fun _=>ok_map)
theorem ok_eIxV {mi:ME}{Q:D×R->Prop}:OkQ Q (eIxV j mi ρ)=OkQ Q (gd (hasV ρ j) ((mi ρ).bind fun p=>(p.2[j]?.bind Sl.read).bind fun d=>(dIx d p.1).map fun e=>(e,p.2))):=Eq.trans rfl rfl
def ixR (s:Option Sl)(c:D):Option D:=match s with
 |some (.val d)=>dIx d c
 |some (.own ds)=>dIx (.lst ds) c
 |some (.par ds)=>dIx (.lst ds) c
 |_=>none
theorem ixR_val:ixR (some (.val d)) c=dIx d c:=rfl
theorem ixR_own:ixR (some (.own ds)) c=dIx (.lst ds) c:=rfl
theorem ixR_par:ixR (some (.par ds)) c=dIx (.lst ds) c:=rfl
theorem zmz:(if hasV ρ j then(ρ[j]?.bind Sl.read).bind fun d=>(dIx d c).map fun e=>(e,ρ)else none)=(ixR ρ[j]? c).map fun e=>(e,ρ):=by
 unfold hasV;cases ρ[j]? with
 |none=>rfl
 |some s=>cases s<;>rfl
theorem ok_eIxC {Q:D×R->Prop}:OkQ Q (eIxV j (eC c) ρ)=OkQ (fun e=>Q (e,ρ)) (ixR ρ[j]? c):=by
 rw[show eIxV j (eC c) ρ=(ixR ρ[j]? c).map fun e=>(e,ρ)from zmz,ok_map]
theorem ok_eIxE {Q:D×R->Prop}:OkQ Q (eIxV j (eVar i) ρ)=Va (fun c=>OkQ (fun e=>Q (e,ρ)) (ixR ρ[j]? c)) (OkQ Q (gd (hasV ρ j) ((eVar i ρ).bind fun p=>(p.2[j]?.bind Sl.read).bind fun d=>(dIx d p.1).map fun e=>(e,p.2)))) ρ[i]?:=by
 rw[Va.eq_def]
 split
 ·rename_i x h1;rw[show eIxV j (eVar i) ρ=(ixR ρ[j]? x).map fun e=>(e,ρ) by
   rw[<-zmz];unfold eIxV;rw[show eVar i ρ=some (x,ρ) by unfold eVar;rw[h1]];rfl,ok_map]
 ·rfl
theorem ok_eLenV {Q:D×R->Prop}:OkQ Q (zfK j ρ)=OkQ Q ((ρ[j]?.bind Sl.read).bind fun d=>(dLen [d]).map fun e=>(e,ρ)):=rfl
theorem ok_oC {f:List D->Option (List D)}{Q:List D×R->Prop}:OkQ Q (oC f ma ρ)=(OkQ (fun p=>OkQ (fun d=>Q (d,p.2)) (f p.1)) (ma ρ)):=ok_bind.trans (zaB fun _=>ok_map)
theorem ok_eTup {Q:D×R->Prop}:OkQ Q (eTup ma ρ)=(OkQ (fun p=>p.1.length<=16777216/\Q (.tup p.1,p.2)) (ma ρ)):=ok_bind.trans (zaB fun _=>by rw[zfq,ok_some])
theorem ok_oLst {Q:List D×R->Prop}:OkQ Q (oLst ma ρ)=(OkQ (fun p=>p.1.length<=16777216/\Q (p.1,p.2)) (ma ρ)):=ok_bind.trans (zaB fun _=>by rw[zfq,ok_some])
theorem ok_tTru {ma:ME}{Q:Bool×R->Prop}:OkQ Q (tTru ma ρ)=(OkQ (fun p=>OkQ (fun b=>Q (b,p.2)) (dTru p.1)) (ma ρ)):=ok_bind.trans (zaB fun _=>ok_map)
theorem ok_tNotM {a:MT}{Q:Bool×R->Prop}:OkQ Q (zjh a ρ)=(OkQ (fun p=>Q (!p.1,p.2)) (a ρ)):=ok_map
theorem ok_eCall {F:List D->Option Sl}{Q:D×R->Prop}:OkQ Q (zbb F ma ρ)=OkQ Q ((ma ρ).bind fun p=>(F p.1).bind fun r=>match r with
 | .val d=>some (d,p.2)
 | .own ds=>some (.lst ds,p.2)
 |_=>none):=rfl
theorem ok_oCall {F:List D->Option Sl}{Q:List D×R->Prop}:OkQ Q (zlM F ma ρ)=OkQ Q ((ma ρ).bind fun p=>(F p.1).bind fun r=>match r with
 | .own ds=>some (ds,p.2)
 |_=>none):=rfl
theorem zod {Q:D×R->Prop}:OkQ Q (zaW F j ma ρ)=OkQ Q (gd ((ρ[j]?.bind Sl.items).isSome) ((ma ρ).bind fun p=>p.2[j]?.bind fun s=>s.items.bind fun cs=>(F cs p.1).bind fun r=>match r.1 with
 | .val d=>some (d,p.2.set j (s.put r.2))
 | .own ds=>some (.lst ds,p.2.set j (s.put r.2))
 |_=>none)):=rfl
theorem zpb {Q:List D×R->Prop}:OkQ Q (zmi F j ma ρ)=OkQ Q (gd ((ρ[j]?.bind Sl.items).isSome) ((ma ρ).bind fun p=>p.2[j]?.bind fun s=>s.items.bind fun cs=>(F cs p.1).bind fun r=>match r.1 with
 | .own ds=>some (ds,p.2.set j (s.put r.2))
 |_=>none)):=rfl
theorem ok_iR2L {Q:List D×R->Prop}:OkQ Q (iR2L ma ρ)=OkQ Q ((ma ρ).bind fun p=>match p.1 with
 |[.int i,.int j]=>some (zb2 i (j-i).toNat,p.2)
 |_=>none):=rfl
theorem ok_eFz {m:MO}{Q:D×R->Prop}:OkQ Q (eFz m ρ)=(OkQ (fun p=>Q (.lst p.1,p.2)) (m ρ)):=ok_map
theorem ok_eCut {ma:ME}{ml mh:MP}{Q:D×R->Prop}:OkQ Q (eCut ma ml mh ρ)=OkQ Q ((ma ρ).bind fun p=>(ml p.2).bind fun q=>(mh q.2).bind fun r=>(dCut p.1 q.1 r.1).map fun d=>(d,r.2)):=rfl
theorem ok_pNo {Q:Option Int×R->Prop}:OkQ Q (pNo ρ)=(Q (none,ρ)):=ok_some
theorem ok_pSome {Q:Option Int×R->Prop}:OkQ Q (zhx m ρ)=OkQ Q ((m ρ).bind fun p=>match p.1 with
 | .int i=>some (some i,p.2)
 |_=>none):=rfl
theorem ok_iSeq {Q:List D×R->Prop}:OkQ Q (iSeq m ρ)=(OkQ (fun p=>OkQ (fun ds=>Q (ds,p.2)) (zbe [p.1])) (m ρ)):=ok_bind.trans (zaB fun _=>ok_map)
theorem ok_iR1 {Q:List D×R->Prop}:OkQ Q (iR1 ma ρ)=OkQ Q ((ma ρ).bind fun p=>match p.1 with
 |[.int j]=>if zeD j then some (zb2 0 j.toNat,p.2)else none
 |_=>none):=rfl
theorem ok_iR2 {Q:List D×R->Prop}:OkQ Q (iR2 ma ρ)=OkQ Q ((ma ρ).bind fun p=>match p.1 with
 |[.int i,.int j]=>if zeD i&&zeD j then some (zb2 i (j-i).toNat,p.2)else none
 |_=>none):=rfl
theorem ok_sFor {mb:MS}:OkQ Q (sFor mi g mb ρ)=(OkQ (fun p=>OkQ Q (forM (fun d ρ=>(g d ρ).bind fun ρ'=>mb ρ') p.1 p.2)) (mi ρ)):=ok_bind
theorem ok_oLC {t:Nat}{Q:List D×R->Prop}:OkQ Q (oLC cap t mi g mt me ρ)=OkQ Q ((mi ρ).bind fun p=>if p.1.length<=16777216 then(zdA (turnM g mt me) p.1 (capR cap t (fzL cap p.2))).map fun q=>(q.1,fzL cap p.2)else none):=rfl
theorem ok_oR {m:MA}{Q:List D×R->Prop}:OkQ Q (oR m ρ)=OkQ Q ((m ρ).bind fun p=>if p.1.length<=16777216 then some p else none):=rfl
theorem ok_tTrue {Q:Bool×R->Prop}:OkQ Q (zbB ρ)=(Q (true,ρ)):=ok_some
theorem ok_sAugI {g:Int->Int->Int}:OkQ Q (zpm i g me ρ)=OkQ Q (match ρ[i]? with
 |some (.val (.int a))=>(me ρ).bind fun p=>match p.1 with
  | .int b=>some (.next,p.2.set i (.val (.int (g a b))))
  |_=>none
 |_=>none):=rfl
theorem ok_oRep {ma mb:ME}{Q:List D×R->Prop}:OkQ Q (oRep ma mb ρ)=OkQ Q ((ma ρ).bind fun p=>(mb p.2).bind fun q=>match p.1,q.1 with
 | .lst xs,.int k=>if zeD k&&decide (xs.length*k.toNat<=16777216)then some ((List.replicate k.toNat xs).flatten,q.2)else none
 |_,_=>none):=rfl
theorem ok_iZ2 {Q:List D×R->Prop}:OkQ Q (iZ2 ma ρ)=OkQ Q ((ma ρ).bind fun p=>match p.1 with
 |[a,b]=>(zbe [a]).bind fun xs=>(zbe [b]).bind fun ys=>some (zlt xs ys,p.2)
 |_=>none):=rfl
theorem ok_iEn {Q:List D×R->Prop}:OkQ Q (iEn ma ρ)=OkQ Q ((ma ρ).bind fun p=>(zbe p.1).map fun xs=>(zlF xs,p.2)):=rfl
theorem ok_oLCM {t b w:Nat}{Q:List D×R->Prop}:OkQ Q (oLCM cap t b w mi g mt me ρ)=OkQ Q ((mi ρ).bind fun p=>if p.1.length<=16777216 then
    ((fzL (cap.filter (· !=w)) p.2)[w]?).bind fun s=>s.items.bind fun cs=>(zdA (turnP b g mt me) p.1 ((capR cap t (fzL (cap.filter (· !=w)) p.2)).set b (.par cs))).map fun q=>(q.1,(fzL (cap.filter (· !=w)) p.2).set w (s.put (zha b q.2)))
  else none):=rfl
def zk6:Nat->List D->R
 |N,[]=>List.replicate N .emp
 |N,d::ds=> .val d::zk6 (N-1) ds
theorem zjx {d:D}:zk6 N (d::ds)= .val d::zk6 (N-1) ds:=rfl
theorem zp5:zk6 N []=List.replicate N .emp:=rfl
theorem zh0:∀(N:Nat) (ds:List D),ds.map .val++List.replicate (N-ds.length) .emp=zk6 N ds
 |_,[]=>rfl
 |N,d::ds=>by rw[zjx,<-zh0 (N-1) ds,qaR,qaQ,Nat.sub_sub,Nat.add_comm 1];rfl
theorem zpX {α β:Type}{f:α->β}{a:α}{l:List α}:(a::l).map f=f a::l.map f:=rfl
theorem map_nilR {α β:Type}{f:α->β}:[].map f=[]:=rfl
theorem ok_fP {m:MS}{Q:Sl->Prop}:OkQ Q (fP N m ds)=OkQ Q ((m (zk6 N ds)).bind fun p=>match p.1 with
 | .ret r=>some r
 | .next=>some (.val .non)
 |_=>none):=by rw[<-zh0];rfl
theorem ok_fM {m:MS}{cs:List D}{Q:Sl×List D->Prop}:OkQ Q (fM N m cs ds)=OkQ Q ((m (.par cs::zk6 (N-1) ds)).bind fun p=>match p.1,(p.2[0]?:Option Sl)with
 |Fl.ret r,some (Sl.par out)=>some (r,out)
 |Fl.next,some (Sl.par out)=>some (.val .non,out)
 |_,_=>none):=by rw[<-zh0,Nat.sub_sub,Nat.add_comm 1];rfl
end
def Turn (I:R->Prop)(Q:Fl×R->Prop)(p:Fl×R):Prop:=match p.1 with
 | .next=>I p.2
 | .cont=>I p.2
 | .brk=>Q (.next,p.2)
 | .ret r=>Q (.ret r,p.2)
theorem zoN:Turn I Q (.next,ρ)=(I ρ):=rfl
theorem zoA:Turn I Q (.cont,ρ)=(I ρ):=rfl
theorem turn_brk:Turn I Q (.brk,ρ)=(Q (.next,ρ)):=rfl
theorem turn_ret:Turn I Q (.ret r,ρ)=(Q (.ret r,ρ)):=rfl
theorem zpg {α:Type}{f:D->R->Option (Fl×R)}(enc:α->D)(I:Nat->R->Prop):∀(l:List α) (b:Nat) (ρ:R),I b ρ->
  (∀i a ρ,l[i]? =some a->I (b+i) ρ->Ok (f (enc a) ρ) (Turn (I (b+i+1)) Q))->(∀ρ,I (b+l.length) ρ->Q (.next,ρ))->Ok (forM f (l.map enc) ρ) Q
 |[],b,ρ,h0,_,hq=>ok_some.mpr (hq ρ h0)
 |a::l,b,ρ,h0,hs,hq=>by
  obtain⟨p,e,t⟩:=hs 0 a ρ rfl h0;obtain⟨fl,ρ1⟩:=p;have go:∀ρ1,I (b+1) ρ1->Ok (forM f (l.map enc) ρ1) Q:=fun ρ1 h1=>zpg enc I l (b+1) ρ1 h1 (fun i a' ρ' hi hp=>by
   have:=hs (i+1) a' ρ' (by simpa using hi) (by rw[show b+(i+1)=b+1+i by lia];exact hp);rw[show b+(i+1)+1=b+1+i+1 by lia]at this;exact this) (fun ρ h=>hq ρ (by rw[qaQ,show b+(l.length+1)=b+1+l.length by lia];exact h))
  have e':forM f ((a::l).map enc) ρ=(f (enc a) ρ).bind fun p=>match p.1 with
   | .next=>forM f (l.map enc) p.2
   | .cont=>forM f (l.map enc) p.2
   | .brk=>some (.next,p.2)
   | .ret r=>some (.ret r,p.2):=rfl
  rw[e',e];cases fl with
  |next=>exact go ρ1 t
  |cont=>exact go ρ1 t
  |brk=>exact ok_some.mpr t
  |ret r=>exact ok_some.mpr t
theorem zk3 {α:Type}{f:D->R->Option (Fl×R)}{enc:α->D}{l:List α}(I:Nat->R->Prop)(h0:I 0 ρ)
  (hs:∀i a ρ,l[i]? =some a->I i ρ->Ok (f (enc a) ρ) (Turn (I (i+1)) Q)) (hq:∀ρ,I l.length ρ->Q (.next,ρ)):Ok (forM f (l.map enc) ρ) Q:=
 zpg enc I l 0 ρ h0 (fun i a ρ hi h=>by rw[Nat.zero_add]at h ⊢;exact hs i a ρ hi h) (fun ρ h=>hq ρ (by rw[Nat.zero_add]at h;exact h))
theorem zku {α:Type}(enc:α->D){Q:List D×R->Prop}(I:Nat->List D->R->Prop):∀(l:List α) (b:Nat) (acc:List D) (ρ:R),I b acc ρ->
  (∀i a acc ρ,l[i]? =some a->I (b+i) acc ρ->Ok (f (enc a) ρ) fun p=>I (b+i+1) (acc++p.1.toList) p.2)->(∀ds ρ,I (b+l.length) (acc++ds) ρ->Q (ds,ρ))->Ok (zdA f (l.map enc) ρ) Q
 |[],b,acc,ρ,h0,_,hq=>ok_some.mpr (hq [] ρ (by rw[qaW];exact h0))
 |a::l,b,acc,ρ,h0,hs,hq=>by
  obtain⟨p,e,t⟩:=hs 0 a acc ρ rfl h0;have go:=zku enc (Q:=fun q=>Q (p.1.toList++q.1,q.2)) I l (b+1) (acc++p.1.toList) p.2 t (fun i a' acc' ρ' hi hp=>by
   have:=hs (i+1) a' acc' ρ' (by simpa using hi) (by rw[show b+(i+1)=b+1+i by lia];exact hp);rw[show b+(i+1)+1=b+1+i+1 by lia]at this;exact this) (fun ds ρ h=>hq _ ρ (by rw[qaQ,show b+(l.length+1)=b+1+l.length by lia,<-qbv];exact h))
  have e':zdA f ((a::l).map enc) ρ=(f (enc a) ρ).bind fun p=>(zdA f (l.map enc) p.2).map fun q=>(p.1.toList++q.1,q.2):=rfl
  rw[e',e];exact ok_map.mpr go
theorem zm1 {α:Type}{enc:α->D}{l:List α}{Q:List D×R->Prop}(I:Nat->List D->R->Prop)(h0:I 0 [] ρ)
  (hs:∀i a acc ρ,l[i]? =some a->I i acc ρ->Ok (f (enc a) ρ) fun p=>I (i+1) (acc++p.1.toList) p.2) (hq:∀ds ρ,I l.length ds ρ->Q (ds,ρ)):Ok (zdA f (l.map enc) ρ) Q:=
 zku enc I l 0 [] ρ h0 (fun i a acc ρ hi h=>by rw[Nat.zero_add]at h ⊢;exact hs i a acc ρ hi h) (fun ds ρ h=>hq ds ρ (by rw[Nat.zero_add]at h;exact h))
theorem zaX {α β:Type}{f g:α->Option β}:∀(l:List α),(∀a∈l,f a=g a)->l.filterMap f=l.filterMap g
 |[],_=>rfl
 |a::l,h=>by rw[qan,qan,h a qao,zaX l fun b hb=>h b (qap _ hb)]
theorem zgJ {α:Type}{enc:α->D}{l:List α}{Q:List D×R->Prop}(P:R->Prop)(g:α->Option D)(h0:P ρ)
  (hs:∀a ρ,a∈l->P ρ->Ok (f (enc a) ρ) fun p=>p.1=g a/\P p.2) (hq:∀ρ,P ρ->Q (l.filterMap g,ρ)):Ok (zdA f (l.map enc) ρ) Q:=
 zm1 (fun i ds ρ=>ds=(l.take i).filterMap g/\P ρ) ⟨rfl,h0⟩ (fun i a acc ρ hi ⟨e,p⟩=>by
  refine(hs a ρ (qa7 hi) p).mono fun r h=>⟨?_,h.2⟩
  obtain⟨h1,h2⟩:=qat.mp hi;rw[h.1,e,qcL,hi,List.filterMap_append];cases q:g a<;>simp[q]) (fun ds ρ ⟨e,p⟩=>by rw[qcM]at e;rw[e];exact hq ρ p)
theorem zjN {α:Type}{enc:α->D}{l:List α}{Q:List D×R->Prop}(P:R->Prop)(g:α->D)(h0:P ρ)
  (hs:∀a ρ,a∈l->P ρ->Ok (f (enc a) ρ) fun p=>p.1=some (g a)/\P p.2) (hq:∀ρ,P ρ->Q (l.map g,ρ)):Ok (zdA f (l.map enc) ρ) Q:=
 zgJ P (fun a=>some (g a)) h0 hs (fun ρ p=>by rw[<-Function.comp_def some g,qcN];exact hq ρ p)
theorem dEq_int (i j:Int):dEq (.int i) (.int j)=some (.bl (i==j)):=by
 unfold dEq;rw[show noS (.int i)=true from rfl,show noS (.int j)=true from rfl,show depth (.int i)=0 from rfl]
 rfl
theorem dNe_int (i j:Int):dNe (.int i) (.int j)=some (.bl (i !=j)):=by
 unfold dNe;rw[show noS (.int i)=true from rfl,show noS (.int j)=true from rfl,show depth (.int i)=0 from rfl]
 rfl
theorem atI_n {α:Type}(xs:List α)(i:Nat):atI xs (i:Int)=xs[i]?:=by
 unfold atI ixN;rw[if_pos (by lia)]
 by_cases h:i<xs.length
 ·rw[if_pos (by lia)];simp
 ·rw[if_neg (by lia)];simp[qb0 (by lia:xs.length<=i)]
theorem atI_lit {α:Type}(xs:List α)(n:Nat):atI xs (no_index (@OfNat.ofNat Int n _))=xs[n]?:=atI_n xs n
theorem atI_n1 {α:Type}(xs:List α)(i:Nat):atI xs ((i:Int)+1)=xs[i+1]?:=atI_n xs (i+1)
theorem ixN_n (n i:Nat):ixN n (i:Int)=if i<n then some i else none:=by
 unfold ixN;rw[if_pos (by lia)]
 by_cases h:i<n
 ·rw[if_pos (by lia),if_pos h];simp
 ·rw[if_neg (by lia),if_neg h]
theorem ixN_lit (n i:Nat):ixN n (no_index (@OfNat.ofNat Int i _))=if i<n then some i else none:=ixN_n n i
theorem zjI {i j:Int}(h:i.natAbs<18446744073709551616):zj4 i j=true:=by
 unfold zj4;have:decide (i.natAbs<2^64)=true:=qak h;rw[this];rfl
theorem zn8 {i j:Int}(h:j.natAbs<18446744073709551616):zj4 i j=true:=by
 unfold zj4;have:decide (j.natAbs<2^64)=true:=qak h;rw[this];simp
theorem zaD {j:Int}(h1: -1000000000000<=j)(h2:j<=1000000000000):zeD j=true:=by
 unfold zeD;rw[qak h1,qak h2];rfl
def wL (n:Nat)(f:Nat->D):List D:=(List.range n).map f
abbrev wI (n:Nat)(f:Nat->Int):List D:=wL n fun i=> .int (f i)
theorem zap (n:Nat)(f:Nat->D):(wL n f).length=n:=by simp[wL]
theorem zas (f:Nat->D)(h:i<n):(wL n f)[i]? =some (f i):=by simp[wL,h]
theorem wL_succ (n:Nat)(f:Nat->D):wL (n+1) f=wL n f++[f n]:=by simp[wL,qb2]
theorem zcL {f g:Nat->D}(h:∀i,i<n->f i=g i):wL n f=wL n g:=qcn fun i hi=>h i (qai.mp hi)
theorem zl0 (n:Nat)(f:Nat->D)(x:D):wL n f++[x]=wL (n+1) fun j=>if j<n then f j else x:=by
 rw[wL_succ];congr 1
 ·exact zcL fun i hi=>by rw[if_pos hi]
 ·rw[if_neg (by lia)]
theorem zkM (f:Nat->D)(x:D)(h:i<n):(wL n f).set i x=wL n fun j=>if j=i then x else f j:=by
 apply qcO;intro j
 by_cases hj:j<n
 ·rw[zas _ hj,qbz]
  by_cases e:i=j
  ·subst e;simp[zap,h]
  ·simp[e,zas _ hj,Ne.symm e]
 ·rw[qb0 (by simp[zap];lia),qb0 (by simp[zap];lia)]
theorem zpI (n:Nat)(f:Nat->D):zlF (wL n f)=wL n fun i=> .tup [.int (i:Nat),f i]:=by
 apply qcO;intro j;unfold zlF
 by_cases hj:j<n
 ·rw[qcd,zas _ hj,zas _ hj];simp[zap,hj]
 ·rw[qb0 (by simp[zap];lia),qb0 (by simp[zap];lia)]
theorem zhi (n:Nat)(f g:Nat->D):zlt (wL n f) (wL n g)=wL n fun i=> .tup [f i,g i]:=by
 apply qcO;intro j;unfold zlt
 by_cases hj:j<n
 ·rw[qcd,zas _ hj,zas _ hj,zas _ hj]
 ·rw[qb0 (by simp[zap];lia),qb0 (by simp[zap];lia)]
theorem zj6 {α:Type}(xs:List α)(i:Nat):cutD xs none (some (i:Int))=xs.take i:=by
 unfold cutD;rw[HT.zj1,HT.zmT,Nat.sub_zero,List.drop_zero]
 by_cases h:i<=xs.length
 ·rw[qcP h]
 ·rw[Nat.min_eq_right (by lia),qbZ (qaH _),qbZ (by lia)]
theorem zjG {α:Type}(xs:List α)(i:Nat):cutD xs (some (i:Int)) none=xs.drop i:=by
 unfold cutD;rw[HT.zj1,HT.zmT]
 by_cases h:i<=xs.length
 ·rw[qcP h,qbZ (by simp)]
 ·rw[Nat.min_eq_right (by lia),List.drop_of_length_le (qaH _),List.drop_of_length_le (by lia)];simp
theorem zbw:∀(l:List Int),za8 (l.map .int)=some l
 |[]=>rfl
 |i::l=>by simp[za8,zbw l]
theorem zgp (bt:Nat->Nat->Bool):∀n,argBest bt n<=n
 |0=>qaH 0
 |n+1=>by
  have:=zgp bt n;unfold argBest
  split<;>lia
theorem zpy (lt:Int->Int->Bool)(h:ns≠[]):zky lt ns∈ns:=by
 unfold zky;have hl:0<ns.length:=qb5.mpr h;have:=zgp (fun i j=>lt (ns.getD i 0) (ns.getD j 0)) (ns.length-1)
 generalize argBest (fun i j=>lt (ns.getD i 0) (ns.getD j 0)) (ns.length-1)=k at*
 rw[qcl,qbG (by lia)];exact qcF _
theorem zm9 (lt:Int->Int->Bool)(h:ns≠[]):zpM lt [.lst (ns.map .int)]=some (.int (zky lt ns)):=by
 have hne:ns.isEmpty=false:=by cases ns with|nil=>exact absurd rfl h|cons=>rfl
 simp only[zpM,zbe,qbB,zbw,hne]
 rfl
mutual
theorem zmZ:∀(d:D),noS d=true->eqB d d=true
 | .non,_=>rfl
 | .bl b,_=>by simp[eqB]
 | .int i,_=>by simp[eqB]
 | .str s,_=>by simp[eqB]
 | .lst ds,h=>by simp only[eqB];exact ziu ds (by simpa[noS]using h)
 | .tup ds,h=>by simp only[eqB];exact ziu ds (by simpa[noS]using h)
 | .scr _,h=>by simp[noS]at h
 | .exc _,h=>by simp[noS]at h
theorem ziu:∀(ds:List D),noSL ds=true->eqBL ds ds=true
 |[],_=>rfl
 |d::ds,h=>by
  simp only[noSL,qbm]at h;simp only[eqBL,qbm];exact⟨zmZ d h.1,ziu ds h.2⟩
end
theorem dEq_same (h:noS d=true)(k:depth d<=50):dEq d d=some (.bl true):=by simp[dEq,h,k,zmZ d h]
theorem zn0:∀{ds:List D},(∀d∈ds,noS d=true)->noSL ds=true
 |[],_=>rfl
 |d::ds,h=>by simp only[noSL,qbm];exact⟨h d qao,zn0 fun e he=>h e (qap _ he)⟩
theorem zkG:∀{ds:List D},(∀d∈ds,depth d<=k)->zgw ds<=k
 |[],_=>qaV _
 |d::ds,h=>by simp only[zgw];exact Nat.max_le.mpr ⟨h d qao,zkG fun e he=>h e (qap _ he)⟩
def Pl (k:Nat)(d:D):Prop:=noS d=true/\depth d<=k
theorem pl_int (k:Nat)(i:Int):Pl k (.int i):=⟨rfl,qaV _⟩
theorem pl_tup (h:∀d∈ds,Pl k d):Pl (k+1) (.tup ds):=⟨by simp only[noS];exact zn0 fun d hd=>(h d hd).1,by simp only[depth];exact Nat.succ_le_succ (zkG fun d hd=>(h d hd).2)⟩
theorem pl_w {f:Nat->D}(h:∀i,Pl k (f i)):∀d∈wL n f,Pl k d:=fun d hd=>by
 obtain⟨i,_,rfl⟩:=qbW.mp hd;exact h i
theorem Pl.eq (h:Pl k d)(l:k<=50):dEq d d=some (.bl true):=dEq_same h.1 (qal h.2 l)
theorem rangeD_w (n:Nat):zb2 0 n=wL n fun i=> .int (i:Nat):=by unfold zb2 wL;simp only[Int.zero_add]
theorem zoK (lo:Int)(n:Nat):zb2 lo n=wL n fun i=> .int (lo+(i:Nat)):=rfl
section
variable {n:Nat} {e:Nat->D} {ρ:R}
theorem zew {f:D->R->Option (Fl×R)}(I:Nat->R->Prop)(h0:I 0 ρ)
  (hs:∀i ρ,i<n->I i ρ->Ok (f (e i) ρ) (Turn (I (i+1)) Q)) (hq:∀ρ,I n ρ->Q (.next,ρ)):Ok (forM f (wL n e) ρ) Q:=
 zk3 (enc:=e) (l:=List.range n) I h0 (fun i a ρ hi h=>by
  obtain⟨h1,h2⟩:=qat.mp hi;have:a=i:=by simpa using h2.symm
  subst this;exact hs a ρ (by simpa using h1) h) (fun ρ h=>hq ρ (by simpa using h))
variable {f:D->R->Option (Option D×R)} {Q:List D×R->Prop}
theorem zlj (I:Nat->List D->R->Prop)(h0:I 0 [] ρ)
  (hs:∀i acc ρ,i<n->I i acc ρ->Ok (f (e i) ρ) fun p=>I (i+1) (acc++p.1.toList) p.2) (hq:∀ds ρ,I n ds ρ->Q (ds,ρ)):Ok (zdA f (wL n e) ρ) Q:=
 zm1 (enc:=e) (l:=List.range n) I h0 (fun i a acc ρ hi h=>by
  obtain⟨h1,h2⟩:=qat.mp hi;have:a=i:=by simpa using h2.symm
  subst this;exact hs a acc ρ (by simpa using h1) h) (fun ds ρ h=>hq ds ρ (by simpa using h))
theorem ze5 (P:R->Prop)(g:Nat->Option D)(h0:P ρ)
  (hs:∀i ρ,i<n->P ρ->Ok (f (e i) ρ) fun p=>p.1=g i/\P p.2) (hq:∀ρ,P ρ->Q ((List.range n).filterMap g,ρ)):Ok (zdA f (wL n e) ρ) Q:=
 zgJ (enc:=e) (l:=List.range n) P g h0 (fun a ρ ha hp=>hs a ρ (qai.mp ha) hp) hq
theorem zaA (P:R->Prop)(g:Nat->D)(h0:P ρ)
  (hs:∀i ρ,i<n->P ρ->Ok (f (e i) ρ) fun p=>p.1=some (g i)/\P p.2) (hq:∀ρ,P ρ->Q (wL n g,ρ)):Ok (zdA f (wL n e) ρ) Q:=
 zjN (enc:=e) (l:=List.range n) P g h0 (fun a ρ ha hp=>hs a ρ (qai.mp ha) hp) hq
end
end M
namespace M
theorem zjL (n:Nat)(f:Nat->Int)(x:Int):wI n f++[.int x]=wI (n+1) fun j=>if j<n then f j else x:=by
 rw[wI,zl0];exact zcL fun j _=>by dsimp only;split<;>rfl
theorem zoU {j:Int}(h0:0<j)(h1:j<2^250):divOk j=true:=by
 have h:j.natAbs.log2<9000:=by
  have:j.natAbs.log2<250:=(Nat.log2_lt (by lia)).mpr (by lia);lia
 unfold divOk;rw[qak h0,qak h];rfl
theorem wI_set {n i:Nat}(f:Nat->Int)(x:Int)(h:i<n):(wI n f).set i (.int x)=wI n fun j=>if j=i then x else f j:=by
 rw[wI,zkM _ _ h];exact zcL fun j _=>by dsimp only;split<;>rfl
theorem isN_non:isN .non=true:=rfl
theorem isN_int (i:Int):isN (.int i)=false:=rfl
theorem isN_bl (b:Bool):isN (.bl b)=false:=rfl
theorem isN_str (s:PySem.Str):isN (.str s)=false:=rfl
theorem isN_lst (ds:List D):isN (.lst ds)=false:=rfl
theorem isN_tup (ds:List D):isN (.tup ds)=false:=rfl
end M
namespace M
open L2 PySem
variable {i n b c N:Nat} {m me:ME} {Q:Fl×R->Prop} {x:Int} {g:D->R->Option R} {neg:Bool} {F:List D->Option Sl} {mo:MO} {ma:MA} {is cap l:List Nat} {cs:List Ch} {t:T} {ds:List D} {mt:MT} {d:D} {z:Sl×R} {s:Sl} {ls:List (List D)} {q dk:List Int×List D}
theorem dItems_l (ds:List D):zbe [.lst ds]=some ds:=rfl
theorem dItems_t (ds:List D):zbe [.tup ds]=some ds:=rfl
theorem dItems_s (ns:List Int):zbe [.scr ns]=some (ns.map .int):=rfl
theorem dLen_l (ds:List D):dLen [.lst ds]=some (.int ds.length):=rfl
theorem dLen_t (ds:List D):dLen [.tup ds]=some (.int ds.length):=rfl
theorem dLen_s (ns:List Int):dLen [.scr ns]=some (.int ns.length):=rfl
theorem dTuple_l (ds:List D):zbi [.lst ds]=some (.tup ds):=rfl
theorem dTuple_t (ds:List D):zbi [.tup ds]=some (.tup ds):=rfl
theorem dTuple_s (ns:List Int):zbi [.scr ns]=some (.tup (ns.map .int)):=rfl
theorem dCut_l (ds:List D)(a b:Option Int):dCut (.lst ds) a b=some (.lst (cutD ds a b)):=rfl
theorem dCut_t (ds:List D)(a b:Option Int):dCut (.tup ds) a b=some (.tup (cutD ds a b)):=rfl
theorem dCut_s (ns:List Int)(a b:Option Int):dCut (.scr ns) a b=some (.lst ((cutD ns a b).map .int)):=rfl
theorem dIx_l (ds:List D)(i:Int):dIx (.lst ds) (.int i)=atI ds i:=rfl
theorem dIx_t (ds:List D)(i:Int):dIx (.tup ds) (.int i)=atI ds i:=rfl
theorem dIx_s (ns:List Int)(i:Int):dIx (.scr ns) (.int i)=(atI ns i).map .int:=rfl
theorem zkp (a b:Str):dEq (.str a) (.str b)=some (.bl (a==b)):=by
 unfold dEq;rw[show noS (.str a)=true from rfl,show noS (.str b)=true from rfl,show depth (.str a)=0 from rfl]
 rfl
theorem zip3D_w (n:Nat)(f g h:Nat->D):zip3D (wL n f) (wL n g) (wL n h)=wL n fun i=> .tup [f i,g i,h i]:=by
 apply qcO;intro j;unfold zip3D
 by_cases hj:j<n
 ·have e:(List.zip (wL n g) (wL n h))[j]? =some (g j,h j):=by
   rw[qbX];exact⟨zas g hj,zas h hj⟩
  rw[qcd,e,zas _ hj,zas _ hj]
 ·rw[qb0 (by simp[zap];lia),qb0 (by simp[zap];lia)]
structure Sq (d:D) (n:Nat) (f:Nat->Int):Prop where
 it:zbe [d]=some (wI n f)
 ln:dLen [d]=some (.int n)
 tp:zbi [d]=some (.tup (wI n f))
 ix:∀i,dIx d (.int i)=atI (wI n f) i
 ct:∀lo hi,∃d',dCut d lo hi=some d'/\zbe [d']=some (cutD (wI n f) lo hi)
theorem Sq.lst (n:Nat)(f:Nat->Int):Sq (.lst (wI n f)) n f:=⟨rfl,by rw[dLen_l,zap],rfl,fun _=>rfl,fun lo hi=>⟨_,rfl,rfl⟩⟩
theorem Sq.tup (n:Nat)(f:Nat->Int):Sq (.tup (wI n f)) n f:=⟨rfl,by rw[dLen_t,zap],rfl,fun _=>rfl,fun lo hi=>⟨_,rfl,rfl⟩⟩
theorem zk8 (n:Nat)(b:Nat->Bool):zej (wL n fun i=> .bl (b i))=some ((List.range n).map b):=by
 have:∀l:List Nat,zej (l.map fun i=>D.bl (b i))=some (l.map b):=by
  intro l
  induction l with
  |nil=>rfl
  |cons a l ih=>simp[zej,ih]
 exact this _
theorem ok_sExt {ρ:R}:OkQ Q (sExt i m ρ)=OkQ Q (gd ((ρ[i]?.bind Sl.items).isSome) ((m ρ).bind fun p=>p.2[i]?.bind fun s=>s.items.bind fun ds=>match p.1 with
 | .lst es=>if ds.length+es.length<=16777216 then some (.next,p.2.set i (s.put (ds++es)))else none
 |_=>none)):=rfl
theorem zoX (a b:Int):eqV (.int a) (.int b)=(b==a):=by
 show(a==b)=(b==a)
 by_cases h:a=b
 ·subst h;rfl
 ·rw[qab.mpr h,qab.mpr fun e=>h e.symm]
theorem zht:∀(l:List Int),zlK (l.map D.int)=some (l.map V.int)
 |[]=>rfl
 |i::l=>by simp[zlK,flV,zht l]
theorem zmS (a:Int):∀(l:List Int),inV (.int a) (l.map V.int)=l.contains a
 |[]=>rfl
 |i::l=>by
  have:=zmS a l;unfold inV at this ⊢;rw[qaR,qbs,this,zoX,qcm]
theorem dAnd1 (h:0<=x):dAnd (.int x) (.int 1)=some (.int (x%2)):=by
 have e:dAnd (.int x) (.int 1)=some (.int (Builtin.bitAnd x 1)):=rfl;rw[e];have e2:Builtin.bitAnd x 1=((x.toNat&&&1:Nat):Int):=by
  unfold Builtin.bitAnd;rw[qak h]
  rfl
 rw[e2,Nat.and_one_is_mod];congr 2;lia
def sumR:Nat->(Nat->Int)->Int
 |0,_=>0
 |n+1,f=>sumR n f+f n
theorem zal {f g:Nat->Int}:∀{n:Nat},(∀i,i<n->f i=g i)->sumR n f=sumR n g
 |0,_=>rfl
 |n+1,h=>by rw[sumR,sumR,zal fun i hi=>h i (by lia),h n (by lia)]
theorem zcN (f g:Nat->Int):∀n,sumR n (fun i=>f i+g i)=sumR n f+sumR n g
 |0=>rfl
 |n+1=>by simp only[sumR,zcN f g n];lia
theorem zdd (f g:Nat->Int):∀n,sumR n (fun i=>f i-g i)=sumR n f-sumR n g
 |0=>rfl
 |n+1=>by simp only[sumR,zdd f g n];lia
theorem zfp:∀n,sumR n (fun _=>0)=0
 |0=>rfl
 |n+1=>by simp only[sumR,zfp n];lia
theorem zaZ (a:Int)(f:Nat->Int):∀n,sumR n (fun i=>a*f i)=a*sumR n f
 |0=>by simp[sumR]
 |n+1=>by simp only[sumR,zaZ a f n,Int.mul_add]
theorem zgy (f:Nat->Nat->Int)(m:Nat):∀n,sumR n (fun i=>sumR m (f i))=sumR m (fun j=>sumR n fun i=>f i j)
 |0=>(zfp m).symm
 |n+1=>by simp only[sumR,zgy f m n,zcN]
theorem zdM (f:Nat->Int):∀n,((List.range n).map f).sum=sumR n f
 |0=>rfl
 |n+1=>by simp[qb2,zdM f n,sumR]
theorem zkd (n:Nat)(f:Nat->Int):za8 (wI n f)=some ((List.range n).map f):=by
 have:wI n f=((List.range n).map f).map .int:=by simp[wL,qb4,Function.comp_def]
 rw[this,zbw]
theorem cut_w {n a b:Nat}(f:Nat->D)(h:a+b<=n):cutD (wL n f) (some (a:Int)) (some ((a:Int)+(b:Int)))=wL b fun i=>f (a+i):=by
 have e:cutD (wL n f) (some (a:Int)) (some ((a:Int)+(b:Int)))=((wL n f).drop a).take b:=by
  unfold cutD;rw[HT.zj1,show((a:Int)+(b:Int))=((a+b:Nat):Int) by lia,HT.zj1,zap];rw[qcP h,qcP (by lia:a<=n),Nat.add_sub_cancel_left]
 rw[e];apply qcO;intro j
 by_cases hj:j<b
 ·rw[qa6 hj,qcQ,zas _ (by lia),zas _ hj]
 ·rw[qb0 (by simp[zap];lia),qb0 (by rw[zap];lia)]
theorem zfo (v:Nat->Int):∀n i,i<=n->v i<=v (argBest (fun i j=>decide (v i>v j)) n)
 |0,i,h=>by rw[show i=0 by lia];exact Int.le_refl _
 |n+1,i,h=>by
  simp only[argBest]
  by_cases c:v (n+1)>v (argBest (fun i j=>decide (v i>v j)) n)
  ·rw[if_pos (qak c)]
   by_cases e:i=n+1
   ·rw[e];exact Int.le_refl _
   ·have:=zfo v n i (by lia);lia
  ·rw[if_neg (by simpa using c)]
   by_cases e:i=n+1
   ·rw[e];lia
   ·exact zfo v n i (by lia)
theorem getD_map (g:Nat->Int)(h:i<c):((List.range c).map g).getD i 0=g i:=by
 rw[qcl];simp[h]
theorem max_w (g:Nat->Int)(hc:0<c):∃v,dMaxL [.lst (wI c g)]=some (.int v)/\(∃i,i<c/\g i=v)/\∀i,i<c->g i<=v:=by
 have hne:(List.range c).map g≠[]:=fun h=>by have:=congrArg List.length h;simp at this;lia
 have e1:wI c g=((List.range c).map g).map .int:=by simp[wL,qb4,Function.comp_def]
 refine⟨_,by rw[e1];exact zm9 _ hne,?_,?_⟩
 ·obtain⟨i,hi,e⟩:=qbW.mp (zpy (fun i j=>decide (i>j)) hne);exact⟨i,qai.mp hi,e⟩
 ·intro i hi;have:=zfo (fun i=>((List.range c).map g).getD i 0) (c-1) i (by lia);rw[getD_map g hi]at this;unfold zky;rw[qaS,qb1];exact this
theorem zhZ {mc:MT}{mb:MS}(I:Nat->R->Prop)(turn:∀m ρ,I m ρ->Ok (mc ρ) fun p=>(p.1=true->∃m',m=m'+1/\Ok (mb p.2) fun q=>q.1= .next/\I m' q.2)/\(p.1=false->Q (.next,p.2))):∀(fuel m:Nat) (ρ:R),m<fuel->I m ρ->Ok (zfO mc mb fuel ρ) Q
 |0,m,ρ,h,_=>by lia
 |n+1,m,ρ,h,hI=>by
  obtain⟨⟨b,ρ1⟩,e,h1,h2⟩:=(turn m ρ hI);unfold zfO;rw[e];cases b with
  |false=>exact ok_some.mpr (h2 rfl)
  |true=>
   obtain⟨m',rfl,h3⟩:=h1 rfl;obtain⟨⟨f,ρ2⟩,e2,ef,hI2⟩:=h3;show Ok ((mb ρ1).bind _) Q;rw[e2];cases(show f= .next from ef);exact zhZ I turn n m' ρ2 (by lia) hI2
theorem notInL (j:Int)(ns:List Int):zpu (.int j) (.lst (ns.map .int))=some (.bl (!(ns.contains j))):=by
 have e:inV (.int j) (ns.map V.int)=ns.contains j:=by
  unfold inV
  induction ns with
  |nil=>rfl
  |cons a l ih=>rw[qaR,qbs,ih,zoX,qcm]
 show((zlK (ns.map D.int)).map fun xs=>D.bl (!inV (.int j) xs))=_;rw[zht];show some (D.bl (!inV (.int j) (ns.map V.int)))=_;rw[e]
theorem inL (j:Int)(ns:List Int):dIn (.int j) (.lst (ns.map .int))=some (.bl (ns.contains j)):=by
 show((zlK (ns.map D.int)).map fun xs=>D.bl (inV (.int j) xs))=_;rw[zht];show some (D.bl (inV (.int j) (ns.map V.int)))=_;rw[zmS]
theorem like_par (ns:List Int):zhV (.par (ns.map .int)) (.par (ns.map .int))=true:=by
 show(match za8 (ns.map D.int),za8 (ns.map D.int)with
  |some a,some b=>a==b
  |_,_=>false)=true
 rw[zbw];exact qbR ns
section
variable {j:Nat} {mk me:ME} {ρ:R}
theorem ok_tDI {Q:Bool×R->Prop}:OkQ Q (tDI j neg mk ρ)=(OkQ (fun p=>OkQ Q (match p.1 with
 | .int k=>(p.2[j]?.bind Sl.dic).map fun q=>(((lkD q.1 q.2 k).isSome !=neg),p.2)
 |_=>none)) (mk ρ)):=ok_bind
theorem ok_eCallMO {F:List D->List D->Option (Sl×List D)}{Q:D×R->Prop}:OkQ Q (eCallMO F mo ma ρ)=OkQ Q ((mo ρ).bind fun p=>(ma p.2).bind fun q=>(F p.1 q.1).bind fun r=>match r.1 with
 | .val d=>some (d,q.2)
 | .own ds=>some (.lst ds,q.2)
 |_=>none):=rfl
theorem ok_sUnT:OkQ Q (sUnT j is ρ)=OkQ Q (match ρ[j]? with
 |some (.tre (.lst cs))=>if cs.length=is.length then some (.next,putCs is cs (ρ.set j .emp))else none
 |_=>none):=rfl
theorem ok_fMT {m:MS}{cs:List D}{Q:Sl×List D->Prop}:OkQ Q (fMT N m cs t ds)=OkQ Q ((m (.par cs:: .tre t::zk6 (N-2) ds)).bind fun p=>match p.1,(p.2[0]?:Option Sl)with
 |Fl.ret r,some (Sl.par out)=>some (r,out)
 |Fl.next,some (Sl.par out)=>some (.val .non,out)
 |_,_=>none):=by rw[<-zh0,Nat.sub_sub,Nat.add_comm 2];rfl
theorem ok_sPar:OkQ Q (sPar i j ma ρ)=OkQ Q ((ma ρ).bind fun p=>match p.1 with
 |[c,d]=>some (.next,(p.2.set i (.val c)).set j (.val d))
 |_=>none):=rfl
theorem ok_iDKT {Q:List D×R->Prop}:OkQ Q (iDKT j ρ)=OkQ Q (match ρ[j]? with
 |some (.val (.dit ks ds))=>some (ks.map fun k=> .tup (k.map .int),ρ)
 |_=>none):=rfl
theorem ok_eCallU {Q:D×R->Prop}:OkQ Q (eCallU F ma ρ)=OkQ Q ((ma ρ).bind fun p=>(F p.1).bind fun r=>match r with
 | .tre (.tup cs)=>some (.tup (cs.map Ch.D),p.2)
 |_=>none):=rfl
theorem ok_sCp {mb:MS}:OkQ Q (sCp i j n mb ρ)=OkQ Q (match ρ[i]?,ρ[j]? with
 |some _,some (.tre (.tup cs))=>match cs[n]? with
  |some (.d .non)=>some (.next,ρ.set i (.val .non))
  |some (.l ds)=>mb (ρ.set i (.own ds))
  |_=>none
 |_,_=>none):=rfl
theorem ok_turnT {Q:Option (List D)×R->Prop}:OkQ Q (turnT g mt mo d ρ)=(OkQ (fun ρ1=>OkQ (fun p=>(p.1=true->OkQ (fun q=>zdb q.2=true/\Q (some q.1,q.2)) (mo p.2))/\(p.1=false->zdb p.2=true/\Q (none,p.2))) (mt ρ1)) (g d ρ)):=by
 unfold turnT;rw[ok_bind];exact zaB fun ρ1=>by rw[ok_bind];exact zaB fun p=>by rw[zkV,ok_bind,zfq,ok_some];congr 1;exact propext (imp_congr Iff.rfl (iff_of_eq (zaB fun q=>by rw[zfq,ok_some])))
theorem ok_turnQ {Q:Option D×R->Prop}:OkQ Q (turnQ b c g mt me d ρ)=(OkQ (fun ρ1=>OkQ (fun p=>(p.1=true->OkQ (fun q=>zl1 b c q.2=true/\Q (some q.1,q.2)) (me p.2))/\(p.1=false->zl1 b c p.2=true/\Q (none,p.2))) (mt ρ1)) (g d ρ)):=by
 unfold turnQ;rw[ok_bind];exact zaB fun ρ1=>by rw[ok_bind];exact zaB fun p=>by rw[zkV,ok_bind,zfq,ok_some];congr 1;exact propext (imp_congr Iff.rfl (iff_of_eq (zaB fun q=>by rw[zfq,ok_some])))
theorem ok_oLC2 {t b w c v:Nat}{mi:MA}{Q:List D×R->Prop}:OkQ Q (oLC2 cap t b w c v mi g mt me ρ)=OkQ Q ((mi ρ).bind fun p=>if p.1.length<=16777216 then
  ((fzL (cap.filter fun i=>i !=w&&i !=v) p.2)[w]?).bind fun s=>s.items.bind fun cs=>((fzL (cap.filter fun i=>i !=w&&i !=v) p.2)[v]?).bind fun s2=>s2.items.bind fun cs2=>
   (zdA (turnQ b c g mt me) p.1 (((capR cap t (fzL (cap.filter fun i=>i !=w&&i !=v) p.2)).set b (.par cs)).set c (.par cs2))).map fun q=>(q.1,((fzL (cap.filter fun i=>i !=w&&i !=v) p.2).set w (s.put (zha b q.2))).set v (s2.put (zha c q.2)))
 else none):=rfl
theorem ok_ePop {Q:D×R->Prop}:OkQ Q (ePop j me ρ)=OkQ Q (gd ((ρ[j]?.bind Sl.items).isSome) ((me ρ).bind fun p=>match p.1 with
 | .int i=>p.2[j]?.bind fun s=>s.items.bind fun ds=>if 0<=i/\i<ds.length/\ds.length<=16777216 then(ds[i.toNat]?).map fun d=>(d,p.2.set j (s.put (ds.eraseIdx i.toNat)))else none
 |_=>none)):=rfl
theorem zoV {f g h:D->D->Option D}{a b c d:ME}{Q:D×R->Prop}:OkQ Q (zoZ f g h a b c d ρ)=(OkQ (fun p=>OkQ (fun q=>OkQ (fun t=>∃z,t= .bl z/\(z=true->OkQ (fun r=>OkQ (fun t'=>∃z',t'= .bl z'/\(z'=true->OkQ (fun s=>OkQ (fun x=>Q (x,s.2)) (h r.1 s.1)) (d r.2))/\(z'=false->Q (.bl false,r.2))) (g q.1 r.1)) (c q.2))/\(z=false->Q (.bl false,q.2))) (f p.1 q.1)) (b p.2)) (a ρ)):=by
 unfold zoZ;rw[ok_bind];refine zaB fun p=>?_
 rw[ok_bind];refine zaB fun q=>?_
 rw[ok_bind];refine zaB fun t=>?_
 cases t with
 |bl z=>
  cases z
  ·simp[ok_some]
  ·simp only[D.bl.injEq,qcJ,forall_const,Bool.true_eq_false,qcK,and_true];rw[ok_bind];refine zaB fun r=>?_
   rw[ok_bind];refine zaB fun t'=>?_
   cases t' with
   |bl z=>
    cases z
    ·simp[ok_some]
    ·simp only[D.bl.injEq,qcJ,forall_const,Bool.true_eq_false,qcK,and_true];rw[ok_bind];exact zaB fun s=>ok_map
   |_=>simp[ok_none]
 |_=>simp[ok_none]
theorem ckG_nil:ckG [] z=true:=rfl
theorem ckG_cons {a:Nat}:ckG (a::l) z=(flS z.1&&z.2.all flS):=rfl
theorem flS_val:flS (.val d)=flD d:=rfl
theorem flS_own:flS (.own ds)=ds.all flD:=rfl
theorem flS_par:flS (.par ds)=ds.all flD:=rfl
theorem flS_tre:flS (.tre t)=flT t:=rfl
theorem flS_ptr:flS (.ptr t)=flT t:=rfl
theorem flS_emp:flS .emp=true:=rfl
theorem flD_bl {b:Bool}:flD (.bl b)=true:=rfl
theorem flD_int {i:Int}:flD (.int i)=true:=rfl
theorem flD_non:flD .non=true:=rfl
theorem flD_str {s:Str}:flD (.str s)=true:=rfl
theorem flT_tup:flT (.tup cs)=cs.all flC:=rfl
theorem flC_d:flC (.d d)=flD d:=rfl
theorem flC_l:flC (.l ds)=ds.all flD:=rfl
theorem flT_bk {n:Int}:flT (bkT n ds)=ds.all flD:=by
 show([("many",Ch.d (.int n)),("kept",Ch.l ds)]:List (Str×Ch)).all (fun f=>flC f.2)=ds.all flD;simp[flC,flD]
theorem zo2 {d1:D}{Q:Sl×R->Prop}:OkQ Q (znL F [.val d1])=OkQ (fun r=>Q (r,[.emp])) (F [d1]):=by
 show OkQ Q ((F [d1]).map fun r=>(r,[.emp]))=_;exact ok_map
theorem zof {d1 d2:D}{Q:Sl×R->Prop}:OkQ Q (znL F [.val d1,.val d2])=OkQ (fun r=>Q (r,[.emp,.emp])) (F [d1,d2]):=by
 show OkQ Q ((F [d1,d2]).map fun r=>(r,[.emp,.emp]))=_;exact ok_map
theorem znS {d1 d2 d3:D}{Q:Sl×R->Prop}:OkQ Q (znL F [.val d1,.val d2,.val d3])=OkQ (fun r=>Q (r,[.emp,.emp,.emp])) (F [d1,d2,d3]):=by
 show OkQ Q ((F [d1,d2,d3]).map fun r=>(r,[.emp,.emp,.emp]))=_;exact ok_map
theorem zpQ {d1 d2 d3 d4:D}{Q:Sl×R->Prop}:OkQ Q (znL F [.val d1,.val d2,.val d3,.val d4])=OkQ (fun r=>Q (r,[.emp,.emp,.emp,.emp])) (F [d1,d2,d3,d4]):=by
 show OkQ Q ((F [d1,d2,d3,d4]).map fun r=>(r,[.emp,.emp,.emp,.emp]))=_;exact ok_map
theorem zoE {d1 d2 d3 d4 d5:D}{Q:Sl×R->Prop}:OkQ Q (znL F [.val d1,.val d2,.val d3,.val d4,.val d5])=OkQ (fun r=>Q (r,[.emp,.emp,.emp,.emp,.emp])) (F [d1,d2,d3,d4,d5]):=by
 show OkQ Q ((F [d1,d2,d3,d4,d5]).map fun r=>(r,[.emp,.emp,.emp,.emp,.emp]))=_;exact ok_map
theorem zpd {d1 d2 d3 d4 d5 d6:D}{Q:Sl×R->Prop}:OkQ Q (znL F [.val d1,.val d2,.val d3,.val d4,.val d5,.val d6])=OkQ (fun r=>Q (r,[.emp,.emp,.emp,.emp,.emp,.emp])) (F [d1,d2,d3,d4,d5,d6]):=by
 show OkQ Q ((F [d1,d2,d3,d4,d5,d6]).map fun r=>(r,[.emp,.emp,.emp,.emp,.emp,.emp]))=_;exact ok_map
theorem ok_fG {m:MS}{as:R}{Q:Sl×R->Prop}:OkQ Q (fG N m as)=OkQ (fun p=>OkQ Q (match p.1 with
 | .ret r=>(outS as p.2).map fun o=>(r,o)
 | .next=>(outS as p.2).map fun o=>(.val .non,o)
 |_=>none)) (m (as++List.replicate (N-as.length) .emp)):=ok_bind
end
section
variable {ρ:R} {j k i:Nat} {c:Str} {ns ns2:List Str} {me mo mi:ME} {mO:MO} {ma:MA} {md:MK}
def kOb (c:Str)(ns:List Str)(p:D×R):Option ((List Int×List D)×R):=match p.1 with
 | .obj c' ns' _ ks ds=>if c'=c/\ns'=ns then some ((ks,ds),p.2)else none
 |_=>none
theorem kOb_ob:kOb slC slN (obD slC slN ls q,ρ)=some (q,ρ):=by
 unfold kOb obD;dsimp only;rw[if_pos ⟨rfl,rfl⟩]
theorem dAt_ob:dAt slC slN k (obD slC slN ls q)=(ls[k]?).map D.lst:=by
 unfold dAt obD;dsimp only;rw[if_pos ⟨rfl,rfl⟩,qa5]
theorem ok_kAt {Q:(List Int×List D)×R->Prop}:OkQ Q (kAt c ns me ρ)=OkQ Q ((me ρ).bind (kOb c ns)):=rfl
theorem ok_eKG {Q:D×R->Prop}:OkQ Q (eKG md mi ρ)=OkQ Q ((md ρ).bind fun p=>(mi p.2).bind fun q=>match q.1 with
 | .int k=>(lkD p.1.1 p.1.2 k).map fun d=>(d,q.2)
 |_=>none):=rfl
theorem ok_tKI {Q:Bool×R->Prop}:OkQ Q (tKI neg mi md ρ)=OkQ Q ((mi ρ).bind fun p=>(md p.2).bind fun q=>match p.1 with
 | .int k=>some (((lkD q.1.1 q.1.2 k).isSome !=neg),q.2)
 |_=>none):=rfl
theorem ok_iKN {Q:List D×R->Prop}:OkQ Q (iKN md ρ)=OkQ Q ((md ρ).map fun p=>(p.1.1.map .int,p.2)):=rfl
theorem zdX {ls:List (List D)}{q:List Int×List D}{Q:D×R->Prop}(h:ρ[j]? =some (.val (obD slC slN ls q))):OkQ Q (zeQ F slC slN (eVar j) ma ρ)=OkQ Q ((ma ρ).bind fun p=>(F (obD slC slN ls q::p.1)).bind fun r=>match r with
  | .val d=>some (d,p.2)
  | .own ds=>some (.lst ds,p.2)
  |_=>none):=by
 have e:eVar j ρ=some (obD slC slN ls q,ρ):=by unfold eVar;rw[h]
 unfold zeQ;rw[e,qbB];unfold obD;dsimp only;rw[if_pos ⟨rfl,rfl⟩]
 first|done|rfl
theorem zev {Q:D×R->Prop}(h:ρ[j]? =some s)(hs:s.ob=some (c,ns,ls,some dk))(hl:okLs ls=true):OkQ Q (eLkO j m ρ)=OkQ Q ((m (ρ.set j (.val (obD c ns ls dk)))).bind fun p=>if fl2 p.1&&((ρ.set j .emp).zip p.2).all (fun q=>zhV q.1 q.2)then some (p.1,ρ)else none):=by
 unfold eLkO;rw[h,qbB,hs];simp only[hl,Bool.true_and]
theorem zlW {m:MO}{Q:List D×R->Prop}(h:ρ[j]? =some s)(hs:s.ob=some (c,ns,ls,some dk))(hl:okLs ls=true):OkQ Q (oLkO j m ρ)=OkQ Q ((m (ρ.set j (.val (obD c ns ls dk)))).bind fun p=>if p.1.all fl2&&((ρ.set j .emp).zip p.2).all (fun q=>zhV q.1 q.2)then some (p.1,ρ)else none):=by
 unfold oLkO;rw[h,qbB,hs];simp only[hl,Bool.true_and]
theorem ok_sOFs:OkQ Q (sOFs c ns j k i me ρ)=OkQ (fun p:D×R=>OkQ Q (match p.2[j]?.bind Sl.ob,p.2[i]? with
 |some (c',ns',ls,dk),some (.val (.int n))=>if c'=c/\ns'=ns then(ls[k]?).bind fun ds=>(ixN ds.length n).bind fun m=>(p.2[j]?).map fun s=>(.next,p.2.set j (s.putT (.obj c ns (ls.set k (ds.set m p.1)) dk)))else none
 |_,_=>none)) (me ρ):=ok_bind
theorem ok_sOFr:OkQ Q (sOFr c ns j k mO ρ)=OkQ (fun p:List D×R=>OkQ Q (match p.2[j]?.bind Sl.ob with
 |some (c',ns',ls,dk)=>if c'=c/\ns'=ns/\k<ls.length then(p.2[j]?).map fun s=>(.next,p.2.set j (s.putT (.obj c ns (ls.set k p.1) dk)))else none
 |_=>none)) (mO ρ):=ok_bind
theorem ok_sOFa:OkQ Q (sOFa c ns ns2 j mO ρ)=OkQ (fun p:List D×R=>OkQ Q (match p.2[j]?.bind Sl.ob with
 |some (c',ns',ls,none)=>if c'=c/\ns'=ns then(p.2[j]?).map fun s=>(.next,p.2.set j (s.putT (.obj c ns2 (ls++[p.1]) none)))else none
 |_=>none)) (mO ρ):=ok_bind
theorem ok_sOFd:OkQ Q (sOFd c ns ns2 j ρ)=OkQ Q (match ρ[j]?.bind Sl.ob with
 |some (c',ns',ls,none)=>if c'=c/\ns'=ns then(ρ[j]?).map fun s=>(.next,ρ.set j (s.putT (.obj c ns2 ls (some ([],[])))))else none
 |_=>none):=rfl
theorem ok_sOFk:OkQ Q (sOFk c ns j i me ρ)=OkQ (fun p:D×R=>OkQ Q (match p.2[j]?.bind Sl.ob,p.2[i]? with
 |some (c',ns',ls,some q),some (.val (.int n))=>if c'=c/\ns'=ns/\q.1.length<16777216 then(p.2[j]?).map fun s=>(.next,p.2.set j (s.putT (.obj c ns ls (some (ptD q.1 q.2 n p.1)))))else none
 |_,_=>none)) (me ρ):=ok_bind
theorem ziT {F:R->Option (Sl×R)}{Q:D×R->Prop}{dk:Option (List Int×List D)}(h:ρ[j]? =some s)(hs:s.ob=some (c,ns,ls,dk)):OkQ Q (zhM F c ns j ma ρ)=OkQ (fun q:List D×R=>OkQ Q (match q.2[j]?.bind Sl.ob with
  |some (c2,ns2,l2,d2)=>(F (.ptr (.obj c2 ns2 l2 d2)::q.1.map .val)).bind fun z=>match z with
   |(.val d,.ptr (.obj c3 ns3 l3 d3)::_)=>(q.2[j]?).map fun s=>(d,q.2.set j (s.putT (.obj c3 ns3 l3 d3)))
   |_=>none
  |none=>none)) (ma ρ):=by
 have e:zhM F c ns j ma ρ=(ma ρ).bind fun q=>match q.2[j]?.bind Sl.ob with
  |some (c2,ns2,l2,d2)=>(F (.ptr (.obj c2 ns2 l2 d2)::q.1.map .val)).bind fun z=>match z with
   |(.val d,.ptr (.obj c3 ns3 l3 d3)::_)=>(q.2[j]?).map fun s=>(d,q.2.set j (s.putT (.obj c3 ns3 l3 d3)))
   |_=>none
  |none=>none:=by
  unfold zhM;rw[h,qbB,hs];exact if_pos ⟨rfl,rfl⟩
 rw[e];exact ok_bind
theorem ok_sMkO {F:R->Option (Sl×R)}:OkQ Q (sMkO i c ns F ma ρ)=OkQ (fun q:List D×R=>OkQ Q ((F (.ptr (.obj c [] [] none)::q.1.map .val)).bind fun z=>match z with
 |(.val .non,.ptr (.obj c3 ns3 l3 (some d3))::_)=>if c3=c/\ns3=ns then some (.next,q.2.set i (.val (obD c ns l3 d3)))else none
 |_=>none)) (ma ρ):=ok_bind
end
end M
local macro_rules | `(tactic| simp! only [$ls,*]) => do
  let f (d : Bool) (n : String) : Lean.MacroM (Lean.TSyntax `Lean.Parser.Tactic.simpLemma) := let i := Lean.mkIdent n.toName; if d then `(Lean.Parser.Tactic.simpLemma| ↓$i:term) else `(Lean.Parser.Tactic.simpLemma| $i:term)
  let a ← ("M.ok_Q M.ok_sIf M.ok_eIf M.ok_tAnd M.ok_tOr M.ok_eAnd M.ok_eOr M.ok_chain M.zoV M.ok_turnM M.ok_turnP M.ok_turnQ M.ok_bind M.ok_map M.ok_gd M.zfq M.ok_some M.ok_sNext M.ok_sSeq M.ok_sExpr M.ok_sRet M.ok_sRetO M.ok_sRetV M.ok_gN M.ok_gsNil M.zpf M.ok_gT M.ok_sAsg M.ok_sSet M.ok_sSetO M.ok_sApp M.ok_sPut M.ok_eC M.ziB M.ok_aNil M.ok_aCons M.ok_m1 M.ok_mC M.ok_eLenV M.ok_oC M.ok_eTup M.ok_oLst M.ok_tTru M.ok_tNotM M.ok_eCall M.ok_oCall M.zod M.zpb M.ok_eFz M.ok_eCut M.ok_pNo M.ok_pSome M.ok_iSeq M.ok_iR1 M.ok_iR2 M.ok_sFor M.ok_oLC M.ok_oR M.ok_tTrue M.ok_fP M.ok_fM M.ok_sAugI M.ok_oRep M.ok_iZ2 M.ok_iEn M.ok_oLCM M.ok_sExt M.ok_fMT M.ok_turnT M.ok_oLC2 M.ok_ePop M.ok_fG M.ok_kAt M.ok_eKG M.ok_tKI M.ok_iKN M.ok_sOFs M.ok_sOFr M.ok_sOFa M.ok_sOFd M.ok_sOFk M.ok_sMkO M.ok_eIxC M.ok_eIxE M.ok_m2VV M.ok_m2VC M.ok_m2CV M.zo2 M.zof M.znS M.zpQ M.zoE M.zpd".splitOn " ").toArray.mapM (f true)
  let b ← ("M.ok_m2 M.ok_eIxV M.dI2 M.dSub M.dDiv M.dMod M.dPow M.dShl M.dShr M.dLt M.dGt M.dGe M.dNeg M.dMul M.dAdd M.dTru M.dNot M.Sl.read M.Sl.items M.Sl.put M.hasV M.zdb M.fz1 M.fzL M.capS M.capR M.eIsI.noS1 M.okT M.isI M.d2I M.dAbs M.dSum M.dAll M.dMaxL M.zl7 M.zlO M.zha M.fzD M.putCs M.Ch.sl M.Sl.dic M.Sl.dit M.Sl.tree M.Sl.putT M.Sl.dit M.fzT M.Ch.D M.fzDT M.fzU M.rowsOf M.zl1 M.Sl.hand M.Sl.look M.hasA M.outS M.backS M.zlq M.znU M.Sl.bk M.onlyV M.Sl.ob M.zjO M.zls M.dModF M.zoS M.zn4 M.seqK_ret M.seqK_brk M.zoe M.zoN M.zoA M.turn_brk M.turn_ret List.getElem?_cons_zero List.getElem?_cons_succ List.set_cons_zero List.set_cons_succ Option.bind_some Option.isSome_some Option.map_some if_true M.zpX M.map_nilR M.zjx M.zp5 M.ixR_val M.ixR_own M.ixR_par M.ziJ M.eVQ_own M.Vb_val M.Vb_own M.Vb_own2 M.Va_val M.Va_own List.replicate_succ List.replicate_zero List.length_cons List.length_nil List.cons_append List.nil_append List.all_cons List.all_nil Bool.and_true Bool.true_and Bool.and_self Bool.true_eq_false Bool.false_eq_true if_false M.dEq_int M.dNe_int List.length_map List.length_append M.atI_n M.atI_lit M.ixN_n M.ixN_lit M.atI_n1 M.ok_none M.dItems_l M.dItems_t M.dItems_s M.dLen_l M.dLen_t M.dLen_s M.dTuple_l M.dTuple_t M.dTuple_s M.dCut_l M.dCut_t M.dCut_s M.dIx_l M.dIx_t M.dIx_s M.zkp M.zip3D_w M.isN_non M.isN_int M.isN_bl M.isN_str M.isN_lst M.isN_tup M.bkT_bk M.flT_bk M.ckG_nil M.ckG_cons M.flS_val M.flS_own M.flS_tre M.flS_par M.flS_ptr M.flS_emp M.flD_bl M.flD_int M.flD_non M.flD_str M.flT_tup M.flC_d M.flC_l M.kOb_ob M.dAt_ob beq_self_eq_true Bool.not_true Bool.not_false M.zbw Int.toNat_natCast M.rangeD_w M.zap decide_eq_true_eq Bool.and_eq_true true_and and_true Nat.reduceAdd Nat.reduceLeDiff Int.reduceLT Int.reduceLE Int.reduceNeg Nat.reduceSub Int.reducePow Int.reduceMul Int.reduceAdd Int.reduceSub Int.reduceMod Int.reduceDiv Nat.reduceLT Nat.reduceBNe Nat.reduceEqDiff List.filter_cons List.filter_nil bne_self_eq_false Int.reduceToNat Nat.reducePow M.znr Int.reduceEq Int.reduceBEq Int.reduceBNe Nat.reduceMod decide_true decide_false beq_iff_eq beq_eq_false_iff_ne bne_iff_ne bne_eq_false_iff_eq decide_eq_false_iff_not Int.not_le Int.not_lt ne_eq forall_const true_implies false_implies reduceCtorEq imp_self implies_true M.D.bl.injEq exists_eq_left' Bool.not_true Bool.not_false".splitOn " ").toArray.mapM (f false)
  `(tactic| simp only [$a,*, $b,*, $ls,*])
namespace Prf
open L2 M PySem
def top (i:Nat):Stmt:=PySem.Challenge.pw_tellsum_k54_whole_sums_moved_by_rows.main.body.getD i (.Pass ⟨0,0,0,0⟩)
structure BN (K:W.Frag) (mg:Str->Option Value):Prop where
 oc:OC K slC slN
 abs':mg "abs"=none
 all':mg "all"=none
 any':mg "any"=none
 enumerate':mg "enumerate"=none
 len':mg "len"=none
 list':mg "list"=none
 max':mg "max"=none
 min':mg "min"=none
 range':mg "range"=none
 sorted':mg "sorted"=none
 sum':mg "sum"=none
 tuple':mg "tuple"=none
 zip':mg "zip"=none
section
variable {P:Program} {w:World} {K:W.Frag} {mg:Str->Option Value} {base hp:Heap} {f:Addr} {fd:FuncData} (X:K.In hp) (G:hp.Ns mainGlobals mg) (bn:BN K mg)
include X G bn
abbrev zg2:Stmt:=top 1
def zfu:ME:=
 (eIxV 0 (eVar 1))
def zfn:MO:=
 oLC [0] 1 (iSeq (eVar 1)) (gN 1) zbB zfu
def zeX:MS:=
 (sRet (mC dSum (zae (eFz zfn) aNil)))
def zdo:List D->Option Sl:=fP 2 zeX
theorem zkh (h:FnAt K "chosen_sum" zg2):FD P w K mg base 1 "chosen_sum" (spP K 2 zdo):=
 fdP (N:=["row","places"]) (k:=0) (m:=zeX) X G h fun _ _ _ _ _ _ _ hr nd=>(zai (zaF (se_sum rfl bn.sum' (zaa (SO.se (zbT [0] 1 ["row","place"] rfl (zbd (zab 1)) (fun C s H fp=>(zak 1 ndk)) (fun C s H fp=>zaC) (fun C s H fp=>(zao 0 (zab 1))))) zaf))))
abbrev zi0:Stmt:=top 2
def zgD:ME:=
 (zbb zdo (zae (eVar 0) (zae (eVar 1) aNil)))
def zgZ:MO:=
 oLC [0] 1 (iSeq (eVar 1)) (gN 1) zbB zgD
def zho:MS:=
 (sRet (mC zbi (zae (eFz zgZ) aNil)))
def zdL:List D->Option Sl:=fP 2 zho
theorem zlv (zeh:FD P w K mg base 1 "chosen_sum" (spP K 2 zdo))(h:FnAt K "set_sums" zi0):FD P w K mg base 2 "set_sums" (spP K 2 zdL):=
 fdP (N:=["row","sets"]) (k:=1) (m:=zho) X G h fun _ _ _ _ _ _ _ hr nd=>(zai (zaF (za9 bn.tuple' (zaa (SO.se (zbT [0] 1 ["row","places"] rfl (zbd (zab 1)) (fun C s H fp=>(zak 1 ndk)) (fun C s H fp=>zaC) (fun C s H fp=>(zav zeh hr (zaa (zab 0) (zaa (zab 1) zaf)) (hlen:=(zac (zac zah))))))) zaf))))
abbrev zhK:Stmt:=top 4
def zgo:MS:=
 (sRet (eAnd (m2 dEq (zfK 1) (eIxV 0 (eC (.int 0)))) (m2 dEq (zbb zdL (zae (eVar 1) (zae (eIxV 0 (eC (.int 1))) aNil))) (eIxV 0 (eC (.int 2))))))
def zee:List D->Option Sl:=fP 2 zgo
theorem zk1 (zgl:FD P w K mg base 2 "set_sums" (spP K 2 zdL))(h:FnAt K "sets_hold" zhK):FD P w K mg base 3 "sets_hold" (spP K 2 zee):=
 fdP (N:=["telling","row"]) (k:=2) (m:=zgo) X G h fun _ _ _ _ _ _ _ hr nd=>(zai (zaF (zm4 (zlS hr.units (zb6 1 bn.len') (zao 0 zag)) (zmC (zlS hr.units (zav zgl hr (zaa (zab 1) (zaa (zao 0 zag) zaf)) (hlen:=(zac (zac zah)))) (zao 0 zag))))))
abbrev zh9:Stmt:=top 6
def zgz:ME:=
 (eIf (tTru (m2 dEq (eVar 1) (eVar 0))) (eC (.int 1)) (eC (.int 0)))
def zgO:MO:=
 oLC [1] 1 (iR1 (zae (eVar 0) aNil)) (gN 1) zbB zgz
def zhn:MS:=
 (zhd zgO)
def zdI:List D->Option Sl:=fP 2 zhn
theorem zlx (h:FnAt K "unit_row" zh9):FD P w K mg base 1 "unit_row" (spP K 2 zdI):=
 fdP (N:=["many","place"]) (k:=0) (m:=zhn) X G h fun _ _ _ _ _ _ _ hr nd=>(zai (zc5 (zbT [1] 1 ["place","other"] rfl (zaP bn.range' (zaa (zab 0) zaf)) (fun C s H fp=>(zak 1 ndk)) (fun C s H fp=>zaC) (fun C s H fp=>(zmI (ziO hr.units (zab 1) (zab 0)) zag zag)))))
abbrev zhE:Stmt:=top 7
def zfL:ME:=
 (zbb zdI (zae (eVar 0) (zae (eVar 1) aNil)))
def zfU:MO:=
 oLC [0] 1 (iR1 (zae (eVar 0) aNil)) (gN 1) zbB zfL
def zgd:MS:=
 (zhd zfU)
def zbC:List D->Option Sl:=fP 1 zgd
theorem zlf (zge:FD P w K mg base 1 "unit_row" (spP K 2 zdI))(h:FnAt K "unit_rows" zhE):FD P w K mg base 2 "unit_rows" (spP K 1 zbC):=
 fdP (N:=["many"]) (k:=1) (m:=zgd) X G h fun _ _ _ _ _ _ _ hr nd=>(zai (zc5 (zbT [0] 1 ["many","place"] rfl (zaP bn.range' (zaa (zab 0) zaf)) (fun C s H fp=>(zak 1 ndk)) (fun C s H fp=>zaC) (fun C s H fp=>(zav zge hr (zaa (zab 0) (zaa (zab 1) zaf)) (hlen:=(zac (zac zah))))))))
abbrev zjC:Stmt:=top 8
def zhC:ME:=
 (eIf (tTru (m2 dIn (eVar 1) (eVar 0))) (eC (.int 1)) (eC (.int 0)))
def zhJ:MO:=
 oLC [1] 1 (iR1 (zae (eVar 0) aNil)) (gN 1) zbB zhC
def zia:MS:=
 (zhd zhJ)
def ze6:List D->Option Sl:=fP 2 zia
theorem znQ (h:FnAt K "has_row" zjC):FD P w K mg base 1 "has_row" (spP K 2 ze6):=
 fdP (N:=["many","places"]) (k:=0) (m:=zia) X G h fun _ _ _ _ _ _ _ hr nd=>(zai (zc5 (zbT [1] 1 ["places","place"] rfl (zaP bn.range' (zaa (zab 0) zaf)) (fun C s H fp=>(zak 1 ndk)) (fun C s H fp=>zaC) (fun C s H fp=>(zmI (st_in (zab 1) (zab 0)) zag zag)))))
abbrev zhy:Stmt:=top 9
def zfS:ME:=
 (m2 dSub (eVar 1) (m2 zjO (eVar 0) (eVar 2)))
def zfR:MO:=
 oLC [2] 2 (iZ2 (zae (eVar 0) (zae (eVar 1) aNil))) (gT 2 (zaQ (gN 1) (zaQ (gN 2) zgk))) zbB zfS
def zgb:MS:=
 (zhd zfR)
def zaT:List D->Option Sl:=fP 3 zgb
theorem zkH (h:FnAt K "taken_off" zhy):FD P w K mg base 1 "taken_off" (spP K 3 zaT):=
 fdP (N:=["row","other","times"]) (k:=0) (m:=zgb) X G h fun _ _ _ _ _ _ _ hr nd=>(zai (zc5 (zbT [2] 2 ["times","number","less"] rfl (zfC bn.zip' (zaa (zab 0) (zaa (zab 1) zaf))) (fun C s H fp=>(zd6 rfl (zax (zak 1 ndk) (zax (zak 2 ndk) zb5)))) (fun C s H fp=>zaC) (fun C s H fp=>(ziD (zab 1) (zgf (zab 0) (zab 2)))))))
abbrev zcV:Stmt:=top 10
def zbM:MS:=
 (sRet (m2 dAdd (m2 dAdd (eCut (eVar 0) pNo (zhx (eVar 1))) (eFz (oLst (zae (m2 dSub (eIxV 0 (eVar 1)) (m2 zjO (eVar 3) (eIxV 0 (eVar 2)))) aNil)))) (eCut (eVar 0) (zhx (m2 dAdd (eVar 1) (eC (.int 1)))) pNo)))
def za2:List D->Option Sl:=fP 4 zbM
theorem zf9 (h:FnAt K "column_taken_off" zcV):FD P w K mg base 1 "column_taken_off" (spP K 4 za2):=
 fdP (N:=["row","c","other","times"]) (k:=0) (m:=zbM) X G h fun _ _ _ _ _ _ _ hr nd=>(zai (zaF (za7 (za7 (zgP (zab 0) zl8 (zc0 (zab 1))) (SO.se (zgH (zaa (ziD (zao 0 (zab 1)) (zgf (zab 3) (zao 0 (zab 2)))) zaf)))) (zgP (zab 0) (zc0 (za7 (zab 1) zag)) zl8))))
abbrev zfa:Stmt:=top 11
def zdU:ME:=
 (m2 zjO (eVar 0) (eVar 1))
def zdE:MO:=
 oLC [] 2 (iZ2 (zae (eVar 0) (zae (eVar 1) aNil))) (gT 2 (zaQ (gN 0) (zaQ (gN 1) zgk))) zbB zdU
def zdD:MS:=
 (sRet (mC dSum (zae (eFz zdE) aNil)))
def zbt:List D->Option Sl:=fP 2 zdD
theorem ziK (h:FnAt K "products_sum" zfa):FD P w K mg base 1 "products_sum" (spP K 2 zbt):=
 fdP (N:=["row","other"]) (k:=0) (m:=zdD) X G h fun _ _ _ _ _ _ _ hr nd=>(zai (zaF (se_sum rfl bn.sum' (zaa (SO.se (zbT [] 2 ["number","times"] rfl (zfC bn.zip' (zaa (zab 0) (zaa (zab 1) zaf))) (fun C s H fp=>(zd6 rfl (zax (zak 0 ndk) (zax (zak 1 ndk) zb5)))) (fun C s H fp=>zaC) (fun C s H fp=>(zgf (zab 0) (zab 1))))) zaf))))
abbrev zbF:Stmt:=zfe (top 12) 2
def zdZ:ME:=
 (eKG (kAt slC slN (eVar 0)) (eVar 1))
def zd0:MO:=
 oLC [0] 1 (iKN (kAt slC slN (eVar 0))) (gN 1) zbB zdZ
def zd9:ME:=
 (eVar 1)
def zdJ:MT:=
 (tTru (m2 zpu (eVar 1) (eVar 0)))
def zed:MO:=
 oLC [1] 1 (iR1 (zae (mC dLen (zae (m1 (dAt slC slN 2) (eVar 0)) aNil)) aNil)) (gN 1) zdJ zd9
def zdC:MS:=
 (sSeq (sSet 1 (eFz zd0))
  (zhd zed))
def za3:List D->Option Sl:=fP 2 zdC
theorem zi6 (h:MAtC K slC "open_columns" "Slant.open_columns" zbF):MV P w K mg base 1 slC "open_columns" (spP K 1 za3):=
 mvP (N:=["self","done"]) (k:=0) (m:=zdC) h fun _ _ _ _ _ _ _ hr nd=>(zad (zat 1 (SO.se (zbT [0] 1 ["self","r"] rfl (it_dk (zjk 4 bn.oc (zab 0))) (fun C s H fp=>(zak 1 ndk)) (fun C s H fp=>zaC) (fun C s H fp=>(zj2 (zjk 4 bn.oc (zab 0)) (zab 1))))) nd)
  (zai (zc5 (zbT [1] 1 ["done","c"] rfl (zaP bn.range' (zaa (zo8 bn.len' (zaa (zdc 2 bn.oc (zab 0)) zaf)) zaf)) (fun C s H fp=>(zak 1 ndk)) (fun C s H fp=>(zfd (st_notIn (zab 1) (zab 0)))) (fun C s H fp=>(zab 1))))))
abbrev zde:Stmt:=zfe (top 12) 1
def zfT:ME:=
 (eVar 1)
def zfQ:MT:=
 (tKI true (eVar 1) (kAt slC slN (eVar 0)))
def zfP:MO:=
 oLC [0] 1 (iR1 (zae (mC dLen (zae (m1 (dAt slC slN 1) (eVar 0)) aNil)) aNil)) (gN 1) zfQ zfT
def zf6:MS:=
 (zhd zfP)
def zbz:List D->Option Sl:=fP 1 zf6
theorem zkS (h:MAtC K slC "open_rows" "Slant.open_rows" zde):MV P w K mg base 1 slC "open_rows" (spP K 1 zbz):=
 mvP (N:=["self"]) (k:=0) (m:=zf6) h fun _ _ _ _ _ _ _ hr nd=>(zai (zc5 (zbT [0] 1 ["self","r"] rfl (zaP bn.range' (zaa (zo8 bn.len' (zaa (zdc 1 bn.oc (zab 0)) zaf)) zaf)) (fun C s H fp=>(zak 1 ndk)) (fun C s H fp=>(zfd (znu (zab 1) (zjk 4 bn.oc (zab 0))))) (fun C s H fp=>(zab 1)))))
abbrev zbY:Stmt:=zfe (top 12) 3
def zdO:ME:=
 (eTup (zae (mC dAbs (zae (m2 dIx (m2 dIx (m1 (dAt slC slN 0) (eVar 0)) (eVar 1)) (eVar 2)) aNil)) (zae (eVar 1) (zae (eVar 2) aNil))))
def zd3:MT:=
 (tTru (m2 dNe (m2 dIx (m2 dIx (m1 (dAt slC slN 0) (eVar 0)) (eVar 1)) (eVar 2)) (eC (.int 0))))
def zdG:MO:=
 oLC [0,3] 1 (iSeq (eVar 1)) (gN 2) zd3 zdO
def zd5:MS:=
 (sExt 2 (eFz zdG))
def zdS:MS:=
 sFor (iSeq (zeQ zbz slC slN (eVar 0) aNil)) (gN 3) zd5
def zdQ:MS:=
 (sRet (eCut (mC zor (zae (eVar 2) aNil)) (zhx (eC (.int 1))) pNo))
def zdz:MS:=
 (sSeq (sSet 1 (zeQ za3 slC slN (eVar 0) aNil))
  (sSeq (zi2 2 (oLst aNil))
  (sSeq zdS
  (sSeq (sIf (tTru (m2 dEq (zfK 2) (eC (.int 0))))
  (sRet (eC .non))
  zcw)
  zdQ))))
def za4:List D->Option Sl:=fP 4 zdz
theorem zi1 (md_open_columns:MV P w K mg base 1 slC "open_columns" (spP K 1 za3))(md_open_rows:MV P w K mg base 1 slC "open_rows" (spP K 1 zbz))(h:MAtC K slC "least_corner" "Slant.least_corner" zbY):MV P w K mg base 2 slC "least_corner" (spP K 1 za4):=
 mvP (N:=["self","columns","corners","r"]) (k:=1) (m:=zdz) h fun _ _ _ _ _ _ _ hr nd=>(zad (zat 1 (zea (ns:=slN) (by decide+kernel) md_open_columns hr (zab 0)) nd)
  (zad (zeg 2 (zgH zaf) nd)
  (zad (zdY qcR rfl (zbd (zea (ns := slN) (by decide +kernel) md_open_rows hr (zab 0))) (zak 3 nd)
  (zai (ss_ext 2 (SO.se (zbT [0,3] 1 ["self","r","c"] rfl (zbd (zab 1)) (fun C s H fp=>(zak 2 ndk)) (fun C s H fp=>(zfd (zh5 hr.units (zau (zau (zdc 0 bn.oc (zab 0)) (zab 1)) (zab 2)) zag))) (fun C s H fp=>(zbo (zaa (zkK bn.abs' (zaa (zau (zau (zdc 0 bn.oc (zab 0)) (zab 1)) (zab 2)) zaf)) (zaa (zab 1) (zaa (zab 2) zaf))))))))))
  (zad (zcr (ziO hr.units (zb6 2 bn.len') zag)
  (zai (zaF se_non))
  zaM)
  (zai (zaF (zgP (se_minT rfl hr.units bn.min' (zaa (zab 2) zaf)) (zc0 zag) zl8)))))))
abbrev zen:Stmt:=zfe (top 12) 5
def zhr:MS:=
 (sSeq (sOFs slC slN 0 0 1 (eLkO 0 (zbb zaT (zae (m2 dIx (m1 (dAt slC slN 0) (eVar 0)) (eVar 1)) (zae (m2 dIx (m1 (dAt slC slN 0) (eVar 0)) (eVar 2)) (zae (eVar 3) aNil))))))
  (sOFs slC slN 0 1 1 (eLkO 0 (zbb zaT (zae (m2 dIx (m1 (dAt slC slN 1) (eVar 0)) (eVar 1)) (zae (m2 dIx (m1 (dAt slC slN 1) (eVar 0)) (eVar 2)) (zae (eVar 3) aNil)))))))
def zdT:R->Option (Sl×R):=fG 4 zhr
theorem zl4 (zaH:FD P w K mg base 1 "taken_off" (spP K 3 zaT))(h:MAtC K slC "take_row" "Slant.take_row" zen):MV P w K mg base 2 slC "take_row" (spG K 4 zdT):=
 mvG (N:=["self","r","other","times"]) (k:=1) (m:=zhr) h fun _ _ _ _ _ _ _ hr nd=>(zad (zh1 0 0 1 bn.oc (zb9 0 (zav zaH hr (zaa (zau (zdc 0 bn.oc (zab 0)) (zab 1)) (zaa (zau (zdc 0 bn.oc (zab 0)) (zab 2)) (zaa (zab 3) zaf))) (hlen:=(zac (zac (zac zah)))))))
  (zai (zh1 0 1 1 bn.oc (zb9 0 (zav zaH hr (zaa (zau (zdc 1 bn.oc (zab 0)) (zab 1)) (zaa (zau (zdc 1 bn.oc (zab 0)) (zab 2)) (zaa (zab 3) zaf))) (hlen:=(zac (zac (zac zah)))))))))
abbrev zcc:Stmt:=zfe (top 12) 6
def zeC:ME:=
 (zbb za2 (zae (eVar 3) (zae (eVar 0) (zae (eVar 1) (zae (eVar 2) aNil)))))
def zeH:MO:=
 oLC [1,2,3] 1 (iSeq (m1 (dAt slC slN 0) (eVar 0))) (gN 3) zbB zeC
def zet:MS:=
 (sSeq (sOFr slC slN 0 0 (oLkO 0 zeH))
  (sSeq (sOFs slC slN 0 2 1 (eLkO 0 (zbb zaT (zae (m2 dIx (m1 (dAt slC slN 2) (eVar 0)) (eVar 1)) (zae (m2 dIx (m1 (dAt slC slN 2) (eVar 0)) (eVar 2)) (zae (eVar 3) aNil))))))
  (sOFs slC slN 0 3 2 (eLkO 0 (zbb zaT (zae (m2 dIx (m1 (dAt slC slN 3) (eVar 0)) (eVar 2)) (zae (m2 dIx (m1 (dAt slC slN 3) (eVar 0)) (eVar 1)) (zae (m1 dNeg (eVar 3)) aNil))))))))
def zbV:R->Option (Sl×R):=fG 4 zet
theorem zi9 (zby:FD P w K mg base 1 "column_taken_off" (spP K 4 za2))(zaH:FD P w K mg base 1 "taken_off" (spP K 3 zaT))(h:MAtC K slC "take_column" "Slant.take_column" zcc):MV P w K mg base 2 slC "take_column" (spG K 4 zbV):=
 mvG (N:=["self","c","other","times"]) (k:=1) (m:=zet) h fun _ _ _ _ _ _ _ hr nd=>(zad (ss_obRep 0 0 bn.oc (so_lookO 0 (zbT [1,2,3] 1 ["c","other","times","row"] rfl (zbd (zdc 0 bn.oc (zab 0))) (fun C s H fp=>(zak 3 ndk)) (fun C s H fp=>zaC) (fun C s H fp=>(zav zby hr (zaa (zab 3) (zaa (zab 0) (zaa (zab 1) (zaa (zab 2) zaf)))) (hlen:=(zac (zac (zac (zac zah))))))))))
  (zad (zh1 0 2 1 bn.oc (zb9 0 (zav zaH hr (zaa (zau (zdc 2 bn.oc (zab 0)) (zab 1)) (zaa (zau (zdc 2 bn.oc (zab 0)) (zab 2)) (zaa (zab 3) zaf))) (hlen := (zac (zac (zac zah)))))))
  (zai (zh1 0 3 2 bn.oc (zb9 0 (zav zaH hr (zaa (zau (zdc 3 bn.oc (zab 0)) (zab 2)) (zaa (zau (zdc 3 bn.oc (zab 0)) (zab 1)) (zaa (ziC (zab 3)) zaf))) (hlen:=(zac (zac (zac zah))))))))))
abbrev zcd:Stmt:=zfe (top 12) 4
def zeF:ME:=
 (eVar 1)
def zeB:MT:=
 (tTru (m2 dNe (eVar 1) (eVar 0)))
def zeJ:MO:=
 oLC [1] 1 (iSeq (zeQ zbz slC slN (eVar 0) aNil)) (gN 1) zeB zeF
def zeN:ME:=
 (eVar 1)
def zeK:MT:=
 (tTru (m2 dNe (eVar 1) (eVar 0)))
def zeE:MO:=
 oLC [2] 1 (iSeq (zeQ za3 slC slN (eVar 0) aNil)) (gN 1) zeK zeN
def zeP:MS:=
 (zp6 (zhM zdT slC slN 0 (zae (eVar 5) (zae (eVar 1) (zae (eLkO 0 (m2 zls (m2 dIx (m2 dIx (m1 (dAt slC slN 0) (eVar 0)) (eVar 5)) (eVar 2)) (m2 dIx (m2 dIx (m1 (dAt slC slN 0) (eVar 0)) (eVar 1)) (eVar 2)))) aNil)))))
def zcE:MS:=
 sFor (iSeq (eVar 3)) (gN 5) zeP
def zeI:MS:=
 (zp6 (zhM zbV slC slN 0 (zae (eVar 5) (zae (eVar 2) (zae (eLkO 0 (m2 zls (m2 dIx (m2 dIx (m1 (dAt slC slN 0) (eVar 0)) (eVar 1)) (eVar 5)) (m2 dIx (m2 dIx (m1 (dAt slC slN 0) (eVar 0)) (eVar 1)) (eVar 2)))) aNil)))))
def zcB:MS:=
 sFor (iSeq (eVar 4)) (gN 5) zeI
def zeL:ME:=
 (m2 dIx (m2 dIx (m1 (dAt slC slN 0) (eVar 0)) (eVar 2)) (eVar 1))
def zeM:MO:=
 oLC [0,2] 1 (iSeq (eVar 3)) (gN 2) zbB zeL
def zey:ME:=
 (m2 dIx (m2 dIx (m1 (dAt slC slN 0) (eVar 0)) (eVar 1)) (eVar 2))
def zez:MO:=
 oLC [0,1] 1 (iSeq (eVar 4)) (gN 2) zbB zey
def zep:MS:=
 (sSeq (sSet 3 (eFz (oLkO 0 zeJ)))
  (sSeq (sSet 4 (eFz (oLkO 0 zeE)))
  (sSeq zcE
  (sSeq zcB
  (sIf (zn1 (zjh (tTru (eLkO 0 (mC zoS (zae (eFz zeM) aNil))))) (zjh (tTru (eLkO 0 (mC zoS (zae (eFz zez) aNil))))))
  (sOFk slC slN 0 1 (eVar 2))
  zcw)))))
def zbR:R->Option (Sl×R):=fG 6 zep
theorem zjf (md_open_columns:MV P w K mg base 1 slC "open_columns" (spP K 1 za3))(md_open_rows:MV P w K mg base 1 slC "open_rows" (spP K 1 zbz))(md_take_column:MV P w K mg base 2 slC "take_column" (spG K 4 zbV))(md_take_row:MV P w K mg base 2 slC "take_row" (spG K 4 zdT))(h:MAtC K slC "clear_cross" "Slant.clear_cross" zcd):MV P w K mg base 3 slC "clear_cross" (spG K 3 zbR):=
 mvG (N:=["self","r","c","rows","columns","other"]) (k:=2) (m:=zep) h fun _ _ _ _ _ _ _ hr nd=>(zad (zkL 0 3 [1] 1 ["r","other"] rfl (zbd (zea (ns:=slN) (by decide+kernel) md_open_rows hr (zab 0))) (fun C s H fp=>(zak 1 ndk)) (fun C s H fp=>(zfd (zh5 hr.units (zab 1) (zab 0)))) (fun C s H fp=>(zab 1)) nd)
  (zad (zkL 0 4 [2] 1 ["c", "other"] rfl (zbd (zea (ns := slN) (by decide +kernel) md_open_columns hr (zab 0))) (fun C s H fp => (zak 1 ndk)) (fun C s H fp => (zfd (zh5 hr.units (zab 1) (zab 0)))) (fun C s H fp => (zab 1)) nd)
  (zad (zdY qcR rfl (zbd (zab 3)) (zak 5 nd)
  (zai (zlU (zj9 0 (c:=slC) (ns:=slN) (by decide+kernel) md_take_row hr (zaa (zab 5) (zaa (zab 1) (zaa (zb9 0 (zie (zau (zau (zdc 0 bn.oc (zab 0)) (zab 5)) (zab 2)) (zau (zau (zdc 0 bn.oc (zab 0)) (zab 1)) (zab 2)))) zaf))) (zbs (zac (zac (zac zah))))))))
  (zad (zdY qcR rfl (zbd (zab 4)) (zak 5 nd)
  (zai (zlU (zj9 0 (c:=slC) (ns:=slN) (by decide+kernel) md_take_column hr (zaa (zab 5) (zaa (zab 2) (zaa (zb9 0 (zie (zau (zau (zdc 0 bn.oc (zab 0)) (zab 1)) (zab 5)) (zau (zau (zdc 0 bn.oc (zab 0)) (zab 1)) (zab 2)))) zaf))) (zbs (zac (zac (zac zah))))))))
  (zai (zcr (STw.st (sw_and (zhL (zdg (zb9 0 (zpi rfl bn.any' (zaa (SO.se (zbT [0, 2] 1 ["self", "c", "other"] rfl (zbd (zab 3)) (fun C s H fp => (zak 2 ndk)) (fun C s H fp => zaC) (fun C s H fp => (zau (zau (zdc 0 bn.oc (zab 0)) (zab 2)) (zab 1))))) zaf))))) (zpB (zhL (zdg (zb9 0 (zpi rfl bn.any' (zaa (SO.se (zbT [0, 1] 1 ["self", "r", "other"] rfl (zbd (zab 4)) (fun C s H fp => (zak 2 ndk)) (fun C s H fp => zaC) (fun C s H fp => (zau (zau (zdc 0 bn.oc (zab 0)) (zab 1)) (zab 2))))) zaf))))))))
  (zai (ss_obPut 0 4 1 bn.oc (zab 2)))
  zaM))))))
abbrev zek:Stmt:=zfe (top 12) 0
def zg5:ME:=
 (zbb ze6 (zae (eIxV 0 (eC (.int 0))) (zae (eVar 1) aNil)))
def zgt:MO:=
 oLC [1] 1 (iSeq (eIxV 1 (eC (.int 1)))) (gN 1) zbB zg5
def zgu:MT:=
 (tTru (m2 zl7 (eVar 2) (eC .non)))
def zgC:MS:=
 (sSeq (zp6 (zhM zbR slC slN 0 (zae (eIxV 2 (eC (.int 0))) (zae (eIxV 2 (eC (.int 1))) aNil))))
  (sSet 2 (eLkO 0 (zeQ za4 slC slN (eVar 0) aNil))))
def zgX:MS:=
 zfO zgu zgC bigF
def zhg:MS:=
 (sSeq (sOFa slC (slN.take 0) (slN.take 1) 0 zgt)
  (sSeq (sOFa slC (slN.take 1) (slN.take 2) 0 (zlM zbC (zae (mC dLen (zae (eIxV 1 (eC (.int 1))) aNil)) aNil)))
  (sSeq (sOFa slC (slN.take 2) (slN.take 3) 0 (zlM zbC (zae (eIxV 1 (eC (.int 0))) aNil)))
  (sSeq (sOFa slC (slN.take 3) (slN.take 4) 0 (zlM zbC (zae (eIxV 1 (eC (.int 0))) aNil)))
  (sSeq (sOFd slC (slN.take 4) slN 0)
  (sSeq (sSet 2 (eLkO 0 (zeQ za4 slC slN (eVar 0) aNil)))
  zgX))))))
def zdH:R->Option (Sl×R):=fG 3 zhg
theorem zlX (md_clear_cross:MV P w K mg base 3 slC "clear_cross" (spG K 3 zbR))(zhj:FD P w K mg base 1 "has_row" (spP K 2 ze6))(md_least_corner:MV P w K mg base 2 slC "least_corner" (spP K 1 za4))(zcz:FD P w K mg base 2 "unit_rows" (spP K 1 zbC))(h:IAtC K mg slC "Slant.__init__" zek):MkO P w K mg base 4 slC (spG K 2 zdH):=
 mkG (N:=["self","telling","corner"]) (k:=3) (m:=zhg) h fun _ _ _ _ _ _ _ hr nd=>(zad (zhX (c:=slC) (ns:=slN.take 0) 0 (slN.take 1) (bn.oc.take 1) (zbT [1] 1 ["telling","places"] rfl (zbd (zao 1 zag)) (fun C s H fp=>(zak 1 ndk)) (fun C s H fp=>zaC) (fun C s H fp=>(zav zhj hr (zaa (zao 0 zag) (zaa (zab 1) zaf)) (hlen:=(zac (zac zah)))))))
  (zad (zhX (c := slC) (ns := slN.take 1) 0 (slN.take 2) (bn.oc.take 2) (zik zcz hr (zaa (zo8 bn.len' (zaa (zao 1 zag) zaf)) zaf) (hlen := (zac zah))))
  (zad (zhX (c := slC) (ns := slN.take 2) 0 (slN.take 3) (bn.oc.take 3) (zik zcz hr (zaa (zao 1 zag) zaf) (hlen := (zac zah))))
  (zad (zhX (c := slC) (ns := slN.take 3) 0 (slN.take 4) (bn.oc.take 4) (zik zcz hr (zaa (zao 1 zag) zaf) (hlen := (zac zah))))
  (zad (ss_obDic (c := slC) (ns := slN.take 4) 0 slN bn.oc)
  (zad (zat 2 (zb9 0 (zea (ns := slN) (by decide +kernel) md_least_corner hr (zab 0))) nd)
  (zai (zkm bigF qcR (st_isNot (zab 2) se_non)
  (zad (zlU (zj9 0 (c := slC) (ns := slN) (by decide +kernel) md_clear_cross hr (zaa (zao 2 zag) (zaa (zao 2 zag) zaf)) (zbs (zac (zac zah)))))
  (zai (zat 2 (zb9 0 (zea (ns:=slN) (by decide+kernel) md_least_corner hr (zab 0))) nd)))))))))))
abbrev zbZ:Stmt:=zfe (top 12) 7
def zdu:MS:=
 (sRet (m2 dIx (m2 dIx (m1 (dAt slC slN 0) (eVar 0)) (eVar 1)) (eKG (kAt slC slN (eVar 0)) (eVar 1))))
def zbv:List D->Option Sl:=fP 2 zdu
theorem ziA (h:MAtC K slC "slant_number" "Slant.slant_number" zbZ):MV P w K mg base 1 slC "slant_number" (spP K 2 zbv):=
 mvP (N:=["self","r"]) (k:=0) (m:=zdu) h fun _ _ _ _ _ _ _ hr nd=>(zai (zaF (zau (zau (zdc 0 bn.oc (zab 0)) (zab 1)) (zj2 (zjk 4 bn.oc (zab 0)) (zab 1)))))
abbrev zdF:Stmt:=top 13
def zda:MT:=
 (tTru (m2 dNe (eVar 3) (eC (.int 0))))
def zcT:MS:=
 (sSeq (sSet 4 (m2 dMod (eVar 2) (eVar 3)))
  (sSeq (sSet 2 (eVar 3))
  (sSet 3 (eVar 4))))
def zc6:MS:=
 zfO zda zcT bigF
def zcD:MS:=
 (sSeq (sSet 2 (mC dAbs (zae (eVar 0) aNil)))
  (sSeq (sSet 3 (mC dAbs (zae (eVar 1) aNil)))
  (sSeq zc6
  (zjW 2))))
def zaJ:List D->Option Sl:=fP 5 zcD
theorem zhc (h:FnAt K "common_divisor" zdF):FD P w K mg base 1 "common_divisor" (spP K 2 zaJ):=
 fdP (N:=["number","other","first","second","left"]) (k:=0) (m:=zcD) X G h fun _ _ _ _ _ _ _ hr nd=>(zad (zat 2 (zkK bn.abs' (zaa (zab 0) zaf)) nd)
  (zad (zat 3 (zkK bn.abs' (zaa (zab 1) zaf)) nd)
  (zad (zkm bigF qcR (zh5 hr.units (zab 3) zag)
  (zad (zat 4 (zgM (zab 2) (zab 3)) nd)
  (zad (zat 2 (zab 3) nd)
  (zai (zat 3 (zab 4) nd)))))
  (zai (zhu 2)))))
abbrev zin:Stmt:=top 14
def zef:MS:=
 (sRet (eTup (zae (m2 zls (eVar 0) (eVar 2)) (zae (m2 zls (eVar 1) (eVar 2)) aNil))))
def zhe:MS:=
 (sSeq (sSet 2 (zbb zaJ (zae (eVar 0) (zae (eVar 1) aNil))))
  (sSeq (sIf (tTru (m2 dLt (eVar 1) (eC (.int 0))))
  (sSet 2 (m1 dNeg (eVar 2)))
  zcw)
  zef))
def zd2:List D->Option Sl:=fP 3 zhe
theorem zlP (zaO:FD P w K mg base 1 "common_divisor" (spP K 2 zaJ))(h:FnAt K "ratio_of" zin):FD P w K mg base 2 "ratio_of" (spP K 2 zd2):=
 fdP (N:=["top","bottom","divisor"]) (k:=1) (m:=zhe) X G h fun _ _ _ _ _ _ _ hr nd=>(zad (zat 2 (zav zaO hr (zaa (zab 0) (zaa (zab 1) zaf)) (hlen:=(zac (zac zah)))) nd)
  (zad (zcr (zop (zab 1) zag)
  (zai (zat 2 (ziC (zab 2)) nd))
  zaM)
  (zai (zaF (zbo (zaa (zie (zab 0) (zab 2)) (zaa (zie (zab 1) (zab 2)) zaf)))))))
abbrev ziw:Stmt:=top 15
def zhm:MS:=
 (sRet (eAnd (m2 dGe (eVar 1) (eC (.int 1))) (m2 dEq (zbb zaJ (zae (eVar 0) (zae (eVar 1) aNil))) (eC (.int 1)))))
def zdV:List D->Option Sl:=fP 2 zhm
theorem zln (zaO:FD P w K mg base 1 "common_divisor" (spP K 2 zaJ))(h:FnAt K "is_ratio" ziw):FD P w K mg base 2 "is_ratio" (spP K 2 zdV):=
 fdP (N:=["top","bottom"]) (k:=1) (m:=zhm) X G h fun _ _ _ _ _ _ _ hr nd=>(zai (zaF (zm4 (se_ge (zab 1) zag) (zmC (zlS hr.units (zav zaO hr (zaa (zab 0) (zaa (zab 1) zaf)) (hlen:=(zac (zac zah)))) zag)))))
abbrev zgr:Stmt:=top 16
def zeV:MS:=
 (sSeq (sSet 1 (m2 dAdd (m2 zjO (eVar 1) (eVar 4)) (m2 zjO (eVar 3) (eVar 2))))
  (sSet 2 (m2 zjO (eVar 2) (eVar 4))))
def ze3:MS:=
 sFor (iSeq (eVar 0)) (gT 2 (zaQ (gN 3) (zaQ (gN 4) zgk))) zeV
def ze8:MS:=
 (sSeq (sSet 1 (eC (.int 0)))
  (sSeq (sSet 2 (eC (.int 1)))
  (sSeq ze3
  (sRet (eTup (zae (eVar 1) (zae (eVar 2) aNil)))))))
def zbD:List D->Option Sl:=fP 5 ze8
theorem zj8 (h:FnAt K "ratios_sum" zgr):FD P w K mg base 1 "ratios_sum" (spP K 1 zbD):=
 fdP (N:=["ratios","top","bottom","more","by"]) (k:=0) (m:=ze8) X G h fun _ _ _ _ _ _ _ hr nd=>(zad (zat 1 zag nd)
  (zad (zat 2 zag nd)
  (zad (zdY qcR rfl (zbd (zab 0)) (zd6 rfl (zax (zak 3 nd) (zax (zak 4 nd) zb5)))
  (zad (zat 1 (za7 (zgf (zab 1) (zab 4)) (zgf (zab 3) (zab 2))) nd)
  (zai (zat 2 (zgf (zab 2) (zab 4)) nd))))
  (zai (zaF (zbo (zaa (zab 1) (zaa (zab 2) zaf))))))))
abbrev ziZ:Stmt:=top 17
def zhq:MS:=
 (sRet (m2 dEq (m2 dMod (eIxV 0 (eC (.int 0))) (eIxV 0 (eC (.int 1)))) (eC (.int 0))))
def zcR:List D->Option Sl:=fP 1 zhq
theorem zlu (h:FnAt K "is_whole" ziZ):FD P w K mg base 1 "is_whole" (spP K 1 zcR):=
 fdP (N:=["ratio"]) (k:=0) (m:=zhq) X G h fun _ _ _ _ _ _ _ hr nd=>(zai (zaF (zlS hr.units (zgM (zao 0 zag) (zao 0 zag)) zag)))
abbrev zcU:Stmt:=top 18
def zce:MT:=
 (tTru (m2 dEq (m2 dMod (eVar 0) (eVar 1)) (eC (.int 0))))
def zcy:MS:=
 (zpm 1 (fun i j=>i+j) (eC (.int 1)))
def zck:MS:=
 zfO zce zcy bigF
def zbJ:MS:=
 (sSeq (sSet 1 (eC (.int 2)))
  (sSeq zck
  (zjW 1)))
def za0:List D->Option Sl:=fP 2 zbJ
theorem zgq (h:FnAt K "least_no_divisor" zcU):FD P w K mg base 1 "least_no_divisor" (spP K 1 za0):=
 fdP (N:=["number","by"]) (k:=0) (m:=zbJ) X G h fun _ _ _ _ _ _ _ hr nd=>(zad (zat 1 zag nd)
  (zad (zkm bigF qcR (ziO hr.units (zgM (zab 0) (zab 1)) zag)
  (zai (zo9 1 zag nd)))
  (zai (zhu 1))))
abbrev zju:Stmt:=top 19
def zhF:ME:=
 (zbb zd2 (zae (eVar 1) (zae (eVar 0) aNil)))
def zhD:MO:=
 oLC [1] 1 (iSeq (eVar 0)) (gN 1) zbB zhF
def ziX:MS:=
 (sRet (eTup (zae (eC (.str "none")) (zae (mC zbi (zae (eFz zhD) aNil)) aNil))))
def zd8:List D->Option Sl:=fP 2 ziX
theorem znv (zgi:FD P w K mg base 2 "ratio_of" (spP K 2 zd2))(h:FnAt K "none_by" zju):FD P w K mg base 3 "none_by" (spP K 2 zd8):=
 fdP (N:=["weights","bottom"]) (k:=2) (m:=ziX) X G h fun _ _ _ _ _ _ _ hr nd=>(zai (zaF (zbo (zaa zd4 (zaa (za9 bn.tuple' (zaa (SO.se (zbT [1] 1 ["bottom","weight"] rfl (zbd (zab 0)) (fun C s H fp=>(zak 1 ndk)) (fun C s H fp=>zaC) (fun C s H fp=>(zav zgi hr (zaa (zab 1) (zaa (zab 0) zaf)) (hlen:=(zac (zac zah))))))) zaf)) zaf)))))
abbrev zkv:Stmt:=top 20
def zic:MS:=
 (sSet 2 (zbb zaT (zae (eVar 2) (zae (m2 dIx (m1 (dAt slC slN 2) (eVar 1)) (eKG (kAt slC slN (eVar 1)) (eVar 3))) (zae (m1 dNeg (m2 zls (eVar 5) (eVar 6))) aNil)))))
def ziU:MS:=
 (sSeq (sSet 5 (zbb zbt (zae (eVar 4) (zae (eIxV 0 (eC (.int 2))) aNil))))
  (sIf (tKI false (eVar 3) (kAt slC slN (eVar 1)))
  (sSeq (sSet 6 (zeQ zbv slC slN (eVar 1) (zae (eVar 3) aNil)))
  (sSeq (sIf (tTru (m2 dNe (m2 dModF (eVar 5) (eVar 6)) (eC (.int 0))))
  (sRet (zbb zd8 (zae (eVar 4) (zae (eVar 6) aNil))))
  zcw)
  zic))
  (sIf (tTru (m2 dNe (eVar 5) (eC (.int 0))))
  (sRet (zbb zd8 (zae (eVar 4) (zae (zbb za0 (zae (eVar 5) aNil)) aNil))))
  zcw)))
def zh7:MS:=
 sFor (iEn (zae (m1 (dAt slC slN 1) (eVar 1)) aNil)) (gT 2 (zaQ (gN 3) (zaQ (gN 4) zgk))) ziU
def zjH:MS:=
 (sSeq (sMkO 1 slC slN zdH (zae (eVar 0) aNil))
  (sSeq (sSet 2 (m2 dMul (eFz (oLst (zae (eC (.int 0)) aNil))) (eIxV 0 (eC (.int 0)))))
  (sSeq zh7
  (sRet (eTup (zae (eC (.str "row")) (zae (mC zbi (zae (eVar 2) aNil)) aNil)))))))
def zaV:List D->Option Sl:=fP 7 zjH
theorem zoH (md___init__:MkO P w K mg base 4 slC (spG K 2 zdH))(zbx:FD P w K mg base 1 "least_no_divisor" (spP K 1 za0))(zfB:FD P w K mg base 3 "none_by" (spP K 2 zd8))(zcW:FD P w K mg base 1 "products_sum" (spP K 2 zbt))(md_slant_number:MV P w K mg base 1 slC "slant_number" (spP K 2 zbv))(zaH:FD P w K mg base 1 "taken_off" (spP K 3 zaT))(h:FnAt K "solved" zkv):FD P w K mg base 6 "solved" (spP K 1 zaV):=
 fdP (N:=["telling","slant","row","r","weights","total","number"]) (k:=5) (m:=zjH) X G h fun _ _ _ _ _ _ _ hr nd=>(zad (ss_mkO 1 (c:=slC) (ns:=slN) md___init__ hr (zaa (zab 0) zaf) (zbs (zac zah)) nd)
  (zad (zat 2 (ze1 (SO.se (zgH (zaa zag zaf))) (zao 0 zag)) nd)
  (zad (zdY qcR rfl (zg6 bn.enumerate' (zaa (zdc 1 bn.oc (zab 1)) zaf)) (zd6 rfl (zax (zak 3 nd) (zax (zak 4 nd) zb5)))
  (zad (zat 5 (zav zcW hr (zaa (zab 4) (zaa (zao 0 zag) zaf)) (hlen := (zac (zac zah)))) nd)
  (zai (zcr (st_dkIn (zab 3) (zjk 4 bn.oc (zab 1)))
  (zad (zat 6 (se_methV (ns := slN) (by decide +kernel) md_slant_number hr (zab 1) (zaa (zab 3) zaf) (hlen := zbs (zac zah))) nd)
  (zad (zcr (zh5 hr.units (se_modF (zab 5) (zab 6)) zag)
  (zai (zaF (zav zfB hr (zaa (zab 4) (zaa (zab 6) zaf)) (hlen:=(zac (zac zah))))))
  zaM)
  (zai (zat 2 (zav zaH hr (zaa (zab 2) (zaa (zau (zdc 2 bn.oc (zab 1)) (zj2 (zjk 4 bn.oc (zab 1)) (zab 3))) (zaa (ziC (zie (zab 5) (zab 6))) zaf))) (hlen:=(zac (zac (zac zah))))) nd))))
  (zai (zcr (zh5 hr.units (zab 5) zag)
  (zai (zaF (zav zfB hr (zaa (zab 4) (zaa (zav zbx hr (zaa (zab 5) zaf) (hlen:=(zac zah))) zaf)) (hlen:=(zac (zac zah))))))
  zaM))))))
  (zai (zaF (zbo (zaa zd4 (zaa (za9 bn.tuple' (zaa (zab 2) zaf)) zaf))))))))
abbrev zhR:Stmt:=top 21
def zfY:ME:=
 (eVar 2)
def zfX:MT:=
 (tTru (m2 dIn (eVar 0) (eVar 1)))
def zf2:MO:=
 oLC [2] 2 (iZ2 (zae (eVar 0) (zae (eVar 1) aNil))) (gT 2 (zaQ (gN 1) (zaQ (gN 2) zgk))) zfX zfY
def zf7:MS:=
 (zhd zf2)
def zc4:List D->Option Sl:=fP 3 zf7
theorem zkC (h:FnAt K "ratios_at" zhR):FD P w K mg base 1 "ratios_at" (spP K 3 zc4):=
 fdP (N:=["sets","ratios","place"]) (k:=0) (m:=zf7) X G h fun _ _ _ _ _ _ _ hr nd=>(zai (zc5 (zbT [2] 2 ["place","places","ratio"] rfl (zfC bn.zip' (zaa (zab 0) (zaa (zab 1) zaf))) (fun C s H fp=>(zd6 rfl (zax (zak 1 ndk) (zax (zak 2 ndk) zb5)))) (fun C s H fp=>(zfd (st_in (zab 0) (zab 1)))) (fun C s H fp=>(zab 2)))))
abbrev zgU:Stmt:=top 22
def zfb:ME:=
 (eTup (zae (m2 zjO (eIxV 0 (eC (.int 0))) (eVar 1)) (zae (eIxV 0 (eC (.int 1))) aNil)))
def zfx:MO:=
 oLC [] 2 (iZ2 (zae (eVar 0) (zae (eVar 1) aNil))) (gT 2 (zaQ (gN 0) (zaQ (gN 1) zgk))) zbB zfb
def zfl:MS:=
 (zhd zfx)
def zcp:List D->Option Sl:=fP 2 zfl
theorem zj7 (h:FnAt K "times_sums" zgU):FD P w K mg base 1 "times_sums" (spP K 2 zcp):=
 fdP (N:=["ratios","sums"]) (k:=0) (m:=zfl) X G h fun _ _ _ _ _ _ _ hr nd=>(zai (zc5 (zbT [] 2 ["ratio","total"] rfl (zfC bn.zip' (zaa (zab 0) (zaa (zab 1) zaf))) (fun C s H fp=>(zd6 rfl (zax (zak 0 ndk) (zax (zak 1 ndk) zb5)))) (fun C s H fp=>zaC) (fun C s H fp=>(zbo (zaa (zgf (zao 0 zag) (zab 1)) (zaa (zao 0 zag) zaf)))))))
abbrev zgN:Stmt:=top 23
def zfv:ME:=
 (zbb zdV (zae (eVar 0) (zae (eVar 1) aNil)))
def zeW:MO:=
 oLC [] 2 (iSeq (eVar 0)) (gT 2 (zaQ (gN 0) (zaQ (gN 1) zgk))) zbB zfv
def zeZ:MS:=
 (sRet (mC (dAll fun bs=>bs.all id) (zae (eFz zeW) aNil)))
def zcv:List D->Option Sl:=fP 1 zeZ
theorem zkf (zgc:FD P w K mg base 2 "is_ratio" (spP K 2 zdV))(h:FnAt K "all_ratios" zgN):FD P w K mg base 3 "all_ratios" (spP K 1 zcv):=
 fdP (N:=["pairs"]) (k:=2) (m:=zeZ) X G h fun _ _ _ _ _ _ _ hr nd=>(zai (zaF (se_all rfl bn.all' (zaa (SO.se (zbT [] 2 ["top","bottom"] rfl (zbd (zab 0)) (fun C s H fp=>(zd6 rfl (zax (zak 0 ndk) (zax (zak 1 ndk) zb5)))) (fun C s H fp=>zaC) (fun C s H fp=>(zav zgc hr (zaa (zab 0) (zaa (zab 1) zaf)) (hlen:=(zac (zac zah))))))) zaf))))
abbrev zeA:Stmt:=top 24
def zdp:ME:=
 (zbb zbD (zae (zbb zc4 (zae (eVar 0) (zae (eVar 1) (zae (eVar 2) aNil)))) aNil))
def zdm:MO:=
 oLC [2,1] 1 (iR1 (zae (eIxV 0 (eC (.int 0))) aNil)) (gN 2) zbB zdp
def zdf:ME:=
 (zbb zcR (zae (eVar 0) aNil))
def zdi:MO:=
 oLC [] 1 (iSeq (eVar 3)) (gN 0) zbB zdf
def zdh:MS:=
 (sRet (m1 dNot (zbb zcR (zae (zbb zbD (zae (zbb zcp (zae (eVar 1) (zae (eIxV 0 (eC (.int 2))) aNil))) aNil)) aNil))))
def zdl:MS:=
 (sSeq (sSet 3 (eFz zdm))
  (sSeq (sIf (zjh (tTru (mC (dAll fun bs => bs.all id) (zae (eFz zdi) aNil))))
  (sRet (eC (.bl false)))
  zcw)
  zdh))
def zcZ:MS:=
 (sSeq (sSet 2 (eIxV 0 (eC (.int 1))))
  (sSeq (sIf (tOrM (tTru (m2 dNe (zfK 1) (zfK 2))) (zjh (tTru (zbb zcv (zae (eVar 1) aNil)))))
  (sRet (eC (.bl false)))
  zcw)
  zdl))
def zbm:List D->Option Sl:=fP 4 zcZ
theorem zhW (zeq:FD P w K mg base 3 "all_ratios" (spP K 1 zcv))(zex:FD P w K mg base 1 "is_whole" (spP K 1 zcR))(zfw:FD P w K mg base 1 "ratios_at" (spP K 3 zc4))(zcM:FD P w K mg base 1 "ratios_sum" (spP K 1 zbD))(zes:FD P w K mg base 1 "times_sums" (spP K 2 zcp))(h:FnAt K "weights_right" zeA):FD P w K mg base 4 "weights_right" (spP K 2 zbm):=
 fdP (N:=["telling","weights","sets","at_places"]) (k:=3) (m:=zcZ) X G h fun _ _ _ _ _ _ _ hr nd=>(zad (zat 2 (zao 0 zag) nd)
  (zad (zcr (STw.st (sw_or (zh5 hr.units (zb6 1 bn.len') (zb6 2 bn.len')) (zpL (zhL (zdg (zav zeq hr (zaa (zab 1) zaf) (hlen := (zac zah))))))))
  (zai (zaF zim))
  zaM)
  (zad (zgv 3 [2, 1] 1 ["sets", "weights", "place"] rfl (zaP bn.range' (zaa (zao 0 zag) zaf)) (fun C s H fp => (zak 2 ndk)) (fun C s H fp => zaC) (fun C s H fp => (zav zcM hr (zaa (zav zfw hr (zaa (zab 0) (zaa (zab 1) (zaa (zab 2) zaf))) (hlen := (zac (zac (zac zah))))) zaf) (hlen := (zac zah)))) nd)
  (zad (zcr (zhL (zdg (se_all rfl bn.all' (zaa (SO.se (zbT [] 1 ["ratio"] rfl (zbd (zab 3)) (fun C s H fp => (zak 0 ndk)) (fun C s H fp => zaC) (fun C s H fp => (zav zex hr (zaa (zab 0) zaf) (hlen := (zac zah)))))) zaf))))
  (zai (zaF zim))
  zaM)
  (zai (zaF (se_not (zav zex hr (zaa (zav zcM hr (zaa (zav zes hr (zaa (zab 1) (zaa (zao 0 zag) zaf)) (hlen:=(zac (zac zah)))) zaf) (hlen:=(zac zah))) zaf) (hlen:=(zac zah))))))))))
abbrev zfr:Stmt:=top 25
def zdW:MS:=
 (sRet (eAnd (m2 dEq (eIxV 1 (eC (.int 0))) (eC (.str "none"))) (zbb zbm (zae (eVar 0) (zae (eIxV 1 (eC (.int 1))) aNil)))))
def zca:MS:=
 (sSeq (sIf (tTru (m2 dEq (eIxV 1 (eC (.int 0))) (eC (.str "row"))))
  (sRet (zbb zee (zae (eVar 0) (zae (eIxV 1 (eC (.int 1))) aNil))))
  zcw)
  zdW)
def zaw:List D->Option Sl:=fP 2 zca
theorem ziN (zfk:FD P w K mg base 3 "sets_hold" (spP K 2 zee))(zcC:FD P w K mg base 4 "weights_right" (spP K 2 zbm))(h:FnAt K "solved_right" zfr):FD P w K mg base 5 "solved_right" (spP K 2 zaw):=
 fdP (N:=["telling","told"]) (k:=4) (m:=zca) X G h fun _ _ _ _ _ _ _ hr nd=>(zad (zcr (ziO hr.units (zao 1 zag) zd4)
  (zai (zaF (zav zfk hr (zaa (zab 0) (zaa (zao 1 zag) zaf)) (hlen:=(zac (zac zah))))))
  zaM)
  (zai (zaF (zm4 (zlS hr.units (zao 1 zag) zd4) (zmC (zav zcC hr (zaa (zab 0) (zaa (zao 1 zag) zaf)) (hlen:=(zac (zac zah)))))))))
abbrev zij:Stmt:=top 27
def zg3:MS:=
 (sSeq (sSet 4 (m2 dMod (m2 dAdd (m2 dAdd (m2 dMul (eVar 4) (eC (.int 48271))) (m2 dMul (eC (.int 7919)) (eVar 5))) (eC (.int 104729))) (eC (.int 2147483647))))
  (sSet 3 (m2 dAdd (m2 dMul (eVar 3) (eC (.int 1048576))) (m2 dMod (m2 dDiv (m2 dMod (m2 dMul (eVar 4) (eVar 4)) (eC (.int 2147483629))) (eC (.int 128))) (eC (.int 1048576))))))
def zgI:MS:=
 sFor (iR1 (zae (eC (.int 50)) aNil)) (gN 5) zg3
def zgS:MS:=
 (sSeq (sSet 3 (eC (.int 0)))
  (sSeq (sSet 4 (m2 dAdd (m2 dAdd (m2 dMod (eVar 2) (eC (.int 2147483647))) (m2 dMul (eC (.int 271)) (eVar 1))) (eC (.int 65537))))
  (sSeq zgI
  (zhd (oLst (zae (eVar 3) aNil))))))
def zeo:MS:=
 (sSeq (sIf (tTru (m2 dGe (eVar 2) (m2 dPow (eC (.int 10)) (eC (.int 18)))))
  (zhd (oLst (zae (m2 dMod (m2 dSub (eVar 2) (m2 dPow (eC (.int 10)) (eC (.int 18)))) (m2 dMul (m2 dMul (m2 dMul (m2 dPow (eC (.int 10)) (eC (.int 60))) (m2 dPow (eC (.int 10)) (eC (.int 60)))) (m2 dPow (eC (.int 10)) (eC (.int 60)))) (m2 dPow (eC (.int 10)) (eC (.int 60))))) aNil)))
  zcw)
  zgS)
def zhp:MS:=
 (sSeq (sSet 2 (eC (.int 0)))
  (sSeq (sIf (tTru (m2 dLt (eVar 1) (zfK 0)))
  (sSet 2 (eIxV 0 (eVar 1)))
  zcw)
  zeo))
def zdK:List D->Option Sl:=fP 6 zhp
theorem zlE (h:FnAt K "_law_pot" zij):FD P w K mg base 1 "_law_pot" (spP K 2 zdK):=
 fdP (N:=["script","k","cell","great","one","turn"]) (k:=0) (m:=zhp) X G h fun _ _ _ _ _ _ _ hr nd=>(zad (zat 2 zag nd)
  (zad (zcr (zop (zab 1) (zb6 0 bn.len'))
  (zai (zat 2 (zao 0 (zab 1)) nd))
  zaM)
  (zad (zcr (st_ge (zab 2) (zfh zag zag))
  (zai (zc5 (zgH (zaa (zgM (ziD (zab 2) (zfh zag zag)) (ze1 (ze1 (ze1 (zfh zag zag) (zfh zag zag)) (zfh zag zag)) (zfh zag zag))) zaf))))
  zaM)
  (zad (zat 3 zag nd)
  (zad (zat 4 (za7 (za7 (zgM (zab 2) zag) (ze1 zag (zab 1))) zag) nd)
  (zad (zdY qcR rfl (zaP bn.range' (zaa zag zaf)) (zak 5 nd)
  (zad (zat 4 (zgM (za7 (za7 (ze1 (zab 4) zag) (ze1 zag (zab 5))) zag) zag) nd)
  (zai (zat 3 (za7 (ze1 (zab 3) zag) (zgM (se_div (zgM (ze1 (zab 4) (zab 4)) zag) zag) zag)) nd))))
  (zai (zc5 (zgH (zaa (zab 3) zaf))))))))))
abbrev zhH:Stmt:=top 28
def zgg:MS:=
 (sSeq (sSet 2 (m2 dMod (eIxV 0 (eC (.int 0))) (eVar 1)))
  (sSeq (sPut 0 (eC (.int 0)) (m2 dDiv (eIxV 0 (eC (.int 0))) (eVar 1)))
  (zjW 2)))
def zan:List D->List D->Option (Sl×List D):=fM 3 zgg
theorem zkE (h:FnAt K "_law_take" zhH):FD P w K mg base 1 "_law_take" (spM K 2 zan):=
 fdM (N:=["pot","many","digit"]) (k:=0) (m:=zgg) X G h fun _ _ _ _ _ _ _ hr nd=>(zad (zat 2 (zgM (zao 0 zag) (zab 1)) nd)
  (zad (zpW 0 (se_div (zao 0 zag) (zab 1)) zag)
  (zai (zhu 2))))
abbrev zit:Stmt:=top 29
def zg7:MS:=
 (sIf (tTru (m2 dLt (eVar 2) (eC (.int 4))))
  (sApp 3 (m2 dSub (zaW zan 0 (zae (m2 dIx (eTup (zae (eC (.int 2)) (zae (eC (.int 10)) (zae (eC (.int 11)) (zae (m2 dPow (eC (.int 10)) (eC (.int 6))) aNil))))) (eVar 2)) aNil)) (m2 dIx (eTup (zae (eC (.int 0)) (zae (eC (.int 0)) (zae (eC (.int 5)) (zae (eC (.int 0)) aNil))))) (eVar 2))))
  (sSeq (sSet 5 (m2 dAdd (m2 dMul (m2 dPow (eC (.int 10)) (eC (.int 57))) (zaW zan 0 (zae (eC (.int 80)) aNil))) (zaW zan 0 (zae (m2 dPow (eC (.int 10)) (eC (.int 6))) aNil))))
  (sApp 3 (m2 dIx (eTup (zae (eVar 5) (zae (m1 dNeg (eVar 5)) (zae (zaW zan 0 (zae (eC (.int 3)) aNil)) aNil)))) (zaW zan 0 (zae (eC (.int 3)) aNil))))))
def zg1:MS:=
 sFor (iR1 (zae (eVar 1) aNil)) (gN 4) zg7
def zhv:MS:=
 (sSeq (sSet 2 (zaW zan 0 (zae (eC (.int 5)) aNil)))
  (sSeq (zi2 3 (oLst aNil))
  (sSeq zg1
  (zjW 3))))
def zcS:List D->List D->Option (Sl×List D):=fM 6 zhv
theorem zl2 (zaj:FD P w K mg base 1 "_law_take" (spM K 2 zan))(h:FnAt K "_law_row" zit):FD P w K mg base 2 "_law_row" (spM K 2 zcS):=
 fdM (N:=["pot","many","way","row","place","far"]) (k:=1) (m:=zhv) X G h fun _ _ _ _ _ _ _ hr nd=>(zad (zat 2 (zay 0 zaj hr (zaa zag zaf) (zbs (zac zah))) nd)
  (zad (zeg 3 (zgH zaf) nd)
  (zad (zdY qcR rfl (zaP bn.range' (zaa (zab 1) zaf)) (zak 4 nd)
  (zai (zcr (zop (zab 2) zag)
  (zai (zmd 3 (ziD (zay 0 zaj hr (zaa (zau (zbo (zaa zag (zaa zag (zaa zag (zaa (zfh zag zag) zaf))))) (zab 2)) zaf) (zbs (zac zah))) (zau (zbo (zaa zag (zaa zag (zaa zag (zaa zag zaf))))) (zab 2)))))
  (zad (zat 5 (za7 (ze1 (zfh zag zag) (zay 0 zaj hr (zaa zag zaf) (zbs (zac zah)))) (zay 0 zaj hr (zaa (zfh zag zag) zaf) (zbs (zac zah)))) nd)
  (zai (zmd 3 (zau (zbo (zaa (zab 5) (zaa (ziC (zab 5)) (zaa (zay 0 zaj hr (zaa zag zaf) (zbs (zac zah))) zaf)))) (zay 0 zaj hr (zaa zag zaf) (zbs (zac zah))))))))))
  (zai (zhu 3)))))
abbrev zhG:Stmt:=top 30
def zf3:ME:=
 (eVar 1)
def zfM:MT:=
 (tTru (m2 dEq (m2 dAnd (m2 dShr (eVar 0) (eVar 1)) (eC (.int 1))) (eC (.int 1))))
def zfW:MO:=
 oLC [5] 1 (iR1 (zae (eVar 1) aNil)) (gN 1) zfM zf3
def zf1:ME:=
 (eVar 1)
def zfN:MT:=
 (tTru (m2 dLt (mC dAbs (zae (m2 dSub (eVar 1) (eVar 0)) aNil)) (eC (.int 2))))
def zf0:MO:=
 oLC [6] 1 (iR1 (zae (eVar 1) aNil)) (gN 1) zfN zf1
def zdy:MS:=
 (sApp 2 (mC zbi (zae (eVar 7) aNil)))
def zdB:MS:=
 (sSeq (sIf (tTru (m2 dEq (eVar 3) (eC (.int 2))))
  (sSet 7 (eFz zf0))
  zcw)
  zdy)
def zfZ:MS:=
 (sSeq (sSet 5 (m2 dAdd (eC (.int 1)) (zaW zan 0 (zae (m2 dSub (m2 dShl (eC (.int 1)) (eVar 1)) (eC (.int 1))) aNil))))
  (sSeq (sSet 6 (zaW zan 0 (zae (eVar 1) aNil)))
  (sSeq (sSet 7 (eFz zfW))
  (sSeq (sIf (tTru (m2 dEq (eVar 3) (eC (.int 1))))
  (sSet 7 (eFz (oR (iR2 (zae (eVar 6) (zae (mC (d2I min2) (zae (eVar 1) (zae (m2 dAdd (m2 dAdd (eVar 6) (eC (.int 2))) (zaW zan 0 (zae (eC (.int 2)) aNil))) aNil))) aNil))))))
  zcw)
  zdB))))
def zfV:MS:=
 sFor (iR1 (zae (m2 dAdd (eC (.int 1)) (zaW zan 0 (zae (eC (.int 7)) aNil))) aNil)) (gN 4) zfZ
def zf4:MS:=
 (sSeq (zi2 2 (oLst aNil))
  (sSeq (sSet 3 (zaW zan 0 (zae (eC (.int 3)) aNil)))
  (sSeq zfV
  (zjW 2))))
def zc3:List D->List D->Option (Sl×List D):=fM 8 zf4
theorem zkQ (zaj:FD P w K mg base 1 "_law_take" (spM K 2 zan))(h:FnAt K "_law_sets" zhG):FD P w K mg base 2 "_law_sets" (spM K 2 zc3):=
 fdM (N:=["pot","many","sets","way","turn","code","first","some"]) (k:=1) (m:=zf4) X G h fun _ _ _ _ _ _ _ hr nd=>(zad (zeg 2 (zgH zaf) nd)
  (zad (zat 3 (zay 0 zaj hr (zaa zag zaf) (zbs (zac zah))) nd)
  (zad (zdY qcR rfl (zaP bn.range' (zaa (za7 zag (zay 0 zaj hr (zaa zag zaf) (zbs (zac zah)))) zaf)) (zak 4 nd)
  (zad (zat 5 (za7 zag (zay 0 zaj hr (zaa (ziD (se_shl zag (zab 1)) zag) zaf) (zbs (zac zah)))) nd)
  (zad (zat 6 (zay 0 zaj hr (zaa (zab 1) zaf) (zbs (zac zah))) nd)
  (zad (zgv 7 [5] 1 ["code", "place"] rfl (zaP bn.range' (zaa (zab 1) zaf)) (fun C s H fp => (zak 1 ndk)) (fun C s H fp => (zfd (ziO hr.units (znl (se_shr (zab 0) (zab 1)) zag) zag))) (fun C s H fp => (zab 1)) nd)
  (zad (zcr (ziO hr.units (zab 3) zag)
  (zai (zat 7 (SO.se (zoc bn.list' bn.range' (zaa (zab 6) (zaa (zok rfl bn.min' (zaa (zab 1) (zaa (za7 (za7 (zab 6) zag) (zay 0 zaj hr (zaa zag zaf) (zbs (zac zah)))) zaf))) zaf)))) nd))
  zaM)
  (zad (zcr (ziO hr.units (zab 3) zag)
  (zai (zgv 7 [6] 1 ["first","place"] rfl (zaP bn.range' (zaa (zab 1) zaf)) (fun C s H fp=>(zak 1 ndk)) (fun C s H fp=>(zfd (zop (zkK bn.abs' (zaa (ziD (zab 1) (zab 0)) zaf)) zag))) (fun C s H fp=>(zab 1)) nd))
  zaM)
  (zai (zmd 2 (za9 bn.tuple' (zaa (zab 7) zaf))))))))))
  (zai (zhu 2)))))
abbrev zeG:Stmt:=top 31
def zdr:MS:=
 (sSet 4 (m2 dAdd (eVar 4) (eIxV 0 (eVar 5))))
def zdn:MS:=
 sFor (iSeq (eVar 3)) (gN 5) zdr
def zdj:MS:=
 (sSeq (sSet 4 (eC (.int 0)))
  (sSeq zdn
  (sApp 2 (eVar 4))))
def zdt:MS:=
 sFor (iSeq (eVar 1)) (gN 3) zdj
def zcX:MS:=
 (sSeq (zi2 2 (oLst aNil))
  (sSeq zdt
  (zjW 2)))
def zaS:List D->Option Sl:=fP 6 zcX
theorem zhS (h:FnAt K "_law_set_sums" zeG):FD P w K mg base 1 "_law_set_sums" (spP K 2 zaS):=
 fdP (N:=["row","sets","found","some","total","place"]) (k:=0) (m:=zcX) X G h fun _ _ _ _ _ _ _ hr nd=>(zad (zeg 2 (zgH zaf) nd)
  (zad (zdY qcR rfl (zbd (zab 1)) (zak 3 nd)
  (zad (zat 4 zag nd)
  (zad (zdY qcR rfl (zbd (zab 3)) (zak 5 nd)
  (zai (zat 4 (za7 (zab 4) (zao 0 (zab 5))) nd)))
  (zai (zmd 2 (zab 4))))))
  (zai (zhu 2))))
abbrev zff:Stmt:=top 32
def zd1:MS:=
 (sSeq (sSet 6 (zaW zan 0 (zae (zfK 3) aNil)))
  (sPut 3 (eVar 6) (m2 dAdd (eIxV 3 (eVar 6)) (m2 dIx (eTup (zae (eC (.int 1)) (zae (m1 dNeg (eC (.int 1))) (zae (eC (.int 2)) (zae (eC (.int 3)) (zae (eC (.int 5)) (zae (m2 dPow (eC (.int 10)) (eC (.int 57))) aNil))))))) (zaW zan 0 (zae (eC (.int 6)) aNil))))))
def zec:MS:=
 sFor (iR1 (zae (m2 dIx (eTup (zae (eC (.int 0)) (zae (eC (.int 1)) (zae (eC (.int 2)) (zae (eC (.int 0)) aNil))))) (eVar 4)) aNil)) (gN 5) zd1
def zb7:MS:=
 (sRet (eTup (zae (eVar 1) (zae (mC zbi (zae (eVar 2) aNil)) (zae (mC zbi (zae (eVar 3) aNil)) aNil)))))
def zdv:MS:=
 (sSeq (sSet 1 (m2 dAdd (eC (.int 1)) (zaW zan 0 (zae (eC (.int 7)) aNil))))
  (sSeq (sSet 2 (zaW zc3 0 (zae (eVar 1) aNil)))
  (sSeq (zi2 3 (zlM zaS (zae (zaW zcS 0 (zae (eVar 1) aNil)) (zae (eVar 2) aNil))))
  (sSeq (sSet 4 (zaW zan 0 (zae (eC (.int 4)) aNil)))
  (sSeq zec
  (sSeq (sIf (tTru (m2 dEq (eVar 4) (eC (.int 3))))
  (zi2 3 (zmi zcS 0 (zae (zfK 3) aNil)))
  zcw)
  zb7))))))
def zbu:List D->List D->Option (Sl×List D):=fM 7 zdv
theorem zi3 (zei:FD P w K mg base 2 "_law_row" (spM K 2 zcS))(zaY:FD P w K mg base 1 "_law_set_sums" (spP K 2 zaS))(zfg:FD P w K mg base 2 "_law_sets" (spM K 2 zc3))(zaj:FD P w K mg base 1 "_law_take" (spM K 2 zan))(h:FnAt K "_law_telling" zff):FD P w K mg base 3 "_law_telling" (spM K 1 zbu):=
 fdM (N:=["pot","many","sets","sums","way","turn","at"]) (k:=2) (m:=zdv) X G h fun _ _ _ _ _ _ _ hr nd=>(zad (zat 1 (za7 zag (zay 0 zaj hr (zaa zag zaf) (zbs (zac zah)))) nd)
  (zad (zat 2 (zay 0 zfg hr (zaa (zab 1) zaf) (zbs (zac zah))) nd)
  (zad (zeg 3 (zik zaY hr (zaa (zay 0 zei hr (zaa (zab 1) zaf) (zbs (zac zah))) (zaa (zab 2) zaf)) (hlen := (zac (zac zah)))) nd)
  (zad (zat 4 (zay 0 zaj hr (zaa zag zaf) (zbs (zac zah))) nd)
  (zad (zdY qcR rfl (zaP bn.range' (zaa (zau (zbo (zaa zag (zaa zag (zaa zag (zaa zag zaf))))) (zab 4)) zaf)) (zak 5 nd)
  (zad (zat 6 (zay 0 zaj hr (zaa (zb6 3 bn.len') zaf) (zbs (zac zah))) nd)
  (zai (zpW 3 (za7 (zao 3 (zab 6)) (zau (zbo (zaa zag (zaa (ziC zag) (zaa zag (zaa zag (zaa zag (zaa (zfh zag zag) zaf))))))) (zay 0 zaj hr (zaa zag zaf) (zbs (zac zah))))) (zab 6)))))
  (zad (zcr (ziO hr.units (zab 4) zag)
  (zai (zeg 3 (so_callM 0 zei hr (zaa (zb6 3 bn.len') zaf) (zbs (zac zah))) nd))
  zaM)
  (zai (zaF (zbo (zaa (zab 1) (zaa (za9 bn.tuple' (zaa (zab 2) zaf)) (zaa (za9 bn.tuple' (zaa (zab 3) zaf)) zaf))))))))))))
abbrev zgG:Stmt:=top 33
def ze9:ME:=
 (ePop 0 (zaW zan 1 (zae (zfK 0) aNil)))
def ze2:MO:=
 oLC2 [2,0] 1 1 0 0 2 (iR1 (zae (eVar 1) aNil)) (gN 2) zbB ze9
def zfj:MS:=
 (sSeq (zi2 2 (oR (iR1 (zae (eVar 1) aNil))))
  (zhd ze2))
def zbl:List D->List D->Option (Sl×List D):=fM 3 zfj
theorem zjT (zaj:FD P w K mg base 1 "_law_take" (spM K 2 zan))(h:FnAt K "_law_order" zgG):FD P w K mg base 2 "_law_order" (spM K 2 zbl):=
 fdM (N:=["pot","many","left"]) (k:=1) (m:=zfj) X G h fun _ _ _ _ _ _ _ hr nd=>(zad (zeg 2 (zpz bn.list' bn.range' (zaa (zab 1) zaf)) nd)
  (zai (zc5 (so_lc2 [2,0] 1 1 0 0 2 ["left","pot","place"] rfl (zaP bn.range' (zaa (zab 1) zaf)) (fun C s H fp=>(zak 2 ndk)) (fun C s H fp=>zaC) (fun C s H fp=>(se_pop 0 (zay 1 zaj hr (zaa (zb6 0 bn.len') zaf) (zbs (zac zah)))))))))
abbrev zc9:Stmt:=top 34
def zcl:ME:=
 (m2 dSub (zaW zan 0 (zae (eC (.int 9)) aNil)) (eC (.int 4)))
def zcn:MO:=
 oLCM [0] 1 0 0 (iR1 (zae (eVar 3) aNil)) (gN 1) zbB zcl
def zcs:ME:=
 (m2 dAdd (eVar 0) (eVar 1))
def zct:MO:=
 oLC [] 2 (iZ2 (zae (eVar 5) (zae (eVar 7) aNil))) (gT 2 (zaQ (gN 0) (zaQ (gN 1) zgk))) zbB zcs
def zcu:ME:=
 (m1 dNeg (eVar 0))
def zch:MO:=
 oLC [] 1 (iSeq (eVar 5)) (gN 0) zbB zcu
def zcx:ME:=
 (m2 dAdd (eVar 0) (eVar 1))
def zcq:MO:=
 oLC [] 2 (iZ2 (zae (eIxV 2 (eC (.int 1))) (zae (eVar 6) aNil))) (gT 2 (zaQ (gN 0) (zaQ (gN 1) zgk))) zbB zcx
def zcm:ME:=
 (m1 dNeg (eVar 0))
def zco:MO:=
 oLC [] 1 (iSeq (eIxV 2 (eC (.int 1)))) (gN 0) zbB zcm
def zci:MS:=
 (sRet (eAnd (m2 dEq (m2 dIx (zbb zaV (zae (eVar 9) aNil)) (eC (.int 0))) (eIxV 2 (eC (.int 0)))) (zbb zaw (zae (eVar 9) (zae (eVar 11) aNil)))))
def zbk:MS:=
 (sSeq (sIf (tOrM (tTru (m2 dNe (m2 dIx (zbb zaV (zae (eVar 8) aNil)) (eC (.int 0))) (eIxV 2 (eC (.int 0))))) (zjh (tTru (zbb zaw (zae (eVar 8) (zae (eVar 10) aNil))))))
  (sRet (eC (.bl false)))
  zcw)
  zci)
def zbX:MS:=
 (sSeq (sAsg (eVar 1) (gT 3 (zaQ (gN 3) (zaQ (gN 4) (zaQ (gN 5) zgk)))))
  (sSeq (sSet 6 (eFz zcn))
  (sSeq (sSet 7 (zbb zaS (zae (eVar 6) (zae (eVar 4) aNil))))
  (sSeq (sSet 8 (eTup (zae (eVar 3) (zae (eVar 4) (zae (mC zbi (zae (eFz zct) aNil)) aNil)))))
  (sSeq (sSet 9 (eTup (zae (eVar 3) (zae (eVar 4) (zae (mC zbi (zae (eFz zch) aNil)) aNil)))))
  (sSeq (sSet 10 (eVar 2))
  (sSeq (sSet 11 (eVar 2))
  (sSeq (sIf (tTru (m2 dEq (eIxV 2 (eC (.int 0))) (eC (.str "row"))))
  (sSeq (sSet 10 (eTup (zae (eC (.str "row")) (zae (mC zbi (zae (eFz zcq) aNil)) aNil))))
  (sSet 11 (eTup (zae (eC (.str "row")) (zae (mC zbi (zae (eFz zco) aNil)) aNil)))))
  zcw)
  zbk))))))))
def za1:List D->List D->Option (Sl×List D):=fM 12 zbX
theorem zgj (zaY:FD P w K mg base 1 "_law_set_sums" (spP K 2 zaS))(zaj:FD P w K mg base 1 "_law_take" (spM K 2 zan))(zaU:FD P w K mg base 6 "solved" (spP K 1 zaV))(zaG:FD P w K mg base 5 "solved_right" (spP K 2 zaw))(h:FnAt K "_law_moved_right" zc9):FD P w K mg base 7 "_law_moved_right" (spM K 3 za1):=
 fdM (N:=["pot","telling","told","many","sets","sums","row","more","moved","back","paper","turned"]) (k:=6) (m:=zbX) X G h fun _ _ _ _ _ _ _ hr nd=>(zad (zo4 (zab 1) (zd6 rfl (zax (zak 3 nd) (zax (zak 4 nd) (zax (zak 5 nd) zb5)))))
  (zad (znH 6 [0] 1 0 0 ["pot", "place"] rfl (zaP bn.range' (zaa (zab 3) zaf)) (fun C s H fp => (zak 1 ndk)) (fun C s H fp => zaC) (fun C s H fp => (ziD (zay 0 zaj hr (zaa zag zaf) (zbs (zac zah))) zag)) nd)
  (zad (zat 7 (zav zaY hr (zaa (zab 6) (zaa (zab 4) zaf)) (hlen := (zac (zac zah)))) nd)
  (zad (zat 8 (zbo (zaa (zab 3) (zaa (zab 4) (zaa (za9 bn.tuple' (zaa (SO.se (zbT [] 2 ["a", "b"] rfl (zfC bn.zip' (zaa (zab 5) (zaa (zab 7) zaf))) (fun C s H fp => (zd6 rfl (zax (zak 0 ndk) (zax (zak 1 ndk) zb5)))) (fun C s H fp => zaC) (fun C s H fp => (za7 (zab 0) (zab 1))))) zaf)) zaf)))) nd)
  (zad (zat 9 (zbo (zaa (zab 3) (zaa (zab 4) (zaa (za9 bn.tuple' (zaa (SO.se (zbT [] 1 ["a"] rfl (zbd (zab 5)) (fun C s H fp => (zak 0 ndk)) (fun C s H fp => zaC) (fun C s H fp => (ziC (zab 0))))) zaf)) zaf)))) nd)
  (zad (zat 10 (zab 2) nd)
  (zad (zat 11 (zab 2) nd)
  (zad (zcr (ziO hr.units (zao 2 zag) zd4)
  (zad (zat 10 (zbo (zaa zd4 (zaa (za9 bn.tuple' (zaa (SO.se (zbT [] 2 ["a", "b"] rfl (zfC bn.zip' (zaa (zao 2 zag) (zaa (zab 6) zaf))) (fun C s H fp => (zd6 rfl (zax (zak 0 ndk) (zax (zak 1 ndk) zb5)))) (fun C s H fp => zaC) (fun C s H fp => (za7 (zab 0) (zab 1))))) zaf)) zaf))) nd)
  (zai (zat 11 (zbo (zaa zd4 (zaa (za9 bn.tuple' (zaa (SO.se (zbT [] 1 ["a"] rfl (zbd (zao 2 zag)) (fun C s H fp=>(zak 0 ndk)) (fun C s H fp=>zaC) (fun C s H fp=>(ziC (zab 0))))) zaf)) zaf))) nd)))
  zaM)
  (zad (zcr (STw.st (sw_or (zh5 hr.units (zau (zav zaU hr (zaa (zab 8) zaf) (hlen := (zac zah))) zag) (zao 2 zag)) (zpL (zhL (zdg (zav zaG hr (zaa (zab 8) (zaa (zab 10) zaf)) (hlen := (zac (zac zah)))))))))
  (zai (zaF zim))
  zaM)
  (zai (zaF (zm4 (zlS hr.units (zau (zav zaU hr (zaa (zab 9) zaf) (hlen:=(zac zah))) zag) (zao 2 zag)) (zmC (zav zaG hr (zaa (zab 9) (zaa (zab 11) zaf)) (hlen:=(zac (zac zah)))))))))))))))))
abbrev zcf:Stmt:=top 35
def zbL:ME:=
 (eIxV 0 (eVar 1))
def zbO:MO:=
 oLC [1] 1 (iSeq (eIxV 0 (eVar 2))) (gN 1) zbB zbL
def zbG:ME:=
 (mC zbi (zae (eFz (oC dSrt (zae (eFz zbO) aNil))) aNil))
def zbW:MO:=
 oLC [4,7] 1 (iSeq (eVar 6)) (gN 2) zbB zbG
def zb0:ME:=
 (eIxV 0 (eVar 1))
def zbP:MO:=
 oLC [5] 1 (iSeq (eVar 6)) (gN 1) zbB zb0
def zbI:ME:=
 (m2 dIx (eIxV 0 (eC (.int 1))) (eVar 1))
def zbS:MO:=
 oLC [2] 1 (iSeq (eVar 6)) (gN 1) zbB zbI
def zbQ:MS:=
 (sPut 10 (eVar 12) (m2 dIx (eIxV 2 (eC (.int 1))) (eVar 11)))
def zbN:MS:=
 sFor (iEn (zae (eVar 7) aNil)) (gT 2 (zaQ (gN 11) (zaQ (gN 12) zgk))) zbQ
def zbK:MS:=
 (sSeq (zi2 10 (oRep (eFz (oLst (zae (eC (.int 0)) aNil))) (eVar 3)))
  (sSeq zbN
  (sRet (zbb zaw (zae (eVar 9) (zae (eTup (zae (eC (.str "row")) (zae (mC zbi (zae (eVar 10) aNil)) aNil))) aNil))))))
def zbg:MS:=
 (sSeq (sIf (tTru (m2 dEq (eIxV 2 (eC (.int 0))) (eC (.str "none"))))
  (sRet (zbb zaw (zae (eVar 9) (zae (eTup (zae (eC (.str "none")) (zae (mC zbi (zae (eFz zbS) aNil)) aNil))) aNil))))
  zcw)
  zbK)
def zbp:MS:=
 (sSeq (sAsg (eVar 1) (gT 3 (zaQ (gN 3) (zaQ (gN 4) (zaQ (gN 5) zgk)))))
  (sSeq (sSet 6 (zaW zbl 0 (zae (zfK 4) aNil)))
  (sSeq (sSet 7 (zaW zbl 0 (zae (eVar 3) aNil)))
  (sSeq (sSet 8 (eFz zbW))
  (sSeq (sSet 9 (eTup (zae (eVar 3) (zae (mC zbi (zae (eVar 8) aNil)) (zae (mC zbi (zae (eFz zbP) aNil)) aNil)))))
  (sSeq (sIf (tTru (m2 dNe (m2 dIx (zbb zaV (zae (eVar 9) aNil)) (eC (.int 0))) (eIxV 2 (eC (.int 0)))))
  (sRet (eC (.bl false)))
  zcw)
  zbg))))))
def zaK:List D->List D->Option (Sl×List D):=fM 13 zbp
theorem ze0 (zcP:FD P w K mg base 2 "_law_order" (spM K 2 zbl))(zaU:FD P w K mg base 6 "solved" (spP K 1 zaV))(zaG:FD P w K mg base 5 "solved_right" (spP K 2 zaw))(h:FnAt K "_law_renamed_right" zcf):FD P w K mg base 7 "_law_renamed_right" (spM K 3 zaK):=
 fdM (N:=["pot","telling","told","many","sets","sums","order","names","some","other","row","place","name"]) (k:=6) (m:=zbp) X G h fun _ _ _ _ _ _ _ hr nd=>(zad (zo4 (zab 1) (zd6 rfl (zax (zak 3 nd) (zax (zak 4 nd) (zax (zak 5 nd) zb5)))))
  (zad (zat 6 (zay 0 zcP hr (zaa (zb6 4 bn.len') zaf) (zbs (zac zah))) nd)
  (zad (zat 7 (zay 0 zcP hr (zaa (zab 3) zaf) (zbs (zac zah))) nd)
  (zad (zgv 8 [4, 7] 1 ["sets", "names", "at"] rfl (zbd (zab 6)) (fun C s H fp => (zak 2 ndk)) (fun C s H fp => zaC) (fun C s H fp => (za9 bn.tuple' (zaa (SO.se (zpj bn.sorted' (zaa (SO.se (zbT [1] 1 ["names", "place"] rfl (zbd (zao 0 (zab 2))) (fun C s H fp => (zak 1 ndk)) (fun C s H fp => zaC) (fun C s H fp => (zao 0 (zab 1))))) zaf))) zaf))) nd)
  (zad (zat 9 (zbo (zaa (zab 3) (zaa (za9 bn.tuple' (zaa (zab 8) zaf)) (zaa (za9 bn.tuple' (zaa (SO.se (zbT [5] 1 ["sums", "at"] rfl (zbd (zab 6)) (fun C s H fp => (zak 1 ndk)) (fun C s H fp => zaC) (fun C s H fp => (zao 0 (zab 1))))) zaf)) zaf)))) nd)
  (zad (zcr (zh5 hr.units (zau (zav zaU hr (zaa (zab 9) zaf) (hlen := (zac zah))) zag) (zao 2 zag))
  (zai (zaF zim))
  zaM)
  (zad (zcr (ziO hr.units (zao 2 zag) zd4)
  (zai (zaF (zav zaG hr (zaa (zab 9) (zaa (zbo (zaa zd4 (zaa (za9 bn.tuple' (zaa (SO.se (zbT [2] 1 ["told","at"] rfl (zbd (zab 6)) (fun C s H fp=>(zak 1 ndk)) (fun C s H fp=>zaC) (fun C s H fp=>(zau (zao 0 zag) (zab 1))))) zaf)) zaf))) zaf)) (hlen:=(zac (zac zah))))))
  zaM)
  (zad (zeg 10 (so_rep (SO.se (zgH (zaa zag zaf))) (zab 3)) nd)
  (zad (zdY qcR rfl (zg6 bn.enumerate' (zaa (zab 7) zaf)) (zd6 rfl (zax (zak 11 nd) (zax (zak 12 nd) zb5)))
  (zai (zpW 10 (zau (zao 2 zag) (zab 11)) (zab 12))))
  (zai (zaF (zav zaG hr (zaa (zab 9) (zaa (zbo (zaa zd4 (zaa (za9 bn.tuple' (zaa (zab 10) zaf)) zaf))) zaf)) (hlen:=(zac (zac zah)))))))))))))))
abbrev zdq:Stmt:=top 36
def zcJ:ME:=
 (mC dAbs (zae (eVar 0) aNil))
def zcI:MO:=
 oLC [] 1 (iSeq (eVar 5)) (gN 0) zbB zcJ
def zcG:ME:=
 (m2 dMul (eVar 0) (eVar 1))
def zcH:MO:=
 oLC [7] 1 (iSeq (eVar 5)) (gN 1) zbB zcG
def zcK:MS:=
 (sRet (m2 dEq (m2 dIx (zbb zaV (zae (eTup (zae (eVar 3) (zae (eVar 4) (zae (mC zbi (zae (eFz zcH) aNil)) aNil)))) aNil)) (eC (.int 0))) (eC (.str "row"))))
def zbr:MS:=
 (sSeq (sIf (tTru (m2 dGt (mC dMaxL (zae (eFz zcI) aNil)) (m2 dPow (eC (.int 10)) (eC (.int 58)))))
  (sRet (eC (.bl true)))
  zcw)
  zcK)
def zcF:MS:=
 (sSeq (sSet 9 (eTup (zae (eVar 3) (zae (m2 dAdd (eCut (eVar 4) pNo (zhx (eVar 6))) (eCut (eVar 4) (zhx (m2 dAdd (eVar 6) (eC (.int 1)))) pNo)) (zae (m2 dAdd (eCut (eVar 5) pNo (zhx (eVar 6))) (eCut (eVar 5) (zhx (m2 dAdd (eVar 6) (eC (.int 1)))) pNo)) aNil)))))
  (sSeq (sIf (zn1 (tTru (m2 dGt (zfK 4) (eC (.int 1)))) (tTru (m2 dNe (m2 dIx (zbb zaV (zae (eVar 9) aNil)) (eC (.int 0))) (eC (.str "row")))))
  (sRet (eC (.bl false)))
  zcw)
  zbr))
def zaL:MS:=
 (sSeq (sIf (tTru (m2 dEq (eIxV 2 (eC (.int 0))) (eC (.str "none"))))
  (sRet (eC (.bl true)))
  zcw)
  zcF)
def zb8:MS:=
 (sSeq (sAsg (eVar 1) (gT 3 (zaQ (gN 3) (zaQ (gN 4) (zaQ (gN 5) zgk)))))
  (sSeq (sSet 6 (zaW zan 0 (zae (zfK 4) aNil)))
  (sSeq (sSet 7 (m2 dAdd (eC (.int 2)) (zaW zan 0 (zae (eC (.int 5)) aNil))))
  (sSeq (sIf (tTru (m2 dLt (zfK 4) (eC (.int 7))))
  (sSeq (sSet 8 (eTup (zae (eVar 3) (zae (m2 dAdd (eVar 4) (eCut (eVar 4) (zhx (eVar 6)) (zhx (m2 dAdd (eVar 6) (eC (.int 1)))))) (zae (m2 dAdd (eVar 5) (eCut (eVar 5) (zhx (eVar 6)) (zhx (m2 dAdd (eVar 6) (eC (.int 1)))))) aNil)))))
  (sIf (tTru (m2 dNe (m2 dIx (zbb zaV (zae (eVar 8) aNil)) (eC (.int 0))) (eIxV 2 (eC (.int 0)))))
  (sRet (eC (.bl false)))
  zcw))
  zcw)
  zaL))))
def zbc:List D->List D->Option (Sl×List D):=fM 10 zb8
theorem zgE (zaj:FD P w K mg base 1 "_law_take" (spM K 2 zan))(zaU:FD P w K mg base 6 "solved" (spP K 1 zaV))(h:FnAt K "_law_more_right" zdq):FD P w K mg base 7 "_law_more_right" (spM K 3 zbc):=
 fdM (N:=["pot","telling","told","many","sets","sums","at","often","twice","less"]) (k:=6) (m:=zb8) X G h fun _ _ _ _ _ _ _ hr nd=>(zad (zo4 (zab 1) (zd6 rfl (zax (zak 3 nd) (zax (zak 4 nd) (zax (zak 5 nd) zb5)))))
  (zad (zat 6 (zay 0 zaj hr (zaa (zb6 4 bn.len') zaf) (zbs (zac zah))) nd)
  (zad (zat 7 (za7 zag (zay 0 zaj hr (zaa zag zaf) (zbs (zac zah)))) nd)
  (zad (zcr (zop (zb6 4 bn.len') zag)
  (zad (zat 8 (zbo (zaa (zab 3) (zaa (za7 (zab 4) (zgP (zab 4) (zc0 (zab 6)) (zc0 (za7 (zab 6) zag)))) (zaa (za7 (zab 5) (zgP (zab 5) (zc0 (zab 6)) (zc0 (za7 (zab 6) zag)))) zaf)))) nd)
  (zai (zcr (zh5 hr.units (zau (zav zaU hr (zaa (zab 8) zaf) (hlen := (zac zah))) zag) (zao 2 zag))
  (zai (zaF zim))
  zaM)))
  zaM)
  (zad (zcr (ziO hr.units (zao 2 zag) zd4)
  (zai (zaF zim))
  zaM)
  (zad (zat 9 (zbo (zaa (zab 3) (zaa (za7 (zgP (zab 4) zl8 (zc0 (zab 6))) (zgP (zab 4) (zc0 (za7 (zab 6) zag)) zl8)) (zaa (za7 (zgP (zab 5) zl8 (zc0 (zab 6))) (zgP (zab 5) (zc0 (za7 (zab 6) zag)) zl8)) zaf)))) nd)
  (zad (zcr (STw.st (sw_and (st_gt (zb6 4 bn.len') zag) (zpB (zh5 hr.units (zau (zav zaU hr (zaa (zab 9) zaf) (hlen := (zac zah))) zag) zd4))))
  (zai (zaF zim))
  zaM)
  (zad (zcr (st_gt (se_maxL rfl bn.max' (zaa (SO.se (zbT [] 1 ["number"] rfl (zbd (zab 5)) (fun C s H fp => (zak 0 ndk)) (fun C s H fp => zaC) (fun C s H fp => (zkK bn.abs' (zaa (zab 0) zaf))))) zaf)) (zfh zag zag))
  (zai (zaF zim))
  zaM)
  (zai (zaF (zlS hr.units (zau (zav zaU hr (zaa (zbo (zaa (zab 3) (zaa (zab 4) (zaa (za9 bn.tuple' (zaa (SO.se (zbT [7] 1 ["often","number"] rfl (zbd (zab 5)) (fun C s H fp=>(zak 1 ndk)) (fun C s H fp=>zaC) (fun C s H fp=>(ze1 (zab 0) (zab 1))))) zaf)) zaf)))) zaf) (hlen:=(zac zah))) zag) zd4)))))))))))
abbrev zk2:Stmt:=top 37
def zmR:MS:=
 (sIf (zjh (tTru (zaW zbc 2 (zae (eVar 3) (zae (eVar 4) aNil)))))
  (sRet (eC (.bl false)))
  zcw)
def zmY:MS:=
 (sSeq (zi2 2 (zlM zdK (zae (eVar 0) (zae (eVar 1) aNil))))
  (sSeq (sSet 3 (zaW zbu 2 aNil))
  (sSeq (sSet 4 (zbb zaV (zae (eVar 3) aNil)))
  (sSeq (sIf (tOrM (zjh (tTru (zaW za1 2 (zae (eVar 3) (zae (eVar 4) aNil))))) (zjh (tTru (zaW zaK 2 (zae (eVar 3) (zae (eVar 4) aNil))))))
  (sRet (eC (.bl false)))
  zcw)
  zmR))))
def zmq:MS:=
 sFor (iR1 (zae (mC (d2I max2) (zae (eC (.int 1)) (zae (mC (d2I min2) (zae (zfK 0) (zae (eC (.int 8)) aNil))) aNil))) aNil)) (gN 1) zmY
def m_law:MS:=
 (sSeq zmq
  (sRet (eC (.bl true))))
def zk4:List D->Option Sl:=fP 5 m_law
theorem ok_law (zbU:FD P w K mg base 7 "_law_more_right" (spM K 3 zbc))(zbA:FD P w K mg base 7 "_law_moved_right" (spM K 3 za1))(zf8:FD P w K mg base 1 "_law_pot" (spP K 2 zdK))(zbj:FD P w K mg base 7 "_law_renamed_right" (spM K 3 zaK))(zc1:FD P w K mg base 3 "_law_telling" (spM K 1 zbu))(zaU:FD P w K mg base 6 "solved" (spP K 1 zaV))(F:Fun K "law" "law" zk2 f fd):FnOk P w K mg base CX0 8 f fd ["script"] (spP K 1 zk4):=
 lawP (N:=["script","cell","pot","telling","told"]) (k:=7) (n:=1) (m:=m_law) F fun _ _ _ _ _ _ _ hr nd=>(zad (zdY qcR rfl (zaP bn.range' (zaa (se_max2 rfl bn.max' (zaa zag (zaa (zok rfl bn.min' (zaa (zb6 0 bn.len') (zaa zag zaf))) zaf))) zaf)) (zak 1 nd)
  (zad (zeg 2 (zik zf8 hr (zaa (zab 0) (zaa (zab 1) zaf)) (hlen := (zac (zac zah)))) nd)
  (zad (zat 3 (zay 2 zc1 hr zaf (zbs zah)) nd)
  (zad (zat 4 (zav zaU hr (zaa (zab 3) zaf) (hlen := (zac zah))) nd)
  (zad (zcr (STw.st (sw_or (zhL (zdg (zay 2 zbA hr (zaa (zab 3) (zaa (zab 4) zaf)) (zbs (zac (zac zah)))))) (zpL (zhL (zdg (zay 2 zbj hr (zaa (zab 3) (zaa (zab 4) zaf)) (zbs (zac (zac zah)))))))))
  (zai (zaF zim))
  zaM)
  (zai (zcr (zhL (zdg (zay 2 zbU hr (zaa (zab 3) (zaa (zab 4) zaf)) (zbs (zac (zac zah))))))
  (zai (zaF zim))
  zaM)))))))
  (zai (zaF zim)))
end
set_option maxHeartbeats 0 in
theorem all_mk {l:W.OpenLaw}{w:World}{K:W.Frag}{h:Heap}{mg:Str->Option Value}{fa:Addr}(X:K.In h)(G:h.Ns mainGlobals mg)(hfa:mg "law"=some (.ref fa))
  (h1:FnAt K "chosen_sum" zg2)
  (h2:FnAt K "set_sums" zi0)
  (h3:FnAt K "sets_hold" zhK)
  (h4:FnAt K "unit_row" zh9)
  (h5:FnAt K "unit_rows" zhE)
  (h6:FnAt K "has_row" zjC)
  (h7:FnAt K "taken_off" zhy)
  (h8:FnAt K "column_taken_off" zcV)
  (h9:FnAt K "products_sum" zfa)
  (h18:FnAt K "common_divisor" zdF)
  (h19:FnAt K "ratio_of" zin)
  (h20:FnAt K "is_ratio" ziw)
  (h21:FnAt K "ratios_sum" zgr)
  (h22:FnAt K "is_whole" ziZ)
  (h23:FnAt K "least_no_divisor" zcU)
  (h24:FnAt K "none_by" zju)
  (h25:FnAt K "solved" zkv)
  (h26:FnAt K "ratios_at" zhR)
  (h27:FnAt K "times_sums" zgU)
  (h28:FnAt K "all_ratios" zgN)
  (h29:FnAt K "weights_right" zeA)
  (h30:FnAt K "solved_right" zfr)
  (h31:FnAt K "_law_pot" zij)
  (h32:FnAt K "_law_take" zhH)
  (h33:FnAt K "_law_row" zit)
  (h34:FnAt K "_law_sets" zhG)
  (h35:FnAt K "_law_set_sums" zeG)
  (h36:FnAt K "_law_telling" zff)
  (h37:FnAt K "_law_order" zgG)
  (h38:FnAt K "_law_moved_right" zc9)
  (h39:FnAt K "_law_renamed_right" zcf)
  (h40:FnAt K "_law_more_right" zdq)
  (h41:FnAt K "law" zk2)
  {C:Addr} (aC:W.nsIn K mainGlobals "Slant"=some (some (.ref C))) (pg:W.plainGet K C Str.empty=true) (hd:W.hasDictIn K C=true) (po:W.plainOver K C=true) (sa:W.findIn K (.ref C) "__setattr__"=some (some (.builtin "object.__setattr__"))) (mkC:W.makesIn K C=true) (kc:W.keepIn K (.ref C)=true) (zlT:W.findIn K (.ref C) "block"=some none) (zh6:W.findIn K (.ref C) "weights"=some none) (zpp:W.findIn K (.ref C) "ways"=some none) (zmb:W.findIn K (.ref C) "backs"=some none) (zj3:W.findIn K (.ref C) "slants"=some none) {fopen_columns:Addr} {odopen_columns anopen_columns:Option Addr} {slopen_columns:Array (Option Value)} {ocopen_columns kVopen_columns dcopen_columns pmopen_columns cdopen_columns ctopen_columns:Value} (aopen_columns:W.findIn K (.ref C) "open_columns"=some (some (.ref fopen_columns))) (iopen_columns:W.isFn K (.ref fopen_columns)=true) (lopen_columns:K.lookup fopen_columns=some ⟨ocopen_columns,odopen_columns,.func (W.fnOf "open_columns" "Slant.open_columns" (zbh zbF) (zaR zbF) (zar zbF) .none kVopen_columns dcopen_columns pmopen_columns anopen_columns cdopen_columns ctopen_columns),slopen_columns⟩) (copen_columns:W.codeIn K cdopen_columns "Slant.open_columns"=true) (kopen_columns:W.keepIn K (.ref fopen_columns)=true) {fopen_rows:Addr} {odopen_rows anopen_rows:Option Addr} {slopen_rows:Array (Option Value)} {ocopen_rows kVopen_rows dcopen_rows pmopen_rows cdopen_rows ctopen_rows:Value} (aopen_rows:W.findIn K (.ref C) "open_rows"=some (some (.ref fopen_rows))) (iopen_rows:W.isFn K (.ref fopen_rows)=true) (lopen_rows:K.lookup fopen_rows=some ⟨ocopen_rows,odopen_rows,.func (W.fnOf "open_rows" "Slant.open_rows" (zbh zde) (zaR zde) (zar zde) .none kVopen_rows dcopen_rows pmopen_rows anopen_rows cdopen_rows ctopen_rows),slopen_rows⟩) (copen_rows:W.codeIn K cdopen_rows "Slant.open_rows"=true) (kopen_rows:W.keepIn K (.ref fopen_rows)=true) {fleast_corner:Addr} {odleast_corner anleast_corner:Option Addr} {slleast_corner:Array (Option Value)} {ocleast_corner kVleast_corner dcleast_corner pmleast_corner cdleast_corner ctleast_corner:Value} (aleast_corner:W.findIn K (.ref C) "least_corner"=some (some (.ref fleast_corner))) (ileast_corner:W.isFn K (.ref fleast_corner)=true) (lleast_corner:K.lookup fleast_corner=some ⟨ocleast_corner,odleast_corner,.func (W.fnOf "least_corner" "Slant.least_corner" (zbh zbY) (zaR zbY) (zar zbY) .none kVleast_corner dcleast_corner pmleast_corner anleast_corner cdleast_corner ctleast_corner),slleast_corner⟩) (cleast_corner:W.codeIn K cdleast_corner "Slant.least_corner"=true) (kleast_corner:W.keepIn K (.ref fleast_corner)=true) {ftake_row:Addr} {odtake_row antake_row:Option Addr} {sltake_row:Array (Option Value)} {octake_row kVtake_row dctake_row pmtake_row cdtake_row cttake_row:Value} (atake_row:W.findIn K (.ref C) "take_row"=some (some (.ref ftake_row))) (itake_row:W.isFn K (.ref ftake_row)=true) (ltake_row:K.lookup ftake_row=some ⟨octake_row,odtake_row,.func (W.fnOf "take_row" "Slant.take_row" (zbh zen) (zaR zen) (zar zen) .none kVtake_row dctake_row pmtake_row antake_row cdtake_row cttake_row),sltake_row⟩) (ctake_row:W.codeIn K cdtake_row "Slant.take_row"=true) (ktake_row:W.keepIn K (.ref ftake_row)=true) {ftake_column:Addr} {odtake_column antake_column:Option Addr} {sltake_column:Array (Option Value)} {octake_column kVtake_column dctake_column pmtake_column cdtake_column cttake_column:Value} (atake_column:W.findIn K (.ref C) "take_column"=some (some (.ref ftake_column))) (itake_column:W.isFn K (.ref ftake_column)=true) (ltake_column:K.lookup ftake_column=some ⟨octake_column,odtake_column,.func (W.fnOf "take_column" "Slant.take_column" (zbh zcc) (zaR zcc) (zar zcc) .none kVtake_column dctake_column pmtake_column antake_column cdtake_column cttake_column),sltake_column⟩) (ctake_column:W.codeIn K cdtake_column "Slant.take_column"=true) (ktake_column:W.keepIn K (.ref ftake_column)=true) {fclear_cross:Addr} {odclear_cross anclear_cross:Option Addr} {slclear_cross:Array (Option Value)} {occlear_cross kVclear_cross dcclear_cross pmclear_cross cdclear_cross ctclear_cross:Value} (aclear_cross:W.findIn K (.ref C) "clear_cross"=some (some (.ref fclear_cross))) (iclear_cross:W.isFn K (.ref fclear_cross)=true) (lclear_cross:K.lookup fclear_cross=some ⟨occlear_cross,odclear_cross,.func (W.fnOf "clear_cross" "Slant.clear_cross" (zbh zcd) (zaR zcd) (zar zcd) .none kVclear_cross dcclear_cross pmclear_cross anclear_cross cdclear_cross ctclear_cross),slclear_cross⟩) (cclear_cross:W.codeIn K cdclear_cross "Slant.clear_cross"=true) (kclear_cross:W.keepIn K (.ref fclear_cross)=true) {finit:Addr} {odinit aninit:Option Addr} {slinit:Array (Option Value)} {ocinit kVinit dcinit pminit cdinit ctinit:Value} (ainit:W.findIn K (.ref C) "__init__"=some (some (.ref finit))) (iinit:W.isFn K (.ref finit)=true) (linit:K.lookup finit=some ⟨ocinit,odinit,.func (W.fnOf "__init__" "Slant.__init__" (zbh zek) (zaR zek) (zar zek) .none kVinit dcinit pminit aninit cdinit ctinit),slinit⟩) (cinit:W.codeIn K cdinit "Slant.__init__"=true) (kinit:W.keepIn K (.ref finit)=true) {fslant_number:Addr} {odslant_number anslant_number:Option Addr} {slslant_number:Array (Option Value)} {ocslant_number kVslant_number dcslant_number pmslant_number cdslant_number ctslant_number:Value} (aslant_number:W.findIn K (.ref C) "slant_number"=some (some (.ref fslant_number))) (islant_number:W.isFn K (.ref fslant_number)=true) (lslant_number:K.lookup fslant_number=some ⟨ocslant_number,odslant_number,.func (W.fnOf "slant_number" "Slant.slant_number" (zbh zbZ) (zaR zbZ) (zar zbZ) .none kVslant_number dcslant_number pmslant_number anslant_number cdslant_number ctslant_number),slslant_number⟩) (cslant_number:W.codeIn K cdslant_number "Slant.slant_number"=true) (kslant_number:W.keepIn K (.ref fslant_number)=true) (z0:W.nsIn K mainGlobals "abs"=some none) (z1:W.nsIn K mainGlobals "all"=some none) (z2:W.nsIn K mainGlobals "any"=some none) (z3:W.nsIn K mainGlobals "enumerate"=some none) (z4:W.nsIn K mainGlobals "len"=some none) (z5:W.nsIn K mainGlobals "list"=some none) (z6:W.nsIn K mainGlobals "max"=some none) (z7:W.nsIn K mainGlobals "min"=some none) (z8:W.nsIn K mainGlobals "range"=some none) (z9:W.nsIn K mainGlobals "sorted"=some none) (z10:W.nsIn K mainGlobals "sum"=some none) (z11:W.nsIn K mainGlobals "tuple"=some none) (z12:W.nsIn K mainGlobals "zip"=some none):
  ∃fd:FuncData,(∀(s:Shared) (v:Value),BindsTo s fd ⟨[v],[]⟩ [("script",v)])/\∀base:Heap,K.In base->base.Ns mainGlobals mg->FnOk l.prog w K mg base CX0 8 fa fd ["script"] (spP K 1 zk4):=by
 have cl:Cls K C:=⟨pg,hd,po,sa⟩;have bn:BN K mg:=⟨⟨C,aC,cl,by simp only[slN,List.forall_mem_cons];exact⟨zlT,zh6,zpp,zmb,zj3,fun _ m=>nomatch m⟩⟩,qcS X G z0,qcS X G z1,qcS X G z2,qcS X G z3,qcS X G z4,qcS X G z5,qcS X G z6,qcS X G z7,qcS X G z8,qcS X G z9,qcS X G z10,qcS X G z11,qcS X G z12⟩;obtain⟨a,b,c,d,e,f,T⟩:=h41.law X G hfa;refine⟨W.fnOf "law" "law" (zbh zk2) (zaR zk2) (zar zk2) .none a b c d e f,fun s v=> .of_eq rfl,fun base _ _=>?_⟩;have zeh:=zkh (P:=l.prog) (w:=w) (base:=base) X G bn h1;have zgl:=zlv (P:=l.prog) (w:=w) (base:=base) X G bn zeh h2;have zfk:=zk1 (P:=l.prog) (w:=w) (base:=base) X G bn zgl h3;have zge:=zlx (P:=l.prog) (w:=w) (base:=base) X G bn h4;have zcz:=zlf (P:=l.prog) (w:=w) (base:=base) X G bn zge h5;have zhj:=znQ (P:=l.prog) (w:=w) (base:=base) X G bn h6;have zaH:=zkH (P:=l.prog) (w:=w) (base:=base) X G bn h7;have zby:=zf9 (P:=l.prog) (w:=w) (base:=base) X G bn h8;have zcW:=ziK (P:=l.prog) (w:=w) (base:=base) X G bn h9;have md_open_columns:=zi6 (P:=l.prog) (w:=w) (base:=base) X G bn (MAtC.mk aC cl aopen_columns iopen_columns lopen_columns copen_columns kopen_columns);have md_open_rows:=zkS (P:=l.prog) (w:=w) (base:=base) X G bn (MAtC.mk aC cl aopen_rows iopen_rows lopen_rows copen_rows kopen_rows);have md_least_corner:=zi1 (P:=l.prog) (w:=w) (base:=base) X G bn md_open_columns md_open_rows (MAtC.mk aC cl aleast_corner ileast_corner lleast_corner cleast_corner kleast_corner);have md_take_row:=zl4 (P:=l.prog) (w:=w) (base:=base) X G bn zaH (MAtC.mk aC cl atake_row itake_row ltake_row ctake_row ktake_row);have md_take_column:=zi9 (P:=l.prog) (w:=w) (base:=base) X G bn zby zaH (MAtC.mk aC cl atake_column itake_column ltake_column ctake_column ktake_column);have md_clear_cross:=zjf (P:=l.prog) (w:=w) (base:=base) X G bn md_open_columns md_open_rows md_take_column md_take_row (MAtC.mk aC cl aclear_cross iclear_cross lclear_cross cclear_cross kclear_cross);have md___init__:=zlX (P:=l.prog) (w:=w) (base:=base) X G bn md_clear_cross zhj md_least_corner zcz ⟨C,finit,_,aC,W.mg_of X G aC,⟨mkC,ainit,iinit,kc⟩,zpV linit cinit kinit⟩;have md_slant_number:=ziA (P:=l.prog) (w:=w) (base:=base) X G bn (MAtC.mk aC cl aslant_number islant_number lslant_number cslant_number kslant_number);have zaO:=zhc (P:=l.prog) (w:=w) (base:=base) X G bn h18;have zgi:=zlP (P:=l.prog) (w:=w) (base:=base) X G bn zaO h19;have zgc:=zln (P:=l.prog) (w:=w) (base:=base) X G bn zaO h20;have zcM:=zj8 (P:=l.prog) (w:=w) (base:=base) X G bn h21;have zex:=zlu (P:=l.prog) (w:=w) (base:=base) X G bn h22;have zbx:=zgq (P:=l.prog) (w:=w) (base:=base) X G bn h23;have zfB:=znv (P:=l.prog) (w:=w) (base:=base) X G bn zgi h24;have zaU:=zoH (P:=l.prog) (w:=w) (base:=base) X G bn md___init__ zbx zfB zcW md_slant_number zaH h25;have zfw:=zkC (P:=l.prog) (w:=w) (base:=base) X G bn h26;have zes:=zj7 (P:=l.prog) (w:=w) (base:=base) X G bn h27;have zeq:=zkf (P:=l.prog) (w:=w) (base:=base) X G bn zgc h28
 have zcC:=zhW (P:=l.prog) (w:=w) (base:=base) X G bn zeq zex zfw zcM zes h29;have zaG:=ziN (P:=l.prog) (w:=w) (base:=base) X G bn zfk zcC h30;have zf8:=zlE (P:=l.prog) (w:=w) (base:=base) X G bn h31;have zaj:=zkE (P:=l.prog) (w:=w) (base:=base) X G bn h32;have zei:=zl2 (P:=l.prog) (w:=w) (base:=base) X G bn zaj h33;have zfg:=zkQ (P:=l.prog) (w:=w) (base:=base) X G bn zaj h34;have zaY:=zhS (P:=l.prog) (w:=w) (base:=base) X G bn h35;have zc1:=zi3 (P:=l.prog) (w:=w) (base:=base) X G bn zei zaY zfg zaj h36;have zcP:=zjT (P:=l.prog) (w:=w) (base:=base) X G bn zaj h37;have zbA:=zgj (P:=l.prog) (w:=w) (base:=base) X G bn zaY zaj zaU zaG h38;have zbj:=ze0 (P:=l.prog) (w:=w) (base:=base) X G bn zcP zaU zaG h39;have zbU:=zgE (P:=l.prog) (w:=w) (base:=base) X G bn zaj zaU h40;exact ok_law X G bn zbU zbA zf8 zbj zc1 zaU T
theorem walk {l:W.OpenLaw}{q:Program}{loose:List Str}{XP:(Str->Option Value)->Heap->Prop}{YP:World->Heap->Prop}{d:DefRec}{K:Params->W.Frag}(hn:l.most=some 63)(hdf:d.params.defaults=[])
  (hm:∀ns:List Int,ns.length<=63->zk4 [.scr ns]=some (.val (.bl true)))
  (hY:∀(w:World) (h:Heap),YP w h->(K w.params).In h)
  (F : ∀ (w : World) (mg : Str -> Option Value) (fa : Addr) (h : Heap), (K w.params).In h -> h.Ns mainGlobals mg -> mg d.name = some (.ref fa) ->
   ∃fd:FuncData,(∀(s:Shared) (u:Value),BindsTo s fd ⟨[u],[]⟩ [("script",u)])/\∀base:Heap,(K w.params).In base->base.Ns mainGlobals mg->FnOk l.prog w (K w.params) mg base CX0 8 fa fd ["script"] (spP (K w.params) 1 zk4)):
  W.WalkO q loose XP YP l.row.toRowW d [] (fun f vs=>PySem.call f vs):=
 L2.walk_of (n:=63) (k:=8) (x:="script") (CX:=fun _=>CX0) (sp:=fun w=>spP (K w.params) 1 zk4) hn (by decide) hdf ⟨rfl,by decide,by decide,rfl⟩ hY F
  (fun w H a ns hl _ hS=>⟨H,[.scr ns],.val (.bl true),hm ns hl,rfl,Fz.refl H,.cons ⟨a,rfl,hS⟩ .nil,fun _ _ _ _ _ _ _ rr=>rr⟩) fun _ _ _ _ _ z=>z
end Prf
set_option exponentiation.threshold 5000
namespace Prf
open L2 M PySem
variable {n r m cc t c o i a j K N F e u:Nat} {x q p y Y:Int} {ds:List D} {Z l L:List Nat} {zz:Nat->Nat} {z:Nat->Nat->Nat} {f g:Nat->Int} {s:List (Nat×Nat)} {bt:Nat->Nat->Bool} {k:Str} {A:Mx} {d:D} {Q:D×R->Prop}
def Bd (x:Int):Prop:= -(2^220)<x/\x<2^220
def Bds (n:Nat)(r:Nat->Int):Prop:=∀i,i<n->Bd (r i)
theorem Bds.snoc {r:Nat->Int}(h:Bds n r)(hx:Bd x):Bds (n+1) fun j=>if j<n then r j else x:=fun i hi=>by
 dsimp only
 split
 ·rename_i q;exact h i q
 ·exact hx
def Pot (ds:List D):Prop:=∃p:Int,ds=[.int p]
theorem zbf (h:Pot ds){m:Int}(h0:0<m)(h1:m<2^250):Ok (zan ds [.int m]) fun r=>∃(i:Nat) (ds':List D),(i:Int)<m/\Pot ds'/\r=(.val (.int i),ds'):=by
 obtain⟨p,rfl⟩:=h;simp! only[↓zan,↓zgg];have m0:=Int.emod_nonneg p (Int.ne_of_gt h0);refine⟨h0,zoU h0 h1,(p%m).toNat,[.int (p/m)],?_,⟨_,rfl⟩,?_⟩
 ·have:=Int.emod_lt_of_pos p h0;lia
 ·rw[show(((p%m).toNat:Nat):Int)=p%m by lia]
theorem pot_ok (ns:List Int)(k:Nat)(hk:k<64):Ok (zdK [.scr ns,.int k]) fun r=>∃ds,Pot ds/\r= .own ds:=by
 have last:∀c:Int,Ok (zeo [.val (.scr ns),.val (.int k),.val (.int c),.emp,.emp,.emp]) fun p=>∃ds a,Pot ds/\p=(.ret (.own ds),a):=fun c=>by
  simp! only[↓zeo];refine⟨fun _=>⟨by decide+kernel,by decide+kernel,by decide+kernel,_,_,⟨_,rfl⟩,rfl⟩,fun _=>?_⟩;simp! only[↓zgS,↓zgI];refine⟨zjI (by decide),rfl,zew (fun _ ρ=>∃(a b:Int) (s5:Sl),0<=b/\b<4294967296/\ρ=[.val (.scr ns),.val (.int k),.val (.int c),.val (.int a),.val (.int b),s5]) ⟨0,_,.emp,by lia,by lia,rfl⟩ ?_ ?_⟩
  ·rintro i _ hi ⟨a,b,s5,b0,b1,rfl⟩;simp! only[↓zg3];have e1:0<=(b*48271+7919*(i:Int)+104729)%2147483647:=Int.emod_nonneg _ (by decide);have e2:(b*48271+7919*(i:Int)+104729)%2147483647<2147483647:=Int.emod_lt_of_pos _ (by decide);exact⟨zjI (by lia),zjI (by decide),zn8 (by decide),zjI (by lia),by decide+kernel,_,_,_,e1,by lia,rfl⟩
  ·rintro _ ⟨a,b,s5,_,_,rfl⟩;simp! only[];exact⟨_,_,⟨_,rfl⟩,rfl⟩
 simp! only[↓zdK,↓zhp];refine⟨fun h=>?_,fun h=>?_⟩
 ·rw[qbG (show k<ns.length by lia)];simp! only[];refine(last _).mono ?_;rintro _ ⟨d,a,h,rfl⟩;simp! only[];exact⟨_,h,rfl⟩
 ·refine(last _).mono ?_;rintro _ ⟨d,a,h,rfl⟩;simp! only[];exact⟨_,h,rfl⟩
theorem zjs (h:Pot ds)(n:Nat)(hn:n<=1000):Ok (zcS ds [.int n]) fun x=>∃(r:Nat->Int) (ds':List D),Pot ds'/\Bds n r/\x=(.own (wI n r),ds'):=by
 simp! only[↓zcS,↓zhv];refine(zbf h (m:=5) (by lia) (by lia)).mono ?_;rintro _ ⟨way,d1,hw,h1,rfl⟩;simp! only[↓zg1];refine⟨zaD (by lia) (by lia),zew (fun i ρ=>∃(r:Nat->Int) (ds':List D) (s4 s5:Sl),Pot ds'/\Bds i r/\ρ=[.par ds',.val (.int n),.val (.int way),.own (wI i r),s4,s5]) ⟨fun _=>0,d1,_,_,h1,fun j hj=>by lia,rfl⟩ ?_ ?_⟩
 ·rintro i _ hi ⟨r,d2,s4,s5,h2,hb,rfl⟩;simp! only[↓zg7];refine⟨fun hlt=>?_,fun hge=>?_⟩
  ·have hw':∃(m:Int) (z:Int),0<m/\m<=1000000/\0<=z/\z<=5/\[D.int 2,D.int 10,D.int 11,D.int 1000000][way]? =some (.int m)/\[D.int 0,D.int 0,D.int 5,D.int 0][way]? =some (.int z):=by
    have:way=0\/way=1\/way=2\/way=3:=by lia
    rcases this with rfl|rfl|rfl|rfl
    ·exact⟨_,_,by decide,by decide,by decide,by decide,rfl,rfl⟩
    ·exact⟨_,_,by decide,by decide,by decide,by decide,rfl,rfl⟩
    ·exact⟨_,_,by decide,by decide,by decide,by decide,rfl,rfl⟩
    ·exact⟨_,_,by decide,by decide,by decide,by decide,rfl,rfl⟩
   obtain⟨m,z,m0,m1,z0,z5,em,ez⟩:=hw';simp! only[em];refine(zbf h2 (m:=m) m0 (by lia)).mono ?_;rintro _ ⟨t,d3,ht,h3,rfl⟩;simp! only[ez,zjL];exact⟨by lia,_,d3,_,_,h3,hb.snoc (by unfold Bd;lia),rfl⟩
  ·refine(zbf h2 (m:=80) (by lia) (by lia)).mono ?_;rintro _ ⟨a,d3,ha,h3,rfl⟩;simp! only[];refine⟨zn8 (by lia),?_⟩;refine(zbf h3 (m:=1000000) (by lia) (by lia)).mono ?_;rintro _ ⟨b,d4,hb4,h4,rfl⟩;simp! only[];have hf:0<=1000000000000000000000000000000000000000000000000000000000*(a:Int)+(b:Int)/\1000000000000000000000000000000000000000000000000000000000*(a:Int)+(b:Int)<80000000000000000000000000000000000000000000000000001000000:=by lia
   generalize 1000000000000000000000000000000000000000000000000000000000*(a:Int)+(b:Int)=far at hf
   refine(zbf h4 (m:=3) (by lia) (by lia)).mono ?_;rintro _ ⟨c,d5,hc,h5,rfl⟩;simp! only[];refine(zbf h5 (m:=3) (by lia) (by lia)).mono ?_;rintro _ ⟨e,d6,he,h6,rfl⟩;have he':∃z:Int,[D.int far,D.int (-far),D.int c][e]? =some (.int z)/\Bd z:=by
    have:e=0\/e=1\/e=2:=by lia
    rcases this with rfl|rfl|rfl<;>exact⟨_,rfl,by unfold Bd;lia⟩
   obtain⟨z,ez,bz⟩:=he';simp! only[ez,zjL];exact⟨by lia,_,d6,_,_,h6,hb.snoc bz,rfl⟩
 ·rintro _ ⟨r,d2,s4,s5,h2,hb,rfl⟩;simp! only[];exact⟨r,d2,h2,hb,rfl⟩
structure Rise (n c:Nat) (z:Nat->Nat):Prop where
 c1:1<=c
 cn:c<=n
 up:∀i,i+1<c->z i<z (i+1)
 lt:∀i,i<c->z i<n
abbrev setL (c:Nat)(z:Nat->Nat):List D:=wI c fun j=>((z j:Nat):Int)
theorem natsD (Z:List Nat):Z.map (fun p=>D.int (p:Nat))=setL Z.length fun i=>Z.getD i 0:=by
 apply qcO;intro j
 by_cases hj:j<Z.length
 ·rw[zas _ hj];simp[hj,qcl]
 ·rw[qb0 (by simp;lia),qb0 (by rw[zap];lia)]
theorem rise_of (h0:Z≠[])(hp:Z.Pairwise (· < ·))(hl:∀p∈Z,p<n)(hn:Z.length<=n):Rise n Z.length fun i=>Z.getD i 0:=by
  refine⟨qb5.mpr h0,hn,fun i hi=>?_,fun i hi=>?_⟩
  . have:=qcT.mp hp i (i+1) (by lia) hi (by lia)
    simp only[qcl,qbG (show i<Z.length by lia),qbG hi,qbQ];exact this
  . simp only[qcl,qbG hi,qbQ]
    exact hl _ (qcF hi)
theorem filt (b:Nat->Bool)(h:∃p,p<n/\b p=true):∃(c:Nat) (z:Nat->Nat),Rise n c z/\(List.range n).filterMap (fun p=>if b p=true then some (D.int (p:Nat))else none)=setL c z:=by
 have e:(List.range n).filterMap (fun p=>if b p=true then some (D.int (p:Nat))else none)=((List.range n).filter b).map fun p=>D.int (p:Nat):=by
  rw[<-qcN,<-qcU,qcV];exact zaX _ fun p _=>by by_cases c:b p=true<;>simp[c,Option.guard]
 obtain⟨p,hp,hb⟩:=h;have mem:p∈(List.range n).filter b:=qah.mpr ⟨qai.mpr hp,hb⟩;refine⟨_,_,rise_of (fun e=>by rw[e]at mem;exact absurd mem qcc) (qcW _ List.pairwise_lt_range) (fun q hq=>qai.mp (qah.mp hq).1) (by have:=qcX b (List.range n);simpa using this),by rw[e,natsD]⟩
theorem zm3:∀(n:Nat) (c:Nat),0<c->c<2^n->∃p,p<n/\c/2^p%2=1
 |0,c,h0,h1=>by simp at h1;lia
 |n+1,c,h0,h1=>by
  by_cases h:c%2=1
  ·exact⟨0,by lia,by simpa using h⟩
  ·obtain⟨p,hp,e⟩:=zm3 n (c/2) (by lia) (by rw[qcY]at h1;lia);exact⟨p+1,by lia,by rw[qcY,Nat.mul_comm,<-Nat.div_div_eq_div_mul];exact e⟩
def zaN (t:Nat)(c:Nat->Nat)(z:Nat->Nat->Nat):List D:=wL t fun i=> .tup (setL (c i) (z i))
def zo1 (n:Nat)(way:Nat)(i:Nat)(ρ:R):Prop:=∃(c:Nat->Nat) (z:Nat->Nat->Nat) (ds':List D) (s4 s5 s6 s7:Sl),Pot ds'/\(∀j,j<i->Rise n (c j) (z j))/\ρ=[.par ds',.val (.int n),.own (zaN i c z),.val (.int way),s4,s5,s6,s7]
section sets
variable {ds:List D} {n way i:Nat} {c:Nat->Nat} {z:Nat->Nat->Nat} {Q:Fl×R->Prop}
theorem set3 (h:Pot ds)(hi:i<100)(b:∀j,j<i->Rise n (c j) (z j))(rr:Rise n cc zz)(s4 s5 s6:Sl):
  Ok (zdy [.par ds,.val (.int n),.own (zaN i c z),.val (.int way),s4,s5,s6,.val (.lst (setL cc zz))]) (Turn (zo1 n way (i+1)) Q):=by
 simp! only[↓zdy,zaN];refine⟨by lia,fun j=>if j<i then c j else cc,fun j=>if j<i then z j else zz,ds,s4,s5,s6,.val (.lst (setL cc zz)),h,fun j hj=>?_,?_⟩
 ·by_cases e:j<i
  ·simp only[e,if_true];exact b j e
  ·simp only[e,qbh];exact rr
 ·rw[zl0];congr 3;refine congrArg _ (zcL fun j _=>?_)
  by_cases e:j<i<;>simp only[e,if_true,qbh]
theorem set4 (h:Pot ds)(hi:i<100)(n7:n<=7)(b:∀j,j<i->Rise n (c j) (z j))(rr:Rise n cc zz){first:Nat}(hf:first<n)(s4 s5:Sl):
  Ok (zdB [.par ds,.val (.int n),.own (zaN i c z),.val (.int way),s4,s5,.val (.int first),.val (.lst (setL cc zz))]) (Turn (zo1 n way (i+1)) Q):=by
 simp! only[↓zdB,↓zf0];refine⟨fun _=>⟨zaD (by lia) (by lia),by lia,ze5 (fun ρ=>∃y,ρ=[.val (.int first),y]) (fun p=>if decide (abs1 ((p:Int)-first)<2)=true then some (D.int (p:Nat))else none) ⟨_,rfl⟩ ?_ ?_⟩,fun _=>set3 h hi b rr _ _ _⟩
 ·rintro p _ hp ⟨y,rfl⟩;simp! only[↓zfN,↓zf1];refine⟨fun e=>⟨?_,_,rfl⟩,fun e=>⟨?_,_,rfl⟩⟩
  ·rw[if_pos (by simpa using e)]
  ·rw[if_neg (by simpa using e)]
 ·rintro _ ⟨y,rfl⟩;obtain⟨cc',zz',rr',e⟩:=filt (n:=n) (fun p=>decide (abs1 ((p:Int)-first)<2)) ⟨first,hf,by simp[abs1]⟩;simp only[qbD]at e;simp! only[e];exact set3 h hi b rr' _ _ _
end sets
theorem sets_ok (h:Pot ds){n:Nat}(n1:1<=n)(n7:n<=7):Ok (zc3 ds [.int n]) fun x=>∃(t:Nat) (c:Nat->Nat) (z:Nat->Nat->Nat) (ds':List D),Pot ds'/\1<=t/\t<=7/\(∀i,i<t->Rise n (c i) (z i))/\x=(.own (zaN t c z),ds'):=by
 simp! only[↓zc3,↓zf4];refine(zbf h (m:=3) (by lia) (by lia)).mono ?_;rintro _ ⟨way,d1,hw,h1,rfl⟩;simp! only[↓zfV];refine(zbf h1 (m:=7) (by lia) (by lia)).mono ?_;rintro _ ⟨t,d2,ht,h2,rfl⟩;simp! only[show(1:Int)+(t:Int)=((1+t:Nat):Int) by lia];have p2:(2:Int)^n=((2^n:Nat):Int):=by push_cast;rfl
 have pb:1<=2^n/\2^n<=128:=⟨Nat.one_le_two_pow,qcZ (by lia) n7⟩;have pb2:2<=2^n:=by
  have:=qcZ (show 0<2 by lia) n1;simpa using this
 refine⟨zaD (by lia) (by lia),zew (zo1 n way) ⟨fun _=>0,fun _ _=>0,d2,_,_,_,_,h2,fun _ h=>by lia,rfl⟩ ?_ ?_⟩
 ·rintro i _ hi ⟨c,z,d3,s4,s5,s6,s7,h3,b,rfl⟩;simp! only[↓zfZ,p2,Int.one_mul];refine⟨by lia,?_⟩;refine(zbf h3 (m:=((2^n:Nat):Int)-1) (by lia) (by lia)).mono ?_;rintro _ ⟨code,d4,hc,h4,rfl⟩;simp! only[show(1:Int)+(code:Int)=((1+code:Nat):Int) by lia];refine(zbf h4 (m:=(n:Int)) (by lia) (by lia)).mono ?_;rintro _ ⟨first,d5,hf,h5,rfl⟩;simp! only[↓zfW];refine⟨zaD (by lia) (by lia),by lia,ze5 (fun ρ=>∃y,ρ=[.val (.int ((1+code:Nat):Int)),y]) (fun p=>if decide ((1+code)/2^p%2=1)=true then some (D.int (p:Nat))else none) ⟨_,rfl⟩ ?_ ?_⟩
  ·rintro p _ hp ⟨y,rfl⟩;have e1:((1+code:Nat):Int)/2^p=(((1+code)/2^p:Nat):Int):=by push_cast;rfl
   have e2:((((1+code)/2^p:Nat):Int)%2)=(((1+code)/2^p%2:Nat):Int):=by push_cast;rfl
   simp! only[↓zfM,↓zf3,e1,dAnd1 (Int.natCast_nonneg ((1+code)/2^p)),e2];refine⟨by lia,fun e=>⟨?_,_,rfl⟩,fun e=>⟨?_,_,rfl⟩⟩
   ·rw[if_pos (by lia)]
   ·rw[if_neg (by lia)]
  ·rintro _ ⟨y,rfl⟩;obtain⟨p,hp,ep⟩:=zm3 n (1+code) (by lia) (by lia);obtain⟨cc,zz,rr,e⟩:=filt (n:=n) (fun p=>decide ((1+code)/2^p%2=1)) ⟨p,hp,by simp only[qbD];exact ep⟩;simp only[qbD]at e;simp! only[e];refine⟨fun _=>?_,fun _=>?_⟩
   ·refine(zbf h5 (m:=2) (by lia) (by lia)).mono ?_;rintro _ ⟨u,d6,hu,h6,rfl⟩;have em:min2 (n:Int) ((first:Int)+2+(u:Int))=((min n (first+2+u):Nat):Int):=by unfold min2;split<;>lia
    simp! only[em,zoK,show(((min n (first+2+u):Nat):Int)-(first:Int)).toNat=min n (first+2+u)-first by lia];refine⟨⟨zaD (by lia) (by lia),zaD (by lia) (by lia)⟩,by lia,?_⟩;have er:(wL (min n (first+2+u)-first) fun k=>D.int ((first:Int)+(k:Nat)))=setL (min n (first+2+u)-first) fun j=>first+j:=zcL fun j _=>by push_cast;rfl
    rw[er];exact set4 h6 (by lia) n7 b ⟨by lia,by lia,fun j _=>by lia,fun j hj=>by lia⟩ (by lia) _ _
   ·exact set4 h5 (by lia) n7 b rr (by lia) _ _
 ·rintro _ ⟨c,z,d3,s4,s5,s6,s7,h3,b,rfl⟩;simp! only[];exact⟨1+t,c,z,d3,h3,by lia,by lia,b,rfl⟩
def ssum (c:Nat->Nat)(z:Nat->Nat->Nat)(r:Nat->Int)(i:Nat):Int:=sumR (c i) fun j=>r (z i j)
def teD (n t:Nat)(c:Nat->Nat)(z:Nat->Nat->Nat)(S:Nat->Int):D:= .tup [.int n,.tup (zaN t c z),.tup (wI t S)]
theorem zfs {d d2:D}{r:Nat->Int}(h:Sq d n r)(n7:n<=7)(t7:t<=7){c:Nat->Nat}(hr:∀i,i<t->Rise n (c i) (z i))(h2:zbe [d2]=some (wL t fun i=> .tup (setL (c i) (z i)))):Ok (zaS [d,d2]) fun x=>x= .own (wI t (ssum c z r)):=by
 simp! only[↓zaS,↓zcX,↓zdt,h2];refine zew (fun i ρ=>∃s3 s4 s5,ρ=[.val d,.val d2,.own (wI i (ssum c z r)),s3,s4,s5]) ⟨_,_,_,rfl⟩ ?_ ?_
 ·rintro i _ hi ⟨s3,s4,s5,rfl⟩;have cn:=(hr i hi).cn;simp! only[↓zdj,↓zdn];refine zew (fun j ρ=>∃s5,ρ=[.val d,.val d2,.own (wI i (ssum c z r)),.val (.tup (setL (c i) (z i))),.val (.int (sumR j fun u=>r (z i u))),s5]) ⟨_,rfl⟩ ?_ ?_
  ·rintro j _ hj ⟨s5,rfl⟩;simp! only[↓zdr,h.ix,zas _ ((hr i hi).lt j hj)];exact⟨_,rfl⟩
  ·rintro _ ⟨s5,rfl⟩;have eq:(wI (i+1) fun j=>if j<i then ssum c z r j else sumR (c i) fun u=>r (z i u))=wI (i+1) (ssum c z r):=zcL fun j hj=>by
    by_cases e:j<i
    ·simp only[e,if_true]
    ·have:j=i:=by lia
     subst this;simp only[e,qbh];rfl
   simp! only[zjL,eq];exact⟨by lia,_,_,_,rfl⟩
 ·rintro _ ⟨s3,s4,s5,rfl⟩;simp! only[]
def BS (x:Int):Prop:= -(2^230)<x/\x<2^230
theorem sumR_bd (hc:c<=7)(h:∀j,j<c->Bd (f j)): -(2^223)<sumR c f/\sumR c f<2^223:=by
 have:∀k,k<=c-> -((k:Int)*2^220)<=sumR k f/\sumR k f<=(k:Int)*2^220:=by
  intro k
  induction k with
  |zero=>intro _;simp[sumR]
  |succ k ih=>
   intro hk;have h1:=ih (by lia);have h2:=h k (by lia);unfold Bd at h2;show-(((k+1:Nat):Int)*2^220)<=sumR k f+f k/\sumR k f+f k<=((k+1:Nat):Int)*2^220;push_cast;lia
 have:=this c (qaH c);lia
theorem ssum_bd {c:Nat->Nat}{r:Nat->Int}(n7:n<=7)(hr:∀i,i<t->Rise n (c i) (z i))(hb:Bds n r):∀i,i<t-> -(2^223)<ssum c z r i/\ssum c z r i<2^223:=fun i hi=>
 sumR_bd (by have:=(hr i hi).cn;lia) fun j hj=>hb _ ((hr i hi).lt j hj)
theorem zjd (h:Pot ds):Ok (zbu ds []) fun x=>∃(n t:Nat) (c:Nat->Nat) (z:Nat->Nat->Nat) (S:Nat->Int) (ds':List D),Pot ds'/\1<=n/\n<=7/\1<=t/\t<=7/\(∀i,i<t->Rise n (c i) (z i))/\(∀i,i<t->BS (S i))/\x=(.val (teD n t c z S),ds'):=by
 simp! only[↓zbu,↓zdv];refine(zbf h (m:=7) (by lia) (by lia)).mono ?_;rintro _ ⟨u,d1,hu,h1,rfl⟩;simp! only[show(1:Int)+(u:Int)=((1+u:Nat):Int) by lia];have n1:1<=1+u:=by lia
 have n7:1+u<=7:=by lia
 generalize 1+u=n at n1 n7
 refine(sets_ok h1 n1 n7).mono ?_;rintro _ ⟨t,c,z,d2,h2,t1,t7,rr,rfl⟩;simp! only[];refine(zjs h2 n (by lia)).mono ?_;rintro _ ⟨r,d3,h3,hb,rfl⟩;simp! only[];refine(zfs (Sq.lst n r) n7 t7 rr rfl).mono ?_;rintro _ rfl;simp! only[];refine(zbf h3 (m:=4) (by lia) (by lia)).mono ?_;rintro _ ⟨way,d4,hw,h4,rfl⟩;have bs:=ssum_bd n7 rr hb;have hw':∃k:Nat,k<=2/\[D.int 0,D.int 1,D.int 2,D.int 0][way]? =some (.int (k:Nat)):=by
  have:way=0\/way=1\/way=2\/way=3:=by lia
  rcases this with rfl|rfl|rfl|rfl
  ·exact⟨0,by lia,rfl⟩
  ·exact⟨1,by lia,rfl⟩
  ·exact⟨2,by lia,rfl⟩
  ·exact⟨0,by lia,rfl⟩
 obtain⟨k,k2,ek⟩:=hw';have last:∀(S:Nat->Int) (d5:List D) (s5 s6:Sl),Pot d5->(∀i,i<t->BS (S i))->Ok (zb7 [.par d5,.val (.int n),.val (.lst (zaN t c z)),.own (wI t S),.val (.int way),s5,s6]) fun p=>∃S,(∀i,i<t->BS (S i))/\p=(.ret (.val (teD n t c z S)),[.par d5,.val (.int n),.val (.lst (zaN t c z)),.val (.lst (wI t S)),.val (.int way),s5,s6]):=fun S d5 s5 s6 h5 hs=>by
  simp! only[↓zb7,teD];exact⟨S,hs,rfl⟩
 simp! only[↓zec,ek];refine⟨zaD (by lia) (by lia),zew (fun i ρ=>∃(S:Nat->Int) (d5:List D) (s5 s6:Sl),Pot d5/\(∀p,p<t-> -(2^223)-i*2^223<S p/\S p<2^223+i*2^223)/\ρ=[.par d5,.val (.int n),.val (.lst (zaN t c z)),.own (wI t S),.val (.int way),s5,s6]) ⟨_,_,_,_,h4,fun p hp=>by have:=bs p hp;lia,rfl⟩ ?_ ?_⟩
 ·rintro i _ hi ⟨S,d5,s5,s6,h5,hs,rfl⟩;simp! only[↓zd1];refine(zbf h5 (m:=(t:Int)) (by lia) (by lia)).mono ?_;rintro _ ⟨at',d6,ha,h6,rfl⟩;have ha':at'<t:=by lia
  simp! only[zas _ ha',zap];refine(zbf h6 (m:=6) (by lia) (by lia)).mono ?_;rintro _ ⟨e,d7,he,h7,rfl⟩;have he':∃x:Int,-(10^57)<=x/\x<=10^57/\[D.int 1,D.int (-1),D.int 2,D.int 3,D.int 5,D.int 1000000000000000000000000000000000000000000000000000000000][e]? =some (.int x):=by
   have:e=0\/e=1\/e=2\/e=3\/e=4\/e=5:=by lia
   rcases this with rfl|rfl|rfl|rfl|rfl|rfl<;>exact⟨_,by decide,by decide,rfl⟩
  obtain⟨x,x1,x2,ex⟩:=he';simp! only[ex,zas _ ha',zap,ha',wI_set];refine⟨_,d7,_,_,h7,fun p hp=>?_,rfl⟩;have p1:=hs p hp;have p2:=hs at' ha';push_cast
  by_cases q:p=at'
  ·rw[if_pos q];lia
  ·rw[if_neg q];lia
 ·rintro _ ⟨S,d5,s5,s6,h5,hs,rfl⟩;have hs':∀i,i<t->BS (S i):=fun i hi=>by
   have:=hs i hi;unfold BS;lia
  simp! only[];refine⟨fun h3=>?_,fun h3=>?_⟩
  ·refine(zjs h5 t (by lia)).mono ?_;rintro _ ⟨r2,d6,h6,hb2,rfl⟩;simp! only[];refine(last r2 d6 s5 s6 h6 fun i hi=>by have:=hb2 i hi;unfold Bd at this;unfold BS;lia).mono ?_;rintro _ ⟨S',hS',rfl⟩;simp! only[];exact⟨n,t,c,z,S',d6,h6,n1,n7,t1,t7,rr,hS',rfl⟩
  ·refine(last S d5 s5 s6 h5 hs').mono ?_;rintro _ ⟨S',hS',rfl⟩;simp! only[];exact⟨n,t,c,z,S',d5,h5,n1,n7,t1,t7,rr,hS',rfl⟩
abbrev Mx:=Nat->Nat->Int
def un (i j:Nat):Int:=if j=i then 1 else 0
def hasP (c:Nat)(z:Nat->Nat)(p:Nat):Bool:=(List.range c).any fun j=>z j==p
def incA (c:Nat->Nat)(z:Nat->Nat->Nat)(i p:Nat):Int:=if hasP (c i) (z i) p then 1 else 0
theorem zma (n p:Nat)(hn:n<=100):Ok (zdI [.int n,.int p]) fun x=>x= .own (wI n (un p)):=by
 simp! only[↓zdI,↓zhn,↓zgO];refine⟨zaD (by lia) (by lia),by lia,zaA (fun ρ=>∃y,ρ=[.val (.int p),y]) (fun j=> .int (un p j)) ⟨_,rfl⟩ ?_ ?_⟩
 ·rintro j _ hj ⟨y,rfl⟩;simp! only[↓zgz];refine⟨fun e=>⟨?_,_,rfl⟩,fun e=>⟨?_,_,rfl⟩⟩
  ·unfold un;rw[if_pos (by lia)]
  ·unfold un;rw[if_neg (by lia)]
 ·rintro _ ⟨y,rfl⟩;simp! only[]
theorem zft (n:Nat)(hn:n<=100):Ok (zbC [.int n]) fun x=>x= .own (wL n fun i=> .lst (wI n (un i))):=by
 simp! only[↓zbC,↓zgd,↓zfU];refine⟨zaD (by lia) (by lia),by lia,zaA (fun ρ=>∃y,ρ=[.val (.int n),y]) (fun i=> .lst (wI n (un i))) ⟨_,rfl⟩ ?_ ?_⟩
 ·rintro i _ hi ⟨y,rfl⟩;simp! only[↓zfL];refine(zma n i hn).mono ?_;rintro _ rfl;simp! only[];exact⟨_,rfl⟩
 ·rintro _ ⟨y,rfl⟩;simp! only[]
theorem znk (n:Nat)(hn:n<=100)(c:Nat)(z:Nat->Nat):Ok (ze6 [.int n,.tup (setL c z)]) fun x=>x= .own (wI n fun p=>if hasP c z p then 1 else 0):=by
 simp! only[↓ze6,↓zia,↓zhJ];refine⟨zaD (by lia) (by lia),by lia,zaA (fun ρ=>∃y,ρ=[.val (.tup (setL c z)),y]) (fun p=> .int (if hasP c z p then 1 else 0)) ⟨_,rfl⟩ ?_ ?_⟩
 ·rintro j _ hj ⟨y,rfl⟩;have e:dIn (.int j) (.tup (setL c z))=some (.bl (hasP c z j)):=by
   have e1:setL c z=((List.range c).map fun i=>((z i:Nat):Int)).map .int:=by unfold setL wI wL;rw[qb4];rfl
   rw[show dIn (.int j) (.tup (setL c z))=dIn (.int j) (.lst (setL c z))from rfl,e1,inL];congr 2;unfold hasP;rw[qc0,qcB,qcD,qbW]
   constructor
   ·rintro⟨i,hi,e⟩;exact⟨i,hi,by simp;lia⟩
   ·rintro⟨i,hi,e⟩;exact⟨i,hi,by simp at e;lia⟩
  simp! only[↓zhC,e];refine⟨fun e=>⟨?_,_,rfl⟩,fun e=>⟨?_,_,rfl⟩⟩
  ·rw[if_pos e]
  ·rw[if_neg (by simp[e])]
 ·rintro _ ⟨y,rfl⟩;simp! only[]
theorem zcj {d1 d2:D}(h1:Sq d1 n f)(h2:Sq d2 n g)(hn:n<=100)(hq:∀j,j<n->zc7 q (g j)=true):Ok (zaT [d1,d2,.int q]) fun x=>x= .own (wI n fun j=>f j-q*g j):=by
 simp! only[↓zaT,↓zgb,↓zfR,h1.it,h2.it,zhi];refine⟨by lia,zaA (fun ρ=>∃y y2,ρ=[.val (.int q),y,y2]) (fun j=> .int (f j-q*g j)) ⟨_,_,rfl⟩ ?_ ?_⟩
 ·rintro j _ hj ⟨y,y2,rfl⟩;simp! only[↓zfS,hq j hj];exact⟨_,_,rfl⟩
 ·rintro _ ⟨y,y2,rfl⟩;simp! only[]
theorem zos {n c:Nat}(f:Nat->Int)(x:Int)(hc:c<n):cutD (wI n f) none (some (c:Int))++[D.int x]++cutD (wI n f) (some ((c:Int)+1)) none=wI n fun j=>if j=c then x else f j:=by
 rw[zj6,show(c:Int)+1=((c+1:Nat):Int) by lia,zjG];have e:wI n f=(wI n f).take c++(wI n f).drop c:=(List.take_append_drop c _).symm;apply qcO;intro j
 by_cases hj:j<n
 ·rw[zas (fun j=>D.int (if j=c then x else f j)) hj]
  by_cases h1:j<c
  ·rw[qa4 (by simp[zap];lia),qa4 (by simp[zap];lia),List.getElem?_take,if_pos h1,zas _ hj,if_neg (by lia)]
  ·by_cases h2:j=c
   ·subst h2;rw[qa4 (by simp[zap];lia),qa2 (by simp[zap];lia),if_pos rfl];have:j-(List.take j (wI n f)).length=0:=by simp[zap];lia
    rw[this];rfl
   ·rw[qa2 (by simp[zap];lia),qcQ,if_neg h2];have:c+1+(j-((wI n f).take c++[D.int x]).length)=j:=by simp[zap];lia
    rw[this,zas _ hj]
 ·rw[qb0 (by simp[zap];lia),qb0 (by simp[zap];lia)]
theorem zf5 (f:Nat->Int)(hn:n<=100)(hc:c<n)(ho:o<n)(hq:zc7 q (f o)=true):Ok (za2 [.lst (wI n f),.int c,.int o,.int q]) fun x=>x= .val (.lst (wI n fun j=>if j=c then f c-q*f o else f j)):=by
 simp! only[↓za2,↓zbM,zas _ hc,zas _ ho,hq];have l1:(cutD (wI n f) none (some (c:Int))).length<=100:=by rw[zj6];simp[zap];lia
 have l2:(cutD (wI n f) (some ((c:Int)+1)) none).length<=100:=by rw[show(c:Int)+1=((c+1:Nat):Int) by lia,zjG];simp[zap];lia
 exact⟨by lia,by lia,by rw[zos f _ hc]⟩
theorem ziz {d1 d2:D}(h1:Sq d1 n f)(h2:Sq d2 n g)(hn:n<=100)(hq:∀j,j<n->zc7 (f j) (g j)=true):Ok (zbt [d1,d2]) fun x=>x= .val (.int (sumR n fun j=>f j*g j)):=by
 simp! only[↓zbt,↓zdD,↓zdE,h1.it,h2.it,zhi];refine⟨by lia,zaA (fun ρ=>∃y y2,ρ=[y,y2]) (fun j=> .int (f j*g j)) ⟨_,_,rfl⟩ ?_ ?_⟩
 ·rintro j _ hj ⟨y,y2,rfl⟩;simp! only[↓zdU,hq j hj];exact⟨_,_,rfl⟩
 ·rintro _ ⟨y,y2,rfl⟩;simp! only[zkd,zdM]
def tb (t n:Nat)(b w v k:Mx):List (List D):=[wL t fun i=> .lst (wI n (b i)),wL t fun i=> .lst (wI t (w i)),wL n fun j=> .lst (wI n (v j)),wL n fun j=> .lst (wI n (k j))]
def sk (s:List (Nat×Nat)):List Int×List D:=(s.map fun p=>((p.1:Nat):Int),s.map fun p=> .int (p.2:Nat))
def opR (t:Nat)(s:List (Nat×Nat)):List Nat:=(List.range t).filter fun r=>!(s.any fun p=>p.1==r)
def opC (n:Nat)(s:List (Nat×Nat)):List Nat:=(List.range n).filter fun c=>!(s.any fun p=>p.2==c)
abbrev oD (t n:Nat)(b w v k:Mx)(s:List (Nat×Nat)):D:=obD slC slN (tb t n b w v k) (sk s)
theorem lk_sk (s:List (Nat×Nat))(r:Nat):lkD (sk s).1 (sk s).2 (r:Int)=(s.find? fun p=>p.1==r).map fun p=> .int (p.2:Nat):=by
 unfold sk
 induction s with
 |nil=>rfl
 |cons p s ih=>
  show(if((p.1:Nat):Int)=r then some (D.int (p.2:Nat))else lkD (s.map fun p=>((p.1:Nat):Int)) (s.map fun p=> .int (p.2:Nat)) r)=_;rw[qbx]
  by_cases h:p.1=r
  ·rw[if_pos (by lia),show(p.1==r)=true by simp[h]];rfl
  ·rw[if_neg (by lia),show(p.1==r)=false by simp[h]];exact ih
theorem zh3 (s:List (Nat×Nat))(r:Nat):(lkD (sk s).1 (sk s).2 (r:Int)).isSome=s.any fun p=>p.1==r:=by
 rw[lk_sk,Option.isSome_map]
 induction s with
 |nil=>rfl
 |cons p s ih=>
  rw[qbx,qbs];cases p.1==r<;>simp_all
theorem fm_nat (n:Nat)(b:Nat->Bool):(List.range n).filterMap (fun p=>if b p=true then some (D.int (p:Nat))else none)=((List.range n).filter b).map fun p=>D.int (p:Nat):=by
 rw[<-qcN,<-qcU,qcV];exact zaX _ fun p _=>by by_cases c:b p=true<;>simp[c,Option.guard]
section
variable {t n:Nat} {b w v k:Mx} {s:List (Nat×Nat)}
theorem zhQ (ht:t<=100):Ok (zbz [oD t n b w v k s]) fun x=>x= .own ((opR t s).map fun r=> .int (r:Nat)):=by
 simp! only[↓zbz,↓zf6,↓zfP,tb];refine⟨zaD (by lia) (by lia),by lia,ze5 (fun ρ=>∃y,ρ=[.val (oD t n b w v k s),y]) (fun r=>if(!(s.any fun p=>p.1==r))=true then some (D.int (r:Nat))else none) ⟨_,rfl⟩ ?_ ?_⟩
 ·rintro r _ hr ⟨y,rfl⟩;simp! only[↓zfQ,↓zfT,zh3];cases h:s.any fun p=>p.1==r
  ·simp! only[];exact fun _=>⟨_,rfl⟩
  ·simp! only[];exact⟨fun h=>absurd trivial h,_,rfl⟩
 ·rintro _ ⟨y,rfl⟩;simp! only[fm_nat]
  rfl
theorem ziY (hd:s.Pairwise fun p q=>p.1≠q.1){p:Nat×Nat}(h:p∈s):(s.find? fun q=>q.1==p.1)=some p:=by
 induction s with
 |nil=>exact absurd h qcc
 |cons q s ih=>
  rw[List.pairwise_cons]at hd;rw[qbx];rcases qaq.mp h with rfl|h
  ·simp
  ·rw[show(q.1==p.1)=false by rw[qab];exact hd.1 p h];exact ih hd.2 h
theorem zfi (hn:n<=100)(hs:s.length<=100)(hd:s.Pairwise fun p q=>p.1≠q.1):Ok (za3 [oD t n b w v k s]) fun x=>x= .own ((opC n s).map fun r=> .int (r:Nat)):=by
 simp! only[↓za3,↓zdC,↓zd0,↓zed,tb];refine⟨by simp[sk];lia,?_⟩;have e1:(sk s).1.map D.int=s.map fun p=>D.int (p.1:Nat):=by unfold sk;rw[qb4];rfl
 rw[e1];refine zjN (enc:=fun p:Nat×Nat=>D.int (p.1:Nat)) (fun ρ=>∃y,ρ=[.val (oD t n b w v k s),y]) (fun p=> .int (p.2:Nat)) ⟨_,rfl⟩ ?_ ?_
 ·rintro p _ hp ⟨y,rfl⟩;simp! only[↓zdZ,lk_sk,ziY hd hp];exact⟨_,rfl⟩
 ·rintro _ ⟨y,rfl⟩;simp! only[zap,tb];have e2:(s.map fun p=>D.int (p.2:Nat))=(s.map fun p=>((p.2:Nat):Int)).map .int:=by rw[qb4];rfl
  refine⟨zaD (by lia) (by lia),by lia,ze5 (fun ρ=>∃y,ρ=[.val (.lst (s.map fun p=>D.int (p.2:Nat))),y]) (fun c=>if(!(s.any fun p=>p.2==c))=true then some (D.int (c:Nat))else none) ⟨_,rfl⟩ ?_ ?_⟩
  ·rintro c _ hc ⟨y,rfl⟩;have e3:(s.map fun p=>((p.2:Nat):Int)).contains (c:Int)=s.any fun p=>p.2==c:=by
    rw[qc0,qcB,qcD,qbW]
    constructor
    ·rintro⟨p,hp,e⟩;exact⟨p,hp,by simp;lia⟩
    ·rintro⟨p,hp,e⟩;exact⟨p,hp,by simp at e;lia⟩
   simp! only[↓zdJ,↓zd9,e2,notInL,e3];cases h:s.any fun p=>p.2==c
   ·simp! only[];exact⟨_,rfl⟩
   ·simp! only[];exact⟨_,rfl⟩
  ·rintro _ ⟨y,rfl⟩;simp! only[fm_nat]
   rfl
end
abbrev zlV (n:Nat)(fs:List (Nat->Int)):List D:=fs.map fun f=> .tup (wI n f)
def LeR3 (n:Nat)(a b:Nat->Int):Prop:=∀q,q<n->(∀p,p<q->a p=b p)->a q<=b q
theorem lt_irr:∀a:List Int,HT.zbn a a=false
 |[]=>rfl
 |x::xs=>by
  show(if x=x then HT.zbn xs xs else decide (x<x))=false;rw[if_pos rfl];exact lt_irr xs
theorem lt_trans:∀{a b c:List Int},HT.zbn a b=true->HT.zbn b c=true->HT.zbn a c=true
 |[],[],_,h,_=>by cases h
 |[],_::_,[],_,h=>by cases h
 |[],_::_,_::_,_,_=>rfl
 |_::_,[],_,h,_=>by cases h
 |_::_,_::_,[],_,h=>by cases h
 |x::xs,y::ys,z::zs,h1,h2=>by
  have h1:(if x=y then HT.zbn xs ys else decide (x<y))=true:=h1;have h2:(if y=z then HT.zbn ys zs else decide (y<z))=true:=h2;show(if x=z then HT.zbn xs zs else decide (x<z))=true
  by_cases e1:x=y
  ·subst e1;rw[if_pos rfl]at h1
   by_cases e2:x=z
   ·subst e2;rw[if_pos rfl]at h2 ⊢;exact lt_trans h1 h2
   ·rw[if_neg e2]at h2 ⊢;exact h2
  ·rw[if_neg e1]at h1;have h1:=qbE h1
   by_cases e2:y=z
   ·subst e2;rw[if_neg e1];exact qak h1
   ·rw[if_neg e2]at h2;have h2:=qbE h2;rw[if_neg (by lia)];exact qak (by lia)
theorem zhb (irr:∀i,bt i i=false)(tr:∀i j l,bt i j=true->bt j l=true->bt i l=true):∀m j,j<=m->bt j (argBest bt m)=false
 |0,j,h=>by
  have:j=0:=by lia
  subst this;exact irr 0
 |m+1,j,h=>by
  show bt j (if bt (m+1) (argBest bt m)then m+1 else argBest bt m)=false
  by_cases c:bt (m+1) (argBest bt m)=true
  ·rw[if_pos c]
   by_cases e:j=m+1
   ·subst e;exact irr _
   ·cases q:bt j (m+1)with
    |false=>rfl
    |true=>
     have:=tr _ _ _ q c;rw[zhb irr tr m j (by lia)]at this;cases this
  ·rw[if_neg c]
   by_cases e:j=m+1
   ·subst e;simpa using c
   ·exact zhb irr tr m j (by lia)
theorem ge_of:∀{a b:List Int},a.length=b.length->HT.zbn a b=false->∀(q:Nat) (x y:Int),a[q]? =some x->b[q]? =some y->(∀(p:Nat) (u v:Int),p<q->a[p]? =some u->b[p]? =some v->u=v)->y<=x
 |[],[],_,_,q,x,y,h,_,_=>by simp at h
 |x::xs,y::ys,hl,h,q,u,v,hu,hv,he=>by
  have h:(if x=y then HT.zbn xs ys else decide (x<y))=false:=h
  by_cases e:x=y
  ·subst e;rw[if_pos rfl]at h;cases q with
   |zero=>simp at hu hv;lia
   |succ q=>exact ge_of (by simpa using hl) h q u v (by simpa using hu) (by simpa using hv) fun p u v hp h1 h2=>he (p+1) u v (by lia) (by simpa using h1) (by simpa using h2)
  ·rw[if_neg e]at h;have h:=qcz h;cases q with
   |zero=>simp at hu hv;lia
   |succ q=>exact absurd (he 0 x y (by lia) (by simp) (by simp)) e
 |[],_::_,hl,_,_,_,_,_,_,_=>by simp at hl
 |_::_,[],hl,_,_,_,_,_,_,_=>by simp at hl
theorem zi5 (n:Nat):∀fs:List (Nat->Int),ziM (zlV n fs)=some (fs.map fun f=>(List.range n).map f)
 |[]=>rfl
 |f::fs=>by
  show(za8 (wI n f)).bind _=_;rw[zkd];show(ziM (zlV n fs)).map _=_;rw[zi5 n fs]
  rfl
theorem min_rows {fs:List (Nat->Int)}(ne:fs≠[]):∃f∈fs,zor [.lst (zlV n fs)]=some (.tup (wI n f))/\∀g∈fs,LeR3 n f g:=by
 have hp:0<fs.length:=qb5.mpr ne
 generalize hN:(fs.map fun f=>(List.range n).map f)=nss
 have hl:nss.length=fs.length:=by rw[<-hN,qaS]
 have hb:zla nss<fs.length:=by
  have:=zgp (fun i j=>HT.zbn (nss.getD i []) (nss.getD j [])) (nss.length-1);unfold zla;lia
 have get:∀i (h:i<fs.length),nss.getD i []=(List.range n).map fs[i]:=fun i h=>by
  rw[<-hN,qcl,qa5,qbG h];rfl
 refine⟨fs[zla nss],qcF hb,?_,fun g hg=>?_⟩
 ·show(ziM (zlV n fs)).bind _=_;rw[zi5,hN];show(if nss.isEmpty then none else(zlV n fs)[zla nss]?)=_;have:nss.isEmpty=false:=by
   cases nss with
   |nil=>simp at hl;lia
   |cons=>rfl
  rw[this,qa5,qbG hb]
  rfl
 ·obtain⟨j,hj,rfl⟩:=qc1 hg;have h:=zhb (bt:=fun i j=>HT.zbn (nss.getD i []) (nss.getD j [])) (fun i=>lt_irr _) (fun i j l=>lt_trans) (nss.length-1) j (by lia);have h:HT.zbn (nss.getD j []) (nss.getD (zla nss) [])=false:=h;rw[get j hj,get _ hb]at h;intro q hq he;refine ge_of (by simp) h q _ _ (by simp[hq]) (by simp[hq]) fun p u v hp h1 h2=>?_
  have hpn:p<n:=by lia
  simp[hpn]at h1 h2;rw[<-h1,<-h2];exact(he p hp).symm
def cor (b:Mx)(p:Nat×Nat)(q:Nat):Int:=if q=0 then((b p.1 p.2).natAbs:Nat)else if q=1 then(p.1:Nat)else(p.2:Nat)
theorem cor_D (b:Mx)(p:Nat×Nat):D.tup [.int (abs1 (b p.1 p.2)),.int (p.1:Nat),.int (p.2:Nat)]= .tup (wI 3 (cor b p)):=by
 have:abs1 (b p.1 p.2)=((b p.1 p.2).natAbs:Nat):=by unfold abs1;split<;>lia
 rw[this];rfl
section
variable {t n:Nat} {b w v k:Mx} {s:List (Nat×Nat)}
theorem zki (n:Nat)(s:List (Nat×Nat)):(opC n s).length<=n:=by
 have:=qcX (fun c=>!(s.any fun p=>p.2==c)) (List.range n);rw[qb1]at this;exact this
theorem zkr (n:Nat)(s:List (Nat×Nat)):(opR n s).length<=n:=by
 have:=qcX (fun c=>!(s.any fun p=>p.1==c)) (List.range n);rw[qb1]at this;exact this
theorem zgs (h:r∈opR t s):r<t:=qai.mp (qah.mp h).1
theorem zgT (h:r∈opC n s):r<n:=qai.mp (qah.mp h).1
theorem zil (ht:t<=100)(hn:n<=100)(hs:s.length<=100)(hd:s.Pairwise fun p q=>p.1≠q.1):Ok (za4 [oD t n b w v k s]) fun x=>(x= .val .non/\∀r∈opR t s,∀c∈opC n s,b r c=0)\/∃r c,x= .val (.tup [.int (r:Nat),.int (c:Nat)])/\r∈opR t s/\c∈opC n s/\b r c≠0/\∀i∈opR t s,∀j∈opC n s,b i j≠0->(b r c).natAbs<=(b i j).natAbs:=by
 simp! only[↓za4,↓zdz];rw[zdX rfl];simp! only[];refine(zfi hn hs hd).mono ?_;rintro _ rfl;simp! only[↓zdS];rw[zdX rfl];simp! only[];refine(zhQ ht).mono ?_;rintro _ rfl;simp! only[];refine zk3 (enc:=fun r:Nat=>D.int (r:Nat)) (l:=opR t s) (fun i ρ=>∃(Cl:List (Nat×Nat)) (s3:Sl),(∀p,p∈Cl↔p.1∈(opR t s).take i/\p.2∈opC n s/\b p.1 p.2≠0)/\Cl.length<=i*100/\ρ=[.val (oD t n b w v k s),.val (.lst ((opC n s).map fun r=> .int (r:Nat))),.own (Cl.map fun p=> .tup (wI 3 (cor b p))),s3]) ⟨[],_,fun p=>by simp,by simp,rfl⟩ ?_ ?_
 ·rintro i r _ hi ⟨Cl,s3,hCl,hl,rfl⟩;have hr:r∈opR t s:=qa7 hi;have hil:i<(opR t s).length:=(qat.mp hi).1;have htl:=zkr t s;have hcl:=zki n s;simp! only[↓zd5,↓zdG];refine⟨by lia,zgJ (enc:=fun r:Nat=>D.int (r:Nat)) (fun ρ=>∃y,ρ=[.val (oD t n b w v k s),.val (.int (r:Nat)),y]) (fun c=>if b r c=0 then none else some (.tup (wI 3 (cor b (r,c))))) ⟨_,rfl⟩ ?_ ?_⟩
  ·rintro c _ hc ⟨y,rfl⟩;simp! only[↓zd3,↓zdO,tb,zas _ (zgs hr),zas _ (zgT hc)];refine⟨fun e=>⟨?_,_,rfl⟩,fun e=>⟨?_,_,rfl⟩⟩
   ·rw[if_neg e,<-cor_D]
   ·rw[if_pos (by simpa using e)]
  ·rintro _ ⟨y,rfl⟩;have el:(opC n s).filterMap (fun c=>if b r c=0 then none else some (D.tup (wI 3 (cor b (r,c)))))=(((opC n s).filter fun c=>b r c !=0).map fun c=>(r,c)).map fun p=>D.tup (wI 3 (cor b p)):=by
    rw[qb4,<-qcN,<-qcU,qcV];exact zaX _ fun c _=>by by_cases h:b r c=0<;>simp[h,Option.guard]
   have ll:((opC n s).filter fun c=>b r c !=0).length<=100:=qal (qcX _ _) (by lia);simp! only[el];refine⟨by lia,Cl++((opC n s).filter fun c=>b r c !=0).map fun c=>(r,c),_,fun p=>?_,by simp;lia,by rw[qb3]⟩;rw[qar,hCl,qcL,hi,qar]
   constructor
   ·rintro(⟨h1,h2⟩|h)
    ·exact⟨.inl h1,h2⟩
    ·obtain⟨c,hc,rfl⟩:=qbW.mp h;obtain⟨h1,h2⟩:=qah.mp hc;exact⟨.inr (by simp),h1,by simpa using h2⟩
   ·rintro⟨h1|h1,h2,h3⟩
    ·exact .inl ⟨h1,h2,h3⟩
    ·have:p.1=r:=by simpa using h1
     refine .inr (qbW.mpr ⟨p.2,qah.mpr ⟨h2,?_⟩,by rw[<-this]⟩);rw[<-this];simpa using h3
 ·rintro _ ⟨Cl,s3,hCl,hl,rfl⟩;simp! only[];rw[qcM]at hCl;refine⟨fun e=> .inl fun r hr c hc=>?_,fun e=>?_⟩
  ·have e:Cl=[]:=by
    cases Cl with
    |nil=>rfl
    |cons _ _=>exact absurd e (by simp;lia)
   subst e
   by_cases h:b r c=0
   ·exact h
   ·exact absurd ((hCl (r,c)).mpr ⟨hr,hc,h⟩) qcc
  ·simp! only[↓zdQ];have ne:(Cl.map fun p=>cor b p)≠[]:=fun h=>e (by rw[List.map_eq_nil_iff.mp h];rfl)
   obtain⟨f,hf,e1,e2⟩:=min_rows (n:=3) ne;obtain⟨p,hp,rfl⟩:=qbW.mp hf;obtain⟨p1,p2,p3⟩:=(hCl p).mp hp;rw[show(Cl.map fun p=>D.tup (wI 3 (cor b p)))=zlV 3 (Cl.map fun p=>cor b p) by unfold zlV;rw[qb4];rfl,e1];simp! only[];refine .inr ⟨p.1,p.2,rfl,p1,p2,p3,fun i hi j hj h=>?_⟩;have:=e2 _ (qbW.mpr ⟨(i,j),(hCl (i,j)).mpr ⟨hi,hj,h⟩,rfl⟩) 0 (by lia) (fun p h=>by lia);simp only[cor,if_true]at this;lia
theorem zif {r c:Nat}(hd:s.Pairwise fun p q=>p.1≠q.1)(h:(r,c)∈s)(hr:r<t)(hc:c<n):Ok (zbv [oD t n b w v k s,.int (r:Nat)]) fun x=>x= .val (.int (b r c)):=by
 simp! only[↓zbv,↓zdu,tb,lk_sk,ziY hd h,zas _ hr,zas _ hc]
end
def zc8 (b:Mx)(r o:Nat)(q:Int):Mx:=fun i j=>if i=r then b r j-q*b o j else b i j
def znE (b:Mx)(c o:Nat)(q:Int):Mx:=fun i j=>if j=c then b i c-q*b i o else b i j
theorem zmQ (b:Mx)(r o:Nat)(q:Int):zc8 b r o q=fun i=>if i=r then fun j=>b r j-q*b o j else b i:=by
 funext i j;unfold zc8;split<;>rfl
abbrev oT (t n:Nat)(b w v k:Mx)(s:List (Nat×Nat)):Sl:= .ptr (.obj slC slN (tb t n b w v k) (some (sk s)))
section
variable {t n:Nat} {b w v k:Mx} {s:List (Nat×Nat)}
theorem zjD {f:Nat->D}(h:∀i,isLst (f i)=true)(n1:1<=n):(wL n f).any isLst=true:=
 qcD.mpr ⟨f 0,qa7 (zas f (show 0<n by lia)),h 0⟩
theorem zhT (t1:1<=t)(n1:1<=n):okLs (tb t n b w v k)=true:=by
 unfold okLs tb;simp only[qbr,List.all_nil,qbJ,qbm];exact⟨zjD (fun _=>rfl) t1,zjD (fun _=>rfl) t1,zjD (fun _=>rfl) n1,zjD (fun _=>rfl) n1⟩
theorem zgB (n:Nat)(f:Nat->Int):fl2 (.lst (wI n f))=true:=by
 show(wI n f).all zng=true;rw[qbV];intro d hd;obtain⟨i,_,rfl⟩:=qbW.mp hd
 rfl
theorem tb0 (hr:r<t)(f:Nat->Int):(tb t n b w v k).set 0 ((wL t fun i=> .lst (wI n (b i))).set r (.lst (wI n f)))=tb t n (fun i=>if i=r then f else b i) w v k:=by
 unfold tb;rw[zkM _ _ hr,qcH];congr 2
 funext j
 by_cases h:j=r<;>simp only[h,if_true,qbh]
theorem tb1 (hr:r<t)(f:Nat->Int):(tb t n b w v k).set 1 ((wL t fun i=> .lst (wI t (w i))).set r (.lst (wI t f)))=tb t n b (fun i=>if i=r then f else w i) v k:=by
 unfold tb;rw[zkM _ _ hr,qcG,qcH];congr 3
 funext j
 by_cases h:j=r<;>simp only[h,if_true,qbh]
theorem tb2 (hr:r<n)(f:Nat->Int):(tb t n b w v k).set 2 ((wL n fun i=> .lst (wI n (v i))).set r (.lst (wI n f)))=tb t n b w (fun i=>if i=r then f else v i) k:=by
 unfold tb;rw[zkM _ _ hr,qcG,qcG,qcH];congr 4
 funext j
 by_cases h:j=r<;>simp only[h,if_true,qbh]
theorem tb3 (hr:r<n)(f:Nat->Int):(tb t n b w v k).set 3 ((wL n fun i=> .lst (wI n (k i))).set r (.lst (wI n f)))=tb t n b w v (fun i=>if i=r then f else k i):=by
 unfold tb;rw[zkM _ _ hr,qcG,qcG,qcG,qcH];congr 5
 funext j
 by_cases h:j=r<;>simp only[h,if_true,qbh]
theorem g0:(tb t n b w v k)[0]? =some (wL t fun i=> .lst (wI n (b i))):=rfl
theorem g1:(tb t n b w v k)[1]? =some (wL t fun i=> .lst (wI t (w i))):=rfl
theorem g2:(tb t n b w v k)[2]? =some (wL n fun i=> .lst (wI n (v i))):=rfl
theorem g3:(tb t n b w v k)[3]? =some (wL n fun i=> .lst (wI n (k i))):=rfl
theorem zlR (t1:1<=t)(n1:1<=n)(ht:t<=100)(hn:n<=100)(hr:r<t)(ho:o<t)(hb:∀j,j<n->zc7 q (b o j)=true)(hw:∀j,j<t->zc7 q (w o j)=true):
  Ok (zdT [oT t n b w v k s,.val (.int (r:Nat)),.val (.int (o:Nat)),.val (.int q)]) fun x=>x=(.val .non,[oT t n (zc8 b r o q) (zc8 w r o q) v k s,.emp,.emp,.emp]):=by
 simp! only[↓zdT,↓zhr];rw[zev rfl rfl (zhT t1 n1)];simp! only[g0,zas _ hr,zas _ ho];refine(zcj (Sq.lst n (b r)) (Sq.lst n (b o)) hn hb).mono ?_;rintro _ rfl;simp! only[zgB];refine⟨rfl,?_⟩;simp! only[g0,zap,hr,tb0 hr];rw[zev rfl rfl (zhT t1 n1)];simp! only[g1,zas _ hr,zas _ ho];refine(zcj (Sq.lst t (w r)) (Sq.lst t (w o)) ht hw).mono ?_;rintro _ rfl;simp! only[zgB];refine⟨rfl,?_⟩;simp! only[g1,zap,hr,tb1 hr];rw[zmQ,zmQ]
theorem zje (t1:1<=t)(n1:1<=n)(ht:t<=100)(hn:n<=100)(hc:c<n)(ho:o<n)(hb:∀i,i<t->zc7 q (b i o)=true)(hv:∀j,j<n->zc7 q (v o j)=true)(hk:∀j,j<n->zc7 (-q) (k c j)=true):
  Ok (zbV [oT t n b w v k s,.val (.int (c:Nat)),.val (.int (o:Nat)),.val (.int q)]) fun x=>x=(.val .non,[oT t n (znE b c o q) w (zc8 v c o q) (zc8 k o c (-q)) s,.emp,.emp,.emp]):=by
 simp! only[↓zbV,↓zet];rw[zlW rfl rfl (zhT t1 n1)];simp! only[↓zeH,g0,zap];refine⟨by lia,zaA (fun ρ=>∃y,ρ=[.val (.int (c:Nat)),.val (.int (o:Nat)),.val (.int q),y]) (fun i=> .lst (wI n fun j=>if j=c then b i c-q*b i o else b i j)) ⟨_,rfl⟩ ?_ ?_⟩
 ·rintro i _ hi ⟨y,rfl⟩;simp! only[↓zeC];refine(zf5 (b i) hn hc ho (hb i hi)).mono ?_;rintro _ rfl;simp! only[];exact⟨_,rfl⟩
 ·rintro _ ⟨y,rfl⟩;simp! only[];refine⟨⟨?_,rfl⟩,?_⟩
  ·rw[qbV];intro d hd;obtain⟨i,_,rfl⟩:=qbW.mp hd;exact zgB _ _
  have e:(tb t n b w v k).set 0 (wL t fun i=> .lst (wI n fun j=>if j=c then b i c-q*b i o else b i j))=tb t n (znE b c o q) w v k:=rfl;refine⟨show 0<4 by lia,?_⟩;simp! only[e];rw[zev rfl rfl (zhT t1 n1)];simp! only[g2,zas _ hc,zas _ ho];refine(zcj (Sq.lst n (v c)) (Sq.lst n (v o)) hn hv).mono ?_;rintro _ rfl;simp! only[zgB];refine⟨rfl,?_⟩;simp! only[g2,zap,hc,tb2 hc];rw[zev rfl rfl (zhT t1 n1)];simp! only[g3,zas _ hc,zas _ ho];refine(zcj (Sq.lst n (k o)) (Sq.lst n (k c)) hn hk).mono ?_;rintro _ rfl;simp! only[zgB];refine⟨rfl,?_⟩;simp! only[g3,zap,ho,tb3 ho];rw[zmQ,zmQ]
end
theorem zfI (x:Int)(o:Nat):∀n,sumR n (fun j=>if j=o then x else 0)=if o<n then x else 0
 |0=>by simp[sumR]
 |n+1=>by
  show sumR n _+(if n=o then x else 0)=_;rw[zfI x o n]
  by_cases h:n=o
  ·subst h;rw[if_neg (by lia),if_pos rfl,if_pos (by lia)];lia
  ·rw[if_neg h]
   by_cases h2:o<n
   ·rw[if_pos h2,if_pos (by lia)];lia
   ·rw[if_neg h2,if_neg (by lia)];lia
theorem zfH (hi:i<n)(f:Nat->Int):sumR n (fun j=>un i j*f j)=f i:=by
 rw[zal (g:=fun j=>if j=i then f i else 0) fun j _=>by
  unfold un
  by_cases h:j=i
  ·subst h;simp
  ·simp[h],zfI,if_pos hi]
theorem sumR_unr (hi:i<n)(f:Nat->Int):sumR n (fun j=>f j*un i j)=f i:=by
 rw[zal (g:=fun j=>un i j*f j) fun j _=>qc2 _ _,zfH hi]
structure Inv (t n:Nat) (A b w v k:Mx):Prop where
 bl:∀i,i<t->∀j,j<n->b i j=sumR t fun a=>sumR n fun p=>w i a*A a p*v j p
 wi:∀z:Nat->Int,(∀i,i<t->sumR t (fun a=>w i a*z a)=0)->∀a,a<t->z a=0
 kv:∀p q,p<n->q<n->sumR n (fun j=>k j p*v j q)=un p q
 vk:∀i j,i<n->j<n->sumR n (fun p=>v i p*k j p)=un i j
section
variable {t n:Nat} {A b w v k:Mx}
theorem Inv.start (t n:Nat)(A:Mx):Inv t n A A un un un where
 bl:=fun i hi j hj=>by
  rw[zal (g:=fun a=>un i a*A a j) fun a _=>?_,zfH hi];rw[zal (g:=fun p=>(un i a*A a p)*un j p) fun p _=>rfl,sumR_unr hj]
 wi:=fun z h a ha=>by
  have:=h a ha;rwa[zfH ha]at this
 kv:=fun p q hp hq=>by
  rw[zal (g:=fun j=>un p j*un q j) fun j _=>by
   unfold un
   by_cases h1:p=j<;>by_cases h2:q=j<;>simp[h1,h2,eq_comm],zfH hp]
  unfold un
  by_cases h:p=q
  ·subst h;rfl
  ·rw[if_neg h,if_neg (Ne.symm h)]
 vk:=fun i j hi hj=>by
  rw[zfH hi];unfold un
  by_cases h:i=j
  ·subst h;rfl
  ·rw[if_neg h,if_neg (Ne.symm h)]
theorem Inv.row (I:Inv t n A b w v k)(hr:r<t)(ho:o<t)(hro:r≠o)(q:Int):Inv t n A (zc8 b r o q) (zc8 w r o q) v k where
 bl:=fun i hi j hj=>by
  unfold zc8
  by_cases h:i=r
  ·simp only[h,if_true];rw[I.bl r hr j hj,I.bl o ho j hj,<-zaZ,<-zdd];refine zal fun a _=>?_
   rw[<-zaZ,<-zdd];refine zal fun p _=>?_
   grind
  ·simp only[h,qbh];exact I.bl i hi j hj
 wi:=fun z h=>by
  refine I.wi z fun i hi=>?_
  have ne:∀i,i<t->i≠r->sumR t (fun a=>w i a*z a)=0:=fun i hi hir=>by
   have:=h i hi;unfold zc8 at this;simpa only[hir,qbh]using this
  by_cases hir:i=r
  ·subst hir;have h1:=h i hi;unfold zc8 at h1;simp only[if_true]at h1;rw[zal (g:=fun a=>w i a*z a-q*(w o a*z a)) fun a _=>by grind,zdd,zaZ,ne o ho (Ne.symm hro)]at h1;lia
  ·exact ne i hi hir
 kv:=I.kv
 vk:=I.vk
theorem Inv.col (I:Inv t n A b w v k)(hc:c<n)(ho:o<n)(hco:c≠o)(q:Int):Inv t n A (znE b c o q) w (zc8 v c o q) (zc8 k o c (-q)) where
 bl:=fun i hi j hj=>by
  unfold znE zc8
  by_cases h:j=c
  ·simp only[h,if_true];rw[I.bl i hi c hc,I.bl i hi o ho,<-zaZ,<-zdd];refine zal fun a _=>?_
   rw[<-zaZ,<-zdd];refine zal fun p _=>?_
   grind
  ·simp only[h,qbh];exact I.bl i hi j hj
 wi:=I.wi
 kv:=fun p p' hp hp'=>by
  rw[<-I.kv p p' hp hp'];rw[zal (g:=fun j=>k j p*v j p'+((if j=o then q*(k c p*v o p')else 0)+(if j=c then-(q*(k c p*v o p'))else 0))) fun j _=>?_,zcN,zcN,zfI,zfI,if_pos ho,if_pos hc]
  ·lia
  ·unfold zc8
   by_cases h1:j=o
   ·have:¬j=c:=fun z=>hco (z ▸ h1)
    have h2:¬o=c:=Ne.symm hco;simp only[h1,h2,if_true,qbh]
    grind
   ·by_cases h2:j=c
    ·simp only[h1,h2,hco,if_true,qbh]
     grind
    ·simp only[h1,h2,qbh];lia
 vk:=fun i j hi hj=>by
  have key:∀x y:Nat->Int,sumR n (fun p=>(x p-q*v o p)*y p)=sumR n (fun p=>x p*y p)-q*sumR n (fun p=>v o p*y p):=fun x y=>by
   rw[zal (g:=fun p=>x p*y p-q*(v o p*y p)) fun p _=>by grind,zdd,zaZ]
  have key2:∀x y:Nat->Int,sumR n (fun p=>x p*(y p- -q*k c p))=sumR n (fun p=>x p*y p)+q*sumR n (fun p=>x p*k c p):=fun x y=>by
   rw[zal (g:=fun p=>x p*y p+q*(x p*k c p)) fun p _=>by grind,zcN,zaZ]
  unfold zc8
  by_cases h1:i=c
  ·by_cases h2:j=o
   ·subst h1 h2;simp only[if_true];rw[key (fun p=>v i p) (fun p=>k j p- -q*k i p),key2 (fun p=>v i p),key2 (fun p=>v j p),I.vk i j hi hj,I.vk i i hi hi,I.vk j j hj hj,I.vk j i hj hi];unfold un;rw[if_pos rfl,if_pos rfl,if_neg hco,if_neg (Ne.symm hco)];lia
   ·simp only[h1,h2,if_true,qbh];rw[key (fun p=>v c p) (fun p=>k j p),I.vk c j hc hj,I.vk o j ho hj];unfold un;rw[if_neg h2 (α:=Int)];lia
  ·by_cases h2:j=o
   ·simp only[h1,h2,if_true,qbh];rw[key2 (fun p=>v i p) (fun p=>k o p),I.vk i o hi ho,I.vk i c hi hc];unfold un;rw[if_neg (Ne.symm h1) (α:=Int)];lia
   ·simp only[h1,h2,qbh];exact I.vk i j hi hj
end
def rnd (b:Nat->Nat->Int)(r c:Nat)(i j:Nat):Int:=
 if i=r then(if j=c then b r c else b r j-(b r j).fdiv (b r c)*b r c)
 else if j=c then b i c-(b i c).fdiv (b r c)*b r c
 else b i j-(b i c).fdiv (b r c)*b r j-(b r j).fdiv (b r c)*(b i c-(b i c).fdiv (b r c)*b r c)
def m2 (b:Nat->Nat->Int)(i k j l:Nat):Int:=b i j*b k l-b i l*b k j
def d3 (b:Nat->Nat->Int)(i k o j l q:Nat):Int:=b i j*m2 b k o l q-b i l*m2 b k o j q+b i q*m2 b k o j l
theorem za5 {a p:Int}(h:p≠0):(a-a.fdiv p*p).natAbs<p.natAbs:=by
 have e:a-a.fdiv p*p=a.fmod p:=by have:=qc3 a p;rw[qc2]at this;lia
 rw[e];have pos:∀a p:Int,0<p->(a.fmod p).natAbs<p.natAbs:=fun a p h=>by
  have h1:=qc4 a h;have h2:=Int.fmod_lt_of_pos a h;lia
 rcases qc5 h with h|h
 ·have e2:a.fmod p= -((-a).fmod (-p)):=by rw[Int.neg_fmod_neg];lia
  have:=pos (-a) (-p) (by lia);rw[e2,qc6];lia
 ·exact pos a p h
theorem zfm (b:Nat->Nat->Int)(r c:Nat):rnd b r c r c=b r c:=by simp[rnd]
section
variable {b:Nat->Nat->Int} {r c:Nat}
theorem zeT (hj:j≠c):rnd b r c r j=b r j-(b r j).fdiv (b r c)*b r c:=by simp[rnd,hj]
theorem zfJ (hi:i≠r):rnd b r c i c=b i c-(b i c).fdiv (b r c)*b r c:=by simp[rnd,hi]
theorem znP (hi:i≠r)(hj:j≠c):rnd b r c i j=b i j-(b i c).fdiv (b r c)*b r j-(b r j).fdiv (b r c)*(b i c-(b i c).fdiv (b r c)*b r c):=by simp[rnd,hi,hj]
theorem zii (hi:i≠r)(hj:j≠c):m2 (rnd b r c) r i c j=m2 b r i c j:=by
 unfold m2;rw[zfm,zeT hj,zfJ hi,znP hi hj]
 generalize (b i c).fdiv (b r c)=q
 generalize (b r j).fdiv (b r c)=q'
 grind
theorem zpt {i k j l:Nat}(hi:i≠r)(hk:k≠r)(hj:j≠c)(hl:l≠c):d3 (rnd b r c) r i k c j l=d3 b r i k c j l:=by
 unfold d3 m2;rw[zfm,zeT hj,zeT hl,zfJ hi,zfJ hk,znP hi hj,znP hi hl,znP hk hj,znP hk hl]
 generalize (b i c).fdiv (b r c)=q1
 generalize (b k c).fdiv (b r c)=q2
 generalize (b r j).fdiv (b r c)=q3
 generalize (b r l).fdiv (b r c)=q4
 grind
theorem zm2 (b:Nat->Nat->Int)(i j l:Nat):m2 b i i j l=0:=by unfold m2;grind
theorem zmr (b:Nat->Nat->Int)(i k j:Nat):m2 b i k j j=0:=by unfold m2;grind
theorem zmK (b:Nat->Nat->Int)(i k j l:Nat):m2 b k i j l= -m2 b i k j l:=by unfold m2;grind
theorem zgY (b:Nat->Nat->Int)(i k j l:Nat):m2 b i k l j= -m2 b i k j l:=by unfold m2;grind
theorem zmW (b:Nat->Nat->Int)(i k o j l q:Nat):d3 b k i o j l q= -d3 b i k o j l q:=by unfold d3 m2;grind
theorem zmf (b:Nat->Nat->Int)(i k o j l q:Nat):d3 b i o k j l q= -d3 b i k o j l q:=by unfold d3 m2;grind
theorem zmE (b:Nat->Nat->Int)(i k o j l q:Nat):d3 b i k o l j q= -d3 b i k o j l q:=by unfold d3 m2;grind
theorem zmL (b:Nat->Nat->Int)(i k o j l q:Nat):d3 b i k o j q l= -d3 b i k o j l q:=by unfold d3 m2;grind
theorem zml (b:Nat->Nat->Int)(i o j l q:Nat):d3 b i i o j l q=0:=by unfold d3 m2;grind
theorem d3_self2 (b:Nat->Nat->Int)(i k j l q:Nat):d3 b i k k j l q=0:=by unfold d3 m2;grind
theorem zmO (b:Nat->Nat->Int)(i k o j q:Nat):d3 b i k o j j q=0:=by unfold d3 m2;grind
theorem d3_self4 (b:Nat->Nat->Int)(i k o j l:Nat):d3 b i k o j l l=0:=by unfold d3 m2;grind
end
theorem zaE {a b:Int}{A B:Nat}(ha:a.natAbs<=A)(hb:b.natAbs<=B):(a*b).natAbs<=A*B:=by rw[qc7];exact Nat.mul_le_mul ha hb
theorem zjp (a b:Int):(a+b).natAbs<=a.natAbs+b.natAbs:=by lia
theorem zld {M:Nat}(h0:p≠0)(h:(p*y).natAbs<=M):y.natAbs<=M:=by
 rw[qc7]at h;have:1<=p.natAbs:=by lia
 exact qal (qc8 _ this) h
theorem y_le {p y m t s:Int}{M P:Nat}(e:p*y=m+t*s)(hm:m.natAbs<=M)(ht:t.natAbs<p.natAbs)(hs:s.natAbs<p.natAbs)(hp:p.natAbs<=P):(p*y).natAbs<=M+P*P:=by
 rw[e];have h1:=zjp m (t*s);have h2:=zaE (A:=P) (B:=P) (qal (qam ht) hp) (qal (qam hs) hp);lia
theorem ty_le {p y t:Int}(h:(p*y).natAbs<=K)(ht:t.natAbs<p.natAbs):(t*y).natAbs<=K:=by
 rw[qc7]at h ⊢;exact qal (qc9 _ (qam ht)) h
theorem div_le {p m d x y:Int}{D C:Nat}(h0:p≠0)(e:p*m=d+x-y)(hd:d.natAbs<=D)(hx:x.natAbs<=p.natAbs*(2*C))(hy:y.natAbs<=p.natAbs*(2*C)):m.natAbs<=D+4*C:=by
 have h1:(p*m).natAbs<=D+p.natAbs*(2*C)+p.natAbs*(2*C):=by rw[e];lia
 rw[qc7]at h1;have hp:0<p.natAbs:=by lia
 refine Nat.le_of_mul_le_mul_left (qal h1 ?_) hp;have h2:D<=p.natAbs*D:=qc8 _ hp;have h3:p.natAbs*(D+4*C)=p.natAbs*D+(p.natAbs*(2*C)+p.natAbs*(2*C)):=by rw[<-Nat.mul_add,<-Nat.mul_add];congr 1;lia
 lia
def Mb (Ro Co:List Nat)(b:Nat->Nat->Int)(M:Nat):Prop:=∀i,i∈Ro->∀k,k∈Ro->∀j,j∈Co->∀l,l∈Co->(m2 b i k j l).natAbs<=M
def Db (Ro Co:List Nat)(b:Nat->Nat->Int)(D:Nat):Prop:=∀i,i∈Ro->∀k,k∈Ro->∀o,o∈Ro->∀j,j∈Co->∀l,l∈Co->∀q,q∈Co->(d3 b i k o j l q).natAbs<=D
section
variable {b:Nat->Nat->Int} {r c:Nat} {Ro Co:List Nat} {M P D:Nat}
theorem y_eq (hi:i≠r)(hj:j≠c):b r c*rnd b r c i j=m2 b r i c j+rnd b r c i c*rnd b r c r j:=by
 have h:=zii (b:=b) hi hj;unfold m2 at h;rw[zfm]at h;rw[show m2 b r i c j=b r c*b i j-b r j*b i c from rfl,<-h]
 grind
theorem py_le (hr:r∈Ro)(hc:c∈Co)(h0:b r c≠0)(hp:(b r c).natAbs<=P)(hM:Mb Ro Co b M)(mi:i∈Ro)(mj:j∈Co)(hi:i≠r)(hj:j≠c):(b r c*rnd b r c i j).natAbs<=M+P*P:=
 y_le (y_eq hi hj) (hM r hr i mi c hc j mj) (by rw[zfJ hi];exact za5 h0) (by rw[zeT hj];exact za5 h0) hp
theorem zpC (hr:r∈Ro)(hc:c∈Co)(h0:b r c≠0)(hp:(b r c).natAbs<=P)(hM:Mb Ro Co b M)(mi:i∈Ro)(mj:j∈Co):(rnd b r c i j).natAbs<=M+P*P+P:=by
 by_cases hi:i=r
 ·subst hi
  by_cases hj:j=c
  ·subst hj;rw[zfm];lia
  ·rw[zeT hj];have:=za5 (a:=b i j) h0;lia
 ·by_cases hj:j=c
  ·subst hj;rw[zfJ hi];have:=za5 (a:=b i j) h0;lia
  ·have:=zld h0 (py_le hr hc h0 hp hM mi mj hi hj);lia
theorem mb_rnd (hr:r∈Ro)(hc:c∈Co)(h0:b r c≠0)(hp:(b r c).natAbs<=P)(hM:Mb Ro Co b M)(hD:Db Ro Co b D):Mb Ro Co (rnd b r c) (D+4*(M+P*P)):=by
 have K:=fun{i j:Nat} (mi:i∈Ro) (mj:j∈Co) (hi:i≠r) (hj:j≠c)=>py_le hr hc h0 hp hM mi mj hi hj
 have A:∀{i j:Nat},i∈Ro->j∈Co->i≠r->j≠c->(m2 (rnd b r c) r i c j).natAbs<=M:=fun mi mj hi hj=>by rw[zii hi hj];exact hM r hr _ mi c hc _ mj
 have Bc:∀{i j l:Nat},i∈Ro->j∈Co->l∈Co->i≠r->j≠c->l≠c->(m2 (rnd b r c) r i j l).natAbs<=2*(M+P*P):=fun{i j l} mi mj ml hi hj hl=>by
  unfold m2;have k1:=ty_le (K mi ml hi hl) (show(rnd b r c r j).natAbs<_ by rw[zeT hj];exact za5 h0);have k2:=ty_le (K mi mj hi hj) (show(rnd b r c r l).natAbs<_ by rw[zeT hl];exact za5 h0);lia
 have Cc:∀{i k j:Nat},i∈Ro->k∈Ro->j∈Co->i≠r->k≠r->j≠c->(m2 (rnd b r c) i k c j).natAbs<=2*(M+P*P):=fun{i k j} mi mk mj hi hk hj=>by
  unfold m2;have k1:=ty_le (K mk mj hk hj) (show(rnd b r c i c).natAbs<_ by rw[zfJ hi];exact za5 h0);have k2:=ty_le (K mi mj hi hj) (show(rnd b r c k c).natAbs<_ by rw[zfJ hk];exact za5 h0);rw[qc2 (rnd b r c i j)];lia
 have Dc:∀{i k j l:Nat},i∈Ro->k∈Ro->j∈Co->l∈Co->i≠r->k≠r->j≠c->l≠c->(m2 (rnd b r c) i k j l).natAbs<=D+4*(M+P*P):=fun{i k j l} mi mk mj ml hi hk hj hl=>by
  have e:=zpt (b:=b) hi hk hj hl;have hd:=hD r hr i mi k mk c hc j mj l ml;rw[<-e]at hd;have c1:=Cc mi mk ml hi hk hl;have c2:=Cc mi mk mj hi hk hj;have s1:(rnd b r c r j).natAbs<(b r c).natAbs:=by rw[zeT hj];exact za5 h0
  have s2:(rnd b r c r l).natAbs<(b r c).natAbs:=by rw[zeT hl];exact za5 h0
  have q:b r c*m2 (rnd b r c) i k j l=d3 (rnd b r c) r i k c j l+rnd b r c r j*m2 (rnd b r c) i k c l-rnd b r c r l*m2 (rnd b r c) i k c j:=by
   unfold d3;rw[zfm];grind
  have a1:=zaE (qam s1) c1;have a2:=zaE (qam s2) c2;exact div_le h0 q hd a1 a2
 intro i mi k mk j mj l ml;have le:∀{x:Int},x.natAbs<=2*(M+P*P)->x.natAbs<=D+4*(M+P*P):=fun h=>by lia
 have leM:∀{x:Int},x.natAbs<=M->x.natAbs<=D+4*(M+P*P):=fun h=>by lia
 by_cases hik:i=k
 ·subst hik;rw[zm2];simp
 by_cases hjl:j=l
 ·subst hjl;rw[zmr];simp
 by_cases hi:i=r
 ·subst hi
  by_cases hj:j=c
  ·subst hj;exact leM (A mk ml (Ne.symm hik) (Ne.symm hjl))
  ·by_cases hl:l=c
   ·subst hl;rw[zgY,qc6];exact leM (A mk mj (Ne.symm hik) hj)
   ·exact le (Bc mk mj ml (Ne.symm hik) hj hl)
 by_cases hk:k=r
 ·subst hk;rw[zmK,qc6]
  by_cases hj:j=c
  ·subst hj;exact leM (A mi ml hi (Ne.symm hjl))
  ·by_cases hl:l=c
   ·subst hl;rw[zgY,qc6];exact leM (A mi mj hi hj)
   ·exact le (Bc mi mj ml hi hj hl)
 by_cases hj:j=c
 ·subst hj;exact le (Cc mi mk ml hi hk (Ne.symm hjl))
 by_cases hl:l=c
 ·subst hl;rw[zgY,qc6];exact le (Cc mi mk mj hi hk hj)
 exact Dc mi mk mj ml hi hk hj hl
theorem zpx {i k o:Nat}(n:Ro.length<=3)(hr:r∈Ro)(mi:i∈Ro)(mk:k∈Ro)(mo:o∈Ro)(h1:i≠k)(h2:i≠o)(h3:k≠o):∃i' k',i'∈Ro/\k'∈Ro/\i'≠r/\k'≠r/\∀(b:Nat->Nat->Int) (j l q:Nat),(d3 b i k o j l q).natAbs=(d3 b r i' k' j l q).natAbs:=by
 have:i=r\/k=r\/o=r:=by
  match Ro,n with
  |[],_=>simp at hr
  |[a],_=>simp at hr mi mk mo;lia
  |[a,b],_=>simp at hr mi mk mo;lia
  |[a,b,c],_=>simp at hr mi mk mo;lia
  |_::_::_::_::_,n=>simp at n
 rcases this with rfl|rfl|rfl
 ·exact⟨k,o,mk,mo,h1.symm,h2.symm,fun _ _ _ _=>rfl⟩
 ·exact⟨i,o,mi,mo,h1,h3.symm,fun b j l q=>by rw[zmW,qc6]⟩
 ·exact⟨i,k,mi,mk,h2,h3,fun b j l q=>by rw[zmf,zmW];simp⟩
theorem zoL {j l q:Nat}(n:Co.length<=3)(hc:c∈Co)(mj:j∈Co)(ml:l∈Co)(mq:q∈Co)(h1:j≠l)(h2:j≠q)(h3:l≠q):∃j' l',j'∈Co/\l'∈Co/\j'≠c/\l'≠c/\∀(b:Nat->Nat->Int) (i k o:Nat),(d3 b i k o j l q).natAbs=(d3 b i k o c j' l').natAbs:=by
 have:j=c\/l=c\/q=c:=by
  match Co,n with
  |[],_=>simp at hc
  |[a],_=>simp at hc mj ml mq;lia
  |[a,b],_=>simp at hc mj ml mq;lia
  |[a,b,c],_=>simp at hc mj ml mq;lia
  |_::_::_::_::_,n=>simp at n
 rcases this with rfl|rfl|rfl
 ·exact⟨l,q,ml,mq,h1.symm,h2.symm,fun _ _ _ _=>rfl⟩
 ·exact⟨j,q,mj,mq,h1,h3.symm,fun b i k o=>by rw[zmE,qc6]⟩
 ·exact⟨j,l,mj,ml,h2,h3,fun b i k o=>by rw[zmL,zmE];simp⟩
theorem db_rnd (n:Ro.length<=3)(m:Co.length<=3)(hr:r∈Ro)(hc:c∈Co)(hD:Db Ro Co b D):Db Ro Co (rnd b r c) D:=by
 intro i mi k mk o mo j mj l ml q mq
 by_cases h1:i=k
 ·subst h1;rw[zml];simp
 by_cases h3:k=o
 ·subst h3;rw[d3_self2];simp
 by_cases h2:i=o
 ·subst h2;rw[zmf,zml];simp
 by_cases g1:j=l
 ·subst g1;rw[zmO];simp
 by_cases g3:l=q
 ·subst g3;rw[d3_self4];simp
 by_cases g2:j=q
 ·subst g2;rw[zmL,zmO];simp
 obtain⟨i',k',mi',mk',hi',hk',e⟩:=zpx n hr mi mk mo h1 h2 h3;obtain⟨j',l',mj',ml',hj',hl',f⟩:=zoL m hc mj ml mq g1 g2 g3;rw[e,f,zpt hi' hk' hj' hl'];exact hD r hr i' mi' k' mk' c hc j' mj' l' ml'
theorem mb2_rnd (n:Ro.length<=2)(m:Co.length<=2)(hr:r∈Ro)(hc:c∈Co)(hM:Mb Ro Co b M):Mb Ro Co (rnd b r c) M:=by
 intro i mi k mk j mj l ml
 by_cases h1:i=k
 ·subst h1;rw[zm2];simp
 by_cases g1:j=l
 ·subst g1;rw[zmr];simp
 have h:i=r\/k=r:=by
  match Ro,n with
  |[],_=>simp at hr
  |[a],_=>simp at hr mi mk;lia
  |[a,b],_=>simp at hr mi mk;lia
  |_::_::_::_,n=>simp at n
 have g:j=c\/l=c:=by
  match Co,m with
  |[],_=>simp at hc
  |[a],_=>simp at hc mj ml;lia
  |[a,b],_=>simp at hc mj ml;lia
  |_::_::_::_,n=>simp at n
 rcases h with rfl|rfl
 ·rcases g with rfl|rfl
  ·rw[zii (Ne.symm h1) (Ne.symm g1)];exact hM _ hr _ mk _ hc _ ml
  ·rw[zgY,qc6,zii (Ne.symm h1) g1];exact hM _ hr _ mk _ hc _ mj
 ·rw[zmK,qc6];rcases g with rfl|rfl
  ·rw[zii h1 (Ne.symm g1)];exact hM _ hr _ mi _ hc _ ml
  ·rw[zgY,qc6,zii h1 g1];exact hM _ hr _ mi _ hc _ mj
end
def Lst (Ro Co:List Nat)(b:Nat->Nat->Int)(r c:Nat):Prop:=r∈Ro/\c∈Co/\b r c≠0/\∀i,i∈Ro->∀j,j∈Co->b i j≠0->(b r c).natAbs<=(b i j).natAbs
def Opn (Ro Co:List Nat)(b:Nat->Nat->Int)(r c:Nat):Prop:=(∃i,i∈Ro/\i≠r/\rnd b r c i c≠0)\/(∃j,j∈Co/\j≠c/\rnd b r c r j≠0)
section
variable {b:Nat->Nat->Int} {r c r' c':Nat} {Ro Co:List Nat} {M P D U k:Nat}
theorem zcY (a p:Int):a-a.fdiv p*p=a.fmod p:=by have:=qc3 a p;rw[qc2]at this;lia
theorem Opn.small (h0:b r c≠0)(o:Opn Ro Co b r c)(hr:r∈Ro)(hc:c∈Co):∃i,i∈Ro/\∃j,j∈Co/\rnd b r c i j≠0/\(rnd b r c i j).natAbs<(b r c).natAbs:=by
 rcases o with⟨i,mi,hi,h⟩|⟨j,mj,hj,h⟩
 ·exact⟨i,mi,c,hc,h,by rw[zfJ hi];exact za5 h0⟩
 ·exact⟨r,hr,j,mj,h,by rw[zeT hj];exact za5 h0⟩
theorem Lst.fall (l:Lst Ro Co b r c)(o:Opn Ro Co b r c)(l':Lst Ro Co (rnd b r c) r' c'):(rnd b r c r' c').natAbs<(b r c).natAbs:=by
 obtain⟨i,mi,j,mj,h,lt⟩:=o.small l.2.2.1 l.1 l.2.1;exact qbH (l'.2.2.2 i mi j mj h) lt
def I3 (Ro Co:List Nat)(P D U k:Nat)(b:Nat->Nat->Int):Prop:=Db Ro Co b D/\Mb Ro Co b (U*5^k)/\∃i,i∈Ro/\∃j,j∈Co/\b i j≠0/\(b i j).natAbs+k<=P
theorem I3.low (I:I3 Ro Co P D U k b)(l:Lst Ro Co b r c):(b r c).natAbs+k<=P:=by
 obtain⟨_,_,i,mi,j,mj,h,p⟩:=I;have:=l.2.2.2 i mi j mj h;lia
theorem grow (hU:D+4*(P*P)<=U):D+4*(U*5^k+P*P)<=U*5^(k+1):=by
 have h:U<=U*5^k:=Nat.le_mul_of_pos_right _ (Nat.pow_pos (by lia));rw[qcY,<-Nat.mul_assoc];lia
theorem Mb.le {M N:Nat}(h:Mb Ro Co b M)(l:M<=N):Mb Ro Co b N:=fun i mi k mk j mj q mq=>qal (h i mi k mk j mj q mq) l
theorem I3.mb (I:I3 Ro Co P D U k b)(hU:D+4*(P*P)<=U)(l:Lst Ro Co b r c):Mb Ro Co (rnd b r c) (U*5^(k+1)):=
 (mb_rnd l.1 l.2.1 l.2.2.1 (show _<=P by have:=I.low l;lia) I.2.1 I.1).le (grow hU)
theorem I3.step (n:Ro.length<=3)(m:Co.length<=3)(I:I3 Ro Co P D U k b)(hU:D+4*(P*P)<=U)(l:Lst Ro Co b r c)(o:Opn Ro Co b r c):I3 Ro Co P D U (k+1) (rnd b r c):=by
 refine⟨db_rnd n m l.1 l.2.1 I.1,I.mb hU l,?_⟩;obtain⟨i,mi,j,mj,h,lt⟩:=o.small l.2.2.1 l.1 l.2.1;have:=I.low l;exact⟨i,mi,j,mj,h,by lia⟩
theorem I3.ent (I:I3 Ro Co P D U k b)(l:Lst Ro Co b r c)(mi:i∈Ro)(mj:j∈Co):(rnd b r c i j).natAbs<=U*5^k+P*P+P:=
 zpC l.1 l.2.1 l.2.2.1 (by have:=I.low l;lia) I.2.1 mi mj
end
theorem zgW {x z:Int}(hz:0<z)(h:z<=x):2*(x.fmod z).natAbs<=x.natAbs:=by
 have h1:=qc4 x hz;have h2:=Int.fmod_lt_of_pos x hz;have e:=qc3 x z;have q:1<=x.fdiv z:=by
  rcases qda (x.fdiv z) 1 with h3|h3
  ·have:z*x.fdiv z<=z*0:=qdb (by lia) (by lia);lia
  ·exact h3
 have:z*1<=z*x.fdiv z:=qdb q (by lia);lia
theorem sgn {x z:Int}(h:0<=x*z)(hz:z≠0)(hx:x≠0):(0<z/\0<x)\/(z<0/\x<0):=by
 rcases qc5 hz with h1|h1<;>rcases qc5 hx with h2|h2
 ·exact .inr ⟨h1,h2⟩
 ·have:=qdc h2 h1;lia
 ·have:=qdd h2 h1;lia
 ·exact .inl ⟨h1,h2⟩
theorem ziW {x z:Int}(s:0<=x*z)(hz:z≠0)(h:z.natAbs<=x.natAbs):2*(x.fmod z).natAbs<=x.natAbs:=by
 rcases sgn s hz (by intro e;subst e;simp at h;exact hz h)with⟨h1,h2⟩|⟨h1,h2⟩
 ·exact zgW h1 (by lia)
 ·have:=zgW (x:= -x) (z:= -z) (by lia) (by lia);rw[Int.neg_fmod_neg,qc6,qc6]at this;exact this
theorem zdk (x:Int)(h:p≠0):0<=p*x.fmod p:=by
 rcases qc5 h with h1|h1
 ·have e2:x.fmod p= -((-x).fmod (-p)):=by rw[Int.neg_fmod_neg];lia
  have:=qc4 (-x) (show 0< -p by lia);rw[e2];exact qde (by lia) (by lia)
 ·exact qdf (by lia) (qc4 x h1)
theorem znf {x z:Int}(e:x.fmod z=0)(h:z.natAbs<x.natAbs):2*z.natAbs<=x.natAbs:=by
 have f:=qc3 x z;rw[e,Int.add_zero]at f;rw[<-f,qc7]at h ⊢;have:2<=(x.fdiv z).natAbs:=by
  rcases qdg (x.fdiv z).natAbs 2 with h3|h3
  ·have:z.natAbs*(x.fdiv z).natAbs<=z.natAbs*1:=qdh _ (by lia);lia
  ·exact h3
 have:=qdh z.natAbs this;lia
section
variable {b:Nat->Nat->Int} {r c r' c':Nat} {Ro Co:List Nat}
theorem Lst.cross (l:Lst Ro Co b r c)(o:Opn Ro Co b r c)(l':Lst Ro Co (rnd b r c) r' c')(h:(∃i,i∈Ro/\i≠r/\x=b i c)\/(∃j,j∈Co/\j≠c/\x=b r j))(s:0<=x*b r c)(lt:(b r c).natAbs<x.natAbs):2*(rnd b r c r' c').natAbs<=x.natAbs:=by
 have f:=l.fall o l';have hh:=ziW s l.2.2.1 (qam lt)
 by_cases z:x.fmod (b r c)=0
 ·have:=znf z lt;lia
 ·have:(rnd b r c r' c').natAbs<=(x.fmod (b r c)).natAbs:=by
   rcases h with⟨i,mi,hi,rfl⟩|⟨j,mj,hj,rfl⟩
   ·have e:rnd b r c i c=(b i c).fmod (b r c):=by rw[zfJ hi,zcY]
    rw[<-e];exact l'.2.2.2 i mi c l.2.1 (by rw[e];exact z)
   ·have e:rnd b r c r j=(b r j).fmod (b r c):=by rw[zeT hj,zcY]
    rw[<-e];exact l'.2.2.2 r l.1 j mj (by rw[e];exact z)
  lia
end
section
variable {b:Nat->Nat->Int} {r c r1 c1 r2 c2 r3 c3:Nat} {Ro Co:List Nat}
theorem zlk (n:l.length<=2){a b d:Nat}(ha:a∈l)(hb:b∈l)(hd:d∈l):a=b\/d=a\/d=b:=by
 match l,n with
 |[],_=>simp at ha
 |[x],_=>simp at ha hb hd;lia
 |[x,y],_=>simp at ha hb hd;lia
 |_::_::_::_,n=>simp at n
theorem across {p y t s p' t' s':Int}(e:y*p'-t'*s'=y*p-t*s)(hy:y≠0)(hp:p*y<0)(ht:t≠0->y.natAbs<=t.natAbs)(hs:s≠0->y.natAbs<=s.natAbs)(ht':t'.natAbs<y.natAbs)(hs':s'.natAbs<y.natAbs)(t0:t=0->t'=0)(s0:s=0->s'=0)(st:0<=t*s)(st':0<=t'*s'):p.natAbs<=p'.natAbs:=by
 have h1:(t'*s').natAbs<=(t*s).natAbs:=by
  by_cases a:t=0
  ·rw[t0 a];simp
  by_cases a2:s=0
  ·rw[s0 a2];simp
  rw[qc7,qc7];exact Nat.mul_le_mul (by have:=ht a;lia) (by have:=hs a2;lia)
 rw[qc2 p y]at hp;have h2:(y*p).natAbs<=(y*p').natAbs:=by
  generalize t*s=u at*
  generalize t'*s'=u' at*
  generalize y*p=v at*
  generalize y*p'=v' at*
  lia
 rw[qc7,qc7]at h2;exact Nat.le_of_mul_le_mul_left h2 (by lia)
theorem zcg {x z:Int}(h:x=0):x.fmod z=0:=by subst h;simp
theorem zjZ {p t s:Int}(hp:p≠0)(h1:0<=p*t)(h2:0<=p*s):0<=t*s:=by
 rcases qc5 hp with h|h
 ·have a:t<=0:=by
   rcases qda 0 t with g|g
   ·have:=qdd h g;lia
   ·exact g
  have a2:s<=0:=by
   rcases qda 0 s with g|g
   ·have:=qdd h g;lia
   ·exact g
  exact qde a a2
 ·have a:0<=t:=by
   rcases qda t 0 with g|g
   ·have:=qdc h g;lia
   ·exact g
  have a2:0<=s:=by
   rcases qda s 0 with g|g
   ·have:=qdc h g;lia
   ·exact g
  exact qdf a a2
theorem half3 (n:Ro.length<=2)(m:Co.length<=2)(l0:Lst Ro Co b r c)(o0:Opn Ro Co b r c){b1 b2 b3:Nat->Nat->Int}(e1:b1=rnd b r c)(l1:Lst Ro Co b1 r1 c1)(o1:Opn Ro Co b1 r1 c1)(e2:b2=rnd b1 r1 c1)(l2:Lst Ro Co b2 r2 c2)(o2:Opn Ro Co b2 r2 c2)(e3:b3=rnd b2 r2 c2)(l3:Lst Ro Co b3 r3 c3):2*(b3 r3 c3).natAbs<=(b r c).natAbs:=by
 have f0:(b1 r1 c1).natAbs<(b r c).natAbs:=by subst e1;exact l0.fall o0 l1
 have f1:(b2 r2 c2).natAbs<(b1 r1 c1).natAbs:=by subst e2;exact l1.fall o1 l2
 have f2:(b3 r3 c3).natAbs<(b2 r2 c2).natAbs:=by subst e3;exact l2.fall o2 l3
 have h0:=l0.2.2.1;have h1:=l1.2.2.1;have corner:b1 r c=b r c:=by rw[e1,zfm]
 have corner2:b2 r1 c1=b1 r1 c1:=by rw[e2,zfm]
 have tS:∀i,i≠r->b1 i c=(b i c).fmod (b r c):=fun i hi=>by rw[e1,zfJ hi,zcY]
 have sS:∀j,j≠c->b1 r j=(b r j).fmod (b r c):=fun j hj=>by rw[e1,zeT hj,zcY]
 by_cases hr:r1=r
 ·--in the corner's row
  by_cases hc:c1=c
  ·subst hr;subst hc;rw[corner]at f0;lia
  ·have x:=l1.cross o1 (e2 ▸ l2) (x:=b1 r c) (.inr ⟨c,l0.2.1,Ne.symm hc,by rw[hr]⟩) (by rw[hr,corner,sS c1 hc];exact zdk _ h0) (by rw[corner];exact f0);rw[<-e2,corner]at x;lia
 by_cases hc:c1=c
 ·have x:=l1.cross o1 (e2 ▸ l2) (x:=b1 r c) (.inl ⟨r,l0.1,Ne.symm hr,by rw[hc]⟩) (by rw[hc,corner,tS r1 hr];exact zdk _ h0) (by rw[corner];exact f0);rw[<-e2,corner]at x;lia
 have t2:b2 r1 c=(b1 r1 c).fmod (b1 r1 c1):=by rw[e2,zeT (Ne.symm hc),zcY]
 have s2:b2 r c1=(b1 r c1).fmod (b1 r1 c1):=by rw[e2,zfJ (Ne.symm hr),zcY]
 have lt:b1 r1 c≠0->(b1 r1 c1).natAbs<=(b1 r1 c).natAbs:=fun h=>l1.2.2.2 r1 l1.1 c l0.2.1 h
 have ls:b1 r c1≠0->(b1 r1 c1).natAbs<=(b1 r c1).natAbs:=fun h=>l1.2.2.2 r l0.1 c1 l1.2.1 h
 have ut:(b1 r1 c).natAbs<(b r c).natAbs:=by rw[e1,zfJ hr];exact za5 h0
 have us:(b1 r c1).natAbs<(b r c).natAbs:=by rw[e1,zeT hc];exact za5 h0
 have gt:0<=b r c*b1 r1 c:=by rw[tS r1 hr];exact zdk _ h0
 have gs:0<=b r c*b1 r c1:=by rw[sS c1 hc];exact zdk _ h0
 rcases qda (b r c*b1 r1 c1) 0 with neg|pos
 ·--another sign
  have big:(b r c).natAbs<=(b2 r c).natAbs:=by
   have d:=zii (b:=b1) (r:=r1) (c:=c1) (i:=r) (j:=c) (Ne.symm hr) (Ne.symm hc);rw[<-e2]at d;unfold m2 at d;rw[corner2,corner]at d;exact across (y:=b1 r1 c1) (t:=b1 r1 c) (s:=b1 r c1) (t':=b2 r1 c) (s':=b2 r c1) (p:=b r c) (p':=b2 r c) d h1 neg lt ls
    (by rw[t2,<-zcY];exact za5 h1) (by rw[s2,<-zcY];exact za5 h1) (fun z=>by rw[t2];exact zcg z) (fun z=>by rw[s2];exact zcg z)
    (zjZ h0 gt gs) (zjZ h1 (by rw[t2];exact zdk _ h1) (by rw[s2];exact zdk _ h1))
  rcases zlk n l0.1 l1.1 l2.1 with a|a|a
  ·exact absurd a.symm hr
  ·rcases zlk m l0.2.1 l1.2.1 l2.2.1 with g|g|g
   ·exact absurd g.symm hc
   ·subst a;subst g;lia
   ·have x:=l2.cross o2 (e3 ▸ l3) (x:=b2 r1 c1) (.inl ⟨r1,l1.1,by rw[a];exact hr,by rw[g]⟩) (by rw[a,g,corner2,s2];exact zdk _ h1) (by rw[corner2];exact f1);rw[<-e3,corner2]at x;lia
  ·rcases zlk m l0.2.1 l1.2.1 l2.2.1 with g|g|g
   ·exact absurd g.symm hc
   ·have x:=l2.cross o2 (e3 ▸ l3) (x:=b2 r1 c1) (.inr ⟨c1,l1.2.1,by rw[g];exact hc,by rw[a]⟩) (by rw[a,g,corner2,t2];exact zdk _ h1) (by rw[corner2];exact f1);rw[<-e3,corner2]at x;lia
   ·subst a;subst g;rw[corner2]at f1;lia
 ·--the same sign
  have key:(b2 r1 c≠0/\2*(b2 r1 c).natAbs<=(b1 r1 c).natAbs)\/(b2 r c1≠0/\2*(b2 r c1).natAbs<=(b1 r c1).natAbs):=by
   rcases o1 with⟨i,mi,hi,h⟩|⟨j,mj,hj,h⟩
   ·rcases zlk n l0.1 l1.1 mi with a|a|a
    ·exact absurd a.symm hr
    ·subst a;rw[<-e2]at h;have nz:b1 i c1≠0:=fun z=>h (by rw[s2];exact zcg z)
     exact .inr ⟨h,by rw[s2];exact ziW (zjZ h0 gs pos) h1 (ls nz)⟩
    ·exact absurd a hi
   ·rcases zlk m l0.2.1 l1.2.1 mj with a|a|a
    ·exact absurd a.symm hc
    ·subst a;rw[<-e2]at h;have nz:b1 r1 j≠0:=fun z=>h (by rw[t2];exact zcg z)
     exact .inl ⟨h,by rw[t2];exact ziW (zjZ h0 gt pos) h1 (lt nz)⟩
    ·exact absurd a hj
  rcases key with⟨nz,q⟩|⟨nz,q⟩
  ·have:=l2.2.2.2 r1 l1.1 c l0.2.1 nz;lia
  ·have:=l2.2.2.2 r l0.1 c1 l1.2.1 nz;lia
end
def bi (x y z:Bool):Int:=(if x then 1 else 0)-(if y&&z then 1 else 0)
def det3 (a b c d e f g h i:Int):Int:=a*(e*i-f*h)-b*(d*i-f*g)+c*(d*h-e*g)
theorem zqb:∀y0 y1 y2 z0 z1 z2:Bool,∀a b c d e f g h i:Bool,(det3 (bi a y0 z0) (bi b y0 z1) (bi c y0 z2) (bi d y1 z0) (bi e y1 z1) (bi f y1 z2) (bi g y2 z0) (bi h y2 z1) (bi i y2 z2)).natAbs<=3:=by decide+kernel
theorem bit {a:Int}(h:a=0\/a=1):∃A:Bool,a=if A then 1 else 0:=by
 rcases h with rfl|rfl
 ·exact⟨false,rfl⟩
 ·exact⟨true,rfl⟩
theorem bi_eq (x y z:Bool):((if x then 1 else 0:Int)-(if y then 1 else 0)*(if z then 1 else 0))=bi x y z:=by cases x<;>cases y<;>cases z<;>rfl
theorem det3_01 {y0 y1 y2 z0 z1 z2 a b c d e f g h i:Int}(hy0:y0=0\/y0=1)(hy1:y1=0\/y1=1)(hy2:y2=0\/y2=1)(hz0:z0=0\/z0=1)(hz1:z1=0\/z1=1)(hz2:z2=0\/z2=1)(ha:a=0\/a=1)(hb:b=0\/b=1)(hc:c=0\/c=1)(hd:d=0\/d=1)(he:e=0\/e=1)(hf:f=0\/f=1)(hg:g=0\/g=1)(hh:h=0\/h=1)(hi:i=0\/i=1):(det3 (a-y0*z0) (b-y0*z1) (c-y0*z2) (d-y1*z0) (e-y1*z1) (f-y1*z2) (g-y2*z0) (h-y2*z1) (i-y2*z2)).natAbs<=3:=by
 obtain⟨Y0,rfl⟩:=bit hy0;obtain⟨Y1,rfl⟩:=bit hy1;obtain⟨Y2,rfl⟩:=bit hy2;obtain⟨Z0,rfl⟩:=bit hz0;obtain⟨Z1,rfl⟩:=bit hz1;obtain⟨Z2,rfl⟩:=bit hz2;obtain⟨A,rfl⟩:=bit ha;obtain⟨B,rfl⟩:=bit hb;obtain⟨C,rfl⟩:=bit hc;obtain⟨D,rfl⟩:=bit hd;obtain⟨E,rfl⟩:=bit he;obtain⟨F,rfl⟩:=bit hf;obtain⟨G,rfl⟩:=bit hg;obtain⟨H,rfl⟩:=bit hh;obtain⟨I,rfl⟩:=bit hi;simp only[bi_eq];exact zqb Y0 Y1 Y2 Z0 Z1 Z2 A B C D E F G H I
def SubL (l' l:List Nat)(r:Nat):Prop:=∀i,i∈l'->i∈l/\i≠r
def Eb (Ro Co:List Nat)(b:Nat->Nat->Int)(E:Nat):Prop:=∀i,i∈Ro->∀j,j∈Co->(b i j).natAbs<=E
section
variable {b:Nat->Nat->Int} {r c:Nat} {Ro Co Ro' Co':List Nat} {M P D E:Nat}
theorem zo7 (l:Lst Ro Co b r c)(h:∀x:Int,(∃i,i∈Ro/\∃j,j∈Co/\x=b i j)->x.fmod (b r c)=0):¬Opn Ro Co b r c:=by
 rintro(⟨i,mi,hi,n⟩|⟨j,mj,hj,n⟩)
 ·rw[zfJ hi,zcY]at n;exact n (h _ ⟨i,mi,c,l.2.1,rfl⟩)
 ·rw[zeT hj,zcY]at n;exact n (h _ ⟨r,l.1,j,mj,rfl⟩)
theorem zeU (l:Lst Ro Co b r c)(u:(b r c).natAbs=1):¬Opn Ro Co b r c:=
 zo7 l fun x _=>by have:=za5 (a:=x) l.2.2.1;rw[zcY]at this;lia
theorem zkF (l:Lst Ro Co b r c)(h:Eb Ro Co b (b r c).natAbs):¬Opn Ro Co b r c:=
 zo7 l fun x ⟨i,mi,j,mj,e⟩=>by
  by_cases z:x=0
  ·exact zcg z
  ·have h1:=h i mi j mj;have h2:=l.2.2.2 i mi j mj (by rw[<-e];exact z);rw[<-e]at h1 h2;have:b r c∣x:=Int.natAbs_dvd_natAbs.mp ⟨1,by lia⟩;exact Int.fmod_eq_zero_of_dvd this
theorem y_fin (o:¬Opn Ro Co b r c)(mi:i∈Ro)(hi:i≠r)(hj:j≠c):b r c*rnd b r c i j=m2 b r i c j:=by
 rw[y_eq hi hj];have:rnd b r c i c=0:=qdi fun n=>o (.inl ⟨i,mi,hi,n⟩)
 rw[this];simp
theorem zjv (l:Lst Ro Co b r c)(o:¬Opn Ro Co b r c)(hM:Mb Ro Co b M)(s1:SubL Ro' Ro r)(s2:SubL Co' Co c)(q:M<(E+1)*(b r c).natAbs):Eb Ro' Co' (rnd b r c) E:=by
 intro i mi j mj;obtain⟨a1,a2⟩:=s1 i mi;obtain⟨g1,g2⟩:=s2 j mj;have e:=y_fin o a1 a2 g2;have h:=hM r l.1 i a1 c l.2.1 j g1;rw[<-e,qc7]at h;rcases qdg E (rnd b r c i j).natAbs with x|x
 ·have:=qdh (b r c).natAbs (show E+1<=(rnd b r c i j).natAbs from x);rw[Nat.mul_comm]at this;lia
 ·exact x
theorem Eb.mb (h:Eb Ro Co b E):Mb Ro Co b (2*(E*E)):=by
 intro i mi k mk j mj l ml;unfold m2;have a:=zaE (h i mi j mj) (h k mk l ml);have a2:=zaE (h i mi l ml) (h k mk j mj);lia
theorem Eb.low (h:Eb Ro Co b E)(l:Lst Ro Co b r c):1<=(b r c).natAbs/\(b r c).natAbs<=E:=⟨by have:=l.2.2.1;lia,h r l.1 c l.2.1⟩
theorem st01 (h:∀i,i∈Ro->∀j,j∈Co->b i j=0\/b i j=1)(l:Lst Ro Co b r c):¬Opn Ro Co b r c/\(SubL Ro' Ro r->SubL Co' Co c->Eb Ro' Co' (rnd b r c) 1/\Db Ro' Co' (rnd b r c) 3):=by
 have one:b r c=1:=(h r l.1 c l.2.1).resolve_left l.2.2.1;have o:=zeU l (by rw[one];rfl);refine⟨o,fun s1 s2=>?_⟩;have y:∀i,i∈Ro'->∀j,j∈Co'->rnd b r c i j=b i j-b i c*b r j:=fun i mi j mj=>by
  have e:=y_fin o (s1 i mi).1 (s1 i mi).2 (s2 j mj).2;unfold m2 at e;rw[one,Int.one_mul,Int.one_mul,qc2 (b r j)]at e;exact e
 constructor
 ·intro i mi j mj;rw[y i mi j mj];obtain⟨A,a⟩:=bit (h i (s1 i mi).1 j (s2 j mj).1);obtain⟨B,b'⟩:=bit (h i (s1 i mi).1 c l.2.1);obtain⟨C,c'⟩:=bit (h r l.1 j (s2 j mj).1);rw[a,b',c'];cases A<;>cases B<;>cases C<;>decide
 ·intro i mi k mk o' mo j mj l' ml q mq;unfold d3 m2;rw[y i mi j mj,y i mi l' ml,y i mi q mq,y k mk j mj,y k mk l' ml,y k mk q mq,y o' mo j mj,y o' mo l' ml,y o' mo q mq];have hh:=fun i (mi:i∈Ro') j (mj:j∈Co')=>h i (s1 i mi).1 j (s2 j mj).1
  exact det3_01 (h i (s1 i mi).1 c l.2.1) (h k (s1 k mk).1 c l.2.1) (h o' (s1 o' mo).1 c l.2.1) (h r l.1 j (s2 j mj).1) (h r l.1 l' (s2 l' ml).1) (h r l.1 q (s2 q mq).1) (hh i mi j mj) (hh i mi l' ml) (hh i mi q mq) (hh k mk j mj) (hh k mk l' ml) (hh k mk q mq) (hh o' mo j mj) (hh o' mo l' ml) (hh o' mo q mq)
theorem fin_m2 (l:Lst Ro Co b r c)(o:¬Opn Ro Co b r c)(hD:Db Ro Co b D)(s1:SubL Ro' Ro r)(s2:SubL Co' Co c):Mb Ro' Co' (rnd b r c) D:=by
 intro i mi k mk j mj q mq;have e:=zpt (b:=b) (s1 i mi).2 (s1 k mk).2 (s2 j mj).2 (s2 q mq).2;have h:=hD r l.1 i (s1 i mi).1 k (s1 k mk).1 c l.2.1 j (s2 j mj).1 q (s2 q mq).1;rw[<-e]at h;have z:∀j,j∈Co'->rnd b r c r j=0:=fun j mj=>qdi fun n=>o (.inr ⟨j,(s2 j mj).1,(s2 j mj).2,n⟩)
 unfold d3 at h;rw[z j mj,z q mq,zfm,qdj,qdj,Int.sub_zero,Int.add_zero]at h;exact zld l.2.2.1 h
theorem st12 (h:Eb Ro Co b 1)(hD:Db Ro Co b 3)(l:Lst Ro Co b r c):¬Opn Ro Co b r c/\(SubL Ro' Ro r->SubL Co' Co c->Eb Ro' Co' (rnd b r c) 2/\Mb Ro' Co' (rnd b r c) 3):=by
 have lo:=h.low l;have o:=zeU l (by lia);exact⟨o,fun s1 s2=>⟨zjv l o h.mb s1 s2 (by lia),fin_m2 l o hD s1 s2⟩⟩
theorem st23 (h:Eb Ro Co b 2)(hM:Mb Ro Co b 3)(l:Lst Ro Co b r c):¬Opn Ro Co b r c/\(SubL Ro' Ro r->SubL Co' Co c->Eb Ro' Co' (rnd b r c) 3):=by
 have lo:=h.low l;have o:¬Opn Ro Co b r c:=by
  rcases qdg (b r c).natAbs 2 with g|g
  ·exact zeU l (by lia)
  ·exact zkF l (by rw[show(b r c).natAbs=2 by lia];exact h)
 exact⟨o,fun s1 s2=>zjv l o hM s1 s2 (by lia)⟩
theorem st34 (h:Eb Ro Co b 3)(l:Lst Ro Co b r c):(Opn Ro Co b r c->Eb Ro Co (rnd b r c) 9/\∃i,i∈Ro/\∃j,j∈Co/\(rnd b r c i j).natAbs=1)/\(¬Opn Ro Co b r c->SubL Ro' Ro r->SubL Co' Co c->Eb Ro' Co' (rnd b r c) 90):=by
 have lo:=h.low l;refine⟨fun o=>?_,fun o s1 s2=>zjv l o h.mb s1 s2 (by lia)⟩;have two:(b r c).natAbs=2:=by
  rcases qdg (b r c).natAbs 2 with g|g
  ·exact absurd o (zeU l (by lia))
  rcases qdg (b r c).natAbs 3 with g'|g'
  ·lia
  ·exact absurd o (zkF l (by rw[show(b r c).natAbs=3 by lia];exact h))
 constructor
 ·intro i mi j mj
  by_cases hi:i=r
  ·subst hi
   by_cases hj:j=c
   ·subst hj;rw[zfm];lia
   ·rw[zeT hj];have:=za5 (a:=b i j) l.2.2.1;lia
  ·by_cases hj:j=c
   ·subst hj;rw[zfJ hi];have:=za5 (a:=b i j) l.2.2.1;lia
   ·have e:=y_eq (b:=b) hi hj;have h1:=h.mb r l.1 i mi c l.2.1 j mj;have h2:(rnd b r c i c).natAbs<=1:=by rw[zfJ hi];have:=za5 (a:=b i c) l.2.2.1;lia
    have h3:(rnd b r c r j).natAbs<=1:=by rw[zeT hj];have:=za5 (a:=b r j) l.2.2.1;lia
    have h4:=zaE h2 h3;have h5:=zjp (m2 b r i c j) (rnd b r c i c*rnd b r c r j);rw[<-e,qc7,two]at h5;lia
 ·obtain⟨i,mi,j,mj,n,lt⟩:=o.small l.2.2.1 l.1 l.2.1;exact⟨i,mi,j,mj,by lia⟩
theorem st34' (h:Eb Ro Co b 9)(u:∃i,i∈Ro/\∃j,j∈Co/\(b i j).natAbs=1)(l:Lst Ro Co b r c):¬Opn Ro Co b r c/\(SubL Ro' Ro r->SubL Co' Co c->Eb Ro' Co' (rnd b r c) 162):=by
 have lo:=h.low l;obtain⟨i,mi,j,mj,e⟩:=u;have:=l.2.2.2 i mi j mj (by lia);have o:=zeU l (by lia);exact⟨o,fun s1 s2=>zjv l o h.mb s1 s2 (by lia)⟩
end
def Left (Ro Co:List Nat):Nat->(Nat->Nat->Int)->Prop
 |0,b=>∀r c,Lst Ro Co b r c->¬Opn Ro Co b r c
 |N+1,b=>∀r c,Lst Ro Co b r c->Opn Ro Co b r c->Left Ro Co N (rnd b r c)
section
variable {b:Nat->Nat->Int} {r c:Nat} {Ro Co Ro' Co':List Nat} {E N s:Nat}
theorem left5 (n:Ro.length<=2)(m:Co.length<=2):∀(e:Nat) (b:Nat->Nat->Int),(∀r c,Lst Ro Co b r c->(b r c).natAbs<2^e)->Left Ro Co (3*e) b
 |0,b,h=>fun r c l _=>by have:=h r c l;have:=l.2.2.1;lia
 |e+1,b,h=>by
  show Left Ro Co (3*e+1+1+1) b;intro r c l o r1 c1 l1 o1 r2 c2 l2 o2;refine left5 n m e _ fun r3 c3 l3=>?_
  have h3:=half3 n m l o rfl l1 o1 rfl l2 o2 rfl l3;have:=h r c l;rw[qcY]at this;lia
theorem Eb.db (h:Eb Ro Co b E):Db Ro Co b (6*(E*E*E)):=by
 intro i mi k mk o mo j mj l ml q mq;unfold d3;have m:=h.mb;have p:∀{x y:Int},x.natAbs<=E->y.natAbs<=2*(E*E)->(x*y).natAbs<=2*(E*E*E):=fun{x y} hx hy=>by
  have:=zaE hx hy;have e:E*(2*(E*E))=2*(E*E*E):=by rw[Nat.mul_left_comm,Nat.mul_assoc]
  lia
 have a1:=p (h i mi j mj) (m k mk o mo l ml q mq);have a2:=p (h i mi l ml) (m k mk o mo j mj q mq);have a3:=p (h i mi q mq) (m k mk o mo j mj l ml);lia
theorem Eb.le (h:Eb Ro Co b E)(l:E<=F):Eb Ro Co b F:=fun i mi j mj=>qal (h i mi j mj) l
theorem Db.le (h:Db Ro Co b E)(l:E<=F):Db Ro Co b F:=fun i mi k mk o mo j mj q mq u mu=>qal (h i mi k mk o mo j mj q mq u mu) l
end
def U4:Nat:=25614144
def D4:Nat:=25509168
def E4:Nat:=U4*5^162+26406
def E5:Nat:=U4*5^162
def M5:Nat:=2*(E5*E5)
def F5:Nat:=M5+E5*E5+E5
def Nx (s:Nat):Nat:=if s=3 then 1 else if s=4 then 162 else if s=5 then 1206 else 0
theorem E5_lt:E5<2^402:=by decide+kernel
theorem F5_lt:F5<2^811:=by decide+kernel
theorem E4_lt:E4<2^811:=by decide+kernel
theorem U4_le:D4+4*(162*162)<=U4:=by decide
def Stg (s:Nat)(Ro Co:List Nat)(b:Nat->Nat->Int)(N:Nat):Prop:=Ro.length<=7-s/\Co.length<=7-s/\match s with
 |0=>N=0/\∀i,i∈Ro->∀j,j∈Co->b i j=0\/b i j=1
 |1=>N=0/\Eb Ro Co b 1/\Db Ro Co b 3
 |2=>N=0/\Eb Ro Co b 2/\Mb Ro Co b 3
 |3=>(N=1/\Eb Ro Co b 3)\/(N=0/\Eb Ro Co b 9/\∃i,i∈Ro/\∃j,j∈Co/\(b i j).natAbs=1)
 |4=>∃k,N+k=162/\Db Ro Co b D4/\Mb Ro Co b (U4*5^k)/\Eb Ro Co b E4/\(k=0->Eb Ro Co b 162)/\(0<k->∃i,i∈Ro/\∃j,j∈Co/\b i j≠0/\(b i j).natAbs+k<=162)
 |5=>Mb Ro Co b M5/\Eb Ro Co b F5/\Left Ro Co N b/\∀r c,Lst Ro Co b r c->(b r c).natAbs<=E5
 |6=>N=0/\Eb Ro Co b M5
 |_=>N=0
section
variable {b:Nat->Nat->Int} {r c:Nat} {Ro Co Ro' Co':List Nat} {E N s:Nat}
theorem Stg.ent (h:Stg s Ro Co b N):Eb Ro Co b (2^811):=by
 obtain⟨h1,h2,h⟩:=h;have f:=F5_lt
 match s,h with
 |0,h=>exact fun i mi j mj=>by rcases h.2 i mi j mj with e|e<;>(rw[e];decide+kernel)
 |1,h=>exact h.2.1.le (by decide+kernel)
 |2,h=>exact h.2.1.le (by decide+kernel)
 |3,h=>
  rcases h with h|h
  ·exact h.2.le (by decide+kernel)
  ·exact h.2.1.le (by decide+kernel)
 |4,h=>obtain⟨k,_,_,_,h,_⟩:=h;exact h.le (qam E4_lt)
 |5,h=>exact h.2.1.le (qam F5_lt)
 |6,h=>exact h.2.le (by unfold F5 at f;lia)
 |s+7,h=>
  intro i mi;have:Ro=[]:=List.length_eq_zero_iff.mp (by lia);subst this;exact absurd mi qcc
theorem mul5 {k:Nat}(h:k<=162):U4*5^k<=E5:=qdh _ (qcZ (by decide) h)
theorem Stg.step (S:Stg s Ro Co b N)(l:Lst Ro Co b r c):(Opn Ro Co b r c->∃N',N=N'+1/\Stg s Ro Co (rnd b r c) N')/\
  (¬Opn Ro Co b r c->∀Ro' Co',SubL Ro' Ro r->SubL Co' Co c->Ro'.length<=6-s->Co'.length<=6-s->Stg (s+1) Ro' Co' (rnd b r c) (Nx (s+1))):=by
 obtain⟨h1,h2,S⟩:=S;have lr:0<Ro.length:=List.length_pos_of_mem l.1
 match s,S,h1,h2 with
 |0,S,h1,h2=>
  obtain⟨e,S⟩:=S;refine⟨fun o=>?_,fun o Ro' Co' s1 s2 l1 l2=>?_⟩
  ·exact absurd o (st01 (Ro':=[]) (Co':=[]) S l).1
  ·have:=(st01 (Ro':=Ro') (Co':=Co') S l).2 s1 s2;exact⟨l1,l2,rfl,this⟩
 |1,S,h1,h2=>
  obtain⟨e,S,D⟩:=S;refine⟨fun o=>?_,fun o Ro' Co' s1 s2 l1 l2=>?_⟩
  ·exact absurd o (st12 (Ro':=[]) (Co':=[]) S D l).1
  ·exact⟨l1,l2,rfl,(st12 (Ro':=Ro') (Co':=Co') S D l).2 s1 s2⟩
 |2,S,h1,h2=>
  obtain⟨e,S,D⟩:=S;refine⟨fun o=>?_,fun o Ro' Co' s1 s2 l1 l2=>?_⟩
  ·exact absurd o (st23 (Ro':=[]) (Co':=[]) S D l).1
  ·exact⟨l1,l2,.inl ⟨rfl,(st23 (Ro':=Ro') (Co':=Co') S D l).2 s1 s2⟩⟩
 |3,S,h1,h2=>
  have go:∀{Ro' Co':List Nat},Ro'.length<=6-3->Co'.length<=6-3->Eb Ro' Co' (rnd b r c) 162->Stg 4 Ro' Co' (rnd b r c) (Nx 4):=fun{Ro' Co'} l1 l2 e=>
   ⟨l1,l2,0,rfl,e.db.le (by decide),e.mb.le (by decide),e.le (by decide+kernel),fun _=>e,fun h=>absurd h (by decide)⟩
  rcases S with⟨e,S⟩|⟨e,S,u⟩
  ·refine⟨fun o=>?_,fun o Ro' Co' s1 s2 l1 l2=>?_⟩
   ·obtain⟨g1,g2⟩:=(st34 (Ro':=[]) (Co':=[]) S l).1 o;exact⟨0,e,h1,h2,.inr ⟨rfl,g1,g2⟩⟩
   ·exact go l1 l2 (((st34 (Ro':=Ro') (Co':=Co') S l).2 o s1 s2).le (by decide))
  ·refine⟨fun o=>?_,fun o Ro' Co' s1 s2 l1 l2=>?_⟩
   ·exact absurd o (st34' (Ro':=[]) (Co':=[]) S u l).1
   ·exact go l1 l2 ((st34' (Ro':=Ro') (Co':=Co') S u l).2 s1 s2)
 |4,S,h1,h2=>
  obtain⟨k,e,D,M,En,k0,k1⟩:=S;have I:I3 Ro Co 162 D4 U4 k b:=by
   refine⟨D,M,?_⟩
   by_cases h:k=0
   ·exact⟨r,l.1,c,l.2.1,l.2.2.1,by have:=k0 h r l.1 c l.2.1;lia⟩
   ·exact k1 (by lia)
  refine⟨fun o=>?_,fun o Ro' Co' s1 s2 l1 l2=>?_⟩
  ·obtain⟨D',M',u⟩:=I.step (by lia) (by lia) U4_le l o;have low:=u;obtain⟨i,mi,j,mj,nz,le⟩:=low;refine⟨N-1,by lia,h1,h2,k+1,by lia,D',M',fun i mi j mj=>?_,fun h=>by lia,fun _=>u⟩;have:=I.ent l mi mj;have m5:=mul5 (k:=k) (by lia);unfold E4;unfold E5 at m5;lia
  ·have m5:=mul5 (k:=k) (by lia);have e5:Eb Ro' Co' (rnd b r c) E5:=zjv l o M s1 s2 (by
    have:1<=(b r c).natAbs:=by have:=l.2.2.1;lia
    have:=qdh (E5+1) this;lia)
   refine⟨l1,l2,e5.mb,e5.le (by unfold F5;lia),left5 l1 l2 402 _ fun r c l=>?_,fun r c l=>e5 r l.1 c l.2.1⟩;exact qbH (e5 r l.1 c l.2.1) E5_lt
 |5,S,h1,h2=>
  obtain⟨M,En,Lf,co⟩:=S;refine⟨fun o=>?_,fun o Ro' Co' s1 s2 l1 l2=>?_⟩
  ·cases N with
   |zero=>exact absurd o (Lf r c l)
   |succ N=>
    refine⟨N,rfl,h1,h2,mb2_rnd (by lia) (by lia) l.1 l.2.1 M,fun i mi j mj=>zpC l.1 l.2.1 l.2.2.1 (co r c l) M mi mj,Lf r c l o,fun r' c' l'=>?_⟩;have:=l.fall o l';have:=co r c l;lia
  ·refine⟨l1,l2,rfl,zjv l o M s1 s2 ?_⟩;have:1<=(b r c).natAbs:=by have:=l.2.2.1;lia
   have:=qdh (M5+1) this;lia
 |6,S,h1,h2=>
  have one:∀{l:List Nat} {x y:Nat},l.length<=1->x∈l->y∈l->x=y:=fun{l x y} h hx hy=>by
   match l,h with
   |[],_=>simp at hx
   |[a],_=>simp at hx hy;lia
   |_::_::_,h=>simp at h
  refine⟨fun o=>?_,fun o Ro' Co' s1 s2 l1 l2=>⟨l1,l2,rfl⟩⟩;rcases o with⟨i,mi,hi,_⟩|⟨j,mj,hj,_⟩
  ·exact absurd (one (by lia) mi l.1) hi
  ·exact absurd (one (by lia) mj l.2.1) hj
 |s+7,S,h1,h2=>lia
end
theorem log_lt (h:x.natAbs<=2^e)(he:e<59999999):x.natAbs.log2<60000000:=by
 by_cases h0:x.natAbs=0
 ·rw[h0];decide
 ·have h1:x.natAbs<2^(e+1):=by rw[qcY];have:=Nat.two_pow_pos e;lia
  have:=(Nat.log2_lt h0).mpr h1;lia
theorem mulW (hx:x.natAbs<=2^a)(hy:y.natAbs<=2^e)(ha:a<59999999)(he:e<59999999):zc7 x y=true:=by
 unfold zc7;rw[qak (log_lt hx ha),qak (log_lt hy he)];rfl
theorem divF (h0:x≠0)(h:x.natAbs<=2^811):zkB x=true:=by
 unfold zkB;have h1:x.natAbs<2^812:=by rw[show(2:Nat)^812=2^811*2 from rfl];have:=Nat.two_pow_pos 811;lia
 have:x.natAbs.log2<9000:=by have:=(Nat.log2_lt (show x.natAbs≠0 by lia)).mpr h1;lia
 rw[qak h0,qak this];rfl
theorem zhw (x:Int)(h:p≠0):(x.fdiv p).natAbs<=x.natAbs:=by
 have pos:∀x p:Int,0<p->(x.fdiv p).natAbs<=x.natAbs:=fun x p h=>by
  rw[qaK x (by lia)];exact Int.natAbs_ediv_le_natAbs x p
 rcases qc5 h with h|h
 ·have:=pos (-x) (-p) (by lia);rwa[Int.neg_fdiv_neg,qc6]at this
 ·exact pos x p h
def zbq (b:Mx)(r c:Nat)(l:List Nat):Mx:=fun i j=>if i∈l then b i j-(b i c).fdiv (b r c)*b r j else b i j
def zc2 (b:Mx)(r c:Nat)(l:List Nat):Mx:=fun i j=>if j∈l then b i j-(b r j).fdiv (b r c)*b i c else b i j
def Bn (e t n:Nat)(w v k:Mx):Prop:=(∀i j,i<t->j<t->(w i j).natAbs<=2^e)/\(∀i j,i<n->j<n->(v i j).natAbs<=2^e)/\∀i j,i<n->j<n->(k i j).natAbs<=2^e
theorem op_bd (hx:x.natAbs<=2^e)(hy:y.natAbs<=2^e)(hq:q.natAbs<=2^811):(x-q*y).natAbs<=2^(e+812):=by
 have h1:=zaE hq hy;have h2:(2:Nat)^(e+812)=2^811*2^e+2^811*2^e:=by
  rw[qdk,show(2:Nat)^812=2^811+2^811 by decide,Nat.mul_add,Nat.mul_comm]
 have h3:2^e<=2^811*2^e:=qc8 _ (Nat.two_pow_pos 811);lia
theorem zbE {e f:Nat}(h:e<=f):(2:Nat)^e<=2^f:=qcZ (by decide) h
section
variable {t n e f r o c:Nat} {A b w v k:Mx} {q:Int} {s:List (Nat×Nat)}
theorem Bn.le (h:Bn e t n w v k)(l:e<=f):Bn f t n w v k:=⟨fun i j hi hj=>qal (h.1 i j hi hj) (zbE l),fun i j hi hj=>qal (h.2.1 i j hi hj) (zbE l),fun i j hi hj=>qal (h.2.2 i j hi hj) (zbE l)⟩
theorem zj5 (h:∀i j,i<m->j<f->(w i j).natAbs<=2^e)(ho:o<m)(hq:q.natAbs<=2^811):∀i j,i<m->j<f->(zc8 w r o q i j).natAbs<=2^(e+812):=fun i j hi hj=>by
 unfold zc8
 split
 ·rename_i z;rw[<-z];exact op_bd (h i j hi hj) (h o j ho hj) hq
 ·exact qal (h i j hi hj) (zbE (by lia))
theorem Bn.row (h:Bn e t n w v k)(ho:o<t)(hq:q.natAbs<=2^811):Bn (e+812) t n (zc8 w r o q) v k:=
 ⟨zj5 h.1 ho hq,fun i j hi hj=>qal (h.2.1 i j hi hj) (zbE (by lia)),fun i j hi hj=>qal (h.2.2 i j hi hj) (zbE (by lia))⟩
theorem Bn.col (h:Bn e t n w v k)(hc:c<n)(ho:o<n)(hq:q.natAbs<=2^811):Bn (e+812) t n w (zc8 v c o q) (zc8 k o c (-q)):=
 ⟨fun i j hi hj=>qal (h.1 i j hi hj) (zbE (by lia)),zj5 h.2.1 ho hq,zj5 h.2.2 hc (by rw[qc6];exact hq)⟩
theorem zoo (hr:r∉l)(ho:o∉l)(hor:o≠r):zc8 (zbq b r c l) o r ((zbq b r c l o c).fdiv (zbq b r c l r c))=zbq b r c (l++[o]):=by
 have e:∀i j,i∉l->zbq b r c l i j=b i j:=fun i j h=>by unfold zbq;rw[if_neg h]
 funext i j
 unfold zc8;rw[e o c ho,e r c hr,e o j ho,e r j hr]
 by_cases h:i=o
 ·subst h;rw[if_pos rfl];unfold zbq;rw[if_pos (by simp)]
 ·rw[if_neg h];unfold zbq
  by_cases h2:i∈l
  ·rw[if_pos h2,if_pos (by simp[h2])]
  ·rw[if_neg h2,if_neg (by simp[h2,h])]
theorem zpP (hc:c∉l)(ho:o∉l)(hoc:o≠c):znE (zc2 b r c l) o c ((zc2 b r c l r o).fdiv (zc2 b r c l r c))=zc2 b r c (l++[o]):=by
 have e:∀i j,j∉l->zc2 b r c l i j=b i j:=fun i j h=>by unfold zc2;rw[if_neg h]
 funext i j
 unfold znE;rw[e r o ho,e r c hc,e i o ho,e i c hc]
 by_cases h:j=o
 ·subst h;rw[if_pos rfl];unfold zc2;rw[if_pos (by simp)]
 ·rw[if_neg h];unfold zc2
  by_cases h2:j∈l
  ·rw[if_pos h2,if_pos (by simp[h2])]
  ·rw[if_neg h2,if_neg (by simp[h2,h])]
def Pn (s:Sl):Prop:=∀x,zhV s x=true
theorem zmu:Pn .emp:=fun x=>by cases x<;>rfl
theorem zkU (d:D):Pn (.val d):=fun x=>by cases x<;>rfl
theorem rows_ok (t1:1<=t)(n1:1<=n)(t7:t<=7)(n7:n<=7)(I:Inv t n A b w v k)(B:Bn e t n w v k)(he:e<=30000000)(eb:∀i,i<t->∀j,j<n->(b i j).natAbs<=2^811)(hr:r<t)(hc:c<n)(nz:b r c≠0)
  {l:List Nat} (nd:l.Nodup) (lt:∀o∈l,o<t) (hrl:r∉l) (ll:l.length<=7) (d4:D) (s5:Sl) (p5:Pn s5) {Q:Fl×R->Prop}
  (hq:∀w' s5,Pn s5->Inv t n A (zbq b r c l) w' v k->Bn (e+5684) t n w' v k->Q (.next,[oT t n (zbq b r c l) w' v k s,.val (.int (r:Nat)),.val (.int (c:Nat)),.val (.lst (l.map fun i=> .int (i:Nat))),.val d4,s5])):
  Ok (zcE [oT t n b w v k s,.val (.int (r:Nat)),.val (.int (c:Nat)),.val (.lst (l.map fun i=> .int (i:Nat))),.val d4,s5]) Q:=by
 simp! only[↓zcE];refine zk3 (enc:=fun i:Nat=>D.int (i:Nat)) (l:=l) (fun i ρ=>∃w' s5,Pn s5/\Inv t n A (zbq b r c (l.take i)) w' v k/\Bn (e+812*i) t n w' v k/\ρ=[oT t n (zbq b r c (l.take i)) w' v k s,.val (.int (r:Nat)),.val (.int (c:Nat)),.val (.lst (l.map fun i=> .int (i:Nat))),.val d4,s5]) ⟨w,s5,p5,?_,B,?_⟩ ?_ ?_
 ·have:zbq b r c (l.take 0)=b:=by funext i j;unfold zbq;simp
  rw[this];exact I
 ·have:zbq b r c (l.take 0)=b:=by funext i j;unfold zbq;simp
  rw[this]
 ·rintro i o _ hi ⟨w',s5,p5,I',B',rfl⟩;have hil:i<l.length:=(qat.mp hi).1;have ho:o∈l:=qa7 hi;have hot:=lt o ho;have hor:o≠r:=fun z=>hrl (z ▸ ho)
  have hrt:r∉l.take i:=fun z=>hrl (qcI z)
  have hoi:o∉l.take i:=fun z=>by
   obtain⟨j,hj,e⟩:=qcE.mp z;simp only[qa0]at hj;rw[List.getElem_take]at e;have e2:l[i]'hil=o:=(qat.mp hi).2;have:=(qau nd).mp (e.trans e2.symm);lia
  have eq0:∀i' j,i'∉l.take i->zbq b r c (l.take i) i' j=b i' j:=fun i' j h=>by unfold zbq;rw[if_neg h]
  have qb:((b o c).fdiv (b r c)).natAbs<=2^811:=qal (zhw _ nz) (eb o hot c hc);have st:=zoo (b:=b) (c:=c) hrt hoi hor;rw[eq0 o c hoi,eq0 r c hrt]at st;have tk:l.take (i+1)=l.take i++[o]:=by rw[qcL,hi];rfl
  simp! only[↓zeP];rw[ziT rfl rfl];simp! only[];rw[zev rfl rfl (zhT t1 n1)];simp! only[g0,zas _ hot,zas _ hr,zas _ hc,eq0 o c hoi,eq0 r c hrt];refine⟨divF nz (eb r hr c hc),⟨rfl,rfl⟩,?_⟩;refine(zlR t1 n1 (by lia) (by lia) hot hr (fun j hj=>?_) (fun j hj=>?_)).mono ?_
  ·rw[eq0 r j hrt];exact mulW qb (eb r hr j hj) (by lia) (by lia)
  ·exact mulW qb (B'.1 r j hr hj) (by lia) (by lia)
  rintro _ rfl;simp! only[];rw[st,tk];refine⟨_,_,zkU _,?_,?_,rfl⟩
  ·rw[<-st];exact I'.row hot hr hor _
  ·exact(B'.row hr qb).le (by lia)
 ·rintro _ ⟨w',s5,p5,I',B',rfl⟩;rw[qcM]at*;exact hq w' s5 p5 I' (B'.le (by lia))
theorem cols_ok (t1:1<=t)(n1:1<=n)(t7:t<=7)(n7:n<=7)(I:Inv t n A b w v k)(B:Bn e t n w v k)(he:e<=30000000)(eb:∀j,j<n->(b r j).natAbs<=2^811)(ec:∀i,i<t->(b i c).natAbs<=2^2000)(hr:r<t)(hc:c<n)(nz:b r c≠0)
  {l:List Nat} (nd:l.Nodup) (lt:∀o∈l,o<n) (hcl:c∉l) (ll:l.length<=7) (d3:D) (s5:Sl) (p5:Pn s5) {Q:Fl×R->Prop}
  (hq:∀v' k' s5,Pn s5->Inv t n A (zc2 b r c l) w v' k'->Bn (e+5684) t n w v' k'->Q (.next,[oT t n (zc2 b r c l) w v' k' s,.val (.int (r:Nat)),.val (.int (c:Nat)),.val d3,.val (.lst (l.map fun i=> .int (i:Nat))),s5])):
  Ok (zcB [oT t n b w v k s,.val (.int (r:Nat)),.val (.int (c:Nat)),.val d3,.val (.lst (l.map fun i=> .int (i:Nat))),s5]) Q:=by
 simp! only[↓zcB];refine zk3 (enc:=fun i:Nat=>D.int (i:Nat)) (l:=l) (fun i ρ=>∃v' k' s5,Pn s5/\Inv t n A (zc2 b r c (l.take i)) w v' k'/\Bn (e+812*i) t n w v' k'/\ρ=[oT t n (zc2 b r c (l.take i)) w v' k' s,.val (.int (r:Nat)),.val (.int (c:Nat)),.val d3,.val (.lst (l.map fun i=> .int (i:Nat))),s5]) ⟨v,k,s5,p5,?_,B,?_⟩ ?_ ?_
 ·have:zc2 b r c (l.take 0)=b:=by funext i j;unfold zc2;simp
  rw[this];exact I
 ·have:zc2 b r c (l.take 0)=b:=by funext i j;unfold zc2;simp
  rw[this]
 ·rintro i o _ hi ⟨v',k',s5,p5,I',B',rfl⟩;have hil:i<l.length:=(qat.mp hi).1;have ho:o∈l:=qa7 hi;have hot:=lt o ho;have hoc:o≠c:=fun z=>hcl (z ▸ ho)
  have hct:c∉l.take i:=fun z=>hcl (qcI z)
  have hoi:o∉l.take i:=fun z=>by
   obtain⟨j,hj,e⟩:=qcE.mp z;simp only[qa0]at hj;rw[List.getElem_take]at e;have e2:l[i]'hil=o:=(qat.mp hi).2;have:=(qau nd).mp (e.trans e2.symm);lia
  have eq0:∀i' j,j∉l.take i->zc2 b r c (l.take i) i' j=b i' j:=fun i' j h=>by unfold zc2;rw[if_neg h]
  have qb:((b r o).fdiv (b r c)).natAbs<=2^811:=qal (zhw _ nz) (eb o hot);have st:=zpP (b:=b) (r:=r) hct hoi hoc;rw[eq0 r o hoi,eq0 r c hct]at st;have tk:l.take (i+1)=l.take i++[o]:=by rw[qcL,hi];rfl
  simp! only[↓zeI];rw[ziT rfl rfl];simp! only[];rw[zev rfl rfl (zhT t1 n1)];simp! only[g0,zas _ hot,zas _ hr,zas _ hc,eq0 r o hoi,eq0 r c hct];refine⟨divF nz (eb c hc),⟨rfl,rfl⟩,?_⟩;refine(zje t1 n1 (by lia) (by lia) hot hc (fun j hj=>?_) (fun j hj=>?_) (fun j hj=>?_)).mono ?_
  ·rw[eq0 j c hct];exact mulW qb (ec j hj) (by lia) (by lia)
  ·exact mulW qb (B'.2.1 c j hc hj) (by lia) (by lia)
  ·exact mulW (by rw[qc6];exact qb) (B'.2.2 o j hot hj) (by lia) (by lia)
  rintro _ rfl;simp! only[];rw[st,tk];refine⟨_,_,_,zkU _,?_,?_,rfl⟩
  ·rw[<-st];exact I'.col hot hc hoc _
  ·exact(B'.col hot hc qb).le (by lia)
 ·rintro _ ⟨v',k',s5,p5,I',B',rfl⟩;rw[qcM]at*;exact hq v' k' s5 p5 I' (B'.le (by lia))
end
def rest (l:List Nat)(r:Nat):List Nat:=l.filter fun i=>i !=r
theorem zpN (l:List Nat)(r:Nat):l.filterMap (fun i=>if i=r then none else some (D.int (i:Nat)))=(rest l r).map fun i=>D.int (i:Nat):=by
 unfold rest;rw[<-qcN,<-qcU,qcV];exact zaX _ fun i _=>by by_cases h:i=r<;>simp[h,Option.guard]
def zb4 (b:Mx)(r c:Nat)(Ro Co:List Nat):Mx:=zc2 (zbq b r c (rest Ro r)) r c (rest Co c)
theorem zmB (l:List Nat):(l.map fun i=>D.int (i:Nat)).all fl2=true:=by
 rw[qbV];intro d hd;obtain⟨i,_,rfl⟩:=qbW.mp hd
 rfl
section
variable {t n e r c:Nat} {A b w v k:Mx} {s:List (Nat×Nat)}
theorem mem_rest:i∈rest l r↔i∈l/\i≠r:=by unfold rest;rw[qah];simp
theorem zem (l:List Nat)(r:Nat):r∉rest l r:=fun h=>(mem_rest.mp h).2 rfl
theorem zpS (h:l.Nodup)(r:Nat):(rest l r).Nodup:=qcW _ h
theorem opR_nd (t:Nat)(s:List (Nat×Nat)):(opR t s).Nodup:=qcW _ List.nodup_range
theorem opC_nd (t:Nat)(s:List (Nat×Nat)):(opC t s).Nodup:=qcW _ List.nodup_range
theorem zcQ {Ro Co:List Nat}(hi:i∈Ro)(hj:j∈Co):zb4 b r c Ro Co i j=rnd b r c i j:=by
 have rr:∀j,zbq b r c (rest Ro r) r j=b r j:=fun j=>by unfold zbq;rw[if_neg (zem _ _)]
 unfold zb4 zc2;rw[rr,rr]
 by_cases h1:i=r
 ·subst h1;rw[rr,rr]
  by_cases h2:j=c
  ·subst h2;rw[if_neg (zem _ _),zfm]
  ·rw[if_pos (mem_rest.mpr ⟨hj,h2⟩),zeT h2]
 ·have ri:∀j,zbq b r c (rest Ro r) i j=b i j-(b i c).fdiv (b r c)*b r j:=fun j=>by unfold zbq;rw[if_pos (mem_rest.mpr ⟨hi,h1⟩)]
  rw[ri,ri]
  by_cases h2:j=c
  ·subst h2;rw[if_neg (zem _ _),zfJ h1]
  ·rw[if_pos (mem_rest.mpr ⟨hj,h2⟩),znP h1 h2]
theorem ptD_new (s:List (Nat×Nat))(r c:Nat)(h:∀p∈s,p.1≠r):ptD (sk s).1 (sk s).2 (r:Int) (.int (c:Nat))=sk (s++[(r,c)]):=by
 unfold ptD;have:(sk s).1.contains (r:Int)=false:=by
  cases q:(sk s).1.contains (r:Int)with
  |false=>rfl
  |true=>
   obtain⟨p,hp,e⟩:=qbW.mp (qcB.mp q);exact absurd (by have e:((p.1:Nat):Int)=r:=e;lia) (h p hp)
 rw[this];simp[sk]
theorem zkY (l:List Nat)(f:Nat->Int):za8 (l.map fun i=> .int (f i))=some (l.map f):=by
 have:(l.map fun i=>D.int (f i))=(l.map f).map .int:=by rw[qb4];rfl
 rw[this,zbw]
theorem zjb (t1:1<=t)(n1:1<=n)(t7:t<=7)(n7:n<=7)(I:Inv t n A b w v k)(B:Bn e t n w v k)(he:e<=20000000)(eb:∀i,i<t->∀j,j<n->(b i j).natAbs<=2^811)(hd:s.Pairwise fun p q=>p.1≠q.1)(hs:s.length<=7)(hr:r∈opR t s)(hc:c∈opC n s)(nz:b r c≠0):
  Ok (zbR [oT t n b w v k s,.val (.int (r:Nat)),.val (.int (c:Nat))]) fun x=>∃w' v' k' s',Inv t n A (zb4 b r c (opR t s) (opC n s)) w' v' k'/\Bn (e+11368) t n w' v' k'/\x=(.val .non,[oT t n (zb4 b r c (opR t s) (opC n s)) w' v' k' s',.emp,.emp])/\
   ((Opn (opR t s) (opC n s) b r c/\s'=s)\/(¬Opn (opR t s) (opC n s) b r c/\s'=s++[(r,c)])):=by
 have hrt:=zgs hr;have hcn:=zgT hc;have lR:(rest (opR t s) r).length<=7:=qal (qcX _ _) (qal (zkr t s) t7);have lC:(rest (opC n s) c).length<=7:=qal (qcX _ _) (qal (zki n s) n7);simp! only[↓zbR,↓zep];rw[zlW rfl rfl (zhT t1 n1)];simp! only[↓zeJ];rw[zdX rfl];simp! only[];refine(zhQ (by lia)).mono ?_;rintro _ rfl;simp! only[];refine⟨by have:=zkr t s;lia,zgJ (enc:=fun i:Nat=>D.int (i:Nat)) (fun ρ=>∃y,ρ=[.val (.int (r:Nat)),y]) (fun i=>if i=r then none else some (D.int (i:Nat))) ⟨_,rfl⟩ ?_ ?_⟩
 ·rintro i _ hi ⟨y,rfl⟩;simp! only[↓zeB,↓zeF];refine⟨fun h=>⟨?_,_,rfl⟩,fun h=>⟨?_,_,rfl⟩⟩
  ·rw[if_neg (by lia)]
  ·rw[if_pos (by lia)]
 rintro _ ⟨y,rfl⟩;simp! only[zpN];refine⟨⟨zmB _,rfl⟩,?_⟩;rw[zlW rfl rfl (zhT t1 n1)];simp! only[↓zeE];rw[zdX rfl];simp! only[];refine(zfi (by lia) (by lia) hd).mono ?_;rintro _ rfl;simp! only[];refine⟨by have:=zki n s;lia,zgJ (enc:=fun i:Nat=>D.int (i:Nat)) (fun ρ=>∃y,ρ=[.val (.int (c:Nat)),y]) (fun i=>if i=c then none else some (D.int (i:Nat))) ⟨_,rfl⟩ ?_ ?_⟩
 ·rintro i _ hi ⟨y,rfl⟩;simp! only[↓zeK,↓zeN];refine⟨fun h=>⟨?_,_,rfl⟩,fun h=>⟨?_,_,rfl⟩⟩
  ·rw[if_neg (by lia)]
  ·rw[if_pos (by lia)]
 rintro _ ⟨y,rfl⟩;simp! only[zpN];refine⟨⟨zmB _,rfl⟩,?_⟩;refine rows_ok t1 n1 t7 n7 I B (by lia) eb hrt hcn nz (zpS (opR_nd t s) r) (fun o ho=>zgs (mem_rest.mp ho).1) (zem _ _) lR _ _ zmu fun w1 s5 p5 I1 B1=>?_
 simp! only[];have rr:∀j,zbq b r c (rest (opR t s) r) r j=b r j:=fun j=>by unfold zbq;rw[if_neg (zem _ _)]
 have bc:∀i,i<t->(zbq b r c (rest (opR t s) r) i c).natAbs<=2^2000:=fun i hi=>by
  unfold zbq;have h1:=eb i hi c hcn;have up:(2:Nat)^811<=2^2000:=zbE (by lia)
  split
  ·have h2:=zaE (zhw (b i c) nz) (eb r hrt c hcn);have h3:(b i c).natAbs*2^811<=2^811*2^811:=qc9 _ h1;have h4:(2:Nat)^811*2^811+2^811<=2^2000:=by decide+kernel
   lia
  ·lia
 refine cols_ok t1 n1 t7 n7 I1 B1 (by lia) (fun j hj=>by rw[rr];exact eb r hrt j hj) bc hrt hcn (by rw[rr];exact nz) (zpS (opC_nd n s) c) (fun o ho=>zgT (mem_rest.mp ho).1) (zem _ _) lC _ _ p5 fun v2 k2 s5 p5 I2 B2=>?_
 simp! only[];obtain⟨b2,hb2⟩:∃b2,b2=zb4 b r c (opR t s) (opC n s):=⟨_,rfl⟩;have hb3:zc2 (zbq b r c (rest (opR t s) r)) r c (rest (opC n s) c)=b2:=hb2.symm;rw[<-hb2];rw[hb3]at I2 ⊢;have en:∀i∈opR t s,∀j∈opC n s,b2 i j=rnd b r c i j:=fun i hi j hj=>by rw[hb2];exact zcQ hi hj
 have op1:((rest (opR t s) r).map fun i=>b2 i c).any (fun x=>x !=0)=true->Opn (opR t s) (opC n s) b r c:=fun h=>by
  obtain⟨x,hx,h0⟩:=qcD.mp h;obtain⟨i,hi,rfl⟩:=qbW.mp hx;obtain⟨m1,m2⟩:=mem_rest.mp hi;exact .inl ⟨i,m1,m2,by rw[<-en i m1 c hc];simpa using h0⟩
 have op2:((rest (opC n s) c).map fun i=>b2 r i).any (fun x=>x !=0)=true->Opn (opR t s) (opC n s) b r c:=fun h=>by
  obtain⟨x,hx,h0⟩:=qcD.mp h;obtain⟨i,hi,rfl⟩:=qbW.mp hx;obtain⟨m1,m2⟩:=mem_rest.mp hi;exact .inr ⟨i,m1,m2,by rw[<-en r hr i m1];simpa using h0⟩
 have op3:((rest (opR t s) r).map fun i=>b2 i c).any (fun x=>x !=0)=false->((rest (opC n s) c).map fun i=>b2 r i).any (fun x=>x !=0)=false->¬Opn (opR t s) (opC n s) b r c:=fun h1 h2 o=>by
  rcases o with⟨i,mi,hi,h⟩|⟨j,mj,hj,h⟩
  ·have:=qaN.mp h1 _ (qbW.mpr ⟨i,mem_rest.mpr ⟨mi,hi⟩,rfl⟩);rw[en i mi c hc]at this;exact h (by simpa using this)
  ·have:=qaN.mp h2 _ (qbW.mpr ⟨j,mem_rest.mpr ⟨mj,hj⟩,rfl⟩);rw[en r hr j mj]at this;exact h (by simpa using this)
 have fin:∀(s':List (Nat×Nat)),((Opn (opR t s) (opC n s) b r c/\s'=s)\/(¬Opn (opR t s) (opC n s) b r c/\s'=s++[(r,c)]))->
   ∃w' v' k' s'',Inv t n A b2 w' v' k'/\Bn (e+11368) t n w' v' k'/\(Sl.val D.non,[oT t n b2 w1 v2 k2 s',Sl.emp,Sl.emp])=(Sl.val D.non,[oT t n b2 w' v' k' s'',Sl.emp,Sl.emp])/\
    ((Opn (opR t s) (opC n s) b r c/\s''=s)\/(¬Opn (opR t s) (opC n s) b r c/\s''=s++[(r,c)])):=fun s' h=>⟨w1,v2,k2,s',I2,B2.le (by lia),rfl,h⟩
 rw[zev rfl rfl (zhT t1 n1)];simp! only[↓zeM];refine⟨by lia,zjN (enc:=fun i:Nat=>D.int (i:Nat)) (fun ρ=>∃y,ρ=[.val (oD t n b2 w1 v2 k2 s),.val (.int (c:Nat)),y]) (fun i=> .int (b2 i c)) ⟨_,rfl⟩ ?_ ?_⟩
 ·rintro i _ hi ⟨y,rfl⟩;simp! only[↓zeL,g0,zas _ (zgs (mem_rest.mp hi).1),zas _ hcn];exact⟨_,rfl⟩
 rintro _ ⟨y,rfl⟩;simp! only[zkY];have zl:(([Sl.emp,.val (.int (r:Nat)),.val (.int (c:Nat)),.val (.lst ((rest (opR t s) r).map fun i=> .int (i:Nat))),.val (.lst ((rest (opC n s) c).map fun i=> .int (i:Nat))),s5].zip [.val (oD t n b2 w1 v2 k2 s),.val (.int (r:Nat)),.val (.int (c:Nat)),.val (.lst ((rest (opR t s) r).map fun i=> .int (i:Nat))),.val (.lst ((rest (opC n s) c).map fun i=> .int (i:Nat))),s5]).all fun q=>zhV q.1 q.2)=true:=by
  simp only[qbb,qba,qbr,List.all_nil,zmu _,zkU _ _,p5 _,qbJ]
 refine⟨⟨rfl,zl⟩,fun h1=>?_,fun h1=>?_⟩
 ·rw[zev rfl rfl (zhT t1 n1)];simp! only[↓zez];refine⟨by lia,zjN (enc:=fun i:Nat=>D.int (i:Nat)) (fun ρ=>∃y,ρ=[.val (oD t n b2 w1 v2 k2 s),.val (.int (r:Nat)),y]) (fun i=> .int (b2 r i)) ⟨_,rfl⟩ ?_ ?_⟩
  ·rintro i _ hi ⟨y,rfl⟩;simp! only[↓zey,g0,zas _ hrt,zas _ (zgT (mem_rest.mp hi).1)];exact⟨_,rfl⟩
  rintro _ ⟨y,rfl⟩;simp! only[zkY];refine⟨⟨rfl,zl⟩,fun h2=>?_,fun h2=>?_⟩
  ·refine⟨by show(s.map _).length<16777216;rw[qaS];lia,?_⟩;have hp:∀p∈s,p.1≠r:=fun p hp z=>by
    have:=(qah.mp hr).2;rw[Bool.not_eq_true']at this;have:=qaN.mp this p hp;exact this (by simp[z])
   rw[ptD_new s r c hp];exact fin _ (.inr ⟨op3 (by simpa using h1) (by simpa using h2),rfl⟩)
  ·exact fin _ (.inl ⟨op2 (by simpa using h2),rfl⟩)
 ·exact fin _ (.inl ⟨op1 (by simpa using h1),rfl⟩)
end
structure Shp (t n:Nat) (b:Mx) (s:List (Nat×Nat)):Prop where
 d1:s.Pairwise fun p q=>p.1≠q.1
 d2:s.Pairwise fun p q=>p.2≠q.2
 lt:∀p∈s,p.1<t/\p.2<n
 nz:∀p∈s,b p.1 p.2≠0
 zr:∀p∈s,∀j,j<n->j≠p.2->b p.1 j=0
 zc:∀p∈s,∀i,i<t->i≠p.1->b i p.2=0
 sz:∀p∈s,(b p.1 p.2).natAbs<=2^811
def agr (Ro Co:List Nat)(b b':Mx):Prop:=∀i,i∈Ro->∀j,j∈Co->b i j=b' i j
section
variable {t n r c:Nat} {b b':Mx} {s:List (Nat×Nat)} {Ro Co:List Nat}
theorem agr.rnd (h:agr Ro Co b b')(hr:r∈Ro)(hc:c∈Co):agr Ro Co (rnd b r c) (rnd b' r c):=fun i hi j hj=>by
 unfold Prf.rnd;rw[h i hi j hj,h r hr j hj,h i hi c hc,h r hr c hc]
theorem agr.lst (h:agr Ro Co b b')(l:Lst Ro Co b r c):Lst Ro Co b' r c:=by
 obtain⟨h1,h2,h3,h4⟩:=l;refine⟨h1,h2,by rwa[<-h r h1 c h2],fun i hi j hj q=>?_⟩;rw[<-h r h1 c h2,<-h i hi j hj];rw[<-h i hi j hj]at q;exact h4 i hi j hj q
theorem agr.opn (h:agr Ro Co b b')(hr:r∈Ro)(hc:c∈Co)(o:Opn Ro Co b r c):Opn Ro Co b' r c:=by
 have a:=h.rnd hr hc;rcases o with⟨i,mi,hi,z⟩|⟨j,mj,hj,z⟩
 ·exact .inl ⟨i,mi,hi,by rwa[<-a i mi c hc]⟩
 ·exact .inr ⟨j,mj,hj,by rwa[<-a r hr j mj]⟩
theorem agr.symm (h:agr Ro Co b b'):agr Ro Co b' b:=fun i hi j hj=>(h i hi j hj).symm
theorem ziS (hi:i<t):i∉opR t s↔∃p∈s,p.1=i:=by
 unfold opR;rw[qah];simp[hi]
theorem zhf (hi:i<n):i∉opC n s↔∃p∈s,p.2=i:=by
 unfold opC;rw[qah];simp[hi]
theorem opR_snoc:opR t (s++[(r,c)])=rest (opR t s) r:=by
 unfold opR rest;rw[List.filter_filter];congr 1
 funext i
 rw[List.any_append]
 by_cases h:r=i
 ·subst h;simp
 ·have h2:¬i=r:=fun z=>h z.symm
  simp[h,h2,show(r==i)=false from qab.mpr h,show(i !=r)=true from qbI.mpr h2]
theorem opC_snoc:opC n (s++[(r,c)])=rest (opC n s) c:=by
 unfold opC rest;rw[List.filter_filter];congr 1
 funext i
 rw[List.any_append]
 by_cases h:c=i
 ·subst h;simp
 ·have h2:¬i=c:=fun z=>h z.symm
  simp[h,h2,show(c==i)=false from qab.mpr h,show(i !=c)=true from qbI.mpr h2]
theorem zmX (h:r∈l):(rest l r).length<l.length:=by
 unfold rest;rcases qdg (l.filter fun i=>i !=r).length l.length with z|z
 ·exact z
 ·have:=List.length_filter_eq_length_iff.mp (Nat.le_antisymm (qcX _ _) z) r h;simp at this
theorem Shp.keep (S:Shp t n b s)(hr:r∈opR t s)(hc:c∈opC n s)(hi:i<t)(hj:j<n)(h:i∉opR t s\/j∉opC n s):zb4 b r c (opR t s) (opC n s) i j=b i j:=by
 have rr:∀j,zbq b r c (rest (opR t s) r) r j=b r j:=fun j=>by unfold zbq;rw[if_neg (zem _ _)]
 by_cases h1:i∈opR t s
 ·have h2:j∉opC n s:=by rcases h with h|h;exact absurd h1 h;exact h
  obtain⟨p,hp,e⟩:=(zhf hj).mp h2;have z:b r j=0:=by
   have:=S.zc p hp r (zgs hr) fun z=>absurd hr ((ziS (zgs hr)).mpr ⟨p,hp,z.symm⟩)
   rwa[e]at this
  unfold zb4 zc2;rw[if_neg fun z=>h2 (mem_rest.mp z).1];unfold zbq
  split
  ·rw[z];lia
  ·rfl
 ·obtain⟨p,hp,e⟩:=(ziS hi).mp h1;have ri:∀j,zbq b r c (rest (opR t s) r) i j=b i j:=fun j=>by unfold zbq;rw[if_neg fun z=>h1 (mem_rest.mp z).1]
  have z:b i c=0:=by
   have:=S.zr p hp c (zgT hc) fun z=>absurd hc ((zhf (zgT hc)).mpr ⟨p,hp,z.symm⟩)
   rwa[e]at this
  unfold zb4 zc2;rw[ri,ri,z]
  split
  ·lia
  ·rfl
theorem Shp.ent (S:Shp t n b s)(h:Eb (opR t s) (opC n s) b (2^811)):∀i,i<t->∀j,j<n->(b i j).natAbs<=2^811:=fun i hi j hj=>by
 by_cases h1:i∈opR t s
 ·by_cases h2:j∈opC n s
  ·exact h i h1 j h2
  ·obtain⟨p,hp,e⟩:=(zhf hj).mp h2
   by_cases e2:i=p.1
   ·subst e e2;exact S.sz p hp
   ·have:=S.zc p hp i hi e2;rw[e]at this;rw[this];exact qaV _
 ·obtain⟨p,hp,e⟩:=(ziS hi).mp h1
  by_cases e2:j=p.2
  ·subst e e2;exact S.sz p hp
  ·have:=S.zr p hp j hj e2;rw[e]at this;rw[this];exact qaV _
theorem zpY {p:Nat×Nat}(S:Shp t n b s)(hp:p∈s):p.1∉opR t s:=(ziS (S.lt p hp).1).mpr ⟨p,hp,rfl⟩
theorem mem_c {p:Nat×Nat}(S:Shp t n b s)(hp:p∈s):p.2∉opC n s:=(zhf (S.lt p hp).2).mpr ⟨p,hp,rfl⟩
theorem Shp.same (S:Shp t n b s)(hr:r∈opR t s)(hc:c∈opC n s):Shp t n (zb4 b r c (opR t s) (opC n s)) s where
 d1:=S.d1
 d2:=S.d2
 lt:=S.lt
 nz:=fun p hp=>by rw[S.keep hr hc (S.lt p hp).1 (S.lt p hp).2 (.inl (zpY S hp))];exact S.nz p hp
 zr:=fun p hp j hj h=>by rw[S.keep hr hc (S.lt p hp).1 hj (.inl (zpY S hp))];exact S.zr p hp j hj h
 zc:=fun p hp i hi h=>by rw[S.keep hr hc hi (S.lt p hp).2 (.inr (mem_c S hp))];exact S.zc p hp i hi h
 sz:=fun p hp=>by rw[S.keep hr hc (S.lt p hp).1 (S.lt p hp).2 (.inl (zpY S hp))];exact S.sz p hp
theorem Shp.new (S:Shp t n b s)(hr:r∈opR t s)(hc:c∈opC n s)(nz:b r c≠0)(sz:(b r c).natAbs<=2^811)(o:¬Opn (opR t s) (opC n s) b r c):Shp t n (zb4 b r c (opR t s) (opC n s)) (s++[(r,c)]):=by
 have T:=S.same hr hc;have ne1:∀p∈s,p.1≠r:=fun p hp z=>zpY S hp (z ▸ hr)
 have ne2:∀p∈s,p.2≠c:=fun p hp z=>mem_c S hp (z ▸ hc)
 have e:zb4 b r c (opR t s) (opC n s) r c=b r c:=by rw[zcQ hr hc,zfm]
 have cases:∀{p},p∈s++[(r,c)]->p∈s\/p=(r,c):=fun h=>by
  rcases qar.mp h with h|h
  ·exact .inl h
  ·exact .inr (by simpa using h)
 refine⟨?_,?_,fun p hp=>?_,fun p hp=>?_,fun p hp j hj h=>?_,fun p hp i hi h=>?_,fun p hp=>?_⟩
 ·rw[List.pairwise_append];exact⟨S.d1,by simp,fun p hp q hq=>by rw[qcf.mp hq];exact ne1 p hp⟩
 ·rw[List.pairwise_append];exact⟨S.d2,by simp,fun p hp q hq=>by rw[qcf.mp hq];exact ne2 p hp⟩
 ·rcases cases hp with hp|rfl
  ·exact S.lt p hp
  ·exact⟨zgs hr,zgT hc⟩
 ·rcases cases hp with hp|rfl
  ·exact T.nz p hp
  ·show zb4 _ _ _ _ _ r c≠0;rw[e];exact nz
 ·rcases cases hp with hp|rfl
  ·exact T.zr p hp j hj h
  ·show zb4 _ _ _ _ _ r j=0;have h:j≠c:=h
   by_cases mj:j∈opC n s
   ·rw[zcQ hr mj];exact qdi fun z=>o (.inr ⟨j,mj,h,z⟩)
   ·obtain⟨q,hq,e⟩:=(zhf hj).mp mj;have:=T.zc q hq r (zgs hr) (Ne.symm (ne1 q hq));rwa[e]at this
 ·rcases cases hp with hp|rfl
  ·exact T.zc p hp i hi h
  ·show zb4 _ _ _ _ _ i c=0;have h:i≠r:=h
   by_cases mi:i∈opR t s
   ·rw[zcQ mi hc];exact qdi fun z=>o (.inl ⟨i,mi,h,z⟩)
   ·obtain⟨q,hq,e⟩:=(ziS hi).mp mi;have:=T.zr q hq c (zgT hc) (Ne.symm (ne2 q hq));rwa[e]at this
 ·rcases cases hp with hp|rfl
  ·exact T.sz p hp
  ·show(zb4 _ _ _ _ _ r c).natAbs<=_;rw[e];exact sz
def Ts:Nat->Nat
 |0=>1376
 |1=>1375
 |2=>1374
 |3=>1372
 |4=>1209
 |5=>2
 |6=>1
 |_=>0
theorem Ts_next:∀{s:Nat},s<=6->Ts s=1+Nx (s+1)+Ts (s+1)
 |0,_=>rfl
 |1,_=>rfl
 |2,_=>rfl
 |3,_=>rfl
 |4,_=>rfl
 |5,_=>rfl
 |6,_=>rfl
 |_+7,h=>by lia
def Far (t n:Nat)(b:Mx)(s:List (Nat×Nat))(m:Nat):Prop:=Shp t n b s/\s.length<=7/\∃B N,agr (opR t s) (opC n s) B b/\Stg s.length (opR t s) (opC n s) B N/\N+Ts s.length<=m
variable {m:Nat}
theorem Far.eb (F:Far t n b s m):∀i,i<t->∀j,j<n->(b i j).natAbs<=2^811:=by
 obtain⟨S,_,B,N,a,g,_⟩:=F;refine S.ent fun i hi j hj=>?_
 rw[<-a i hi j hj];exact g.ent i hi j hj
theorem Far.step (F:Far t n b s m)(l:Lst (opR t s) (opC n s) b r c):∃m',m=m'+1/\(Opn (opR t s) (opC n s) b r c->Far t n (zb4 b r c (opR t s) (opC n s)) s m')/\
  (¬Opn (opR t s) (opC n s) b r c->Far t n (zb4 b r c (opR t s) (opC n s)) (s++[(r,c)]) m'):=by
 have ebd:=F.eb;obtain⟨S,sl,B,N,a,g,hm⟩:=F;have l2:=a.symm.lst l;obtain⟨g1,g2⟩:=g.step l2;have s6:s.length<=6:=by
  have:=List.length_pos_of_mem l.1;have:=g.1;lia
 have tn:=Ts_next s6;have hr:=l.1;have hc:=l.2.1;refine⟨m-1,by lia,fun o=>?_,fun o=>?_⟩
 ·obtain⟨N',rfl,g3⟩:=g1 (a.symm.opn hr hc o);exact⟨S.same hr hc,sl,_,N',fun i hi j hj=>by rw[zcQ hi hj];exact a.rnd hr hc i hi j hj,g3,by lia⟩
 ·have o2:¬Opn (opR t s) (opC n s) B r c:=fun z=>o (a.opn hr hc z)
  have R:=opR_snoc (t:=t) (s:=s) (r:=r) (c:=c);have C:=opC_snoc (n:=n) (s:=s) (r:=r) (c:=c);have g3:=g2 o2 (opR t (s++[(r,c)])) (opC n (s++[(r,c)])) (fun i hi=>by rw[R]at hi;exact mem_rest.mp hi) (fun i hi=>by rw[C]at hi;exact mem_rest.mp hi) (by rw[R];have:=zmX hr;have:=g.1;lia) (by rw[C];have:=zmX hc;have:=g.2.1;lia);refine⟨S.new hr hc l.2.2.1 (ebd r (zgs hr) c (zgT hc)) o,by rw[qa8];show s.length+1<=7;lia,rnd B r c,Nx (s.length+1),fun i hi j hj=>?_,?_,?_⟩
  ·rw[R]at hi;rw[C]at hj;have hi:=(mem_rest.mp hi).1;have hj:=(mem_rest.mp hj).1;rw[zcQ hi hj];exact a.rnd hr hc i hi j hj
  ·rw[qa8];exact g3
  ·rw[qa8];show Nx (s.length+1)+Ts (s.length+1)<=m-1;lia
theorem Far.start (t7:t<=7)(n7:n<=7)(h:∀i j,A i j=0\/A i j=1):Far t n A [] 1376:=by
 refine⟨⟨by simp,by simp,by simp,by simp,by simp,by simp,by simp⟩,by simp,A,0,fun _ _ _ _=>rfl,⟨?_,?_,rfl,fun i _ j _=>h i j⟩,by decide⟩
 ·have:=zkr t [];exact qal this t7
 ·have:=zki n [];exact qal this n7
end
structure Fin (t n:Nat) (A b w v k:Mx) (s:List (Nat×Nat)):Prop where
 I:Inv t n A b w v k
 B:∃e,e<=20000000/\Bn e t n w v k
 S:Shp t n b s
 z:∀r∈opR t s,∀c∈opC n s,b r c=0
 l:s.length<=7
 e:∀i,i<t->∀j,j<n->(b i j).natAbs<=2^811
theorem znX (h:m<2^40):m<bigF:=qae h (zbE (show 40<=10000 by lia))
section
variable {n t:Nat} {c:Nat->Nat} {z:Nat->Nat->Nat} {S:Nat->Int}
abbrev Cor (t n:Nat)(b:Mx)(s:List (Nat×Nat))(x:D):Prop:=(x= .non/\∀r∈opR t s,∀c∈opC n s,b r c=0)\/∃r c,x= .tup [.int (r:Nat),.int (c:Nat)]/\Lst (opR t s) (opC n s) b r c
theorem zks (n1:1<=n)(n7:n<=7)(t1:1<=t)(t7:t<=7){b w v k:Mx}(h:Shp t n b s)(sl:s.length<=7)(d:D){s2:Sl}(p2:Pn s2)(hq:∀x,Cor t n b s x->Q (x,[oT t n b w v k s,.val d,s2])):Ok (eLkO 0 (zeQ za4 slC slN (eVar 0) aNil) [oT t n b w v k s,.val d,s2]) Q:=by
 change OkQ Q _;rw[zev rfl rfl (zhT t1 n1)];simp! only[];rw[zdX rfl];simp! only[];refine(zil (by lia) (by lia) (by lia) h.d1).mono ?_;have zl:(([Sl.emp,.val d,s2].zip [.val (oD t n b w v k s),.val d,s2]).all fun q=>zhV q.1 q.2)=true:=by
  simp only[qbb,qba,qbr,List.all_nil,zmu _,zkU _ _,p2 _,qbJ]
 rintro _ (⟨rfl,h0⟩|⟨r,c,rfl,h1,h2,h3,h4⟩)
 ·simp! only[];exact⟨⟨rfl,zl⟩,hq _ (.inl ⟨rfl,h0⟩)⟩
 ·simp! only[];exact⟨⟨rfl,zl⟩,hq _ (.inr ⟨r,c,rfl,h1,h2,h3,h4⟩)⟩
theorem init_ok (n1:1<=n)(n7:n<=7)(t1:1<=t)(t7:t<=7):Ok (zdH [.ptr (.obj slC [] [] none),.val (teD n t c z S)]) fun x=>∃b w v k s,Fin t n (incA c z) b w v k s/\x=(.val .non,[oT t n b w v k s,.emp]):=by
 simp! only[↓zdH,↓zhg,teD,↓zgt]
 generalize hd:D.tup [D.int (n:Nat),.tup (zaN t c z),.tup (wI t S)]=d
 have i0:dIx d (.int 0)=some (.int (n:Nat)):=by rw[<-hd];rfl
 have i1:dIx d (.int 1)=some (.tup (zaN t c z)):=by rw[<-hd];rfl
 refine⟨by unfold zaN;rw[zap];lia,?_⟩;unfold zaN at hd i1 ⊢;refine zaA (fun ρ=>∃y,ρ=[.val d,y]) (fun i=> .lst (wI n (incA c z i))) ⟨_,rfl⟩ ?_ ?_
 ·rintro i _ hi ⟨y,rfl⟩;simp! only[↓zg5,i0];refine(znk n (by lia) (c i) (z i)).mono ?_;rintro _ rfl;simp! only[];exact⟨rfl,_,rfl⟩
 rintro _ ⟨y,rfl⟩;rw[if_pos ⟨rfl,rfl⟩];simp! only[i1];refine(zft t (by lia)).mono ?_;rintro _ rfl;simp! only[i0];refine(zft n (by lia)).mono ?_;rintro _ rfl;simp! only[i0];refine(zft n (by lia)).mono ?_;rintro _ rfl;simp! only[];have far:Far t n (incA c z) [] 1376:=Far.start t7 n7 fun i j=>by unfold incA;split<;>simp
 have b0:Bn 0 t n un un un:=by
  have:∀i j,(un i j).natAbs<=2^0:=fun i j=>by unfold un;split<;>decide
  exact⟨fun i j _ _=>this i j,fun i j _ _=>this i j,fun i j _ _=>this i j⟩
 refine zks (s:=[]) n1 n7 t1 t7 far.1 (by simp) d zmu fun x hx=>?_
 simp! only[↓zgX];refine zhZ (fun m ρ=>m<=1376/\∃b w v k s x,Inv t n (incA c z) b w v k/\Bn (11368*(1376-m)) t n w v k/\Far t n b s m/\Cor t n b s x/\ρ=[oT t n b w v k s,.val d,.val x]) ?_ bigF 1376 _ (znX (by lia)) ⟨qaH _,_,_,_,_,_,_,Inv.start t n _,by simpa using b0,far,hx,rfl⟩;rintro m _ ⟨hm,b,w,v,k,s,x,I,B,F,hx,rfl⟩;simp! only[↓zgu];rcases hx with⟨rfl,h0⟩|⟨r,c,rfl,l⟩
 ·simp! only[];exact⟨b,w,v,k,s,⟨I,⟨_,by lia,B⟩,F.1,h0,F.2.1,F.eb⟩,rfl⟩
 ·simp! only[];obtain⟨m',rfl,f1,f2⟩:=F.step l;refine⟨m',rfl,?_⟩;simp! only[↓zgC];rw[ziT rfl rfl];simp! only[];refine(zjb t1 n1 t7 n7 I B (by lia) F.eb F.1.d1 F.2.1 l.1 l.2.1 l.2.2.1).mono ?_;rintro _ ⟨w',v',k',s',I',B',rfl,hs⟩;simp! only[];have F':Far t n (zb4 b r c (opR t s) (opC n s)) s' m':=by
   rcases hs with⟨o,rfl⟩|⟨o,rfl⟩
   ·exact f1 o
   ·exact f2 o
  refine zks n1 n7 t1 t7 F'.1 F'.2.1 d (zkU _) fun x hx=>?_
  simp! only[];exact⟨by lia,_,_,_,_,_,_,I',B'.le (by lia),F',hx,rfl⟩
end
def fac:Nat->Int
 |0=>1
 |n+1=>((n+1:Nat):Int)*fac n
theorem zkk:∀n,0<fac n
 |0=>by decide
 |n+1=>Int.mul_pos (by lia) (zkk n)
theorem beta {D:Int}(h:∀d:Nat,1<=d->d<=N->(d:Int)∣D):∀b a,a+b+1<=N->∃q:Int,q*fac (a+b+1)=D*fac a*fac b
 |0,a,l=>by
  obtain⟨q,e⟩:=h (a+1) (by lia) (by lia);refine⟨q,?_⟩;show q*(((a+1:Nat):Int)*fac a)=D*fac a*1;rw[e];grind
 |b+1,a,l=>by
  obtain⟨q1,e1⟩:=beta h b a (by lia);obtain⟨q2,e2⟩:=beta h b (a+1) (by lia);refine⟨q1-q2,?_⟩;have f1:fac (a+(b+1)+1)=((a+b+2:Nat):Int)*fac (a+b+1):=rfl;rw[show a+1+b+1=a+(b+1)+1 by lia]at e2;have f2:fac (a+1)=((a+1:Nat):Int)*fac a:=rfl;have f3:fac (b+1)=((b+1:Nat):Int)*fac b:=rfl;rw[Int.sub_mul,e2,f1,f2,f3];have e3:q1*(((a+b+2:Nat):Int)*fac (a+b+1))=((a+b+2:Nat):Int)*(D*fac a*fac b):=by rw[<-e1];grind
  rw[e3];have e4:((a+b+2:Nat):Int)=((a+1:Nat):Int)+((b+1:Nat):Int):=by lia
  rw[e4];grind
theorem zp0:∀k,(2:Int)^k*(fac k*fac k)<=fac (2*k+1)
 |0=>by decide
 |k+1=>by
  have h:=zp0 k;have e:fac (2*(k+1)+1)=((2*k+3:Nat):Int)*(((2*k+2:Nat):Int)*fac (2*k+1)):=rfl;have f:fac (k+1)=((k+1:Nat):Int)*fac k:=rfl;rw[e,f,Int.pow_succ];have p:=zkk (2*k+1);have c:(2:Int)*(((k+1:Nat):Int)*((k+1:Nat):Int))<=((2*k+3:Nat):Int)*((2*k+2:Nat):Int):=by
   have:((2*k+3:Nat):Int)*((2*k+2:Nat):Int)=2*(((k+1:Nat):Int)*((k+1:Nat):Int))+(2*(((k+1:Nat):Int)*((k+1:Nat):Int))+2*((k+1:Nat):Int)):=by
    rw[show((2*k+3:Nat):Int)=2*((k+1:Nat):Int)+1 by lia,show((2*k+2:Nat):Int)=2*((k+1:Nat):Int) by lia];grind
   have z:(0:Int)<=((k+1:Nat):Int)*((k+1:Nat):Int):=qdf (by lia) (by lia);lia
  have s1:=qdb h (show(0:Int)<=2*(((k+1:Nat):Int)*((k+1:Nat):Int))from qdf (by decide) (qdf (by lia) (by lia)));have s2:=Int.mul_le_mul_of_nonneg_right c (Int.le_of_lt p);refine Int.le_trans (Int.le_of_eq ?_) (Int.le_trans s1 (Int.le_trans s2 (Int.le_of_eq (Int.mul_assoc _ _ _))))
  grind
theorem all_div {D:Int}(nz:D≠0){k:Nat}(h:∀d:Nat,1<=d->d<=2*k+1->(d:Int)∣D):2^k<=D.natAbs:=by
 have h':∀d:Nat,1<=d->d<=2*k+1->(d:Int)∣(D.natAbs:Int):=fun d h1 h2=>Int.dvd_natAbs.mpr (h d h1 h2)
 obtain⟨q,e⟩:=beta h' k k (by lia);rw[show k+k+1=2*k+1 by lia]at e;have p1:=zkk k;have p2:=zkk (2*k+1);have p3:0<fac k*fac k:=Int.mul_pos p1 p1;have dp:(0:Int)<D.natAbs:=by lia
 have rp:(0:Int)<q*fac (2*k+1):=by rw[e,Int.mul_assoc];exact Int.mul_pos dp p3
 have qp:0<q:=Int.pos_of_mul_pos_left rp p2;have s1:fac (2*k+1)<=q*fac (2*k+1):=by
  have:=Int.mul_le_mul_of_nonneg_right (show 1<=q by lia) (Int.le_of_lt p2);lia
 have s2:(2:Int)^k*(fac k*fac k)<=(D.natAbs:Int)*(fac k*fac k):=by
  have:=zp0 k;rw[e,Int.mul_assoc]at s1;lia
 have s3:=Int.le_of_mul_le_mul_right s2 p3;have:((2^k:Nat):Int)<=(D.natAbs:Nat):=by rw[Int.natCast_pow];exact s3
 exact Int.ofNat_le.mp this
theorem least_ok (nz:x≠0)(hx:x.natAbs<=2^e)(he:e<=30000000):Ok (za0 [.int x]) fun y=>∃by_:Nat,2<=by_/\by_<=2^26/\¬(by_:Int)∣x/\y= .val (.int by_):=by
 simp! only[↓za0,↓zbJ,↓zck];refine zhZ (fun m ρ=>∃q:Nat,2<=q/\m+q=2*e+4/\(∀d:Nat,1<=d->d<q->(d:Int)∣x)/\ρ=[.val (.int x),.val (.int q)]) ?_ bigF (2*e+2) _ (znX (by lia)) ⟨2,by lia,by lia,fun d h1 h2=>?_,rfl⟩
 ·rintro m _ ⟨q,q2,hm,hd,rfl⟩;have lt:q<2*e+4:=qdi fun z=>by
   have:=all_div nz (k:=e+1) fun d h1 h2=>hd d h1 (by lia)
   have:=Nat.pow_lt_pow_right (show 1<2 by decide) (show e<e+1 by lia);lia
  simp! only[↓zce];refine⟨by lia,fun c=>?_,fun c=>?_⟩
  ·refine⟨m-1,by lia,?_⟩;simp! only[↓zcy];refine⟨q+1,by lia,by lia,fun d h1 h2=>?_,?_⟩
   ·rcases qdg d q with h|h
    ·exact hd d h1 h
    ·have:d=q:=by lia
     subst this;exact Int.dvd_of_emod_eq_zero (by simpa using c)
   ·rw[show((q:Nat):Int)+1=((q+1:Nat):Int) by lia]
  ·exact⟨q,q2,by lia,fun z=>by have:=Int.emod_eq_zero_of_dvd z;simp[this]at c,rfl⟩
 ·have:d=1:=by lia
  subst this;exact Int.one_dvd x
theorem abs1_nat (x:Int):abs1 x=(x.natAbs:Nat):=by unfold abs1;split<;>lia
theorem zkx (hy:y.natAbs<=2^811):Ok (zaJ [.int x,.int y]) fun z=>z= .val (.int (Int.gcd x y)):=by
 simp! only[↓zaJ,↓zcD,abs1_nat,↓zc6];refine zhZ (fun m ρ=>∃(a b:Nat) (z:Sl),b<=m/\Nat.gcd a b=Int.gcd x y/\ρ=[.val (.int x),.val (.int y),.val (.int a),.val (.int b),z]) ?_ bigF y.natAbs _ (qbH hy (Nat.pow_lt_pow_right (by decide) (show 811<10000 by lia))) ⟨_,_,_,qaH _,rfl,rfl⟩;rintro m _ ⟨a,b,z,hb,hg,rfl⟩;simp! only[↓zda];refine⟨fun c=>?_,fun c=>?_⟩
 ·have b0:b≠0:=by simpa using c
  refine⟨m-1,by lia,?_⟩;simp! only[↓zcT];refine⟨by lia,b,a%b,_,by have:=Nat.mod_lt a (show 0<b by lia);lia,?_,by rw[Int.natCast_emod]⟩;rw[<-hg,Nat.gcd_comm a b,Nat.gcd_rec b a,Nat.gcd_comm]
 ·have b0:b=0:=by simpa using c
  subst b0;rw[<-hg,Nat.gcd_zero_right]
def dv (x y:Int):Int:=if y<0 then-(Int.gcd x y:Int)else Int.gcd x y
abbrev rp (x y:Int):Int:=x.fdiv (dv x y)
abbrev rq (x y:Int):Int:=y.fdiv (dv x y)
theorem rat (hy:y≠0):dv x y≠0/\(dv x y).natAbs<=y.natAbs/\0<rq x y/\Int.gcd (rp x y) (rq x y)=1/\rp x y*y=x*rq x y/\(rp x y).natAbs<=x.natAbs/\(rq x y).natAbs<=y.natAbs:=by
 have gp:0<Int.gcd x y:=Int.gcd_pos_of_ne_zero_right x hy;have n:dv x y≠0:=by unfold dv;split<;>lia
 have ab:(dv x y).natAbs=Int.gcd x y:=by unfold dv;split<;>lia
 have le:Int.gcd x y<=y.natAbs:=Nat.le_of_dvd (by lia) (Nat.gcd_dvd_right _ _);have dx:dv x y∣x:=by rw[<-Int.natAbs_dvd,ab];exact Int.gcd_dvd_left ..
 have dy:dv x y∣y:=by rw[<-Int.natAbs_dvd,ab];exact Int.gcd_dvd_right ..
 obtain⟨p,ep⟩:=dx;obtain⟨q,eq⟩:=dy;have hp:rp x y=p:=by unfold rp;conv=>lhs;rw[show x.fdiv (dv x y)=(dv x y*p).fdiv (dv x y) by rw[<-ep]];rw[Int.mul_fdiv_cancel_left _ n]
 have hq:rq x y=q:=by unfold rq;conv=>lhs;rw[show y.fdiv (dv x y)=(dv x y*q).fdiv (dv x y) by rw[<-eq]];rw[Int.mul_fdiv_cancel_left _ n]
 refine⟨n,by lia,?_,?_,?_,zhw x n,zhw y n⟩
 ·rw[hq];rcases qc5 hy with h|h
  ·have e:dv x y= -(Int.gcd x y:Int):=by unfold dv;rw[if_pos h]
   have e1: -(Int.gcd x y:Int)*q=y:=by rw[<-e];exact eq.symm
   rw[Int.neg_mul]at e1;have h3:0<(Int.gcd x y:Int)*q:=by lia
   exact Int.pos_of_mul_pos_right h3 (by lia)
  ·have e:dv x y=(Int.gcd x y:Int):=by unfold dv;rw[if_neg (by lia)]
   have h3:0<(Int.gcd x y:Int)*q:=by rw[e]at eq;lia
   exact Int.pos_of_mul_pos_right h3 (by lia)
 ·rw[hp,hq];have:Int.gcd (dv x y*p) (dv x y*q)=(dv x y).natAbs*Int.gcd p q:=Int.gcd_mul_left ..;rw[<-ep,<-eq,ab]at this;exact Nat.eq_of_mul_eq_mul_left gp (by lia)
 ·rw[hp,hq]
  generalize dv x y=d at ep eq
  subst ep eq
  grind
theorem ratio_ok {x y:Int}(n:y≠0)(hy:y.natAbs<=2^811):Ok (zd2 [.int x,.int y]) fun z=>z= .val (.tup [.int (rp x y),.int (rq x y)]):=by
 have R:=rat (x:=x) n;have ok:zkB (dv x y)=true:=divF R.1 (qal R.2.1 hy);simp! only[↓zd2,↓zhe];refine(zkx hy).mono ?_;rintro _ rfl;simp! only[];refine⟨fun c=>?_,fun c=>?_⟩
 ·have c:y<0:=by simpa using c
  have e:dv x y= -(Int.gcd x y:Int):=by unfold dv;rw[if_pos c]
  simp! only[↓zef,rp,rq,<-e,ok]
 ·have c:¬y<0:=by simpa using c
  have e:dv x y=(Int.gcd x y:Int):=by unfold dv;rw[if_neg c]
  simp! only[↓zef,rp,rq,<-e,ok]
theorem zjA (h:Sq d t f)(ht:t<=100)(n:y≠0)(hy:y.natAbs<=2^811):Ok (zd8 [d,.int y]) fun z=>z= .val (.tup [.str "none",.tup (wL t fun i=> .tup [.int (rp (f i) y),.int (rq (f i) y)])]):=by
 simp! only[↓zd8,↓ziX,↓zhD,h.it];refine⟨by lia,zaA (fun ρ=>∃z,ρ=[.val (.int y),z]) (fun i=> .tup [.int (rp (f i) y),.int (rq (f i) y)]) ⟨_,rfl⟩ ?_ ?_⟩
 ·rintro i _ hi ⟨z,rfl⟩;simp! only[↓zhF];refine(ratio_ok n hy).mono ?_;rintro _ rfl;simp! only[];exact⟨_,rfl⟩
 ·rintro _ ⟨z,rfl⟩;simp! only[]
theorem zmH:∀{m:Nat},m<=7->(∀i,i<m->(f i).natAbs<=2^e)->(sumR m f).natAbs<=2^(e+3):=by
 intro m hm h;have:∀k,k<=m->(sumR k f).natAbs<=k*2^e:=by
  intro k
  induction k with
  |zero=>intro _;simp[sumR]
  |succ k ih=>
   intro hk;have a:=ih (by lia);have b:=h k (by lia);have c:=Int.natAbs_add_le (sumR k f) (f k);rw[Nat.succ_mul];show(sumR k f+f k).natAbs<=_;lia
 have a:=this m (qaH _);rw[qdk];have:m*2^e<=7*2^e:=qc9 _ hm;lia
theorem Rise.inj {z:Nat->Nat}(h:Rise n c z):∀{j:Nat},i<j->j<c->z i<z j
 |0,a,_=>by lia
 |j+1,a,b=>by
  have:=h.up j b;rcases qdg i j with q|q
  ·have:=Rise.inj h q (by lia);lia
  ·have:i=j:=by lia
   subst this;lia
section
variable {n t:Nat} {c:Nat->Nat} {z:Nat->Nat->Nat} {S:Nat->Int}
theorem zmn (hr:∀i,i<t->Rise n (c i) (z i))(R:Nat->Int)(ha:a<t):ssum c z R a=sumR n fun p=>incA c z a p*R p:=by
 have H:=hr a ha;have:∀k,k<=c a->sumR k (fun j=>R (z a j))=sumR n fun p=>(if hasP k (z a) p then 1 else 0)*R p:=by
  intro k
  induction k with
  |zero=>
   intro _;show(0:Int)=_;rw[zal (g:=fun _=>0) fun p _=>by simp[hasP],zfp]
  |succ k ih=>
   intro hk;show sumR k _+R (z a k)=_;rw[ih (by lia),zal (f:=fun p=>(if hasP (k+1) (z a) p then 1 else 0)*R p) (g:=fun p=>(if hasP k (z a) p then 1 else 0)*R p+if p=z a k then R (z a k)else 0) fun p _=>?_,zcN,zfI,if_pos (H.lt k (by lia))];have e:hasP (k+1) (z a) p=(hasP k (z a) p||z a k==p):=by unfold hasP;rw[qb2,List.any_append];simp
   rw[e]
   by_cases h1:p=z a k
   ·have h2:hasP k (z a) p=false:=by
     unfold hasP;rw[qaN];intro j hj;have:=Rise.inj H (qai.mp hj) (show k<c a by lia);simp;lia
    rw[h2,if_pos h1];simp[h1]
   ·have h2:(z a k==p)=false:=by rw[qab];exact Ne.symm h1
    rw[h2,if_neg h1,Bool.or_false];lia
 exact this (c a) (qaH _)
def gsum (t:Nat)(A:Mx)(f:Nat->Int)(p:Nat):Int:=sumR t fun a=>f a*A a p
def wsum (t:Nat)(S f:Nat->Int):Int:=sumR t fun a=>f a*S a
variable {A b w v k:Mx} {s:List (Nat×Nat)}
theorem Inv.bl2 (I:Inv t n A b w v k)(hi:i<t)(hj:j<n):b i j=sumR n fun p=>gsum t A (w i) p*v j p:=by
 rw[I.bl i hi j hj,zgy];refine zal fun p _=>?_
 unfold gsum;rw[qc2,<-zaZ];exact zal fun a _=>by grind
theorem Inv.back (I:Inv t n A b w v k){i q:Nat}(hi:i<t)(hq:q<n):gsum t A (w i) q=sumR n fun j=>b i j*k j q:=by
 have e1:(sumR n fun j=>b i j*k j q)=sumR n fun j=>sumR n fun p=>gsum t A (w i) p*(k j q*v j p):=zal fun j hj=>by
  rw[I.bl2 hi hj,qc2,<-zaZ];exact zal fun p _=>by grind
 rw[e1,zgy,zal (g:=fun p=>un q p*gsum t A (w i) p) fun p hp=>by rw[zaZ,I.kv q p hq hp,qc2],zfH hq]
def phi (t n:Nat)(A w:Mx)(R:Nat->Int)(i:Nat):Int:=sumR n fun p=>gsum t A (w i) p*R p
theorem phi_add (I:Inv t n A b w v k)(R:Nat->Int)(q:Int)(hi:i<t)(hj:j<n):phi t n A w (fun p=>R p- -q*v j p) i=phi t n A w R i+q*b i j:=by
 rw[I.bl2 hi hj,<-zaZ];unfold phi;rw[<-zcN];exact zal fun p _=>by grind
theorem zkq (R:Nat->Int)(f:Nat->Int):wsum t (fun a=>sumR n fun p=>A a p*R p) f=sumR n fun p=>gsum t A f p*R p:=by
 unfold wsum gsum;rw[zal (g:=fun a=>sumR n fun p=>f a*(A a p*R p)) fun a _=>by rw[zaZ],zgy];refine zal fun p _=>?_
 rw[qc2,<-zaZ];exact zal fun a _=>by grind
theorem Fin.right (F:Fin t n A b w v k s){R S:Nat->Int}(h:∀i,i<t->phi t n A w R i=wsum t S (w i)):∀a,a<t->(sumR n fun p=>A a p*R p)=S a:=fun a ha=>by
 have:=F.I.wi (fun a=>(sumR n fun p=>A a p*R p)-S a) (fun i hi=>by
  have e:=h i hi;unfold phi at e;rw[<-zkq]at e;unfold wsum at e;rw[zal (g:=fun a=>w i a*(sumR n fun p=>A a p*R p)-w i a*S a) fun a _=>by rw[Int.mul_sub],zdd,e];lia) a ha
 lia
theorem Fin.row0 (F:Fin t n A b w v k s)(hr:r<t)(h:r∈opR t s):∀j,j<n->b r j=0:=fun j hj=>by
 by_cases hc:j∈opC n s
 ·exact F.z r h j hc
 ·obtain⟨p,hp,e⟩:=(zhf hj).mp hc;have:=F.S.zc p hp r hr fun z=>zpY F.S hp (z ▸ h)
  rwa[e]at this
def Out (n t:Nat)(A:Mx)(S:Nat->Int)(d:D):Prop:=
 (∃R:Nat->Int,d= .tup [.str "row",.tup (wI n R)]/\∀a,a<t->(sumR n fun p=>A a p*R p)=S a)\/
 ∃(f:Nat->Int) (Y:Int) (e:Nat),e<=20000000/\Y≠0/\Y.natAbs<=2^811/\(∀a,a<t->(f a).natAbs<=2^e)/\(∀p,p<n->Y∣gsum t A f p)/\¬Y∣wsum t S f/\d= .tup [.str "none",.tup (wL t fun i=> .tup [.int (rp (f i) Y),.int (rq (f i) Y)])]
theorem fdiv_mul (ny:y≠0)(h:x.fmod y=0):x.fdiv y*y=x:=by
 have:=qc3 x y;rw[h,qc2]at this;omega
theorem ndvd (h:x.fmod y≠0):¬y∣x:=fun⟨q,e⟩=>h (by rw[e];exact Int.mul_fmod_right _ _)
end
section
variable {n t:Nat} {c:Nat->Nat} {z:Nat->Nat->Nat} {S:Nat->Int}
theorem zlY (h:BS x):x.natAbs<=2^230:=by
 unfold BS at h;have:((2^230:Nat):Int)=2^230:=by decide+kernel
 lia
theorem rep0 (n:Nat):(List.replicate n [D.int 0]).flatten=wI n fun _=>0:=by
 induction n with
 |zero=>rfl
 |succ n ih=>
  rw[List.replicate_succ',List.flatten_append,ih];unfold wI wL;rw[qb2,qb3]
  rfl
theorem zkJ (n1:1<=n)(n7:n<=7)(t1:1<=t)(t7:t<=7)(hr:∀i,i<t->Rise n (c i) (z i))(hs:∀i,i<t->(S i).natAbs<=2^236):Ok (zaV [teD n t c z S]) fun x=>∃d,Out n t (incA c z) S d/\x= .val d:=by
 simp! only[↓zaV,↓zjH];refine(init_ok n1 n7 t1 t7).mono ?_;rintro _ ⟨b,w,v,k,s,F,rfl⟩;obtain⟨e,he,B⟩:=F.B;have mo:∀i j,i<t->j<t->zc7 (w i j) (S j)=true:=fun i j hi hj=>mulW (B.1 i j hi hj) (hs j hj) (by lia) (by lia)
 have tb:∀i,i<t->(wsum t S (w i)).natAbs<=2^(e+240):=fun i hi=>by
  have:=zmH (e:=e+236) t7 fun j hj=>by
   have:=zaE (B.1 i j hi hj) (hs j hj);rw[<-qdk]at this;exact this
  exact qal this (zbE (by lia))
 show OkQ _ (some _)
 generalize hd:teD n t c z S=d
 have i0:dIx d (.int 0)=some (.int (n:Nat)):=by rw[<-hd];rfl
 have i2:dIx d (.int 2)=some (.tup (wI t S)):=by rw[<-hd];rfl
 simp! only[i0,rep0,↓zh7,zpI,g1];refine⟨by lia,?_⟩;refine zew (fun i ρ=>∃R s3 s4 s5 s6,(∀j,j<t->phi t n (incA c z) w R j=if j<i then wsum t S (w j)else 0)/\ρ=[.val d,.val (oD t n b w v k s),.val (.lst (wI n R)),s3,s4,s5,s6]) ⟨fun _=>0,_,_,_,_,fun j hj=>?_,rfl⟩ ?_ ?_
 ·unfold phi;rw[zal (g:=fun _=>0) fun p _=>by simp,zfp];simp
 ·rintro r _ hrt ⟨R,s3,s4,s5,s6,hR,rfl⟩;simp! only[↓ziU,i2];refine(ziz (Sq.lst t (w r)) (Sq.tup t S) (by lia) fun j hj=>mo r j hrt hj).mono ?_;rintro _ rfl;simp! only[zh3];have we:(sumR t fun j=>w r j*S j)=wsum t S (w r):=rfl;rw[we];have eb:=F.e r hrt;refine⟨fun h=>?_,fun h=>?_⟩
  ·obtain⟨p,hp,e1⟩:∃p∈s,p.1=r:=by simpa using h
   obtain⟨p1,cc⟩:=p;obtain rfl:p1=r:=e1;have hc:cc<n:=(F.S.lt _ hp).2;have nz:b p1 cc≠0:=F.S.nz _ hp;have br:∀j,j<n->b p1 j=if j=cc then b p1 cc else 0:=fun j hj=>by
    split
    ·rename_i q;rw[q]
    ·rename_i q;exact F.S.zr _ hp j hj q
   rw[zdX rfl];simp! only[];refine(zif F.S.d1 hp hrt hc).mono ?_;rintro _ rfl;simp! only[];refine⟨nz,fun q=>?_,fun q=>?_⟩
   ·refine(zjA (Sq.lst t (w p1)) (by lia) nz (eb cc hc)).mono ?_;rintro _ rfl;simp! only[];refine⟨_,.inr ⟨w p1,b p1 cc,e,he,nz,eb cc hc,fun a ha=>B.1 p1 a hrt ha,fun p hp=>?_,ndvd (by simpa using q),rfl⟩,rfl⟩;rw[F.I.back hrt hp,zal (g:=fun j=>if j=cc then b p1 cc*k cc p else 0) fun j hj=>by
     rw[br j hj]
     by_cases h:j=cc
     ·rw[if_pos h,if_pos h,h]
     ·rw[if_neg h,if_neg h];lia,zfI,if_pos hc]
    exact Int.dvd_mul_right _ _
   ·have q:(wsum t S (w p1)).fmod (b p1 cc)=0:=by simpa using q
    simp! only[↓zic,lk_sk,ziY F.S.d1 hp,g2,zas _ hc];refine⟨divF nz (eb cc hc),?_⟩;have qb:(-(wsum t S (w p1)).fdiv (b p1 cc)).natAbs<=2^(e+240):=by rw[qc6];exact qal (zhw _ nz) (tb p1 hrt)
    refine(zcj (Sq.lst n R) (Sq.lst n (v cc)) (by lia) fun j hj=>mulW qb (B.2.1 cc j hc hj) (by lia) (by lia)).mono ?_;rintro _ rfl;simp! only[];refine⟨_,_,_,_,_,fun j hj=>?_,rfl⟩;rw[phi_add F.I R _ hj hc,hR j hj]
    by_cases e2:j=p1
    ·subst e2;rw[if_neg (by lia),if_pos (by lia),fdiv_mul nz q];lia
    ·have:b j cc=0:=F.S.zc _ hp j hj e2;rw[this]
     by_cases e3:j<p1
     ·rw[if_pos e3,if_pos (by lia)];lia
     ·rw[if_neg e3,if_neg (by lia)];lia
  ·have op:r∈opR t s:=by
    unfold opR;rw[qah,h];exact⟨qai.mpr hrt,rfl⟩
   refine⟨fun q=>?_,fun q=>?_⟩
   ·refine(least_ok q (tb r hrt) (by lia)).mono ?_;rintro _ ⟨y,y2,yb,yn,rfl⟩;simp! only[];have y8:((y:Nat):Int).natAbs<=2^811:=qal yb (zbE (by lia));refine(zjA (Sq.lst t (w r)) (by lia) (by lia) y8).mono ?_;rintro _ rfl;simp! only[];refine⟨_,.inr ⟨w r,y,e,he,by lia,y8,fun a ha=>B.1 r a hrt ha,fun p hp=>?_,yn,rfl⟩,rfl⟩;rw[F.I.back hrt hp,zal (g:=fun _=>0) fun j hj=>by rw[F.row0 hrt op j hj,qdj],zfp];exact Int.dvd_zero _
   ·refine⟨R,_,_,_,_,fun j hj=>?_,rfl⟩;rw[hR j hj]
    by_cases e2:j=r
    ·subst e2;rw[if_neg (by lia),if_pos (by lia),q]
    ·by_cases e3:j<r
     ·rw[if_pos e3,if_pos (by lia)]
     ·rw[if_neg e3,if_neg (by lia)]
 ·rintro _ ⟨R,s3,s4,s5,s6,hR,rfl⟩;simp! only[];exact⟨_,.inl ⟨R,rfl,F.right fun i hi=>by rw[hR i hi,if_pos hi]⟩,rfl⟩
end
theorem all1 (k:Nat):((List.range k).map fun _=>true).all id=true:=by simp
def rst (q p:Int×Int):Int×Int:=(q.1*p.2+p.1*q.2,q.2*p.2)
def rsF (q:Int×Int)(l:List (Int×Int)):Int×Int:=l.foldl rst q
theorem pow_two (x y m:Nat)(hx:x<=m)(hy:y<=m):2^x+2^y<=2^(m+1):=by
 have:=zbE hx;have:=zbE hy;rw[qcY];lia
theorem rs_bd:∀(l:List (Int×Int)) (i:Nat) (q:Int×Int),(∀p∈l,p.1.natAbs<=2^e/\p.2.natAbs<=2^811/\p.2≠0)->q.1.natAbs<=2^(e+850*i)->q.2.natAbs<=2^(811*i)->q.2≠0->(rsF q l).1.natAbs<=2^(e+850*(i+l.length))/\(rsF q l).2.natAbs<=2^(811*(i+l.length))/\(rsF q l).2≠0
 |[],i,q,_,h1,h2,h3=>⟨h1,h2,h3⟩
 |p::l,i,q,h,h1,h2,h3=>by
  obtain⟨a1,a2,a3⟩:=h p qao;have b1:=zaE h1 a2;have b2:=zaE a1 h2;have b3:=zaE h2 a2;rw[<-qdk]at b1 b2 b3;have:=rs_bd l (i+1) (rst q p) (fun p hp=>h p (qap _ hp)) (by
   have c1:=Int.natAbs_add_le (q.1*p.2) (p.1*q.2);have c2:=pow_two (e+850*i+811) (e+811*i) (e+850*i+811) (qaH _) (by lia);have c3:2^(e+850*i+811+1)<=2^(e+850*(i+1)):=zbE (by lia);show(q.1*p.2+p.1*q.2).natAbs<=_;exact qal c1 (qal (Nat.add_le_add b1 b2) (qal c2 c3))) (qal b3 (zbE (by lia))) (Int.mul_ne_zero h3 a3)
  rw[qaQ,show i+(l.length+1)=i+1+l.length by lia];exact this
theorem rs_take {l:List (Int×Int)}{p:Int×Int}(h:l[i]? =some p):rsF (0,1) (l.take (i+1))=rst (rsF (0,1) (l.take i)) p:=by
 rw[qcL,h];unfold rsF;rw[List.foldl_append];rfl
theorem zo5 {α:Type}{P Q f:α->Int}:∀(l:List α) (T B S:Int),(∀a∈l,P a*Y=f a*Q a)->T*Y=B*S->(rsF (T,B) (l.map fun a=>(P a,Q a))).1*Y=(rsF (T,B) (l.map fun a=>(P a,Q a))).2*(S+(l.map f).sum)
 |[],T,B,S,_,h=>by show T*Y=B*(S+0);rw[h,Int.add_zero]
 |a::l,T,B,S,h,e=>by
  have:=zo5 l (T*Q a+P a*B) (B*Q a) (S+f a) (fun x hx=>h x (qap _ hx)) (by
   have:=h a qao;have e1:(T*Q a+P a*B)*Y=(T*Y)*Q a+(P a*Y)*B:=by grind
   rw[e1,e,this];grind)
  rw[qaR,qaR,List.sum_cons,<-Int.add_assoc];exact this
theorem zpJ:∀(l:List (Int×Int)) (q:Int×Int),(∀p∈l,0<p.2)->0<q.2->0<(rsF q l).2
 |[],_,_,h=>h
 |p::l,q,h,h2=>zpJ l (rst q p) (fun x hx=>h x (qap _ hx)) (Int.mul_pos h2 (h p qao))
theorem znd (n:Nat)(P:Nat->Bool)(f:Nat->Int):(((List.range n).filter P).map f).sum=sumR n fun j=>if P j=true then f j else 0:=by
 induction n with
 |zero=>rfl
 |succ n ih=>
  rw[qb2,List.filter_append,qb3,List.sum_append,ih];show _=sumR n _+_;congr 1
  by_cases h:P n=true<;>simp[h]
def prD (p:Int×Int):D:= .tup [.int p.1,.int p.2]
theorem zgV {l:List (Int×Int)}{e:Nat}(h:∀p∈l,p.1.natAbs<=2^e/\p.2.natAbs<=2^811/\p.2≠0)(hl:l.length<=7)(he:e<=50000000):Ok (zbD [.lst (l.map prD)]) fun x=>x= .val (prD (rsF (0,1) l)):=by
 simp! only[↓zbD,↓ze8,↓ze3];refine zk3 (enc:=prD) (l:=l) (fun i ρ=>∃s3 s4,ρ=[.val (.lst (l.map prD)),.val (.int (rsF (0,1) (l.take i)).1),.val (.int (rsF (0,1) (l.take i)).2),s3,s4]) ⟨_,_,rfl⟩ ?_ ?_
 ·rintro i p _ hi ⟨s3,s4,rfl⟩;have hil:i<l.length:=(qat.mp hi).1;obtain⟨a1,a2,a3⟩:=h p (qa7 hi);have bd:=rs_bd (e:=e) (l.take i) 0 (0,1) (fun p hp=>h p (qcI hp)) (by simp) (by simp) (by decide);rw[qa0,qcP (by lia)]at bd;have w1:=mulW bd.1 a2 (by lia) (by lia);have w2:=mulW a1 bd.2.1 (by lia) (by lia);have w3:=mulW bd.2.1 a2 (by lia) (by lia);simp! only[↓zeV,prD,w1,w2,w3,rs_take hi];exact⟨_,_,rfl⟩
 ·rintro _ ⟨s3,s4,rfl⟩;simp! only[qcM]
  rfl
theorem fm_any {α:Type}(l:List α)(b:α->Bool)(F:α->D):l.filterMap (fun i=>if b i=true then some (F i)else none)=(l.filter b).map F:=by
 rw[<-qcN,<-qcU,qcV];exact zaX _ fun p _=>by by_cases c:b p=true<;>simp[c,Option.guard]
theorem inSet (p c:Nat)(z:Nat->Nat):dIn (.int p) (.tup (setL c z))=some (.bl (hasP c z p)):=by
 have e1:setL c z=((List.range c).map fun i=>((z i:Nat):Int)).map .int:=by unfold setL wI wL;rw[qb4];rfl
 rw[show dIn (.int p) (.tup (setL c z))=dIn (.int p) (.lst (setL c z))from rfl,e1,inL];congr 2;unfold hasP;rw[qc0,qcB,qcD,qbW]
 constructor
 ·rintro⟨i,hi,e⟩;exact⟨i,hi,by simp;lia⟩
 ·rintro⟨i,hi,e⟩;exact⟨i,hi,by simp at e;lia⟩
section
variable {n t:Nat} {c:Nat->Nat} {z:Nat->Nat->Nat} {S:Nat->Int} {P Q:Nat->Int}
theorem zlm (y0:0<y)(hy:y.natAbs<=2^811)(h:Int.gcd x y=1):Ok (zdV [.int x,.int y]) fun z=>z= .val (.bl true):=by
 simp! only[↓zdV,↓zhm];refine⟨fun _=>?_,fun z=>by lia⟩;refine(zkx hy).mono ?_;rintro _ rfl;simp! only[h]
 rfl
theorem ziq {T B:Int}(b0:0<B):Ok (zcR [prD (T,B)]) fun z=>z= .val (.bl (T%B==0)):=by
 simp! only[↓zcR,↓zhq,prD];exact b0
abbrev wtD (t:Nat)(P Q:Nat->Int):D:= .tup (wL t fun i=>prD (P i,Q i))
theorem zjM (t7:t<=7)(h:∀i,i<t->0<Q i/\(Q i).natAbs<=2^811/\Int.gcd (P i) (Q i)=1):Ok (zcv [wtD t P Q]) fun z=>z= .val (.bl true):=by
 simp! only[↓zcv,↓zeZ,↓zeW];refine⟨by lia,zaA (fun ρ=>∃a b,ρ=[a,b]) (fun _=> .bl true) ⟨_,_,rfl⟩ ?_ ?_⟩
 ·rintro i _ hi ⟨a,b,rfl⟩;obtain⟨h1,h2,h3⟩:=h i hi;simp! only[↓zfv,prD];refine(zlm h1 h2 h3).mono ?_;rintro _ rfl;simp! only[];exact⟨_,_,rfl⟩
 rintro _ ⟨a,b,rfl⟩;simp! only[zk8,all1]
def atL (t:Nat)(c:Nat->Nat)(z:Nat->Nat->Nat)(P Q:Nat->Int)(p:Nat):List (Int×Int):=((List.range t).filter fun i=>hasP (c i) (z i) p).map fun i=>(P i,Q i)
theorem zlg (t7:t<=7)(p:Nat):Ok (zc4 [.tup (zaN t c z),wtD t P Q,.int (p:Nat)]) fun x=>x= .own ((atL t c z P Q p).map prD):=by
 simp! only[↓zc4,↓zf7,↓zf2,zaN,zhi];refine⟨by lia,ze5 (fun ρ=>∃a b,ρ=[.val (.int (p:Nat)),a,b]) (fun i=>if hasP (c i) (z i) p=true then some (prD (P i,Q i))else none) ⟨_,_,rfl⟩ ?_ ?_⟩
 ·rintro i _ hi ⟨a,b,rfl⟩;simp! only[↓zfX,↓zfY,inSet];exact⟨fun h=>⟨by rw[if_pos h],_,_,rfl⟩,fun h=>⟨by rw[if_neg (by simp[h])],_,_,rfl⟩⟩
 rintro _ ⟨a,b,rfl⟩;simp! only[fm_any];unfold atL;rw[qb4];rfl
theorem zjJ (t7:t<=7)(h:∀i,i<t->zc7 (P i) (S i)=true):Ok (zcp [wtD t P Q,.tup (wI t S)]) fun x=>x= .own (wL t fun i=>prD (P i*S i,Q i)):=by
 simp! only[↓zcp,↓zfl,↓zfx,zhi];refine⟨by lia,zaA (fun ρ=>∃a b,ρ=[a,b]) (fun i=>prD (P i*S i,Q i)) ⟨_,_,rfl⟩ ?_ ?_⟩
 ·rintro i _ hi ⟨a,b,rfl⟩;simp! only[↓zfb,prD,h i hi];exact⟨_,_,rfl⟩
 rintro _ ⟨a,b,rfl⟩;simp! only[]
theorem zlG {r:Nat->Int}(h:Sq d n r)(n7:n<=7)(t7:t<=7)(hr:∀i,i<t->Rise n (c i) (z i)):Ok (zdL [d,.tup (zaN t c z)]) fun x=>x= .val (.tup (wI t (ssum c z r))):=by
 simp! only[↓zdL,↓zho,↓zgZ,zaN];refine⟨by lia,zaA (fun ρ=>∃a,ρ=[.val d,a]) (fun i=> .int (ssum c z r i)) ⟨_,rfl⟩ ?_ ?_⟩
 ·rintro i _ hi ⟨a,rfl⟩;have cn:=(hr i hi).cn;simp! only[↓zgD,↓zdo,↓zeX,↓zfn,setL];refine⟨by lia,zaA (fun ρ=>∃a,ρ=[.val d,a]) (fun j=> .int (r (z i j))) ⟨_,rfl⟩ ?_ ?_⟩
  ·rintro j _ hj ⟨a,rfl⟩;simp! only[↓zfu,h.ix,zas _ ((hr i hi).lt j hj)];exact⟨_,rfl⟩
  rintro _ ⟨a,rfl⟩;simp! only[zkd,zdM];exact⟨rfl,_,rfl⟩
 rintro _ ⟨a,rfl⟩;simp! only[]
theorem zkA {T B Y W:Int}(nb:0<B)(ny:Y≠0)(h:T*Y=B*W):(T%B==0)=decide (Y∣W):=by
 by_cases d:Y∣W
 ·rw[qak d];obtain⟨q,rfl⟩:=d;have:T=B*q:=Int.eq_of_mul_eq_mul_right ny (by rw[h];grind);rw[this,Int.mul_emod_right];rfl
 ·rw[qaa d,qab];intro z;obtain⟨q,rfl⟩:=Int.dvd_of_emod_eq_zero z;exact d ⟨q,Int.eq_of_mul_eq_mul_left (show B≠0 by lia) (by rw[<-h];grind)⟩
theorem at_sum (f:Nat->Int)(p:Nat):((((List.range t).filter fun i=>hasP (c i) (z i) p)).map f).sum=gsum t (incA c z) f p:=by
 rw[znd];unfold gsum incA;refine zal fun i _=>?_
 cases hasP (c i) (z i) p<;>simp
theorem znq (n7:n<=7)(t7:t<=7)(hs:∀i,i<t->(S i).natAbs<=2^236){f:Nat->Int}{Y:Int}{e:Nat}(ny:Y≠0)(he:e<=20000000)
  (hQ:∀i,i<t->0<Q i/\(Q i).natAbs<=2^811/\Int.gcd (P i) (Q i)=1) (hP:∀i,i<t->(P i).natAbs<=2^e) (hf:∀i,i<t->P i*Y=f i*Q i)
  (h1:∀p,p<n->Y∣gsum t (incA c z) f p):Ok (zbm [teD n t c z S,wtD t P Q]) fun x=>x= .val (.bl (!decide (Y∣wsum t S f))):=by
 generalize hd:teD n t c z S=d
 have i0:dIx d (.int 0)=some (.int (n:Nat)):=by rw[<-hd];rfl
 have i1:dIx d (.int 1)=some (.tup (zaN t c z)):=by rw[<-hd];rfl
 have i2:dIx d (.int 2)=some (.tup (wI t S)):=by rw[<-hd];rfl
 have sl:(zaN t c z).length=t:=zap _ _;simp! only[↓zbm,↓zcZ,i1,sl,zap];refine(zjM t7 hQ).mono ?_;rintro _ rfl;simp! only[↓zdl,↓zdm,i0];refine⟨zaD (by lia) (by lia),by lia,zaA (fun ρ=>∃y,ρ=[.val (.tup (zaN t c z)),.val (wtD t P Q),y]) (fun p=>prD (rsF (0,1) (atL t c z P Q p))) ⟨_,rfl⟩ ?_ ?_⟩
 ·rintro p _ hp ⟨y,rfl⟩;simp! only[↓zdp];refine(zlg t7 p).mono ?_;rintro _ rfl;simp! only[];refine(zgV (e:=e) (fun x hx=>?_) ?_ (by lia)).mono ?_
  ·obtain⟨i,hi,rfl⟩:=qbW.mp hx;have hi:=qai.mp (qah.mp hi).1;exact⟨hP i hi,(hQ i hi).2.1,by have:=(hQ i hi).1;show Q i≠0;lia⟩
  ·unfold atL;rw[qaS];exact qal (qcX _ _) (by rw[qb1];exact t7)
  rintro _ rfl;simp! only[];exact⟨_,rfl⟩
 rintro _ ⟨y,rfl⟩;simp! only[↓zdi,zap];refine⟨by lia,zaA (fun ρ=>∃y,ρ=[y]) (fun _=> .bl true) ⟨_,rfl⟩ ?_ ?_⟩
 ·rintro p _ hp ⟨y,rfl⟩;have m:=zo5 (P:=P) (Q:=Q) (f:=f) (Y:=Y) ((List.range t).filter fun i=>hasP (c i) (z i) p) 0 1 0 (fun i hi=>hf i (qai.mp (qah.mp hi).1)) (by simp);have pos:=zpJ (atL t c z P Q p) (0,1) (fun x hx=>by
   obtain⟨i,hi,rfl⟩:=qbW.mp hx;exact(hQ i (qai.mp (qah.mp hi).1)).1) (by decide)
  rw[Int.zero_add,at_sum]at m;have m:(rsF (0,1) (atL t c z P Q p)).1*Y=(rsF (0,1) (atL t c z P Q p)).2*gsum t (incA c z) f p:=m;simp! only[↓zdf];refine(ziq (T:=(rsF (0,1) (atL t c z P Q p)).1) pos).mono ?_;rintro _ rfl;simp! only[];rw[zkA pos ny m,qak (h1 p hp)];exact⟨rfl,_,rfl⟩
 rintro _ ⟨y,rfl⟩;simp! only[zk8,all1,↓zdh,i2];refine(zjJ t7 fun i hi=>mulW (hP i hi) (hs i hi) (by lia) (by lia)).mono ?_;rintro _ rfl;simp! only[];have el:(wL t fun i=>prD (P i*S i,Q i))=((List.range t).map fun i=>(P i*S i,Q i)).map prD:=by unfold wL;rw[qb4];rfl
 rw[el];refine(zgV (e:=e+236) (fun x hx=>?_) (by simp;lia) (by lia)).mono ?_
 ·obtain⟨i,hi,rfl⟩:=qbW.mp hx;have hi:=qai.mp hi;refine⟨?_,(hQ i hi).2.1,by have:=(hQ i hi).1;show Q i≠0;lia⟩;rw[qdk];exact zaE (hP i hi) (hs i hi)
 rintro _ rfl;have m:=zo5 (P:=fun i=>P i*S i) (Q:=Q) (f:=fun i=>f i*S i) (Y:=Y) (List.range t) 0 1 0 (fun i hi=>by
  have:=hf i (qai.mp hi);have e1:P i*S i*Y=(P i*Y)*S i:=by grind
  rw[e1,this];grind) (by simp)
 have pos:=zpJ ((List.range t).map fun i=>(P i*S i,Q i)) (0,1) (fun x hx=>by
  obtain⟨i,hi,rfl⟩:=qbW.mp hx;exact(hQ i (qai.mp hi)).1) (by decide)
 rw[Int.zero_add,zdM]at m;simp! only[];refine(ziq (T:=(rsF (0,1) ((List.range t).map fun i=>(P i*S i,Q i))).1) pos).mono ?_;rintro _ rfl;simp! only[];rw[zkA pos ny m]
 rfl
theorem ziG (n7:n<=7)(t7:t<=7)(hr:∀i,i<t->Rise n (c i) (z i))(hs:∀i,i<t->(S i).natAbs<=2^236)(h:Out n t (incA c z) S d):Ok (zaw [teD n t c z S,d]) fun x=>x= .val (.bl true):=by
 rcases h with⟨R,rfl,hR⟩|⟨f,Y,e,he,ny,hy,hf,h1,h2,rfl⟩
 ·have i0:dIx (teD n t c z S) (.int 0)=some (.int (n:Nat)):=rfl;have i1:dIx (teD n t c z S) (.int 1)=some (.tup (zaN t c z)):=rfl;have i2:dIx (teD n t c z S) (.int 2)=some (.tup (wI t S)):=rfl;have e:(wI t (ssum c z R))=wI t S:=zcL fun i hi=>by rw[zmn hr R hi,hR i hi]
  have p1:Pl 1 (.tup (wI t S)):=pl_tup (pl_w fun c=>pl_int 0 _);simp! only[↓zaw,↓zca,↓zee,↓zgo,i0,i1,i2,zap];refine(zlG (Sq.tup n R) n7 t7 hr).mono ?_;rintro _ rfl;simp! only[i2,e,p1.eq (by lia)]
 ·have e_nr:dEq (.str "none") (.str "row")=some (.bl false):=by rw[zkp];rfl
  simp! only[↓zaw,↓zca,e_nr,↓zdW];have R:=fun i=>rat (x:=f i) ny
  refine(znq (c:=c) (z:=z) (P:=fun i=>rp (f i) Y) (Q:=fun i=>rq (f i) Y) n7 t7 hs ny he (fun i hi=>⟨(R i).2.2.1,qal (R i).2.2.2.2.2.2 hy,(R i).2.2.2.1⟩) (fun i hi=>qal (R i).2.2.2.2.2.1 (hf i hi)) (fun i hi=>(R i).2.2.2.2.1) h1).mono ?_;rintro _ rfl;simp! only[qaa h2]
theorem Out.excl {d d':D}(h:Out n t A S d)(h':Out n t A S d'):dIx d (.int 0)=dIx d' (.int 0):=by
 have no:∀{R f:Nat->Int} {Y:Int},(∀a,a<t->(sumR n fun p=>A a p*R p)=S a)->(∀p,p<n->Y∣gsum t A f p)->Y∣wsum t S f:=fun{R f Y} hR h1=>by
  have e1:wsum t S f=sumR n fun p=>gsum t A f p*R p:=by
   rw[<-zkq];exact zal fun a ha=>by show f a*S a=f a*(sumR n fun p=>A a p*R p);rw[hR a ha]
  rw[e1];have:∀k,k<=n->Y∣sumR k fun p=>gsum t A f p*R p:=by
   intro k
   induction k with
   |zero=>exact fun _=>Int.dvd_zero _
   |succ k ih=>exact fun hk=>Int.dvd_add (ih (by lia)) (Int.dvd_mul_of_dvd_left (h1 k (by lia)))
  exact this n (qaH _)
 rcases h with⟨R,rfl,hR⟩|⟨f,Y,e,he,ny,hy,hf,h1,h2,rfl⟩<;>rcases h' with⟨R',rfl,hR'⟩|⟨f',Y',e',he',ny',hy',hf',h1',h2',rfl⟩
 ·rfl
 ·exact absurd (no hR h1') h2'
 ·exact absurd (no hR' h1) h2
 ·rfl
end
def nI (x:Nat):D:= .int x
theorem map_nI (l:List Nat):l.map nI=wL l.length fun i=> .int ((l.getD i 0:Nat):Int):=by
 apply qcO;intro i
 by_cases h:i<l.length
 ·rw[zas _ h,qa5,qbG h];simp[nI,List.getD,h]
 ·rw[qb0 (by simp;lia),qb0 (by rw[zap];lia)]
theorem er_map {α β:Type}(f:α->β):∀(l:List α) (k:Nat),(l.map f).eraseIdx k=(l.eraseIdx k).map f
 |[],_=>by simp
 |_::_,0=>rfl
 |x::l,k+1=>by simp[er_map f l k]
theorem zou {α:Type}:∀{l:List α} {k:Nat} (h:k<l.length),([l[k]]++l.eraseIdx k).Perm l
 |x::l,0,_=> .refl _
 |x::l,k+1,h=>((List.Perm.swap x _ _).trans ((zou (l:=l) (k:=k) (by simpa using h)).cons x))
theorem order_ok (h:Pot ds){m:Nat}(m9:m<=100):Ok (zbl ds [.int (m:Nat)]) fun x=>∃(l:List Nat) (ds':List D),Pot ds'/\l.Perm (List.range m)/\x=(.own (l.map nI),ds'):=by
 simp! only[↓zbl,↓zfj,↓ze2];refine⟨zaD (by lia) (by lia),by lia,zaD (by lia) (by lia),by lia,zlj (fun j acc ρ=>∃(a r:List Nat) (ds':List D) (s:Sl),zdb [s]=true/\Pot ds'/\(a++r).Perm (List.range m)/\a.length=j/\acc=a.map nI/\ρ=[.par (r.map nI),.par ds',s]) ⟨[],List.range m,ds,.emp,rfl,h,.refl _,rfl,rfl,?_⟩ ?_ ?_⟩
 ·rfl
 ·rintro j _ _ hj ⟨a,r,d1,s,no,h1,pm,al,rfl,rfl⟩;have ll:r.length=m-j:=by have:=pm.length_eq;simp at this;lia
  simp! only[↓ze9,ll];refine(zbf h1 (m:=((m-j:Nat):Int)) (by lia) (by lia)).mono ?_;rintro _ ⟨k,d2,hk,h2,rfl⟩;have kl:k<r.length:=by lia
  have ex:(r.map nI)[k]? =some (.int ((r[k]:Nat):Int)):=by rw[qa5,qbG kl];rfl
  simp! only[ll,ex];refine⟨⟨by lia,by lia,by lia⟩,a++[r[k]],r.eraseIdx k,d2,.val (.int j),rfl,h2,?_,by simp;lia,by simp[nI],by rw[er_map]⟩;refine List.Perm.trans ?_ pm;rw[qbv];exact List.Perm.append_left a (zou kl)
 ·rintro _ _ ⟨a,r,d1,s,no,h1,pm,al,rfl,rfl⟩;simp! only[];have rl:r=[]:=qbF (by have:=pm.length_eq;simp at this;lia);subst rl;refine⟨a,d1,h1,by simpa using pm,rfl⟩
def zlD (key:Nat->Int)(p:List Nat):List Nat:=(srt p.length (HT.zgh (p.map fun x=>[key x]))).map fun i=>p.getD i 0
theorem znc (key:Nat->Int)(p:List Nat):(zlD key p).Perm p:=by
 have pm:=zgL (n:=p.length) (HT.zle (p.map fun x=>[key x]));have e:(List.range p.length).map (fun i=>p.getD i 0)=p:=by
  apply qcO;intro i
  by_cases hi:i<p.length
  ·simp[hi]
  ·simp[hi]
 have:=pm.map fun i=>p.getD i 0
 rw[e]at this;exact this
theorem srtBy_up (key:Nat->Int)(p:List Nat):(zlD key p).Pairwise fun a b=>key a<=key b:=by
 have o:=HT.zle (p.map fun x=>[key x]);have pm:=zgL (n:=p.length) o;unfold zlD;rw[qcT];intro i j hi hj hij;rw[qaS]at hi hj;have up:=srt_up o (qam hij) (qbG hi) (qbG hj);have ra:=qai.mp (pm.mem_iff.mp (qcF hi));have rb:=qai.mp (pm.mem_iff.mp (qcF hj));simp only[List.getElem_map]
 generalize (srt p.length (HT.zgh (p.map fun x=>[key x])))[i]=a at up ra ⊢
 generalize (srt p.length (HT.zgh (p.map fun x=>[key x])))[j]=b at up rb ⊢
 unfold HT.zgh at up;simp only[List.getD,qa5,qbG ra,qbG rb,qbC,qbQ]at up ⊢;change (if key p[b]=key p[a]then _ else decide (key p[b]<key p[a]))=false at up
 by_cases h:key p[b]=key p[a]
 ·lia
 ·rw[if_neg h,decide_eq_false_iff_not]at up;lia
theorem srtBy_D (key:Nat->Int)(p:List Nat):(srt p.length (HT.zgh (p.map fun x=>[key x]))).map (fun i=>(p.map nI).getD i .non)=(zlD key p).map nI:=by
 have pm:=zgL (n:=p.length) (HT.zle (p.map fun x=>[key x]));unfold zlD;rw[qb4];apply qcn;intro i hi;have:=qai.mp (pm.mem_iff.mp hi);simp[this]
theorem ints_nI:∀p:List Nat,za8 (p.map nI)=some (p.map fun(x:Nat)=>(x:Int)):=fun p=>by
 have:p.map nI=(p.map fun(x:Nat)=>(x:Int)).map D.int:=by rw[qb4];rfl
 rw[this,zbw]
theorem srt_nI (p:List Nat)(h:p.length<64):dSrt [.lst (p.map nI)]=some ((zlD (fun(x:Nat)=>(x:Int)) p).map nI):=by
 unfold dSrt;show(if(p.map nI).length<64 then Option.map (fun nss=>srtD nss (p.map nI)) (znC (p.map nI))else none)=_;have ky:znC (p.map nI)=some (p.map fun(x:Nat)=>[(x:Int)]):=by
  unfold znC;rw[ints_nI];show some _=_;rw[qb4]
  rfl
 rw[qaS,if_pos h,ky];show some (srtD _ _)=_;unfold srtD;rw[qaS,srtBy_D]
theorem zog (a:Str):dNe (.str a) (.str a)=some (.bl false):=by
 unfold dNe;rw[show noS (.str a)=true from rfl,show depth (.str a)=0 from rfl];simp[eqB]
theorem e_nr:dEq (.str "none") (.str "row")=some (.bl false):=by rw[zkp];rfl
theorem e_rn:dEq (.str "row") (.str "none")=some (.bl false):=by rw[zkp];rfl
section
variable {n t:Nat} {c:Nat->Nat} {z:Nat->Nat->Nat} {S:Nat->Int} {A:Mx}
theorem Out.kind (h:Out n t A S d):∃k:Str,dIx d (.int 0)=some (.str k):=by
 rcases h with⟨R,rfl,hR⟩|⟨f,Y,e,he,ny,hy,hf,h1,h2,rfl⟩<;>exact⟨_,rfl⟩
theorem Out.rowS {R:Nat->Int}(r:Nat->Int)(hR:∀a,a<t->(sumR n fun p=>A a p*R p)=S a):Out n t A (fun a=>S a+sumR n fun p=>A a p*r p) (.tup [.str "row",.tup (wI n fun p=>R p+r p)]):=
 .inl ⟨_,rfl,fun a ha=>by rw[zal (g:=fun p=>A a p*R p+A a p*r p) fun p _=>by rw[Int.mul_add],zcN,hR a ha]⟩
theorem Out.rowN {R:Nat->Int}(hR:∀a,a<t->(sumR n fun p=>A a p*R p)=S a):Out n t A (fun a=> -S a) (.tup [.str "row",.tup (wI n fun p=> -R p)]):=
 .inl ⟨_,rfl,fun a ha=>by rw[zal (g:=fun p=> -1*(A a p*R p)) fun p _=>by rw[Int.mul_neg];lia,zaZ,hR a ha];show-1*S a= -S a;lia⟩
abbrev zp9 (t:Nat)(f:Nat->Int)(Y:Int):D:= .tup [.str "none",.tup (wL t fun i=> .tup [.int (rp (f i) Y),.int (rq (f i) Y)])]
theorem dvd_row {f r:Nat->Int}(h1:∀p,p<n->Y∣gsum t A f p):Y∣wsum t (fun a=>sumR n fun p=>A a p*r p) f:=by
 rw[zkq];have:∀k,k<=n->Y∣sumR k fun p=>gsum t A f p*r p:=by
  intro k
  induction k with
  |zero=>exact fun _=>Int.dvd_zero _
  |succ k ih=>exact fun hk=>Int.dvd_add (ih (by lia)) (Int.dvd_mul_of_dvd_left (h1 k (by lia)))
 exact this n (qaH _)
theorem Out.noneS (r:Nat->Int)(he:e<=20000000)(ny:Y≠0)(hy:Y.natAbs<=2^811)(hf:∀a,a<t->(f a).natAbs<=2^e)(h1:∀p,p<n->Y∣gsum t A f p)(h2:¬Y∣wsum t S f):Out n t A (fun a=>S a+sumR n fun p=>A a p*r p) (zp9 t f Y):=
 .inr ⟨f,Y,e,he,ny,hy,hf,h1,fun h=>h2 (by
  have d:=dvd_row (r:=r) h1;have e1:wsum t (fun a=>S a+sumR n fun p=>A a p*r p) f=wsum t S f+wsum t (fun a=>sumR n fun p=>A a p*r p) f:=by
   unfold wsum;rw[<-zcN];exact zal fun a _=>by rw[Int.mul_add]
  rw[e1]at h;have:=Int.dvd_sub h d;rwa[Int.add_sub_cancel]at this),rfl⟩
theorem Out.noneN (he:e<=20000000)(ny:Y≠0)(hy:Y.natAbs<=2^811)(hf:∀a,a<t->(f a).natAbs<=2^e)(h1:∀p,p<n->Y∣gsum t A f p)(h2:¬Y∣wsum t S f):Out n t A (fun a=> -S a) (zp9 t f Y):=
 .inr ⟨f,Y,e,he,ny,hy,hf,h1,fun h=>h2 (by
  have e1:wsum t (fun a=> -S a) f= -wsum t S f:=by
   unfold wsum;rw[zal (g:=fun a=> -1*(f a*S a)) fun a _=>by rw[Int.mul_neg];lia,zaZ];lia
  rw[e1]at h;exact Int.dvd_neg.mp h),rfl⟩
theorem zds (n1:1<=n)(n7:n<=7)(t1:1<=t)(t7:t<=7)(hr:∀i,i<t->Rise n (c i) (z i))(hs:∀i,i<t->(S i).natAbs<=2^236)(h:Out n t (incA c z) S d)(hk:dIx d (.int 0)=some (.str k)):∃d',zaV [teD n t c z S]=some (.val d')/\dIx d' (.int 0)=some (.str k)/\zaw [teD n t c z S,d]=some (.val (.bl true)):=by
 obtain⟨_,e,d',hd,rfl⟩:=zkJ n1 n7 t1 t7 hr hs;obtain⟨_,e2,rfl⟩:=ziG n7 t7 hr hs h;exact⟨d',e,by rw[hd.excl h,hk],e2⟩
theorem zll {T d T1 T2 p1 p2 a1 a2:D}{s0 s3 s4 s5 s6 s7:Sl}(hk:dIx d (.int 0)=some (.str k))(e1:zaV [T1]=some (.val a1))(k1:dIx a1 (.int 0)=some (.str k))(r1:zaw [T1,p1]=some (.val (.bl true)))
  (e2:zaV [T2]=some (.val a2)) (k2:dIx a2 (.int 0)=some (.str k)) (r2:zaw [T2,p2]=some (.val (.bl true))):Ok (zbk [s0,.val T,.val d,s3,s4,s5,s6,s7,.val T1,.val T2,.val p1,.val p2]) fun x=>x=(.ret (.val (.bl true)),[s0,.val T,.val d,s3,s4,s5,s6,s7,.val T1,.val T2,.val p1,.val p2]):=by
 simp! only[↓zbk,↓zci,hk,e1,k1,r1,e2,k2,r2,zog]
theorem moved_ok (hp:Pot ds)(n1:1<=n)(n7:n<=7)(t1:1<=t)(t7:t<=7)(hr:∀i,i<t->Rise n (c i) (z i))(hs:∀i,i<t->BS (S i))(h:Out n t (incA c z) S d):Ok (za1 ds [teD n t c z S,d]) fun x=>∃ds',Pot ds'/\x=(.val (.bl true),ds'):=by
 generalize hT:teD n t c z S=T
 simp! only[↓za1,↓zbX];rw[<-hT];simp! only[teD,↓zcn];refine⟨zaD (by lia) (by lia),by lia,zlj (fun i acc ρ=>∃(r:Nat->Int) (ds':List D) (s:Sl),Pot ds'/\(∀j,j<i->(r j).natAbs<=4)/\acc=wI i r/\ρ=[.par ds',s]) ⟨fun _=>0,ds,_,hp,fun j hj=>by lia,rfl,rfl⟩ ?_ ?_⟩
 ·rintro i _ _ hi ⟨r,d1,s,h1,hb,rfl,rfl⟩;simp! only[↓zcl];refine(zbf h1 (m:=9) (by lia) (by lia)).mono ?_;rintro _ ⟨u,d2,hu,h2,rfl⟩;simp! only[];refine⟨fun j=>if j<i then r j else(u:Int)-4,d2,_,h2,fun j hj=>?_,?_,rfl⟩
  ·by_cases h:j<i
   ·simp only[h,if_true];exact hb j h
   ·simp only[h,qbh];lia
  ·rw[<-zjL];rfl
 rintro _ _ ⟨r,d1,s,h1,hb,rfl,rfl⟩;simp! only[];refine(zfs (Sq.lst n r) n7 t7 hr rfl).mono ?_;rintro _ rfl;simp! only[↓zct,zhi];refine⟨by lia,zaA (fun ρ=>∃a b,ρ=[a,b]) (fun i=> .int (S i+ssum c z r i)) ⟨_,_,rfl⟩ ?_ ?_⟩
 ·rintro i _ hi ⟨a,b,rfl⟩;simp! only[↓zcs];exact⟨_,_,rfl⟩
 rintro _ ⟨a,b,rfl⟩;simp! only[↓zch];refine⟨by lia,zaA (fun ρ=>∃a,ρ=[a]) (fun i=> .int (-S i)) ⟨_,rfl⟩ ?_ ?_⟩
 ·rintro i _ hi ⟨a,rfl⟩;simp! only[↓zcu];exact⟨_,rfl⟩
 rintro _ ⟨a,rfl⟩;have t1e:(D.tup [.int (n:Nat),.tup (zaN t c z),.tup (wI t fun i=>S i+ssum c z r i)])=teD n t c z fun a=>S a+sumR n fun p=>incA c z a p*r p:=by
  have ew:(wI t fun i=>S i+ssum c z r i)=wI t fun i=>S i+sumR n fun p=>incA c z i p*r p:=zcL fun i hi=>by dsimp only;rw[zmn hr r hi]
  unfold teD;rw[ew]
 have t2e:(D.tup [.int (n:Nat),.tup (zaN t c z),.tup (wI t fun i=> -S i)])=teD n t c z fun i=> -S i:=rfl
 have b1:∀i,i<t->(S i+sumR n fun p=>incA c z i p*r p).natAbs<=2^236:=fun i hi=>by
  have h1:=zlY (hs i hi);have h2:=zmH (e:=2) (m:=n) (f:=fun p=>incA c z i p*r p) n7 fun p hp=>by
   have:=hb p hp;unfold incA
   split
   ·rw[Int.one_mul];exact this
   ·rw[qdj];decide
  have h3:=Int.natAbs_add_le (S i) (sumR n fun p=>incA c z i p*r p);have h4:(2:Nat)^230+2^(2+3)<=2^236:=by decide+kernel
  lia
 have b2:∀i,i<t->(-S i).natAbs<=2^236:=fun i hi=>by
  have:=zlY (hs i hi);rw[qc6];exact qal this (zbE (by lia))
 simp! only[t1e,t2e];rcases h with⟨R,rfl,hR⟩|⟨f,Y,e,he,ny,hy,hf,h1',h2',rfl⟩
 ·obtain⟨a1,e1,k1,q1⟩:=zds n1 n7 t1 t7 hr b1 (Out.rowS r hR) rfl;obtain⟨a2,e2,k2,q2⟩:=zds n1 n7 t1 t7 hr b2 (Out.rowN hR) rfl;simp! only[↓zcq,zhi];refine⟨by lia,zaA (fun ρ=>∃a b,ρ=[a,b]) (fun i=> .int (R i+r i)) ⟨_,_,rfl⟩ ?_ ?_⟩
  ·rintro i _ hi ⟨a,b,rfl⟩;simp! only[↓zcx];exact⟨_,_,rfl⟩
  rintro _ ⟨a,b,rfl⟩;simp! only[↓zco];refine⟨by lia,zaA (fun ρ=>∃a,ρ=[a]) (fun i=> .int (-R i)) ⟨_,rfl⟩ ?_ ?_⟩
  ·rintro i _ hi ⟨a,rfl⟩;simp! only[↓zcm];exact⟨_,rfl⟩
  rintro _ ⟨a,rfl⟩;simp! only[];refine(zll rfl e1 k1 q1 e2 k2 q2).mono ?_;rintro _ rfl;simp! only[];exact⟨_,h1,rfl⟩
 ·obtain⟨a1,e1,k1,q1⟩:=zds n1 n7 t1 t7 hr b1 (Out.noneS r he ny hy hf h1' h2') rfl;obtain⟨a2,e2,k2,q2⟩:=zds n1 n7 t1 t7 hr b2 (Out.noneN he ny hy hf h1' h2') rfl;simp! only[];refine⟨fun z=>absurd z (by decide),fun _=>?_⟩;refine(zll (d:=zp9 t f Y) rfl e1 k1 q1 e2 k2 q2).mono ?_;rintro _ rfl;simp! only[];exact⟨_,h1,rfl⟩
end
theorem perm_sum {l l':List Nat}(p:l.Perm l')(g:Nat->Int):(l.map g).sum=(l'.map g).sum:=by
 induction p with
 |nil=>rfl
 |cons x _ ih=>simp[ih]
 |swap x y l=>simp;lia
 |trans _ _ a b=>rw[a,b]
theorem sum_getD (L:List Nat)(f:Nat->Int):sumR L.length (fun i=>f (L.getD i 0))=(L.map f).sum:=by
 rw[<-zdM];congr 1;apply qcO;intro i
 by_cases h:i<L.length
 ·simp[h]
 ·rw[qb0 (by simp;lia),qb0 (by simp;lia)]
theorem zl3 (h:i<L.length):L.getD i 0∈L:=by
 rw[qcl,qbG h];exact qcF h
theorem getD_inj (nd:L.Nodup)(hi:i<L.length)(hj:j<L.length):L.getD i 0=L.getD j 0↔i=j:=by
 rw[qcl,qbG hi,qcl,qbG hj];exact qau nd
structure Prm (m:Nat) (o:Nat->Nat):Prop where
 lt:∀i,i<m->o i<m
 inj:∀i j,i<m->j<m->o i=o j->i=j
 sur:∀q,q<m->∃i,i<m/\o i=q
 sum:∀g:Nat->Int,sumR m (fun i=>g (o i))=sumR m g
theorem zmo (h:Pot ds){m:Nat}(m9:m<=100):Ok (zbl ds [.int (m:Nat)]) fun x=>∃(o:Nat->Nat) (ds':List D),Pot ds'/\Prm m o/\x=(.own (wL m fun i=> .int (o i:Nat)),ds'):=by
 refine(order_ok h m9).mono ?_;rintro _ ⟨l,d2,h2,pm,rfl⟩;have ll:l.length=m:=by have:=pm.length_eq;simpa using this
 have nd:l.Nodup:=pm.nodup_iff.mpr List.nodup_range;refine⟨fun i=>l.getD i 0,d2,h2,⟨fun i hi=>?_,fun i j hi hj e=>?_,fun q hq=>?_,fun g=>?_⟩,by rw[map_nI,ll]⟩
 ·exact qai.mp (pm.mem_iff.mp (zl3 (by lia)))
 ·exact(getD_inj nd (by lia) (by lia)).mp e
 ·obtain⟨i,hi,e⟩:=qc1 (pm.mem_iff.mpr (qai.mpr hq));exact⟨i,by lia,by simp[List.getD,hi,e]⟩
 ·have:=sum_getD l g;rw[ll]at this;rw[this,perm_sum pm,zdM]
section
variable {n t:Nat} {c:Nat->Nat} {z:Nat->Nat->Nat} {S:Nat->Int} {o m:Nat->Nat}
def rn (c:Nat->Nat)(z:Nat->Nat->Nat)(m:Nat->Nat)(i:Nat):List Nat:=zlD (fun(x:Nat)=>(x:Int)) ((List.range (c i)).map fun j=>m (z i j))
theorem ziH (i:Nat):(rn c z m i).Perm ((List.range (c i)).map fun j=>m (z i j)):=znc _ _
theorem zpv (i:Nat):(rn c z m i).length=c i:=by have:=(ziH (c:=c) (z:=z) (m:=m) i).length_eq;simpa using this
theorem rn_nd (hr:Rise n (c o0) (z o0))(hm:Prm n m):(rn c z m o0).Nodup:=by
 rw[(ziH o0).nodup_iff,List.nodup_iff_pairwise_ne,List.pairwise_map];refine List.Pairwise.imp_of_mem ?_ List.pairwise_lt_range;intro i j hi hj hij e;have hj:=qai.mp hj;have a:=Rise.inj hr hij hj;have:=hm.inj _ _ (hr.lt i (by lia)) (hr.lt j hj) e;lia
theorem rn_rise (hr:Rise n (c i) (z i))(hm:Prm n m):Rise n (c i) fun j=>(rn c z m i).getD j 0:=by
 have ll:=zpv (c:=c) (z:=z) (m:=m) i;refine⟨hr.c1,hr.cn,fun j hj=>?_,fun j hj=>?_⟩
 ·have up:=srtBy_up (fun(x:Nat)=>(x:Int)) ((List.range (c i)).map fun j=>m (z i j));have up:=(qcT.mp up) j (j+1) (by show j<(rn c z m i).length;lia) (by show j+1<(rn c z m i).length;lia) (by lia);have ne:=(qcT.mp (List.nodup_iff_pairwise_ne.mp (rn_nd hr hm))) j (j+1) (by lia) (by lia) (by lia);have e1:(rn c z m i).getD j 0=(rn c z m i)[j]'(by lia):=by simp[List.getD,ll,show j<c i by lia]
  have e2:(rn c z m i).getD (j+1) 0=(rn c z m i)[j+1]'(by lia):=by simp[List.getD,ll,hj]
  rw[e1,e2];have up:(((rn c z m i)[j]'(by lia):Nat):Int)<=((rn c z m i)[j+1]'(by lia):Nat):=up;lia
 ·have:=(ziH (c:=c) (z:=z) (m:=m) i).mem_iff.mp (zl3 (show j<(rn c z m i).length by lia));obtain⟨k,hk,e⟩:=qbW.mp this;rw[<-e];exact hm.lt _ (hr.lt k (qai.mp hk))
theorem rn_inc {i p:Nat}(hr:Rise n (c i) (z i))(hm:Prm n m)(hp:p<n):hasP (c i) (fun j=>(rn c z m i).getD j 0) (m p)=hasP (c i) (z i) p:=by
 have ll:=zpv (c:=c) (z:=z) (m:=m) i;unfold hasP;rw[qc0,qcD,qcD]
 constructor
 ·rintro⟨j,hj,e⟩;have hj:=qai.mp hj;have:=(ziH (c:=c) (z:=z) (m:=m) i).mem_iff.mp (zl3 (show j<(rn c z m i).length by lia));obtain⟨k,hk,e2⟩:=qbW.mp this;have e:(rn c z m i).getD j 0=m p:=by simpa using e
  have:=hm.inj _ _ (hr.lt k (qai.mp hk)) hp (e2.trans e);exact⟨k,hk,by simp[this]⟩
 ·rintro⟨k,hk,e⟩;have e:z i k=p:=by simpa using e
  have mem:m p∈rn c z m i:=(ziH i).mem_iff.mpr (qbW.mpr ⟨k,hk,by rw[e]⟩);obtain⟨j,hj,e2⟩:=qc1 mem;exact⟨j,qai.mpr (by lia),by simp[List.getD,hj,e2]⟩
abbrev c2 (c o:Nat->Nat):Nat->Nat:=fun a=>c (o a)
abbrev z2 (c:Nat->Nat)(z:Nat->Nat->Nat)(o m:Nat->Nat):Nat->Nat->Nat:=fun a j=>(rn c z m (o a)).getD j 0
theorem inc2 (hr:∀i,i<t->Rise n (c i) (z i))(ho:Prm t o)(hm:Prm n m){a p:Nat}(ha:a<t)(hp:p<n):incA (c2 c o) (z2 c z o m) a (m p)=incA c z (o a) p:=by
 unfold incA c2 z2;rw[rn_inc (hr _ (ho.lt a ha)) hm hp]
theorem gsum2 (hr:∀i,i<t->Rise n (c i) (z i))(ho:Prm t o)(hm:Prm n m)(f:Nat->Int){p:Nat}(hp:p<n):gsum t (incA (c2 c o) (z2 c z o m)) (fun a=>f (o a)) (m p)=gsum t (incA c z) f p:=by
 unfold gsum;rw[<-ho.sum fun i=>f i*incA c z i p];exact zal fun a ha=>by rw[inc2 hr ho hm ha hp]
theorem Out.none2 (hr:∀i,i<t->Rise n (c i) (z i))(ho:Prm t o)(hm:Prm n m)(he:e<=20000000)(ny:Y≠0)(hy:Y.natAbs<=2^811)(hf:∀a,a<t->(f a).natAbs<=2^e)(h1:∀p,p<n->Y∣gsum t (incA c z) f p)(h2:¬Y∣wsum t S f):
  Out n t (incA (c2 c o) (z2 c z o m)) (fun a=>S (o a)) (zp9 t (fun a=>f (o a)) Y):=
 .inr ⟨_,Y,e,he,ny,hy,fun a ha=>hf _ (ho.lt a ha),fun q hq=>by
  obtain⟨p,hp,rfl⟩:=hm.sur q hq;rw[gsum2 hr ho hm f hp];exact h1 p hp,fun h=>h2 (by
  have e1:wsum t (fun a=>S (o a)) (fun a=>f (o a))=wsum t S f:=by
   unfold wsum;exact ho.sum fun i=>f i*S i
  rwa[e1]at h),rfl⟩
theorem Out.row2 (hr:∀i,i<t->Rise n (c i) (z i))(ho:Prm t o)(hm:Prm n m){R R':Nat->Int}(hR:∀a,a<t->(sumR n fun p=>incA c z a p*R p)=S a)(h':∀p,p<n->R' (m p)=R p):
  Out n t (incA (c2 c o) (z2 c z o m)) (fun a=>S (o a)) (.tup [.str "row",.tup (wI n R')]):=
 .inl ⟨R',rfl,fun a ha=>by
  show _=S (o a);rw[<-hm.sum fun q=>incA (c2 c o) (z2 c z o m) a q*R' q,<-hR (o a) (ho.lt a ha)];exact zal fun p hp=>by rw[inc2 hr ho hm ha hp,h' p hp]⟩
end
section
variable {n t:Nat} {c:Nat->Nat} {z:Nat->Nat->Nat} {S:Nat->Int}
theorem rn_D {m:Nat->Nat}(i:Nat):(rn c z m i).map nI=setL (c i) fun j=>(rn c z m i).getD j 0:=by
 rw[map_nI,zpv]
theorem znI (hp:Pot ds)(n1:1<=n)(n7:n<=7)(t1:1<=t)(t7:t<=7)(hr:∀i,i<t->Rise n (c i) (z i))(hs:∀i,i<t->BS (S i))(h:Out n t (incA c z) S d):Ok (zaK ds [teD n t c z S,d]) fun x=>∃ds',Pot ds'/\x=(.val (.bl true),ds'):=by
 have sl:(zaN t c z).length=t:=zap _ _
 generalize hT:teD n t c z S=T
 simp! only[↓zaK,↓zbp];rw[<-hT];simp! only[teD,sl];refine(zmo hp (show t<=100 by lia)).mono ?_;rintro _ ⟨o,d1,p1,ho,rfl⟩;simp! only[];refine(zmo p1 (show n<=100 by lia)).mono ?_;rintro _ ⟨m,d2,p2,hm,rfl⟩;simp! only[↓zbW,zap];refine⟨by lia,zaA (fun ρ=>∃a,ρ=[.val (.tup (zaN t c z)),.val (.lst (wL n fun i=> .int (m i:Nat))),a]) (fun a=> .tup (setL (c2 c o a) (z2 c z o m a))) ⟨_,rfl⟩ ?_ ?_⟩
 ·rintro a _ ha ⟨y,rfl⟩;have oa:=ho.lt a ha;have R:=hr _ oa;have cn:=R.cn;have g:(zaN t c z)[o a]? =some (.tup (setL (c (o a)) (z (o a)))):=zas _ oa;simp! only[↓zbG,↓zbO,g,setL,zap];refine⟨by lia,zaA (fun ρ=>∃b,ρ=[.val (.lst (wL n fun i=> .int (m i:Nat))),b]) (fun j=> .int (m (z (o a) j):Nat)) ⟨_,rfl⟩ ?_ ?_⟩
  ·rintro j _ hj ⟨b,rfl⟩;simp! only[↓zbL,zas _ (R.lt j hj)];exact⟨_,rfl⟩
  rintro _ ⟨b,rfl⟩;have e1:(wL (c (o a)) fun j=>D.int (m (z (o a) j):Nat))=((List.range (c (o a))).map fun j=>m (z (o a) j)).map nI:=by
   unfold wL;rw[qb4];rfl
  have e2:dSrt [.lst (((List.range (c (o a))).map fun j=>m (z (o a) j)).map nI)]=some ((rn c z m (o a)).map nI):=srt_nI _ (by simp;lia);simp! only[e1,e2,rn_D];exact⟨_,rfl⟩
 rintro _ ⟨y,rfl⟩;simp! only[↓zbP,zap];refine⟨by lia,zaA (fun ρ=>∃a,ρ=[.val (.tup (wI t S)),a]) (fun a=> .int (S (o a))) ⟨_,rfl⟩ ?_ ?_⟩
 ·rintro a _ ha ⟨y,rfl⟩;simp! only[↓zb0,zas _ (ho.lt a ha)];exact⟨_,rfl⟩
 rintro _ ⟨y,rfl⟩;have te:(D.tup [.int (n:Nat),.tup (wL t fun a=> .tup (setL (c2 c o a) (z2 c z o m a))),.tup (wI t fun a=>S (o a))])=teD n t (c2 c o) (z2 c z o m) fun a=>S (o a):=rfl
 have hr2:∀i,i<t->Rise n (c2 c o i) (z2 c z o m i):=fun i hi=>rn_rise (hr _ (ho.lt i hi)) hm
 have hs2:∀i,i<t->(S (o i)).natAbs<=2^236:=fun i hi=>qal (zlY (hs _ (ho.lt i hi))) (zbE (by lia))
 simp! only[te];rcases h with⟨R,rfl,hR⟩|⟨f,Y,e,he,ny,hy,hf,h1',h2',rfl⟩
 ·have mk:∃R':Nat->Int,∀p,p<n->R' (m p)=R p:=⟨fun q=>if h:∃p,p<n/\m p=q then R (Classical.choose h)else 0,fun p hp=>by
   have h:∃p',p'<n/\m p'=m p:=⟨p,hp,rfl⟩;dsimp only;rw[dif_pos h];have:=Classical.choose_spec h;rw[hm.inj _ _ this.1 hp this.2]⟩
  obtain⟨R0,hR0⟩:=mk;obtain⟨a1,e1,k1,q1⟩:=zds n1 n7 t1 t7 hr2 hs2 (Out.row2 hr ho hm hR hR0) rfl;simp! only[e1,k1,zog,↓zbg,↓zbK,e_rn];refine⟨fun z=>absurd z (by decide),fun _=>⟨⟨zaD (by lia) (by lia),by lia⟩,?_⟩⟩;rw[rep0];simp! only[↓zbN,zpI]
  generalize D.tup [.int (n:Nat),.tup (zaN t c z),.tup (wI t S)]=T0
  refine zew (fun i ρ=>∃R' s11 s12,(∀p,p<i->R' (m p)=R p)/\ρ=[.par d2,.val T0,.val (.tup [.str "row",.tup (wI n R)]),.val (.int (n:Nat)),.val (.tup (zaN t c z)),.val (.tup (wI t S)),.val (.lst (wL t fun i=> .int (o i:Nat))),.val (.lst (wL n fun i=> .int (m i:Nat))),.val (.lst (wL t fun a=> .tup (setL (c2 c o a) (z2 c z o m a)))),.val (teD n t (c2 c o) (z2 c z o m) fun a=>S (o a)),.own (wI n R'),s11,s12]) ⟨_,_,_,fun p hp=>by lia,rfl⟩ ?_ ?_
  ·rintro p _ hp ⟨R',s11,s12,hR',rfl⟩;have mp:=hm.lt p hp;simp! only[↓zbQ,zas _ hp,zap,mp];rw[wI_set _ _ mp];refine⟨_,_,_,fun q hq=>?_,rfl⟩
   by_cases e:q=p
   ·subst e;rw[if_pos rfl]
   ·rw[if_neg fun h=>e (hm.inj _ _ (by lia) hp h)];exact hR' q (by lia)
  ·rintro _ ⟨R',s11,s12,hR',rfl⟩;obtain⟨a2,_,_,q2⟩:=zds n1 n7 t1 t7 hr2 hs2 (Out.row2 hr ho hm hR hR') rfl;simp! only[q2];exact⟨_,p2,rfl⟩
 ·obtain⟨a1,e1,k1,q1⟩:=zds n1 n7 t1 t7 hr2 hs2 (Out.none2 hr ho hm he ny hy hf h1' h2') rfl;simp! only[e1,k1,zog,↓zbg,↓zbS,zap];refine⟨by lia,zaA (fun ρ=>∃a,ρ=[.val (zp9 t f Y),a]) (fun a=> .tup [.int (rp (f (o a)) Y),.int (rq (f (o a)) Y)]) ⟨_,rfl⟩ ?_ ?_⟩
  ·rintro a _ ha ⟨y,rfl⟩;simp! only[↓zbI,zas _ (ho.lt a ha)];exact⟨_,rfl⟩
  rintro _ ⟨y,rfl⟩;simp! only[q1];exact⟨_,p2,rfl⟩
end
section
variable {n t:Nat} {c:Nat->Nat} {z:Nat->Nat->Nat} {S:Nat->Int}
abbrev ux (t x:Nat)(i:Nat):Nat:=if i<t then i else x
abbrev lx (x:Nat)(i:Nat):Nat:=if i<x then i else i+1
theorem more_w {t x:Nat}(f:Nat->D)(hx:x<t):wL t f++cutD (wL t f) (some (x:Int)) (some ((x:Int)+1))=wL (t+1) fun i=>f (ux t x i):=by
 have e:cutD (wL t f) (some (x:Int)) (some ((x:Int)+1))=[f x]:=by
  have:=cut_w (n:=t) (a:=x) (b:=1) f (by lia);rw[show((1:Nat):Int)=1 from rfl]at this;rw[this];rfl
 rw[e,zl0];exact zcL fun i _=>by
  by_cases h:i<t
  ·rw[if_pos h];unfold ux;rw[if_pos h]
  ·rw[if_neg h];unfold ux;rw[if_neg h]
theorem less_w {t x:Nat}(f:Nat->D)(hx:x<t):cutD (wL t f) none (some (x:Int))++cutD (wL t f) (some ((x:Int)+1)) none=wL (t-1) fun i=>f (lx x i):=by
 rw[zj6,show(x:Int)+1=((x+1:Nat):Int) by lia,zjG];apply qcO;intro j
 by_cases hj:j<t-1
 ·rw[zas (fun i=>f (lx x i)) hj]
  by_cases h1:j<x
  ·rw[qa4 (by simp[zap];lia),List.getElem?_take,if_pos h1,zas _ (by lia)];unfold lx;rw[if_pos h1]
  ·rw[qa2 (by simp[zap];lia),qcQ];have:x+1+(j-((wL t f).take x).length)=j+1:=by simp[zap];lia
   rw[this,zas _ (by lia)];unfold lx;rw[if_neg h1]
 ·rw[qb0 (by simp[zap];lia),qb0 (by simp[zap];lia)]
theorem Out.more {x:Nat}(hx:x<t)(h:Out n t A S d)(hk:dIx d (.int 0)=some (.str k)):∃d',Out n (t+1) (fun i=>A (ux t x i)) (fun i=>S (ux t x i)) d'/\dIx d' (.int 0)=some (.str k):=by
 have up:∀i,i<t+1->ux t x i<t:=fun i hi=>by unfold ux;split<;>lia
 rcases h with⟨R,rfl,hR⟩|⟨f,Y,e,he,ny,hy,hf,h1,h2,rfl⟩
 ·exact⟨_,.inl ⟨R,rfl,fun a ha=>hR _ (up a ha)⟩,hk⟩
 ·have eq:∀g:Nat->Int,sumR (t+1) (fun a=>(if a<t then f a else 0)*g (ux t x a))=sumR t fun a=>f a*g a:=fun g=>by
   show sumR t _+(if t<t then f t else 0)*g (ux t x t)=_;rw[if_neg (by lia),qdj,Int.add_zero];exact zal fun a ha=>by unfold ux;rw[if_pos ha,if_pos ha]
  refine⟨_,.inr ⟨fun a=>if a<t then f a else 0,Y,e,he,ny,hy,fun a _=>?_,fun p hp=>?_,?_,rfl⟩,hk⟩
  ·dsimp only
   split
   ·rename_i h;exact hf a h
   ·exact qaV _
  ·have:=eq fun a=>A a p
   unfold gsum at h1 ⊢;rw[this];exact h1 p hp
  ·have:=eq S;unfold wsum at h2 ⊢;rwa[this]
theorem zgm (n1:1<=n)(n7:n<=7)(t1:1<=t)(t7:t<=7)(hr:∀i,i<t->Rise n (c i) (z i))(hs:∀i,i<t->(S i).natAbs<=2^236)(h:Out n t (incA c z) S d)(hk:dIx d (.int 0)=some (.str k)):∃d',zaV [teD n t c z S]=some (.val d')/\dIx d' (.int 0)=some (.str k):=by
 obtain⟨d',e,k',_⟩:=zds n1 n7 t1 t7 hr hs h hk;exact⟨d',e,k'⟩
theorem zk0 {d2:List D}{T0:D}(n1:1<=n)(n7:n<=7)(t1:1<=t)(t7:t<=7)(hr:∀i,i<t->Rise n (c i) (z i))(hs:∀i,i<t->BS (S i)){R:Nat->Int}(hR:∀a,a<t->(sumR n fun p=>incA c z a p*R p)=S a){x:Nat}(hu:u<5)(s2 s8 s9:Sl):
  Ok (zbr [.par d2,.val T0,s2,.val (.int (n:Nat)),.val (.tup (zaN t c z)),.val (.tup (wI t S)),.val (.int (x:Nat)),.val (.int (2+(u:Nat))),s8,s9]) fun p=>∃ρ,p=(.ret (.val (.bl true)),.par d2::ρ):=by
 simp! only[↓zbr,↓zcK,↓zcI,zap];refine⟨by lia,zaA (fun ρ=>∃y,ρ=[y]) (fun i=> .int (abs1 (S i))) ⟨_,rfl⟩ ?_ ?_⟩
 ·rintro i _ hi ⟨y,rfl⟩;simp! only[↓zcJ];exact⟨_,rfl⟩
 rintro _ ⟨y,rfl⟩;obtain⟨v,hv,_,_⟩:=max_w (fun i=>abs1 (S i)) (c:=t) (by lia);have hv:zpM (fun i j=>decide (i>j)) [.lst (wI t fun i=>abs1 (S i))]=some (.int v):=hv;simp! only[hv];refine⟨fun _=>⟨_,rfl⟩,fun _=>?_⟩;simp! only[↓zcH];refine⟨by lia,zaA (fun ρ=>∃y,ρ=[.val (.int (2+(u:Nat))),y]) (fun i=> .int ((2+(u:Int))*S i)) ⟨_,rfl⟩ ?_ ?_⟩
 ·rintro i _ hi ⟨y,rfl⟩;have mk:zj4 (2+(u:Int)) (S i)=true:=by
   unfold zj4;rw[qak (show(2+(u:Int)).natAbs<2^64 by lia)];rfl
  simp! only[↓zcG,mk];exact⟨_,rfl⟩
 rintro _ ⟨y,rfl⟩;have bd:∀i,i<t->((2+(u:Int))*S i).natAbs<=2^236:=fun i hi=>by
  have h1:=zaE (a:=2+(u:Int)) (b:=S i) (A:=2^3) (B:=2^230) (by lia) (zlY (hs i hi));have h2:(2:Nat)^3*2^230<=2^236:=by decide+kernel
  exact qal h1 h2
 obtain⟨a,ea,ka⟩:=zgm (n:=n) (t:=t) (c:=c) (z:=z) (S:=fun i=>(2+(u:Int))*S i) (k:="row") n1 n7 t1 t7 hr bd (.inl ⟨fun p=>(2+(u:Int))*R p,rfl,fun a ha=>by
  show _=(2+(u:Int))*S a;rw[<-hR a ha,<-zaZ];exact zal fun p _=>by grind⟩) rfl
 have te:(D.tup [.int (n:Nat),.tup (zaN t c z),.tup (wI t fun i=>(2+(u:Int))*S i)])=teD n t c z fun i=>(2+(u:Int))*S i:=rfl
 simp! only[te,ea,ka];exact⟨_,rfl⟩
theorem zoz {d2:List D}{T0 d:D}{kd:Str}(hk:dIx d (.int 0)=some (.str kd))(n1:1<=n)(n7:n<=7)(t1:1<=t)(t7:t<=7)(hr:∀i,i<t->Rise n (c i) (z i))(hs:∀i,i<t->BS (S i))(h:Out n t (incA c z) S d){x:Nat}(hx:x<t)(hu:u<5)(s8:Sl):
  Ok (zaL [.par d2,.val T0,.val d,.val (.int (n:Nat)),.val (.tup (zaN t c z)),.val (.tup (wI t S)),.val (.int (x:Nat)),.val (.int (2+(u:Nat))),s8,.emp]) fun p=>∃ρ,p=(.ret (.val (.bl true)),.par d2::ρ):=by
 have sl:(zaN t c z).length=t:=zap _ _;rcases h with⟨R,rfl,hR⟩|⟨f,Y,e,he,ny,hy,hf,h1,h2,rfl⟩
 ·simp! only[↓zaL,e_rn,↓zcF,sl];refine⟨fun z=>absurd z (by decide),fun _=>?_⟩;have w1:cutD (zaN t c z) none (some (x:Int))++cutD (zaN t c z) (some ((x:Int)+1)) none=zaN (t-1) (fun i=>c (lx x i)) fun i=>z (lx x i):=less_w _ hx
  have w2:cutD (wI t S) none (some (x:Int))++cutD (wI t S) (some ((x:Int)+1)) none=wI (t-1) fun i=>S (lx x i):=less_w _ hx
  have l1:(cutD (zaN t c z) none (some (x:Int))).length+(cutD (zaN t c z) (some ((x:Int)+1)) none).length=t-1:=by
   have:=congrArg List.length w1;have e3:(zaN (t-1) (fun i=>c (lx x i)) fun i=>z (lx x i)).length=t-1:=zap _ _;rw[qa8,e3]at this;exact this
  have l2:(cutD (wI t S) none (some (x:Int))).length+(cutD (wI t S) (some ((x:Int)+1)) none).length=t-1:=by
   have:=congrArg List.length w2;rw[qa8,zap]at this;exact this
  rw[l1,l2,w1,w2];have te:(D.tup [.int (n:Nat),.tup (zaN (t-1) (fun i=>c (lx x i)) fun i=>z (lx x i)),.tup (wI (t-1) fun i=>S (lx x i))])=teD n (t-1) (fun i=>c (lx x i)) (fun i=>z (lx x i)) fun i=>S (lx x i):=rfl
  refine⟨by lia,by lia,fun t2=>?_,fun _=>?_⟩
  ·have up:∀i,i<t-1->lx x i<t:=fun i hi=>by unfold lx;split<;>lia
   obtain⟨a,ea,ka⟩:=zgm (n:=n) (t:=t-1) (c:=fun i=>c (lx x i)) (z:=fun i=>z (lx x i)) (S:=fun i=>S (lx x i)) (k:="row") n1 n7 (by lia) (by lia) (fun i hi=>hr _ (up i hi)) (fun i hi=>qal (zlY (hs _ (up i hi))) (zbE (by lia))) (.inl ⟨R,rfl,fun a ha=>hR _ (up a ha)⟩) rfl;rw[te];simp! only[ea,ka,zog];exact zk0 n1 n7 t1 t7 hr hs hR (by lia) _ _ _
  ·exact zk0 n1 n7 t1 t7 hr hs hR (by lia) _ _ _
 ·simp! only[↓zaL];exact⟨_,rfl⟩
theorem more_ok (hp:Pot ds)(n1:1<=n)(n7:n<=7)(t1:1<=t)(t7:t<=7)(hr:∀i,i<t->Rise n (c i) (z i))(hs:∀i,i<t->BS (S i))(h:Out n t (incA c z) S d):Ok (zbc ds [teD n t c z S,d]) fun x=>∃ds',Pot ds'/\x=(.val (.bl true),ds'):=by
 have sl:(zaN t c z).length=t:=zap _ _;obtain⟨kd,hk⟩:=h.kind
 generalize hT:teD n t c z S=T
 simp! only[↓zbc,↓zb8];rw[<-hT];simp! only[teD,sl]
 generalize hT0:D.tup [.int (n:Nat),.tup (zaN t c z),.tup (wI t S)]=T0
 refine(zbf hp (m:=(t:Int)) (by lia) (by lia)).mono ?_;rintro _ ⟨x,d1,hx,h1,rfl⟩;have hx:x<t:=by lia
 simp! only[];refine(zbf h1 (m:=5) (by lia) (by lia)).mono ?_;rintro _ ⟨u,d2,hu,h2,rfl⟩;simp! only[sl];have fin:∀s8,Ok (zaL [.par d2,.val T0,.val d,.val (.int (n:Nat)),.val (.tup (zaN t c z)),.val (.tup (wI t S)),.val (.int (x:Nat)),.val (.int (2+(u:Nat))),s8,.emp]) fun p=>∃ρ,p=(.ret (.val (.bl true)),.par d2::ρ):=fun s8=>zoz hk n1 n7 t1 t7 hr hs h hx (by lia) s8
 refine⟨fun t6=>?_,fun _=>?_⟩
 ·have w1:zaN t c z++cutD (zaN t c z) (some (x:Int)) (some ((x:Int)+1))=zaN (t+1) (fun i=>c (ux t x i)) fun i=>z (ux t x i):=more_w _ hx
  have w2:wI t S++cutD (wI t S) (some (x:Int)) (some ((x:Int)+1))=wI (t+1) fun i=>S (ux t x i):=more_w _ hx
  have l1:(cutD (zaN t c z) (some (x:Int)) (some ((x:Int)+1))).length=1:=by
   have:=congrArg List.length w1;have e3:(zaN (t+1) (fun i=>c (ux t x i)) fun i=>z (ux t x i)).length=t+1:=zap _ _;rw[qa8,sl,e3]at this;lia
  have l2:(cutD (wI t S) (some (x:Int)) (some ((x:Int)+1))).length=1:=by
   have:=congrArg List.length w2;rw[qa8,zap,zap]at this;lia
  have up:∀i,i<t+1->ux t x i<t:=fun i hi=>by unfold ux;split<;>lia
  obtain⟨d',h',k'⟩:=h.more hx hk;obtain⟨a,ea,ka⟩:=zgm (c:=fun i=>c (ux t x i)) (z:=fun i=>z (ux t x i)) n1 n7 (show 1<=t+1 by lia) (by lia) (fun i hi=>hr _ (up i hi)) (fun i hi=>qal (zlY (hs _ (up i hi))) (zbE (by lia))) h' k';rw[w1,w2];have te:(D.tup [.int (n:Nat),.tup (zaN (t+1) (fun i=>c (ux t x i)) fun i=>z (ux t x i)),.tup (wI (t+1) fun i=>S (ux t x i))])=teD n (t+1) (fun i=>c (ux t x i)) (fun i=>z (ux t x i)) fun i=>S (ux t x i):=rfl
  refine⟨by lia,by lia,?_⟩;rw[te];simp! only[ea,ka,hk,zog];refine(fin _).mono ?_;rintro _ ⟨ρ,rfl⟩;simp! only[];exact⟨_,h2,rfl⟩
 ·refine(fin _).mono ?_;rintro _ ⟨ρ,rfl⟩;simp! only[];exact⟨_,h2,rfl⟩
theorem math (ns:List Int)(hl:ns.length<=63):zk4 [.scr ns]=some (.val (.bl true)):=by
 have:Ok (zk4 [.scr ns]) fun r=>r= .val (.bl true):=by
  have hm:∃m:Nat,m<=8/\max2 1 (min2 (ns.length:Int) 8)=(m:Int):=by
   unfold max2 min2;exact⟨(if(if(8:Int)<(ns.length:Int)then 8 else(ns.length:Int))>1 then(if(8:Int)<(ns.length:Int)then 8 else(ns.length:Int))else 1).toNat,by split<;>split<;>lia,by split<;>split<;>lia⟩
  obtain⟨m,hm8,em⟩:=hm;simp! only[↓zk4,↓m_law,em,↓zmq];refine⟨zaD (by lia) (by lia),zew (fun i ρ=>∃s1 s2 s3 s4,ρ=[.val (.scr ns),s1,s2,s3,s4]) ⟨_,_,_,_,rfl⟩ ?_ ?_⟩
  ·rintro i _ hi ⟨s1,s2,s3,s4,rfl⟩;simp! only[↓zmY];refine(pot_ok ns i (by lia)).mono ?_;rintro _ ⟨ds,p0,rfl⟩;simp! only[];refine(zjd p0).mono ?_;rintro _ ⟨n,t,c,z,S,d1,p1,n1,n7,t1,t7,hr,hs,rfl⟩;simp! only[];refine(zkJ n1 n7 t1 t7 hr fun i hi=>qal (zlY (hs i hi)) (zbE (by lia))).mono ?_;rintro _ ⟨d,hd,rfl⟩;simp! only[];refine(moved_ok p1 n1 n7 t1 t7 hr hs hd).mono ?_;rintro _ ⟨d2,p2,rfl⟩;simp! only[];refine(znI p2 n1 n7 t1 t7 hr hs hd).mono ?_;rintro _ ⟨d3,p3,rfl⟩;simp! only[↓zmR];refine(more_ok p3 n1 n7 t1 t7 hr hs hd).mono ?_;rintro _ ⟨d4,p4,rfl⟩;simp! only[];exact⟨_,_,_,_,rfl⟩
  ·rintro _ ⟨s1,s2,s3,s4,rfl⟩;simp! only[]
 obtain⟨_,e,rfl⟩:=this;exact e
end
end Prf
def PySem.W.Fast.tw11420772041108331251:Nat:=0
def PySem.W.Fast.tw9278537934158463660:Nat:=0
def PySem.W.Fast.tw10743519304764639144:Nat:=0
def PySem.W.Fast.tw13235114161834226544:Nat:=0
def PySem.W.Fast.tw92298899850022302:Nat:=0
def PySem.W.Fast.tw5305729481649946920:Nat:=0
def PySem.W.Fast.tw9517455437305135615:Nat:=0
def PySem.W.Fast.tw6027533373919408522:Nat:=0
def PySem.W.Fast.tw2446558709345487908:Nat:=0
def PySem.W.Fast.tw7156232934962690280:Nat:=0
def PySem.W.Fast.tw7392580171424024564:Nat:=0
def PySem.W.Fast.tw2590266479564713525:Nat:=0
def PySem.W.Fast.tw17535897711440497667:Nat:=0
def PySem.W.Fast.tw7977452498785707194:Nat:=0
def PySem.W.Fast.tw10581892138759414733:Nat:=0
def PySem.W.Fast.tw9648061839962238506:Nat:=0
def PySem.W.Fast.tw18074479731749426115:Nat:=0
def PySem.W.Fast.tw9649381944323918875:Nat:=0
def PySem.W.Fast.tw5814358102240596720:Nat:=0
def PySem.W.Fast.tw11790754346190340559:Nat:=0
def PySem.W.Fast.tw4363160049761731707:Nat:=0
def PySem.W.Fast.tw13740582213699511263:Nat:=0
def PySem.W.Fast.tw3661333875130574249:Nat:=0
def PySem.W.Fast.tw395063977468506196:Nat:=0
def PySem.W.Fast.tw12961997086921630462:Nat:=0
def PySem.W.Fast.tw1573963668148524324:Nat:=0
def PySem.W.Fast.tw2897297854038591184:Nat:=0
def PySem.W.Fast.tw9032112152901272080:Nat:=0
def PySem.W.Fast.tw544192732046932541:Nat:=0
def PySem.W.Fast.tw3037888907378334525:Nat:=0
def PySem.W.Fast.tw7238951512147463423:Nat:=0
def PySem.W.Fast.tw6422800206207144377:Nat:=0
def PySem.W.Fast.tw12089476658628961130:Nat:=0
def PySem.W.Fast.tw16389749445328432944:Nat:=0
def PySem.W.Fast.tw1316158258741932794:Nat:=0
def PySem.W.Fast.tw6129904587396901314:Nat:=0
def PySem.W.Fast.tw9853215079420464141:Nat:=0
def PySem.W.Fast.tw14204262441782093832:Nat:=0
def PySem.W.Fast.tw17623819951853246986:Nat:=0
def PySem.W.Fast.tw6811707901543777743:Nat:=0
def PySem.W.Fast.tw7919599584772915487:Nat:=0
def PySem.W.Fast.tw13458875614176369901:Nat:=0
def PySem.W.Fast.tw17596190066701602567:Nat:=0
def PySem.W.Fast.tw16522799484757285699:Nat:=0
def PySem.W.Fast.tw5800293218053106803:Nat:=0
def PySem.W.Fast.tw968003674608744207:Nat:=0
def PySem.W.Fast.tw14533612771527456269:Nat:=0
def PySem.W.Fast.tw17696472914532963987:Nat:=0
def PySem.W.Fast.tw10859888546953621381:Nat:=0
def PySem.W.Fast.tw13254774789963478227:Nat:=0
def PySem.W.Fast.tw16537581973580353549:Nat:=0
def PySem.W.Fast.tw543984838551929098:Nat:=0
def PySem.W.Fast.tw17612514484923050948:Nat:=0
def PySem.W.Fast.tw3871518336944043614:Nat:=0
def PySem.W.Fast.tw10313839684660457424:Nat:=0
def PySem.W.Fast.tw14645529720849227467:Nat:=0
def PySem.W.Fast.tw7535078656711369267:Nat:=0
def PySem.W.Fast.tw17031208038690701436:Nat:=0
def PySem.W.Fast.tw3008896736576822535:Nat:=0
def PySem.W.Fast.tw9814858208027289194:Nat:=0
def PySem.W.Fast.tw7790306205534555967:Nat:=0
def PySem.W.Fast.tw13188135853189568203:Nat:=0
def PySem.W.Fast.tw5432820498269949655:Nat:=0
def PySem.W.Fast.tw6475567133721247326:Nat:=0
def PySem.W.Fast.tw5721695828528051963:Nat:=0
def PySem.W.Fast.tw17985393406169987371:Nat:=0
def PySem.W.Fast.tw174998969121896723:Nat:=0
def PySem.W.Fast.tw12202559383687261524:Nat:=0
def PySem.W.Fast.tw18438485233781236843:Nat:=0
def PySem.W.Fast.tw13036782390022056347:Nat:=0
def PySem.W.Fast.tw2776691482212423839:Nat:=0
def PySem.W.Fast.tw10545337752178248970:Nat:=0
def PySem.W.Fast.tw12546908198913345775:Nat:=0
def PySem.W.Fast.tw9419145654042817427:Nat:=0
def PySem.W.Fast.tw14625254891412272159:Nat:=0
def PySem.W.Fast.tw833903379124828956:Nat:=0
def PySem.W.Fast.tw10805844186532949432:Nat:=0
def PySem.W.Fast.tw9167209297580816931:Nat:=0
def PySem.W.Fast.tw2595796361071197041:Nat:=0
def PySem.W.Fast.tw7610460402794087241:Nat:=0
def PySem.W.Fast.tw12944168608888816423:Nat:=0
def PySem.W.Fast.tw5953270162479701803:Nat:=0
def PySem.W.Fast.tw6205512509424251898:Nat:=0
def PySem.W.Fast.tw3475209295588552775:Nat:=0
def PySem.W.Fast.tw16606051714155802008:Nat:=0
def PySem.W.Fast.tw16584123091920190029:Nat:=0
def PySem.W.Fast.tw3791935015273919458:Nat:=0
def PySem.W.Fast.tw7123809975197259151:Nat:=0
def PySem.W.Fast.tw14970318114170152262:Nat:=0
def PySem.W.Fast.tw13817645741285136642:Nat:=0
def PySem.W.Fast.tw3212774634820325800:Nat:=0
def PySem.W.Fast.tw9228897416644194314:Nat:=0
def PySem.W.Fast.tw8884571051419074843:Nat:=0
def PySem.W.Fast.tw15989736348557031514:Nat:=0
def PySem.W.Fast.tw14688460032064839064:Nat:=0
def PySem.W.Fast.tw6116798481855713310:Nat:=0
def PySem.W.Fast.tw12412625007194286257:Nat:=0
def PySem.W.Fast.tw330891869605832141:Nat:=0
def PySem.W.Fast.tw14347747166038274011:Nat:=0
def PySem.W.Fast.tw5613167120779356125:Nat:=0
def PySem.W.Fast.tw8221862598250178716:Nat:=0
def PySem.W.Fast.tw1627852002015134053:Nat:=0
def PySem.W.Fast.tw17203075875464292216:Nat:=0
def PySem.W.Fast.tw1468390597826379284:Nat:=0
def PySem.W.Fast.tw3567252055708377274:Nat:=0
def PySem.W.Fast.tw12282915074199224523:Nat:=0
def PySem.W.Fast.tw14085156351582213044:Nat:=0
def PySem.W.Fast.tw3847016766406706373:Nat:=0
def PySem.W.Fast.tw15613615267131075758:Nat:=0
def PySem.W.Fast.tw14160321650024496489:Nat:=0
def PySem.W.Fast.tw6801829967606073555:Nat:=0
def PySem.W.Fast.tw12372475770058964211:Nat:=0
def PySem.W.Fast.tw13052904763180785211:Nat:=0
def PySem.W.Fast.tw7297652449654090158:Nat:=0
def PySem.W.Fast.tw12732765809972926238:Nat:=0
def PySem.W.Fast.tw16535395196012664086:Nat:=0
def PySem.W.Fast.tw14475052620956320536:Nat:=0
def PySem.W.Fast.tw15254112522183552470:Nat:=0
def PySem.W.Fast.tw9657433615973126981:Nat:=0
def PySem.W.Fast.tw14236741712340795923:Nat:=0
def PySem.W.Fast.tw13262785731992527947:Nat:=0
def PySem.W.Fast.tw3036847239180264434:Nat:=0
def PySem.W.Fast.tw14059046503195710762:Nat:=0
def PySem.W.Fast.tw14229562068420898302:Nat:=0
def PySem.W.Fast.tw6440643159318977940:Nat:=0
def PySem.W.Fast.tw4750735261969434260:Nat:=0
def PySem.W.Fast.tw9212394012433775649:Nat:=0
def PySem.W.Fast.tw4179701735165355158:Nat:=0
def PySem.W.Fast.tw4507038929596393489:Nat:=0
def PySem.W.Fast.tw3427914211243098992:Nat:=0
def PySem.W.Fast.tw8071970703283782737:Nat:=0
def PySem.W.Fast.tw7669003624837160790:Nat:=0
def PySem.W.Fast.tw16847527239613743153:Nat:=0
def PySem.W.Fast.tw7048535569348292402:Nat:=0
def PySem.W.Fast.tw6257439541592103981:Nat:=0
def PySem.W.Fast.tw8120896737096973610:Nat:=0
def PySem.W.Fast.tw82983189243034668:Nat:=0
def PySem.W.Fast.tw14371125356096347392:Nat:=0
def PySem.W.Fast.tw13314205212495784849:Nat:=0
def PySem.W.Fast.tw16577011797768676668:Nat:=0
def PySem.W.Fast.tw6017917771052797674:Nat:=0
def PySem.W.Fast.tw2106217075937896260:Nat:=0
def PySem.W.Fast.tw5878513337930580130:Nat:=0
def PySem.W.Fast.tw526931737270227954:Nat:=0
def PySem.W.Fast.tw5128707518358633028:Nat:=0
def PySem.W.Fast.tw10069142698213541067:Nat:=0
def PySem.W.Fast.tw4919362443866069589:Nat:=0
def PySem.W.Fast.tw12700213533705443497:Nat:=0
def PySem.W.Fast.tw4470879574557147218:Nat:=0
def PySem.W.Fast.tw16325202759471067477:Nat:=0
def PySem.W.Fast.tw7333819649626368644:Nat:=0
def PySem.W.Fast.tw14557606731652393976:Nat:=0
def PySem.W.Fast.tw15398544374600641199:Nat:=0
def PySem.W.Fast.tw2741205899711001022:Nat:=0
def PySem.W.Fast.tw8587146988993335154:Nat:=0
open PyProof.Rows PySem PySem.W
set_option maxRecDepth 100000 in
set_option maxHeartbeats 0 in
theorem PySem.Challenge.cw_tellsum_k54_whole_sums_moved_by_rows_holds : PySem.Challenge.rw_tellsum_k54_whole_sums_moved_by_rows.Holds := by
  w_on; o_law; k_head; (case hw => w_witness2)
  k_fill
  refine Prf.walk (l := PySem.Challenge.rw_tellsum_k54_whole_sums_moved_by_rows) rfl rfl Prf.math (fun w h Y => W.kIn_of Y) ?F
  case F =>
    intro w mg fa h KX G hmg
    refine' Prf.all_mk KX G hmg ?h1 ?h2 ?h3 ?h4 ?h5 ?h6 ?h7 ?h8 ?h9 ?h18 ?h19 ?h20 ?h21 ?h22 ?h23 ?h24 ?h25 ?h26 ?h27 ?h28 ?h29 ?h30 ?h31 ?h32 ?h33 ?h34 ?h35 ?h36 ?h37 ?h38 ?h39 ?h40 ?h41 ?aC ?pg ?hd ?po ?sa ?mkC ?kc ?zlT ?zh6 ?zpp ?zmb ?zj3 ?aopen_columns ?iopen_columns ?lopen_columns ?copen_columns ?kopen_columns ?aopen_rows ?iopen_rows ?lopen_rows ?copen_rows ?kopen_rows ?aleast_corner ?ileast_corner ?lleast_corner ?cleast_corner ?kleast_corner ?atake_row ?itake_row ?ltake_row ?ctake_row ?ktake_row ?atake_column ?itake_column ?ltake_column ?ctake_column ?ktake_column ?aclear_cross ?iclear_cross ?lclear_cross ?cclear_cross ?kclear_cross ?ainit ?iinit ?linit ?cinit ?kinit ?aslant_number ?islant_number ?lslant_number ?cslant_number ?kslant_number ?z0 ?z1 ?z2 ?z3 ?z4 ?z5 ?z6 ?z7 ?z8 ?z9 ?z10 ?z11 ?z12
    (case h1 | h2 | h3 | h4 | h5 | h6 | h7 | h8 | h9 | h18 | h19 | h20 | h21 | h22 | h23 | h24 | h25 | h26 | h27 | h28 | h29 | h30 | h31 | h32 | h33 | h34 | h35 | h36 | h37 | h38 | h39 | h40 | h41 =>
      refine' M.FnAt.mk ?a ?l ?c ?k
      (case a => k_is)
      (case l => k_is)
      (case c => k_is)
      (case k => k_is))
    (case aC | pg | hd | po | sa | mkC | kc | zlT | zh6 | zpp | zmb | zj3 | aopen_columns | iopen_columns | lopen_columns | copen_columns | kopen_columns | aopen_rows | iopen_rows | lopen_rows | copen_rows | kopen_rows | aleast_corner | ileast_corner | lleast_corner | cleast_corner | kleast_corner | atake_row | itake_row | ltake_row | ctake_row | ktake_row | atake_column | itake_column | ltake_column | ctake_column | ktake_column | aclear_cross | iclear_cross | lclear_cross | cclear_cross | kclear_cross | ainit | iinit | linit | cinit | kinit | aslant_number | islant_number | lslant_number | cslant_number | kslant_number | z0 | z1 | z2 | z3 | z4 | z5 | z6 | z7 | z8 | z9 | z10 | z11 | z12 => k_is)
end
