import PyProof.Rows.All
import Wide.All
import OpenK.AllK
import Wide.FinOn
import Lean
import PyProof.EqAt
import PyProof.EqKinds
import PyProof.TupleCall
import PyProof.Rows.Range3
import PyProof.ZipIter
import PyProof.Draws
import PyProof.EnumMake
import PyProof.Rows.FactsTup
import PyProof.LayNew
import PyProof.Rows.SeqMore2
import PyProof.Rows.RuleIs
import KE.KRevIter
import PyProof.P3In
import KE.KSortTup
import PyProof.Rows.SortWalk
import PyProof.Rows.SetFrom
import KE.KIntText
import PyProof.StrOps2
import PySem.Challenge.RW_tellsum_k34_rings_judged
set_option Elab.async false
set_option linter.all false
set_option bootstrap.genMatcherCode false
set_option compiler.extract_closed false
set_option maxRecDepth 100000
theorem zu0(h:True:=by first|exact .inl rfl|exact .inr rfl|assumption):True:=trivial
theorem zu1(h:True:=by decide):True:=trivial
theorem zu2(h:True:=by first|exact sC _ (by decide) (by decide)|rfl):True:=trivial
theorem zu3(h:True:=by rfl):True:=trivial
theorem zu4(h:True:=by intro _;rfl):True:=trivial
theorem zu5(h:True:=by with_unfolding_all rfl):True:=trivial
theorem zu6(h:True:=by trivial):True:=trivial
theorem zu7(h:True:=by exact fun _ _=>rfl):True:=trivial
theorem zu8(h:True:=by decide+kernel):True:=trivial
theorem zu9(h:True:=by exact fun _=>rfl):True:=trivial
theorem zu10(h:True:=by kernel_rfl):True:=trivial
local macro_rules | `(tactic| trivial) => `(tactic| first|exact Or.inl rfl|exact Or.inr rfl|exact Or.inr (Or.inl rfl)|exact Or.inr (Or.inr rfl))
noncomputable section
noncomputable abbrev iQ:=@decide_eq_false
abbrev qab:=@beq_eq_false_iff_ne
noncomputable abbrev Vm:=@PySem.Paired.length
noncomputable abbrev cY:=@PySem.Heap.lt_size
noncomputable abbrev iH:=@Nat.lt_of_lt_of_le
noncomputable abbrev lV:=@Nat.lt_irrefl
noncomputable abbrev gC:=@Nat.ne_of_lt
abbrev qah:=@List.mem_range
noncomputable abbrev gY:=@Nat.le_trans
noncomputable abbrev iS:=@List.filterMap_cons
noncomputable abbrev mD:=@List.mem_cons_self
noncomputable abbrev jD:=@List.mem_cons_of_mem
abbrev qam:=@List.mem_cons
abbrev qan:=@List.mem_append
noncomputable abbrev Lv:=@List.mem_append_left
abbrev qap:=@List.getElem?_eq_some_iff
noncomputable abbrev tO:=@List.getElem?_set_ne
noncomputable abbrev kW:=@PySem.wpAny_mono
abbrev qas:=@PySem.Calls.Name_function_global
noncomputable abbrev qO:=@PySem.wpAny_truthy_bool
abbrev qau:=@Array.length_toList
noncomputable abbrev Ws:=@PySem.wpAny_execs_nil
noncomputable abbrev aL:=@PySem.wpAny_bind
noncomputable abbrev jL:=@PySem.wpAny_holding
noncomputable abbrev Ny:=@PySem.wpAny_standAt
abbrev qaz:=@PySem.wpAny_pure
noncomputable abbrev vY:=@PySem.wpAny_newObj_type
noncomputable abbrev bH:=@PySem.Heap.get?_push_of_some
noncomputable abbrev Bx:=@PySem.wpAny_rule
noncomputable abbrev Dl:=@PySem.wpAny_passesOwn
noncomputable abbrev iX:=@Bool.false_ne_true
noncomputable abbrev eR:=@PySem.Heap.get?_push_size
noncomputable abbrev bU:=@Nat.le_refl
noncomputable abbrev Cw:=@PyProof.Rows.callWith_type1
abbrev qaI:=@List.mem_filterMap
noncomputable abbrev jK:=@List.mem_append_right
noncomputable abbrev iL:=@PySem.sizeLine_eq
noncomputable abbrev cO:=@List.size_toArray
noncomputable abbrev rB:=@PySem.W.kia_one
noncomputable abbrev Bn:=@List.append_nil
noncomputable abbrev Xm:=@PySem.wpAny_Call_Name_kw
abbrev qaP:=@List.nodup_cons
abbrev qaQ:=@Option.isSome_iff_exists
noncomputable abbrev Cv:=@List.length_take
noncomputable abbrev Qe:=@PySem.mem_of_lookup
noncomputable abbrev qT:=@List.getElem?_append_right
noncomputable abbrev vK:=@List.getElem?_replicate
noncomputable abbrev jS:=@List.getElem?_append_left
noncomputable abbrev fJ:=@List.getElem?_map
abbrev qaX:=@List.getElem?_take_of_lt
noncomputable abbrev Lk:=@List.mem_of_getElem?
noncomputable abbrev iC:=@List.length_append
noncomputable abbrev eL:=@List.length_map
noncomputable abbrev Oa:=@List.length_replicate
noncomputable abbrev Zp:=@PySem.F.slot_tuple_add
abbrev qa3:=@PySem.F.entry_tuple_add
abbrev qa4:=@PySem.F.args_tuple_add_2
noncomputable abbrev Uc:=@Int.toNat_natCast
noncomputable abbrev iK:=@if_false
noncomputable abbrev gW:=@PySem.wpAny_field
noncomputable abbrev La:=@List.length_drop
noncomputable abbrev Iq:=@PySem.wpAny_callSpecial?_slot
noncomputable abbrev Vg:=@PyProof.Rows.slot_tuple_getitem
noncomputable abbrev Cf:=@PySem.wpAny_call_entry
noncomputable abbrev eO:=@Bool.and_eq_true
noncomputable abbrev jW:=@List.map_cons
noncomputable abbrev Sm:=@PySem.Heap.get?_update_self
noncomputable abbrev Dy:=@PySem.Heap.get?_update_other
noncomputable abbrev Ks:=@List.length_set
noncomputable abbrev Uk:=@List.all_cons
noncomputable abbrev Ku:=@List.any_cons
noncomputable abbrev zR:=@List.replicate_succ
noncomputable abbrev Bh:=@List.flatten_cons
noncomputable abbrev Tx:=@List.foldl_cons
noncomputable abbrev Mb:=@PySem.call_meets
noncomputable abbrev Pp:=@List.length_singleton
noncomputable abbrev Ma:=@Nat.add_comm
noncomputable abbrev Mv:=@Nat.mul_comm
noncomputable abbrev eG:=@decide_eq_true
noncomputable abbrev Kk:=@List.find?_cons
noncomputable abbrev eU:=@List.length_cons
noncomputable abbrev Wb:=@List.length_nil
abbrev qbu:=@PySem.tupleKind_room_in1
noncomputable abbrev lI:=@Nat.zero_le
noncomputable abbrev fK:=@Exists.imp
noncomputable abbrev tJ:=@List.getElem?_set
abbrev qby:=@Option.ne_none_iff_exists'
noncomputable abbrev kA:=@Option.bind_some
noncomputable abbrev Hg:=@Option.map_some
noncomputable abbrev kK:=@decide_eq_true_eq
noncomputable abbrev Xb:=@Bool.or_eq_true
noncomputable abbrev cG:=@List.getElem?_eq_getElem
noncomputable abbrev Ek:=@Nat.lt_of_le_of_lt
noncomputable abbrev Mt:=@bne_iff_ne
abbrev qbG:=@beq_iff_eq
noncomputable abbrev Uu:=@PySem.F.plainAttrs_list
abbrev qbI:=@List.drop_eq_getElem_cons
abbrev qbJ:=@PySem.wpAny_pyIter_tuple
noncomputable abbrev uQ:=@List.getElem?_cons_succ
noncomputable abbrev Uo:=@List.cons_append
noncomputable abbrev Gm:=@List.forIn_cons
noncomputable abbrev lU:=@List.lookup_cons
noncomputable abbrev gM:=@beq_self_eq_true
noncomputable abbrev Tr:=@Nat.lt_succ_self
noncomputable abbrev Ve:=@Nat.lt_succ_of_lt
noncomputable abbrev jY:=@PySem.Heap.size_push
noncomputable abbrev Fc:=@List.forIn_nil
noncomputable abbrev Ja:=@Bool.false_eq_true
abbrev qbU:=@List.all_eq_true
abbrev qbV:=@List.mem_map
noncomputable abbrev xO:=@List.take_of_length_le
noncomputable abbrev eE:=@List.getElem?_eq_none
noncomputable abbrev Wc:=@List.drop_zero
abbrev qbZ:=@List.length_pos_iff
abbrev qb0:=@Nat.add_left_cancel
noncomputable abbrev iI:=@PySem.wpAny_seqItems
noncomputable abbrev Zk:=@PySem.Obj.data_mapFields
abbrev qb3:=@PySem.Heap.SameBut.update
noncomputable abbrev Wz:=@PySem.wpAny_updateSeq
noncomputable abbrev jT:=@PySem.wpAny_setField_rec
noncomputable abbrev Uy:=@List.zipIdx_cons
noncomputable abbrev Vv:=@List.zipIdx_nil
noncomputable abbrev tV:=@PySem.wpAny_onRaise
noncomputable abbrev mQ:=@PySem.wpAny_letGo
noncomputable abbrev Zy:=@PySem.AutoSeq1.wpAny_loadPart'
noncomputable abbrev Wj:=@PySem.wpAny_attempt
noncomputable abbrev Bg:=@PySem.F.slot_zip_next
noncomputable abbrev Vr:=@PySem.F.entry_zip_next
noncomputable abbrev Vs:=@PySem.F.args_zip_next_1
noncomputable abbrev Lb:=@List.getElem?_zipWith
abbrev qcg:=@List.mem_singleton
noncomputable abbrev Ba:=@List.map_map
noncomputable abbrev Vn:=@List.map_congr_left
noncomputable abbrev Lg:=@List.map_append
noncomputable abbrev lD:=@Nat.zero_add
abbrev qcl:=@PySem.wpAny_updateSeq_pair
noncomputable abbrev Zw:=@PySem.Around.under_plainId
noncomputable abbrev Ex:=@PySem.F.plain_max_loop
noncomputable abbrev Ut:=@PySem.wpAny_tryCatch
noncomputable abbrev Wy:=@PySem.plainId_quiet
noncomputable abbrev Qa:=@List.getD_eq_getElem?_getD
abbrev qcr:=@exists_eq_left'
abbrev qcs:=@false_implies
noncomputable abbrev Lw:=@Function.comp_def
noncomputable abbrev lM:=@List.ext_getElem?
noncomputable abbrev Ts:=@Nat.min_eq_left
noncomputable abbrev Zg:=@Bool.and_self
noncomputable abbrev Jy:=@Nat.le_div_iff_mul_le
noncomputable abbrev Jc:=@Int.le_refl
abbrev qcz:=@List.getElem?_drop
noncomputable abbrev Sj:=@List.length_range
noncomputable abbrev Vk:=@Nat.add_mul_mod_self_right
noncomputable abbrev jO:=@Nat.mod_eq_of_lt
noncomputable abbrev To:=@Bool.true_and
noncomputable abbrev fL:=@PySem.PassesOwn.never
noncomputable abbrev lK:=@PySem.W.mg_none_of
noncomputable abbrev gJ:=@Nat.mod_lt
noncomputable abbrev Kb:=@Nat.one_mul
noncomputable abbrev Nt:=@Nat.add_zero
noncomputable abbrev Ri:=@Nat.div_le_self
noncomputable abbrev Sg:=@Nat.mul_one
abbrev qcL:=@Nat.pow_le_pow_right
abbrev qcM:=@Nat.mul_le_mul_left
noncomputable abbrev Le:=@Int.emod_nonneg
noncomputable abbrev Ya:=@Int.emod_lt_of_pos
namespace L2
open PyProof.Rows PySem PySem.Spec
variable {xs vs:List V} {us its:List Value} {x qual:Str} {u cd:Value} {H:Hp} {a b it dx:Addr} {o:HO} {w:World} {h base:Heap} {g':Array GenState} {t' i j n:Nat} {d':Drawn} {ch fp:List Addr} {e c tg:Expr} {pins' pins:List (Addr×Obj)} {N ps:List Str} {A:Around} {E:Value->Shared->Prop} {v:V} {Q:Unit->Shared->Prop} {X:Cx} {t te:TE} {s s':Shared} {ta:TA} {tb:TS} {σ:St} {pos pos':Pos} {op op':CmpOp} {K:W.Frag} {f:Value->Value->Sem Value} {tc:TT} {es:List Expr} {g:Int->Int->Int} {body:List Stmt} {p:Addr×Obj} {r:V->Hp->VK->Prop} {C:Int->Int->Prop} {mA mg:Str->Option Value} {fd:FuncData} {kindOf:Str->Option NameKind} {sc scope:Scope} {CX:tH} {outer:List Env} {params:Arguments}
noncomputable abbrev cK:=Sum Int Str
noncomputable def Lu:cK->Value->Bool
 | .inl k,v=>Value.isInt k v
 | .inr x,v=>Value.isStrOf x v
noncomputable def keyH (w:World):cK->Int
 | .inl k=>hashInt k
 | .inr x=>hashStr w x
theorem yK:∀{k:cK} {v:Value},Lu k v=true->(∃i t,k=Sum.inl i/\v=Value.int i t)\/(∃x t,k=Sum.inr x/\v=Value.str x t)
 | .inl i,v,h=>by
  obtain⟨t,e⟩:=Value.isInt_shape (k:=i) (v:=v) h;exact .inl ⟨i,t,rfl,e⟩
 | .inr x,v,h=>by
  obtain⟨t,e⟩:=Value.isStrOf_shape (x:=x) (v:=v) h;exact .inr ⟨x,t,rfl,e⟩
theorem zrh (i:Int)(t:Tok):Lu (.inl i) (.int i t)=true:=by simp[Lu,Value.isInt]
theorem zqi (x:Str)(t:Tok):Lu (.inr x) (.str x t)=true:=by simp[Lu,Value.isStrOf]
theorem Dj (a b:Int):decide ((Sum.inl a:cK)=Sum.inl b)=(a==b):=by
 by_cases e:a=b
 ·subst e;simp
 ·have h:¬(Sum.inl a:cK)=Sum.inl b:=fun q=>e (Sum.inl.inj q)
  rw[iQ h];exact(qab.mpr e).symm
theorem Hn (a b:Str):decide ((Sum.inr a:cK)=Sum.inr b)=decide (a=b):=by
 by_cases e:a=b
 ·subst e;simp
 ·have h:¬(Sum.inr a:cK)=Sum.inr b:=fun q=>e (Sum.inr.inj q)
  rw[iQ h,iQ e]
theorem Iu (a:Int)(b:Str):decide ((Sum.inl a:cK)=Sum.inr b)=false:=iQ (fun q=>nomatch q)
theorem Gx (a:Str)(b:Int):decide ((Sum.inr a:cK)=Sum.inl b)=false:=iQ (fun q=>nomatch q)
noncomputable def kH (prog:Program)(w:World):PySem.KeyKind prog w cK where
 is:=Lu
 hash:=keyH w
 inj:=fun v a b ha hb=>by
  rcases yK ha with⟨i,t,rfl,rfl⟩|⟨x,t,rfl,rfl⟩
  ·rcases yK hb with⟨j,u,rfl,e⟩|⟨y,u,rfl,e⟩
   ·injection e with e1 _;rw[e1]
   ·exact nomatch e
  ·rcases yK hb with⟨j,u,rfl,e⟩|⟨y,u,rfl,e⟩
   ·exact nomatch e
   ·injection e with e1 _;rw[e1]
 byValue:=fun k v h=>by
  rcases yK h with⟨i,t,rfl,rfl⟩|⟨x,t,rfl,rfl⟩<;>rfl
 pyHash:=fun hv h=>by
  rcases yK hv with⟨i,t,rfl,rfl⟩|⟨x,t,rfl,rfl⟩
  ·exact wpAny_pyHash_int h
  ·exact wpAny_pyHash_str h
 eqBool:=fun hu hv h=>by
  rcases yK hu with⟨i,t,rfl,rfl⟩|⟨x,t,rfl,rfl⟩
  ·rcases yK hv with⟨j,u,rfl,rfl⟩|⟨y,u,rfl,rfl⟩
   ·rw[Dj]at h;exact wpAny_eqBool_int h
   ·rw[Iu]at h;exact SeqAt.EqAt.int_str i t y u _ _ _ _ h
  ·rcases yK hv with⟨j,u,rfl,rfl⟩|⟨y,u,rfl,rfl⟩
   ·rw[Gx]at h;exact SeqAt.EqAt.str_int x t j u _ _ _ _ h
   ·rw[Hn]at h;exact wpAny_eqBool_str h
 «strs»:=fun k x t v h=>by
  rcases yK h with⟨i,u,rfl,e⟩|⟨y,u,rfl,e⟩
  ·exact nomatch e
  ·injection e with e1 _
   subst e1;cases v<;>rfl
theorem zod (prog:Program)(w:World)(i:Int)(t:Tok):(kH prog w).is (.inl i) (.int i t)=true:=zrh i t
theorem zos (prog:Program)(w:World)(x:Str)(t:Tok):(kH prog w).is (.inr x) (.str x t)=true:=zqi x t
inductive V where
 |non|bl (b:Bool)|int (i:Int)|str (x:Str)|byt (b:Array UInt8)|flt (b:UInt64)|ref (a:Addr)|ty (n:String)
 deriving DecidableEq
noncomputable def RelV:V->Value->Prop
 | .non,u=>u=Value.none
 | .bl b,u=>u=Value.bool b
 | .int i,u=>∃t,u=Value.int i t
 | .str x,u=>∃t,u=Value.str x t
 | .byt b,u=>∃t,u=Value.bytes b t
 | .flt b,u=>∃t,u=Value.float b t
 | .ref a,u=>u=Value.ref a
 | .ty n,u=>u=Value.type n
noncomputable abbrev Vals:List V->List Value->Prop:=Paired RelV
theorem Vals.length (r:Vals xs us):xs.length=us.length:=Vm r
theorem Vals.get:∀{xs:List V} {us:List Value} {i:Nat} {x:V},Vals xs us->xs[i]? =some x->∃u,us[i]? =some u/\RelV x u
 |_,_,_,_,.nil,e=>by simp at e
 |_,_,0,_,.cons r _,e=>by simp at e;subst e;exact⟨_,rfl,r⟩
 |_,_,i+1,x,.cons _ t,e=>by
  obtain⟨u,h1,h2⟩:=Vals.get (i:=i) (x:=x) t (by simpa using e);exact⟨u,by simpa using h1,h2⟩
theorem Vals.set {x:V}(r:RelV x u):∀{xs:List V} {us:List Value} (i:Nat),Vals xs us->Vals (xs.set i x) (us.set i u)
 |_,_,_,.nil=> .nil
 |_,_,0,.cons _ t=> .cons r t
 |_,_,i+1,.cons q t=> .cons q (Vals.set r i t)
theorem Vals.append:∀{xs ys:List V} {us ws:List Value},Vals xs us->Vals ys ws->Vals (xs++ys) (us++ws)
 |_,_,_,_,.nil,s=>s
 |_,_,_,_,.cons r t,s=> .cons r (Vals.append t s)
theorem Vals.take:∀{xs:List V} {us:List Value} (n:Nat),Vals xs us->Vals (xs.take n) (us.take n)
 |_,_,0,_=> .nil
 |_,_,_+1,.nil=> .nil
 |_,_,n+1,.cons r t=> .cons r (Vals.take n t)
theorem Vals.drop:∀{xs:List V} {us:List Value} (n:Nat),Vals xs us->Vals (xs.drop n) (us.drop n)
 |_,_,0,r=>r
 |_,_,_+1,.nil=> .nil
 |_,_,n+1,.cons _ t=>Vals.drop n t
noncomputable def RelO:Option V->Option Value->Prop
 |some v,some u=>RelV v u
 |none,none=>True
 |_,_=>False
noncomputable def KV {κ:Type}:List (κ×V)->List (κ×Value)->Prop:=Paired fun(p:κ×V) (q:κ×Value)=>p.1=q.1/\RelV p.2 q.2
noncomputable def kV:cK->V
 | .inl i=> .int i
 | .inr x=> .str x
inductive HO where
 /-- a list -/
 |lst (xs:List V)
 /-- a tuple (never changes) -/
 |tup (xs:List V)
 /-- a dict whose keys are ints and texts; one whose keys are tuples of ints and texts (the empty one is both) -/
 |dK (kvs:List (cK×V))|dT (kvs:List (List cK×V))
 /-- a set of ints: its members, its size -/
 |set (S:Int->Bool) (n:Nat)
 /-- an instance of the class at C, its dict at dx, its attributes -/
 |ins (C dx:Addr) (fs:List (Str×V))
 /-- the dict of the instance at x -/
 |own (x:Addr)
 /-- the dict of an exception -/
 |xd (fs:List (Str×V))
 /-- a bound method, f of x -/
 |met (f x:Addr)
 /-- a range object lo, lo + 1, .. below hi -/
 |rng (lo hi:Int)
 /-- a thing that is known to the object (the script; a dict while a loop walks it): read, never written while it is so -/
 |frz (o:Obj) (u:HO)
 /-- a code object's table -/
 |tbl (ps:Array Value)
 /-- any other thing, by what is true of its one object (a def of one's own: SetO a S n := HO.ext fun h => ..) -/
 |ext (φ:Heap->Prop)
noncomputable abbrev Hp:=Addr->Option HO
noncomputable def upd (H:Hp)(a:Addr)(o:HO):Hp:=fun b=>if b=a then some o else H b
theorem gK:upd H a o a=some o:=by unfold upd;rw[if_pos rfl]
theorem cF (h:b≠a):upd H a o b=H b:=by unfold upd;rw[if_neg h]
theorem Pf {o u:HO}(h:H a=some o)(h':H b=some u)(d:o≠u):a≠b:=by
 intro e;subst e;rw[h]at h';exact d (Option.some.inj h')
theorem mM (h:H a=some o)(h':H b=none):a≠b:=by
 intro e;subst e;rw[h]at h';cases h'
section
variable (P:Program) (w:World)
noncomputable def ObjOk (H:Hp)(h:Heap)(a:Addr):HO->Prop
 | .lst xs=>xs.length<=sizeLine/\∃(its:List Value) (n:Nat),Vals xs its/\h.get? a=some {cls:= .type "list",data:= .seq its.toArray n}
 | .tup xs=>xs.length<=sizeLine/\∃its:List Value,Vals xs its/\IsTup h a its.toArray
 | .dK kvs=>kvs.length<=sizeLine/\(a==sysModules)=false/\∃vs,KV kvs vs/\h.DictOf (kH P w) a vs
 | .dT kvs=>kvs.length<=sizeLine/\(a==sysModules)=false/\∃xs:List (List cK×Addr×Value),
   Paired (fun(p:List cK×V) (q:List cK×Addr×Value)=>p.1=q.1/\H q.2.1=some (.tup (p.1.map kV))/\RelV p.2 q.2.2) kvs xs/\
   ∃o es ep,h.get? a=some o/\o.ExactDict/\o.data= .dict es ep/\es.toList=xs.map (entryOfKey (tupleKind (kH P w)))/\(xs.map (·.1)).Nodup
 | .set S n=>h.SetOf (intKind P w) a S n
 | .ins C dx fs=>H dx=some (.own a)/\fs.length<=1000/\dx≠a/\h.get? a=some (W.instObj C dx)/\
   ∃mA,h.Ns1 dx mA/\(∀f,RelO (fs.lookup f) (mA f))/\PySem.Within mA (fs.map (·.1))
 | .own _=>∃o,h.get? a=some o
 | .xd fs=>∃mA,h.Ns1 a mA/\∀f,RelO (fs.lookup f) (mA f)
 | .rng lo hi=>∃t u v,h.get? a=some {cls:= .type "range",data:= .fields #[.int lo t,.int hi u,.int 1 v]}
 | .frz o u=>h.get? a=some o/\ObjOk H h a u
 | .tbl ps=>h.get? a=some {cls:= .none,data:= .fields ps}
 | .met f x=>h.get? a=some (W.methodObj (.ref f) (.ref x))
 | .ext φ=>φ h/\(∃o,h.get? a=some o)/\∀h1 h2:Heap,φ h1->(∀o,h1.get? a=some o->h2.get? a=some o)->φ h2
noncomputable def HOk (H:Hp)(h:Heap):Prop:=∀a o,H a=some o->ObjOk P w H h a o
end
section
variable {P:Program} {w:World} {H H':Hp} {h h':Heap} {a:Addr} {o:HO}
theorem ObjOk.lt (x:ObjOk P w H h a o):a<h.objs.size:=by
 cases o with
 |lst xs=>obtain⟨_,_,_,_,e⟩:=x;exact cY e
 |tup xs=>obtain⟨_,_,_,p⟩:=x;exact p.lt
 |dK kvs=>obtain⟨_,_,_,_,o,_,_,e,_⟩:=x;exact cY e
 |dT kvs=>obtain⟨_,_,_,_,o,_,_,e,_⟩:=x;exact cY e
 |set S n=>obtain⟨o,_,_,_,e,_⟩:=x;exact cY e
 |ins C dx fs=>obtain⟨_,_,_,e,_⟩:=x;exact cY e
 |own y=>obtain⟨_,e⟩:=x;exact cY e
 |xd fs=>obtain⟨_,⟨_,_,_,e,_⟩,_⟩:=x;exact cY e
 |rng lo hi=>obtain⟨_,_,_,e⟩:=x;exact cY e
 |frz ob u=>obtain⟨e,_⟩:=x;exact cY e
 |tbl ps=>exact cY (show h.get? a=some _ from x)
 |met f y=>exact cY (show h.get? a=some _ from x)
 |ext φ=>obtain⟨_,⟨_,e⟩,_⟩:=x;exact cY e
theorem Paired.mapP {α β:Type}{F G:α->β->Prop}:∀{l₁:List α} {l₂:List β},Paired F l₁ l₂->(∀a b,F a b->G a b)->Paired G l₁ l₂
 |_,_,.nil,_=> .nil
 |_,_,.cons r t,f=> .cons (f _ _ r) (Paired.mapP t f)
theorem ObjOk.stay (x:ObjOk P w H h a o)(k:∀b u,(b=a\/H b=some (.own a))->h.get? b=some u->h'.get? b=some u)
  (ho:∀b,H b=some (.own a)->H' b=some (.own a)) (ht:∀b xs,H b=some (.tup xs)->H' b=some (.tup xs)):ObjOk P w H' h' a o:=by
 induction o with
 |lst xs=>obtain⟨z,its,n,r,e⟩:=x;exact⟨z,its,n,r,k _ _ (.inl rfl) e⟩
 |tup xs=>obtain⟨z,its,r,ob,e,c⟩:=x;exact⟨z,its,r,ob,k _ _ (.inl rfl) e,c⟩
 |dK kvs=>obtain⟨z,y,vs,r,ob,es,ep,e,c⟩:=x;exact⟨z,y,vs,r,ob,es,ep,k _ _ (.inl rfl) e,c⟩
 |dT kvs=>
  obtain⟨z,y,xs,r,ob,es,ep,e,c⟩:=x;exact⟨z,y,xs,Paired.mapP r fun p q z=>⟨z.1,ht _ _ z.2.1,z.2.2⟩,ob,es,ep,k _ _ (.inl rfl) e,c⟩
 |set S n=>obtain⟨ob,es,ep,t,e,c⟩:=x;exact⟨ob,es,ep,t,k _ _ (.inl rfl) e,c⟩
 |ins C dx fs=>
  obtain⟨d,z,ne,e,mA,⟨od,es,ep,e2,c⟩,r⟩:=x;exact⟨ho _ d,z,ne,k _ _ (.inl rfl) e,mA,⟨od,es,ep,k _ _ (.inr d) e2,c⟩,r⟩
 |own y=>obtain⟨ob,e⟩:=x;exact⟨ob,k _ _ (.inl rfl) e⟩
 |xd fs=>obtain⟨mA,⟨od,es,ep,e,c⟩,r⟩:=x;exact⟨mA,⟨od,es,ep,k _ _ (.inl rfl) e,c⟩,r⟩
 |rng lo hi=>obtain⟨t,u,v,e⟩:=x;exact⟨t,u,v,k _ _ (.inl rfl) e⟩
 |frz ob u ih=>obtain⟨e,q⟩:=x;exact⟨k _ _ (.inl rfl) e,ih q⟩
 |tbl ps=>
  have e:h.get? a=some {cls:= .none,data:= .fields ps}:=x;show h'.get? a=some {cls:= .none,data:= .fields ps};exact k a _ (.inl rfl) e
 |met f y=>
  have e:h.get? a=some (W.methodObj (.ref f) (.ref y)):=x;show h'.get? a=some (W.methodObj (.ref f) (.ref y));exact k a _ (.inl rfl) e
 |ext φ=>obtain⟨p,⟨o,e⟩,st⟩:=x;exact⟨st _ _ p fun o q=>k _ _ (.inl rfl) q,⟨o,k _ _ (.inl rfl) e⟩,st⟩
theorem HOk.lt (x:HOk P w H h)(e:H a=some o):a<h.objs.size:=(x a o e).lt
theorem HOk.fresh (x:HOk P w H h)(e:h.objs.size<=a):H a=none:=by
 cases q:H a with
 |none=>rfl
 |some u=>exact absurd (iH (x.lt q) e) (lV _)
theorem HOk.kept (x:HOk P w H h)(k:∀b u,h.get? b=some u->h'.get? b=some u):HOk P w H h':=fun a o e=>
 (x a o e).stay (fun b u _ q=>k b u q) (fun _ q=>q) fun _ _ q=>q
theorem HOk.laid (x:HOk P w H h)(k:∀b u,h.get? b=some u->h'.get? b=some u)(hp:h.objs.size<=a)(new:ObjOk P w (upd H a o) h' a o):HOk P w (upd H a o) h':=fun b u e=>by
 have hn:=x.fresh hp
 by_cases hb:b=a
 ·subst hb;rw[gK]at e;cases e;exact new
 ·rw[cF hb]at e;exact(x b u e).stay (fun c v _ q=>k c v q) (fun c q=>by rw[cF (mM q hn)];exact q) fun c xs q=>by rw[cF (mM q hn)];exact q
end
noncomputable def Rd (H:Hp)(a:Addr)(u:HO):Prop:=H a=some u\/∃o,H a=some (.frz o u)
theorem Rd.ok {P:Program}{u:HO}(r:Rd H a u)(x:HOk P w H h):ObjOk P w H h a u:=by
 rcases r with r|⟨o,r⟩
 ·exact x a u r
 ·obtain⟨_,q⟩:=x a _ r;exact q
noncomputable def Nb:Option HO->Prop
 |some (.lst _)=>True
 |some (.dK _)=>True
 |some (.dT _)=>True
 |some (.set _ _)=>True
 |some (.ins _ _ _)=>True
 |some (.ext _)=>True
 |_=>False
section
variable {P:Program} {w:World} {H:Hp} {h h':Heap} {x e:Addr} {o':HO}
theorem HOk.write (ok:HOk P w H h)(mu:Nb (H x))(he:e=x\/H e=some (.own x))(k:∀b u,b≠e->h.get? b=some u->h'.get? b=some u)(heo:∃u,h'.get? e=some u)
  (new:ObjOk P w (upd H x o') h' x o'):HOk P w (upd H x o') h':=fun b u q=>by
 have nown:∀c y,H c=some (.own y)->c≠x:=fun c y r z=>by subst z;rw[r]at mu;exact mu
 have ntup:∀c xs,H c=some (.tup xs)->c≠x:=fun c xs r z=>by subst z;rw[r]at mu;exact mu
 by_cases hb:b=x
 ·subst hb;rw[gK]at q;cases q;exact new
 ·rw[cF hb]at q
  by_cases hbe:b=e
  ·have q':H b=some (.own x):=by
    rcases he with z|z
    ·exact absurd (hbe.trans z) hb
    ·rw[hbe];exact z
   rw[q]at q';cases q';obtain⟨v,hv⟩:=heo;exact⟨v,by rw[hbe];exact hv⟩
  ·refine(ok b u q).stay (fun c v hc r=>k c v ?_ r) (fun c r=>by rw[cF (nown c b r)];exact r) fun c xs r=>by rw[cF (ntup c xs r)];exact r
   rcases hc with rfl|hc
   ·exact hbe
   ·rintro rfl;rcases he with z|z
    ·exact nown c b hc z
    ·rw[hc]at z;cases z;exact hb rfl
end
structure Un (fs ex:List Addr) (H H':Hp) (h h':Heap):Prop where
 keep:∀b o,h.get? b=some o->H b=none->b∉fs->b∉ex->h'.get? b=some o
 slot:∀b o,h.get? b=some o->H b=none->b∈fs->b∉ex->∃sl,h'.get? b=some {o with slots:=sl}
 free:∀b o,h.get? b=some o->H b=none->b∉ex->H' b=none
 there:∀b o,h.get? b=some o->b∉ex->∃o',h'.get? b=some o'
 tups:∀b xs,H b=some (.tup xs)->H' b=some (.tup xs)
 frzs:∀b o u,H b=some (.frz o u)->H' b=some (.frz o u)
 tbls:∀b ps,H b=some (.tbl ps)->∃more,H' b=some (.tbl (ps++more))
section
variable {fs fs' ex ex':List Addr} {H H1 H2:Hp} {h h1 h2 h':Heap} {a x e:Addr} {o:HO}
theorem Un.any (u:Un fs ex H H1 h h1){ob:Obj}(q:h.get? b=some ob)(n:H b=none)(hx:b∉ex):∃sl,h1.get? b=some {ob with slots:=sl}:=by
 by_cases hb:b∈fs
 ·exact u.slot b ob q n hb hx
 ·exact⟨ob.slots,u.keep b ob q n hb hx⟩
theorem Un.kept (k:∀b u,h.get? b=some u->h'.get? b=some u):Un fs ex H H h h':=
 ⟨fun b ob q _ _ _=>k b ob q,fun b ob q _ _ _=>⟨ob.slots,k b ob q⟩,fun _ _ _ n _=>n,fun b ob q _=>⟨ob,k b ob q⟩,fun _ _ q=>q,fun _ _ _ q=>q,fun _ ps q=>⟨#[],by rw[q];simp⟩⟩
theorem Un.refl:Un fs ex H H h h:=Un.kept fun _ _ q=>q
theorem Un.laid (k:∀b u,h.get? b=some u->h'.get? b=some u)(hp:h.objs.size<=a)(hn:H a=none):Un fs ex H (upd H a o) h h' where
 keep:=fun b u q _ _ _=>k b u q
 slot:=fun b u q _ _ _=>⟨u.slots,k b u q⟩
 free:=fun b u q n _=>by rw[cF (gC (iH (cY q) hp))];exact n
 there:=fun b u q _=>⟨u,k b u q⟩
 tups:=fun b xs q=>by rw[cF (mM q hn)];exact q
 frzs:=fun b u xs q=>by rw[cF (mM q hn)];exact q
 tbls:=fun b ps q=>⟨#[],by rw[cF (mM q hn),q];simp⟩
theorem Un.write (mu:Nb (H x))(he:e=x\/H e=some (.own x))(k:∀b u,b≠e->h.get? b=some u->h'.get? b=some u)(heo:∃u,h'.get? e=some u):Un fs ex H (upd H x o) h h':=by
 have hx:∀b,H b=none->b≠x:=fun b n z=>by subst z;rw[n]at mu;exact mu
 have hb:∀b,H b=none->b≠e:=fun b n z=>by
  subst z;rcases he with r|r
  ·exact hx b n r
  ·rw[n]at r;cases r
 have hm:∀b u,H b=some u->¬Nb (some u)->b≠x:=fun b u q nm z=>by subst z;rw[q]at mu;exact nm mu
 refine⟨fun b u q n _ _=>k b u (hb b n) q,fun b u q n _ _=>⟨u.slots,k b u (hb b n) q⟩,fun b u q n _=>by rw[cF (hx b n)];exact n,fun b u q _=>?_,
  fun b xs q=>by rw[cF (hm b _ q fun z=>z)];exact q,fun b u xs q=>by rw[cF (hm b _ q fun z=>z)];exact q,fun b ps q=>⟨#[],by rw[cF (hm b _ q fun z=>z),q];simp⟩⟩
 by_cases hbe:b=e
 ·subst hbe;exact heo
 ·exact⟨u,k b u hbe q⟩
end
noncomputable def Tt (h:Heap)(H:Hp):List Addr:=(List.range h.objs.size).filter fun a=>(H a).isSome
noncomputable def iF (h:Heap)(H:Hp):Heap:=W.hideAll h (Tt h H)
theorem zrT (h:Heap)(H:Hp):(iF h H).objs.size=h.objs.size:=W.hideAll_size _ _
theorem rH {o:Obj}(e:h.get? b=some o)(n:H b=none):(iF h H).get? b=some o:=
 W.hideAll_get _ e fun hm=>by
  have q:(H b).isSome=true:=(List.mem_filter.mp hm).2;rw[n]at q;simp at q
theorem zQ {o:Obj}(e:(iF h H).get? b=some o):h.get? b=some o/\H b=none:=by
 have e':h.get? b=some o:=W.of_hideAll (Tt h H) e;refine⟨e',?_⟩;cases q:H b with
 |none=>rfl
 |some x=>
  have hm:b∈Tt h H:=List.mem_filter.mpr ⟨qah.mpr (cY e'),by simp[q]⟩;have z:(iF h H).get? b=none:=W.hideAll_none (Tt h H) hm;rw[z]at e;cases e
noncomputable def xY (g h:Heap)(L:Addr):List (Addr×Obj):=(List.range h.objs.size).filterMap fun a=>if a=L\/(g.get? a).isSome=true then none else(h.get? a).map fun o=>(a,o)
noncomputable def rest (g h:Heap)(L d:Addr):List (Addr×Obj):=(xY g h L).filter fun p=>decide (p.1≠d)
structure Mod (K:W.Frag) (mg:Str->Option Value) (base:Heap):Prop where
 kin:K.In base
 glob:base.Ns mainGlobals mg
 blt:∃mb,base.Ns builtinsNs mb/\∀x:Str,x≠"__name__"->mb x=bootBuiltins x
 nolimit:base.NoLimit
structure Cx where
 prog:Program
 w:World
 K:W.Frag
 mg:Str->Option Value
 base:Heap
 A:Around
 N:List Str
 s₀:Shared
 H₀:Hp
 env:Env
 outer:List Env
 stack:List Env
 ex:List Addr
 fn:Str->Bool
 calm:Bool
 pn:List (Addr×Obj)
 xe:Value->Shared->Prop
noncomputable def frs (l:List Env):List Addr:=l.filterMap (·.frame)
noncomputable abbrev Cx.fs (X:Cx):List Addr:=frs X.outer
noncomputable def iA (sc:Scope)(x:Str):Prop:=sc.names.lookup x=some .local\/sc.names.lookup x=some .cell\/sc.names.lookup x=some .free
noncomputable def iP (sc:Scope)(x:Str):Prop:=sc.names.lookup x=some .local\/sc.names.lookup x=some .cell
noncomputable def Yl (env:Env)(h:Heap)(m:Str->Option Value)(x:Str)(u:Value):Prop:=
 (env.kindOf x=some .local/\m x=some u)\/((env.kindOf x=some .cell\/env.kindOf x=some .free)/\∃c,env.cells.lookup x=some c/\h.IsCell c (some u))
structure Cx.Ok (X:Cx):Prop where
 mod:Mod X.K X.mg X.base
 kind:X.env.scope.kind= .function
 glob:X.env.globals=mainGlobals
 blt:X.env.builtins=builtinsNs
 above:X.s₀.heap.objs.size<=X.env.locals
 inj:∀x y c,X.env.cells.lookup x=some c->X.env.cells.lookup y=some c->x=y
 has:∀x,(X.env.kindOf x=some .cell\/X.env.kindOf x=some .free)->∃c,X.env.cells.lookup x=some c
 cab:∀x c,X.fn x=true->X.env.cells.lookup x=some c->X.s₀.heap.objs.size<=c
 hd:X.calm=true->X.A.handled=none
 frames:X.A.frames=some X.stack
 stk:X.stack=X.outer\/(X.stack=X.env::X.outer/\X.env.frame=some X.env.locals)
 exf:∀b∈X.ex,b≠X.env.locals/\∀x c,X.env.cells.lookup x=some c->c≠b
 bs:∀b o,X.base.get? b=some o->X.s₀.heap.get? b=some o/\X.H₀ b=none
 bsz:X.base.objs.size<=X.s₀.heap.objs.size
 noex:∀b o,X.base.get? b=some o->b∉X.ex
 exfs:∀b∈X.ex,b∉X.fs
 funs:X.s₀.heap.FunFrames X.base X.outer
 frf:∀b∈X.fs,X.H₀ b=none
structure Inv (X:Cx) (pins:List (Addr×Obj)) (σ:List (Option V)) (H:Hp) (s:Shared):Prop where
 ok:X.Ok
 os:s.os=X.s₀.os
 bare:AllBare s.gens
 base:Un X.fs X.ex X.H₀ H X.s₀.heap s.heap
 loc:∃m,s.heap.Ns X.env.locals m/\∀(i:Nat) (x:Str) (v:V),X.N[i]? =some x->σ[i]? =some (some v)->iA X.env.scope x->∃u,RelV v u/\Yl X.env s.heap m x u
 cell:∀x c,X.env.cells.lookup x=some c->∃v,s.heap.IsCell c v
 free:H X.env.locals=none
 freeC:∀x c,X.env.cells.lookup x=some c->H c=none
 pin:∀p∈X.pn++pins,s.heap.get? p.1=some p.2/\H p.1=none/\p.1≠X.env.locals/\p.1∉X.fs/\∀v,p.2.data≠ .cell v
 hok:HOk X.prog X.w H s.heap
 len:σ.length=X.N.length
section
variable {X:Cx} {pins:List (Addr×Obj)} {σ:List (Option V)} {H H':Hp} {s:Shared} {h':Heap}
theorem Cx.Ok.nofr (ok:X.Ok){o:Obj}(e:X.base.get? b=some o):b∉X.fs:=fun hb=>by
 have:=(ok.funs.mem hb).1;rw[e]at this;cases this
theorem Inv.bs (I:Inv X pins σ H s):∀b o,X.base.get? b=some o->s.heap.get? b=some o/\H b=none:=fun b o e=>
 ⟨I.base.keep b o (I.ok.bs b o e).1 (I.ok.bs b o e).2 (I.ok.nofr e) (I.ok.noex b o e),I.base.free b o (I.ok.bs b o e).1 (I.ok.bs b o e).2 (I.ok.noex b o e)⟩
theorem Inv.bk (I:Inv X pins σ H s):∀b o,X.base.get? b=some o->s.heap.get? b=some o:=fun b o e=>(I.bs b o e).1
theorem Inv.mod (I:Inv X pins σ H s):Mod X.K X.mg X.base:=I.ok.mod
theorem Inv.kIn (I:Inv X pins σ H s):X.K.In s.heap:=I.ok.mod.kin.keeps I.bk
theorem Inv.fr (I:Inv X pins σ H s):∃m,Fr X.base X.env.locals s.heap m:=
 let⟨m,hn,_⟩:=I.loc
 ⟨m,hn,I.bk,gY I.ok.bsz I.ok.above⟩
theorem Inv.lt (I:Inv X pins σ H s):X.env.locals<s.heap.objs.size:=let⟨_,hn,_⟩:=I.loc;hn.lt
theorem Inv.sz (I:Inv X pins σ H s):X.s₀.heap.objs.size<=s.heap.objs.size:=gY I.ok.above (Nat.le_of_lt I.lt)
theorem Inv.nofs (I:Inv X pins σ H s)(h:s.heap.objs.size<=a):a∉X.fs:=fun hb=>by
 obtain⟨_,o,ho,_⟩:=I.ok.funs.mem hb;exact absurd (iH (cY ho) (gY I.sz h)) (lV _)
theorem Inv.cne (I:Inv X pins σ H s):∀x c,X.env.cells.lookup x=some c->c≠X.env.locals:=fun x c e z=>by
 obtain⟨v,o,ho,hd⟩:=I.cell x c e;obtain⟨m,⟨o',es,ep,ho',hd',_⟩,_⟩:=I.loc;rw[z,ho']at ho;cases ho;rw[hd']at hd;cases hd
theorem Inv.funs (I:Inv X pins σ H s):s.heap.FunFrames X.base X.outer:=by
 have all:∀(l:List Env),(∀b∈frs l,b∈X.fs)->X.s₀.heap.FunFrames X.base l->s.heap.FunFrames X.base l:=by
  intro l
  induction l with
  |nil=>intro _ _;trivial
  |cons env r ih=>
   intro hs hl;obtain⟨hk,⟨L,o,hf,hn,ho,hd⟩,hr⟩:=hl;have hL:L∈X.fs:=hs L (by unfold frs;rw[iS,hf];exact mD);obtain⟨sl,e⟩:=I.base.slot L o ho (I.ok.frf L hL) hL fun z=>I.ok.exfs L z hL
   exact⟨hk,⟨L,_,hf,hn,e,hd⟩,ih (fun b hb=>hs b (by unfold frs;rw[iS,hf];exact jD _ hb)) hr⟩
 exact all X.outer (fun _ hb=>hb) I.ok.funs
theorem Inv.stack (I:Inv X pins σ H s):s.heap.FunFrames X.base X.stack:=by
 rcases I.ok.stk with e|⟨e,hf⟩
 ·rw[e];exact I.funs
 ·rw[e];obtain⟨m,hn,_⟩:=I.loc;refine .cons (by rw[I.ok.kind];decide) hf hn ?_ I.funs;exact Heap.get?_none_of_le (gY I.ok.bsz I.ok.above)
theorem Inv.stkSub (I:Inv X pins σ H s):∀b∈frs X.stack,b∈X.env.locals::X.fs:=fun b hb=>by
 rcases I.ok.stk with e|⟨e,hf⟩
 ·rw[e]at hb;exact jD _ hb
 ·rw[e]at hb;unfold frs at hb;rw[iS,hf]at hb;exact hb
theorem Inv.stkFree (I:Inv X pins σ H s):∀b∈frs X.stack,H b=none:=fun b hb=>by
 rcases qam.mp (I.stkSub b hb)with e|hb
 ·rw[e];exact I.free
 ·obtain⟨_,o,ho,_⟩:=I.ok.funs.mem hb;exact I.base.free b o ho (I.ok.frf b hb) fun z=>I.ok.exfs b z hb
theorem Inv.step (I:Inv X pins σ H s)
  (hch:∀b∈ch,(b∈X.ex\/X.s₀.heap.objs.size<=b)/\b≠X.env.locals/\(∀x c,X.env.cells.lookup x=some c->c≠b)/\∀p∈X.pn++pins,p.1≠b)
  (keep:∀b o,b≠X.env.locals->b∉X.fs->b∉ch->s.heap.get? b=some o->H b=none->h'.get? b=some o)
  (slot:∀b o,b≠X.env.locals->b∈X.fs->b∉ch->s.heap.get? b=some o->H b=none->∃sl,h'.get? b=some {o with slots:=sl}) (free:∀b o,b∉ch->s.heap.get? b=some o->H b=none->H' b=none)
  (there:∀b o,b∉ch->s.heap.get? b=some o->∃o',h'.get? b=some o')
  (tups:∀b xs,H b=some (.tup xs)->H' b=some (.tup xs)) (frzs:∀b o u,H b=some (.frz o u)->H' b=some (.frz o u)) (tbls:∀b ps,H b=some (.tbl ps)->∃more,H' b=some (.tbl (ps++more)))
  (ns:∀m,s.heap.Ns X.env.locals m->h'.Ns X.env.locals m) (hok:HOk X.prog X.w H' h') (hg:AllBare g'):
  Inv X pins σ H' {s with heap:=h',gens:=g',drawn:=d',toks:=t'}:=by
 have neL:∀b o,X.s₀.heap.get? b=some o->b≠X.env.locals:=fun b o e=>gC (iH (cY e) I.ok.above)
 have neC:∀b o,X.s₀.heap.get? b=some o->b∉X.ex->b∉ch:=fun b o e hx hb=>by
  rcases(hch b hb).1 with z|z
  ·exact hx z
  ·exact absurd (iH (cY e) z) (lV _)
 have cellK:∀x c,X.env.cells.lookup x=some c->∀v,s.heap.IsCell c v->h'.IsCell c v:=fun x c e v ⟨o,ho,hd⟩=>by
  have nch:c∉ch:=fun z=>(hch c z).2.2.1 x c e rfl
  by_cases hc:c∈X.fs
  ·obtain⟨sl,q⟩:=slot c o (I.cne x c e) hc nch ho (I.freeC x c e);exact⟨_,q,hd⟩
  ·exact⟨o,keep c o (I.cne x c e) hc nch ho (I.freeC x c e),hd⟩
 refine⟨I.ok,I.os,hg,⟨fun b o e n hb hx=>?_,fun b o e n hb hx=>?_,fun b o e n hx=>?_,fun b o e hx=>?_,fun b xs e=>tups b xs (I.base.tups b xs e),fun b o xs e=>frzs b o xs (I.base.frzs b o xs e),fun b ps e=>?_⟩,?_,fun x c e=>?_,?_,fun x c e=>?_,fun p hp=>?_,hok,I.len⟩
 ·exact keep b o (neL b o e) hb (neC b o e hx) (I.base.keep b o e n hb hx) (I.base.free b o e n hx)
 ·obtain⟨sl,e1⟩:=I.base.slot b o e n hb hx;obtain⟨sl',e2⟩:=slot b _ (neL b o e) hb (neC b o e hx) e1 (I.base.free b o e n hx);exact⟨sl',e2⟩
 ·obtain⟨o',e1⟩:=I.base.there b o e hx;exact free b o' (neC b o e hx) e1 (I.base.free b o e n hx)
 ·obtain⟨o',e1⟩:=I.base.there b o e hx;exact there b o' (neC b o e hx) e1
 ·obtain⟨m1,e1⟩:=I.base.tbls b ps e;obtain⟨m2,e2⟩:=tbls b _ e1;exact⟨m1++m2,by rw[e2,Array.append_assoc]⟩
 ·obtain⟨m,hn,hl⟩:=I.loc;refine⟨m,ns m hn,fun i x v e1 e2 e3=>?_⟩;obtain⟨u,r,l⟩:=hl i x v e1 e2 e3;refine⟨u,r,?_⟩;rcases l with l|⟨k,c,e,z⟩
  ·exact .inl l
  ·exact .inr ⟨k,c,e,cellK x c e _ z⟩
 ·obtain⟨v,z⟩:=I.cell x c e;exact⟨v,cellK x c e v z⟩
 ·obtain⟨m,⟨o,_,_,ho,_⟩,_⟩:=I.loc;exact free _ o (fun z=>(hch _ z).2.1 rfl) ho I.free
 ·obtain⟨v,o,ho,hd⟩:=I.cell x c e;exact free c o (fun z=>(hch c z).2.2.1 x c e rfl) ho (I.freeC x c e)
 ·obtain⟨e,n,ne,nf,d⟩:=I.pin p hp;have nch:p.1∉ch:=fun z=>(hch p.1 z).2.2.2 p hp rfl
  exact⟨keep p.1 p.2 ne nf nch e n,free p.1 p.2 nch e n,ne,nf,d⟩
theorem Inv.un (I:Inv X pins σ H s)(u:Un X.fs [] H H' s.heap h')(hok:HOk X.prog X.w H' h'):Inv X pins σ H' {s with heap:=h',toks:=t'}:=by
  obtain⟨m,⟨o,es,ep,ho,r⟩,_⟩:=id I.loc;obtain⟨sl,hL⟩:=u.any ho I.free (by simp);exact I.step (g':=s.gens) (d':=s.drawn) (ch:=[]) (fun _ z=>nomatch z) (fun b o _ hb _ e n=>u.keep b o e n hb (by simp)) (fun b o _ hb _ e n=>u.slot b o e n hb (by simp)) (fun b o _ e n=>u.free b o e n (by simp)) (fun b o _ e=>u.there b o e (by simp)) u.tups u.frzs u.tbls (fun m' hm=>by
    obtain⟨o',es',ep',ho',r'⟩:=hm;rw[ho]at ho';cases ho';exact⟨_,es',ep',hL,r'⟩) hok I.bare
theorem Inv.call {ch:List Addr}(I:Inv X pins σ H s)(u:Un (frs X.stack) ch H H' s.heap h')(hok:HOk X.prog X.w H' h')(hg:AllBare g')
  (hch:∀b∈ch,(b∈X.ex\/X.s₀.heap.objs.size<=b)/\b≠X.env.locals/\(∀x c,X.env.cells.lookup x=some c->c≠b)/\∀p∈X.pn++pins,p.1≠b):
  Inv X pins σ H' {s with heap:=h',gens:=g',drawn:=d',toks:=t'}:=by
 obtain⟨m,⟨o,es,ep,ho,r⟩,_⟩:=id I.loc;obtain⟨sl,hL⟩:=u.any ho I.free fun z=>(hch _ z).2.1 rfl
 exact I.step (ch:=ch) hch (fun b o hL hb hc e n=>u.keep b o e n (fun z=>(qam.mp (I.stkSub b z)).elim hL hb) hc) (fun b o _ _ hc e n=>u.any e n hc) (fun b o hc e n=>u.free b o e n hc) (fun b o hc e=>u.there b o e hc) u.tups u.frzs u.tbls (fun m' hm=>by
  obtain⟨o',es',ep',ho',r'⟩:=hm;rw[ho]at ho';cases ho';exact⟨_,es',ep',hL,r'⟩) hok hg
theorem Inv.turned (I:Inv X pins σ H s)(k:∀b o,b≠it->s.heap.get? b=some o->h'.get? b=some o)(hn:H it=none)(hL:it≠X.env.locals)
  (h1:it∈X.ex\/X.s₀.heap.objs.size<=it) (h2:∀x c,X.env.cells.lookup x=some c->c≠it) (h3:∀p∈X.pn++pins,p.1≠it):Inv X pins σ H {s with heap:=h',toks:=t'}:=by
 have nit:∀b u,H b=some u->b≠it:=fun b u e z=>by rw[z,hn]at e;cases e
 refine I.step (g':=s.gens) (d':=s.drawn) (ch:=[it]) (fun b hb=>?_) (fun b o _ _ hc e _=>k b o (fun z=>hc (by simp[z])) e) (fun b o _ _ hc e _=>⟨o.slots,k b o (fun z=>hc (by simp[z])) e⟩) (fun _ _ _ _ n=>n)
  (fun b o hc e=>⟨o,k b o (fun z=>hc (by simp[z])) e⟩) (fun _ _ e=>e) (fun _ _ _ e=>e) (fun b ps e=>⟨#[],by rw[e];simp⟩) (fun m hm=>?_) (fun b u e=>?_) I.bare
 ·have e:b=it:=by simpa using hb
  subst e;exact⟨h1,hL,h2,h3⟩
 ·obtain⟨o,es,ep,ho,r⟩:=hm;exact⟨o,es,ep,k _ o (Ne.symm hL) ho,r⟩
 ·refine(I.hok b u e).stay (fun c v hc q=>k c v ?_ q) (fun _ q=>q) fun _ _ q=>q
  rcases hc with z|z
  ·rw[z];exact nit b u e
  ·exact nit c _ z
theorem Inv.tok (I:Inv X pins σ H s)(t:Nat):Inv X pins σ H {s with toks:=t}:=I.un (h':=s.heap) (t':=t) Un.refl I.hok
theorem Inv.kept (I:Inv X pins σ H s)(k:∀b u,s.heap.get? b=some u->h'.get? b=some u):Inv X pins σ H {s with heap:=h',toks:=t'}:=I.un (Un.kept k) (I.hok.kept k)
theorem Inv.laid (I:Inv X pins σ H s)(k:∀b u,s.heap.get? b=some u->h'.get? b=some u)(hp:s.heap.objs.size<=a)(new:ObjOk X.prog X.w (upd H a o) h' a o):
  Inv X pins σ (upd H a o) {s with heap:=h',toks:=t'}:=I.un (Un.laid k hp (I.hok.fresh hp)) (I.hok.laid k hp new)
theorem Inv.write {x e:Addr}(I:Inv X pins σ H s)(mu:Nb (H x))(he:e=x\/H e=some (.own x))(k:∀b u,b≠e->s.heap.get? b=some u->h'.get? b=some u)(heo:∃u,h'.get? e=some u)
  (new:ObjOk X.prog X.w (upd H x o) h' x o):Inv X pins σ (upd H x o) {s with heap:=h',toks:=t'}:=I.un (Un.write mu he k heo) (I.hok.write mu he k heo new)
theorem Inv.pins_of (I:Inv X pins σ H s)(h:∀p∈pins',s.heap.get? p.1=some p.2/\H p.1=none/\p.1≠X.env.locals/\p.1∉X.fs/\∀v,p.2.data≠ .cell v):Inv X pins' σ H s:=
 ⟨I.ok,I.os,I.bare,I.base,I.loc,I.cell,I.free,I.freeC,fun p hp=>(qan.mp hp).elim (fun z=>I.pin p (Lv _ z)) (h p),I.hok,I.len⟩
theorem zo5 (hN:N.Nodup)(a:N[i]? =some x)(b:N[j]? =some x):i=j:=by
 obtain⟨h1,e1⟩:=qap.mp a;obtain⟨h2,e2⟩:=qap.mp b;exact(List.getElem_inj hN).mp (e1.trans e2.symm)
theorem zrD {M:Model}(I:Inv X pins σ H s)(hN:X.N.Nodup)(hi:X.N[i]? =some x)(hx:iP X.env.scope x)(r:RelV v u)
    (h:∀s',Inv X pins (σ.set i (some v)) H s'->(∃a,Heap.SameBut a s.heap s'.heap/\(a=X.env.locals\/X.env.cells.lookup x=some a))->Q () s') (hf:autoParam (X.fn x=true\/X.env.scope.names.lookup x=some .local) zu0._auto_1):wpAny M A (storeName X.env x u) Q E s:=by
  obtain⟨m,hn,hl⟩:=id I.loc;have hcls:(X.env.scope.kind== .class||(X.env.scope.kind== .module&&X.env.locals !=X.env.globals))=false:=by rw[I.ok.kind];rfl
  have hiσ:i<σ.length:=by rw[I.len];exact(qap.mp hi).1
  have cne:=I.cne;have tracked:∀{a:Addr} {h':Heap},(∃o,s.heap.get? a=some o/\H a=none)->Heap.SameBut a s.heap h'->HOk X.prog X.w H h':=fun{a h'} ha hs b ob e=>by
    obtain⟨_,_,hfree⟩:=ha;refine(I.hok b ob e).stay (fun c w' hc q=>(hs.2 c ?_).trans q) (fun _ q=>q) fun _ _ q=>q
    rintro rfl;rcases hc with rfl|hc
    . rw[hfree]at e;cases e
    . rw[hfree]at hc;cases hc
  rcases hx with hk|hk
  . refine wpAny_storeName_local hk hn (fun h' hn' hs=>?_) hcls
    obtain⟨oL,_,_,hoL,_⟩:=id hn;refine h _ ⟨I.ok,I.os,I.bare,⟨fun b o e n hb hx=>?_,fun b o e n hb hx=>?_,I.base.free,fun b o e hx=>?_,I.base.tups,I.base.frzs,I.base.tbls⟩,⟨_,hn',fun j y v' e1 e2 e3=>?_⟩,fun y c e=>?_,I.free,I.freeC,fun p hp=>?_,tracked ⟨oL,hoL,I.free⟩ hs,by simpa using I.len⟩ ⟨_,hs,.inl rfl⟩
    . exact(hs.2 b (gC (iH (cY e) I.ok.above))).trans (I.base.keep b o e n hb hx)
    . obtain⟨sl,e1⟩:=I.base.slot b o e n hb hx
      exact⟨sl,(hs.2 b (gC (iH (cY e) I.ok.above))).trans e1⟩
    . obtain⟨o',e1⟩:=I.base.there b o e hx
      exact⟨o',(hs.2 b (gC (iH (cY e) I.ok.above))).trans e1⟩
    . by_cases hj:j=i
      . subst hj
        rw[hi]at e1;cases e1;rw[List.getElem?_set_self hiσ]at e2;cases e2;exact⟨u,r,.inl ⟨hk,by simp⟩⟩
      . rw[tO (Ne.symm hj)]at e2
        obtain⟨u',r',q⟩:=hl j y v' e1 e2 e3;refine⟨u',r',?_⟩;rcases q with⟨k,e⟩|⟨k,c,e,z⟩
        . refine .inl ⟨k,?_⟩
          have:y≠x:=fun e=>hj (zo5 hN e1 (e ▸ hi))
          simp[this,e]
        . exact .inr ⟨k,c,e,z.sameBut hs (cne y c e)⟩
    . obtain⟨w',z⟩:=I.cell y c e
      exact⟨w',z.sameBut hs (cne y c e)⟩
    . obtain⟨e,n,ne,nf,d⟩:=I.pin p hp
      exact⟨(hs.2 p.1 ne).trans e,n,ne,nf,d⟩
  . have hfn:X.fn x=true:=by
      rcases hf with z|z
      . exact z
      . rw[z]at hk;cases hk
    obtain⟨c,hc⟩:=I.ok.has x (.inl hk);obtain⟨w',z⟩:=I.cell x c hc;refine wpAny_storeName_cell I.ok.kind hk hc z (fun h' hc' hs=>?_);obtain⟨oc,hoc,hocd⟩:=id z;refine h {s with heap:=h'} ⟨I.ok,I.os,I.bare,⟨fun b o e n hb hx=>?_,fun b o e n hb hx=>?_,I.base.free,fun b o e hx=>?_,I.base.tups,I.base.frzs,I.base.tbls⟩,⟨m,hn.sameBut hs (Ne.symm (cne x c hc)),fun j y v' e1 e2 e3=>?_⟩,fun y c' e=>?_,I.free,I.freeC,fun p hp=>?_,tracked ⟨oc,hoc,I.freeC x c hc⟩ hs,by simpa using I.len⟩ ⟨c,hs,.inr hc⟩
    . exact(hs.2 b (gC (iH (cY e) (I.ok.cab x c hfn hc)))).trans (I.base.keep b o e n hb hx)
    . obtain⟨sl,e1⟩:=I.base.slot b o e n hb hx
      exact⟨sl,(hs.2 b (gC (iH (cY e) (I.ok.cab x c hfn hc)))).trans e1⟩
    . obtain⟨o',e1⟩:=I.base.there b o e hx
      exact⟨o',(hs.2 b (gC (iH (cY e) (I.ok.cab x c hfn hc)))).trans e1⟩
    . by_cases hj:j=i
      . subst hj
        rw[hi]at e1;cases e1;rw[List.getElem?_set_self hiσ]at e2;cases e2;exact⟨u,r,.inr ⟨.inl hk,c,hc,hc'⟩⟩
      . rw[tO (Ne.symm hj)]at e2
        obtain⟨u',r',q⟩:=hl j y v' e1 e2 e3;refine⟨u',r',?_⟩;rcases q with q|⟨k,c',e,z'⟩
        . exact .inl q
        . refine .inr ⟨k,c',e,z'.sameBut hs ?_⟩
          rintro rfl;exact hj (zo5 hN e1 (I.ok.inj _ _ _ e hc ▸ hi))
    . by_cases hcc:c'=c
      . subst hcc;exact⟨_,hc'⟩
      . obtain⟨w2,z2⟩:=I.cell y c' e
        exact⟨w2,z2.sameBut hs hcc⟩
    . obtain⟨e,n,ne,nf,d⟩:=I.pin p hp
      refine⟨(hs.2 p.1 ?_).trans e,n,ne,nf,d⟩;intro q;rw[q,hoc]at e;have q':oc=p.2:=Option.some.inj e;exact d w' (by rw[<-q'];exact hocd)
theorem Sd {M:Model}(I:Inv X pins σ H s)(hN:X.N.Nodup)(hi:X.N[i]? =some x)(hx:iP X.env.scope x)(r:RelV v u)
  (h:∀s',Inv X pins (σ.set i (some v)) H s'->Q () s') (hf:autoParam (X.fn x=true\/X.env.scope.names.lookup x=some .local) zu0._auto_1):wpAny M A (storeName X.env x u) Q E s:=
 zrD I hN hi hx r (fun s' I' _=>h s' I') hf
end
noncomputable abbrev XK:=Value->Option Addr->Hp->Prop
noncomputable abbrev St:=List (Option V)
noncomputable abbrev VK:=V->Hp->Prop
noncomputable abbrev TE:=St->Hp->VK->Prop
noncomputable abbrev TT:=St->Hp->(Bool->Hp->Prop)->Prop
noncomputable abbrev TA:=St->Hp->(List V->Hp->Prop)->Prop
structure Ends where
 nx:St->Hp->Prop
 rt:VK
 bk:St->Hp->Prop:=fun _ _=>False
 ct:St->Hp->Prop:=fun _ _=>False
noncomputable abbrev TS:=Ends->St->Hp->Prop
noncomputable def EP (X:Cx)(pins:List (Addr×Obj))(σ:St)(Q:VK)(u:Value)(s':Shared):Prop:=∃v H',Inv X pins σ H' s'/\RelV v u/\Q v H'
noncomputable def TP (X:Cx)(pins:List (Addr×Obj))(σ:St)(Q:Bool->Hp->Prop)(b:Bool)(s':Shared):Prop:=∃H',Inv X pins σ H' s'/\Q b H'
noncomputable def AP (X:Cx)(pins:List (Addr×Obj))(σ:St)(Q:List V->Hp->Prop)(us:List Value)(s':Shared):Prop:=∃vs H',Inv X pins σ H' s'/\Vals vs us/\Q vs H'
noncomputable def SP (X:Cx)(pins:List (Addr×Obj))(D:Ends)(f:Flow)(s':Shared):Prop:=
 match f with
 | .next=>∃σ' H',Inv X pins σ' H' s'/\D.nx σ' H'
 | .brk=>∃σ' H',Inv X pins σ' H' s'/\D.bk σ' H'
 | .cont=>∃σ' H',Inv X pins σ' H' s'/\D.ct σ' H'
 | .ret u=>∃v σ' H',Inv X pins σ' H' s'/\RelV v u/\D.rt v H'
noncomputable def PE (X:Cx)(e:Expr)(t:TE):Prop:=
 ∀(pins:List (Addr×Obj)) (s:Shared) (σ:St) (H:Hp) (Q:VK),Inv X pins σ H s->t σ H Q->wpAny (model X.prog X.w) X.A (eval e X.env) (EP X pins σ Q) X.xe s
noncomputable def PT (X:Cx)(e:Expr)(t:TT):Prop:=
 ∀(pins:List (Addr×Obj)) (s:Shared) (σ:St) (H:Hp) (Q:Bool->Hp->Prop),Inv X pins σ H s->t σ H Q->wpAny (model X.prog X.w) X.A (isTrue e X.env (eval e X.env)) (TP X pins σ Q) X.xe s
noncomputable def PW (X:Cx)(e:Expr)(t:TT):Prop:=
 ∀(whole:Sem Value) (pins:List (Addr×Obj)) (s:Shared) (σ:St) (H:Hp) (Q:Bool->Hp->Prop),Inv X pins σ H s->t σ H Q->wpAny (model X.prog X.w) X.A (isTrue e X.env whole) (TP X pins σ Q) X.xe s
theorem PW.pt {t:TT}(h:PW X e t):PT X e t:=h _
noncomputable def PA (X:Cx)(es:List Expr)(t:TA):Prop:=
 ∀(pos:Pos) (pins:List (Addr×Obj)) (s:Shared) (σ:St) (H:Hp) (Q:List V->Hp->Prop),Inv X pins σ H s->t σ H Q->wpAny (model X.prog X.w) X.A (spliced (backTo pos (starEach es X.env))) (AP X pins σ Q) X.xe s
noncomputable def PS (X:Cx)(st:Stmt)(t:TS):Prop:=
 ∀(pins:List (Addr×Obj)) (s:Shared) (σ:St) (H:Hp) (D:Ends),Inv X pins σ H s->t D σ H->wpAny (model X.prog X.w) X.A (exec st X.env) (SP X pins D) X.xe s
noncomputable def PSs (X:Cx)(st:List Stmt)(t:TS):Prop:=
 ∀(pins:List (Addr×Obj)) (s:Shared) (σ:St) (H:Hp) (D:Ends),Inv X pins σ H s->t D σ H->wpAny (model X.prog X.w) X.A (execs st X.env) (SP X pins D) X.xe s
theorem bC {α:Type}{t:Sem α}{Q Q':α->Shared->Prop}{M:Model}(h:wpAny M A t Q E s)(hQ:∀a s,Q a s->Q' a s):wpAny M A t Q' E s:=kW h hQ fun _ _ x=>x
section
variable {X:Cx}
theorem dY {a b:Expr}{ta tb:TE}(ha:PE X a ta)(hb:PE X b tb){R:V->V->Hp->Prop}(I:Inv X pins σ H s)(h:ta σ H fun x H1=>tb σ H1 fun y H2=>R x y H2)
  {α:Type} {Q:α->Shared->Prop} {f:Value->Value->Sem α}
  (hf:∀v u s2 x y H2,Inv X pins σ H2 s2->RelV x v->RelV y u->R x y H2->wpAny (model X.prog X.w) X.A (f v u) Q X.xe s2):
  wpAny (model X.prog X.w) X.A (eval a X.env) (fun v s₁=>wpAny (model X.prog X.w) X.A (eval b X.env) (fun u s₂=>wpAny (model X.prog X.w) X.A (f v u) Q X.xe s₂) X.xe s₁) X.xe s:=by
 refine bC (ha pins s σ H _ I h) fun v s1 ⟨x,H1,I1,r1,q1⟩=>?_
 refine bC (hb pins s1 σ H1 _ I1 q1) fun u s2 ⟨y,H2,I2,r2,q2⟩=>?_
 exact hf v u s2 x y H2 I2 r1 r2 q2
noncomputable def Oo (i:Nat):TE:=fun σ H Q=>∃v,σ[i]? =some (some v)/\Q v H
noncomputable def tC (v:V):TE:=fun _ H Q=>Q v H
theorem jG (hN:X.N[i]? =some x)(hv:iA X.env.scope x)(hd:autoParam ((x==("__debug__":Str))=false) zu1._auto_1)(hcd:autoParam ((x==("__classdict__":Str))=false) zu1._auto_1):PE X (.Name x pos) (Oo i):=by
 intro pins s σ H Q I h;obtain⟨v,e,h⟩:=h;obtain⟨m,hn,hl⟩:=I.loc;obtain⟨u,r,l⟩:=hl i x v hN e hv;have fin:EP X pins σ Q u s:=⟨v,H,I,r,h⟩;rcases l with⟨hk,hm⟩|⟨hk,c,hc,hcell⟩
 ·exact wpAny_Name (wpAny_loadName_local I.ok.kind hk hn hm fin) hd
 ·rcases hk with hk|hk
  ·exact wpAny_Name (wpAny_loadName_cell I.ok.kind hk hc hcell fin) hd
  ·exact wpAny_Name (wpAny_loadName_free I.ok.kind hk hc hcell fin hcd) hd
theorem Fo {i j pos}:PE X (.Constant (.int i) j pos) (tC (.int i)):=fun _ _ _ H _ I h=>wpAny_Constant_int ⟨.int i,H,I.tok _,⟨_,rfl⟩,h⟩
theorem Om {b j pos}:PE X (.Constant (.bool b) j pos) (tC (.bl b)):=fun _ _ _ H _ I h=>Constant_bool ⟨.bl b,H,I,rfl,h⟩
theorem Em {j pos}:PE X (.Constant .none j pos) (tC .non):=fun _ _ _ H _ I h=>Constant_none ⟨.non,H,I,rfl,h⟩
theorem rQ {x j pos}:PE X (.Constant (.str x) j pos) (tC (.str x)):=fun _ _ _ H _ I h=>Calls.Constant_str ⟨.str x,H,I.tok _,⟨_,rfl⟩,h⟩
noncomputable def Gl (X:Cx)(x:Str):Prop:=X.env.kindOf x=some .globalImplicit
theorem yO {Q:Value->Shared->Prop}(I:Inv X pins σ H s)(hg:Gl X x)(hm:X.mg x=some u)(h:Q u s)
  (hd:autoParam ((x==("__debug__":Str))=false) zu1._auto_1):wpAny (model X.prog X.w) X.A (eval (.Name x pos) X.env) Q E s:=
 qas I.ok.kind hg (Calls.loadGlobal_global (by rw[I.ok.glob];exact I.mod.glob.keeps I.bk) hm h) hd
theorem yF {Q:Value->Shared->Prop}(I:Inv X pins σ H s)(hg:Gl X x)(hm:X.mg x=none)(hv:bootBuiltins x=some u)(h:Q u s)
  (hn:autoParam (x≠"__name__") zu1._auto_1) (hd:autoParam ((x==("__debug__":Str))=false) zu1._auto_1):wpAny (model X.prog X.w) X.A (eval (.Name x pos) X.env) Q E s:=by
 obtain⟨mb,h1,h2⟩:=I.mod.blt;exact qas I.ok.kind hg (Calls.loadGlobal_builtin (by rw[I.ok.glob];exact I.mod.glob.keeps I.bk) hm (by rw[I.ok.blt];exact h1.keeps I.bk) ((h2 x hn).trans hv) h) hd
theorem xG (hg:Gl X x)(hm:X.mg x=none)(hv:bootBuiltins x=some u)(r:RelV v u)(hn:autoParam (x≠"__name__") zu1._auto_1)(hd:autoParam ((x==("__debug__":Str))=false) zu1._auto_1):PE X (.Name x pos) (tC v):=
 fun _ _ _ H _ I h=>yF I hg hm hv ⟨v,H,I,r,h⟩ hn hd
variable {a b:Expr} {ta tb:TE} {pos:Pos}
noncomputable def PC (X:Cx)(op:CmpOp)(a b:Expr)(t:TE):Prop:=
 ∀(pins:List (Addr×Obj)) (s:Shared) (σ:St) (H:Hp) (Q:VK),Inv X pins σ H s->t σ H Q->
  wpAny (model X.prog X.w) X.A (eval a X.env) (fun v s₁=>wpAny (model X.prog X.w) X.A (eval b X.env) (fun u s₂=>wpAny (model X.prog X.w) X.A (compareOp op v u) (EP X pins σ Q) X.xe s₂) X.xe s₁) X.xe s
theorem sC (b:Expr)(h:op≠ .In)(h2:op≠ .NotIn):behindInMarks op b=false:=by
 have e1:(op==CmpOp.In)=false:=by cases op<;>first|rfl|exact absurd rfl h
 have e2:(op==CmpOp.NotIn)=false:=by cases op<;>first|rfl|exact absurd rfl h2
 cases b<;>simp[behindInMarks,e1,e2]
noncomputable def tB (t:TE):TT:=fun σ H Q=>t σ H fun x H1=>∃c,x= .bl c/\Q c H1
theorem Hz (h:PC X op a b t)(h1:autoParam (behindInMarks op b=false) zu2._auto_1):PT X (.Compare a [op] [b] pos) (tB t):=by
  intro pins s σ H Q I hw;refine wpAny_isTrue_Compare1 (bC (h pins s σ H _ I hw) fun v s1 h1=>bC h1 fun u s2 h2=>bC h2 fun c s3 ⟨x,H1,I1,r1,q1⟩=>?_) h1;obtain⟨d,rfl,q⟩:=q1;cases r1;exact qO ⟨H1,I1,q⟩
variable {tA tB':TT} {rest:List Expr}
noncomputable def tAnd (t u:TT):TT:=fun σ H Q=>t σ H fun c H1=>if c=true then u σ H1 Q else Q false H1
noncomputable def tOr (t u:TT):TT:=fun σ H Q=>t σ H fun c H1=>if c=true then Q true H1 else u σ H1 Q
noncomputable def tNot (t:TT):TT:=fun σ H Q=>t σ H fun c H1=>Q (!c) H1
theorem uP (ha:PT X a tA):PW X (.BoolOp .And [a] pos) tA:=by
 intro wh pins s σ H Q I h;refine isTrue_and (bC (ha pins s σ H Q I h) fun c s1 e=>?_);cases c with
 |true=>exact isTrue_and_nil e
 |false=>exact e
theorem Jj (ha:PT X a tA):PW X (.BoolOp .Or [a] pos) tA:=by
 intro wh pins s σ H Q I h;refine isTrue_or (bC (ha pins s σ H Q I h) fun c s1 e=>?_);cases c with
 |false=>exact isTrue_or_nil e
 |true=>exact e
theorem Hu (ha:PT X a tA)(hb:PW X (.BoolOp .And (b::rest) pos) tB'):PW X (.BoolOp .And (a::b::rest) pos) (tAnd tA tB'):=by
 intro wh pins s σ H Q I h;refine isTrue_and (bC (ha pins s σ H _ I h) fun c s1 ⟨H1,I1,q1⟩=>?_);cases c with
 |true=>exact hb wh pins s1 σ H1 Q I1 q1
 |false=>exact⟨H1,I1,q1⟩
theorem Nn (ha:PT X a tA)(hb:PW X (.BoolOp .Or (b::rest) pos) tB'):PW X (.BoolOp .Or (a::b::rest) pos) (tOr tA tB'):=by
 intro wh pins s σ H Q I h;refine isTrue_or (bC (ha pins s σ H _ I h) fun c s1 ⟨H1,I1,q1⟩=>?_);cases c with
 |true=>exact⟨H1,I1,q1⟩
 |false=>exact hb wh pins s1 σ H1 Q I1 q1
theorem Hh (ha:PT X a tA):PT X (.UnaryOp .Not a pos) (tNot tA):=by
 intro pins s σ H Q I h;exact isTrue_not (ha pins s σ H (fun c H1=>Q (!c) H1) I h)
noncomputable def Nx (ta tb:TE):TE:=fun σ H Q=>ta σ H fun x H1=>∃c,x= .bl c/\if c=true then tb σ H1 Q else Q (.bl false) H1
noncomputable def Ni (ta:TE):TE:=fun σ H Q=>ta σ H fun x H1=>∃c,x= .bl c/\Q (.bl (!c)) H1
theorem Kh {op}(h:PE X a t):PE X (.BoolOp op [a] pos) t:=fun pins s σ H Q I hw=>BoolOp_one (h pins s σ H Q I hw)
theorem Jr (ha:PE X a ta)(hb:PE X (.BoolOp .And (b::rest) pos) tb):PE X (.BoolOp .And (a::b::rest) pos) (Nx ta tb):=by
 intro pins s σ H Q I h;refine BoolOp_and (bC (ha pins s σ H _ I h) fun v s1 ⟨x,H1,I1,r1,q1⟩=>?_);obtain⟨c,rfl,q1⟩:=q1;cases r1;refine qO ?_;cases c with
 |true=>exact hb pins s1 σ H1 Q I1 q1
 |false=>exact⟨.bl false,H1,I1,rfl,q1⟩
theorem Gr (ha:PE X a ta):PE X (.UnaryOp .Not a pos) (Ni ta):=by
 intro pins s σ H Q I h;refine UnaryOp_ (bC (ha pins s σ H _ I h) fun v s1 ⟨x,H1,I1,r1,q1⟩=>?_);obtain⟨c,rfl,q1⟩:=q1;cases r1;exact not_of (qO ⟨.bl (!c),H1,I1,rfl,q1⟩)
noncomputable def tIf (t:TT)(ta tb:TE):TE:=fun σ H Q=>t σ H fun c H1=>if c=true then ta σ H1 Q else tb σ H1 Q
theorem sP (hc:PT X c tA)(ha:PE X a ta)(hb:PE X b tb):PE X (.IfExp c a b pos) (tIf tA ta tb):=by
 intro pins s σ H Q I h;refine wpAny_IfExp (bC (hc pins s σ H _ I h) fun d s1 ⟨H1,I1,q1⟩=>?_);cases d with
 |true=>exact ha pins s1 σ H1 Q I1 q1
 |false=>exact hb pins s1 σ H1 Q I1 q1
end
noncomputable def SqL (K:W.Frag)(H:Hp)(a:Addr)(xs:List V):Prop:=
 Rd H a (.lst xs)\/
  ∃(o:Obj) (its:Array Value) (n:Nat),K.lookup a=some o/\o.cls= .type "list"/\o.dict=none/\o.data= .seq its n/\its.size<=sizeLine/\Vals xs its.toList
noncomputable def SqT (K:W.Frag)(H:Hp)(a:Addr)(xs:List V):Prop:=
 Rd H a (.tup xs)\/
  ∃(o:Obj) (its:Array Value) (n:Nat),K.lookup a=some o/\o.cls= .type "tuple"/\o.data= .seq its n/\its.size<=sizeLine/\Vals xs its.toList
noncomputable def Zj:Value->Option V
 | .none=>some .non
 | .bool b=>some (.bl b)
 | .int i _=>some (.int i)
 | .str x _=>some (.str x)
 | .bytes b _=>some (.byt b)
 | .float b _=>some (.flt b)
 | .ref a=>some (.ref a)
 | .type n=>some (.ty n)
 |_=>none
theorem RelV.abs {x:V}(r:RelV x u):Zj u=some x:=by
 cases x with
 |non=>cases r;rfl
 |bl _=>cases r;rfl
 |int _=>obtain⟨t,rfl⟩:=r;rfl
 |str _=>obtain⟨t,rfl⟩:=r;rfl
 |byt _=>obtain⟨t,rfl⟩:=r;rfl
 |flt _=>obtain⟨t,rfl⟩:=r;rfl
 |ref _=>cases r;rfl
 |ty _=>cases r;rfl
theorem RelV.inj {x y:V}(r:RelV x u)(q:RelV y u):x=y:=Option.some.inj (r.abs.symm.trans q.abs)
theorem Vals.inj:∀{xs ys:List V} {us:List Value},Vals xs us->Vals ys us->xs=ys
 |_,_,_,.nil,.nil=>rfl
 |_,_,_,.cons r t,.cons r' t'=>by rw[r.inj r',Vals.inj t t']
section
variable {X:Cx} {pins:List (Addr×Obj)} {σ:St} {H:Hp} {s:Shared} {a:Addr} {xs ys:List V}
theorem SqL.of (h:H a=some (.lst xs)):SqL K H a xs:= .inl (.inl h)
theorem SqT.of (h:H a=some (.tup xs)):SqT K H a xs:= .inl (.inl h)
theorem Inv.list (I:Inv X pins σ H s)(h:SqL X.K H a xs):∃its:List Value,Vals xs its/\PlainL s.heap a its.toArray/\xs.length<=sizeLine:=by
 rcases h with h|⟨o,its,n,hk,hc,hd,hs,hz,r⟩
 ·obtain⟨z,its,n,r,e⟩:=h.ok I.hok;exact⟨its,r,⟨_,n,e,rfl,rfl,rfl⟩,z⟩
 ·refine⟨its.toList,r,⟨o,n,I.kIn a o hk,hc,hd,by simpa using hs⟩,?_⟩;have e:=r.length;simp only[qau]at e;lia
theorem Inv.tuple (I:Inv X pins σ H s)(h:SqT X.K H a xs):∃its:List Value,Vals xs its/\IsTup s.heap a its.toArray/\xs.length<=sizeLine:=by
 rcases h with h|⟨o,its,n,hk,hc,hs,hz,r⟩
 ·obtain⟨z,its,r,p⟩:=h.ok I.hok;exact⟨its,r,p,z⟩
 ·refine⟨its.toList,r,⟨o,I.kIn a o hk,hc,n,by simpa using hs⟩,?_⟩;have e:=r.length;simp only[qau]at e;lia
theorem Inv.list_inj (I:Inv X pins σ H s)(h:SqL X.K H a xs)(h':SqL X.K H a ys):xs=ys:=by
 obtain⟨its,r,⟨o,n,e,_,_,d⟩,_⟩:=I.list h;obtain⟨its',r',⟨o',n',e',_,_,d'⟩,_⟩:=I.list h';rw[e]at e';cases e';rw[d]at d';injection d' with d1 _
 have:its=its':=by simpa using congrArg Array.toList d1
 subst this;exact r.inj r'
theorem Inv.tuple_inj (I:Inv X pins σ H s)(h:SqT X.K H a xs)(h':SqT X.K H a ys):xs=ys:=by
 obtain⟨its,r,⟨o,e,_,n,d⟩,_⟩:=I.tuple h;obtain⟨its',r',⟨o',e',_,n',d'⟩,_⟩:=I.tuple h';rw[e]at e';cases e';rw[d]at d';injection d' with d1 _
 have:its=its':=by simpa using congrArg Array.toList d1
 subst this;exact r.inj r'
end
noncomputable abbrev Cx.wish (X:Cx)(E:Value->Shared->Prop):Cx:={X with xe:=E}
noncomputable abbrev Cx.nox (X:Cx):Cx:=X.wish fun _ _=>False
theorem Cx.Ok.wish (ok:X.Ok)(E:Value->Shared->Prop):(X.wish E).Ok:=
 ⟨ok.mod,ok.kind,ok.glob,ok.blt,ok.above,ok.inj,ok.has,ok.cab,ok.hd,ok.frames,ok.stk,ok.exf,ok.bs,ok.bsz,ok.noex,ok.exfs,ok.funs,ok.frf⟩
theorem Cx.Ok.unwish (ok:(X.wish E).Ok):X.Ok:=
 ⟨ok.mod,ok.kind,ok.glob,ok.blt,ok.above,ok.inj,ok.has,ok.cab,ok.hd,ok.frames,ok.stk,ok.exf,ok.bs,ok.bsz,ok.noex,ok.exfs,ok.funs,ok.frf⟩
section
variable {X:Cx} {pins:List (Addr×Obj)} {σ:St} {H:Hp} {s:Shared} {E:Value->Shared->Prop}
theorem Inv.wish (I:Inv X pins σ H s)(E:Value->Shared->Prop):Inv (X.wish E) pins σ H s:=⟨I.ok.wish E,I.os,I.bare,I.base,I.loc,I.cell,I.free,I.freeC,I.pin,I.hok,I.len⟩
theorem Inv.unwish (I:Inv (X.wish E) pins σ H s):Inv X pins σ H s:=⟨I.ok.unwish,I.os,I.bare,I.base,I.loc,I.cell,I.free,I.freeC,I.pin,I.hok,I.len⟩
theorem SP.unwish {D:Ends}{f:Flow}(h:SP (X.wish E) pins D f s'):SP X pins D f s':=by
 cases f with
 |next=>obtain⟨σ',H',I,q⟩:=h;exact⟨σ',H',I.unwish,q⟩
 |brk=>obtain⟨σ',H',I,q⟩:=h;exact⟨σ',H',I.unwish,q⟩
 |cont=>obtain⟨σ',H',I,q⟩:=h;exact⟨σ',H',I.unwish,q⟩
 |ret u=>obtain⟨v,σ',H',I,r,q⟩:=h;exact⟨v,σ',H',I.unwish,r,q⟩
theorem PSs.nox {st:List Stmt}{t:TS}(h:PSs X.nox st t):PSs X st t:=fun pins s σ H D I hw=>
 kW (h pins s σ H D (I.wish _) hw) (fun _ _ q=>q.unwish) fun _ _ z=>False.elim z
end
section
variable {X:Cx} {st:Stmt} {rest:List Stmt} {t u:TS} {e:Expr} {te:TE} {pos:Pos}
noncomputable def Si:TS:=fun D σ H=>D.nx σ H
noncomputable def tSeq (t u:TS):TS:=fun D σ H=>t {D with nx:=u D} σ H
theorem zC:PSs X [] Si:=fun _ _ σ H _ I h=>Ws ⟨σ,H,I,h⟩
theorem zo0 (h1:PS X st t)(h2:PSs X rest u):PSs X (st::rest) (tSeq t u):=by
 intro pins s σ H D I h;refine wpAny_execs_cons (bC (h1 pins s σ H {D with nx:=u D} I h) fun f s1 q=>?_);cases f with
 |next=>
  obtain⟨σ',H',I',q⟩:=q;exact h2 pins s1 σ' H' D I' q
 |ret v=>exact q
 |brk=>exact q
 |cont=>exact q
theorem yU (h1:PS X st t):PSs X [st] t:=by
 intro pins s σ H D I h;refine wpAny_execs_cons (bC (h1 pins s σ H D I h) fun f s1 q=>?_);cases f with
 |next=>exact Ws q
 |ret v=>exact q
 |brk=>exact q
 |cont=>exact q
theorem Inv.quiet (I:Inv X pins σ H s):interactive X.env=false:=by simp[interactive,I.ok.kind]
noncomputable def Py (te:TE):TS:=fun D σ H=>te σ H fun _ H1=>D.nx σ H1
theorem Zb (he:PE X e te)(hs:autoParam (swapsWith e none pos.line X.env=pure false) zu3._auto_1):PS X (.Expr e pos) (Py te):=by
 intro pins s σ H D I h;exact wpAny_Expr_any (bC (he pins s σ H _ I h) fun v s1 ⟨x,H1,I1,r1,q1⟩=>⟨σ,H1,I1,q1⟩) I.quiet hs
noncomputable def tRet (te:TE):TS:=fun D σ H=>te σ H D.rt
theorem Xo (he:PE X e te):PS X (.Return (some e) pos) (tRet te):=by
 intro pins s σ H D I h;exact wpAny_Return_some (bC (he pins s σ H _ I h) fun v s1 ⟨x,H1,I1,r1,q1⟩=>⟨x,σ,H1,I1,r1,q1⟩)
noncomputable def tIfS (c:TT)(t u:TS):TS:=fun D σ H=>c σ H fun b H1=>if b=true then t D σ H1 else u D σ H1
theorem Cd {a b:List Stmt}(hc:PT X c tc)(ha:PSs X a t)(hb:PSs X b u):PS X (.If c a b pos) (tIfS tc t u):=by
 intro pins s σ H D I h;refine wpAny_If (bC (hc pins s σ H _ I h) fun d s1 ⟨H1,I1,q1⟩=>?_);cases d with
 |true=>exact ha pins s1 σ H1 D I1 q1
 |false=>exact hb pins s1 σ H1 D I1 q1
noncomputable def Cr:TS:=fun _ _ _=>False
theorem rO:PS X st Cr:=fun _ _ _ _ _ _ h=>h.elim
end
noncomputable abbrev TG:=V->St->Hp->(St->Hp->Prop)->Prop
noncomputable abbrev nO:=List V->St->Hp->(St->Hp->Prop)->Prop
noncomputable def PG (X:Cx)(target:Expr)(t:TG):Prop:=
 ∀(pins:List (Addr×Obj)) (s:Shared) (σ:St) (H:Hp) (v:V) (u:Value) (Q:St->Hp->Prop),Inv X pins σ H s->RelV v u->t v σ H Q->
  wpAny (model X.prog X.w) X.A (assign target X.env u) (fun _ s'=>∃σ' H',Inv X pins σ' H' s'/\Q σ' H') X.xe s
noncomputable def Bu (X:Cx)(ts:List Expr)(t:nO):Prop:=
 ∀(pins:List (Addr×Obj)) (s:Shared) (σ:St) (H:Hp) (vs:List V) (us:List Value) (Q:St->Hp->Prop),Inv X pins σ H s->Vals vs us->t vs σ H Q->
  wpAny (model X.prog X.w) X.A (assignInOrder ((assignEach ts X.env).map (·.2)) us) (fun _ s'=>∃σ' H',Inv X pins σ' H' s'/\Q σ' H') X.xe s
noncomputable abbrev Jz:=V->V->V->Hp->(Hp->Prop)->Prop
noncomputable def Pj (X:Cx)(t:Jz):Prop:=
 ∀(pins:List (Addr×Obj)) (s:Shared) (σ:St) (H:Hp) (o i v:V) (ov iv u:Value) (Q:Hp->Prop),Inv X pins σ H s->RelV o ov->RelV i iv->RelV v u->t o i v H Q->
  wpAny (model X.prog X.w) X.A (setItem ov iv u) (fun _ s'=>∃H',Inv X pins σ H' s'/\Q H') X.xe s
noncomputable abbrev Tv:=V->V->Hp->VK->Prop
noncomputable def Tq (X:Cx)(op:Operator)(t:Tv):Prop:=
 ∀(pins:List (Addr×Obj)) (s:Shared) (σ:St) (H:Hp) (x y:V) (v u:Value) (Q:VK),Inv X pins σ H s->RelV x v->RelV y u->t x y H Q->
  wpAny (model X.prog X.w) X.A (inplaceOp op v u) (EP X pins σ Q) X.xe s
section
variable {X:Cx} {pos:Pos}
noncomputable def mX (i:Nat):TG:=fun v σ H Q=>Q (σ.set i (some v)) H
theorem zoi (hN:X.N.Nodup)(hi:X.N[i]? =some x)(hx:iP X.env.scope x)(hf:autoParam (X.fn x=true\/X.env.scope.names.lookup x=some .local) zu0._auto_1):PG X (.Name x pos) (mX i):=by
  intro pins s σ H v u Q I r h;exact wpAny_assign_Name (Sd I hN hi hx r (fun s' I'=>⟨_,H,I',h⟩) hf)
noncomputable def Pa:nO:=fun vs σ H Q=>vs=[]/\Q σ H
noncomputable def Cm (t:TG)(u:nO):nO:=fun vs σ H Q=>∃v r,vs=v::r/\t v σ H fun σ' H'=>u r σ' H' Q
theorem zp6:Bu X [] Pa:=by
 intro pins s σ H vs us Q I r h;obtain⟨e,h⟩:=h;subst e;cases r;exact assignInOrder_nil ⟨σ,H,I,h⟩
theorem zpl {t:TG}{u:nO}(h1:PG X e t)(h2:Bu X es u)
  (hs:autoParam ((assignEach (e::es) X.env).map (·.2)=assign e X.env::(assignEach es X.env).map (·.2)) zu3._auto_1):Bu X (e::es) (Cm t u):=by
 intro pins s σ H vs us Q I r h;obtain⟨v,vr,e1,h⟩:=h;subst e1;cases r with
 |cons r rr=>
  rw[hs];refine assignInOrder_cons (bC (h1 pins s σ H _ _ _ I r h) fun _ s1 ⟨σ1,H1,I1,q1⟩=>?_);exact h2 pins s1 σ1 H1 _ _ Q I1 rr q1
noncomputable def gTup (K:W.Frag)(n:Nat)(t:nO):TG:=fun v σ H Q=>∃a xs,v= .ref a/\SqT K H a xs/\xs.length=n/\t xs σ H Q
theorem Js {k:Nat}{t:nO}(hc:X.calm=true)(h:Bu X es t)
  (hn:autoParam ((assignEach es X.env).length=n) zu3._auto_1) (hst:autoParam ((assignEach es X.env).findIdx? (·.1)=none) zu3._auto_1):PG X (.Tuple es k pos) (gTup X.K n t):=by
 intro pins s σ H v u Q I r hw;obtain⟨a,xs,e1,hq,hl,hw⟩:=hw;subst e1;cases r;obtain⟨its,rv,ht,hz⟩:=I.tuple hq;refine assign_Tuple_tuple (I.ok.hd hc) ht (by simp[hn,<-hl,rv.length]) hst fun h' hx=>?_
 have I1:Inv X pins σ H {s with heap:=h'}:=I.kept (t':=s.toks) fun b o e=>hx b o (gC (cY e)) e
 exact h pins _ σ H xs _ Q I1 (by simpa using rv) hw
noncomputable def gSub (to ti:TE)(t:Jz):TG:=fun v σ H Q=>to σ H fun o H1=>ti σ H1 fun i H2=>t o i v H2 fun H3=>Q σ H3
theorem pQ {o i:Expr}{to ti:TE}{t:Jz}(ho:PE X o to)(hi:PE X i ti)(hs:Pj X t)
    (ha :autoParam (∀ v, assign (.Subscript o i pos) X.env v = (do
      let ov<-holding [v] (eval o X.env)
      let iv<-holding [v,ov] (eval i X.env)
      standAt pos
      holding [v,ov,iv] (setItem ov iv v)
      release [v,ov,iv] [])) zu4._auto_1):PG X (.Subscript o i pos) (gSub to ti t):=by
  intro pins s σ H v u Q I r h;rw[ha];refine aL (jL (bC (ho pins s σ H _ I h) fun ov s1 ⟨x,H1,I1,r1,q1⟩=>?_));refine aL (jL (bC (hi pins s1 σ H1 _ I1 q1) fun iv s2 ⟨y,H2,I2,r2,q2⟩=>?_));refine aL (Ny (aL (jL (bC (hs pins s2 σ H2 x y v ov iv u _ I2 r1 r2 r q2) fun _ s3 ⟨H3,I3,q3⟩=>?_))));exact wpAny_release ⟨σ,H3,I3,q3⟩
noncomputable def Oh (te:TE)(g:TG):TS:=fun D σ H=>te σ H fun x H1=>g x σ H1 D.nx
theorem zqd {g:TG}(he:PE X e te)(hg:PG X tg g)(hs:autoParam (swapsWithSole [tg] e pos.line X.env=pure false) zu3._auto_1)(hw:autoParam (swappedStores [tg] e X.env=pure none) zu3._auto_1)
  (h1:autoParam ((assignEach [tg] X.env).map (·.2)=[assign tg X.env]) zu3._auto_1):PS X (.Assign [tg] e pos) (Oh te g):=by
 intro pins s σ H D I h;refine wpAny_Assign_stores (bC (he pins s σ H _ I h) fun v s1 ⟨x,H1,I1,r1,q1⟩=>?_) hs hw;rw[h1];exact bC (hg pins s1 σ H1 x v _ I1 r1 q1) fun _ s2 q=>q
theorem Xw (hN:X.N.Nodup)(hi:X.N[i]? =some x)(hx:iP X.env.scope x)(he:PE X e te)(hs:autoParam (swapsWith e (some (.Name x pos')) pos.line X.env=pure false) zu3._auto_1)(hf:autoParam (X.fn x=true\/X.env.scope.names.lookup x=some .local) zu0._auto_1):
  PS X (.Assign [.Name x pos'] e pos) (Oh te (mX i)):=by
 intro pins s σ H D I h;refine wpAny_Assign_Name (bC (he pins s σ H _ I h) fun v s1 ⟨y,H1,I1,r1,q1⟩=>?_) hs;exact Sd I1 hN hi hx r1 (fun s2 I2=>⟨_,H1,I2,q1⟩) hf
noncomputable def Yf (i j:Nat)(ta:TA):TS:=fun D σ H=>ta σ H fun vs H1=>∃v w,vs=[v,w]/\D.nx ((σ.set i (some v)).set j (some w)) H1
theorem Gj {x y:Str}{a b:Expr}{px py pt:Pos}{kt k2 pt2}(hc:X.calm=true)(hN:X.N.Nodup)(hi:X.N[i]? =some x)(hj:X.N[j]? =some y)(hij:i≠j)
  (hx:X.env.scope.names.lookup x=some .local) (hy:X.env.scope.names.lookup y=some .local) (ha:PA X [a,b] ta)
  (hw:swappedStores [.Tuple [.Name x px,.Name y py] kt pt] (.Tuple [a,b] k2 pt2) X.env=pure (some [x,y]))
  (hs:autoParam (swapsWithSole [.Tuple [.Name x px,.Name y py] kt pt] (.Tuple [a,b] k2 pt2) pos.line X.env=pure false) zu3._auto_1):
  PS X (.Assign [.Tuple [.Name x px,.Name y py] kt pt] (.Tuple [a,b] k2 pt2) pos) (Yf i j ta):=by
 intro pins s σ H D I h;rw[exec_Assign_arm];refine aL (Ny ?_);rw[hs];refine aL (qaz ?_);rw[if_neg (by decide)];refine aL (Tuple_ (bC (ha _ pins s σ H _ I h) fun us s1 ⟨vs,H1,I1,r1,q1⟩=>?_));obtain⟨v,w,e1,q1⟩:=q1;subst e1;obtain⟨u1,u2,rfl,rv,rw'⟩:∃u1 u2,us=[u1,u2]/\RelV v u1/\RelV w u2:=by
  cases r1 with
  |cons p q=>
   cases q with
   |cons p' q'=>
    cases q';exact⟨_,_,rfl,p,p'⟩
 refine vY ?_ (by show 2<=sizeLine;decide);have I2:Inv X pins σ H1 {s1 with heap:=s1.heap.push {cls:= .type "tuple",data:= .seq [u1,u2].toArray}}:=I1.kept (t':=s1.toks) fun b o e=>bH _ e
 rw[hw];refine aL (qaz ?_);show wpAny (model X.prog X.w) X.A (do rule "assign.swapped-stores";let items<-unpackItems (.ref s1.heap.objs.size) 2 none;assignInOrder [fun v=>bindName X.env y v,fun v=>bindName X.env x v] items.reverse;pure Flow.next) _ _ _;refine aL (Bx (aL (unpackItems_tuple (items:= #[u1,u2]) (I.ok.hd hc) (IsTup.new s1.heap _) fun h' hx'=>?_)));have I3:=I2.kept (h':=h') (t':=s1.toks) fun b o e=>hx' b o (gC (cY e)) e
 show wpAny _ _ (assignInOrder [fun v=>bindName X.env y v,fun v=>bindName X.env x v] [u2,u1]>>=fun _=>pure Flow.next) _ _ _;refine aL (assignInOrder_cons (wpAny_bindName (Sd I3 hN hj (.inl hy) rw' (fun s2 I4=>?_) (.inr hy))));refine assignInOrder_cons (wpAny_bindName (Sd I4 hN hi (.inl hx) rv (fun s3 I5=>assignInOrder_nil (qaz ?_)) (.inr hx)));rw[List.set_comm _ _ (Ne.symm hij)]at I5;exact⟨_,H1,I5,q1⟩
noncomputable def tAug (i:Nat)(te:TE)(ti:Tv):TS:=fun D σ H=>∃x,σ[i]? =some (some x)/\te σ H fun y H1=>ti x y H1 fun z H2=>D.nx (σ.set i (some z)) H2
theorem Du {op:Operator}{ti:Tv}(hN:X.N.Nodup)(hi:X.N[i]? =some x)(hx:iP X.env.scope x)(he:PE X e te)(ho:Tq X op ti)(hf:autoParam (X.fn x=true\/X.env.scope.names.lookup x=some .local) zu0._auto_1):
  PS X (.AugAssign (.Name x pos') op e pos) (tAug i te ti):=by
 intro pins s σ H D I h;obtain⟨v,e1,h⟩:=h;obtain⟨m,hn,hl⟩:=I.loc;have vis:iA X.env.scope x:=by rcases hx with k|k;exact .inl k;exact .inr (.inl k)
 obtain⟨u,r,l⟩:=hl i x v hi e1 vis;refine wpAny_AugAssign_Name ?_;have go:wpAny (model X.prog X.w) X.A (eval e X.env) (fun w s₂=>wpAny (model X.prog X.w) X.A (inplaceOp op u w) (fun r s₃=>wpAny (model X.prog X.w) X.A (storeName X.env x r) (fun _=>SP X pins D .next) X.xe s₃) X.xe s₂) X.xe s:=by
  refine bC (he pins s σ H _ I h) fun w s1 ⟨y,H1,I1,r1,q1⟩=>?_
  refine bC (ho pins s1 σ H1 v y u w _ I1 r r1 q1) fun z s2 ⟨zv,H2,I2,r2,q2⟩=>?_
  exact Sd I2 hN hi hx r2 (fun s3 I3=>⟨_,H2,I3,q2⟩) hf
 rcases l with⟨hk,hm⟩|⟨hk,c,hc,hcell⟩
 ·exact wpAny_loadName_local I.ok.kind hk hn hm go
 ·rcases hk with hk|hk
  ·exact wpAny_loadName_cell I.ok.kind hk hc hcell go
  ·rcases hx with k|k
   ·have:X.env.scope.names.lookup x=some .free:=hk;rw[k]at this;cases this
   ·have:X.env.scope.names.lookup x=some .free:=hk;rw[k]at this;cases this
noncomputable def ipI (f:Int->Int->Int):Tv:=fun x y H Q=>∃i j,x= .int i/\y= .int j/\Q (.int (f i j)) H
theorem Hr:Tq X .Add (ipI fun i j=>i+j):=by
 intro pins s σ H x y v u Q I r1 r2 h;obtain⟨i,j,e1,e2,q⟩:=h;subst e1;subst e2;obtain⟨t,rfl⟩:=r1;obtain⟨t',rfl⟩:=r2;exact iadd_int ⟨.int _,H,I.tok _,⟨_,rfl⟩,q⟩
theorem Dw:Tq X .Sub (ipI fun i j=>i-j):=by
 intro pins s σ H x y v u Q I r1 r2 h;obtain⟨i,j,e1,e2,q⟩:=h;subst e1;subst e2;obtain⟨t,rfl⟩:=r1;obtain⟨t',rfl⟩:=r2;exact isub_int ⟨.int _,H,I.tok _,⟨_,rfl⟩,q⟩
end
section
variable {X:Cx} {pos:Pos}
noncomputable def Dq (c:TT)(tb:TS):TS:=fun D σ H=>∃W:Nat->St->Hp->Prop,(∃m,W m σ H)/\∀m σ H,W m σ H->
 c σ H fun b H1=>if b=true then ∃N:St->Hp->Prop,(∀σ' H',N σ' H'->∃m',m'<m/\W m' σ' H')/\tb {D with nx:=N,ct:=N,bk:=D.nx} σ H1 else D.nx σ H1
theorem sF (hp:PassesOwn (model X.prog X.w) X.A X.env X.xe)(hc:PT X c tc)(hb:PSs X body tb):PS X (.While c body [] pos) (Dq tc tb):=by
 intro pins s σ H D I h;obtain⟨W,⟨m0,w0⟩,turn⟩:=h;refine wpAny_While (codeAny_whileLoop (fun n s'=>∃σ' H',Inv X pins σ' H' s'/\W n σ' H') ?_ m0 ⟨σ,H,I,w0⟩);rintro n s1 ⟨σ1,H1,I1,w1⟩;refine Dl hp (bC (hc pins s1 σ1 H1 _ I1 (turn n σ1 H1 w1)) fun b s2 ⟨H2,I2,q2⟩=>?_);cases b with
 |true=>
  obtain⟨N,hN,q2⟩:=q2;rw[if_pos rfl];refine Dl hp (bC (hb pins s2 σ1 H2 _ I2 q2) fun f s3 q3=>?_);cases f with
  |next=>
   obtain⟨σ3,H3,I3,n3⟩:=q3;obtain⟨m',hm,w3⟩:=hN σ3 H3 n3;exact⟨m',hm,σ3,H3,I3,w3⟩
  |cont=>
   obtain⟨σ3,H3,I3,n3⟩:=q3;obtain⟨m',hm,w3⟩:=hN σ3 H3 n3;exact⟨m',hm,σ3,H3,I3,w3⟩
  |brk=>exact q3
  |ret v=>exact q3
 |false=>
  rw[if_neg iX];exact Ws ⟨σ1,H2,I2,q2⟩
end
structure It where
 go:Nat->Hp->Prop
 yld:Nat->Hp->V->Hp->Prop
 stop:Nat->Hp->Prop
noncomputable def eB (X:Cx)(pins:List (Addr×Obj))(H:Hp)(b:Addr):Prop:=
 H b=none/\b≠X.env.locals/\b∉X.fs/\(b∈X.ex\/X.s₀.heap.objs.size<=b)/\(∀x c,X.env.cells.lookup x=some c->c≠b)/\∀p∈X.pn++pins,p.1≠b
theorem Inv.fpOk {H H':Hp}(I:Inv X pins σ H s)(hb:s.heap.objs.size<=b)(hn:H' b=none):eB X pins H' b:=by
 refine⟨hn,Nat.ne_of_gt (iH I.lt hb),I.nofs hb,.inr (gY I.sz hb),fun x c e z=>?_,fun p hp z=>?_⟩
 ·obtain⟨v,q⟩:=I.cell x c e;exact absurd (iH q.lt (by rw[z];exact hb)) (lV _)
 ·exact absurd (iH (cY (I.pin p hp).1) (by rw[z];exact hb)) (lV _)
structure Turn (P:Program) (w:World) (K:W.Frag) (tg:Expr) (J:It) (fp:List Addr) (it:Addr) (tn:Nat->Heap->Prop):Prop where
 mem:it∈fp
 obj:∀i h,tn i h->∀b∈fp,∃o,h.get? b=some o/\∀v,o.data≠ .cell v
 keep:∀i h h',tn i h->(∀b∈fp,∀o,h.get? b=some o->h'.get? b=some o)->tn i h'
 item:∀(X:Cx),X.prog=P->X.w=w->X.K=K->X.calm=true->∀(i:Nat) (pins:List (Addr×Obj)) (s:Shared) (σ:St) (H:Hp) (E:Value->Shared->Prop),Inv X pins σ H s->(∀b∈fp,eB X pins H b)->tn i s.heap->J.go i H->
  wpAny (model P w) X.A (pyNext (.ref it)) (fun r s1=>∃u,r=some u/\
   wpAny (model P w) X.A (letOwnedTupleGo tg (.ref it) u) (fun _ s2=>∃x H',Inv X pins σ H' s2/\RelV x u/\J.yld i H x H'/\tn (i+1) s2.heap/\∀b∈fp,H' b=none) E s1) E s
 done:∀(X:Cx),X.prog=P->X.w=w->X.K=K->X.calm=true->∀(i:Nat) (pins:List (Addr×Obj)) (s:Shared) (σ:St) (H:Hp) (E:Value->Shared->Prop),Inv X pins σ H s->(∀b∈fp,eB X pins H b)->tn i s.heap->J.stop i H->
  wpAny (model P w) X.A (pyNext (.ref it)) (fun r s1=>r=none/\Inv X pins σ H s1) E s
 self:∀(A:Around) (i:Nat) (s:Shared) (Q:Value->Shared->Prop) (E:Value->Shared->Prop),tn i s.heap->Q (.ref it) s->wpAny (model P w) A (pyIter (.ref it)) Q E s
noncomputable abbrev TI:=St->Hp->(It->Hp->Prop)->Prop
noncomputable def PIE (X:Cx)(pins:List (Addr×Obj))(σ:St)(tg:Expr)(R:It->Hp->Prop)(itv:Value)(s2:Shared):Prop:=
 ∃(it:Addr) (fp:List Addr) (tn:Nat->Heap->Prop) (J:It) (H':Hp),itv= .ref it/\Inv X pins σ H' s2/\Turn X.prog X.w X.K tg J fp it tn/\tn 0 s2.heap/\(∀b∈fp,eB X pins H' b)/\R J H'
noncomputable def PI (X:Cx)(tg iter:Expr)(wi:TI):Prop:=
 ∀(pins:List (Addr×Obj)) (s:Shared) (σ:St) (H:Hp) (R:It->Hp->Prop),Inv X pins σ H s->wi σ H R->
  wpAny (model X.prog X.w) X.A (eval iter X.env) (fun v s1=>wpAny (model X.prog X.w) X.A (pyIter v) (PIE X pins σ tg R) X.xe s1) X.xe s
theorem kM {M:Model}{o:Obj}{n:String}{vs:Array Value}(ho:s.heap.get? it=some o)(hc:o.cls= .type n)(hd:o.data= .fields vs)
    (hn:["enumerate","zip","dict_itemiterator","dict_reverseitemiterator","odict_iterator","itertools.zip_longest","itertools.pairwise"].contains n=false) (hQ:Q () s):wpAny M A (letOwnedTupleGo tg (.ref it) u) Q E s:=by
  unfold letOwnedTupleGo;cases tg<;>first
    |exact qaz hQ
    | (cases u <;> first
        |exact qaz hQ
        | (refine aL (wpAny_load ho ?_)
           rw[hc,hd];show wpAny M A (if(["enumerate","zip","dict_itemiterator","dict_reverseitemiterator","odict_iterator","itertools.zip_longest","itertools.pairwise"].contains n&&vs[0]? ==some (rawInt _))=true then _ else _) Q E s;rw[if_neg (by intro h;rw[hn,Bool.false_and]at h;cases h)];exact qaz hQ))
noncomputable def Zh (K:W.Frag)(a:Addr):It:=
 ⟨fun i H=>∃xs x,SqL K H a xs/\xs[i]? =some x,fun i H x H'=>H'=H/\∀xs,SqL K H a xs->xs[i]? =some x,fun i H=>∃xs,SqL K H a xs/\xs.length<=i⟩
noncomputable def Ym (K:W.Frag)(a:Addr):It:=
 ⟨fun i H=>∃xs x,SqT K H a xs/\xs[i]? =some x,fun i H x H'=>H'=H/\∀xs,SqT K H a xs->xs[i]? =some x,fun i H=>∃xs,SqT K H a xs/\xs.length<=i⟩
noncomputable def Ol (lo:Int)(n:Nat):It:=⟨fun i _=>i<n,fun i H x H'=>H'=H/\x= .int (lo+i),fun i _=>n<=i⟩
theorem zrE {P:Program}(a it:Addr):Turn P w K tg (Zh K a) [it] it (fun i h=>h.IsListIter it a i) where
 mem:=by simp
 obj:=fun i h st b hb=>by
  have e:b=it:=by simpa using hb
  subst e;obtain⟨o,e,c,d⟩:=st;exact⟨o,e,fun v z=>by rw[d]at z;cases z⟩
 keep:=fun i h h' st k=>st.at fun o e=>k it (by simp) o e
 item:=by
  intro X hP hw hK hc i pins s σ H E I hf st hg;subst hP hw hK;obtain⟨xs,x,hq,hx⟩:=hg;obtain⟨its,rv,p,hz⟩:=I.list hq;obtain⟨u,hu,ru⟩:=rv.get hx;obtain⟨f0,f1,f2,f3,f4,f5⟩:=hf it (by simp);refine wpAny_pyNext_list_item st p.isList (x:=u) (by simpa using hu) fun h' st' sb=>?_
  have I1:Inv X pins σ H {s with heap:=h'}:=I.turned (t':=s.toks) (fun b o hb e=>(sb.2 b hb).trans e) f0 f1 f3 f4 f5;obtain⟨o,e,c,d⟩:=id st';exact⟨u,rfl,kM (s:={s with heap:=h'}) e c d (by decide) ⟨x,H,I1,ru,⟨rfl,fun ys hy=>by rw[I.list_inj hy hq];exact hx⟩,st',fun b hb=>(hf b hb).1⟩⟩
 done:=by
  intro X hP hw hK hc i pins s σ H E I hf st hg;subst hP hw hK;obtain⟨xs,hq,hx⟩:=hg;obtain⟨its,rv,p,hz⟩:=I.list hq;obtain⟨f0,f1,f2,f3,f4,f5⟩:=hf it (by simp);have hl:=rv.length;exact wpAny_pyNext_list_end (I.ok.hd hc) st p.isList (by simp;lia) fun h' eb=>⟨rfl,I.turned (t':=s.toks) (fun b o hb e=>eb b o hb e) f0 f1 f3 f4 f5⟩
 self:=fun _ _ _ _ _ st h=>wpAny_pyIter_listiter st h
theorem zpU {P:Program}(a it:Addr):Turn P w K tg (Ym K a) [it] it (fun i h=>h.IsTupleIter it a i) where
 mem:=by simp
 obj:=fun i h st b hb=>by
  have e:b=it:=by simpa using hb
  subst e;obtain⟨o,e,c,d⟩:=st;exact⟨o,e,fun v z=>by rw[d]at z;cases z⟩
 keep:=fun i h h' st k=>st.at fun o e=>k it (by simp) o e
 item:=by
  intro X hP hw hK hc i pins s σ H E I hf st hg;subst hP hw hK;obtain⟨xs,x,hq,hx⟩:=hg;obtain⟨its,rv,p,hz⟩:=I.tuple hq;obtain⟨u,hu,ru⟩:=rv.get hx;obtain⟨f0,f1,f2,f3,f4,f5⟩:=hf it (by simp);refine wpAny_pyNext_tuple_item st (show s.heap.IsTuple a its.toArray from p) (x:=u) (by simpa using hu) fun h' st' sb=>?_
  have I1:Inv X pins σ H {s with heap:=h'}:=I.turned (t':=s.toks) (fun b o hb e=>(sb.2 b hb).trans e) f0 f1 f3 f4 f5;obtain⟨o,e,c,d⟩:=id st';exact⟨u,rfl,kM (s:={s with heap:=h'}) e c d (by decide) ⟨x,H,I1,ru,⟨rfl,fun ys hy=>by rw[I.tuple_inj hy hq];exact hx⟩,st',fun b hb=>(hf b hb).1⟩⟩
 done:=by
  intro X hP hw hK hc i pins s σ H E I hf st hg;subst hP hw hK;obtain⟨xs,hq,hx⟩:=hg;obtain⟨its,rv,p,hz⟩:=I.tuple hq;obtain⟨f0,f1,f2,f3,f4,f5⟩:=hf it (by simp);have hl:=rv.length;exact wpAny_pyNext_tuple_end (I.ok.hd hc) st (show s.heap.IsTuple a its.toArray from p) (by simp;lia) fun h' eb=>⟨rfl,I.turned (t':=s.toks) (fun b o hb e=>eb b o hb e) f0 f1 f3 f4 f5⟩
 self:=fun _ _ _ _ _ st h=>wpAny_pyIter_tupleiter st h
theorem zpG {P:Program}{w:World}(it:Addr)(lo:Int)(n:Nat):Turn P w K tg (Ol lo n) [it] it (fun i h=>IsRangeIter h it (lo+(i:Nat)*1) ((n:Int)-(i:Nat)) 1) where
 mem:=by simp
 obj:=fun i h st b hb=>by
  have e:b=it:=by simpa using hb
  subst e;exact⟨_,st,fun v z=>by
   have z':Data.fields _=Data.cell v:=z;cases z'⟩
 keep:=fun i h h' st k=>k it (by simp) _ st
 item:=by
  intro X hP hw hK hc i pins s σ H E I hf st hg;subst hP hw hK;obtain⟨f0,f1,f2,f3,f4,f5⟩:=hf it (by simp);have W:=Walks.range (prog:=X.prog) (w:=X.w) (I.ok.hd hc) it lo 1 n;refine W.item i s _ _ hg st fun v h' tk hv st' kk=>?_
  obtain⟨t,rfl⟩:=hv;have I1:Inv X pins σ H {s with heap:=h',toks:=tk}:=I.turned (fun b o hb e=>kk b o (by simpa using hb) e) f0 f1 f3 f4 f5;refine⟨_,rfl,kM (s:={s with heap:=h',toks:=tk}) (n:="range_iterator") st' rfl rfl (by decide) ⟨.int (lo+i),H,I1,⟨t,?_⟩,⟨rfl,rfl⟩,st',fun b hb=>(hf b hb).1⟩⟩;rw[Int.mul_one]
 done:=by
  intro X hP hw hK hc i pins s σ H E I hf st hg;subst hP hw hK;obtain⟨f0,f1,f2,f3,f4,f5⟩:=hf it (by simp);exact wpAny_pyNext_range_end (I.ok.hd hc) st (by have:n<=i:=hg;lia) fun h' eb=>⟨rfl,I.turned (t':=s.toks) (fun b o hb e=>eb b o hb e) f0 f1 f3 f4 f5⟩
 self:=fun _ _ _ _ _ st h=>wpAny_pyIter_rangeiter st h
section
variable {X:Cx} {tg:Expr}
theorem zpg {R:It->Hp->Prop}{lo hi:Int}{t u v:Tok}{tk:Nat}(I:Inv X pins σ H s)(h1: -(2^62)<=lo)(h2:lo<2^62)(h3: -(2^62)<=hi)(h4:hi<2^62)
  (q:R (Ol lo (hi-lo).toNat) H):wpAny (model X.prog X.w) X.A (pyIter (.ref s.heap.objs.size)) (PIE X pins σ tg R) E {s with heap:=s.heap.push {cls:= .type "range",data:= .fields #[.int lo t,.int hi u,.int 1 v]},toks:=tk}:=by
 refine wpAny_pyIter_range (IsRange.new ..) (small_one h1 h2 h3 h4) ?_;have I1:Inv X pins σ H {s with heap:=s.heap.push {cls:= .type "range",data:= .fields #[.int lo t,.int hi u,.int 1 v]},toks:=tk}:=I.kept fun b o e=>bH _ e
 refine⟨(s.heap.push {cls:= .type "range",data:= .fields #[.int lo t,.int hi u,.int 1 v]}).objs.size,[(s.heap.push {cls:= .type "range",data:= .fields #[.int lo t,.int hi u,.int 1 v]}).objs.size],_,_,H,rfl,
  I1.kept (t':=tk) fun b o e=>bH _ e,zpG _ lo (hi-lo).toNat,?_,fun b hb=>?_,q⟩
 ·have e1:lo+((0:Nat):Int)*1=lo:=by simp
  have e2:(((hi-lo).toNat:Nat):Int)-((0:Nat):Int)=Builtin.Range.rangeSize lo hi 1:=by rw[rangeSize_one];split<;>lia
  show IsRangeIter _ _ (lo+((0:Nat):Int)*1) ((((hi-lo).toNat:Nat):Int)-((0:Nat):Int)) 1;rw[e1,e2];exact eR _ rfl
 ·have e:b=(s.heap.push {cls:= .type "range",data:= .fields #[.int lo t,.int hi u,.int 1 v]}).objs.size:=by simpa using hb
  subst e;exact I1.fpOk (bU _) (I1.hok.fresh (bU _))
noncomputable def Rh (ta:TA):TI:=fun σ H R=>ta σ H fun vs H1=>∃j:Int,vs=[.int j]/\ -(2^62)<=j/\j<2^62/\R (Ol 0 j.toNat) H1
noncomputable def Mw (ta:TA):TI:=fun σ H R=>ta σ H fun vs H1=>∃i j:Int,vs=[.int i,.int j]/\(-(2^62)<=i/\i<2^62/\ -(2^62)<=j/\j<2^62)/\R (Ol i (j-i).toNat) H1
theorem zq1 {a:Expr}{p pos:Pos}(hg:Gl X "range")(hm:X.mg "range"=none)(ha:PA X [a] ta)(hs:autoParam (starEach [a] X.env=[(false,eval a X.env)]) zu3._auto_1):PI X tg (.Call (.Name "range" p) [a] [] pos) (Rh ta):=by
 intro pins s σ H R I h;refine Call_ (yF I hg hm boot_range (Cw (bC (ha pos pins s σ H _ I h) fun us s1 ⟨vs,H1,I1,r1,q1⟩=>?_) hs rfl));obtain⟨j,e,q1,q2,q⟩:=q1;subst e;cases r1 with
 |cons r rr=>
  cases rr;obtain⟨t,rfl⟩:=r;exact call_range_1 (zpg I1 (by lia) (by lia) q1 q2 (by simpa using q))
theorem zqF {a b:Expr}{p pos:Pos}(hg:Gl X "range")(hm:X.mg "range"=none)(ha:PA X [a,b] ta)(hs:autoParam (starEach [a,b] X.env=[(false,eval a X.env),(false,eval b X.env)]) zu3._auto_1)(hs2:autoParam (starEach [b] X.env=[(false,eval b X.env)]) zu3._auto_1):
  PI X tg (.Call (.Name "range" p) [a,b] [] pos) (Mw ta):=by
 intro pins s σ H R I h;refine Call_ (yF I hg hm boot_range (Cw (bC (ha pos pins s σ H _ I h) fun us s1 ⟨vs,H1,I1,r1,q1⟩=>?_) (by rw[hs,hs2]) (by rw[hs2];rfl)));obtain⟨i,j,e,⟨q1,q2,q3,q4⟩,q⟩:=q1;subst e;cases r1 with
 |cons r rr=>
  cases rr with
  |cons r' rr=>
   cases rr;obtain⟨t,rfl⟩:=r;obtain⟨t',rfl⟩:=r';exact call_range_2 (zpg I1 q1 q2 q3 q4 q)
noncomputable def tFor (wi:TI)(g:TG)(tb:TS):TS:=fun D σ H=>wi σ H fun J H1=>∃W:Nat->Nat->St->Hp->Prop,(∃m,W 0 m σ H1)/\∀i m σ H,W i m σ H->
 (J.stop i H/\D.nx σ H)\/(J.go i H/\∃N:St->Hp->Prop,(∀σ' H',N σ' H'->∃m',m'<m/\W (i+1) m' σ' H')/\∀x H',J.yld i H x H'->g x σ H' fun σ2 H2=>tb {D with nx:=N,ct:=N,bk:=D.nx} σ2 H2)
noncomputable def Pg (fp:List Addr)(h:Heap):List (Addr×Obj):=fp.filterMap fun b=>(h.get? b).map fun o=>(b,o)
theorem Vq {o:Obj}(hb:b∈fp)(e:h.get? b=some o):(b,o)∈Pg fp h:=qaI.mpr ⟨b,hb,by rw[e];rfl⟩
theorem zqt (hp:p∈Pg fp h):p.1∈fp/\h.get? p.1=some p.2:=by
 obtain⟨b,hb,e⟩:=qaI.mp hp;cases q:h.get? b with
 |none=>rw[q]at e;cases e
 |some o=>
  rw[q]at e;have e':(b,o)=p:=Option.some.inj e;subst e';exact⟨hb,q⟩
theorem Inv.pinned (I:Inv X pins σ H s)(hf:∀b∈fp,eB X pins H b)(ho:∀b∈fp,∃o,s.heap.get? b=some o/\∀v,o.data≠ .cell v):Inv X (pins++Pg fp s.heap) σ H s:=
 I.pins_of fun p hp=>(qan.mp hp).elim (fun z=>I.pin p (jK _ z)) fun z=>by
  obtain⟨hb,e⟩:=zqt z;obtain⟨f0,f1,f2,_⟩:=hf p.1 hb;obtain⟨o,e',d⟩:=ho p.1 hb;rw[e]at e';cases e';exact⟨e,f0,f1,f2,d⟩
theorem Inv.unpinned {pins pl:List (Addr×Obj)}(I:Inv X (pins++pl) σ H s):Inv X pins σ H s:=I.pins_of fun p hp=>I.pin p (jK _ (Lv _ hp))
theorem Kg {iter:Expr}{wi:TI}{g:TG}(hp:PassesOwn (model X.prog X.w) X.A X.env X.xe)(hc:X.calm=true)(hi:PI X tg iter wi)(hg:PG X tg g)(hb:PSs X body tb)
    (hs:autoParam (∀x,foldedSetIterable iter X.env x=pure x) zu4._auto_1):PS X (.For tg iter body [] pos) (tFor wi g tb):=by
  intro pins s σ H D I h;refine wpAny_For (bC (hi pins s σ H _ I h) fun v s1 h1=>bC h1 fun itv s2 h2=>?_) hs;obtain⟨it,fp,tn,J,H2,e,I2,T,st2,f2,W,⟨m0,w0⟩,turn⟩:=h2;subst e;have stat:∀{H':Hp},(∀b∈fp,H' b=none)->∀b∈fp,eB X pins H' b:=fun hn b hb=>⟨hn b hb,(f2 b hb).2⟩
  refine codeAny_forLoop_any (fun n s'=>∃i σ' H',Inv X pins σ' H' s'/\tn i s'.heap/\(∀b∈fp,H' b=none)/\W i n σ' H') ?_ m0 ⟨0,σ,H2,I2,st2,fun b hb=>(f2 b hb).1,w0⟩;rintro n s3 ⟨i,σ3,H3,I3,st3,fr3,w3⟩;rcases turn i n σ3 H3 w3 with⟨stop,qn⟩|⟨go,N,hN,step⟩
  . refine Dl hp (bC (T.done X rfl rfl rfl hc i pins s3 σ3 H3 X.xe I3 (stat fr3) st3 stop) fun r s4 ⟨hr,I4⟩=>?_)
    subst hr;exact Ws ⟨σ3,H3,I4,qn⟩
  . refine Dl hp (bC (T.item X rfl rfl rfl hc i pins s3 σ3 H3 X.xe I3 (stat fr3) st3 go) fun r s4 ⟨u,hr,h4⟩=>?_)
    subst hr;refine Dl hp (bC h4 fun _ s5 ⟨x,H5,I5,r5,y5,st5,fr5⟩=>?_);have I5':=I5.pinned (stat fr5) (T.obj _ _ st5);refine Dl hp (bC (hg _ s5 σ3 H5 x u _ I5' r5 (step x H5 y5)) fun _ s6 ⟨σ6,H6,I6,q6⟩=>?_);refine Dl hp (bC (hb _ s6 σ6 H6 _ I6 q6) fun f s7 q7=>?_);have again:∀{σ7:St} {H7:Hp},Inv X (pins++Pg fp s5.heap) σ7 H7 s7->N σ7 H7->∃m,m<n/\∃i σ' H',Inv X pins σ' H' s7/\tn i s7.heap/\(∀b∈fp,H' b=none)/\W i m σ' H':=fun{σ7 H7} I7 n7=>by
      obtain⟨m',hm,w7⟩:=hN σ7 H7 n7;refine⟨m',hm,i+1,σ7,H7,I7.unpinned,T.keep _ _ _ st5 fun b hb o e=>(I7.pin (b,o) (jK _ (jK _ (Vq hb e)))).1,fun b hb=>?_,w7⟩;obtain⟨o,e,d⟩:=T.obj _ _ st5 b hb;exact(I7.pin (b,o) (jK _ (jK _ (Vq hb e)))).2.1
    cases f with
    |next=>obtain⟨σ7,H7,I7,n7⟩:=q7;exact again I7 n7
    |cont=>obtain⟨σ7,H7,I7,n7⟩:=q7;exact again I7 n7
    |brk=>obtain⟨σ7,H7,I7,q7⟩:=q7;exact⟨σ7,H7,I7.unpinned,q7⟩
    |ret v=>obtain⟨x7,σ7,H7,I7,r7,q7⟩:=q7;exact⟨x7,σ7,H7,I7.unpinned,r7,q7⟩
end
noncomputable abbrev R2:=V->V->Hp->VK->Prop
noncomputable def OpR (X:Cx)(f:Value->Value->Sem Value)(r:R2):Prop:=
 ∀(pins:List (Addr×Obj)) (s:Shared) (σ:St) (H:Hp) (x y:V) (v u:Value) (Q:VK),Inv X pins σ H s->RelV x v->RelV y u->r x y H Q->
  wpAny (model X.prog X.w) X.A (f v u) (EP X pins σ Q) X.xe s
noncomputable def Uz (X:Cx)(f:Value->Sem Value)(r:V->Hp->VK->Prop):Prop:=
 ∀(pins:List (Addr×Obj)) (s:Shared) (σ:St) (H:Hp) (x:V) (v:Value) (Q:VK),Inv X pins σ H s->RelV x v->r x H Q->
  wpAny (model X.prog X.w) X.A (f v) (EP X pins σ Q) X.xe s
noncomputable def jM (X:Cx)(f:Value)(r:List V->Hp->VK->Prop):Prop:=
 ∀(pins:List (Addr×Obj)) (s:Shared) (σ:St) (H:Hp) (xs:List V) (us:List Value) (Q:VK),Inv X pins σ H s->Vals xs us->r xs H Q->
  wpAny (model X.prog X.w) X.A (call f us) (EP X pins σ Q) X.xe s
noncomputable def TruR (X:Cx)(r:V->Hp->(Bool->Hp->Prop)->Prop):Prop:=
 ∀(pins:List (Addr×Obj)) (s:Shared) (σ:St) (H:Hp) (x:V) (v:Value) (Q:Bool->Hp->Prop),Inv X pins σ H s->RelV x v->r x H Q->
  wpAny (model X.prog X.w) X.A (truthy v) (TP X pins σ Q) X.xe s
noncomputable def Qd (r:R2)(ta tb:TE):TE:=fun σ H Q=>ta σ H fun x H1=>tb σ H1 fun y H2=>r x y H2 Q
noncomputable def tUn (r:V->Hp->VK->Prop)(ta:TE):TE:=fun σ H Q=>ta σ H fun x H1=>r x H1 Q
noncomputable def rI (C:Int->Int->Prop)(g:Int->Int->V):R2:=fun x y H Q=>∃i j,x= .int i/\y= .int j/\C i j/\Q (g i j) H
noncomputable def tG (g:Int->Int->V):R2:=fun x y H Q=>∃i j,x= .int i/\y= .int j/\Q (g i j) H
noncomputable def rU (g:Int->V):V->Hp->VK->Prop:=fun x H Q=>∃i,x= .int i/\Q (g i) H
section
variable {X:Cx} {a b c:Expr} {ta tb tc:TE} {pos:Pos}
theorem Jb (ha:PE X a ta)(hb:PE X b tb){R:V->V->Hp->Prop}(I:Inv X pins σ H s)
  (h:ta σ H fun x H1=>tb σ H1 fun y H2=>R x y H2) {Q:Value->Shared->Prop} {f:Value->Value->Sem Value}
  (hf:∀v u s2 x y H2,Inv X pins σ H2 s2->RelV x v->RelV y u->R x y H2->wpAny (model X.prog X.w) X.A (f v u) Q X.xe s2):
  wpAny (model X.prog X.w) X.A (eval a X.env) (fun v s₁=>wpAny (model X.prog X.w) X.A (eval b X.env) (fun u s₂=>wpAny (model X.prog X.w) X.A (f v u) Q X.xe s₂) X.xe s₁) X.xe s:=by
 refine bC (ha pins s σ H _ I h) fun v s1 ⟨x,H1,I1,r1,q1⟩=>?_
 refine bC (hb pins s1 σ H1 _ I1 q1) fun u s2 ⟨y,H2,I2,r2,q2⟩=>?_
 exact hf v u s2 x y H2 I2 r1 r2 q2
theorem Au {op:Operator}{r:R2}(ho:OpR X (binaryOp op) r)(ha:PE X a ta)(hb:PE X b tb):PE X (.BinOp a op b pos) (Qd r ta tb):=by
 intro pins s σ H Q I h;exact wpAny_BinOp (Jb ha hb I h fun v u s2 x y H2 I2 rx ry q=>ho pins s2 σ H2 x y v u Q I2 rx ry q)
theorem Pd {op:UnaryOp}(ho:Uz X (unaryOp op) r)(ha:PE X a ta):PE X (.UnaryOp op a pos) (tUn r ta):=by
 intro pins s σ H Q I h;exact UnaryOp_ (bC (ha pins s σ H _ I h) fun v s1 ⟨x,H1,I1,r1,q1⟩=>ho pins s1 σ H1 x v Q I1 r1 q1)
theorem Vp
  (rule:∀(i j:Int) (t u:Tok) (s:Shared) (Q:Value->Shared->Prop) (E:Value->Shared->Prop),C i j->Q (.int (g i j) s.toks) {s with toks:=s.toks+1}->wpAny (model X.prog X.w) X.A (f (.int i t) (.int j u)) Q E s):
  OpR X f (rI C fun i j=> .int (g i j)):=by
 intro pins s σ H x y v u Q I rx ry h;obtain⟨i,j,rfl,rfl,hc,q⟩:=h;obtain⟨t,rfl⟩:=rx;obtain⟨t',rfl⟩:=ry;exact rule i j t t' s _ _ hc ⟨.int (g i j),H,I.tok _,⟨_,rfl⟩,q⟩
theorem Sa
  (rule:∀(i j:Int) (t u:Tok) (s:Shared) (Q:Value->Shared->Prop) (E:Value->Shared->Prop),Q (.int (g i j) s.toks) {s with toks:=s.toks+1}->wpAny (model X.prog X.w) X.A (f (.int i t) (.int j u)) Q E s):
  OpR X f (tG fun i j=> .int (g i j)):=by
 intro pins s σ H x y v u Q I rx ry h;obtain⟨i,j,rfl,rfl,q⟩:=h;obtain⟨t,rfl⟩:=rx;obtain⟨t',rfl⟩:=ry;exact rule i j t t' s _ _ ⟨.int (g i j),H,I.tok _,⟨_,rfl⟩,q⟩
theorem wU {g:Int->Int->Bool}
  (rule:∀(i j:Int) (t u:Tok) (s:Shared) (Q:Value->Shared->Prop) (E:Value->Shared->Prop),Q (.bool (g i j)) s->wpAny (model X.prog X.w) X.A (f (.int i t) (.int j u)) Q E s):
  OpR X f (tG fun i j=> .bl (g i j)):=by
 intro pins s σ H x y v u Q I rx ry h;obtain⟨i,j,rfl,rfl,q⟩:=h;obtain⟨t,rfl⟩:=rx;obtain⟨t',rfl⟩:=ry;exact rule i j t t' s _ _ ⟨.bl (g i j),H,I,rfl,q⟩
noncomputable def Yt (i j:Int):Prop:=0<=j/\j<=1000000/\i.natAbs<2^64
theorem op_add:OpR X (binaryOp .Add) (tG fun i j=> .int (i+j)):=Sa fun _ _ _ _ _ _ _ q=>add_int q
theorem Fb:OpR X (binaryOp .Sub) (tG fun i j=> .int (i-j)):=Sa fun _ _ _ _ _ _ _ q=>sub_int q
theorem Es:OpR X (binaryOp .Mod) (rI (fun _ j=>0<j) fun i j=> .int (i%j)):=Vp fun i j _ _ _ _ _ hc q=>by
 have h1:(0:Int)<j:=hc;exact mod_int' (by lia) (by rw[Int.fmod_eq_emod_of_nonneg i (by lia)];exact q)
theorem Hv:OpR X (binaryOp .Pow) (rI Yt fun i j=> .int (i^j.toNat)):=Vp fun _ _ _ _ _ _ _ hc q=>pow_int_small hc.1 hc.2.1 hc.2.2 q
theorem unI {f:Value->Sem Value}{g:Int->Int}
  (rule:∀(i:Int) (t:Tok) (s:Shared) (Q:Value->Shared->Prop) (E:Value->Shared->Prop),Q (.int (g i) s.toks) {s with toks:=s.toks+1}->wpAny (model X.prog X.w) X.A (f (.int i t)) Q E s):
  Uz X f (rU fun i=> .int (g i)):=by
 intro pins s σ H x v Q I rx h;obtain⟨i,rfl,q⟩:=h;obtain⟨t,rfl⟩:=rx;exact rule i t s _ _ ⟨.int (g i),H,I.tok _,⟨_,rfl⟩,q⟩
theorem Gw:Uz X (unaryOp .USub) (rU fun i=> .int (-i)):=unI fun _ _ _ _ _ q=>neg_int q
end
section
variable {X:Cx} {a b c:Expr} {ta tb tc:TE} {pos:Pos}
theorem oX {Q:VK}{k k':Bool}(I:Inv X pins σ H s)(q:Q (.bl k) H)(e:k=k'):EP X pins σ Q (.bool k') s:=by
 subst e;exact⟨.bl k,H,I,rfl,q⟩
theorem mH:OpR X (compareOp .Lt) (tG fun i j=> .bl (decide (i<j))):=wU fun _ _ _ _ _ _ _ q=>lt_int q
theorem jX:OpR X (compareOp .LtE) (tG fun i j=> .bl (decide (i<=j))):=wU fun _ _ _ _ _ _ _ q=>le_int q
theorem Bl:OpR X (compareOp .Gt) (tG fun i j=> .bl (decide (j<i))):=wU fun _ _ _ _ _ _ _ q=>gt_int q
theorem Oq:OpR X (compareOp .GtE) (tG fun i j=> .bl (decide (j<=i))):=wU fun _ _ _ _ _ _ _ q=>ge_int q
theorem Dh:OpR X (compareOp .Is) (fun x y H Q=>y= .non/\Q (.bl (decide (x= .non))) H):=by
 intro pins s σ H x y v u Q I rx ry h;obtain⟨rfl,q⟩:=h;cases ry;refine is_none_gen (oX I q ?_);cases x<;>first
  |(cases rx;rfl)
  |(obtain⟨t,rfl⟩:=rx;rfl)
theorem uC:OpR X (compareOp .IsNot) (fun x y H Q=>y= .non/\Q (.bl (!decide (x= .non))) H):=by
 intro pins s σ H x y v u Q I rx ry h;obtain⟨rfl,q⟩:=h;cases ry;refine isnot_none_gen (oX I q ?_);cases x<;>first
  |(cases rx;rfl)
  |(obtain⟨t,rfl⟩:=rx;rfl)
theorem OpR.or {r r':R2}(h:OpR X f r)(h':OpR X f r'):OpR X f (fun x y H Q=>r x y H Q\/r' x y H Q):=by
 intro pins s σ H x y v u Q I rx ry q;rcases q with q|q
 ·exact h pins s σ H x y v u Q I rx ry q
 ·exact h' pins s σ H x y v u Q I rx ry q
theorem tN (b:Expr)(h:autoParam (op≠ .In) zu1._auto_1)(h2:autoParam (op≠ .NotIn) zu1._auto_1):behindInMarks op b=false:=by
 have e1:(op==CmpOp.In)=false:=by cases op<;>first|rfl|exact absurd rfl h
 have e2:(op==CmpOp.NotIn)=false:=by cases op<;>first|rfl|exact absurd rfl h2
 cases b<;>simp[behindInMarks,e1,e2]
theorem uG {r:R2}(ho:OpR X (compareOp op) r)(ha:PE X a ta)(hb:PE X b tb)(hm:behindInMarks op b=false):PE X (.Compare a [op] [b] pos) (Qd r ta tb):=by
 intro pins s σ H Q I h;exact wpAny_Compare1 (Jb ha hb I h fun v u s2 x y H2 I2 rx ry q=>ho pins s2 σ H2 x y v u Q I2 rx ry q) hm
noncomputable def Bj (t:TE):TT:=fun σ H Q=>t σ H fun x H'=>∃k,x= .bl k/\Q k H'
theorem zA {r:R2}(ho:OpR X (compareOp op) r)(ha:PE X a ta)(hb:PE X b tb)(hm:behindInMarks op b=false):PT X (.Compare a [op] [b] pos) (Bj (Qd r ta tb)):=by
 intro pins s σ H Q I h;refine wpAny_isTrue_Compare1 (bC (ha pins s σ H _ I h) fun v s1 ⟨x,H1,I1,r1,q1⟩=>bC (hb pins s1 σ H1 _ I1 q1) fun u s2 ⟨y,H2,I2,r2,q2⟩=>
  bC (ho pins s2 σ H2 x y v u _ I2 r1 r2 q2) fun c s3 ⟨z,H3,I3,r3,k,e,q3⟩=>?_) hm
 subst e;cases r3;exact qO ⟨H3,I3,q3⟩
noncomputable def zqE (r r':R2)(ta tb tc:TE):TE:=fun σ H Q=>ta σ H fun x H1=>tb σ H1 fun y H2=>r x y H2 fun z H3=>∃k,z= .bl k/\
 (if k=true then tc σ H3 fun w' H4=>r' y w' H4 Q else Q (.bl false) H3)
theorem sW {r r':R2}(ho:OpR X (compareOp op) r)(ho':OpR X (compareOp op') r')(ha:PE X a ta)(hb:PE X b tb)(hc:PE X c tc)
  (hm:autoParam (lastMarks [op,op'] [b,c]=false) zu5._auto_1):PE X (.Compare a [op,op'] [b,c] pos) (zqE r r' ta tb tc):=by
 intro pins s σ H Q I h;refine Compare_chain (bC (ha pins s σ H _ I h) fun v s1 ⟨x,H1,I1,r1,q1⟩=>chain_link (bC (hb pins s1 σ H1 _ I1 q1) fun u s2 ⟨y,H2,I2,r2,q2⟩=>
  bC (ho pins s2 σ H2 x y v u _ I2 r1 r2 q2) fun d s3 ⟨z,H3,I3,r3,k,e,q3⟩=>?_)) hm
 subst e;cases r3;refine qO ?_;cases k with
 |false=>exact ite_ff ⟨.bl false,H3,I3,rfl,q3⟩
 |true=>exact ite_tt (chain_last (bC (hc pins s3 σ H3 _ I3 q3) fun w' s4 ⟨z',H4,I4,r4,q4⟩=>ho' pins s4 σ H4 y z' u w' Q I4 r2 r4 q4))
theorem qB {r r':R2}(ho:OpR X (compareOp op) r)(ho':OpR X (compareOp op') r')(ha:PE X a ta)(hb:PE X b tb)(hc:PE X c tc)
  (hm:autoParam (lastMarks [op,op'] [b,c]=false) zu5._auto_1):PT X (.Compare a [op,op'] [b,c] pos) (Bj (zqE r r' ta tb tc)):=by
 intro pins s σ H Q I h;refine isTrue_chain (bC (ha pins s σ H _ I h) fun v s1 ⟨x,H1,I1,r1,q1⟩=>test_link (bC (hb pins s1 σ H1 _ I1 q1) fun u s2 ⟨y,H2,I2,r2,q2⟩=>
  bC (ho pins s2 σ H2 x y v u _ I2 r1 r2 q2) fun d s3 ⟨z,H3,I3,r3,k,e,q3⟩=>?_)) hm
 subst e;cases r3;refine qO ?_;cases k with
 |false=>
  obtain⟨k',e',q'⟩:=q3;cases e';exact ite_ff ⟨H3,I3,q'⟩
 |true=>
  refine ite_tt (test_last (bC (hc pins s3 σ H3 _ I3 q3) fun w' s4 ⟨z',H4,I4,r4,q4⟩=>bC (ho' pins s4 σ H4 y z' u w' _ I4 r2 r4 q4) fun d' s5 ⟨z2,H5,I5,r5,k2,e2,q5⟩=>?_));subst e2;cases r5;exact qO ⟨H5,I5,q5⟩
noncomputable def Mu (K:W.Frag)(x:V)(H:Hp)(k:Bool):Prop:=
 match x with
 | .non=>k=false
 | .bl b=>k=b
 | .int i=>k=(i !=0)
 | .str y=>y.length<=sizeLine/\k=((y.length:Int) !=0)
 | .byt y=>y.size<=sizeLine/\k=((y.size:Int) !=0)
 | .ref p=>(∃xs,SqL K H p xs/\k=!xs.isEmpty)\/(∃xs,SqT K H p xs/\k=!xs.isEmpty)\/∃kvs,H p=some (.dK kvs)/\k=!kvs.isEmpty
 |_=>False
theorem zpK {κ:Type}{kvs:List (κ×V)}{vs:List (κ×Value)}(r:KV kvs vs):(!vs.isEmpty)=!kvs.isEmpty:=by
 cases r<;>rfl
theorem zlF (r:Vals xs its):(!its.toArray.isEmpty)=!xs.isEmpty:=by
 cases r<;>simp
theorem Ep:(sizeLine:Nat)<2^63:=by rw[iL];decide
theorem Fd:TruR X (fun x H Q=>∃k,Mu X.K x H k/\Q k H):=by
 intro pins s σ H x v Q I rx h;obtain⟨k,e,q⟩:=h;have hl:=Ep;have hs:sizeLine=16777216:=iL;cases x with
 |non=>
  cases rx;have e':k=false:=e;subst e';exact truthy_none ⟨H,I,q⟩
 |bl b=>
  cases rx;have e':k=b:=e;subst e';exact qO ⟨H,I,q⟩
 |int i=>
  obtain⟨t,rfl⟩:=rx;have e':k=(i !=0):=e;subst e';exact PySem.P.truthy_int ⟨H,I,q⟩
 |str y=>
  obtain⟨t,rfl⟩:=rx;obtain⟨hy,e'⟩:y.length<=sizeLine/\k=((y.length:Int) !=0):=e;subst e';exact PySem.P.truthy_str (by lia) ⟨H,I.tok _,q⟩
 |byt y=>
  obtain⟨t,rfl⟩:=rx;obtain⟨hy,e'⟩:y.size<=sizeLine/\k=((y.size:Int) !=0):=e;subst e';exact W.truthy_bytes (by lia) ⟨H,I.tok _,q⟩
 |ref p=>
  cases rx;have e':(∃xs,SqL X.K H p xs/\k=!xs.isEmpty)\/(∃xs,SqT X.K H p xs/\k=!xs.isEmpty)\/∃kvs,H p=some (.dK kvs)/\k=!kvs.isEmpty:=e;rcases e' with⟨xs,hx,e'⟩|⟨xs,hx,e'⟩|⟨kvs,hx,e'⟩
  ·subst e';obtain⟨its,r,pl,hz⟩:=I.list hx;have hlen:=r.length;exact wpAny_truthy_list pl.isList (by simp only[cO];lia) ⟨H,I.tok _,by rw[zlF r];exact q⟩
  ·subst e';obtain⟨its,r,pl,hz⟩:=I.tuple hx;have hlen:=r.length;exact truthy_tuple pl (by simp only[cO];lia) ⟨H,I.tok _,by rw[zlF r];exact q⟩
  ·subst e';obtain⟨hz,hS,vs,r,m⟩:kvs.length<=sizeLine/\(p==sysModules)=false/\∃vs,KV kvs vs/\s.heap.DictOf (kH X.prog X.w) p vs:=I.hok p _ hx;have hlen:kvs.length=vs.length:=Vm r;exact wpAny_truthy_dict hS m (by lia) ⟨H,I.tok _,by rw[zpK r];exact q⟩
 |_=>exact(show False from e).elim
theorem nK (ha:PE X a ta)(he:∀whole,isTrue a X.env whole=(do let v<-whole;standAt a.pos;holding [v] (truthy v))):
  PT X a (fun σ H Q=>ta σ H fun x H'=>∃k,Mu X.K x H' k/\Q k H'):=by
 intro pins s σ H Q I h;exact isTrue_plain (bC (ha pins s σ H _ I h) fun v s1 ⟨x,H1,I1,r1,q1⟩=>Fd pins s1 σ H1 x v Q I1 r1 q1) (he _)
theorem zps:OpR X (binaryOp .Add) (fun x y H Q=>∃i j,x= .str i/\y= .str j/\i.length+j.length<=sizeLine/\Q (.str (i++j)) H):=by
 intro pins s σ H x y v u Q I rx ry h;obtain⟨i,j,rfl,rfl,hz,q⟩:=h;obtain⟨t,rfl⟩:=rx;obtain⟨t',rfl⟩:=ry;exact add_str (fun t' tk=>⟨.str (i++j),H,I.tok _,⟨_,rfl⟩,q⟩) hz
theorem zG {x:V}(r:Vals [x] us):∃u,us=[u]/\RelV x u:=by
 cases r with
 |cons r1 r2=>cases r2;exact⟨_,rfl,r1⟩
theorem oB {x y:V}(r:Vals [x,y] us):∃u w',us=[u,w']/\RelV x u/\RelV y w':=by
 cases r with
 |cons r1 r2=>
  cases r2 with
  |cons r3 r4=>cases r4;exact⟨_,_,rfl,r1,r3⟩
theorem zqT (hc:X.calm=true):jM X (.builtin "max") (fun xs H Q=>∃i j,xs=[.int i,.int j]/\Q (.int (if j>i then j else i)) H):=by
 intro pins s σ H xs us Q I r h;obtain⟨i,j,rfl,q⟩:=h;obtain⟨u,w',rfl,⟨t,rfl⟩,⟨t',rfl⟩⟩:=oB r;refine max_two_ints (I.ok.hd hc) fun h' tk k=>⟨_,H,I.kept k,?_,q⟩
 by_cases hj:j>i
 ·rw[if_pos hj,if_pos hj];exact⟨_,rfl⟩
 ·rw[if_neg hj,if_neg hj];exact⟨_,rfl⟩
theorem zrc (hc:X.calm=true):jM X (.builtin "min") (fun xs H Q=>∃i j,xs=[.int i,.int j]/\Q (.int (if j<i then j else i)) H):=by
 intro pins s σ H xs us Q I r h;obtain⟨i,j,rfl,q⟩:=h;obtain⟨u,w',rfl,⟨t,rfl⟩,⟨t',rfl⟩⟩:=oB r;refine min_two_ints (I.ok.hd hc) fun h' tk k=>⟨_,H,I.kept k,?_,q⟩
 by_cases hj:j<i
 ·rw[if_pos hj,if_pos hj];exact⟨_,rfl⟩
 ·rw[if_neg hj,if_neg hj];exact⟨_,rfl⟩
end
structure ObjM (h:Heap) (x dx C:Addr) (mA:Str->Option Value):Prop where
 obj:h.get? x=some (W.instObj C dx)
 ns:h.Ns1 dx mA
 ne:dx≠x
theorem zqr (n:h.Ns1 dx mA):∃od,h.get? dx=some od/\∀name,W.lookIn name od=some (mA name):=by
 obtain⟨o,es,ep,ho,hd,hk,_,hm⟩:=n;refine⟨o,ho,fun name=>?_⟩;have e:=hm name;unfold nsFind findBy at e;rw[<-Array.find?_toList]at e;unfold W.lookIn;rw[hd];dsimp only
 split
 ·rename_i y q;rw[q]at e;exact congrArg some e
 ·rename_i q;rw[q]at e;have a:es.toList.any (·.refKey)=false:=by
   rw[List.any_eq_false];intro y hy;obtain⟨z,t,hkey⟩:=hk y (Array.mem_toList_iff.mp hy);simp[DictEntry.refKey,hkey]
  have a':¬es.toList.any (·.refKey)=true:=by rw[a];exact iX
  rw[if_neg a'];exact congrArg some e
theorem ObjM.look {x dx C:Addr}(I:ObjM h x dx C mA):∃od,W.InstAt h x (W.instObj C dx) C (some od)/\∀name,W.lookIn name od=some (mA name):=
 let⟨od,ho,hl⟩:=zqr I.ns
 ⟨od,⟨I.obj,rfl,rfl,ho⟩,hl⟩
theorem RelO.some_of {o:Option Value}(r:RelO (some v) o):∃u,o=some u/\RelV v u:=by
 cases o with
 |none=>exact(show False from r).elim
 |some u=>exact⟨u,rfl,r⟩
section
variable {P:Program} {w:World} {H H':Hp} {h h':Heap} {a C dx:Addr} {fs fs':List (Str×V)}
theorem xD (hok:HOk P w H h)(e:H a=some (.ins C dx fs)):∃mA,ObjM h a dx C mA/\(∀f,RelO (fs.lookup f) (mA f))/\PySem.Within mA (fs.map (·.1))/\fs.length<=1000/\H dx=some (.own a):=by
 obtain⟨d,z,ne,ob,mA,n,r,q⟩:=(show ObjOk P w H h a (.ins C dx fs)from hok a _ e);exact⟨mA,⟨ob,n,ne⟩,r,q,z,d⟩
end
structure Cls (K:W.Frag) (C:Addr):Prop where
 pg:W.plainGet K C Str.empty=true
 hd:W.hasDictIn K C=true
 po:W.plainOver K C=true
 sa:W.findIn K (.ref C) "__setattr__"=some (some (.builtin "object.__setattr__"))
theorem Cls.get {C:Addr}(c:Cls K C)(f:Str):W.plainGet K C f=true:=c.pg
section
variable {X:Cx} {pins:List (Addr×Obj)} {σ:St} {H:Hp} {s:Shared} {A:Around} {E:Value->Shared->Prop} {Q:Value->Shared->Prop} {c:Value} {b:Bool}
inductive TyOf (K:W.Frag) (H:Hp):V->Value->Prop where
 |non:TyOf K H .non (.type "NoneType")
 |bl (x:Bool):TyOf K H (.bl x) (.type "bool")
 |int (i:Int):TyOf K H (.int i) (.type "int")
 |str (x:Str):TyOf K H (.str x) (.type "str")
 |flt (x:UInt64):TyOf K H (.flt x) (.type "float")
 |lst {a:Addr} {xs:List V} (e:H a=some (.lst xs)):TyOf K H (.ref a) (.type "list")
 |frz {a:Addr} {o:Obj} {xs:List V} (e:H a=some (.frz o (.lst xs))):TyOf K H (.ref a) (.type "list")
 |tup {a:Addr} {xs:List V} (e:H a=some (.tup xs)):TyOf K H (.ref a) (.type "tuple")
 |dK {a:Addr} {kvs:List (cK×V)} (e:H a=some (.dK kvs)):TyOf K H (.ref a) (.type "dict")
 |dT {a:Addr} {kvs:List (List cK×V)} (e:H a=some (.dT kvs)):TyOf K H (.ref a) (.type "dict")
 |ins {a C dx:Addr} {fs:List (Str×V)} (e:H a=some (.ins C dx fs)) (cl:Cls K C) (ha:W.findIn K (.ref C) "__class__"=some (some (.builtin "object.__class__")))
   (hn:W.specialIn K (.builtin "object.__class__") "__get__"=some (some (.builtin "getset_descriptor.__get__"))) (htk:W.takesIn K (.builtin "object.__class__")=some true)
   (hm:W.mroIn K C (.type "object")=some true):TyOf K H (.ref a) (.ref C)
theorem zq3 {x:V}{u t:Value}(I:Inv X pins σ H s)(rx:RelV x u)(ty:TyOf X.K H x t)(e:W.kitOne X.K t c=some b)(h:∀tk,Q (.bool b) {s with toks:=tk}):
  wpAny (model X.prog X.w) A (call (.builtin "isinstance") [u,c]) Q E s:=by
 cases ty with
 |non=>cases(show u=Value.none from rx);exact rB W.kitx_none I.kIn True.intro e (fun z=>nomatch z) h
 |bl y=>cases(show u=Value.bool y from rx);exact rB W.kitx_bool I.kIn True.intro e (fun z=>nomatch z) h
 |int i=>obtain⟨t,q⟩:=(show ∃t,u=Value.int i t from rx);cases q;exact rB W.kitx_int I.kIn True.intro e (fun z=>nomatch z) h
 |str y=>obtain⟨t,q⟩:=(show ∃t,u=Value.str y t from rx);cases q;exact rB W.kitx_str I.kIn True.intro e (fun z=>nomatch z) h
 |flt y=>obtain⟨t,q⟩:=(show ∃t,u=Value.float y t from rx);cases q;exact rB W.kitx_float I.kIn True.intro e (fun z=>nomatch z) h
 | @lst a xs ea=>
  cases(show u=Value.ref a from rx);obtain⟨_,_,n,_,h1⟩:=(show ObjOk X.prog X.w H s.heap a (.lst xs)from I.hok a _ ea);exact rB W.kitx_list I.kIn ⟨_,h1,rfl⟩ e (fun z=>nomatch z) h
 | @frz a ob xs ea=>
  cases(show u=Value.ref a from rx);obtain⟨_,_,_,n,_,h1⟩:=(show ObjOk X.prog X.w H s.heap a (.frz ob (.lst xs))from I.hok a _ ea);exact rB W.kitx_list I.kIn ⟨_,h1,rfl⟩ e (fun z=>nomatch z) h
 | @tup a xs ea=>
  cases(show u=Value.ref a from rx);obtain⟨_,_,_,p⟩:=(show ObjOk X.prog X.w H s.heap a (.tup xs)from I.hok a _ ea);obtain⟨o,h1,h2,_⟩:=p;exact rB W.kitx_tuple I.kIn ⟨o,h1,h2⟩ e (fun z=>nomatch z) h
 | @dK a kvs ea=>
  cases(show u=Value.ref a from rx);obtain⟨_,_,vs,_,p⟩:=(show ObjOk X.prog X.w H s.heap a (.dK kvs)from I.hok a _ ea);obtain⟨o,es,ep,h1,h2,_⟩:=p;exact rB W.kitx_dict I.kIn ⟨o,h1,h2.1⟩ e (fun z=>nomatch z) h
 | @dT a kvs ea=>
  cases(show u=Value.ref a from rx);obtain⟨_,_,xs,_,o,es,ep,h1,h2,_⟩:=(show ObjOk X.prog X.w H s.heap a (.dT kvs)from I.hok a _ ea);exact rB W.kitx_dict I.kIn ⟨o,h1,h2.1⟩ e (fun z=>nomatch z) h
 | @ins a C dx fs ea cl ha hn htk hm=>
  cases(show u=Value.ref a from rx);obtain⟨mA,O,_⟩:=xD I.hok ea;obtain⟨od,J,_⟩:=O.look;exact rB (W.kitx_own (cl.get _) cl.hd ha hn htk hm) I.kIn J e (fun z=>nomatch z) h
end
structure Room (k:Nat) (A:Around):Prop where
 hd:A.handled=none
 dp:A.depth+3*k+5<recursionLimit
 un:A.units+16*k+200<cLine
 gd:A.guards=some []
theorem Room.mono {j k:Nat}(r:Room k A)(h:j<=k):Room j A:=⟨r.hd,by have:=r.dp;lia,by have:=r.un;lia,r.gd⟩
theorem Room.deeper {k:Nat}(r:Room (k+1) A)(env:Env):Room k (A.deeper env):=
 ⟨r.hd,by have:=r.dp;show A.depth+1+3*k+5<_;lia,by have:=r.un;show A.units+3+16*k+200<_;lia,r.gd⟩
theorem Room.depth {k:Nat}(r:Room k A):A.depth<recursionLimit:=by have:=r.dp;lia
theorem Room.units {k:Nat}(r:Room k A):A.units+64<cLine:=by have:=r.un;lia
noncomputable def tNil:TA:=fun _ H Q=>Q [] H
noncomputable def Ao (ta:TE)(tr:TA):TA:=fun σ H Q=>ta σ H fun x H1=>tr σ H1 fun xs H2=>Q (x::xs) H2
section
variable {X:Cx} {e:Expr} {es:List Expr} {te:TE} {t:TA} {pos:Pos}
theorem As:PA X [] tNil:=fun _ _ _ _ H Q I h=>Calls.spliced_nil ⟨[],H,I,.nil,h⟩
theorem lS (ha:PE X e te)(hr:PA X es t)(hs:autoParam (starEach (e::es) X.env=(false,eval e X.env)::starEach es X.env) zu3._auto_1):PA X (e::es) (Ao te t):=by
 intro pos pins s σ H Q I h;rw[hs];show wpAny _ _ (spliced ((false,eval e X.env)::backTo pos (starEach es X.env))) _ _ s;refine Calls.spliced_cons (bC (ha pins s σ H _ I h) fun u s1 ⟨x,H1,I1,r1,q1⟩=>?_);exact bC (hr pos pins s1 σ H1 _ I1 q1) fun us s2 ⟨xs,H2,I2,r2,q2⟩=>⟨x::xs,H2,I2,.cons r1 r2,q2⟩
noncomputable def Yv (t:TA):TE:=fun σ H Q=>t σ H fun xs H1=>xs.length<=sizeLine/\∀p,H1 p=none->Q (.ref p) (upd H1 p (.tup xs))
noncomputable def Ze (t:TA):TE:=fun σ H Q=>t σ H fun xs H1=>xs.length<=sizeLine/\∀p,H1 p=none->Q (.ref p) (upd H1 p (.lst xs))
theorem Er {x1}(h:PA X es t):PE X (.Tuple es x1 pos) (Yv t):=by
 intro pins s σ H Q I hq;refine wpAny_Tuple_spliced (bC (h pos pins s σ H _ I hq) fun us s1 ⟨xs,H1,I1,r,z,q⟩=>⟨by rw[<-r.length];exact z,?_⟩);have hf:H1 s1.heap.objs.size=none:=I1.hok.fresh (bU _);refine⟨.ref s1.heap.objs.size,upd H1 s1.heap.objs.size (.tup xs),I1.laid (t':=s1.toks) (fun b u e=>bH _ e) (bU _) ?_,rfl,q _ hf⟩;exact⟨z,us,r,⟨_,eR _ rfl,rfl,_,rfl⟩⟩
theorem sD (h:PA X es t):PE X (.List es pos) (Ze t):=by
 intro pins s σ H Q I hq;refine wpAny_List_spliced (bC (h pos pins s σ H _ I hq) fun us s1 ⟨xs,H1,I1,r,z,q⟩=>⟨by rw[<-r.length];exact z,?_⟩);have hf:H1 s1.heap.objs.size=none:=I1.hok.fresh (bU _);refine⟨.ref s1.heap.objs.size,upd H1 s1.heap.objs.size (.lst xs),I1.laid (t':=s1.toks) (fun b u e=>bH _ e) (bU _) ?_,rfl,q _ hf⟩;exact⟨z,us,0,r,eR _ rfl⟩
end
noncomputable abbrev Sp:=List V->Hp->VK->XK->Prop
noncomputable abbrev tH:=List Env->Hp->Shared->XK->Value->Shared->Prop
structure Env0 (P:Program) (w:World) (K:W.Frag) (mg:Str->Option Value) (base:Heap) (A:Around) (outer:List Env) (s:Shared) (H:Hp):Prop where
 frames:A.frames=some outer
 mod:Mod K mg base
 bs:∀b o,base.get? b=some o->s.heap.get? b=some o/\H b=none
 bsz:base.objs.size<=s.heap.objs.size
 funs:s.heap.FunFrames base outer
 frf:∀b∈frs outer,H b=none
 hok:HOk P w H s.heap
 bare:AllBare s.gens
noncomputable def CE (outer:List Env)(P:Program)(w:World)(H:Hp)(s:Shared)(Q:VK)(u:Value)(s':Shared):Prop:=
 ∃v H',s'.os=s.os/\AllBare s'.gens/\Un (frs outer) [] H H' s.heap s'.heap/\HOk P w H' s'.heap/\RelV v u/\Q v H'
noncomputable def CR (CX:tH)(outer:List Env)(P:Program)(w:World)(H:Hp)(s:Shared)(Q:VK)(E:XK)(r:Result)(s':Shared):Prop:=
 match r with
 | .ok (.ret u)=>CE outer P w H s Q u s'
 | .ok _=>False
 | .error e=>CX outer H s E e s'
structure FnOk (P:Program) (w:World) (K:W.Frag) (mg:Str->Option Value) (base:Heap) (CX:tH) (k:Nat) (f:Addr) (fd:FuncData) (ps:List Str) (sp:Sp):Prop where
 len:∀vs H Q E,sp vs H Q E->vs.length=ps.length
 run:∀(A:Around) (outer:List Env) (s:Shared) (H:Hp) (args:Args) (us:List Value) (vs:List V) (Q:VK) (E:XK),Room k A->Env0 P w K mg base A outer s H->BindsTo s fd args (ps.zip us)->Vals vs us->sp vs H Q E->
  codeAny (model P w) A (.call (.ref f) args) (CR CX outer P w H s Q E) s
section
variable {X:Cx} {pins:List (Addr×Obj)} {σ:St} {H:Hp} {s s':Shared}
theorem Inv.env0 (I:Inv X pins σ H s):Env0 X.prog X.w X.K X.mg X.base X.A X.stack s H:=
 ⟨I.ok.frames,I.ok.mod,I.bs,gY I.ok.bsz I.sz,I.stack,I.stkFree,I.hok,I.bare⟩
theorem Inv.after {Q:VK}(I:Inv X pins σ H s)(h:CE X.stack X.prog X.w H s Q u s'):EP X pins σ Q u s':=by
 obtain⟨v,H',os,bare,un,hok,r,q⟩:=h;obtain⟨hh,g,d,t,os'⟩:=s';obtain rfl:os'=s.os:=os;exact⟨v,H',I.call (h':=hh) (g':=g) (d':=d) (t':=t) (ch:=[]) un hok bare (fun b z=>absurd z (by simp)),r,q⟩
end
noncomputable def An (sp:Sp)(dvs:List V)(E:XK)(t:TA):TE:=fun σ H Q=>t σ H fun vs H1=>sp (vs++dvs) H1 Q E
noncomputable def Binds (K:W.Frag)(fd:FuncData)(ps:List Str)(ds:List Value):Prop:=
 ∀(s:Shared) (us:List Value),K.In s.heap->(us++ds).length=ps.length->BindsTo s fd ⟨us,[]⟩ (ps.zip (us++ds))
theorem Binds.all (h:∀us:List Value,us.length=ps.length->bindArgs fd ⟨us,[]⟩=pure (ps.zip us)):Binds K fd ps []:=fun s us _ hl=>by
 rw[Bn]at hl ⊢;exact .of_eq (h us hl)
noncomputable def Yj (CX:tH)(X:Cx)(E:XK):Prop:=∀(pins:List (Addr×Obj)) (σ:St) (H:Hp) (s:Shared) (e:Value) (s':Shared),Inv X pins σ H s->CX X.stack H s E e s'->X.xe e s'
section
variable {X:Cx} {CX:tH} {k:Nat} {f C:Addr} {fd:FuncData} {ps:List Str} {sp:Sp} {dvs:List V} {ds:List Value} {E:XK} {x m:Str} {p pos apos:Pos} {e o:Expr} {es:List Expr} {ta:TE} {t:TA}
theorem Ez {Q:VK}(F:FnOk X.prog X.w X.K X.mg X.base CX k f fd ps sp)(hr:Room k X.A)(hb:Binds X.K fd ps ds)(hd:Vals dvs ds)(hx:Yj CX X E)
  (I:Inv X pins σ H s) (r:Vals vs us) (h:sp (vs++dvs) H Q E):wpAny (model X.prog X.w) X.A (call (.ref f) us) (EP X pins σ Q) X.xe s:=by
 have r2:Vals (vs++dvs) (us++ds):=r.append hd;have hl:(us++ds).length=ps.length:=by rw[<-r2.length];exact F.len _ _ _ _ h
 refine wpAny_call (codeAny_mono (F.run X.A X.stack s H ⟨us,[]⟩ (us++ds) (vs++dvs) Q E hr I.env0 (hb s us I.kIn hl) r2 h) fun r s' hq=>?_);cases r with
 |error e=>exact hx pins σ H s e s' I hq
 |ok fl=>
  cases fl with
  |ret u=>exact I.after hq
  |next=>exact False.elim hq
  |brk=>exact False.elim hq
  |cont=>exact False.elim hq
theorem Ui (F:FnOk X.prog X.w X.K X.mg X.base CX k f fd ps sp)(hr:Room k X.A)(hg:Gl X x)(hm:X.mg x=some (.ref f))(hk:W.keepIn X.K (.ref f)=true)(hb:Binds X.K fd ps ds)(hd:Vals dvs ds)(hx:Yj CX X E)
  (ha:PA X (e::es) t) (hdb:autoParam ((x==("__debug__":Str))=false) zu1._auto_1) (he:autoParam (starEach (e::es) X.env=(false,eval e X.env)::starEach es X.env) zu3._auto_1) (hpl:autoParam ((backTo pos (starEach es X.env)).any (·.1)=false) zu3._auto_1):
  PE X (.Call (.Name x p) (e::es) [] pos) (An sp dvs E t):=by
 intro pins s σ H Q I h;refine Xm (yO I hg hm ?_ hdb);refine W.callWith_K (h₀:=X.base) I.ok.mod.kin hk (bC (ha pos pins s σ H _ I h) fun us s1 ⟨vs,H1,I1,r,q⟩=>⟨I1.kIn,?_⟩) he hpl;exact Ez F hr hb hd hx I1 r q
end
structure FnScope (N P:List Str) (sc:Scope):Prop where
 kind:sc.kind= .function
 co:sc.isCoroutine=false
 gen:sc.isGenerator=false
 nd:N.Nodup
 pre:N.take P.length=P
 par:∀x∈P,sc.names.lookup x=some .local\/sc.names.lookup x=some .cell
 nofree:∀y∈sc.names,y.2≠ .free
theorem zm8:∀{binds:List (Str×Value)} {m:Str->Option Value},(∀v,(x,v)∉binds)->bindL kindOf binds m x=m x
 |[],_,_=>rfl
 |(n,v)::r,m,h=>by
  unfold bindL;rw[zm8 fun w hw=>h w (jD _ hw)]
  split
  ·have:x≠n:=by rintro rfl;exact h v mD
   simp[this]
  ·rfl
theorem znu:∀{binds:List (Str×Value)} {m:Str->Option Value},(∀v,(x,v)∉binds)->bindC kindOf binds m x=m x
 |[],_,_=>rfl
 |(n,v)::r,m,h=>by
  unfold bindC;rw[znu fun w hw=>h w (jD _ hw)]
  split
  ·rfl
  ·have:x≠n:=by rintro rfl;exact h v mD
   simp[this]
theorem znL {v:Value}:∀{P:List Str} {vs:List Value} {i:Nat} {m:Str->Option Value},P.Nodup->P[i]? =some x->vs[i]? =some v->kindOf x=some .local->
  bindL kindOf (P.zip vs) m x=some v
 |[],_,_,_,_,h,_,_=>by simp at h
 |_::_,[],_,_,_,_,h,_=>by simp at h
 |p::P,w::vs,0,m,nd,h1,h2,hk=>by
  simp at h1 h2;subst h1;subst h2;show bindL kindOf ((p,w)::P.zip vs) m p=_;unfold bindL;rw[zm8 fun v hv=>(qaP.mp nd).1 (List.of_mem_zip hv).1,if_pos hk];simp
 |p::P,w::vs,i+1,m,nd,h1,h2,hk=>by
  show bindL kindOf ((p,w)::P.zip vs) m x=_;unfold bindL;exact znL (i:=i) (qaP.mp nd).2 (by simpa using h1) (by simpa using h2) hk
theorem zmT {v:Value}:∀{P:List Str} {vs:List Value} {i:Nat} {m:Str->Option Value},P.Nodup->P[i]? =some x->vs[i]? =some v->kindOf x≠some .local->
  bindC kindOf (P.zip vs) m x=some v
 |[],_,_,_,_,h,_,_=>by simp at h
 |_::_,[],_,_,_,_,h,_=>by simp at h
 |p::P,w::vs,0,m,nd,h1,h2,hk=>by
  simp at h1 h2;subst h1;subst h2;show bindC kindOf ((p,w)::P.zip vs) m p=_;unfold bindC;rw[znu fun v hv=>(qaP.mp nd).1 (List.of_mem_zip hv).1,if_neg hk];simp
 |p::P,w::vs,i+1,m,nd,h1,h2,hk=>by
  show bindC kindOf ((p,w)::P.zip vs) m x=_;unfold bindC;exact zmT (i:=i) (qaP.mp nd).2 (by simpa using h1) (by simpa using h2) hk
noncomputable def start (N:List Str)(vs:List V):St:=vs.map some++List.replicate (N.length-vs.length) none
noncomputable def fD (CX:tH)(P:Program)(w:World)(K:W.Frag)(mg:Str->Option Value)(base:Heap)(N:List Str)(qual:Str)(scope:Scope)(f:Addr)(cd:Value)(A:Around)(outer:List Env)(s:Shared)(H:Hp)(E:XK):Cx where
 prog:=P
 w:=w
 K:=K
 mg:=mg
 base:=base
 A:=A.deeper (envOfC qual scope s.heap.objs.size f cd)
 N:=N
 s₀:=s
 H₀:=H
 env:=envOfC qual scope s.heap.objs.size f cd
 outer:=outer
 stack:=envOfC qual scope s.heap.objs.size f cd::outer
 ex:=[]
 calm:=true
 fn:=fun _=>true
 pn:=[]
 xe:=fun e s'=>wpAny (model P w) (A.deeper (envOfC qual scope s.heap.objs.size f cd)) (leaving (envOfC qual scope s.heap.objs.size f cd) e) (fun _ s''=>CX outer H s E e s'') (fun e' s''=>CX outer H s E e' s'') s'
theorem zo9 (h:sc.names.lookup x=some .cell):∃c,(cellsFrom n sc.names []).lookup x=some c:=by
 have q:=W.cellsFrom_some sc.names n [] (.inl h);exact qaQ.mp q
theorem zq9 {P:Program}{f:Addr}{s s1:Shared}{E:XK}
  (S:FnScope N ps scope) (hd:A.handled=none) (e0:Env0 P w K mg base A outer s H) (hl:vs.length=ps.length) (r:Vals vs us)
  (x:InCallC s s.heap.objs.size (bindL (envOfC qual scope s.heap.objs.size f cd).kindOf (ps.zip us) fun _=>none) (cellsFrom (s.heap.objs.size+1) scope.names []) (bindC (envOfC qual scope s.heap.objs.size f cd).kindOf (ps.zip us) fun _=>none) s1):
  Inv (fD CX P w K mg base N qual scope f cd A outer s H E) [] (start N vs) H s1:=by
 have hpl:ps.length<=N.length:=by have:=congrArg List.length S.pre;rw[Cv]at this;lia
 obtain⟨h1,tk,rfl,hk⟩:=x.done;have noA:∀b:Addr,b∉(fD CX P w K mg base N qual scope f cd A outer s H E).ex:=fun b z=>absurd (show b∈([]:List Addr)from z) (by simp)
 refine⟨⟨e0.mod,S.kind,rfl,rfl,bU _,fun y z c h1 h2=>?_,fun y hy=>?_,fun y c _ h=>?_,fun _=>hd,Around.frames_deeper e0.frames,.inr ⟨rfl,rfl⟩,fun b z=>absurd z (noA b),e0.bs,e0.bsz,fun b _ _=>noA b,fun b z=>absurd z (noA b),e0.funs,e0.frf⟩,
  rfl,e0.bare,Un.kept hk,⟨_,x.toInCall.ns,fun i y v h1 h2 h3=>?_⟩,fun y c h=>⟨_,x.cell y c h⟩,e0.hok.fresh (bU _),fun y c h=>?_,fun p hp=>absurd (show p∈([]:List (Addr×Obj))from hp) (by simp),e0.hok.kept hk,?_⟩
 ·exact name_of_addr x.apart (Qe h1) (Qe h2)
 ·have hy:scope.names.lookup y=some .cell\/scope.names.lookup y=some .free:=hy;rcases hy with hy|hy
  ·exact zo9 hy
  ·exact absurd rfl (S.nofree _ (Qe hy))
 ·exact Nat.le_of_lt (x.above y c (Qe h))
 ·have hi:i<vs.length:=by
   unfold start at h2
   by_cases hi:i<vs.length
   ·exact hi
   ·rw[qT (by simpa using hi)]at h2;rw[vK]at h2
    split at h2<;>cases h2
  have ha:vs[i]? =some v:=by
   unfold start at h2;rw[jS (by simpa using hi),fJ]at h2;cases e:vs[i]? with
   |none=>rw[e]at h2;cases h2
   |some a=>rw[e]at h2;cases h2;rfl
  obtain⟨u,hu,rv⟩:=r.get ha;have hp:ps[i]? =some y:=by
   rw[<-S.pre,qaX (by lia)];exact h1
  have ndP:ps.Nodup:=by rw[<-S.pre];exact S.nd.sublist (List.take_sublist _ _)
  refine⟨u,rv,?_⟩;rcases S.par y (Lk hp)with k|k
  ·exact .inl ⟨k,znL ndP hp hu k⟩
  ·obtain⟨c,e⟩:=zo9 (n:=s.heap.objs.size+1) k;refine .inr ⟨.inl k,c,e,?_⟩;have q:=x.cell y c e;rw[zmT ndP hp hu (by show scope.names.lookup y≠_;rw[k];decide)]at q;exact q
 ·exact e0.hok.fresh (Nat.le_of_lt (x.above y c (Qe h)))
 ·unfold start;show _=N.length;rw[iC,eL,Oa];lia
theorem Bf {P:Program}{k:Nat}{f:Addr}{name qual:Str}{dV kV doc pm cdv ct oc:Value}{an od:Option Addr}
  {osl:Array (Option Value)} {N ps:List Str} {sp:Sp} (lk:K.lookup f=some ⟨oc,od,.func (W.fnOf name qual params body scope dV kV doc pm an cdv ct),osl⟩) (hcd:W.codeIn K cdv qual=true) (S:FnScope N ps scope)
  (len:∀vs H Q E,sp vs H Q E->vs.length=ps.length)
  (hbody : ∀ (A : Around) (outer : List Env) (s : Shared) (H : Hp) (vs : List V) (Q : VK) (E : XK), Room k (A.deeper (envOfC qual scope s.heap.objs.size f cdv)) -> sp vs H Q E ->
   ∃t,PSs (fD CX P w K mg base N qual scope f cdv A outer s H E) body t/\t {nx:=fun _ H'=>Q .non H',rt:=Q} (start N vs) H):
  FnOk P w K mg base CX (k+1) f (W.fnOf name qual params body scope dV kV doc pm an cdv ct) ps sp:=by
 refine⟨len,fun A outer s H args us vs Q E hr e0 hb r hsp=>?_⟩;have hl:=len _ _ _ _ hsp;have KX:K.In s.heap:=e0.mod.kin.keeps fun b o e=>(e0.bs b o e).1
 have lim:s.heap.NoLimit:=e0.mod.nolimit.keeps fun b o e=>(e0.bs b o e).1
 have hkind:∀y∈ps.zip us,scope.names.lookup y.1=some .local\/(scope.names.lookup y.1=some .cell/\((cellsFrom (s.heap.objs.size+1) scope.names []).lookup y.1).isSome=true):=fun⟨n,v⟩ hy=>by
  rcases S.par n (List.of_mem_zip hy).1 with q|q
  ·exact .inl q
  ·exact .inr ⟨q,W.cellsFrom_some _ _ _ (.inl q)⟩
 refine codeAny_call_function hr.depth (KX _ _ lk) rfl S.co S.gen rfl (W.codeRec_of KX hcd) (hb _ _ _ _ ?_);refine wpAny_newFunctionEnv_cells S.kind hkind fun env he s1 x=>?_
 subst he;refine⟨lim.keeps x.toInCall.keep,codeAny_func ?_⟩;obtain⟨t,ht,hq⟩:=hbody A outer s H vs Q E (hr.deeper _) hsp;have I:Inv (fD CX P w K mg base N qual scope f cdv A outer s H E) [] (start N vs) H s1:=zq9 S hr.hd e0 hl r x;refine kW (ht [] s1 (start N vs) H _ I hq) (fun fl s' hs=>?_) fun e s' hs=>hs
 have fin:∀{σ':St} {H':Hp} {v:V} {u:Value},Inv (fD CX P w K mg base N qual scope f cdv A outer s H E) [] σ' H' s'->RelV v u->Q v H'->CE outer P w H s Q u s':=
  fun{σ' H' v u} J rv q=>⟨v,H',J.os,J.bare,J.base,J.hok,rv,q⟩
 cases fl with
 |ret u=>
  obtain⟨v,σ',H',J,rv,q⟩:=hs;exact fin J rv q
 |next=>
  obtain⟨σ',H',J,q⟩:=hs;exact fin (v:=V.non) (u:=Value.none) J rfl q
 |brk=>
  obtain⟨_,_,_,q⟩:=hs;exact False.elim q
 |cont=>
  obtain⟨_,_,_,q⟩:=hs;exact False.elim q
section
variable {X:Cx} {x:Str} {p pos:Pos} {e:Expr} {es:List Expr} {t:TA} {id T:String} {r:List V->Hp->VK->Prop}
noncomputable def Yx (r:List V->Hp->VK->Prop)(t:TA):TE:=fun σ H Q=>t σ H fun vs H1=>r vs H1 Q
theorem zlV (hc:jM X (.builtin id) r)(hg:Gl X x)(hm:X.mg x=none)(hv:bootBuiltins x=some (.builtin id))(ha:PA X (e::es) t)(hn:autoParam (x≠"__name__") zu1._auto_1)(hdb:autoParam ((x==("__debug__":Str))=false) zu1._auto_1)
  (he:autoParam (starEach (e::es) X.env=(false,eval e X.env)::starEach es X.env) zu3._auto_1) (hpl:autoParam ((backTo pos (starEach es X.env)).any (·.1)=false) zu3._auto_1):PE X (.Call (.Name x p) (e::es) [] pos) (Yx r t):=by
 intro pins s σ H Q I h;refine Xm (yF I hg hm hv ?_ hn hdb);exact PyProof.Rows.callWith_builtin1 (bC (ha pos pins s σ H _ I h) fun us s1 ⟨vs,H1,I1,r1,q1⟩=>hc pins s1 σ H1 vs us Q I1 r1 q1) he hpl
theorem znF (hc:jM X (.type T) r)(hg:Gl X x)(hm:X.mg x=none)(hv:bootBuiltins x=some (.type T))(ha:PA X (e::es) t)(hn:autoParam (x≠"__name__") zu1._auto_1)(hdb:autoParam ((x==("__debug__":Str))=false) zu1._auto_1)
  (he:autoParam (starEach (e::es) X.env=(false,eval e X.env)::starEach es X.env) zu3._auto_1) (hpl:autoParam ((backTo pos (starEach es X.env)).any (·.1)=false) zu3._auto_1):PE X (.Call (.Name x p) (e::es) [] pos) (Yx r t):=by
 intro pins s σ H Q I h;refine Xm (yF I hg hm hv ?_ hn hdb);exact Cw (bC (ha pos pins s σ H _ I h) fun us s1 ⟨vs,H1,I1,r1,q1⟩=>hc pins s1 σ H1 vs us Q I1 r1 q1) he hpl
end
end L2
namespace HT
open PyProof.Rows PySem
theorem qW (A:Around)(s:Shared)(a:Int)(t:Tok)(c:Int)(u:Tok):∃e,SeqAt.EqAt A s (.int a t) (.int c u) e/\(e=true↔a=c):=
 ⟨(a==c),SeqAt.EqAt.int_int a t c u,by simp⟩
section
variable {prog:Program} {w:World} {A:Around} {E:Value->Shared->Prop} {s:Shared}
theorem xH {t b:Addr}{vs ws:List Value}{Q:Value->Shared->Prop}(ht:IsTup s.heap t vs.toArray)(hb:IsTup s.heap b ws.toArray)(hv:vs≠[])
  (h1:ws=[]->Q (.ref t) s) (h2:ws≠[]->Q (.ref s.heap.objs.size) {s with heap:=s.heap.push {cls:= .type "tuple",data:= .seq (vs++ws).toArray}})
  (hsz:vs.length+ws.length<=sizeLine):wpAny (model prog w) A (binaryOp .Add (.ref t) (.ref b)) Q E s:=by
 obtain⟨⟨cls,dd,data,sl⟩,ho,hc,n,hd⟩:=id ht;obtain⟨⟨cls2,dd2,data2,sl2⟩,ho2,hc2,n2,hd2⟩:=id hb;simp only at hc hd hc2 hd2;subst hc hd hc2 hd2;have e:vs.toArray++ws.toArray=(vs++ws).toArray:=by simp
 by_cases hw:ws=[]
 ·exact concat_meets ⟨_,ho,rfl⟩ ⟨_,ho2,rfl⟩ noFill_tuple_add seq_tuple_add Zp qa3 (qa4 _ _)
   (tuple_addW1 t b vs.toArray ws.toArray n n2 dd dd2 sl sl2 (by simpa using hv) (by simp[hw])) ⟨ho,ho2,h1 hw⟩
 ·refine concat_meets ⟨_,ho,rfl⟩ ⟨_,ho2,rfl⟩ noFill_tuple_add seq_tuple_add Zp qa3 (qa4 _ _)
   (tuple_addW2 t b vs.toArray ws.toArray n n2 dd dd2 sl sl2 (by simpa using hv) (by simpa using hw) (by rw[cO,cO];exact hsz)) ⟨ho,ho2,?_⟩
  rw[e];exact h2 hw
noncomputable def sIx (n d:Nat):Option Int->Nat
 |none=>d
 |some v=>if v<0 then(v+(n:Int)).toNat else min v.toNat n
theorem Yh (n d:Nat):sIx n d none=d:=rfl
theorem Vi (n d k:Nat):sIx n d (some (k:Int))=min k n:=by
 show(if(k:Int)<0 then((k:Int)+(n:Int)).toNat else min (k:Int).toNat n)=min k n;rw[if_neg (by lia),Uc]
theorem Hx (n d:Nat)(hd:d<=n)(o:Option Int):sIx n d o<=n:=by
 cases o with
 |none=>exact hd
 |some v=>
  show(if v<0 then(v+(n:Int)).toNat else min v.toNat n)<=n
  by_cases hv:v<0
  ·rw[if_pos hv];lia
  ·rw[if_neg hv];exact Nat.min_le_right _ _
theorem zqQ (v:Int)(n d:Nat):(if v<0 then max (v+(n:Int)) 0 else min v (n:Int))=((sIx n d (some v):Nat):Int):=by
 show(if v<0 then max (v+(n:Int)) 0 else min v (n:Int))=(((if v<0 then(v+(n:Int)).toNat else min v.toNat n):Nat):Int)
 by_cases hv:v<0
 ·simp only[if_pos hv];lia
 ·simp only[if_neg hv];lia
theorem zpr (lo hi:Option Int)(n:Nat):Builtin.Slice.sliceAdjust lo hi 1 (n:Int)=(((sIx n 0 lo:Nat):Int),((sIx n n hi:Nat):Int)):=by
 have h1:¬((1:Int)<0):=by lia
 unfold Builtin.Slice.sliceAdjust;simp only[h1,iK];refine Prod.ext ?_ ?_
 ·cases lo with
  |none=>rfl
  |some v=>exact zqQ v n 0
 ·cases hi with
  |none=>rfl
  |some v=>exact zqQ v n n
theorem zpO (i j:Nat):Builtin.Slice.slicePlaces (i:Int) (j:Int) 1=j-i:=by
 unfold Builtin.Slice.slicePlaces;have h1:(1:Int)>0:=by lia
 simp only[h1,if_true,Int.ediv_one]
 split<;>lia
theorem zlv {v:Value}{o:Option Int}{Q:Option Int->Shared->Prop}(p:IsPart v o)(h:Q o s):wpAny (model prog w) A (Builtin.Slice.slicePartIndex v) Q E s:=by
 cases p with
 |none=>exact slicePart_none h
 |int i t=>exact slicePart_int h
theorem zgu {sl:Addr}{vl vu:Value}{lo hi:Option Int}{n:Nat}{Q:Int×Int×Nat->Shared->Prop}(hs:s.heap.IsSliceOf sl vl vu .none)(pl:IsPart vl lo)(pu:IsPart vu hi)
  (h:Q (((sIx n 0 lo:Nat):Int),1,sIx n n hi-sIx n 0 lo) s):wpAny (model prog w) A (Builtin.Slice.sliceApplied (.ref sl) (pure (n:Int))) Q E s:=by
 obtain⟨os,hos,hcs,hds⟩:=id hs;unfold Builtin.Slice.sliceApplied Builtin.Slice.sliceFields;refine aL (aL (gW hos hds (x:=vl) rfl (aL (gW hos hds (x:=vu) rfl (aL (gW hos hds (x:= .none) rfl (qaz ?_)))))));refine aL (slicePart_none ?_);show wpAny _ _ (if((1:Int)==0)=true then _ else _) _ _ s;rw[if_neg (by decide)];refine aL (zlv pl (aL (zlv pu (aL (qaz ?_)))));show wpAny _ _ (match Builtin.Slice.sliceAdjust lo hi 1 (n:Int)with|(lo,hi)=>pure (lo,(1:Int),Builtin.Slice.slicePlaces lo hi 1)) _ _ s;rw[zpr lo hi n];show wpAny _ _ (pure (((sIx n 0 lo:Nat):Int),(1:Int),Builtin.Slice.slicePlaces ((sIx n 0 lo:Nat):Int) ((sIx n n hi:Nat):Int) 1)) _ _ s;rw[zpO];exact qaz h
theorem pH (xs:Array Value)(i k:Nat):((List.range k).filterMap fun(m:Nat)=>xs[((i:Int)+(m:Int)*1).toNat]?).toArray=((xs.toList.drop i).take k).toArray:=by
 have e:(fun(m:Nat)=>xs[((i:Int)+(m:Int)*1).toNat]?)=fun m=>xs[i+m]?:=by
  funext m
  have:((i:Int)+(m:Int)*1).toNat=i+m:=by lia
  rw[this]
 rw[e];have:=pick_run xs i k;rw[List.filterMap_map]at this;have e2:((fun x=>xs[x]?) ∘ fun x=>i+x)=fun m=>xs[i+m]?:=rfl
 rw[e2]at this;rw[this]
theorem zjN {t sl:Addr}{items:Array Value}{vl vu:Value}{lo hi:Option Int}{Q:Value->Shared->Prop}(ht:IsTup s.heap t items)(hs:s.heap.IsSliceOf sl vl vu .none)(pl:IsPart vl lo)(pu:IsPart vu hi)
  (hw:¬(sIx items.size 0 lo=0/\sIx items.size items.size hi=items.size))
  (h:Q (.ref s.heap.objs.size) {s with heap:=s.heap.push {cls:= .type "tuple",data:= .seq ((items.toList.drop (sIx items.size 0 lo)).take (sIx items.size items.size hi-sIx items.size 0 lo)).toArray}})
  (hsz:items.size<=sizeLine):wpAny (model prog w) A (getItem (.ref t) (.ref sl)) Q E s:=by
 have htake:sizeOk (.seq ((items.toList.drop (sIx items.size 0 lo)).take (sIx items.size items.size hi-sIx items.size 0 lo)).toArray):=by
  show((items.toList.drop (sIx items.size 0 lo)).take (sIx items.size items.size hi-sIx items.size 0 lo)).toArray.size<=sizeLine;rw[cO,Cv,La,qau];lia
 have hj:sIx items.size items.size hi<=items.size:=Hx _ _ (bU _) hi;obtain⟨os,hos,hcs,hds⟩:=id hs;have hTs:s.TypeIs (.ref sl) "slice":=⟨os,hos,hcs⟩;unfold getItem
 try with_reducible refine jL ?_
 first|refine aL (qaz ?_)|skip
 refine aL (wpAny_sequenceKey ht.typeIs (by decide) ?_);refine aL (Iq (name:=Str.ofString "__getitem__") ht.typeIs Vg
  (Cf Vg ht.typeIs entry_tuple_getitem ?_ (args_tuple_getitem _ _)))
 show wpAny _ _ (Builtin.Tuple.tupleItemsOf (.ref t)>>=_) _ _ s;refine aL (tupleItemsOf_ ht ?_);refine aL (wpAny_typeOf hTs ?_);rw[if_pos (by decide)];refine aL (zgu hs pl pu ?_);have hno:¬((((sIx items.size 0 lo:Nat):Int)==0&&(1:Int)==1&&(sIx items.size items.size hi-sIx items.size 0 lo)==items.size)=true):=by
  intro q;rw[eO,eO]at q;have q1:((sIx items.size 0 lo:Nat):Int)=0:=eq_of_beq q.1.1;have q2:sIx items.size items.size hi-sIx items.size 0 lo=items.size:=eq_of_beq q.2;exact hw ⟨by lia,by lia⟩
 show wpAny _ _ (if(((sIx items.size 0 lo:Nat):Int)==0&&(1:Int)==1&&(sIx items.size items.size hi-sIx items.size 0 lo)==items.size)=true then _ else _) _ _ s;rw[if_neg hno,pH]
 first
  |exact aL (m:=Builtin.Tuple.tupleExact _) (vY (qaz ⟨_,rfl,qaz h⟩) htake)
  |exact aL (m:=Builtin.Tuple.tupleExact _) (vY (aL (qaz (qaz ⟨_,rfl,qaz h⟩))) htake)
  |exact aL (aL (m:=Builtin.Tuple.tupleExact _) (vY (qaz (qaz ⟨_,rfl,qaz h⟩)) htake))
  |exact aL (aL (m:=Builtin.Tuple.tupleExact _) (vY (qaz ⟨_,rfl,qaz h⟩) htake))
end
end HT
namespace L2
open PyProof.Rows PySem PySem.Spec
variable {ns:List Int} {r r':V->Option Int->Option Int->Hp->VK->Prop} {xs:List V} {us its its':List Value} {n j t':Nat} {i:Int} {pins:List (Addr×Obj)} {σ:St} {H:Hp} {s:Shared} {p:Addr} {f:Array Value->Array Value} {A:Around} {y x:V} {u v:Value}
noncomputable abbrev TO:=St->Hp->(Option Int->Hp->Prop)->Prop
noncomputable def PO (X:Cx)(e:Option Expr)(t:TO):Prop:=
 ∀(pins:List (Addr×Obj)) (s:Shared) (σ:St) (H:Hp) (Q:Option Int->Hp->Prop),Inv X pins σ H s->t σ H Q->
  wpAny (model X.prog X.w) X.A (evalPart e X.env) (fun u s'=>∃o H',Inv X pins σ H' s'/\IsPart u o/\Q o H') X.xe s
noncomputable def vZ:TO:=fun _ H Q=>Q none H
noncomputable def Ss (t:TE):TO:=fun σ H Q=>t σ H fun x H1=>∃i,x= .int i/\Q (some i) H1
theorem zjC:∀{us:List Value},Vals (ns.map V.int) us->IntsAre us ns:=by
 induction ns with
 |nil=>intro us r;rw[List.map_nil]at r;cases r;exact .nil
 |cons n ns ih=>
  intro us r;rw[jW]at r;cases r with
  |cons r1 r2=>
   obtain⟨t,e⟩:=r1;subst e;exact .cons n t (ih r2)
section
variable {X:Cx} {e:Expr} {te:TE} {lo hi:Option Expr} {tl th:TO} {pos p2:Pos}
theorem uW:PO X none vZ:=by
 intro pins s σ H Q I h;rw[evalPart_none];exact qaz ⟨none,H,I,.none,h⟩
theorem wF (h:PE X e te):PO X (some e) (Ss te):=by
 intro pins s σ H Q I hw;rw[evalPart_some];refine bC (h pins s σ H _ I hw) fun u s1 ⟨x,H1,I1,r1,q1⟩=>?_
 obtain⟨i,rfl,q⟩:=q1;obtain⟨t,rfl⟩:=r1;exact⟨some i,H1,I1,.int i t,q⟩
noncomputable def SlR (X:Cx)(r:V->Option Int->Option Int->Hp->VK->Prop):Prop:=
 ∀(pins:List (Addr×Obj)) (s:Shared) (σ:St) (H:Hp) (x:V) (v vl vu:Value) (lo hi:Option Int) (sl:Addr) (Q:VK),Inv X pins σ H s->RelV x v->s.heap.IsSliceOf sl vl vu .none->IsPart vl lo->IsPart vu hi->r x lo hi H Q->
  ∃T id,typeLookup (.type T) "__getitem__"=pure (some (.builtin id))/\s.TypeIs v T/\wpAny (model X.prog X.w) X.A (getItem v (.ref sl)) (EP X pins σ Q) X.xe s
theorem SlR.or (h:SlR X r)(h':SlR X r'):SlR X (fun x lo hi H Q=>r x lo hi H Q\/r' x lo hi H Q):=by
 intro pins s σ H x v vl vu lo hi sl Q I rx hs pl pu q;rcases q with q|q
 ·exact h pins s σ H x v vl vu lo hi sl Q I rx hs pl pu q
 ·exact h' pins s σ H x v vl vu lo hi sl Q I rx hs pl pu q
noncomputable def tSl (r:V->Option Int->Option Int->Hp->VK->Prop)(te:TE)(tl th:TO):TE:=fun σ H Q=>te σ H fun x H1=>tl σ H1 fun l H2=>th σ H2 fun u H3=>r x l u H3 Q
theorem sE (hr:SlR X r)(he:PE X e te)(hl:PO X lo tl)(hu:PO X hi th):PE X (.Subscript e (.Slice lo hi none p2) pos) (tSl r te tl th):=by
 intro pins s σ H Q I h;refine Subscript_ (bC (he pins s σ H _ I h) fun v s1 ⟨x,H1,I1,r1,q1⟩=>?_);refine wpAny_Slice (bC (hl pins s1 σ H1 _ I1 q1) fun vl s2 ⟨l,H2,I2,pl,q2⟩=>bC (hu pins s2 σ H2 _ I2 q2) fun vu s3 ⟨u,H3,I3,pu,q3⟩=>?_);rw[evalPart_none];refine qaz ?_;have I4:Inv X pins σ H3 {s3 with heap:=s3.heap.push {cls:= .type "slice",data:= .fields #[vl,vu,.none]}}:=I3.kept (t':=s3.toks) fun b ob q=>bH _ q
 obtain⟨T,id,hT,ht,hg⟩:=hr pins {s3 with heap:=s3.heap.push {cls:= .type "slice",data:= .fields #[vl,vu,.none]}} σ H3 x v vl vu l u s3.heap.objs.size Q I4 r1 (Heap.IsSliceOf.new ..) pl pu q3;show wpAny (model X.prog X.w) X.A (subscriptTail e (.Slice lo hi none p2) v (.ref s3.heap.objs.size)) (EP X pins σ Q) X.xe {s3 with heap:=s3.heap.push {cls:= .type "slice",data:= .fields #[vl,vu,.none]}};exact tail_any (ops:=[.ref s3.heap.objs.size,v]) ht hT hg (by with_unfolding_all rfl)
noncomputable def hV (xs:List V)(lo hi:Option Int):List V:=(xs.drop (HT.sIx xs.length 0 lo)).take (HT.sIx xs.length xs.length hi-HT.sIx xs.length 0 lo)
theorem zkw (xs:List V)(lo hi:Option Int):(hV xs lo hi).length<=xs.length:=by
 unfold hV;rw[Cv,La];lia
noncomputable def rSlT (K:W.Frag):V->Option Int->Option Int->Hp->VK->Prop:=fun x lo hi H Q=>∃a xs,x= .ref a/\SqT K H a xs/\
 ¬(HT.sIx xs.length 0 lo=0/\HT.sIx xs.length xs.length hi=xs.length)/\∀p,H p=none->Q (.ref p) (upd H p (.tup (hV xs lo hi)))
theorem sl_tup:SlR X (rSlT X.K):=by
 intro pins s σ H x v vl vu lo hi sl Q I rx hs pl pu h;obtain⟨a,xs,rfl,hx,hw,q⟩:=h;cases rx;obtain⟨its,r,ht,hz⟩:=I.tuple hx;have hlen:its.toArray.size=xs.length:=by rw[cO];exact r.length.symm
 refine⟨"tuple",_,PyProof.Rows.slot_tuple_getitem.lookup,ht.typeIs,?_⟩;refine HT.zjN ht hs pl pu (by rw[hlen];exact hw) ?_ (by rw[hlen];exact hz);rw[hlen];refine⟨.ref s.heap.objs.size,_,I.laid (t':=s.toks) (o:= .tup (hV xs lo hi)) (fun b ob q=>bH _ q) (bU _) ?_,rfl,q _ (I.hok.fresh (bU _))⟩;exact⟨gY (zkw xs lo hi) hz,_,(r.drop (HT.sIx xs.length 0 lo)).take (HT.sIx xs.length xs.length hi-HT.sIx xs.length 0 lo),IsTup.new _ _⟩
noncomputable def Th (K:W.Frag):R2:=fun x y H Q=>∃a b xs ys,x= .ref a/\y= .ref b/\SqT K H a xs/\SqT K H b ys/\xs≠[]/\xs.length+ys.length<=sizeLine/\
 (ys=[]->Q (.ref a) H)/\(ys≠[]->∀p,H p=none->Q (.ref p) (upd H p (.tup (xs++ys))))
theorem Vals.nil_iff (r:Vals xs us):us=[]↔xs=[]:=by
 cases r with
 |nil=>simp
 |cons _ _=>simp
theorem op_catT:OpR X (binaryOp .Add) (Th X.K):=by
 intro pins s σ H x y v u Q I rx ry h;obtain⟨a,b,xs,ys,rfl,rfl,ha,hb,hx,hz,q1,q2⟩:=h;cases rx;cases ry;obtain⟨its,r1,p1,_⟩:=I.tuple ha;obtain⟨its2,r2,p2,_⟩:=I.tuple hb;refine HT.xH p1 p2 (fun z=>hx (r1.nil_iff.mp z)) (fun z=>⟨.ref a,H,I,rfl,q1 (r2.nil_iff.mp z)⟩) (fun z=>?_) (by rw[<-r1.length,<-r2.length];exact hz);refine⟨.ref s.heap.objs.size,_,I.laid (t':=s.toks) (o:= .tup (xs++ys)) (fun b ob q=>bH _ q) (bU _) ?_,rfl,q2 (fun w=>z (r2.nil_iff.mpr w)) _ (I.hok.fresh (bU _))⟩;exact⟨by rw[iC];exact hz,_,r1.append r2,IsTup.new _ _⟩
end
noncomputable def hZ (n:Nat)(i:Int):Option Nat:=if 0<=i then(if i<n then some i.toNat else none)else if-(n:Int)<=i then some (i+n).toNat else none
noncomputable def atI {α:Type}(xs:List α)(i:Int):Option α:=(hZ xs.length i).bind fun j=>xs[j]?
theorem zqB {n:Nat}(h:hZ n i=some j):seqIndex? i n=some j/\j<n/\ -(n:Int)<=i/\i<n:=by
 unfold hZ at h
 by_cases h0:0<=i
 ·rw[if_pos h0]at h
  by_cases h1:i<n
  ·rw[if_pos h1]at h;have e:i.toNat=j:=Option.some.inj h;exact⟨by rw[seqIndex_of h0 h1,e],by lia,by lia,h1⟩
  ·rw[if_neg h1]at h;cases h
 ·rw[if_neg h0]at h
  by_cases h1: -(n:Int)<=i
  ·rw[if_pos h1]at h;have e:(i+n).toNat=j:=Option.some.inj h;exact⟨by rw[seqIndex_neg (by lia) h1,e],by lia,h1,by lia⟩
  ·rw[if_neg h1]at h;cases h
theorem Zs {α:Type}{xs:List α}{v:α}(h:atI xs i=some v):∃j,seqIndex? i xs.length=some j/\xs[j]? =some v/\j<xs.length/\ -(xs.length:Int)<=i/\i<xs.length:=by
 unfold atI at h;cases e:hZ xs.length i with
 |none=>rw[e]at h;cases h
 |some j=>
  rw[e]at h;obtain⟨h1,h2,h3,h4⟩:=zqB e;exact⟨j,h1,h,h2,h3,h4⟩
theorem zoU {α:Type}(xs:List α)(v:α):atI (xs++[v]) (-1)=some v:=by
 have hl:(xs++[v]).length=xs.length+1:=by simp
 have e:hZ (xs++[v]).length (-1)=some xs.length:=by
  unfold hZ;rw[hl,if_neg (by decide),if_pos (by lia)];congr 1;lia
 unfold atI;rw[e];show(xs++[v])[xs.length]? =some v;simp
noncomputable def Wf (b:Expr):Prop:=∀o i,subscripted b false o i=operate [o,i] (getItem o i)
noncomputable def IxR (X:Cx)(r:R2):Prop:=
 ∀(value slice:Expr) (pins:List (Addr×Obj)) (s:Shared) (σ:St) (H:Hp) (x y:V) (v u:Value) (Q:VK),Inv X pins σ H s->RelV x v->RelV y u->r x y H Q->
  subscripted slice false v u=operate [v,u] (getItem v u)->wpAny (model X.prog X.w) X.A (subscriptTail value slice v u) (EP X pins σ Q) X.xe s
noncomputable def MtR (X:Cx)(id:String)(r:V->List V->Hp->VK->Prop):Prop:=
 ∀(pins:List (Addr×Obj)) (s:Shared) (σ:St) (H:Hp) (x:V) (xs:List V) (v:Value) (us:List Value) (Q:VK),Inv X pins σ H s->RelV x v->Vals xs us->r x xs H Q->
  wpAny (model X.prog X.w) X.A (call (.builtin id) (v::us)) (EP X pins σ Q) X.xe s
section
variable {X:Cx} {a b:Expr} {ta tb:TE} {pos:Pos}
theorem IxR.or {r r':R2}(h:IxR X r)(h':IxR X r'):IxR X (fun x y H Q=>r x y H Q\/r' x y H Q):=by
 intro value slice pins s σ H x y v u Q I rx ry q hs;rcases q with q|q
 ·exact h value slice pins s σ H x y v u Q I rx ry q hs
 ·exact h' value slice pins s σ H x y v u Q I rx ry q hs
theorem Bo {r:R2}(hr:IxR X r)(ha:PE X a ta)(hb:PE X b tb)(hs:Wf b):PE X (.Subscript a b pos) (Qd r ta tb):=by
 intro pins s σ H Q I h;exact Subscript_ (Jb ha hb I h fun v u s2 x y H2 I2 rx ry q=>hr a b pins s2 σ H2 x y v u Q I2 rx ry q (hs _ _))
noncomputable def Rl (K:W.Frag):R2:=fun x y H Q=>∃p xs i v,x= .ref p/\y= .int i/\SqL K H p xs/\atI xs i=some v/\Q v H
noncomputable def Td (K:W.Frag):R2:=fun x y H Q=>∃p xs i v,x= .ref p/\y= .int i/\SqT K H p xs/\atI xs i=some v/\Q v H
noncomputable def Ox:R2:=fun x y H Q=>∃z i c,x= .str z/\y= .int i/\z.length<=sizeLine/\atI z.cps.toList i=some c/\Q (.str ⟨#[c]⟩) H
theorem ix_list:IxR X (Rl X.K):=by
 intro value slice pins s σ H x y v u Q I rx ry h hs;obtain⟨p,xs,i,z,rfl,rfl,hq,he,q⟩:=h;cases rx;obtain⟨t,rfl⟩:=ry;obtain⟨its,r,pl,hz⟩:=I.list hq;obtain⟨j,h1,h2,h3,h4,h5⟩:=Zs he;obtain⟨w,ew,rw'⟩:=r.get h2;have hl:=r.length;have hn:=Ep;have fin:EP X pins σ Q w s:=⟨z,H,I,rw',q⟩
 by_cases h0:0<=i
 ·have hj:i.toNat=j:=by
   rw[seqIndex_of h0 h5]at h1;exact Option.some.inj h1
  exact item_listR pl.isList h0 (by lia) (by rw[hj];simpa using ew) fin hs
 ·have hj:(i+(its.toArray.size:Int)).toNat=j:=by
   rw[seqIndex_neg (by lia) h4]at h1;rw[cO,<-hl];exact Option.some.inj h1
  exact subscriptTail_builtinR (x:=w) pl.isList.typeIs slot_list_getitem.lookup
   (wpAny_getItem_list_neg (Q:=fun r s'=>r=w/\EP X pins σ Q r s') pl.isList (by lia) (by rw[cO]<;>lia) (by lia) (by rw[hj];simpa using ew) ⟨rfl,fin⟩) hs
theorem ix_tup:IxR X (Td X.K):=by
 intro value slice pins s σ H x y v u Q I rx ry h hs;obtain⟨p,xs,i,z,rfl,rfl,hq,he,q⟩:=h;cases rx;obtain⟨t,rfl⟩:=ry;obtain⟨its,r,pl,hz⟩:=I.tuple hq;obtain⟨j,h1,h2,h3,h4,h5⟩:=Zs he;obtain⟨w,ew,rw'⟩:=r.get h2;have hl:=r.length;have hn:=Ep;have fin:EP X pins σ Q w s:=⟨z,H,I,rw',q⟩;exact subscriptTail_builtinR (x:=w) pl.typeIs slot_tuple_getitem.lookup
  (getItem_tuple (j:=j) (Q:=fun r s'=>r=w/\EP X pins σ Q r s') pl (by lia) (by lia) (by rw[cO,<-hl];exact h1) (by simpa using ew) ⟨rfl,fin⟩) hs
theorem Gy:IxR X Ox:=by
 intro value slice pins s σ H x y v u Q I rx ry h hs;obtain⟨z,i,c,rfl,rfl,hz,he,q⟩:=h;obtain⟨t,rfl⟩:=rx;obtain⟨t',rfl⟩:=ry;obtain⟨j,h1,h2,h3,h4,h5⟩:=Zs he;have hl:z.cps.toList.length=z.length:=by simp[Str.length]
 rw[hl]at h1 h4 h5;have hn:=Ep;exact tail_any (typeIs_str s z t) slot_str_getitem.lookup (getItem_str (c:=c) (by
  have e1:decide (i< -(2^63:Int))=false:=iQ (by lia);have e2:decide (i>=2^63)=false:=iQ (by lia);rw[e1,e2,Bool.or_false]) (by rw[h1];simpa using h2) ⟨.str ⟨#[c]⟩,H,I.tok _,⟨_,rfl⟩,q⟩) hs
noncomputable def rIx (K:W.Frag):R2:=fun x y H Q=>Rl K x y H Q\/Td K x y H Q\/Ox x y H Q
theorem nP:IxR X (rIx X.K):=ix_list.or (ix_tup.or Gy)
theorem zpN (its:List Value)(n j:Nat)(u:Value):Obj.mapSeq (·.setIfInBounds j u) {cls:= .type "list",data:= .seq its.toArray n}={cls:= .type "list",data:= .seq (its.set j u).toArray n}:=by
 simp[Obj.mapSeq]
theorem Inv.lst (I:Inv X pins σ H s)(h:H p=some (.lst xs)):
  ∃(its:List Value) (n:Nat),Vals xs its/\s.heap.get? p=some {cls:= .type "list",data:= .seq its.toArray n}/\xs.length<=sizeLine:=by
 obtain⟨z,its,n,r,e⟩:=I.hok p _ h;exact⟨its,n,r,e,z⟩
theorem Inv.lstUpd {xs ys:List V}{n n':Nat}{f:Obj->Obj}(I:Inv X pins σ H s)(h:H p=some (.lst xs))
  (ho:s.heap.get? p=some {cls:= .type "list",data:= .seq its.toArray n}) (hf:f {cls:= .type "list",data:= .seq its.toArray n}={cls:= .type "list",data:= .seq its'.toArray n'}) (r:Vals ys its') (hz:ys.length<=sizeLine) (t:Nat):
  Inv X pins σ (upd H p (.lst ys)) {s with heap:=s.heap.update p f,toks:=t}:=by
 have e:(s.heap.update p f).get? p=some {cls:= .type "list",data:= .seq its'.toArray n'}:=by
  rw[Sm f ho (by rw[hf]<;>rfl),hf]
 refine I.write (x:=p) (e:=p) (by rw[h];trivial) (.inl rfl) (fun b u hb q=>(Dy _ _ (Ne.symm hb)).trans q) ⟨_,e⟩ ?_;exact⟨hz,its',n',r,e⟩
noncomputable def Sv:V->V->V->Hp->(Hp->Prop)->Prop:=fun o i v H Q=>∃p xs k j,o= .ref p/\i= .int k/\H p=some (.lst xs)/\hZ xs.length k=some j/\Q (upd H p (.lst (xs.set j v)))
theorem zpc:Pj X Sv:=by
 intro pins s σ H o i v ov iv u Q I ro ri rv h;obtain⟨p,xs,k,j,rfl,rfl,hp,hj,q⟩:=h;cases ro;obtain⟨t,rfl⟩:=ri;obtain⟨its,n,r,ho,hz⟩:=I.lst hp;obtain⟨h1,h2,h3,h4⟩:=zqB hj;have hl:=r.length;have hn:=Ep;have I':Inv X pins σ (upd H p (.lst (xs.set j v))) {s with heap:=s.heap.update p (Obj.mapSeq (·.setIfInBounds j u))}:=
  I.lstUpd hp ho (zpN its n j u) (r.set rv j) (by rw[Ks];exact hz) s.toks
 by_cases h0:0<=k
 ·have hk:k.toNat=j:=by
   rw[seqIndex_of h0 h4]at h1;exact Option.some.inj h1
  exact W.ki_setAt ho h0 (by lia) (by rw[cO,<-hl];exact h4) (by rw[hk];exact⟨_,I',q⟩)
 ·have hk:(k+(its.toArray.size:Int)).toNat=j:=by
   rw[seqIndex_neg (by lia) h3]at h1;rw[cO,<-hl];exact Option.some.inj h1
  exact W.ki_setBack ho (by lia) (by rw[cO,<-hl];exact h3) (by lia) (by rw[hk];exact⟨_,I',q⟩)
theorem zng (lo hi:Option Int)(n:Nat):(sliceBounds lo hi none n).1=((HT.sIx n 0 lo:Nat):Int)/\(sliceBounds lo hi none n).2.1=((HT.sIx n n hi:Nat):Int)/\(sliceBounds lo hi none n).2.2=1:=by
 refine⟨?_,?_,rfl⟩
 ·cases lo with
  |none=>simp[sliceBounds,HT.sIx]
  |some i=>
   simp only[sliceBounds,HT.sIx,Option.getD_none,show(1:Int)>0 by decide,if_true]
   by_cases h:i<0
   ·simp only[h,if_true]<;>lia
   ·simp only[h,iK]<;>lia
 ·cases hi with
  |none=>simp[sliceBounds,HT.sIx]
  |some i=>
   simp only[sliceBounds,HT.sIx,Option.getD_none,show(1:Int)>0 by decide,if_true]
   by_cases h:i<0
   ·simp only[h,if_true]<;>lia
   ·simp only[h,iK]<;>lia
theorem zmH (its:List Value)(lo hi:Option Int):slicePick its.toArray lo hi none=((its.drop (HT.sIx its.length 0 lo)).take (HT.sIx its.length its.length hi-HT.sIx its.length 0 lo)).toArray:=by
 obtain⟨h1,h2,h3⟩:=zng lo hi its.toArray.size;unfold slicePick;rw[h1,h2,h3];simp only[sliceRange_one,pick_run,cO]<;>rfl
noncomputable def rSlL (K:W.Frag):V->Option Int->Option Int->Hp->VK->Prop:=fun x lo hi H Q=>∃a xs,x= .ref a/\SqL K H a xs/\∀p,H p=none->Q (.ref p) (upd H p (.lst (hV xs lo hi)))
theorem sl_list:SlR X (rSlL X.K):=by
 intro pins s σ H x v vl vu lo hi sl Q I rx hs pl pu h;obtain⟨a,xs,rfl,hx,q⟩:=h;cases rx;obtain⟨its,r,ht,hz⟩:=I.list hx;have hlen:=r.length;refine⟨"list",_,slot_list_getitem.lookup,ht.isList.typeIs,?_⟩;refine wpAny_getItem_list_slice ht.isList hs pl pu .none (by simp) ?_ (by rw[cO]<;>lia)
 rw[zmH,<-hlen];refine⟨.ref s.heap.objs.size,_,I.laid (t':=s.toks) (o:= .lst (hV xs lo hi)) (fun b ob q=>bH _ q) (bU _) ?_,rfl,q _ (I.hok.fresh (bU _))⟩;exact⟨gY (zkw xs lo hi) hz,_,0,(r.drop (HT.sIx xs.length 0 lo)).take (HT.sIx xs.length xs.length hi-HT.sIx xs.length 0 lo),eR _ rfl⟩
noncomputable def tQ:V->Bool
 | .non=>true
 | .bl _=>true
 | .int _=>true
 | .str _=>true
 |_=>false
noncomputable def Co:V->V->Bool
 | .non,.non=>true
 | .bl a,.bl b=>a==b
 | .bl a,.int b=>(if a then 1 else 0)==b
 | .int a,.bl b=>a==(if b then 1 else 0)
 | .int a,.int b=>a==b
 | .str a,.str b=>a==b
 |_,_=>false
theorem Hf (ry:RelV y u)(rx:RelV x v)(fy:tQ y=true)(fx:tQ x=true):SeqAt.EqAt A s u v (Co y x):=by
 cases y with
 |non=>
  cases ry;cases x with
  |non=>cases rx;exact SeqAt.EqAt.same _
  |bl b=>cases rx;exact SeqAt.EqAt.none_bool b
  |int b=>obtain⟨t,rfl⟩:=rx;exact SeqAt.EqAt.none_int b t
  |str b=>obtain⟨t,rfl⟩:=rx;exact SeqAt.EqAt.none_str b t
  |_=>exact absurd (show false=true from fx) iX
 |bl a=>
  cases ry;cases x with
  |non=>cases rx;exact SeqAt.EqAt.bool_none a
  |bl b=>cases rx;exact SeqAt.EqAt.bool_bool a b
  |int b=>obtain⟨t,rfl⟩:=rx;exact SeqAt.EqAt.bool_int a b t
  |str b=>obtain⟨t,rfl⟩:=rx;exact SeqAt.EqAt.bool_str a b t
  |_=>exact absurd (show false=true from fx) iX
 |int a=>
  obtain⟨t',rfl⟩:=ry;cases x with
  |non=>cases rx;exact SeqAt.EqAt.int_none a t'
  |bl b=>cases rx;exact SeqAt.EqAt.int_bool a t' b
  |int b=>obtain⟨t,rfl⟩:=rx;exact SeqAt.EqAt.int_int a t' b t
  |str b=>obtain⟨t,rfl⟩:=rx;exact SeqAt.EqAt.int_str a t' b t
  |_=>exact absurd (show false=true from fx) iX
 |str a=>
  obtain⟨t',rfl⟩:=ry;cases x with
  |non=>cases rx;exact SeqAt.EqAt.str_none a t'
  |bl b=>cases rx;exact SeqAt.EqAt.str_bool a t' b
  |int b=>obtain⟨t,rfl⟩:=rx;exact SeqAt.EqAt.str_int a t' b t
  |str b=>obtain⟨t,rfl⟩:=rx;exact SeqAt.EqAt.str_str a t' b t
  |_=>exact absurd (show false=true from fx) iX
 |_=>exact absurd (show false=true from fy) iX
noncomputable def yR (x:V)(u:Value):Bool:=match u with
 | .none=>Co .non x
 | .bool b=>Co (.bl b) x
 | .int i _=>Co (.int i) x
 | .str z _=>Co (.str z) x
 |_=>false
theorem nI (r:RelV y u)(f:tQ y=true):yR x u=Co y x:=by
 cases y with
 |non=>cases r;rfl
 |bl b=>cases r;rfl
 |int i=>obtain⟨t,rfl⟩:=r;rfl
 |str z=>obtain⟨t,rfl⟩:=r;rfl
 |_=>exact absurd (show false=true from f) iX
theorem zn3:∀{xs:List V} {us:List Value},Vals xs us->xs.all tQ=true->us.any (yR x)=xs.any fun y=>Co y x
 |_,_,.nil,_=>rfl
 |y::xs,u::us,.cons r t,f=>by
  rw[Uk,eO]at f;rw[Ku,Ku,nI r f.1,zn3 t f.2]
theorem zl9 (rx:RelV x v)(fx:tQ x=true):∀{xs:List V} {us:List Value},Vals xs us->xs.all tQ=true->∀u∈us,SeqAt.EqAt A s u v (yR x u)
 |_,_,.nil,_=>fun u hu=>by cases hu
 |y::xs,u::us,.cons r t,f=>fun u' hu=>by
  rw[Uk,eO]at f;rcases qam.mp hu with rfl|hu
  ·rw[nI r f.1];exact Hf r rx f.1 fx
  ·exact zl9 rx fx t f.2 u' hu
noncomputable def Xh (x:V)(xs:List V):Bool:=xs.any fun y=>Co y x
noncomputable def rIn (K:W.Frag)(neg:Bool):R2:=fun x y H Q=>∃p xs,y= .ref p/\(SqL K H p xs\/SqT K H p xs)/\tQ x=true/\xs.all tQ=true/\Q (.bl (if neg then !Xh x xs else Xh x xs)) H
theorem zr9:OpR X (compareOp .In) (rIn X.K false):=by
 intro pins s σ H x y v u Q I rx ry h;obtain⟨p,xs,rfl,hq,fx,fs,q⟩:=h;cases ry;rcases hq with hq|hq
 ·obtain⟨its,r,pl,hz⟩:=I.list hq;refine SeqAt.in_listAt (yR x) pl.isList (fun w hw=>zl9 rx fx r fs w (by simpa using hw)) ⟨.bl _,H,I,rfl,?_⟩;rw[show its.toArray.any (yR x)=its.any (yR x) by simp,zn3 r fs];exact q
 ·obtain⟨its,r,pl,hz⟩:=I.tuple hq;refine SeqAt.in_tupleAt (yR x) pl (fun w hw=>zl9 rx fx r fs w (by simpa using hw)) ⟨.bl _,H,I,rfl,?_⟩;rw[show its.toArray.any (yR x)=its.any (yR x) by simp,zn3 r fs];exact q
theorem zjX:jM X (.builtin "len") (fun xs H Q=>∃p ys,xs=[.ref p]/\(SqL X.K H p ys\/SqT X.K H p ys)/\Q (.int ys.length) H):=by
 intro pins s σ H xs us Q I r h;obtain⟨p,ys,rfl,hq,q⟩:=h;obtain⟨u,rfl,rx⟩:=zG r;cases rx;have hn:=Ep;rcases hq with hq|hq
 ·obtain⟨its,r',pl,hz⟩:=I.list hq;have hlen:=r'.length;exact Calls.call_len_list pl.isList (by simp only[cO]<;>lia) ⟨.int ys.length,H,I.tok _,⟨s.toks+1,by rw[cO,hlen]⟩,q⟩
 ·obtain⟨its,r',pl,hz⟩:=I.tuple hq;have hlen:=r'.length;exact len_tuple pl (by simp only[cO]<;>lia) ⟨.int ys.length,H,I.tok _,⟨s.toks+1,by rw[cO,hlen]⟩,q⟩
theorem znN:jM X (.type "list") (fun xs H Q=>∃p ys,xs=[.ref p]/\(SqL X.K H p ys\/SqT X.K H p ys)/\∀l,H l=none->Q (.ref l) (upd H l (.lst ys))):=by
 intro pins s σ H xs us Q I r h;obtain⟨p,ys,rfl,hq,q⟩:=h;obtain⟨u,rfl,rx⟩:=zG r;cases rx;have fin:∀(its:List Value),Vals ys its->ys.length<=sizeLine->∀(h':Heap) (c':Nat),(∀b o',s.heap.get? b=some o'->h'.get? b=some o')->
   h'.get? s.heap.objs.size=some {cls:= .type "list",dict:=none,data:= .seq its.toArray c',slots:= #[]}->EP X pins σ Q (.ref s.heap.objs.size) {s with heap:=h'}:=fun its r' hz h' c' kp e=>
  ⟨.ref s.heap.objs.size,_,I.laid (t':=s.toks) kp (bU _) (show ObjOk X.prog X.w _ h' _ (.lst ys)from⟨hz,its,c',r',e⟩),rfl,q _ (I.hok.fresh (bU _))⟩
 rcases hq with hq|hq
 ·obtain⟨its,r',pl,hz⟩:=I.list hq;have hlen:=r'.length;obtain⟨o,ho,hc,n,hd⟩:=pl.isList;exact call_list_seq p (.inl rfl) ho hc hd (fun h' c' kp e=>fin its r' hz h' c' kp e) (by simp only[cO]<;>lia)
 ·obtain⟨its,r',pl,hz⟩:=I.tuple hq;have hlen:=r'.length;obtain⟨o,ho,hc,n,hd⟩:=pl;exact call_list_seq p (.inr rfl) ho hc hd (fun h' c' kp e=>fin its r' hz h' c' kp e) (by simp only[cO]<;>lia)
theorem zl6:jM X (.type "tuple") (fun xs H Q=>∃p ys,xs=[.ref p]/\((SqL X.K H p ys/\∀l,H l=none->Q (.ref l) (upd H l (.tup ys)))\/(SqT X.K H p ys/\Q (.ref p) H))):=by
 intro pins s σ H xs us Q I r h;obtain⟨p,ys,rfl,h⟩:=h;obtain⟨u,rfl,rx⟩:=zG r;cases rx;rcases h with⟨hq,q⟩|⟨hq,q⟩
 ·obtain⟨its,r',pl,hz⟩:=I.list hq;have hlen:=r'.length;refine call_tuple_list pl.isList (fun h' kp=>?_) (by simp only[cO]<;>lia)
  have I1:Inv X pins σ H {s with heap:=h'}:=I.kept (t':=s.toks) kp;have I2:Inv X pins σ (upd H h'.objs.size (.tup ys)) {s with heap:=h'.push {cls:= .type "tuple",data:= .seq its.toArray}}:=
   I1.laid (t':=s.toks) (fun b o e=>bH _ e) (bU _) (show ObjOk X.prog X.w _ _ _ (.tup ys)from⟨hz,its,r',IsTup.new _ _⟩)
  exact⟨.ref h'.objs.size,_,I2,rfl,q _ (I1.hok.fresh (bU _))⟩
 ·obtain⟨its,r',pl,hz⟩:=I.tuple hq;exact call_tuple_same pl ⟨.ref p,H,I,rfl,q⟩
noncomputable def tyV (K:W.Frag)(T:String)(x:V)(H:Hp):Prop:=match x with
 | .str _=>T="str"
 | .int _=>T="int"
 | .ref p=>(T="list"/\∃xs,SqL K H p xs)\/(T="tuple"/\∃o,K.lookup p=some o/\o.cls= .type "tuple"/\o.dict=none)\/
   (T="dict"/\((∃kvs,H p=some (.dK kvs))\/∃kvs,H p=some (.dT kvs)))\/(T="set"/\∃S n,H p=some (.set S n))
 |_=>False
theorem Fh {T:String}(I:Inv X pins σ H s)(r:RelV x v)(ty:tyV X.K T x H):
  s.TypeIs v T/\∀a,v= .ref a->∃ob,s.heap.get? a=some ob/\ob.dict=none:=by
 cases x with
 |str z=>
  obtain⟨t,rfl⟩:=r;cases(show T="str" from ty);exact⟨typeIs_str s z t,fun _ e=>nomatch e⟩
 |int i=>
  obtain⟨t,rfl⟩:=r;cases(show T="int" from ty);exact⟨typeIs_int s i t,fun _ e=>nomatch e⟩
 |ref p=>
  cases r;rcases ty with⟨rfl,xs,hq⟩|⟨rfl,o,hk,hc,hd⟩|⟨rfl,hk⟩|⟨rfl,S,n,hk⟩
  ·obtain⟨its,_,pl,_⟩:=I.list hq;refine⟨pl.isList.typeIs,fun a e=>?_⟩;cases e;obtain⟨o,n,e,c,hd,_⟩:=pl;exact⟨o,e,hd⟩
  ·refine⟨⟨o,I.kIn p o hk,hc⟩,fun a e=>?_⟩;cases e;exact⟨o,I.kIn _ o hk,hd⟩
  ·have z:∃o,s.heap.get? p=some o/\o.ExactDict:=by
    rcases hk with⟨kvs,hk⟩|⟨kvs,hk⟩
    ·obtain⟨_,_,_,_,o,_,_,e,ex,_⟩:=I.hok p _ hk;exact⟨o,e,ex⟩
    ·obtain⟨_,_,_,_,o,_,_,e,ex,_⟩:=I.hok p _ hk;exact⟨o,e,ex⟩
   obtain⟨o,e,ex⟩:=z;refine⟨⟨o,e,ex.1⟩,fun a e2=>?_⟩;cases e2;exact⟨o,e,ex.2.1⟩
  ·obtain⟨o,_,_,_,e,ex,_⟩:=I.hok p _ hk;refine⟨⟨o,e,ex.1⟩,fun a e2=>?_⟩;cases e2;exact⟨o,e,ex.2.1⟩
 |_=>exact False.elim ty
noncomputable def tBM (K:W.Frag)(T:String)(r:V->List V->Hp->VK->Prop)(to:TE)(t:TA):TE:=fun σ H Q=>to σ H fun x H1=>tyV K T x H1/\t σ H1 fun xs H2=>r x xs H2 Q
variable {o e:Expr} {es:List Expr} {to:TE} {t:TA} {name:Str} {apos cpos:Pos} {T id:String} {r:V->List V->Hp->VK->Prop}
theorem lA (pa:PlainAttrs T)(slot:Slot T name id)(hty:typeOf (.builtin id)=pure (.type "method_descriptor"))(hm:MtR X id r)(ho:PE X o to)(ha:PA X (e::es) t)
  (hbase:autoParam (attributeBase o name X.env (eval o X.env)=eval o X.env) zu3._auto_1)
  (hfew :autoParam (((backTo cpos (starEach (e :: es) X.env)).all (fun x => !x.1) && (backToKw cpos (keywordEach [] X.env)).all (fun x => x.1.isSome)
   &&decide ((e::es).length+([]:List Keyword).length+(if([]:List Keyword).isEmpty then 0 else 1)<30))=true) zu3._auto_1)
  (hline:autoParam ((apos.endLine==cpos.line)=true) zu3._auto_1) (hs:autoParam (starEach (e::es) X.env=(false,eval e X.env)::starEach es X.env) zu3._auto_1) (hplain:autoParam ((backTo cpos (starEach es X.env)).any (·.1)=false) zu3._auto_1):
  PE X (.Call (.Attribute o name apos) (e::es) [] cpos) (tBM X.K T r to t):=by
 intro pins s σ H Q I h;refine wpAny_Call_method_late hbase hfew hline rfl (bC (ho pins s σ H _ I h) fun v s1 ⟨x,H1,I1,r1,ty,q1⟩=>?_);obtain⟨h1,h2⟩:=Fh I1 r1 ty;refine⟨T,id,pa,slot,hty,h1,h2,?_⟩;have hA:=ha cpos pins s1 σ H1 _ I1 q1;rw[hs]at hA ⊢;refine Calls.callWith_builtin (by show(false||(backTo cpos (starEach es X.env)).any (·.1))=false;rw[hplain]<;>rfl) (Calls.evalArgs_plain ?_)
 exact bC hA fun us s2 ⟨vs,H2,I2,r2,q2⟩=>hm pins s2 σ H2 x vs v us Q I2 r1 r2 q2
end
noncomputable def Xr (X:Cx)(id:String)(r:V->List V->Hp->VK->Prop):Prop:=
 ∀(pins:List (Addr×Obj)) (s:Shared) (σ:St) (H:Hp) (x:V) (xs:List V) (v:Value) (us:List Value) (Q:VK),Inv X pins σ H s->RelV x v->Vals xs us->r x xs H Q->
  wpAny (model X.prog X.w) X.A (call (.builtin id) (v::us)) (EP X pins σ Q) X.xe s
theorem Vals.one:∀{x:V} {us:List Value},Vals [x] us->∃u,us=[u]/\RelV x u
 |_,_,.cons r .nil=>⟨_,rfl,r⟩
theorem Vals.two:∀{x y:V} {us:List Value},Vals [x,y] us->∃u v,us=[u,v]/\RelV x u/\RelV y v
 |_,_,_,.cons r (.cons q .nil)=>⟨_,_,rfl,r,q⟩
theorem Vals.eraseIdx:∀{xs:List V} {us:List Value} (i:Nat),Vals xs us->Vals (xs.eraseIdx i) (us.eraseIdx i)
 |_,_,_,.nil=> .nil
 |_,_,0,.cons _ t=>t
 |_,_,i+1,.cons r t=> .cons r (Vals.eraseIdx i t)
theorem Vals.rep (h:Vals xs us):∀k:Nat,Vals (List.replicate k xs).flatten (List.replicate k us).flatten
 |0=> .nil
 |k+1=>by
  rw[zR,zR,Bh,Bh];exact Vals.append h (Vals.rep h k)
theorem zm3 {α:Type}:∀(l:List α) (i:Nat),(l.eraseIdx i).length<=l.length
 |[],_=>bU _
 |_::_,0=>Nat.le_succ _
 |_::r,i+1=>Nat.succ_le_succ (zm3 r i)
theorem znj (its:List Value):∀(k:Nat) (acc:List Value),
  List.foldl (fun x1 x2=>x1++x2) acc.toArray (List.replicate k its.toArray)=(acc++(List.replicate k its).flatten).toArray
 |0,acc=>by simp
 |k+1,acc=>by
  have e:acc.toArray++its.toArray=(acc++its).toArray:=by simp
  have e2:(acc++its)++(List.replicate k its).flatten=acc++(List.replicate (k+1) its).flatten:=by
   rw[zR,Bh,List.append_assoc]
  rw[<-e2,<-znj its k (acc++its),<-e,zR,Tx]
section
variable {X:Cx} {pins:List (Addr×Obj)} {σ:St} {H:Hp} {s:Shared} {l b:Addr} {xs ys zs:List V}
theorem Inv.lset (I:Inv X pins σ H s)(hH:H l=some (.lst xs))
  (e:s.heap.get? l=some {cls:= .type "list",data:= .seq its.toArray n}) (hf:f its.toArray=its'.toArray) (hv:Vals ys its') (hz:ys.length<=sizeLine):
  Inv X pins σ (upd H l (.lst ys)) {s with heap:=s.heap.update l (Obj.mapSeq f),toks:=t'}:=by
 have q:=PySem.IsL.update e f;rw[hf]at q;refine I.write (x:=l) (e:=l) (by rw[hH];exact trivial) (.inl rfl) (fun b' u hb hu=>(Dy s.heap (Obj.mapSeq f) (Ne.symm hb)).trans hu) ⟨_,q⟩ ?_;exact⟨hz,its',_,hv,q⟩
theorem Inv.lnew (I:Inv X pins σ H s)(hv:Vals ys its)(hz:ys.length<=sizeLine):
  Inv X pins σ (upd H s.heap.objs.size (.lst ys)) {s with heap:=s.heap.push {cls:= .type "list",data:= .seq its.toArray},toks:=t'}:=
 I.laid (fun _ _ q=>bH _ q) (bU _) ⟨hz,its,0,hv,eR _ rfl⟩
theorem Inv.fresh (I:Inv X pins σ H s):H s.heap.objs.size=none:=I.hok.fresh (bU _)
theorem Inv.lstM (I:Inv X pins σ H s)(hH:H l=some (.lst xs)):xs.length<=sizeLine/\∃(its:List Value) (n:Nat),Vals xs its/\xs.length=its.length/\s.heap.get? l=some {cls:= .type "list",data:= .seq its.toArray n}:=by
 obtain⟨z,its,n,r,e⟩:=I.hok l _ hH;exact⟨z,its,n,r,r.length,e⟩
theorem sV (h:n<=sizeLine):Builtin.List.listTooLong n=false:=by
 unfold Builtin.List.listTooLong;exact iQ (by lia)
end
section
variable {X:Cx}
noncomputable def Aa:V->List V->Hp->VK->Prop:=fun x vs H Q=>∃l xs y,x= .ref l/\vs=[y]/\H l=some (.lst xs)/\xs.length<sizeLine/\Q .non (upd H l (.lst (xs++[y])))
theorem znm:Xr X "list.append" Aa:=by
 intro pins s σ H x vs v us Q I rx rv h;obtain⟨l,xs,y,rfl,rfl,hH,hz,q⟩:=h;cases rx;obtain⟨u,rfl,ru⟩:=rv.one;obtain⟨z,its,n,r,hl,e⟩:=I.lstM hH;refine Mb F.slot_list_append ⟨_,e,rfl⟩ F.entry_list_append (F.args_list_append_2 _ _) (PySem.list_append l its.toArray n u (by rw[cO];lia)) ⟨e,?_⟩;refine⟨.non,_,I.lset (its':=its++[u]) hH e (by simp) (r.append (.cons ru .nil)) ?_,rfl,q⟩;rw[iC,Pp];lia
noncomputable def Gp:V->List V->Hp->VK->Prop:=fun x vs H Q=>∃l xs i k y,x= .ref l/\vs=[.int i]/\H l=some (.lst xs)/\ -(2^63)<=i/\i<2^63/\seqIndex? i xs.length=some k/\xs[k]? =some y/\Q y (upd H l (.lst (xs.eraseIdx k)))
theorem qK:Xr X "list.pop" Gp:=by
 intro pins s σ H x vs v us Q I rx rv h;obtain⟨l,xs,i,k,y,rfl,rfl,hH,h1,h2,hk,hy,q⟩:=h;cases rx;obtain⟨u,rfl,ru⟩:=rv.one;obtain⟨t,rfl⟩:=ru;obtain⟨z,its,n,r,hl,e⟩:=I.lstM hH;obtain⟨w,hw,rw'⟩:=r.get hy;refine Mb F.slot_list_pop ⟨_,e,rfl⟩ F.entry_list_pop (F.args_list_pop_2 _ _)
  (MeetsSeq.list_pop_at l its.toArray n i t k w (fitsIndex_both h1 h2) (by rw[cO,<-hl];exact hk) (by rw[<-Array.getElem?_toList];exact hw) (by rw[cO];lia)) ⟨e,?_⟩
 refine⟨y,_,I.lset (its':=its.eraseIdx k) hH e ?_ (r.eraseIdx k) ?_,rw',q⟩
 ·show its.toArray.eraseIdxIfInBounds k=(its.eraseIdx k).toArray;rw[List.eraseIdxIfInBounds_toArray]
 ·have:=zm3 xs k;lia
noncomputable def Yw:R2:=fun x y H Q=>∃l b xs zs,x= .ref l/\y= .ref b/\H l=some (.lst xs)/\H b=some (.lst zs)/\xs.length+zs.length<=sizeLine/\∀p,H p=none->Q (.ref p) (upd H p (.lst (xs++zs)))
theorem op_cat:OpR X (binaryOp .Add) Yw:=by
 intro pins s σ H x y v u Q I rx ry h;obtain⟨l,b,xs,zs,rfl,rfl,hH,hB,hz,q⟩:=h;cases rx;cases ry;obtain⟨z,its,n,r,hl,e⟩:=I.lstM hH;obtain⟨z2,its2,n2,r2,hl2,e2⟩:=I.lstM hB;refine PySem.P.add_list e e2 ?_ (by rw[cO,cO];lia);have ea:its.toArray++its2.toArray=(its++its2).toArray:=by simp
 rw[ea];exact⟨.ref _,_,I.lnew (t':=s.toks) (r.append r2) (by rw[iC];lia),rfl,q _ I.fresh⟩
noncomputable def rRep:R2:=fun x y H Q=>∃l k xs,x= .ref l/\y= .int k/\H l=some (.lst xs)/\ -(2^63)<=k/\k<2^63/\xs.length*k.toNat<=sizeLine/\
 ∀p,H p=none->Q (.ref p) (upd H p (.lst (List.replicate k.toNat xs).flatten))
theorem zJ {α:Type}(xs:List α)(k:Nat):(List.replicate k xs).flatten.length=k*xs.length:=by
 induction k with
 |zero=>simp
 |succ k ih=>rw[zR,Bh,iC,ih,Nat.succ_mul,Ma]
theorem pL:OpR X (binaryOp .Mult) rRep:=by
 intro pins s σ H x y v u Q I rx ry h;obtain⟨l,k,xs,rfl,rfl,hH,h1,h2,hz,q⟩:=h;cases rx;obtain⟨t,rfl⟩:=ry;obtain⟨z,its,n,r,hl,e⟩:=I.lstM hH;have hlen:its.toArray.size*k.toNat<=sizeLine:=by rw[cO,<-hl];exact hz
 have hcap:¬its.toArray.size*k.toNat>(2^63-1)/8:=by
  have:(sizeLine:Nat)<=(2^63-1)/8:=by decide
  lia
 have hfit:¬(!Builtin.List.listFitsIndex k)=true:=by
  rw[fitsIndex_both h1 h2];exact iX
 have hlong:¬Builtin.List.listTooLong (its.toArray.size*k.toNat)=true:=by
  rw[sV hlen];exact iX
 have hnew:List.foldl (fun x1 x2=>x1++x2) #[] (List.replicate (if its.toArray.isEmpty=true then 0 else k.toNat) its.toArray)=(List.replicate k.toNat its).flatten.toArray:=by
  have f0:∀m:Nat,List.foldl (fun x1 x2=>x1++x2) #[] (List.replicate m its.toArray)=(List.replicate m its).flatten.toArray:=fun m=>by
   have:=znj its m [];rw[List.nil_append]at this;exact this
  rw[f0];cases its with
  |nil=>simp
  |cons a r'=>rw[if_neg (by simp)]
 refine wpAny_binaryOp_repeat_ref (T:="list") (U:="int") (by decide) ⟨_,e,rfl⟩ (fun s'=>typeIs_int s' k t) noFill_list_mul F.fills_int_mul F.slot_int_rmul repeat_list F.slot_int_index.lookup
  (Mb F.slot_int_rmul (typeIs_int s k t) F.entry_int_rmul (F.args_int_rmul_2 _ _) (int___rmul___int_list k t l its.toArray n)
   ⟨e,rfl,⟨_,e,rfl⟩,Mb F.slot_list_mul ⟨_,e,rfl⟩ F.entry_list_mul (F.args_list_mul_2 _ _) (AutoListH.list___mul___list_int_3 l its.toArray n k t hfit hcap hlong) ⟨e,?_⟩⟩)
 rw[hnew];exact⟨.ref _,_,I.lnew (t':=s.toks) (r.rep k.toNat) (by rw[zJ,Mv];exact hz),rfl,q _ I.fresh⟩
end
end L2
namespace Att
open PyProof.Rows PySem PySem.Calls PySem.W
theorem zkJ {P:Params}{h:Heap}:∀(ns:List Int) (vs:List Value),WellAll P h vs (ns.map WData.int)->IntsAre vs ns:=by
 intro ns
 induction ns with
 |nil=>
  intro vs w;rw[List.map_nil]at w;cases w;exact .nil
 |cons n ns ih=>
  intro vs w;rw[jW]at w;cases w with
  |cons a b=>
   cases a;exact .cons _ _ (ih _ b)
theorem zqb {l:OpenLaw}{n:Nat}(hn:l.most=some n){P:Params}{h:Heap}{args:List WData}{vals:List Value}
  (hpre:l.row.toRowW.claim.pre args=true) (hwl:WellAll P h vals args):
  ∃a vs ns,vals=[Value.ref a]/\args=[WData.list (ns.map WData.int)]/\h.get? a=some {cls:= .type "list",data:= .seq vs.toArray}/\IntsAre vs ns/\ns.length<=n:=by
 have hsh:WShape.hasAll [] args [.list .int]=true:=(pre_splitW hpre).1;have hc:l.pre.holds [] {args:=args}=true:=(pre_splitW hpre).2;obtain⟨d,r,rfl,h1,h2⟩:=hasAllW_cons hsh;obtain rfl:=hasAllW_nil h2;obtain⟨xs,rfl,h3⟩:=hasW_list h1;obtain⟨ns,rfl⟩:=items_int h3;have hlen:ns.length<=n:=by
  unfold OpenLaw.pre at hc;have h4:(WTm.not (.lt (.lit (.int (n:Int))) (.len (.arg 0)))).holds [] {args:=[.list (ns.map .int)]}=true:=by
   have h4:=(holds_andW hc).1;rw[hn]at h4;exact h4
  have h5:=condW_of h4 (w_not (w_lt w_lit (w_len_list (w_arg rfl))));rw[eL]at h5;refine Nat.le_of_not_lt fun q=>?_
  have q':(n:Int)<((ns.length:Nat):Int):=by lia
  first
   |(rw[eG q']at h5;exact absurd h5 (by decide))
   |(simp at h5;lia)
 cases hwl with
 |cons w1 w2=>
  cases w2;cases w1 with
  |list ho hall=>exact⟨_,_,ns,rfl,rfl,ho,zkJ ns _ hall,hlen⟩
theorem zse (l:OpenLaw)(args:List WData):l.row.toRowW.claim.post args (.bool true) args=true:=
 postW_of (r:=l.row.toRowW) (X:=(true==true))
  (show WShape.has [] (.bool true) .bool=true by first|rfl|decide|simp[WShape.has,WShape.arms,WShape.armsAll])
  (show(WTm.eq .res (.lit (.bool true))).value [] {args:=args,res:=some (.bool true),after:=args}=some (.bool (true==true))from w_eq_bool (w_res rfl) w_lit) rfl
theorem attach_call {l:OpenLaw}{n:Nat}{q:Program}{loose:List Str}{XP:(Str->Option Value)->Heap->Prop}{YP:World->Heap->Prop}{d:DefRec}
  (hn:l.most=some n) (hdf:d.params.defaults=[])
  (call : ∀ (w : World) (s₀ s₁ : Shared) (mg mb : Str -> Option Value) (fa : Addr) (o : Obj) (pm cd doc : Value) (a : Addr) (vs : List Value) (ns : List Int),
   Ground q loose [] XP w s₀ mg mb s₁.heap->YP w s₁.heap->
   s₁.heap.get? fa=some o->o.data= .func (docDef d.name d.params d.body d.scope pm cd doc)->s₁.heap.CodeRec cd d.name->mg d.name=some (.ref fa)->
   s₁.heap.get? a=some {cls:= .type "list",data:= .seq vs.toArray}->IntsAre vs ns->ns.length<=n->s₁.gens= #[]->
   codeAny (model l.prog w) callerA (.call (.ref fa) ⟨[.ref a],[]⟩) (fun r s'=>r= .ok (.ret (.bool true))/\OldK s₁.heap s'.heap/\s'.os=s₁.os/\AllBare s'.gens) s₁):
  WalkO q loose XP YP l.row.toRowW d [] (fun f vs=>PySem.call f vs):=by
 intro w s₀ s₁ mg mb G Y fa o pm cd doc dV kV ho hd hcd hD hmg hg args vals as hpre hlay hrd hwl hlo;obtain rfl:dV= .none:=Dflts.none hD hdf;obtain rfl:kV= .none:=Dflts.noKw hD;obtain⟨a,vs,ns,rfl,rfl,hobj,hints,hlen⟩:=zqb hn hpre hwl;refine enter_call (codeAny_mono (call w s₀ s₁ mg mb fa o pm cd doc a vs ns G Y ho (fd_plain hd) hcd hmg hobj hints hlen hg) fun r s' hq=>?_);obtain⟨rfl,h2,h3,h4⟩:=hq;exact⟨.inl ⟨.bool true,.bool true,[],rfl,fun _=>rfl,.bool true,zse l _,fun _=>⟨List.Pairwise.nil,fun _ hm=>(nomatch hm)⟩⟩,h2,h3,h4⟩
end Att
namespace L2
open PyProof.Rows PySem PySem.Spec
variable {w:World} {K:W.Frag} {mg mb:Str->Option Value} {CX:World->tH} {a f b:Addr} {fd:FuncData} {x qual:Str} {sp:Sp} {vs:List (cK×Value)} {ns:List Int} {l:W.OpenLaw} {q prog:Program} {loose ps:List Str} {XP:(Str->Option Value)->Heap->Prop} {YP:World->Heap->Prop} {d:DefRec} {X:Cx} {oc u:Value} {osl:Array (Option Value)} {H H':Hp} {xs:List (List cK×Addr×Value)} {o:Option V} {y:V} {kvs:List (List cK×V)} {ks:List cK} {Q E:Value->Shared->Prop} {h':Heap} {A:Around} {s:Shared} {pins:List (Addr×Obj)}
theorem Ud:∀{vs:List Value} {ns:List Int},IntsAre vs ns->Vals (ns.map V.int) vs
 |_,_,.nil=> .nil
 |_,_,.cons n t h=> .cons ⟨t,rfl⟩ (Ud h)
noncomputable def Fv (H:Hp):Prop:=∀b,H b=none\/∃o xs,H b=some (.frz o (.lst xs))
theorem mS {P:Program}{CX:tH}{k:Nat}{fa a:Addr}{s₁:Shared}{vs:List Value}
  (KX:K.In s₁.heap) (hns:s₁.heap.Ns mainGlobals mg) (hb:s₁.heap.Ns builtinsNs mb) (hbb:∀x:Str,x≠"__name__"->mb x=bootBuiltins x) (hlim:s₁.heap.NoLimit) (hg:s₁.gens= #[])
  (ha:s₁.heap.get? a=some {cls:= .type "list",data:= .seq vs.toArray}) (hi:IntsAre vs ns) (hl:ns.length<=sizeLine) (hr:Room k callerA)
  (F:∀base:Heap,K.In base->base.Ns mainGlobals mg->FnOk P w K mg base CX k fa fd [x] sp) (hbind:∀(s:Shared) (u:Value),BindsTo s fd ⟨[u],[]⟩ [(x,u)])
  (hsp:∀H:Hp,Fv H->SqL K H a (ns.map V.int)->sp [.ref a] H (fun v _=>v= .bl true) fun _ _ _=>False)
  (hCX:∀H e s',CX [] H s₁ (fun _ _ _=>False) e s'->False):
  codeAny (model P w) callerA (.call (.ref fa) ⟨[.ref a],[]⟩) (fun r s'=>r= .ok (.ret (.bool true))/\OldK s₁.heap s'.heap/\s'.os=s₁.os/\AllBare s'.gens) s₁:=by
 have rv:=Ud hi;have lenV:=hi.length;have core:∀H:Hp,Fv H->SqL K H a (ns.map V.int)->HOk P w H s₁.heap->(∀b,H b≠none->b=a)->(H a≠none->K.lookup a=none)->
   codeAny (model P w) callerA (.call (.ref fa) ⟨[.ref a],[]⟩) (fun r s'=>r= .ok (.ret (.bool true))/\OldK s₁.heap s'.heap/\s'.os=s₁.os/\AllBare s'.gens) s₁:=by
  intro H hO hS hok hA hK;have base_of:∀{b:Addr} {o:Obj},s₁.heap.get? b=some o->H b=none->(iF s₁.heap H).get? b=some o:=fun e n=>rH e n
  have noA:∀{b:Addr} {o:Obj} {es:Array DictEntry} {ep:Nat},s₁.heap.get? b=some o->o.data= .dict es ep->H b=none:=fun{b o es ep} e d=>by
   cases q:H b with
   |none=>rfl
   |some u=>
    have e':b=a:=hA b (by rw[q];simp);subst e';rw[ha]at e;cases e;have d':Data.seq vs.toArray _=Data.dict es ep:=d;cases d'
  have nsK:∀{b:Addr} {m:Str->Option Value},s₁.heap.Ns b m->(iF s₁.heap H).Ns b m:=fun{b m} ⟨o,es,ep,e,d,r⟩=>⟨o,es,ep,base_of e (noA e d),d,r⟩
  have hKb:K.In (iF s₁.heap H):=fun b o e=>base_of (KX b o e) (by
   cases q:H b with
   |none=>rfl
   |some u=>
    have e':b=a:=hA b (by rw[q];simp);subst e';rw[hK (by rw[q];simp)]at e;cases e)
  have hM:Mod K mg (iF s₁.heap H):=⟨hKb,nsK hns,⟨mb,nsK hb,hbb⟩,let⟨mc,h1,h2⟩:=hlim;⟨mc,nsK h1,h2⟩⟩;have e0:Env0 P w K mg (iF s₁.heap H) callerA [] s₁ H:=⟨rfl,hM,fun b o e=>zQ e,Nat.le_of_eq (zrT _ _),trivial,fun b hb=>absurd (show b∈([]:List Addr)from hb) (by simp),hok,.of_eq hg⟩;refine codeAny_mono ((F _ hKb (nsK hns)).run callerA [] s₁ H ⟨[.ref a],[]⟩ [.ref a] [.ref a] _ _ hr e0 (hbind s₁ (.ref a)) (.cons rfl .nil) (hsp H hO hS)) fun r s' h=>?_
  cases r with
  |error e=>exact(hCX H e s' h).elim
  |ok fl=>
   cases fl with
   |next=>exact False.elim h
   |brk=>exact False.elim h
   |cont=>exact False.elim h
   |ret u=>
    obtain⟨v,H',os,bare,un,hok',r',q⟩:=h;have q':v= .bl true:=q;subst q';obtain rfl:u=Value.bool true:=r';refine⟨rfl,OldK.of_keep fun b o e=>?_,os,bare⟩;cases q:H b with
    |none=>exact un.keep b o e q (by intro z;exact absurd (show b∈([]:List Addr)from z) (by simp)) (by simp)
    |some u=>
     rcases hO b with z|⟨ob,xs,z⟩
     ·rw[q]at z;cases z
     ·have z2:=un.frzs b ob _ z;obtain⟨e1,_⟩:=hok b _ z;obtain⟨e2,_⟩:=hok' b _ z2;rw[e]at e1;cases e1;exact e2
 cases hk:K.lookup a with
 |some o=>
  have e:=KX a o hk;rw[ha]at e;cases e;refine core (fun _=>none) (fun _=> .inl rfl) (.inr ⟨_,vs.toArray,_,hk,rfl,rfl,rfl,by rw[cO,lenV];exact hl,by simpa using rv⟩) (fun b u z=>by have z':(none:Option HO)=some u:=z;cases z') (fun b z=>absurd rfl z) fun z=>absurd rfl z
 |none=>
  refine core (fun b=>if b=a then some (.frz {cls:= .type "list",data:= .seq vs.toArray} (.lst (ns.map V.int)))else none) (fun b=>?_) (.inl (.inr ⟨{cls:= .type "list",data:= .seq vs.toArray},if_pos rfl⟩)) (fun b u z=>?_) (fun b z=>?_) fun _=>hk
  ·by_cases hb:b=a
   ·exact .inr ⟨_,_,if_pos hb⟩
   ·exact .inl (if_neg hb)
  ·by_cases hb:b=a
   ·have z':=(if_pos hb).symm.trans z;cases z';subst hb;exact⟨ha,by rw[eL];exact hl,vs,_,rv,ha⟩
   ·have z':=(if_neg hb).symm.trans z;cases z'
  ·by_cases hb:b=a
   ·exact hb
   ·exact absurd (if_neg hb) z
theorem vD {n k:Nat}{K:Params->W.Frag}{sp:World->Sp}
  (hn:l.most=some n) (hn2:n<=sizeLine) (hdf:d.params.defaults=[]) (hr:Room k callerA)
  (hY:∀(w:World) (h:Heap),YP w h->(K w.params).In h)
  (F : ∀ (w : World) (mg : Str -> Option Value) (fa : Addr) (h : Heap), (K w.params).In h -> h.Ns mainGlobals mg -> mg d.name = some (.ref fa) ->
   ∃fd:FuncData,(∀(s:Shared) (u:Value),BindsTo s fd ⟨[u],[]⟩ [(x,u)])/\
    ∀base:Heap,(K w.params).In base->base.Ns mainGlobals mg->FnOk l.prog w (K w.params) mg base (CX w) k fa fd [x] (sp w))
  (hsp:∀(w:World) (H:Hp) (a:Addr) (ns:List Int),ns.length<=n->Fv H->SqL (K w.params) H a (ns.map V.int)->sp w [.ref a] H (fun v _=>v= .bl true) fun _ _ _=>False)
  (hCX:∀(w:World) (H:Hp) (s:Shared) (e:Value) (s':Shared),CX w [] H s (fun _ _ _=>False) e s'->False):
  W.WalkO q loose XP YP l.row.toRowW d [] (fun f vs=>PySem.call f vs):=by
 refine Att.attach_call hn hdf fun w s₀ s₁ mg mb fa o pm cd doc a vs ns G Y ho hd hcd hmg hobj hints hlen hg=>?_
 have KX:=hY w _ Y;obtain⟨fd,hb,hF⟩:=F w mg fa _ KX G.T.g hmg;exact mS KX G.T.g G.T.b G.T.builtins G.T.nolimit hg hobj hints (gY hlen hn2) hr hF hb (fun H hO hS=>hsp w H a ns hlen hO hS) fun H e s'=>hCX w H s₁ e s'
noncomputable def zhz (s:Stmt):Arguments:=match s with
 | .FunctionDef _ a _ _ _ _ _ _ _ _=>a
 |_=>{posonlyargs:=[],args:=[],vararg:=none,kwonlyargs:=[],kw_defaults:=[],kwarg:=none,defaults:=[]}
noncomputable def zct (s:Stmt):List Stmt:=match s with
 | .FunctionDef _ _ b _ _ _ _ _ _ _=>b
 |_=>[]
noncomputable def zaM (s:Stmt):Scope:=match s with
 | .FunctionDef _ _ _ _ _ _ sc _ _ _=>sc
 |_=>{kind:= .function,names:=[],isGenerator:=false,isCoroutine:=false}
noncomputable abbrev jF:tH:=fun _ _ _ _ _ _=>False
noncomputable abbrev E0:XK:=fun _ _ _=>False
theorem kJ:Yj jF X E0:=fun _ _ _ _ _ _ _ h=>h.elim
structure Fun (K:W.Frag) (x qual:Str) (st:Stmt) (f:Addr) (fd:FuncData):Prop where
 ex:∃(oc:Value) (od:Option Addr) (kV doc pm:Value) (an:Option Addr) (cdv ct:Value) (osl:Array (Option Value)),
  fd=W.fnOf x qual (zhz st) (zct st) (zaM st) .none kV doc pm an cdv ct/\K.lookup f=some ⟨oc,od,.func fd,osl⟩/\W.codeIn K cdv qual=true
 kp:W.keepIn K (.ref f)=true
section
variable {P:Program} {w:World} {K:W.Frag} {mg:Str->Option Value} {base:Heap}
theorem Fun.ok {st:Stmt}{N ps:List Str}{k:Nat}(F:Fun K x qual st f fd)(S:FnScope N ps (zaM st))(len:∀vs H Q E,sp vs H Q E->vs.length=ps.length)
  (hbody : ∀ (cdv : Value) (A : Around) (outer : List Env) (s : Shared) (H : Hp) (vs : List V) (Q : VK) (E : XK), Room k (A.deeper (envOfC qual (zaM st) s.heap.objs.size f cdv)) -> sp vs H Q E ->
   ∃t,PSs (fD jF P w K mg base N qual (zaM st) f cdv A outer s H E).nox (zct st) t/\t {nx:=fun _ H'=>Q .non H',rt:=Q} (start N vs) H):FnOk P w K mg base jF (k+1) f fd ps sp:=by
 obtain⟨oc,od,kV,doc,pm,an,cdv,ct,osl,rfl,lk,hcd⟩:=F.ex;refine Bf lk hcd S len fun A outer s H vs Q E hr hsp=>?_
 obtain⟨t,h,q⟩:=hbody cdv A outer s H vs Q E hr hsp;exact⟨t,h.nox,q⟩
theorem Fun.binds {st:Stmt}(F:Fun K x qual st f fd)
  (h:∀(kV doc pm:Value) (an:Option Addr) (cdv ct:Value) (us:List Value),us.length=ps.length->bindArgs (W.fnOf x qual (zhz st) (zct st) (zaM st) .none kV doc pm an cdv ct) ⟨us,[]⟩=pure (ps.zip us)):Binds K fd ps []:=by
 obtain⟨oc,od,kV,doc,pm,an,cdv,ct,osl,rfl,lk,hcd⟩:=F.ex;exact .all (h kV doc pm an cdv ct)
theorem Ed {st:Stmt}{od an:Option Addr}{kV doc pm cdv ct:Value}(l:K.lookup f=some ⟨oc,od,.func (W.fnOf x qual (zhz st) (zct st) (zaM st) .none kV doc pm an cdv ct),osl⟩)
  (c:W.codeIn K cdv qual=true) (k:W.keepIn K (.ref f)=true):Fun K x qual st f (W.fnOf x qual (zhz st) (zct st) (zaM st) .none kV doc pm an cdv ct):=⟨⟨oc,od,kV,doc,pm,an,cdv,ct,osl,rfl,l,c⟩,k⟩
end
noncomputable def Same (H H':Hp):Prop:=∀b o,H b=some o->H' b=some o
theorem Same.seq {xs:List V}(e:Same H H')(h:SqL K H a xs):SqL K H' a xs:=by
 rcases h with(h|⟨o,h⟩)|h
 ·exact .inl (.inl (e _ _ h))
 ·exact .inl (.inr ⟨o,e _ _ h⟩)
 ·exact .inr h
section
variable {κ:Type} [DecidableEq κ]
noncomputable def eY (kvs:List (κ×V))(k:κ):Option V:=(kvs.find? fun kv=>decide (kv.1=k)).map (·.2)
noncomputable def eM (kvs:List (κ×V))(k:κ)(v:V):List (κ×V):=
 if(kvs.any fun kv=>decide (kv.1=k))=true then kvs.map (fun kv=>if kv.1=k then(kv.1,v)else kv)else kvs++[(k,v)]
theorem Xl {p:κ×V}{r:List (κ×V)}{k:κ}(e:p.1=k):eY (p::r) k=some p.2:=by simp[eY,Kk,e]
theorem Mm {p:κ×V}{r:List (κ×V)}{k:κ}(e:¬p.1=k):eY (p::r) k=eY r k:=by simp[eY,Kk,e]
theorem zoN (k:κ):∀kvs:List (κ×V),(kvs.any fun kv=>decide (kv.1=k))=(eY kvs k).isSome
 |[]=>rfl
 |p::r=>by
  rw[Ku]
  by_cases e:p.1=k
  ·simp only[Xl e,eG e,Bool.true_or,Option.isSome_some]
  ·rw[Mm e,iQ e,Bool.false_or];exact zoN k r
theorem zkx (kvs:List (κ×V))(k:κ)(v:V):(eM kvs k v).length<=kvs.length+1:=by
 unfold eM
 split
 ·rw[eL];lia
 ·rw[iC,eU,Wb];lia
theorem RelO.isSome_eq {u:Option Value}(r:RelO o u):o.isSome=u.isSome:=by
 cases o with
 |none=>cases u with
  |none=>rfl
  |some _=>exact(show False from r).elim
 |some _=>cases u with
  |none=>exact(show False from r).elim
  |some _=>rfl
theorem KV.val {kvs:List (κ×V)}{vs:List (κ×Value)}(r:KV kvs vs)(k:κ):RelO (eY kvs k) (valueAt vs k):=by
 unfold KV at r
 induction r with
 |nil=>exact True.intro
 | @cons p q ps qs h t ih=>
  obtain⟨h1,h2⟩:=h
  by_cases e:p.1=k
  ·have e':q.1=k:=h1.symm.trans e;have b:valueAt (q::qs) k=some q.2:=by simp[valueAt,Kk,e']
   rw[Xl e,b];exact h2
  ·have e':¬q.1=k:=fun z=>e (h1.trans z)
   have b:valueAt (q::qs) k=valueAt qs k:=by simp[valueAt,Kk,e']
   rw[Mm e,b];exact ih
theorem KV.any {kvs:List (κ×V)}{vs:List (κ×Value)}(r:KV kvs vs)(k:κ):(kvs.any fun kv=>decide (kv.1=k))=vs.any fun kv=>decide (kv.1=k):=by
 unfold KV at r
 induction r with
 |nil=>rfl
 |cons h t ih=>rw[Ku,Ku,ih,h.1]
theorem KV.repl {kvs:List (κ×V)}{vs:List (κ×Value)}(r:KV kvs vs)(k:κ)(ry:RelV y u):
  KV (kvs.map fun kv=>if kv.1=k then(kv.1,y)else kv) (vs.map fun kv=>if kv.1=k then(kv.1,u)else kv):=by
 unfold KV at r ⊢
 induction r with
 |nil=>exact .nil
 | @cons p q ps qs h t ih=>
  rw[jW,jW];refine .cons ?_ ih;obtain⟨h1,h2⟩:=h
  by_cases e:p.1=k
  ·rw[if_pos e,if_pos (h1.symm.trans e)];exact⟨h1,ry⟩
  ·rw[if_neg e,if_neg (fun z=>e (h1.trans z))];exact⟨h1,h2⟩
theorem KV.put {kvs:List (κ×V)}{vs:List (κ×Value)}(r:KV kvs vs)(k:κ)(ry:RelV y u):KV (eM kvs k y) (stored vs k u):=by
 unfold eM stored;rw[r.any k]
 by_cases e:(vs.any fun kv=>decide (kv.1=k))=true
 ·rw[if_pos e,if_pos e];exact r.repl k ry
 ·rw[if_neg e,if_neg e];exact Paired.snoc r ⟨rfl,ry⟩
theorem KV.length {kvs:List (κ×V)}{vs:List (κ×Value)}(r:KV kvs vs):kvs.length=vs.length:=Vm r
end
theorem kG {P:Program}{k:cK}(r:RelV (kV k) u):(kH P w).is k u=true:=by
 cases k with
 |inl i=>obtain⟨t,e⟩:=(show ∃t,u=Value.int i t from r);subst e;exact zod P w i t
 |inr x=>obtain⟨t,e⟩:=(show ∃t,u=Value.str x t from r);subst e;exact zos P w x t
theorem znV {P:Program}:∀{ks:List cK} {us:List Value},Vals (ks.map kV) us->ItemsAre (kH P w) ks us
 |[],_,r=>by rw[List.map_nil]at r;cases r;exact .nil
 |k::ks,_,r=>by
  rw[jW]at r;cases r with
  |cons h t=>exact .cons (kG h) (znV t)
noncomputable abbrev KT (H:Hp):List (List cK×V)->List (List cK×Addr×Value)->Prop:=Paired fun p q=>p.1=q.1/\H q.2.1=some (.tup (p.1.map kV))/\RelV p.2 q.2.2
theorem KT.val (r:KT H kvs xs)(k:List cK):RelO (eY kvs k) ((atKey xs k).map (·.2)):=by
 induction r with
 |nil=>exact True.intro
 | @cons p q ps qs h t ih=>
  obtain⟨h1,_,h2⟩:=h
  by_cases e:p.1=k
  ·have e':q.1=k:=h1.symm.trans e;have b:atKey (q::qs) k=some q.2:=by simp[atKey,Kk,e']
   rw[Xl e,b];exact h2
  ·have e':¬q.1=k:=fun z=>e (h1.trans z)
   have b:atKey (q::qs) k=atKey qs k:=by simp[atKey,Kk,e']
   rw[Mm e,b];exact ih
theorem KT.repl (r:KT H kvs xs)(k:List cK)(ry:RelV y u):
  KT H (kvs.map fun kv=>if kv.1=k then(kv.1,y)else kv) (xs.map (putAt k u)):=by
 induction r with
 |nil=>exact .nil
 | @cons p q ps qs h t ih=>
  rw[jW,jW];refine .cons ?_ ih;obtain⟨h1,h2,h3⟩:=h;unfold putAt
  by_cases e:p.1=k
  ·rw[if_pos e,if_pos (h1.symm.trans e)];exact⟨h1,h2,ry⟩
  ·rw[if_neg e,if_neg (fun z=>e (h1.trans z))];exact⟨h1,h2,h3⟩
theorem KT.put (r:KT H kvs xs)(k:List cK)(hb:H b=some (.tup (k.map kV)))(ry:RelV y u):
  KT H (eM kvs k y) (storedH xs k b u):=by
 have e:(kvs.any fun kv=>decide (kv.1=k))=(atKey xs k).isSome:=by
  rw[zoN,(r.val k).isSome_eq,Option.isSome_map]
 unfold eM storedH;rw[e]
 by_cases q:(atKey xs k).isSome=true
 ·rw[if_pos q,if_pos q];exact r.repl k ry
 ·rw[if_neg q,if_neg q];exact Paired.snoc r ⟨rfl,hb,ry⟩
theorem KT.keeps (r:KT H kvs xs)(ht:∀b ys,H b=some (.tup ys)->H' b=some (.tup ys)):KT H' kvs xs:=
 Paired.mapP r fun _ _ z=>⟨z.1,ht _ _ z.2.1,z.2.2⟩
section
variable {P:Program} {w:World} {H:Hp} {h:Heap} {a:Addr}
theorem By {u:HO}(ok:HOk P w H h)(e:Rd H a u):ObjOk P w H h a u:=e.ok ok
theorem kO {kvs:List (cK×V)}(ok:HOk P w H h)(e:Rd H a (.dK kvs)):kvs.length<=sizeLine/\(a==sysModules)=false/\∃vs,KV kvs vs/\h.DictOf (kH P w) a vs:=
 show ObjOk P w H h a (.dK kvs)from By ok e
theorem Pk {kvs:List (cK×V)}(ok:HOk P w H h)(e:H a=some (.dK kvs)):kvs.length<=sizeLine/\(a==sysModules)=false/\∃vs,KV kvs vs/\h.DictOf (kH P w) a vs:=kO ok (.inl e)
theorem Wl (ok:HOk P w H h)(e:H a=some (.tup (ks.map kV))):(tupleKind (kH P w)).is h ks a:=by
 obtain⟨_,its,r,o,h1,h2,n,h3⟩:=(show ObjOk P w H h a (.tup (ks.map kV))from ok a _ e);exact⟨o,its.toArray,n,h1,h2,h3,by simpa using znV r⟩
theorem kN (ok:HOk P w H h)(e:Rd H a (.dT kvs)):kvs.length<=sizeLine/\(a==sysModules)=false/\
  ∃xs,KT H kvs xs/\h.DictOfH (tupleKind (kH P w)) a xs:=by
 obtain⟨z,y,xs,r,o,es,ep,h1,h2,h3,h4,h5⟩:=(show ObjOk P w H h a (.dT kvs)from By ok e);refine⟨z,y,xs,r,o,es,ep,h1,h2,h3,h4,fun x hx=>?_,h5⟩;have all:∀{l:List (List cK×V)} {m:List (List cK×Addr×Value)},KT H l m->∀x∈m,(tupleKind (kH P w)).is h x.1 x.2.1:=by
  intro l m q
  induction q with
  |nil=>intro x hx;exact nomatch hx
  | @cons p q ps qs hq t ih=>
   intro x hx;rcases qam.mp hx with e|hx
   ·subst e;exact Wl ok (by rw[<-hq.1];exact hq.2.1)
   ·exact ih x hx
 exact all r x hx
theorem So (ok:HOk P w H h)(e:H a=some (.dT kvs)):kvs.length<=sizeLine/\(a==sysModules)=false/\
  ∃xs,KT H kvs xs/\h.DictOfH (tupleKind (kH P w)) a xs:=kN ok (.inl e)
end
noncomputable def pV (H:Hp)(a:Addr)(y:V)(r:Option V):Prop:=
 (∃kvs k,Rd H a (.dK kvs)/\y=kV k/\r=eY kvs k)\/∃kvs k b,Rd H a (.dT kvs)/\y= .ref b/\H b=some (.tup (k.map kV))/\r=eY kvs k
noncomputable def DPut (H:Hp)(a:Addr)(y v:V)(H':Hp):Prop:=
 (∃kvs k,H a=some (.dK kvs)/\y=kV k/\kvs.length<sizeLine/\H'=upd H a (.dK (eM kvs k v)))\/
 ∃kvs k b,H a=some (.dT kvs)/\y= .ref b/\H b=some (.tup (k.map kV))/\kvs.length<sizeLine/\H'=upd H a (.dT (eM kvs k v))
theorem DPut.k {kvs:List (cK×V)}{k:cK}{v:V}(e:H a=some (.dK kvs))(hl:kvs.length<sizeLine):DPut H a (kV k) v (upd H a (.dK (eM kvs k v))):= .inl ⟨kvs,k,e,rfl,hl,rfl⟩
section
variable {X:Cx} {pins:List (Addr×Obj)} {σ:St} {H:Hp} {s:Shared} {a:Addr} {y v:V} {u r:Value} {o:Option V} {A:Around} {E:Value->Shared->Prop}
theorem Inv.big (I:Inv X pins σ H s):sysModules<s.heap.objs.size:=by
 have h:mainGlobals<s.heap.objs.size:=(I.mod.glob.keeps I.bk).lt;exact Nat.lt_trans (by decide) h
theorem zqa (hu:A.units+1<cLine)(I:Inv X pins σ H s)(g:pV H a y (some v))(ry:RelV y u)(h:∀w' s',Inv X pins σ H s'->RelV v w'->Q w' s'):
  wpAny (model X.prog X.w) A (getItem (.ref a) u) Q E s:=by
 rcases g with⟨kvs,k,e,ey,l⟩|⟨kvs,k,b,e,ey,eb,l⟩
 ·subst ey;obtain⟨z,hd,vs,rel,dd⟩:=kO I.hok e;obtain⟨w',hw,rw'⟩:=RelO.some_of (v:=v) (o:=valueAt vs k) (by rw[l];exact rel.val k);exact wpAny_getItem_of (kG ry) dd.mapOf hw (h w' _ (I.tok _) rw')
 ·subst ey;cases(show u=Value.ref b from ry);obtain⟨z,hd,xs,rel,dd⟩:=kN I.hok e;obtain⟨w',hw,rw'⟩:=RelO.some_of (v:=v) (o:=(atKey xs k).map (·.2)) (by rw[l];exact rel.val k)
  obtain⟨p,hp,hp2⟩:=Option.map_eq_some_iff.mp hw;refine wpAny_getItem_heap (qbu hu) (Wl I.hok eb) dd hp ?_;rw[hp2];exact h w' _ (I.tok _) rw'
theorem vL (hu:A.units+1<cLine)(I:Inv X pins σ H s)(g:pV H a y o)(ry:RelV y u)(h:∀s',Inv X pins σ H s'->Q (.bool (!o.isSome)) s'):
  wpAny (model X.prog X.w) A (compareOp .NotIn u (.ref a)) Q E s:=by
 rcases g with⟨kvs,k,e,ey,l⟩|⟨kvs,k,b,e,ey,eb,l⟩
 ·subst ey;obtain⟨z,hd,vs,rel,dd⟩:=kO I.hok e;refine wpAny_notIn_of (kG ry) hd dd.mapOf ?_;rw[<-(rel.val k).isSome_eq,<-l];exact h _ (I.tok _)
 ·subst ey;cases(show u=Value.ref b from ry);obtain⟨z,hd,xs,rel,dd⟩:=kN I.hok e;refine wpAny_notIn_heap (qbu hu) (Wl I.hok eb) hd dd ?_;have q:=(rel.val k).isSome_eq;rw[Option.isSome_map]at q;rw[<-q,<-l];exact h _ (I.tok _)
theorem zp3 {t':Nat}{ob:HO}(I:Inv X pins σ H s)(mu:Nb (H a))(hs:Heap.SameBut a s.heap h')(he:∃q,h'.get? a=some q)(new:ObjOk X.prog X.w (upd H a ob) h' a ob):
  Inv X pins σ (upd H a ob) {s with heap:=h',toks:=t'}:=
 I.write (x:=a) (e:=a) mu (.inl rfl) (fun b q hb z=>(hs.2 b hb).trans z) he new
theorem dk_new {P:Program}{kvs:List (cK×V)}(z:kvs.length<=sizeLine)(hd:(a==sysModules)=false)(rel:KV kvs vs)(dd:h'.DictOf (kH P w) a vs):
  ObjOk P w H' h' a (.dK kvs):=⟨z,hd,vs,rel,dd⟩
theorem zrK {Q:Unit->Shared->Prop}(hu:A.units+1<cLine)(I:Inv X pins σ H s)(g:DPut H a y v H')(ry:RelV y u)(rv:RelV v r)(h:∀s',Inv X pins σ H' s'->Q () s'):
  wpAny (model X.prog X.w) A (setItem (.ref a) u r) Q E s:=by
 rcases g with⟨kvs,k,e,ey,l,eH⟩|⟨kvs,k,b,e,ey,eb,l,eH⟩
 ·subst ey eH;obtain⟨z,hd,vs,rel,dd⟩:=Pk I.hok e;have hz:vs.length<=sizeLine:=by rw[<-rel.length];exact z
  have hl:(eM kvs k v).length<=sizeLine:=by have:=zkx kvs k v;lia
  refine wpAny_setItem_pairs (hsz:=hz) (kG ry) dd fun h' dd' hs=>h _ ?_
  have he:∃q,h'.get? a=some q:=let⟨q,_,_,hq,_⟩:=dd';⟨q,hq⟩;exact zp3 I (by rw[e];exact True.intro) hs he (dk_new hl hd (rel.put k rv) dd')
 ·subst ey eH;cases(show u=Value.ref b from ry);obtain⟨z,hd,xs,rel,dd⟩:=So I.hok e;have hz:xs.length<=sizeLine:=by rw[<-Vm rel];exact z
  have hl:(eM kvs k v).length<=sizeLine:=by have:=zkx kvs k v;lia
  refine wpAny_setItem_heap (hsz:=hz) (qbu hu) (Wl I.hok eb) dd fun h' dd' hs=>h _ ?_
  obtain⟨q,es,ep,hq,h2,h3,h4,_,h5⟩:=dd';refine zp3 I (by rw[e];exact True.intro) hs ⟨q,hq⟩ ⟨hl,hd,_,(rel.put k eb rv).keeps fun c ys ec=>?_,q,es,ep,hq,h2,h3,h4,h5⟩;rw[cF (Pf ec e (fun z=>nomatch z))];exact ec
end
noncomputable def Kf (i:Expr):Prop:=∀ov iv,subscripted i false ov iv=operate [ov,iv] (getItem ov iv)
theorem vI {env:Env}{value slice:Expr}{pos:Pos}{T id:String}
  (hl:typeLookup (.type T) "__getitem__"=pure (some (.builtin id))) (hs:Kf slice)
  (h:wpAny (model prog w) A (eval value env) (fun o s₁=>wpAny (model prog w) A (eval slice env) (fun i s₂=>s₂.TypeIs o T/\wpAny (model prog w) A (getItem o i) Q E s₂) E s₁) E s):
  wpAny (model prog w) A (eval (.Subscript value slice pos) env) Q E s:=by
 refine Subscript_ (kW h (fun o s₁ h₁=>kW h₁ (fun i s₂ h₂=>?_) fun _ _ x=>x) fun _ _ x=>x);obtain⟨hT,h₂⟩:=h₂;unfold subscriptTail;refine aL ?_;rw[getitemInPython_of_ne hT.not_modules];refine aL (wpAny_specialOf hT hl ?_);have fin:wpAny (model prog w) A (subscripted slice false o i) (fun r s₃=>wpAny (model prog w) A (letTemporaryGo value o r>>=fun _=>pure r) Q E s₃) E s₂:=by
  rw[hs o i];exact wpAny_operating (kW h₂ (fun r s₃ h₃=>aL (wpAny_letTemporaryGo (qaz h₃))) fun _ _ x=>x)
 first
  |exact qaz (aL fin)
  |exact aL (qaz (aL fin))
  |exact aL fin
theorem zn5 {σ:St}(I:Inv X pins σ H s)(g:pV H a y o):s.TypeIs (.ref a) "dict":=by
 rcases g with⟨kvs,k,e,_,_⟩|⟨kvs,k,b,e,_,_,_⟩
 ·obtain⟨_,_,vs,_,dd⟩:=kO I.hok e;exact dd.typeIs
 ·obtain⟨_,_,xs,_,dd⟩:=kN I.hok e;exact dd.typeIs
noncomputable def Sn (td ty:TE):TE:=fun σ H Q=>td σ H fun x H1=>ty σ H1 fun y H2=>∃a v,x= .ref a/\pV H2 a y (some v)/\Q v H2
noncomputable def xE (ty td:TE):TE:=fun σ H Q=>ty σ H fun y H1=>td σ H1 fun x H2=>∃a o,x= .ref a/\pV H2 a y o/\Q (.bl (!o.isSome)) H2
noncomputable def Ra (td ty tv:TE):TS:=fun D σ H=>tv σ H fun v H1=>td σ H1 fun x H2=>ty σ H2 fun y H3=>∃a H4,x= .ref a/\DPut H3 a y v H4/\D.nx σ H4
section
variable {X:Cx} {o i e value:Expr} {pos pos' tpos:Pos} {td ty tv:TE}
theorem Ah (hu:X.A.units+1<cLine)(ho:PE X o td)(hi:PE X i ty)(hs:Kf i):PE X (.Subscript o i pos) (Sn td ty):=by
 intro pins s σ H Q I h;refine vI PySem.F.slot_dict_getitem.lookup hs (bC (ho pins s σ H _ I h) fun u s1 ⟨x,H1,I1,rx,q1⟩=>bC (hi pins s1 σ H1 _ I1 q1) fun iv s2 ⟨y,H2,I2,ry,a,v,ex,g,q2⟩=>?_);subst ex;obtain rfl:u=Value.ref a:=rx;exact⟨zn5 I2 g,zqa hu I2 g ry fun w' s3 I3 rw'=>⟨v,H2,I3,rw',q2⟩⟩
theorem zqC (hu:X.A.units+1<cLine)(hi:PE X i ty)(ho:PE X o td):PC X .NotIn i o (xE ty td):=by
 intro pins s σ H Q I h;refine bC (hi pins s σ H _ I h) fun iv s1 ⟨y,H1,I1,ry,q1⟩=>bC (ho pins s1 σ H1 _ I1 q1) fun u s2 ⟨x,H2,I2,rx,a,ov,ex,g,q2⟩=>?_
 subst ex;obtain rfl:u=Value.ref a:=rx;exact vL hu I2 g ry fun s3 I3=>⟨.bl (!ov.isSome),H2,I3,rfl,q2⟩
theorem tZ (hu:X.A.units+1<cLine)(ho:PE X o td)(hi:PE X i ty)(hv:PE X value tv)(hs:swapsWith value (some (.Subscript o i pos')) pos.line X.env=pure false):
  PS X (.Assign [.Subscript o i pos'] value pos) (Ra td ty tv):=by
 intro pins s σ H D I h;refine wpAny_Assign_Subscript (bC (hv pins s σ H _ I h) fun r s1 ⟨v,H1,I1,rv,q1⟩=>bC (ho pins s1 σ H1 _ I1 q1) fun u s2 ⟨x,H2,I2,rx,q2⟩=>bC (hi pins s2 σ H2 _ I2 q2) fun iv s3 ⟨y,H3,I3,ry,a,H4,ex,g,q3⟩=>?_) hs;subst ex;obtain rfl:u=Value.ref a:=rx;exact zrK hu I3 g ry rv fun s4 I4=>⟨σ,H4,I4,q3⟩
end
theorem oJ {P:Program}(h:Heap)(hb:sysModules<h.objs.size):ObjOk P w H (h.push {cls:= .type "dict",data:= .dict #[]}) h.objs.size (.dK []):=
 ⟨lI _,qab.mpr (Ne.symm (gC hb)),[],.nil,Heap.DictOf.new h⟩
noncomputable def Ie:TE:=fun _ H Q=>∀p,H p=none->Q (.ref p) (upd H p (.dK []))
section
variable {X:Cx} {pos:Pos}
theorem pS:PE X (.Dict [] [] pos) Ie:=fun pins s σ H Q I h=>
 wpAny_Dict_empty ⟨.ref s.heap.objs.size,_,I.laid (a:=s.heap.objs.size) (o:= .dK []) (t':=s.toks) (fun _ _ q=>bH _ q) (bU _) (oJ s.heap I.big),rfl,h _ (I.hok.fresh (bU _))⟩
end
end L2
namespace M
open L2 PySem
variable {C:Prop} {c:Ch} {G G' H:Hp} {a p l:Addr} {o:Obj} {xs ys:List V} {ks:List (List Int)} {A A':List Addr} {K:W.Frag} {x v:V} {d:D} {ds es:List D} {i:Nat} {ls:List (List D)} {dk:Option (List Int×List D)} {t:T} {ov:Option (Option V)} {s:Sl} {X:Cx} {e:Expr} {m:MO} {ρ ρ':R} {b:Bool} {f:D->D->Option D} {ma:ME} {op:Operator} {r:V->Hp->VK->Prop} {g:D->Option D}
theorem bA {α β:Type}{o:Option α}{f:α->Option β}{b:β}(h:o.bind f=some b)(k:∀a,o=some a->f a=some b->C):C:=by
 cases o with
 |none=>cases h
 |some a=>exact k a rfl h
theorem bP {α α' β:Type}{o:Option (α×α')}{f:α×α'->Option β}{b:β}(h:o.bind f=some b)(k:∀x y,o=some (x,y)->f (x,y)=some b->C):C:=bA h fun a=>k a.1 a.2
theorem cW {α β:Type}{o:Option α}{f:α->β}{b:β}(h:o.map f=some b)(k:∀a,o=some a->f a=b->C):C:=by
 cases o with
 |none=>cases h
 |some a=>exact k a rfl (Option.some.inj h)
theorem iJ {α α' β:Type}{o:Option (α×α')}{f:α×α'->β}{b:β}(h:o.map f=some b)(k:∀x y,o=some (x,y)->f (x,y)=b->C):C:=cW h fun a=>k a.1 a.2
theorem aM {α:Type}{a:α}(h:none=some a):C:=by cases h
theorem bT {α β:Type}{a c:α}{b d:β}(h:some (a,b)=some (c,d)):a=c/\b=d:=by cases h;exact⟨rfl,rfl⟩
theorem bJ {α:Type}{c:Prop}[Decidable c]{a:Option α}{b:α}(h:(if c then a else none)=some b)(k:c->a=some b->C):C:=by
 by_cases z:c
 ·rw[if_pos z]at h;exact k z h
 ·rw[if_neg z]at h;exact aM h
inductive D where
 |non|bl (b:Bool)|int (i:Int)|str (x:Str)|lst (ds:List D)|tup (ds:List D)|scr (ns:List Int)|exc (c:Str)|dic (ks:List Int) (ds:List D)|dit (ks:List (List Int)) (ds:List D)|obj (c:Str) (ns:List Str) (ls:List D) (ks:List Int) (ds:List D)
noncomputable def Qu (a C:Addr)(h:Heap):Prop:=∃o,h.get? a=some o/\o.cls= .ref C
noncomputable def kI (n:Int):cK:=Sum.inl n
noncomputable def kn (a:Addr)(o:Obj):HO:= .ext (fun h=>h.get? a=some o)
noncomputable def hI:cK->Int
 | .inl k=>hashInt k
 | .inr _=>0
noncomputable def DtN (o:Obj)(xs:List (List cK×Addr×Value)):Prop:=o.ExactDict/\(∃es ep,o.data= .dict es ep/\es.toList=xs.map fun x=>⟨reduceHash (Builtin.Tuple.tupleHashOf (x.1.map hI)),.ref x.2.1,x.2.2⟩)/\(xs.map (·.1)).Nodup
structure DtI (G:Hp) (a:Addr) (o:Obj) (xs:List (List cK×Addr×Value)) (ks:List (List Int)) (ys:List (List cK×V)):Prop where
 sys:(a==sysModules)=false
 dn:DtN o xs
 len:ys.length<=sizeLine
 key:ys.map (·.1)=ks.map (·.map kI)
 kt:Paired (fun(p:List cK×V) (q:List cK×Addr×Value)=>p.1=q.1/\G q.2.1=some (.tup (p.1.map kV))/\RelV p.2 q.2.2) ys xs
structure DkN (a:Addr) (o:Obj) (zs:List (Int×Tok×Value)) (ks:List Int) (ys:List (cK×V)):Prop where
 sys:(a==sysModules)=false
 ex:o.ExactDict
 dat:∃es ep,o.data= .dict es ep/\es.toList=zs.map fun z=>⟨hashInt z.1,.int z.1 z.2.1,z.2.2⟩
 nd:ks.Nodup
 len:ys.length<=sizeLine
 zk:zs.map (·.1)=ks
 key:ys.map (·.1)=ks.map kI
 kv:Paired (fun(p:cK×V) (q:Int×Tok×Value)=>p.1=kI q.1/\RelV p.2 q.2.2) ys zs
mutual
noncomputable def RepD (K:W.Frag)(G:Hp)(v:V):D->Prop
 | .non=>v= .non
 | .bl b=>v= .bl b
 | .int i=>v= .int i
 | .str x=>v= .str x
 | .lst ds=>∃a xs,v= .ref a/\G a=some (.lst xs)/\RepL K G xs ds
 | .tup ds=>∃a xs,v= .ref a/\G a=some (.tup xs)/\RepL K G xs ds
 | .scr ns=>∃a,v= .ref a/\SqL K G a (ns.map V.int)
 | .exc c=>∃a C,v= .ref a/\W.nsIn K mainGlobals c=some (some (.ref C))/\G a=some (.ext (Qu a C))
 | .dic ks ds=>∃a ys,v= .ref a/\Rd G a (.dK ys)/\ys.map (·.1)=ks.map kI/\RepL K G (ys.map (·.2)) ds
 | .dit ks ds=>∃a ys o xs,v= .ref a/\G a=some (kn a o)/\DtI G a o xs ks ys/\RepL K G (ys.map (·.2)) ds
 | .obj c ns ls ks ds=>∃a C dx vs ws p o zs ys,v= .ref a/\W.nsIn K mainGlobals c=some (some (.ref C))/\G a=some (.ins C dx vs)/\vs.map (·.1)=ns/\vs.map (·.2)=ws++[.ref p]/\RepL K G ws ls/\G p=some (kn p o)/\DkN p o zs ks ys/\RepL K G (ys.map (·.2)) ds
noncomputable def RepL (K:W.Frag)(G:Hp)(xs:List V):List D->Prop
 |[]=>xs=[]
 |d::ds=>∃x ys,xs=x::ys/\RepD K G x d/\RepL K G ys ds
end
noncomputable def Fz (G H:Hp):Prop:=∀a o,G a=some o->H a=some o
theorem DtI.mono {xs:List (List cK×Addr×Value)}{ys:List (List cK×V)}(d:DtI G a o xs ks ys)(h:Fz G G'):DtI G' a o xs ks ys:={d with kt:=Paired.mapP d.kt fun _ _ z=>⟨z.1,h _ _ z.2.1,z.2.2⟩}
theorem Fz.refl (G:Hp):Fz G G:=fun _ _ h=>h
theorem Fz.trans {A B C:Hp}(h:Fz A B)(k:Fz B C):Fz A C:=fun a o e=>k a o (h a o e)
theorem Fz.free (h:Fz G H)(e:H p=none):G p=none:=by
 cases q:G p with
 |none=>rfl
 |some o=>rw[h p o q]at e;cases e
theorem Fz.new (e:G p=none)(o:HO):Fz G (upd G p o):=fun a u q=>by
 rw[cF (mM q e)];exact q
theorem Fz.upd2 (h:Fz G H)(p:Addr)(o:HO):Fz (upd G p o) (upd H p o):=fun a u q=>by
 by_cases e:a=p
 ·subst e;rw[gK]at q ⊢;exact q
 ·rw[cF e]at q ⊢;exact h a u q
theorem Fz.right (h:Fz G H)(e:G p=none)(o:HO):Fz G (upd H p o):=fun a u q=>by
 rw[cF (mM q e)];exact h a u q
theorem Fz.sql {G H:Hp}(h:Fz G H)(q:SqL K G a xs):SqL K H a xs:=Same.seq (H:=G) (H':=H) h q
mutual
theorem RepD.mono (h:Fz G G'):∀{v:V} {d:D},RepD K G v d->RepD K G' v d:=by
 intro v d r;cases d with
 |lst _=>exact fK (fun a=>fK fun xs=>And.imp id (And.imp (h a _) (RepL.mono h))) r
 |tup _=>exact fK (fun a=>fK fun xs=>And.imp id (And.imp (h a _) (RepL.mono h))) r
 |scr _=>exact fK (fun a=>And.imp id h.sql) r
 |exc _=>exact fK (fun a=>fK fun C=>And.imp id (And.imp id (h a _))) r
 |dic _ _=>exact fK (fun a=>fK fun ys=>And.imp id (And.imp (Or.imp (h a _) (fK fun o=>h a _)) (And.imp id (RepL.mono h)))) r
 |dit _ _=>exact fK (fun a=>fK fun ys=>fK fun o=>fK fun xs=>And.imp id (And.imp (h a _) (And.imp (fun f=>f.mono h) (RepL.mono h)))) r
 |obj _ _ _ _ _=>exact fK (fun a=>fK fun C=>fK fun dx=>fK fun vs=>fK fun ws=>fK fun p=>fK fun o=>fK fun zs=>fK fun ys=>And.imp id (And.imp id (And.imp (h a _) (And.imp id (And.imp id (And.imp (RepL.mono h) (And.imp (h p _) (And.imp id (RepL.mono h))))))))) r
 |_=>exact r
theorem RepL.mono (h:Fz G G'):∀{xs:List V} {ds:List D},RepL K G xs ds->RepL K G' xs ds:=by
 intro xs ds r;cases ds with
 |nil=>exact r
 |cons _ _=>exact fK (fun x=>fK fun ys=>And.imp id (And.imp (RepD.mono h) (RepL.mono h))) r
end
section
variable {K:W.Frag} {G:Hp}
theorem RepL.nil:RepL K G [] []:=rfl
theorem RepL.cons {x:V}{d:D}(h:RepD K G x d)(t:RepL K G xs ds):RepL K G (x::xs) (d::ds):=⟨x,xs,rfl,h,t⟩
theorem RepL.length:∀{xs:List V} {ds:List D},RepL K G xs ds->xs.length=ds.length
 |_,[],e=>by cases e;rfl
 |_,_::_,⟨x,ys,e,_,r⟩=>by subst e;rw[eU,eU,RepL.length r]
theorem RepL.get:∀{xs:List V} {ds:List D} {i:Nat} {d:D},RepL K G xs ds->ds[i]? =some d->∃x,xs[i]? =some x/\RepD K G x d
 |_,[],_,_,_,h=>by simp at h
 |_,_::_,0,_,⟨x,ys,e,q,r⟩,h=>by subst e;simp at h;subst h;exact⟨x,rfl,q⟩
 |_,_::_,i+1,_,⟨x,ys,e,q,r⟩,h=>by
  subst e;obtain⟨y,h1,h2⟩:=RepL.get (i:=i) r (by simpa using h);exact⟨y,by simpa using h1,h2⟩
theorem RepL.append:∀{xs ys:List V} {ds es:List D},RepL K G xs ds->RepL K G ys es->RepL K G (xs++ys) (ds++es)
 |_,_,[],_,e,r=>by cases e;exact r
 |_,_,_::_,_,⟨x,zs,e,q,r⟩,s=>by subst e;exact⟨x,zs++_,rfl,q,RepL.append r s⟩
theorem RepL.snoc (h:RepL K G xs ds)(q:RepD K G x d):RepL K G (xs++[x]) (ds++[d]):=h.append (.cons q .nil)
theorem RepL.take:∀{xs:List V} {ds:List D} (n:Nat),RepL K G xs ds->RepL K G (xs.take n) (ds.take n)
 |_,_,0,_=>by simp;exact .nil
 |_,[],n+1,e=>by cases e;exact .nil
 |_,_::_,n+1,⟨x,zs,e,q,r⟩=>by subst e;exact⟨x,zs.take n,rfl,q,RepL.take n r⟩
theorem RepL.drop:∀{xs:List V} {ds:List D} (n:Nat),RepL K G xs ds->RepL K G (xs.drop n) (ds.drop n)
 |_,_,0,r=>by simpa using r
 |_,[],n+1,e=>by cases e;exact .nil
 |_,_::_,n+1,⟨x,zs,e,q,r⟩=>by subst e;exact RepL.drop n r
theorem RepL.set:∀{xs:List V} {ds:List D} (i:Nat) {x:V} {d:D},RepL K G xs ds->RepD K G x d->RepL K G (xs.set i x) (ds.set i d)
 |_,[],_,_,_,e,_=>by cases e;exact .nil
 |_,_::_,0,_,_,⟨x,zs,e,q,r⟩,h=>by subst e;exact⟨_,zs,rfl,h,r⟩
 |_,_::_,i+1,_,_,⟨x,zs,e,q,r⟩,h=>by subst e;exact⟨x,_,rfl,q,RepL.set i r h⟩
theorem RepL.rep (h:RepL K G xs ds):∀k:Nat,RepL K G (List.replicate k xs).flatten (List.replicate k ds).flatten
 |0=> .nil
 |k+1=>by rw[zR,zR,Bh,Bh];exact h.append (RepL.rep h k)
theorem RepL.ints:∀(ns:List Int),RepL K G (ns.map V.int) (ns.map D.int)
 |[]=> .nil
 |n::ns=>⟨.int n,ns.map V.int,rfl,rfl,RepL.ints ns⟩
theorem RepL.ints_eq:∀{ns:List Int} {xs:List V},RepL K G xs (ns.map D.int)->xs=ns.map V.int
 |[],_,e=>e
 |n::ns,_,⟨x,ys,e,q,r⟩=>by subst e;cases(show x=V.int n from q);rw[RepL.ints_eq r];rfl
theorem RepL.at {i:Int}(h:RepL K G xs ds)(e:atI ds i=some d):∃x,atI xs i=some x/\RepD K G x d:=by
 unfold atI at e ⊢;rw[h.length];cases q:hZ ds.length i with
 |none=>rw[q]at e;exact aM e
 |some j=>rw[q]at e;exact h.get e
end
inductive Ch where
 |d (x:D)|l (xs:List D)|t (xss:List (List D))
inductive T where
 |lst (cs:List Ch)|tup (cs:List Ch)|ins (c:Str) (fs:List (Str×Ch))|dic (ks:List Int) (ds:List D)|dit (ks:List (List Int)) (ds:List D)|obj (c:Str) (ns:List Str) (ls:List (List D)) (dk:Option (List Int×List D))
inductive Sl where
 |emp|val (d:D)|own (ds:List D)|par (ds:List D)|two (ds es:List D)|tre (t:T)|ptr (t:T)
noncomputable abbrev R:=List Sl
noncomputable def Sl.items:Sl->Option (List D)
 | .own ds=>some ds
 | .par ds=>some ds
 |_=>none
structure Bs where
 G:Hp
 H:Hp
 O:List (Nat×Addr)
noncomputable def RepTb (K:W.Frag)(G H:Hp):List V->List (List D)->List Addr->Prop
 |[],[],A=>A=[]
 |x::xs,ds::dss,A=>∃r ys A2,x= .ref r/\H r=some (.lst ys)/\RepL K G ys ds/\RepTb K G H xs dss A2/\A=r::A2
 |_,_,_=>False
noncomputable def RepC (K:W.Frag)(G H:Hp)(x:V):Ch->List Addr->Prop
 | .d y,A=>RepD K G x y/\A=[]
 | .l ds,A=>∃l xs,x= .ref l/\H l=some (.lst xs)/\RepL K G xs ds/\A=[l]
 | .t xss,A=>∃p xs A',x= .ref p/\H p=some (.lst xs)/\RepTb K G H xs xss A'/\A=p::A'
noncomputable def RepCs (K:W.Frag)(G H:Hp):List V->List Ch->List Addr->Prop
 |[],[],A=>A=[]
 |x::xs,c::cs,A=>∃A1 A2,RepC K G H x c A1/\RepCs K G H xs cs A2/\A=A1++A2
 |_,_,_=>False
noncomputable def RepO (K:W.Frag)(G H:Hp)(xs:List V)(ls:List (List D)):Option (List Int×List D)->List Addr->Prop
 |none,A=>RepTb K G H xs ls A
 |some q,A=>∃ws p o zs ys A',xs=ws++[.ref p]/\RepTb K G H ws ls A'/\H p=some (kn p o)/\DkN p o zs q.1 ys/\RepL K G (ys.map (·.2)) q.2/\A=A'++[p]
noncomputable def RepT (K:W.Frag)(G H:Hp)(v:V):T->List Addr->Prop
 | .lst cs,A=>∃p xs A',v= .ref p/\H p=some (.lst xs)/\RepCs K G H xs cs A'/\A=p::A'
 | .tup cs,A=>∃p xs A',v= .ref p/\H p=some (.tup xs)/\RepCs K G H xs cs A'/\A=p::A'
 | .ins c fs,A=>∃p C dx vs A',v= .ref p/\W.nsIn K mainGlobals c=some (some (.ref C))/\H p=some (.ins C dx vs)/\H dx=some (.own p)/\vs.map (·.1)=fs.map (·.1)/\RepCs K G H (vs.map (·.2)) (fs.map (·.2)) A'/\A=p::dx::A'
 | .dic ks ds,A=>∃p ys,v= .ref p/\H p=some (.dK ys)/\ys.map (·.1)=ks.map kI/\RepL K G (ys.map (·.2)) ds/\A=[p]
 | .dit ks ds,A=>∃p ys o xs,v= .ref p/\H p=some (kn p o)/\DtI G p o xs ks ys/\RepL K G (ys.map (·.2)) ds/\A=[p]
 | .obj c ns ls dk,A=>∃p C dx vs A',v= .ref p/\W.nsIn K mainGlobals c=some (some (.ref C))/\H p=some (.ins C dx vs)/\H dx=some (.own p)/\vs.map (·.1)=ns/\RepO K G H (vs.map (·.2)) ls dk A'/\A=p::dx::A'
section
variable {K:W.Frag} {G G' H H':Hp}
theorem RepTb.move:∀{xs:List V} {dss:List (List D)} {A:List Addr},RepTb K G H xs dss A->Fz G G'->(∀a∈A,H' a=H a)->RepTb K G' H' xs dss A
 |[],[],_,h,_,_=>h
 |x::xs,ds::dss,A,⟨r,ys,A2,e1,e2,e3,e4,e5⟩,hg,hh=>⟨r,ys,A2,e1,by rw[hh r (by rw[e5];simp)];exact e2,e3.mono hg,e4.move hg fun a m=>hh a (by rw[e5];simp[m]),e5⟩
 |[],_::_,_,h,_,_=>h.elim
 |_::_,[],_,h,_,_=>h.elim
theorem RepTb.det:∀{xs:List V} {dss:List (List D)} {A A':List Addr},RepTb K G H xs dss A->RepTb K G' H' xs dss A'->A=A'
 |[],[],_,_,h,h'=>by rw[show _=[]from h,show _=[]from h']
 |x::xs,ds::dss,_,_,⟨r,ys,A2,e1,_,_,e4,e5⟩,⟨r',ys',A2',e1',_,_,e4',e5'⟩=>by
  rw[e1]at e1';cases e1';rw[e5,e5',e4.det e4']
 |[],_::_,_,_,h,_=>h.elim
 |_::_,[],_,_,h,_=>h.elim
theorem RepTb.here:∀{xs:List V} {dss:List (List D)} {A:List Addr},RepTb K G H xs dss A->∀{a:Addr},a∈A->∃xs,H a=some (.lst xs)
 |[],[],_,h,a,m=>by rw[show _=[]from h]at m;cases m
 |x::xs,ds::dss,_,⟨r,ys,A2,e1,e2,_,e4,e5⟩,a,m=>by
  rw[e5]at m;rcases qam.mp m with rfl|m
  ·exact⟨ys,e2⟩
  ·exact e4.here m
 |[],_::_,_,h,_,_=>h.elim
 |_::_,[],_,h,_,_=>h.elim
theorem RepO.move (h:RepO K G H xs ls dk A)(hg:Fz G G')(hh:∀a∈A,H' a=H a):RepO K G' H' xs ls dk A:=by
 cases dk with
 |none=>exact RepTb.move h hg hh
 |some q=>
  obtain⟨ws,p,o,zs,ys,A',e,r,q1,q2,q3,rfl⟩:=h;exact⟨ws,p,o,zs,ys,A',e,r.move hg fun a m=>hh a (by simp[m]),by rw[hh p (by simp)];exact q1,q2,q3.mono hg,rfl⟩
theorem RepO.det (h:RepO K G H xs ls dk A)(h':RepO K G' H' xs ls dk A'):A=A':=by
 cases dk with
 |none=>exact RepTb.det h h'
 |some q=>
  obtain⟨ws,p,_,_,ys,B,e,r,_,_,_,rfl⟩:=h;obtain⟨ws',p',_,_,ys',B',e',r',_,_,_,rfl⟩:=h';rw[e]at e';obtain⟨rfl,q2⟩:=List.append_inj' e' rfl;cases q2;rw[r.det r']
theorem RepO.here (h:RepO K G H xs ls dk A)(m:a∈A):(∃xs,H a=some (.lst xs))\/∃o,H a=some (kn a o):=by
 cases dk with
 |none=>exact .inl (RepTb.here h m)
 |some q=>
  obtain⟨ws,p,o,zs,ys,B,e,r,q1,_,_,rfl⟩:=h;rcases qan.mp m with m|m
  ·exact .inl (r.here m)
  ·simp at m;subst m;exact .inr ⟨o,q1⟩
theorem RepC.move (h:RepC K G H x c A)(hg:Fz G G')(hh:∀a∈A,H' a=H a):RepC K G' H' x c A:=by
 cases c with
 |d y=>exact⟨h.1.mono hg,h.2⟩
 |l ds=>obtain⟨l,xs,e,q,r,rfl⟩:=h;exact⟨l,xs,e,by rw[hh l (by simp)];exact q,r.mono hg,rfl⟩
 |t xss=>obtain⟨p,xs,A',e,q,r,rfl⟩:=h;exact⟨p,xs,A',e,by rw[hh p (by simp)];exact q,r.move hg fun a m=>hh a (by simp[m]),rfl⟩
theorem RepCs.move:∀{xs:List V} {cs:List Ch} {A:List Addr},RepCs K G H xs cs A->Fz G G'->(∀a∈A,H' a=H a)->RepCs K G' H' xs cs A
 |[],[],_,h,_,_=>h
 |x::xs,c::cs,A,⟨A1,A2,h1,h2,e⟩,hg,hh=>⟨A1,A2,h1.move hg fun a m=>hh a (by rw[e];exact Lv _ m),h2.move hg fun a m=>hh a (by rw[e];exact jK _ m),e⟩
 |[],_::_,_,h,_,_=>h.elim
 |_::_,[],_,h,_,_=>h.elim
theorem RepT.move (h:RepT K G H v t A)(hg:Fz G G')(hh:∀a∈A,H' a=H a):RepT K G' H' v t A:=by
 cases t with
 |lst cs=>obtain⟨p,xs,A',e,q,r,rfl⟩:=h;exact⟨p,xs,A',e,by rw[hh p (by simp)];exact q,r.move hg fun a m=>hh a (by simp[m]),rfl⟩
 |tup cs=>obtain⟨p,xs,A',e,q,r,rfl⟩:=h;exact⟨p,xs,A',e,by rw[hh p (by simp)];exact q,r.move hg fun a m=>hh a (by simp[m]),rfl⟩
 |ins c fs=>obtain⟨p,C,dx,vs,A',e,n,q,q2,f,r,rfl⟩:=h;exact⟨p,C,dx,vs,A',e,n,by rw[hh p (by simp)];exact q,by rw[hh dx (by simp)];exact q2,f,r.move hg fun a m=>hh a (by simp[m]),rfl⟩
 |dic ks ds=>obtain⟨p,ys,e,q,f,r,rfl⟩:=h;exact⟨p,ys,e,by rw[hh p (by simp)];exact q,f,r.mono hg,rfl⟩
 |dit ks ds=>obtain⟨p,ys,o,xs,e,q,f,r,rfl⟩:=h;exact⟨p,ys,o,xs,e,by rw[hh p (by simp)];exact q,f.mono hg,r.mono hg,rfl⟩
 |obj c ns ls dk=>obtain⟨p,C,dx,vs,A',e,n,q,q2,f,r,rfl⟩:=h;exact⟨p,C,dx,vs,A',e,n,by rw[hh p (by simp)];exact q,by rw[hh dx (by simp)];exact q2,f,r.move hg fun a m=>hh a (by simp[m]),rfl⟩
theorem RepC.det (h:RepC K G H x c A)(h':RepC K G' H' x c A')(hh:∀a∈A,H' a=H a):A=A':=by
 cases c with
 |d y=>rw[h.2,h'.2]
 |l ds=>obtain⟨l,xs,e,_,_,rfl⟩:=h;obtain⟨l',xs',e',_,_,rfl⟩:=h';rw[e]at e';cases e';rfl
 |t xss=>
  obtain⟨p,xs,B,e,q,r,rfl⟩:=h;obtain⟨p',xs',B',e',q',r',rfl⟩:=h';rw[e]at e';cases e';rw[hh p (by simp),q]at q';cases q';rw[r.det r']
theorem RepCs.det:∀{xs:List V} {cs:List Ch} {A A':List Addr},RepCs K G H xs cs A->RepCs K G' H' xs cs A'->(∀a∈A,H' a=H a)->A=A'
 |[],[],_,_,h,h',_=>by rw[show _=[]from h,show _=[]from h']
 |x::xs,c::cs,_,_,⟨A1,A2,h1,h2,e⟩,⟨B1,B2,k1,k2,e'⟩,hh=>by rw[e,e',h1.det k1 fun a m=>hh a (by rw[e];exact Lv _ m),h2.det k2 fun a m=>hh a (by rw[e];exact jK _ m)]
 |[],_::_,_,_,h,_,_=>h.elim
 |_::_,[],_,_,h,_,_=>h.elim
theorem RepT.det (h:RepT K G H v t A)(h':RepT K G' H' v t A')(hh:∀a∈A,H' a=H a):A=A':=by
 cases t with
 |lst cs=>
  obtain⟨p,xs,B,e,q,r,rfl⟩:=h;obtain⟨p',xs',B',e',q',r',rfl⟩:=h';rw[e]at e';cases e';rw[hh p (by simp),q]at q';cases q';rw[r.det r' fun a m=>hh a (by simp[m])]
 |tup cs=>
  obtain⟨p,xs,B,e,q,r,rfl⟩:=h;obtain⟨p',xs',B',e',q',r',rfl⟩:=h';rw[e]at e';cases e';rw[hh p (by simp),q]at q';cases q';rw[r.det r' fun a m=>hh a (by simp[m])]
 |ins c fs=>
  obtain⟨p,C,dx,vs,B,e,n,q,q2,f,r,rfl⟩:=h;obtain⟨p',C',dx',vs',B',e',n',q',q2',f',r',rfl⟩:=h';rw[e]at e';cases e';rw[hh p (by simp),q]at q';cases q';rw[r.det r' fun a m=>hh a (by simp[m])]
 |dic ks ds=>obtain⟨p,ys,e,q,f,r,rfl⟩:=h;obtain⟨p',ys',e',q',f',r',rfl⟩:=h';rw[e]at e';cases e';rfl
 |dit ks ds=>obtain⟨p,ys,o,xs,e,q,f,r,rfl⟩:=h;obtain⟨p',ys',o',xs',e',q',f',r',rfl⟩:=h';rw[e]at e';cases e';rfl
 |obj c ns ls dk=>
  obtain⟨p,C,dx,vs,B,e,n,q,q2,f,r,rfl⟩:=h;obtain⟨p',C',dx',vs',B',e',n',q',q2',f',r',rfl⟩:=h';rw[e]at e';cases e';rw[hh p (by simp),q]at q';cases q';rw[r.det r']
theorem RepC.here (h:RepC K G H x c A)(m:a∈A):∃xs,H a=some (.lst xs):=by
 cases c with
 |d y=>rw[h.2]at m;cases m
 |l ds=>obtain⟨l,xs,_,q,_,rfl⟩:=h;simp at m;subst m;exact⟨xs,q⟩
 |t xss=>
  obtain⟨p,xs,A',_,q,r,rfl⟩:=h;rcases qam.mp m with rfl|m
  ·exact⟨xs,q⟩
  ·exact r.here m
theorem RepCs.here:∀{xs:List V} {cs:List Ch} {A:List Addr},RepCs K G H xs cs A->∀{a:Addr},a∈A->∃xs,H a=some (.lst xs)
 |[],[],_,h,a,m=>by rw[show _=[]from h]at m;cases m
 |x::xs,c::cs,_,⟨A1,A2,h1,h2,e⟩,a,m=>by
  rw[e]at m;rcases qan.mp m with m|m
  ·exact h1.here m
  ·exact h2.here m
 |[],_::_,_,h,_,_=>h.elim
 |_::_,[],_,h,_,_=>h.elim
theorem RepT.here (h:RepT K G H v t A)(m:a∈A):H a≠none:=by
 cases t with
 |lst cs=>
  obtain⟨p,xs,B,e,q,r,rfl⟩:=h;rcases qam.mp m with rfl|m
  ·rw[q];simp
  ·obtain⟨ys,z⟩:=r.here m;rw[z];simp
 |tup cs=>
  obtain⟨p,xs,B,e,q,r,rfl⟩:=h;rcases qam.mp m with rfl|m
  ·rw[q];simp
  ·obtain⟨ys,z⟩:=r.here m;rw[z];simp
 |ins c fs=>
  obtain⟨p,C,dx,vs,B,e,n,q,q2,f,r,rfl⟩:=h;rcases qam.mp m with rfl|m
  ·rw[q];simp
  rcases qam.mp m with rfl|m
  ·rw[q2];simp
  ·obtain⟨ys,z⟩:=r.here m;rw[z];simp
 |dic ks ds=>obtain⟨p,ys,e,q,f,r,rfl⟩:=h;simp at m;subst m;rw[q];simp
 |dit ks ds=>obtain⟨p,ys,o,xs,e,q,f,r,rfl⟩:=h;simp at m;subst m;rw[q];simp
 |obj c ns ls dk=>
  obtain⟨p,C,dx,vs,B,e,n,q,q2,f,r,rfl⟩:=h;rcases qam.mp m with rfl|m
  ·rw[q];simp
  rcases qam.mp m with rfl|m
  ·rw[q2];simp
  ·rcases r.here m with⟨ys,z⟩|⟨ys,z⟩<;>(rw[z];simp)
end
noncomputable def T.isObj:T->Bool
 | .obj _ _ _ _=>true
 |_=>false
noncomputable def SlotOk (K:W.Frag)(B:Bs)(G H:Hp)(i:Nat)(ov:Option (Option V)):Sl->Prop
 | .emp=>True
 | .two _ _=>True
 | .val d=>∃v,ov=some (some v)/\RepD K G v d
 | .own ds=>∃l xs,ov=some (some (.ref l))/\G l=none/\H l=some (.lst xs)/\RepL K G xs ds/\B.H l=none
 | .par ds=>∃l xs,ov=some (some (.ref l))/\G l=none/\H l=some (.lst xs)/\RepL K G xs ds/\(i,l)∈B.O
 | .tre t=>∃v A,ov=some (some v)/\RepT K G H v t A/\A.Nodup/\∀a∈A,G a=none/\B.H a=none
 | .ptr t=>∃v A,ov=some (some v)/\RepT K G H v t A/\(A.Nodup/\∃p,v= .ref p/\(i+4096,p)∈B.O/\(t.isObj=true->(i+8192,p)∈B.O))/\∀a∈A,G a=none/\((i,a)∈B.O\/(B.H a=none/\∃p,v= .ref p/\(i+8192,p)∈B.O))
noncomputable def Wr (ρ:R)(i:Nat):Prop:=∃s ds,ρ[i]? =some s/\s.items=some ds
noncomputable def eZ (K:W.Frag)(G H:Hp)(ov:Option (Option V))(a:Addr):Sl->Prop
 | .own _=>ov=some (some (.ref a))
 | .par _=>ov=some (some (.ref a))
 | .tre t=>∃v A,ov=some (some v)/\RepT K G H v t A/\a∈A
 | .ptr t=>∃v A,ov=some (some v)/\RepT K G H v t A/\a∈A
 |_=>False
noncomputable def Nw (K:W.Frag)(G H:Hp)(σ:St)(ρ:R)(a:Addr):Prop:=∀(i:Nat) (s:Sl),ρ[i]? =some s->¬eZ K G H σ[i]? a s
structure SI (K:W.Frag) (B:Bs) (G H:Hp) (σ:St) (ρ:R):Prop where
 fz:Fz G H
 g0:Fz B.G G
 new:∀b o,G b=some o->B.G b≠none\/B.H b=none
 keep:∀b o,B.H b=some o->(∀i,(i,b)∉B.O)->H b=some o
 there:∀b,H b=none->B.H b=none
 len:σ.length=ρ.length
 ob:∀i b,(i,b)∈B.O->B.H b≠none
 slot:∀i s,ρ[i]? =some s->SlotOk K B G H i σ[i]? s
 dis:∀(i j:Nat) (s t:Sl) (a:Addr),i≠j->ρ[i]? =some s->ρ[j]? =some t->eZ K G H σ[i]? a s->¬eZ K G H σ[j]? a t
section
variable {K:W.Frag} {B:Bs} {G G' H H':Hp} {σ:St} {ρ:R}
theorem SlotOk.own (h:SlotOk K B G H i ov s)(w:eZ K G H ov a s):G a=none/\H a≠none/\(B.H a=none\/(i,a)∈B.O):=by
 cases s with
 |emp=>exact w.elim
 |two _ _=>exact w.elim
 |val d=>exact w.elim
 |own ds=>obtain⟨l,xs,e,g,k,r,n⟩:=h;rw[show ov=_ from w]at e;cases e;exact⟨g,by rw[k];simp,.inl n⟩
 |par ds=>obtain⟨l,xs,e,g,k,r,n⟩:=h;rw[show ov=_ from w]at e;cases e;exact⟨g,by rw[k];simp,.inr n⟩
 |tre t=>
  obtain⟨v,A,e,r,nd,f⟩:=h;obtain⟨v',A',e',r',m⟩:=w;rw[e]at e';cases e';rw[<-r.det r' fun _ _=>rfl]at m;exact⟨(f a m).1,r.here m,.inl (f a m).2⟩
 |ptr t=>
  obtain⟨v,A,e,r,nd,f⟩:=h;obtain⟨v',A',e',r',m⟩:=w;rw[e]at e';cases e';rw[<-r.det r' fun _ _=>rfl]at m;exact⟨(f a m).1,r.here m,(f a m).2.elim .inr fun z=> .inl z.1⟩
theorem SlotOk.mono (h:SlotOk K B G H i ov s)(hg:Fz G G')(hw:∀a,eZ K G H ov a s->G a=none->H a≠none->G' a=none/\H' a=H a):SlotOk K B G' H' i ov s:=by
 have ow:=fun a (w:eZ K G H ov a s)=>h.own w
 cases s with
 |emp=>trivial
 |two _ _=>trivial
 |val d=>obtain⟨v,e,r⟩:=h;exact⟨v,e,r.mono hg⟩
 |own ds=>
  obtain⟨l,xs,e,g,k,r,n⟩:=h;obtain⟨h1,h2⟩:=hw l e g (by rw[k];simp);exact⟨l,xs,e,h1,h2.trans k,r.mono hg,n⟩
 |par ds=>
  obtain⟨l,xs,e,g,k,r,n⟩:=h;obtain⟨h1,h2⟩:=hw l e g (by rw[k];simp);exact⟨l,xs,e,h1,h2.trans k,r.mono hg,n⟩
 |tre t=>
  obtain⟨v,A,e,r,nd,f⟩:=h;have w:=fun a m=>hw a ⟨v,A,e,r,m⟩ (f a m).1 (r.here m)
  exact⟨v,A,e,r.move hg fun a m=>(w a m).2,nd,fun a m=>⟨(w a m).1,(f a m).2⟩⟩
 |ptr t=>
  obtain⟨v,A,e,r,nd,f⟩:=h;have w:=fun a m=>hw a ⟨v,A,e,r,m⟩ (f a m).1 (r.here m)
  exact⟨v,A,e,r.move hg fun a m=>(w a m).2,nd,fun a m=>⟨(w a m).1,(f a m).2⟩⟩
theorem SlotOk.back (h:SlotOk K B G H i ov s)(hw:∀a,eZ K G H ov a s->G a=none->H a≠none->G' a=none/\H' a=H a)(w:eZ K G' H' ov a s):eZ K G H ov a s:=by
 cases s with
 |emp=>exact w
 |two _ _=>exact w
 |val d=>exact w
 |own ds=>exact w
 |par ds=>exact w
 |tre t=>
  obtain⟨v,A,e,r,nd,f⟩:=h;obtain⟨v',A',e',r',m⟩:=w;rw[e]at e';cases e';have q:=r.det r' fun a m=>(hw a ⟨v,A,e,r,m⟩ (f a m).1 (r.here m)).2
  subst q;exact⟨v,A,e,r,m⟩
 |ptr t=>
  obtain⟨v,A,e,r,nd,f⟩:=h;obtain⟨v',A',e',r',m⟩:=w;rw[e]at e';cases e';have q:=r.det r' fun a m=>(hw a ⟨v,A,e,r,m⟩ (f a m).1 (r.here m)).2
  subst q;exact⟨v,A,e,r,m⟩
theorem SI.move (I:SI K B G H σ ρ)(fz:Fz G' H')(fg:Fz G G')(new:∀b o,G' b=some o->B.G b≠none\/B.H b=none)(keep:∀b o,B.H b=some o->(∀i,(i,b)∉B.O)->H' b=some o)(there:∀b,H' b=none->B.H b=none)
  (ow:∀(i:Nat) (s:Sl) (a:Addr),ρ[i]? =some s->eZ K G H σ[i]? a s->G a=none->H a≠none->G' a=none/\H' a=H a):SI K B G' H' σ ρ where
 fz:=fz
 g0:=I.g0.trans fg
 new:=new
 keep:=keep
 there:=there
 len:=I.len
 ob:=I.ob
 slot:=fun i s e=>(I.slot i s e).mono fg fun a w g h=>ow i s a e w g h
 dis:=fun i j s t a n e1 e2 w1 w2=>I.dis i j s t a n e1 e2 ((I.slot i s e1).back (fun a w g h=>ow i s a e1 w g h) w1) ((I.slot j t e2).back (fun a w g h=>ow j t a e2 w g h) w2)
theorem SI.chg (I:SI K B G H σ ρ){ov:Option V}{s':Sl}(fz:Fz G' H')(fg:Fz G G')(new:∀b o,G' b=some o->B.G b≠none\/B.H b=none)(keep:∀b o,B.H b=some o->(∀i,(i,b)∉B.O)->H' b=some o)(there:∀b,H' b=none->B.H b=none)
  (ow:∀(j:Nat) (s:Sl) (a:Addr),j≠i->ρ[j]? =some s->eZ K G H σ[j]? a s->G a=none->H a≠none->G' a=none/\H' a=H a/\¬eZ K G' H' (some ov) a s') (sl:SlotOk K B G' H' i (some ov) s'):SI K B G' H' (σ.set i ov) (ρ.set i s'):=by
 have atI:∀{s},(ρ.set i s')[i]? =some s->s=s'/\(σ.set i ov)[i]? =some ov:=fun{s} e=>by
  rw[tJ,if_pos rfl]at e ⊢
  split at e
  ·rename_i h;cases e;rw[if_pos (by rw[I.len];exact h)];exact⟨rfl,rfl⟩
  ·exact aM e
 have atJ:∀{j s},j≠i->(ρ.set i s')[j]? =some s->ρ[j]? =some s/\(σ.set i ov)[j]? =σ[j]?:=fun{j s} n e=>by
  rw[tO (Ne.symm n)]at e ⊢;exact⟨e,rfl⟩
 refine⟨fz,I.g0.trans fg,new,keep,there,by rw[Ks,Ks];exact I.len,I.ob,fun j s e=>?_,fun j k s t a n e1 e2 w1 w2=>?_⟩
 ·by_cases z:j=i
  ·subst z;obtain⟨rfl,q⟩:=atI e;rw[q];exact sl
  ·obtain⟨e1,q⟩:=atJ z e;rw[q];exact(I.slot j s e1).mono fg fun a w g h=>⟨(ow j s a z e1 w g h).1,(ow j s a z e1 w g h).2.1⟩
 ·have one:∀j s,j≠i->(ρ.set i s')[j]? =some s->eZ K G' H' (σ.set i ov)[j]? a s->ρ[j]? =some s/\eZ K G H σ[j]? a s:=fun j s z e w=>by
   obtain⟨e1,q⟩:=atJ z e;rw[q]at w;exact⟨e1,(I.slot j s e1).back (fun a w g h=>⟨(ow j s a z e1 w g h).1,(ow j s a z e1 w g h).2.1⟩) w⟩
  by_cases z1:j=i
  ·subst z1;obtain⟨rfl,q1⟩:=atI e1;obtain⟨f2,w2⟩:=one k t (Ne.symm n) e2 w2;obtain⟨o1,o2,_⟩:=(I.slot k t f2).own w2;rw[q1]at w1;exact(ow k t a (Ne.symm n) f2 w2 o1 o2).2.2 w1
  ·have p1:=one j s z1 e1 w1
   by_cases z2:k=i
   ·subst z2;obtain⟨rfl,q2⟩:=atI e2;obtain⟨o1,o2,_⟩:=(I.slot j s p1.1).own p1.2;rw[q2]at w2;exact(ow j s a z1 p1.1 p1.2 o1 o2).2.2 w2
   ·have p2:=one k t z2 e2 w2;exact I.dis j k s t a n p1.1 p2.1 p1.2 p2.2
theorem SI.nw (I:SI K B G H σ ρ)(hp:H p=none):Nw K G H σ ρ p:=fun i s e w=>((I.slot i s e).own w).2.1 hp
theorem SI.nw_move (I:SI K B G H σ ρ)(n:Nw K G H σ ρ p)(ow:∀(i:Nat) (s:Sl) (a:Addr),ρ[i]? =some s->eZ K G H σ[i]? a s->G a=none->H a≠none->G' a=none/\H' a=H a):Nw K G' H' σ ρ p:=
 fun i s e w=>n i s e ((I.slot i s e).back (fun a w g h=>ow i s a e w g h) w)
theorem SI.allocF (I:SI K B G H σ ρ)(hp:H p=none)(o:HO):SI K B (upd G p o) (upd H p o) σ ρ:=
 I.move (I.fz.upd2 p o) (Fz.new (I.fz.free hp) o) (fun b u e=>by
  by_cases q:b=p
  ·subst q;exact .inr (I.there b hp)
  ·rw[cF q]at e;exact I.new b u e) (fun b u e n=>by
  have q:=I.keep b u e n;rw[cF (mM q hp)];exact q) (fun b e=>by
  by_cases q:b=p
  ·subst q;rw[gK]at e;cases e
  ·rw[cF q]at e;exact I.there b e) (fun i s a _ _ g h=>by
  have q:a≠p:=fun z=>h (by rw[z];exact hp)
  rw[cF q,cF q];exact⟨g,rfl⟩)
theorem SI.allocO (I:SI K B G H σ ρ)(hp:H p=none)(o:HO):SI K B G (upd H p o) σ ρ:=
 I.move (I.fz.right (I.fz.free hp) o) (Fz.refl G) I.new (fun b u e n=>by
  have q:=I.keep b u e n;rw[cF (mM q hp)];exact q) (fun b e=>by
  by_cases q:b=p
  ·subst q;rw[gK]at e;cases e
  ·rw[cF q]at e;exact I.there b e) (fun i s a _ _ g h=>by
  have q:a≠p:=fun z=>h (by rw[z];exact hp)
  rw[cF q];exact⟨g,rfl⟩)
theorem SI.frz (I:SI K B G H σ ρ){o:HO}(hl:H l=some o)(hB:B.H l=none)(hn:Nw K G H σ ρ l)(hg:G l=none):SI K B (upd G l o) H σ ρ:=
 I.move (fun a u q=>by
  by_cases e:a=l
  ·subst e;rw[gK]at q;cases q;exact hl
  ·rw[cF e]at q;exact I.fz a u q) (Fz.new hg o) (fun b u e=>by
  by_cases q:b=l
  ·subst q;exact .inr hB
  ·rw[cF q]at e;exact I.new b u e) I.keep I.there (fun i s a e w g _=>by
  refine⟨?_,rfl⟩;rw[cF (fun z=>?_)]
  ·exact g
  ·subst z;exact hn i s e w)
theorem SI.set (I:SI K B G H σ ρ)(h:RepD K G v d):SI K B G H (σ.set i (some v)) (ρ.set i (.val d)):=
 I.chg I.fz (Fz.refl G) I.new I.keep I.there (fun _ _ _ _ _ _ g _=>⟨g,rfl,id⟩) ⟨v,rfl,h⟩
theorem SI.setO (I:SI K B G H σ ρ)(hg:G l=none)(hl:H l=some (.lst xs))(h:RepL K G xs ds)(hB:B.H l=none)(hn:Nw K G H σ ρ l):
  SI K B G H (σ.set i (some (.ref l))) (ρ.set i (.own ds)):=
 I.chg I.fz (Fz.refl G) I.new I.keep I.there (fun j s a _ e w g _=>⟨g,rfl,fun z=>by cases(show some (some (V.ref l))=some (some (.ref a))from z);exact hn j s e w⟩) ⟨l,xs,rfl,hg,hl,h,hB⟩
theorem SI.wr (I:SI K B G H σ ρ)(e:ρ[i]? =some s)(q:s.items=some ds):∃l xs,σ[i]? =some (some (.ref l))/\G l=none/\H l=some (.lst xs)/\RepL K G xs ds:=by
 have h:=I.slot i s e;cases s with
 |emp=>exact aM q
 |two _ _=>exact aM q
 |val d=>exact aM q
 |tre _=>exact aM q
 |ptr _=>exact aM q
 |own es=>cases q;obtain⟨l,xs,h1,h2,h3,h4,_⟩:=h;exact⟨l,xs,h1,h2,h3,h4⟩
 |par es=>cases q;obtain⟨l,xs,h1,h2,h3,h4,_⟩:=h;exact⟨l,xs,h1,h2,h3,h4⟩
noncomputable def Sl.put (s:Sl)(ds:List D):Sl:=match s with
 | .own _=> .own ds
 | .par _=> .par ds
 |s=>s
theorem mJ (q:s.items=some ds):eZ K G H ov a s↔ov=some (some (.ref a)):=by
 cases s with
 |own _=>exact Iff.rfl
 |par _=>exact Iff.rfl
 |_=>exact aM q
theorem Wx (q:s.items=some ds)(es:List D):(s.put es).items=some es:=by
 cases s with
 |own _=>rfl
 |par _=>rfl
 |_=>exact aM q
theorem Ld {α:Type}{l:List α}{x:α}(e:l[i]? =some x):l.set i x=l:=by
 obtain⟨h,rfl⟩:=qap.mp e;exact List.set_getElem_self h
theorem SI.chgW (I:SI K B G H σ ρ){i:Nat}(e:ρ[i]? =some s)(q:s.items=some ds)(hl:σ[i]? =some (some (.ref l)))(fz:Fz G' H')(fg:Fz G G')(nw:∀b o,G' b=some o->G b≠none\/H b=none)
  (kp:∀b o,b≠l->H b=some o->H' b=some o) (gl:G' l=none) (hl':H' l=some (.lst ys)) (r:RepL K G' ys es):SI K B G' H' σ (ρ.set i (s.put es)):=by
 obtain⟨l',xs,e1,e2,e3,e4⟩:=I.wr e q;rw[hl]at e1;cases e1;have sl:=I.slot i s e;have nb:∀b o,B.H b=some o->(∀i,(i,b)∉B.O)->b≠l:=fun b o h1 h2 z=>by
  subst z;rcases(sl.own ((mJ q).mpr hl)).2.2 with z|z
  ·rw[h1]at z;cases z
  ·exact h2 i z
 have h:=I.chg (i:=i) (ov:=some (.ref l)) (s':=s.put es) (G':=G') (H':=H') fz fg (fun b o k=>?_) (fun b o k1 k2=>kp b o (nb b o k1 k2) (I.keep b o k1 k2)) (fun b k=>?_) (fun j t a z ej w g ha=>?_) ?_
 ·rwa[Ld hl]at h
 ·rcases nw b o k with h|h
  ·cases q2:G b with
   |none=>exact absurd q2 h
   |some u=>exact I.new b u q2
  ·exact .inr (I.there b h)
 ·refine I.there b ?_;cases q2:H b with
  |none=>rfl
  |some u=>
   by_cases z:b=l
   ·subst z;rw[hl']at k;cases k
   ·rw[kp b u z q2]at k;cases k
 ·have na:a≠l:=fun w'=>by subst w';exact I.dis j i t s a z ej e w ((mJ q).mpr hl)
  obtain⟨u,hu⟩:=qby.mp ha;refine⟨?_,(kp a u na hu).trans hu.symm,fun z=>na ?_⟩
  ·cases q2:G' a with
   |none=>rfl
   |some u=>
    rcases nw a u q2 with z|z
    ·exact absurd g z
    ·exact absurd z ha
  ·cases(mJ (Wx q es)).mp z;rfl
 ·cases s with
  |own es'=>obtain⟨l',xs',k1,k2,k3,k4,k5⟩:=sl;rw[hl]at k1;cases k1;exact⟨_,ys,rfl,gl,hl',r,k5⟩
  |par es'=>obtain⟨l',xs',k1,k2,k3,k4,k5⟩:=sl;rw[hl]at k1;cases k1;exact⟨_,ys,rfl,gl,hl',r,k5⟩
  |_=>cases q
theorem SI.write (I:SI K B G H σ ρ)(e:ρ[i]? =some s)(q:s.items=some ds)(hl:σ[i]? =some (some (.ref l)))(h:RepL K G ys es):
  SI K B G (upd H l (.lst ys)) σ (ρ.set i (s.put es)):=by
 obtain⟨l',xs,e1,e2,e3,e4⟩:=I.wr e q;rw[hl]at e1;cases e1;exact I.chgW e q hl (I.fz.right e2 _) (Fz.refl G) (fun b o k=> .inl (by rw[k];simp)) (fun b o z k=>by rw[cF z];exact k) e2 gK h
theorem SI.freeze (I:SI K B G H σ ρ){i:Nat}(e:ρ[i]? =some (.own ds)):∃l xs,σ[i]? =some (some (.ref l))/\Fz G (upd G l (.lst xs))/\RepD K (upd G l (.lst xs)) (.ref l) (.lst ds)/\
  SI K B (upd G l (.lst xs)) H σ (ρ.set i (.val (.lst ds))):=by
 obtain⟨l,xs,h1,h2,h3,h4,h5⟩:=I.slot i _ e;have fz:=Fz.new h2 (.lst xs);have rep:RepD K (upd G l (.lst xs)) (.ref l) (.lst ds):=⟨l,xs,rfl,gK,h4.mono fz⟩;refine⟨l,xs,h1,fz,rep,?_⟩;have h:=I.chg (i:=i) (ov:=some (.ref l)) (s':= .val (.lst ds)) (G':=upd G l (.lst xs)) (H':=H) (fun a u q=>?_) fz (fun b u q=>?_) I.keep I.there (fun j t a z ej w g _=>⟨?_,rfl,id⟩) ⟨.ref l,rfl,rep⟩
 ·rwa[Ld h1]at h
 ·by_cases z:a=l
  ·subst z;rw[gK]at q;cases q;exact h3
  ·rw[cF z]at q;exact I.fz a u q
 ·by_cases z:b=l
  ·subst z;exact .inr h5
  ·rw[cF z]at q;exact I.new b u q
 ·rw[cF (fun q=>by subst q;exact I.dis j i t _ a z ej e w h1)];exact g
end
noncomputable abbrev ME:=R->Option (D×R)
noncomputable abbrev MO:=R->Option (List D×R)
noncomputable abbrev MT:=R->Option (Bool×R)
noncomputable abbrev MA:=R->Option (List D×R)
noncomputable def SEb (X:Cx)(e:Expr)(m:ME)(t:TE):Prop:=∀B G H σ ρ d ρ' (Q:VK),SI X.K B G H σ ρ->m ρ=some (d,ρ')->(∀G' H' v,SI X.K B G' H' σ ρ'->Fz G G'->RepD X.K G' v d->Q v H')->t σ H Q
noncomputable def SE (X:Cx)(e:Expr)(m:ME):Prop:=∃t,PE X e t/\SEb X e m t
theorem SE.el {m:ME}(h:SE X e m)(k:∀t,PE X e t->SEb X e m t->C):C:=h.elim fun t q=>k t q.1 q.2
noncomputable def SOb (X:Cx)(e:Expr)(m:MO)(t:TE):Prop:=∀B G H σ ρ ds ρ' (Q:VK),SI X.K B G H σ ρ->m ρ=some (ds,ρ')->
  (∀G' H' l xs,SI X.K B G' H' σ ρ'->Fz G G'->G' l=none->H' l=some (.lst xs)->RepL X.K G' xs ds->B.H l=none->Nw X.K G' H' σ ρ' l->Q (.ref l) H')->t σ H Q
noncomputable def SO (X:Cx)(e:Expr)(m:MO):Prop:=∃t,PE X e t/\SOb X e m t
theorem SO.el (h:SO X e m)(k:∀t,PE X e t->SOb X e m t->C):C:=h.elim fun t q=>k t q.1 q.2
noncomputable def Nz (X:Cx)(e:Expr)(m:MT)(t:TT):Prop:=∀B G H σ ρ d ρ' (Q:Bool->Hp->Prop),SI X.K B G H σ ρ->m ρ=some (d,ρ')->(∀G' H',SI X.K B G' H' σ ρ'->Fz G G'->Q d H')->t σ H Q
noncomputable def STt (X:Cx)(e:Expr)(m:MT):Prop:=∃t,PT X e t/\Nz X e m t
theorem STt.el {m:MT}(h:STt X e m)(k:∀t,PT X e t->Nz X e m t->C):C:=h.elim fun t q=>k t q.1 q.2
noncomputable def SAb (X:Cx)(es:List Expr)(m:MA)(t:TA):Prop:=∀B G H σ ρ ds ρ' (Q:List V->Hp->Prop),SI X.K B G H σ ρ->m ρ=some (ds,ρ')->(∀G' H' vs,SI X.K B G' H' σ ρ'->Fz G G'->RepL X.K G' vs ds->Q vs H')->t σ H Q
noncomputable def SA (X:Cx)(es:List Expr)(m:MA):Prop:=∃t,PA X es t/\SAb X es m t
theorem SA.el {es:List Expr}{m:MA}(h:SA X es m)(k:∀t,PA X es t->SAb X es m t->C):C:=h.elim fun t q=>k t q.1 q.2
theorem Lm {B:Bs}{σ:St}(I:SI K B G H σ ρ)(hg:G l=none)(hl:H l=some (.lst xs))(h:RepL K G xs ds)(hB:B.H l=none)(hn:Nw K G H σ ρ l):
  SI K B (upd G l (.lst xs)) H σ ρ/\Fz G (upd G l (.lst xs))/\RepD K (upd G l (.lst xs)) (.ref l) (.lst ds):=
 ⟨I.frz hl hB hn hg,Fz.new hg _,⟨l,xs,rfl,gK,h.mono (Fz.new hg _)⟩⟩
noncomputable def cQ (m:MO):ME:=fun ρ=>(m ρ).map fun p=>(.lst p.1,p.2)
theorem SO.se (h:SO X e m):SE X e (cQ m):=by
 refine h.el fun t p s=>?_
 refine⟨t,p,fun B G H σ ρ d ρ' Q I hm k=>?_⟩;unfold cQ at hm;cases q:m ρ with
 |none=>rw[q]at hm;exact aM hm
 |some r=>
  obtain⟨ds,ρ1⟩:=r;rw[q]at hm;obtain⟨rfl,rfl⟩:=bT hm;refine s B G H σ ρ ds _ Q I q fun G' H' l xs I' fz hg hl hr hB hn=>?_
  obtain⟨I2,f2,r2⟩:=Lm I' hg hl hr hB hn;exact k _ _ _ I2 (fz.trans f2) r2
noncomputable def eC (d:D):ME:=fun ρ=>some (d,ρ)
noncomputable def aA (i:Nat):ME:=fun ρ=>match ρ[i]? with
 |some (.val d)=>some (d,ρ)
 |some (.own ds)=>some (.lst ds,ρ.set i (.val (.lst ds)))
 |_=>none
section
variable {X:Cx} {pos:Pos}
theorem aC (i:Nat){x:Str}(hN:autoParam (X.N[i]? =some x) zu3._auto_1)(hv:autoParam (iA X.env.scope x) zu6._auto_1)(hd:autoParam ((x==("__debug__":Str))=false) zu1._auto_1)
  (hcd:autoParam ((x==("__classdict__":Str))=false) zu1._auto_1):SE X (.Name x pos) (aA i):=by
 refine⟨_,jG hN hv hd hcd,fun B G H σ ρ d ρ' Q I hm k=>?_⟩;unfold aA at hm;cases e:ρ[i]? with
 |none=>rw[e]at hm;exact aM hm
 |some s=>
  rw[e]at hm;cases s with
  |emp=>exact aM hm
  |two _ _=>exact aM hm
  |tre _=>exact aM hm
  |ptr _=>exact aM hm
  |par ds=>exact aM hm
  |val d'=>
   obtain⟨rfl,rfl⟩:=bT hm;obtain⟨v,h1,h2⟩:=I.slot i _ e;exact⟨v,h1,k G H v I (Fz.refl G) h2⟩
  |own ds=>
   obtain⟨rfl,rfl⟩:=bT hm;obtain⟨l,xs,h1,f,r,I'⟩:=I.freeze e;exact⟨.ref l,h1,k _ H _ I' f r⟩
theorem aJ {i:Int}{j}:SE X (.Constant (.int i) j pos) (eC (.int i)):=⟨_,Fo,fun B G H σ ρ d ρ' Q I hm k=>by obtain⟨rfl,rfl⟩:=bT hm;exact k G H _ I (Fz.refl G) rfl⟩
theorem kX {j}:SE X (.Constant (.bool b) j pos) (eC (.bl b)):=⟨_,Om,fun B G H σ ρ d ρ' Q I hm k=>by obtain⟨rfl,rfl⟩:=bT hm;exact k G H _ I (Fz.refl G) rfl⟩
theorem Cq {j}:SE X (.Constant .none j pos) (eC .non):=⟨_,Em,fun B G H σ ρ d ρ' Q I hm k=>by obtain⟨rfl,rfl⟩:=bT hm;exact k G H _ I (Fz.refl G) rfl⟩
theorem cS {x:Str}{j}:SE X (.Constant (.str x) j pos) (eC (.str x)):=⟨_,rQ,fun B G H σ ρ d ρ' Q I hm k=>by obtain⟨rfl,rfl⟩:=bT hm;exact k G H _ I (Fz.refl G) rfl⟩
end
noncomputable def aB:MA:=fun ρ=>some ([],ρ)
noncomputable def aD (m:ME)(r:MA):MA:=fun ρ=>(m ρ).bind fun p=>(r p.2).map fun q=>(p.1::q.1,q.2)
section
variable {X:Cx} {e:Expr} {es:List Expr} {m:ME} {r:MA}
theorem aH:SA X [] aB:=⟨_,As,fun B G H σ ρ ds ρ' Q I hm k=>by obtain⟨rfl,rfl⟩:=bT hm;exact k G H [] I (Fz.refl G) .nil⟩
theorem aE (h:SE X e m)(hr:SA X es r)(hs:autoParam (starEach (e::es) X.env=(false,eval e X.env)::starEach es X.env) zu3._auto_1):SA X (e::es) (aD m r):=by
 refine h.el fun t p s=>?_
 refine hr.el fun u q z=>?_
 refine⟨_,lS p q hs,fun B G H σ ρ ds ρ' Q I hm k=>?_⟩;unfold aD at hm;cases e1:m ρ with
 |none=>rw[e1]at hm;exact aM hm
 |some a=>
  obtain⟨d,ρ1⟩:=a;rw[e1]at hm;cases e2:r ρ1 with
  |none=>simp[e2]at hm
  |some b=>
   obtain⟨es',ρ2⟩:=b;simp only[kA,e2,Hg,Option.some.injEq,Prod.mk.injEq]at hm;obtain⟨rfl,rfl⟩:=hm;exact s B G H σ ρ d ρ1 _ I e1 fun G1 H1 v I1 f1 r1=>z B G1 H1 σ ρ1 es' ρ2 _ I1 e2 fun G2 H2 vs I2 f2 r2=>k G2 H2 (v::vs) I2 (f1.trans f2) (.cons (r1.mono f2) r2)
end
noncomputable def V2 (X:Cx)(r:R2)(f:D->D->Option D):Prop:=∀B G H σ ρ x y a b d (Q:VK),SI X.K B G H σ ρ->RepD X.K G x a->RepD X.K G y b->f a b=some d->(∀G' H' v,SI X.K B G' H' σ ρ->Fz G G'->RepD X.K G' v d->Q v H')->r x y H Q
noncomputable def V1 (X:Cx)(r:V->Hp->VK->Prop)(f:D->Option D):Prop:=∀B G H σ ρ x a d (Q:VK),SI X.K B G H σ ρ->RepD X.K G x a->f a=some d->(∀G' H' v,SI X.K B G' H' σ ρ->Fz G G'->RepD X.K G' v d->Q v H')->r x H Q
noncomputable def VC (X:Cx)(r:List V->Hp->VK->Prop)(f:List D->Option D):Prop:=∀B G H σ ρ xs ds d (Q:VK),SI X.K B G H σ ρ->RepL X.K G xs ds->f ds=some d->(∀G' H' v,SI X.K B G' H' σ ρ->Fz G G'->RepD X.K G' v d->Q v H')->r xs H Q
noncomputable def m2 (f:D->D->Option D)(ma mb:ME):ME:=fun ρ=>(ma ρ).bind fun p=>(mb p.2).bind fun q=>(f p.1 q.1).map fun d=>(d,q.2)
noncomputable def m1 (f:D->Option D)(ma:ME):ME:=fun ρ=>(ma ρ).bind fun p=>(f p.1).map fun d=>(d,p.2)
noncomputable def mC (f:List D->Option D)(ma:MA):ME:=fun ρ=>(ma ρ).bind fun p=>(f p.1).map fun d=>(d,p.2)
theorem qR {ma mb:ME}(h:m2 f ma mb ρ=some (d,ρ')):∃a ρ1 b,ma ρ=some (a,ρ1)/\mb ρ1=some (b,ρ')/\f a b=some d:=by
 unfold m2 at h;cases e1:ma ρ with
 |none=>rw[e1]at h;exact aM h
 |some p=>
  obtain⟨a,ρ1⟩:=p;rw[e1]at h;cases e2:mb ρ1 with
  |none=>simp[e2]at h
  |some q=>
   obtain⟨b,ρ2⟩:=q;simp only[kA,e2]at h;cases e3:f a b with
   |none=>rw[e3]at h;exact aM h
   |some c=>rw[e3]at h;obtain⟨rfl,rfl⟩:=bT h;exact⟨a,ρ1,b,rfl,e2,e3⟩
theorem qD {f:D->Option D}(h:m1 f ma ρ=some (d,ρ')):∃a,ma ρ=some (a,ρ')/\f a=some d:=by
 unfold m1 at h;cases e1:ma ρ with
 |none=>rw[e1]at h;exact aM h
 |some p=>
  obtain⟨a,ρ1⟩:=p;rw[e1]at h;simp only[kA]at h;cases e3:f a with
  |none=>rw[e3]at h;exact aM h
  |some c=>rw[e3]at h;obtain⟨rfl,rfl⟩:=bT h;exact⟨a,rfl,e3⟩
theorem Ih {f:List D->Option D}{ma:MA}(h:mC f ma ρ=some (d,ρ')):∃a,ma ρ=some (a,ρ')/\f a=some d:=by
 unfold mC at h;cases e1:ma ρ with
 |none=>rw[e1]at h;exact aM h
 |some p=>
  obtain⟨a,ρ1⟩:=p;rw[e1]at h;simp only[kA]at h;cases e3:f a with
  |none=>rw[e3]at h;exact aM h
  |some c=>rw[e3]at h;obtain⟨rfl,rfl⟩:=bT h;exact⟨a,rfl,e3⟩
section
variable {X:Cx} {a b:Expr} {ma mb:ME} {pos:Pos} {f:D->D->Option D}
theorem Vx {r:R2}{ta tb:TE}(hv:V2 X r f)
  (sa:∀B G H σ ρ d ρ' (Q:VK),SI X.K B G H σ ρ->ma ρ=some (d,ρ')->(∀G' H' v,SI X.K B G' H' σ ρ'->Fz G G'->RepD X.K G' v d->Q v H')->ta σ H Q)
  (sb:∀B G H σ ρ d ρ' (Q:VK),SI X.K B G H σ ρ->mb ρ=some (d,ρ')->(∀G' H' v,SI X.K B G' H' σ ρ'->Fz G G'->RepD X.K G' v d->Q v H')->tb σ H Q):
  ∀B G H σ ρ d ρ' (Q:VK),SI X.K B G H σ ρ->m2 f ma mb ρ=some (d,ρ')->(∀G' H' v,SI X.K B G' H' σ ρ'->Fz G G'->RepD X.K G' v d->Q v H')->Qd r ta tb σ H Q:=by
 intro B G H σ ρ d ρ' Q I hm k;obtain⟨x,ρ1,y,e1,e2,e3⟩:=qR hm;exact sa B G H σ ρ x ρ1 _ I e1 fun G1 H1 v I1 f1 r1=>sb B G1 H1 σ ρ1 y ρ' _ I1 e2 fun G2 H2 u I2 f2 r2=>
  hv B G2 H2 σ ρ' v u x y d Q I2 (r1.mono f2) r2 e3 fun G3 H3 z I3 f3 r3=>k G3 H3 z I3 (f1.trans (f2.trans f3)) r3
theorem Kn {r:R2}(ho:OpR X (binaryOp op) r)(hv:V2 X r f)(ha:SE X a ma)(hb:SE X b mb):SE X (.BinOp a op b pos) (m2 f ma mb):=by
 refine ha.el fun ta pa sa=>?_
 refine hb.el fun tb pb sb=>?_
 exact⟨_,Au ho pa pb,Vx hv sa sb⟩
theorem Su {op:CmpOp}{r:R2}(ho:OpR X (compareOp op) r)(hv:V2 X r f)(ha:SE X a ma)(hb:SE X b mb)(hm:behindInMarks op b=false):SE X (.Compare a [op] [b] pos) (m2 f ma mb):=by
 refine ha.el fun ta pa sa=>?_
 refine hb.el fun tb pb sb=>?_
 exact⟨_,uG ho pa pb hm,Vx hv sa sb⟩
theorem Rx {op:UnaryOp}(ho:Uz X (unaryOp op) r)(hv:V1 X r g)(ha:SE X a ma):SE X (.UnaryOp op a pos) (m1 g ma):=by
 refine ha.el fun ta pa sa=>?_
 refine⟨_,Pd ho pa,fun B G H σ ρ d ρ' Q I hm k=>?_⟩;obtain⟨x,e1,e2⟩:=qD hm;exact sa B G H σ ρ x ρ' _ I e1 fun G1 H1 v I1 f1 r1=>hv B G1 H1 σ ρ' v x d Q I1 r1 e2 fun G2 H2 z I2 f2 r2=>k G2 H2 z I2 (f1.trans f2) r2
theorem Qm {r:R2}(hr:IxR X r)(hv:V2 X r f)(ha:SE X a ma)(hb:SE X b mb)(hs:Wf b):SE X (.Subscript a b pos) (m2 f ma mb):=by
 refine ha.el fun ta pa sa=>?_
 refine hb.el fun tb pb sb=>?_
 exact⟨_,Bo hr pa pb hs,Vx hv sa sb⟩
end
section
variable {X:Cx} {x:Str} {p pos:Pos} {e:Expr} {es:List Expr} {ma:MA} {id T:String} {r:List V->Hp->VK->Prop} {f:List D->Option D}
theorem rV {t:TA}(hv:VC X r f)(sa:∀B G H σ ρ ds ρ' (Q:List V->Hp->Prop),SI X.K B G H σ ρ->ma ρ=some (ds,ρ')->(∀G' H' vs,SI X.K B G' H' σ ρ'->Fz G G'->RepL X.K G' vs ds->Q vs H')->t σ H Q):
  ∀B G H σ ρ d ρ' (Q:VK),SI X.K B G H σ ρ->mC f ma ρ=some (d,ρ')->(∀G' H' v,SI X.K B G' H' σ ρ'->Fz G G'->RepD X.K G' v d->Q v H')->Yx r t σ H Q:=by
 intro B G H σ ρ d ρ' Q I hm k;obtain⟨ds,e1,e2⟩:=Ih hm;exact sa B G H σ ρ ds ρ' _ I e1 fun G1 H1 vs I1 f1 r1=>hv B G1 H1 σ ρ' vs ds d Q I1 r1 e2 fun G2 H2 z I2 f2 r2=>k G2 H2 z I2 (f1.trans f2) r2
theorem uF (hc:jM X (.builtin id) r)(hv:VC X r f)(hb:bootBuiltins x=some (.builtin id))(hm:X.mg x=none)(ha:SA X (e::es) ma)(hg:autoParam (Gl X x) zu3._auto_1)(hn:autoParam (x≠"__name__") zu1._auto_1)(hdb:autoParam ((x==("__debug__":Str))=false) zu1._auto_1)
  (he:autoParam (starEach (e::es) X.env=(false,eval e X.env)::starEach es X.env) zu3._auto_1) (hpl:autoParam ((backTo pos (starEach es X.env)).any (·.1)=false) zu3._auto_1):SE X (.Call (.Name x p) (e::es) [] pos) (mC f ma):=by
 refine ha.el fun t pa sa=>?_
 exact⟨_,zlV hc hg hm hb pa hn hdb he hpl,rV hv sa⟩
theorem zrj (hc:jM X (.type T) r)(hv:VC X r f)(hb:bootBuiltins x=some (.type T))(hm:X.mg x=none)(ha:SA X (e::es) ma)(hg:autoParam (Gl X x) zu3._auto_1)(hn:autoParam (x≠"__name__") zu1._auto_1)(hdb:autoParam ((x==("__debug__":Str))=false) zu1._auto_1)
  (he:autoParam (starEach (e::es) X.env=(false,eval e X.env)::starEach es X.env) zu3._auto_1) (hpl:autoParam ((backTo pos (starEach es X.env)).any (·.1)=false) zu3._auto_1):SE X (.Call (.Name x p) (e::es) [] pos) (mC f ma):=by
 refine ha.el fun t pa sa=>?_
 exact⟨_,znF hc hg hm hb pa hn hdb he hpl,rV hv sa⟩
end
end M
namespace M
open L2 PySem PySem.Spec
open PyProof.Rows hiding St
variable {v:V} {ds cs out:List D} {p pos pos':Pos} {xs vs ys:List V} {c:Int->Int->Bool} {g:D->R->Option R} {x qual:Str} {d:D} {C:Prop} {X:Cx} {a b e tg it:Expr} {ma:MA} {i j n t:Nat} {mb:ME} {K:W.Frag} {G H H' G' Hc Gc:Hp} {us its:List Value} {u:Value} {A:Around} {B:Bs} {σ σc:St} {ρ ρ':R} {s:Sl} {Q E:Value->Shared->Prop} {f:D->D->Option D} {op op':CmpOp} {m:MS} {mc:MT} {tgs es ifs:List Expr} {h:List D->R->Option R} {body:List Stmt} {l DD:Addr} {N ps:List Str} {fd:FuncData} {env:Env} {scope:Scope} {cl:List (Str×Addr)} {h':Heap} {prog:Program} {w:World} {use:Option (Value->Sem Unit)} {ov:Option (Option V)} {cap:List Nat} {o:Option D} {O:List (Nat×Addr)} {tg':Addr->Shared->Hp->List Addr->TG} {tt:Addr->Shared->Hp->List Addr->TT} {te:Addr->Shared->Hp->List Addr->TE} {JJ:Hp->Hp->St->R->Prop} {wi:TI} {ns:List Int}
section
variable {X:Cx} {K:W.Frag} {B:Bs} {G H:Hp} {σ:St} {ρ:R}
theorem SI.lst (I:SI K B G H σ ρ)(h:RepD K G v (.lst ds)):∃a xs,v= .ref a/\H a=some (.lst xs)/\RepL K G xs ds:=by
 obtain⟨a,xs,e,q,r⟩:=h;exact⟨a,xs,e,I.fz a _ q,r⟩
theorem SI.tup (I:SI K B G H σ ρ)(h:RepD K G v (.tup ds)):∃a xs,v= .ref a/\H a=some (.tup xs)/\RepL K G xs ds:=by
 obtain⟨a,xs,e,q,r⟩:=h;exact⟨a,xs,e,I.fz a _ q,r⟩
theorem SI.newT (I:SI K B G H σ ρ){p:Addr}(hp:H p=none)(h:RepL K G xs ds):SI K B (upd G p (.tup xs)) (upd H p (.tup xs)) σ ρ/\Fz G (upd G p (.tup xs))/\RepD K (upd G p (.tup xs)) (.ref p) (.tup ds):=
 ⟨I.allocF hp _,Fz.new (I.fz.free hp) _,⟨p,xs,rfl,gK,h.mono (Fz.new (I.fz.free hp) _)⟩⟩
theorem SI.newL (I:SI K B G H σ ρ){p:Addr}(hp:H p=none)(h:RepL K G xs ds):SI K B (upd G p (.lst xs)) (upd H p (.lst xs)) σ ρ/\Fz G (upd G p (.lst xs))/\RepD K (upd G p (.lst xs)) (.ref p) (.lst ds):=
 ⟨I.allocF hp _,Fz.new (I.fz.free hp) _,⟨p,xs,rfl,gK,h.mono (Fz.new (I.fz.free hp) _)⟩⟩
end
noncomputable def kZ (c:Int->Int->Bool)(g:Int->Int->D):D->D->Option D
 | .int i,.int j=>if c i j then some (g i j)else none
 |_,_=>none
theorem Uj {g:Int->Int->D}{x y d:D}(h:kZ c g x y=some d)(k:∀i j,x= .int i->y= .int j->c i j=true->g i j=d->C):C:=by
 cases x with
 |int i=>cases y with
  |int j=>exact bJ h fun z h=>k i j rfl rfl z (Option.some.inj h)
  |_=>exact aM h
 |_=>exact aM h
theorem Zi {C:Int->Int->Prop}{g:Int->Int->Int}(hc:∀i j,c i j=true->C i j):V2 X (rI C fun i j=> .int (g i j)) (kZ c fun i j=> .int (g i j)):=fun B G H σ ρ x y a b d Q I ra rb hf k=>Uj hf fun i j ea eb h ed=>by
 subst ea eb ed;exact⟨i,j,ra,rb,hc i j h,k G H _ I (Fz.refl G) rfl⟩
theorem zS {g:Int->Int->Int}:V2 X (tG fun i j=> .int (g i j)) (kZ (fun _ _=>true) fun i j=> .int (g i j)):=fun B G H σ ρ x y a b d Q I ra rb hf k=>Uj hf fun i j ea eb h ed=>by
 subst ea eb ed;exact⟨i,j,ra,rb,k G H _ I (Fz.refl G) rfl⟩
theorem eQ {g:Int->Int->Bool}:V2 X (tG fun i j=> .bl (g i j)) (kZ (fun _ _=>true) fun i j=> .bl (g i j)):=fun B G H σ ρ x y a b d Q I ra rb hf k=>Uj hf fun i j ea eb h ed=>by
 subst ea eb ed;exact⟨i,j,ra,rb,k G H _ I (Fz.refl G) rfl⟩
noncomputable def bN:D->D->Option D:=kZ (fun _ _=>true) fun i j=> .int (i-j)
noncomputable def Mc (j:Int):Bool:=decide (0<j)&&decide (j.natAbs.log2<9000)
theorem qH:OpR X (binaryOp .FloorDiv) (rI (fun _ j=>0<j/\j.natAbs.log2<9000) fun i j=> .int (i/j)):=Vp fun i j _ _ _ _ _ hc q=>by
 have h1:(0:Int)<j:=hc.1;exact PyProof.Rows.floordiv_int (by lia) (by rw[Int.fdiv_eq_ediv_of_nonneg i (by lia)];exact q) (.inl (PyProof.noPylong_of_log2 hc.2))
noncomputable def dP:D->D->Option D:=kZ (fun _ j=>Mc j) fun i j=> .int (i/j)
noncomputable def bO:D->D->Option D:=kZ (fun _ j=>decide (0<j)) fun i j=> .int (i%j)
noncomputable def eJ:D->D->Option D:=kZ (fun i j=>decide (0<=j)&&decide (j<=1000000)&&decide (i.natAbs<2^64)) fun i j=> .int (i^j.toNat)
noncomputable def fV:D->D->Option D:=kZ (fun _ _=>true) fun i j=> .bl (decide (i<j))
noncomputable def jA:D->D->Option D:=kZ (fun _ _=>true) fun i j=> .bl (decide (i<=j))
noncomputable def iY:D->D->Option D:=kZ (fun _ _=>true) fun i j=> .bl (decide (j<i))
noncomputable def Us:D->D->Option D:=kZ (fun _ _=>true) fun i j=> .bl (decide (j<=i))
section
variable {X:Cx} {a b:Expr} {ma mb:ME} {pos:Pos}
theorem eD (ha:SE X a ma)(hb:SE X b mb):SE X (.BinOp a .Sub b pos) (m2 bN ma mb):=Kn Fb zS ha hb
theorem jP (ha:SE X a ma)(hb:SE X b mb):SE X (.BinOp a .FloorDiv b pos) (m2 dP ma mb):=Kn qH (Zi fun i j h=>by simpa[Mc]using h) ha hb
theorem dW (ha:SE X a ma)(hb:SE X b mb):SE X (.BinOp a .Mod b pos) (m2 bO ma mb):=Kn Es (Zi fun i j h=>by simpa using h) ha hb
theorem lQ (ha:SE X a ma)(hb:SE X b mb):SE X (.BinOp a .Pow b pos) (m2 eJ ma mb):=Kn Hv (Zi fun i j h=>by simp only[eO,kK]at h;exact⟨h.1.1,h.1.2,h.2⟩) ha hb
theorem Cb (ha:SE X a ma)(hb:SE X b mb):SE X (.Compare a [.Lt] [b] pos) (m2 fV ma mb):=Su mH eQ ha hb (tN _)
theorem Sx (ha:SE X a ma)(hb:SE X b mb):SE X (.Compare a [.LtE] [b] pos) (m2 jA ma mb):=Su jX eQ ha hb (tN _)
theorem Ko (ha:SE X a ma)(hb:SE X b mb):SE X (.Compare a [.Gt] [b] pos) (m2 iY ma mb):=Su Bl eQ ha hb (tN _)
end
noncomputable def fA:D->Option D
 | .int i=>some (.int (-i))
 |_=>none
theorem tK {ma:ME}(ha:SE X a ma):SE X (.UnaryOp .USub a pos) (m1 fA ma):=
 Rx Gw (fun B G H σ ρ x a d Q I ra hf k=>by
  cases a<;>simp only[fA]at hf<;>try cases hf
  exact⟨_,ra,k G H _ I (Fz.refl G) rfl⟩) ha
noncomputable def xM (i j:Int):Bool:=(decide (i.natAbs<2^64)||decide (j.natAbs<2^64))||(decide (i.natAbs<2^4000)&&decide (j.natAbs<2^4000))
noncomputable def dE:D->D->Option D
 | .int i,.int j=>if xM i j then some (.int (i*j))else none
 | .lst ds,.int k=>if decide (-1000000<=k)&&decide (k<=1000000)&&decide (ds.length*k.toNat<=1000000)then some (.lst (List.replicate k.toNat ds).flatten)else none
 |_,_=>none
theorem zlw {k:Int}(h:k.natAbs<2^4000):Builtin.Int.intBits k<=4000:=by
 unfold Builtin.Int.intBits
 split
 ·exact lI _
 ·have:k.natAbs.log2<4000:=by
   rcases Nat.eq_zero_or_pos k.natAbs with h0|hp
   ·rw[h0];decide
   ·exact(Nat.log2_lt (Nat.ne_of_gt hp)).mpr h
  lia
theorem oR {i j:Int}(h:xM i j=true):IntMulOk i j:=by
 unfold xM at h;simp only[Xb,eO,kK]at h;rcases h with(h|h)|⟨h1,h2⟩
 ·exact .of_left (intBits_le_64 (by lia) (by lia))
 ·exact .of_right (intBits_le_64 (by lia) (by lia))
 ·have b1:=zlw h1;have b2:=zlw h2;unfold IntMulOk;intro z;simp only[eO]at z;have z2:=z.2;unfold Builtin.Int.intTooBig at z2
  revert z2
  generalize Builtin.Int.intBits i=p at*
  generalize Builtin.Int.intBits j=q at*
  intro z2;have z3:=of_decide_eq_true z2;have hb:=bitsLine_eq;lia
theorem op_mulG:OpR X (binaryOp .Mult) (rI IntMulOk fun i j=> .int (i*j)):=Vp fun _ _ _ _ _ _ _ hc q=>mul_int q hc
theorem iW {ma mb:ME}(ha:SE X a ma)(hb:SE X b mb):SE X (.BinOp a .Mult b pos) (m2 dE ma mb):=by
 refine Kn (op_mulG.or pL) (fun B G H σ ρ x y a b d Q I ra rb hf k=>?_) ha hb;cases a with
 |int i=>cases b with
  |int j=>
   refine bJ hf fun h hf=>?_
   obtain rfl:=Option.some.inj hf;exact .inl ⟨i,j,ra,rb,oR h,k G H _ I (Fz.refl G) rfl⟩
  |_=>exact aM hf
 |lst ds=>cases b with
  |int j=>
   refine bJ hf fun h hf=>?_
   obtain rfl:=Option.some.inj hf;simp only[eO,kK]at h;obtain⟨a,xs,rfl,ha,r⟩:=I.lst ra;have hl:=r.length;refine .inr ⟨a,j,xs,rfl,rb,ha,by lia,by lia,by rw[hl,iL];lia,fun p hp=>?_⟩;obtain⟨I2,f2,r2⟩:=I.newL hp (r.rep j.toNat);exact k _ _ _ I2 f2 r2
  |_=>exact aM hf
 |_=>exact aM hf
noncomputable def aZ:D->D->Option D
 | .int i,.int j=>some (.int (i+j))
 | .tup a,.tup b=>if a.length+b.length<=16777216 then some (.tup (a++b))else none
 | .lst a,.lst b=>if a.length+b.length<=16777216 then some (.lst (a++b))else none
 | .str a,.str b=>if a.length+b.length<=16777216 then some (.str (a++b))else none
 |_,_=>none
theorem op_catT0:OpR X (binaryOp .Add) (fun x y H Q=>∃a b ys,x= .ref a/\y= .ref b/\SqT X.K H a []/\SqT X.K H b ys/\Q (.ref b) H):=by
 intro pins s σ H x y v u Q I rx ry h;obtain⟨a,b,ys,rfl,rfl,ha,hb,q⟩:=h;cases rx;cases ry;obtain⟨its,r1,p1,_⟩:=I.tuple ha;obtain⟨its2,r2,p2,_⟩:=I.tuple hb;obtain rfl:its=[]:=by cases r1;rfl
 obtain⟨⟨cls,dd,data,sl⟩,ho,hc,n,hd⟩:=id p1;obtain⟨⟨cls2,dd2,data2,sl2⟩,ho2,hc2,n2,hd2⟩:=id p2;simp only at hc hd hc2 hd2;subst hc hd hc2 hd2;exact concat_meets ⟨_,ho,rfl⟩ ⟨_,ho2,rfl⟩ noFill_tuple_add seq_tuple_add Zp qa3 (qa4 _ _)
   (tuple_addW0 a b _ _ n n2 dd dd2 sl sl2 (by simp)) ⟨ho,ho2,⟨.ref b,H,I,rfl,q⟩⟩
theorem cH {ma mb:ME}(ha:SE X a ma)(hb:SE X b mb):SE X (.BinOp a .Add b pos) (m2 aZ ma mb):=by
 refine Kn (op_add.or (op_catT.or (op_catT0.or (op_cat.or zps)))) (fun B G H σ ρ x y a b d Q I ra rb hf k=>?_) ha hb;cases a with
 |int i=>cases b with
  |int j=>obtain rfl:=Option.some.inj hf;exact .inl ⟨_,_,ra,rb,k G H _ I (Fz.refl G) rfl⟩
  |_=>exact aM hf
 |str i=>cases b with
  |str j=>
   refine bJ hf fun h hf=>?_
   obtain rfl:=Option.some.inj hf;exact .inr (.inr (.inr (.inr ⟨i,j,ra,rb,by rw[iL];exact h,k G H _ I (Fz.refl G) rfl⟩)))
  |_=>exact aM hf
 |lst as=>cases b with
  |lst bs=>
   refine bJ hf fun h hf=>?_
   obtain rfl:=Option.some.inj hf;obtain⟨a,xs,rfl,ha,r⟩:=I.lst ra;obtain⟨b,ys,rfl,hb,r2⟩:=I.lst rb;refine .inr (.inr (.inr (.inl ⟨a,b,xs,ys,rfl,rfl,ha,hb,by rw[r.length,r2.length,iL];exact h,fun p hp=>?_⟩)));obtain⟨I2,f2,r2⟩:=I.newL hp (r.append r2);exact k _ _ _ I2 f2 r2
  |_=>exact aM hf
 |tup as=>cases b with
  |tup bs=>
   refine bJ hf fun h hf=>?_
   obtain rfl:=Option.some.inj hf;obtain⟨a,xs,rfl,ha,r⟩:=I.tup ra;obtain⟨b,ys,rfl,hb,r2⟩:=I.tup rb
   by_cases z:xs=[]
   ·subst z;have z':as=[]:=List.eq_nil_of_length_eq_zero r.length.symm;subst z';exact .inr (.inr (.inl ⟨a,b,ys,rfl,rfl,SqT.of ha,SqT.of hb,k G H _ I (Fz.refl G) rb⟩))
   ·refine .inr (.inl ⟨a,b,xs,ys,rfl,rfl,SqT.of ha,SqT.of hb,z,by rw[r.length,r2.length,iL];exact h,fun w=>?_,fun w p hp=>?_⟩)
    ·subst w;have w':bs=[]:=List.eq_nil_of_length_eq_zero r2.length.symm;subst w';rw[Bn]at k;exact k G H _ I (Fz.refl G) ra
    ·obtain⟨I2,f2,r2⟩:=I.newT hp (r.append r2);exact k _ _ _ I2 f2 r2
  |_=>exact aM hf
 |_=>exact aM hf
mutual
noncomputable def bQ:D->Bool
 | .scr _=>false
 | .exc _=>false
 | .dic _ _=>false
 | .dit _ _=>false
 | .obj _ _ _ _ _=>false
 | .lst ds=>eK ds
 | .tup ds=>eK ds
 |_=>true
noncomputable def eK:List D->Bool
 |[]=>true
 |d::ds=>bQ d&&eK ds
end
mutual
noncomputable def fO:D->D->Bool
 | .non,.non=>true
 | .bl a,.bl b=>a==b
 | .int a,.int b=>a==b
 | .str a,.str b=>a==b
 | .bl a,.int b=>(if a then 1 else 0)==b
 | .int a,.bl b=>a==(if b then 1 else 0)
 | .lst a,.lst b=>dS a b
 | .tup a,.tup b=>dS a b
 |_,_=>false
noncomputable def dS:List D->List D->Bool
 |[],[]=>true
 |a::as,b::bs=>fO a b&&dS as bs
 |_,_=>false
end
theorem Tn:∀{as bs:List D},as.length≠bs.length->dS as bs=false
 |[],[],h=>absurd rfl h
 |[],_::_,_=>rfl
 |_::_,[],_=>rfl
 |a::as,b::bs,h=>by
  have:=Tn (as:=as) (bs:=bs) (fun e=>h (by simp[e]));simp[dS,this]
mutual
theorem zmq:∀d,bQ d=true->fO d d=true
 | .non,_=>rfl
 | .bl b,_=>by simp[fO]
 | .int b,_=>by simp[fO]
 | .str b,_=>by simp[fO]
 | .lst ds,h=>by simp only[bQ]at h;simp only[fO];exact zkO ds h
 | .tup ds,h=>by simp only[bQ]at h;simp only[fO];exact zkO ds h
 | .scr _,h=>by simp[bQ]at h
 | .exc _,h=>by simp[bQ]at h
 |(.dic _ _),h=>by simp[bQ]at h
 |(.dit _ _),h=>by simp[bQ]at h
 |(.obj _ _ _ _ _),h=>by simp[bQ]at h
theorem zkO:∀ds,eK ds=true->dS ds ds=true
 |[],_=>rfl
 |d::ds,h=>by
  simp only[eK,eO]at h;simp only[dS,eO];exact⟨zmq d h.1,zkO ds h.2⟩
end
mutual
noncomputable def depth:D->Nat
 | .lst ds=>yI ds+1
 | .tup ds=>yI ds+1
 |_=>0
noncomputable def yI:List D->Nat
 |[]=>0
 |d::ds=>max (depth d) (yI ds)
end
theorem zlx:∀{l:List D} {i:Nat} {d:D},l[i]? =some d->depth d<=yI l
 |[],_,_,h=>by simp at h
 |c::l,0,d,h=>by simp at h;subst h;simp only[yI];lia
 |c::l,i+1,d,h=>by
  have:=zlx (l:=l) (i:=i) (d:=d) (by simpa using h);simp only[yI];lia
theorem Pt:∀{l:List D} {i:Nat} {d:D},l[i]? =some d->eK l=true->bQ d=true
 |[],_,_,h,_=>by simp at h
 |c::l,0,d,h,z=>by simp at h;subst h;simp only[eK,eO]at z;exact z.1
 |c::l,i+1,d,h,z=>by simp only[eK,eO]at z;exact Pt (l:=l) (i:=i) (by simpa using h) z.2
mutual
theorem RepD.inj:∀{a b:D} {x:V},bQ a=true->bQ b=true->RepD K G x a->RepD K G x b->a=b
 | .non,b,x,_,nb,ra,rb=>by
  cases(show x=V.non from ra);cases b<;>simp_all [RepD,bQ]
 | .bl c,b,x,_,nb,ra,rb=>by
  cases(show x=V.bl c from ra);cases b<;>simp_all [RepD,bQ]
 | .int c,b,x,_,nb,ra,rb=>by
  cases(show x=V.int c from ra);cases b<;>simp_all [RepD,bQ]
 | .str c,b,x,_,nb,ra,rb=>by
  cases(show x=V.str c from ra);cases b<;>simp_all [RepD,bQ]
 | .lst ds,b,x,na,nb,ra,rb=>by
  obtain⟨p,xs,rfl,q,r⟩:=ra;cases b with
  |lst es=>
   obtain⟨p2,ys,e,q2,r2⟩:=rb;cases e;rw[q]at q2;cases q2;simp only[bQ]at na nb;rw[RepL.inj na nb r r2]
  |tup es=>
   obtain⟨p2,ys,e,q2,r2⟩:=rb;cases e;rw[q]at q2;cases q2
  |scr _=>simp[bQ]at nb
  |exc _=>simp[bQ]at nb
  |dic _ _=>simp[bQ]at nb
  |dit _ _=>simp[bQ]at nb
  |obj _ _ _ _ _=>simp[bQ]at nb
  |non=>simp[RepD]at rb
  |bl _=>simp[RepD]at rb
  |int _=>simp[RepD]at rb
  |str _=>simp[RepD]at rb
 | .tup ds,b,x,na,nb,ra,rb=>by
  obtain⟨p,xs,rfl,q,r⟩:=ra;cases b with
  |tup es=>
   obtain⟨p2,ys,e,q2,r2⟩:=rb;cases e;rw[q]at q2;cases q2;simp only[bQ]at na nb;rw[RepL.inj na nb r r2]
  |lst es=>
   obtain⟨p2,ys,e,q2,r2⟩:=rb;cases e;rw[q]at q2;cases q2
  |scr _=>simp[bQ]at nb
  |exc _=>simp[bQ]at nb
  |dic _ _=>simp[bQ]at nb
  |dit _ _=>simp[bQ]at nb
  |obj _ _ _ _ _=>simp[bQ]at nb
  |non=>simp[RepD]at rb
  |bl _=>simp[RepD]at rb
  |int _=>simp[RepD]at rb
  |str _=>simp[RepD]at rb
 | .scr _,_,_,na,_,_,_=>by simp[bQ]at na
 | .exc _,_,_,na,_,_,_=>by simp[bQ]at na
 |(.dic _ _),_,_,na,_,_,_=>by simp[bQ]at na
 |(.dit _ _),_,_,na,_,_,_=>by simp[bQ]at na
 |(.obj _ _ _ _ _),_,_,na,_,_,_=>by simp[bQ]at na
theorem RepL.inj:∀{as bs:List D} {xs:List V},eK as=true->eK bs=true->RepL K G xs as->RepL K G xs bs->as=bs
 |[],[],_,_,_,_,_=>rfl
 |[],_::_,xs,_,_,e,h=>by
  obtain⟨_,_,e2,_⟩:=h;cases(show xs=[]from e);cases e2
 |_::_,[],xs,_,_,h,e=>by
  obtain⟨_,_,e2,_⟩:=h;cases(show xs=[]from e);cases e2
 |a::as,b::bs,xs,na,nb,h,h2=>by
  obtain⟨x,ys,e,q,r⟩:=h;obtain⟨x2,ys2,e2,q2,r2⟩:=h2;subst e;cases e2;simp only[eK,eO]at na nb;rw[RepD.inj na.1 nb.1 q q2,RepL.inj na.2 nb.2 r r2]
end
noncomputable def Ax (ds es:List D)(j:Nat):Bool:=match ds[j]?,es[j]? with
 |some a,some b=>fO a b
 |_,_=>false
theorem Ru:∀(as bs:List D),as.length=bs.length->(List.range as.length).all (Ax as bs)=dS as bs
 |[],[],_=>by simp[dS]
 |a::as,b::bs,h=>by
  have ih:=Ru as bs (by simpa using h);rw[eU,List.range_succ_eq_map,Uk,List.all_map];simp only[dS,<-ih];congr 1
 |[],_::_,h=>by simp at h
 |_::_,[],h=>by simp at h
section
variable {X:Cx} {pins:List (Addr×Obj)} {σ:St} {H G:Hp} {s:Shared}
theorem zrz (r:Vals xs us)(h:RepL X.K G xs ds)(e:us[j]? =some u):∃x d,ds[j]? =some d/\RelV x u/\RepD X.K G x d:=by
 have hl:=r.length;have hl2:=h.length;have hj:j<us.length:=(qap.mp e).1;have ej:ds[j]? =some ds[j]:=cG (by lia);obtain⟨x,q1,q2⟩:=h.get ej;obtain⟨u',h1,h2⟩:=r.get q1;have:u'=u:=by rw[h1]at e;exact Option.some.inj e
 subst this;exact⟨x,_,ej,h2,q2⟩
inductive Sh (K:W.Frag) (G:Hp) (s:Shared):D->Value->Prop
 |non:Sh K G s .non .none
 |bl (c:Bool):Sh K G s (.bl c) (.bool c)
 |int (c:Int) (t:Tok):Sh K G s (.int c) (.int c t)
 |str (c:Str) (t:Tok):Sh K G s (.str c) (.str c t)
 |lst {ds:List D} {p:Addr} {xs:List V} {its:List Value} (q:G p=some (.lst xs)) (r:RepL K G xs ds) (rv:Vals xs its) (pl:PlainL s.heap p its.toArray):Sh K G s (.lst ds) (.ref p)
 |tup {ds:List D} {p:Addr} {xs:List V} {its:List Value} (q:G p=some (.tup xs)) (r:RepL K G xs ds) (rv:Vals xs its) (pl:IsTup s.heap p its.toArray):Sh K G s (.tup ds) (.ref p)
theorem Me (I:Inv X pins σ H s)(fz:Fz G H){x:V}(na:bQ d=true)(ra:RepD X.K G x d)(rx:RelV x u):Sh X.K G s d u:=by
 cases d with
 |non=>rw[show x=V.non from ra]at rx;rw[show u=Value.none from rx];exact .non
 |bl c=>rw[show x=V.bl c from ra]at rx;rw[show u=Value.bool c from rx];exact .bl c
 |int c=>rw[show x=V.int c from ra]at rx;exact Exists.elim rx fun t e=>by rw[e];exact .int c t
 |str c=>rw[show x=V.str c from ra]at rx;exact Exists.elim rx fun t e=>by rw[e];exact .str c t
 |lst ds=>
  obtain⟨p,xs,e,q,r⟩:=ra;rw[e]at rx;rw[show u=Value.ref p from rx];exact(I.list (SqL.of (fz _ _ q))).elim fun its h=> .lst q r h.1 h.2.1
 |tup ds=>
  obtain⟨p,xs,e,q,r⟩:=ra;rw[e]at rx;rw[show u=Value.ref p from rx];exact(I.tuple (SqT.of (fz _ _ q))).elim fun its h=> .tup q r h.1 h.2.1
 |_=>exact nomatch (show false=true from na)
theorem Vj (I:Inv X pins σ H s)(fz:Fz G H)(ih:∀(a b:D) (u v:Value),depth a<n->bQ a=true->bQ b=true->Sh X.K G s a u->Sh X.K G s b v->SeqAt.EqAt A s u v (fO a b))
  {ds es:List D} {xs ys:List V} {its its2:List Value} (hd:yI ds<n) (nd:eK ds=true) (ne:eK es=true) (r:RepL X.K G xs ds) (r2:RepL X.K G ys es) (rv:Vals xs its) (rv2:Vals ys its2) (j:Nat) (h1:j<its.toArray.size) (h2:j<its2.toArray.size):SeqAt.EqAt A s its.toArray[j] its2.toArray[j] (Ax ds es j):=by
 rw[cO]at h1 h2;obtain⟨x1,d1,e1,k1,m1⟩:=zrz rv r (j:=j) (u:=its[j]) (cG h1);obtain⟨x2,d2,e2,k2,m2⟩:=zrz rv2 r2 (j:=j) (u:=its2[j]) (cG h2);rw[show Ax ds es j=fO d1 d2 by unfold Ax;rw[e1,e2]];exact ih d1 d2 _ _ (Ek (zlx e1) hd) (Pt e1 nd) (Pt e2 ne) (Me I fz (Pt e1 nd) m1 k1) (Me I fz (Pt e2 ne) m2 k2)
theorem zq6 (I:Inv X pins σ H s)(fz:Fz G H)(n:Nat):∀(A:Around) (a b:D) (u v:Value),depth a<n->bQ a=true->bQ b=true->A.units+n<cLine->Sh X.K G s a u->Sh X.K G s b v->
  SeqAt.EqAt A s u v (fO a b)/\SeqAt.RcAt A s u v (fO a b):=by
 induction n with
 |zero=>intro A a b u v hd;exact absurd hd (Nat.not_lt_zero _)
 |succ n ih=>
  intro A a b u v hd na nb hu ha hb;have hu':A.units<cLine:=by lia
  cases ha with
  |non=>cases hb with
   |non=>exact⟨.same _,.none_none⟩
   |bl c=>exact⟨.none_bool _,.none_bool _⟩
   |int c t=>exact⟨.none_int _ _,.none_int _ _⟩
   |str c t=>exact⟨.none_str _ _,.none_str _ _⟩
   |lst _ _ _ pl=>exact⟨.none_list pl.isList hu',.none_list pl.isList hu'⟩
   |tup _ _ _ pl=>exact⟨.none_tuple pl hu',.none_tuple pl hu'⟩
  |bl c0=>cases hb with
   |non=>exact⟨.bool_none _,.bool_none _⟩
   |bl c=>exact⟨.bool_bool _ _,.bool_bool _ _⟩
   |int c t=>exact⟨.bool_int _ _ _,.bool_int _ _ _⟩
   |str c t=>exact⟨.bool_str _ _ _,.bool_str _ _ _⟩
   |lst _ _ _ pl=>exact⟨.bool_list _ pl.isList hu',.bool_list _ pl.isList hu'⟩
   |tup _ _ _ pl=>exact⟨.bool_tuple _ pl hu',.bool_tuple _ pl hu'⟩
  |int c0 t0=>cases hb with
   |non=>exact⟨.int_none _ _,.int_none _ _⟩
   |bl c=>exact⟨.int_bool _ _ _,.int_bool _ _ _⟩
   |int c t=>exact⟨.int_int _ _ _ _,.int_int _ _ _ _⟩
   |str c t=>exact⟨.int_str _ _ _ _,.int_str _ _ _ _⟩
   |lst _ _ _ pl=>exact⟨.int_list _ _ pl.isList hu',.int_list _ _ pl.isList hu'⟩
   |tup _ _ _ pl=>exact⟨.int_tuple _ _ pl hu',.int_tuple _ _ pl hu'⟩
  |str c0 t0=>cases hb with
   |non=>exact⟨.str_none _ _,.str_none _ _⟩
   |bl c=>exact⟨.str_bool _ _ _,.str_bool _ _ _⟩
   |int c t=>exact⟨.str_int _ _ _ _,.str_int _ _ _ _⟩
   |str c t=>exact⟨.str_str _ _ _ _,.str_str _ _ _ _⟩
   |lst _ _ _ pl=>exact⟨.str_list _ _ pl.isList hu',.str_list _ _ pl.isList hu'⟩
   |tup _ _ _ pl=>exact⟨.str_tuple _ _ pl hu',.str_tuple _ _ pl hu'⟩
  | @lst ds p xs its q r rv pl=>cases hb with
   |non=>exact⟨.list_none pl.isList hu',.list_none pl.isList hu'⟩
   |bl c=>exact⟨.list_bool _ pl.isList hu',.list_bool _ pl.isList hu'⟩
   |int c t=>exact⟨.list_int _ _ pl.isList hu',.list_int _ _ pl.isList hu'⟩
   |str c t=>exact⟨.list_str _ _ pl.isList hu',.list_str _ _ pl.isList hu'⟩
   |tup _ _ _ pl2=>exact⟨.list_tuple pl.isList pl2 hu',.list_tuple pl.isList pl2 hu'⟩
   | @lst es p2 ys its2 q2 r2 rv2 pl2=>
    have l1:=rv.length;have l2:=r.length;have l3:=rv2.length;have l4:=r2.length;have rc:SeqAt.RcAt A s (.ref p) (.ref p2) (dS ds es):=by
     by_cases hl:ds.length=es.length
     ·have z:=SeqAt.RcAt.lists (A:=A) (s:=s) (e:=Ax ds es) pl.isList pl2.isList (by rw[cO,cO];lia) hu' (Vj I fz (fun a b u v h1 h2 h3 h4 h5=>(ih A.in1 a b u v h1 h2 h3 (by show A.units+1+n<cLine;lia) h4 h5).1) (Nat.lt_of_succ_lt_succ hd) na nb r r2 rv rv2);rw[cO,<-l1,l2,Ru ds es hl]at z;exact z
     ·rw[Tn hl];refine .lists_lengths pl.isList pl2.isList ?_ hu';rw[cO,cO,Mt];lia
    refine⟨?_,rc⟩
    by_cases hp:p=p2
    ·subst hp;rw[show D.lst ds= .lst es from RepD.inj na nb ⟨p,xs,rfl,q,r⟩ ⟨p,ys,rfl,q2,r2⟩,zmq _ nb];exact .same _
    ·exact .of_refs hp rc
  | @tup ds p xs its q r rv pl=>cases hb with
   |non=>exact⟨.tuple_none pl hu',.tuple_none pl hu'⟩
   |bl c=>exact⟨.tuple_bool _ pl hu',.tuple_bool _ pl hu'⟩
   |int c t=>exact⟨.tuple_int _ _ pl hu',.tuple_int _ _ pl hu'⟩
   |str c t=>exact⟨.tuple_str _ _ pl hu',.tuple_str _ _ pl hu'⟩
   |lst _ _ _ pl2=>exact⟨.tuple_list pl pl2.isList hu',.tuple_list pl pl2.isList hu'⟩
   | @tup es p2 ys its2 q2 r2 rv2 pl2=>
    have l1:=rv.length;have l2:=r.length;have l3:=rv2.length;have l4:=r2.length;have rc:SeqAt.RcAt A s (.ref p) (.ref p2) (dS ds es):=by
     have z:=SeqAt.RcAt.tuples (A:=A) (s:=s) (e:=Ax ds es) pl pl2 hu' (Vj I fz (fun a b u v h1 h2 h3 h4 h5=>(ih A.in1 a b u v h1 h2 h3 (by show A.units+1+n<cLine;lia) h4 h5).1) (Nat.lt_of_succ_lt_succ hd) na nb r r2 rv rv2);rw[cO,cO]at z
     by_cases hl:ds.length=es.length
     ·rw[show min its.length its2.length=ds.length by lia,show(its.length==its2.length)=true from qbG.mpr (by lia),Bool.and_true,Ru ds es hl]at z;exact z
     ·rw[show(its.length==its2.length)=false from qab.mpr (by lia),Bool.and_false]at z;rw[Tn hl];exact z
    refine⟨?_,rc⟩
    by_cases hp:p=p2
    ·subst hp;rw[show D.tup ds= .tup es from RepD.inj na nb ⟨p,xs,rfl,q,r⟩ ⟨p,ys,rfl,q2,r2⟩,zmq _ nb];exact .same _
    ·exact .of_refs hp rc
theorem Gu (I:Inv X pins σ H s)(fz:Fz G H)(n:Nat)(A:Around)(a b:D)(x y:V)(u v:Value)(hd:depth a<=n)(na:bQ a=true)(nb:bQ b=true)(hu:A.units+n+1<cLine)(ra:RepD X.K G x a)(rb:RepD X.K G y b)(rx:RelV x u)(ry:RelV y v):
  SeqAt.EqAt A s u v (fO a b)/\SeqAt.RcAt A s u v (fO a b):=zq6 I fz (n+1) A a b u v (Nat.lt_succ_of_le hd) na nb hu (Me I fz na ra rx) (Me I fz nb rb ry)
end
noncomputable def bY (a b:D):Option D:=if bQ a&&bQ b&&decide (depth a<=50)then some (.bl (fO a b))else none
noncomputable def fU (a b:D):Option D:=if bQ a&&bQ b&&decide (depth a<=50)then some (.bl (!fO a b))else none
noncomputable def vS (K:W.Frag)(c:Bool->Bool):R2:=fun x y H Q=>∃G a b,Fz G H/\RepD K G x a/\RepD K G y b/\bQ a=true/\bQ b=true/\depth a<=50/\Q (.bl (c (fO a b))) H
theorem qG (hu:X.A.units+64<cLine):OpR X (compareOp .Eq) (vS X.K id):=by
 intro pins s σ H x y v u Q I rx ry h;obtain⟨G,a,b,fz,ra,rb,na,nb,hd,q⟩:=h;exact(Gu I fz 50 X.A a b x y v u hd na nb (by lia) ra rb rx ry).2 _ _ _ _ ⟨.bl _,H,I,rfl,q⟩
theorem vG {ma mb:ME}(hu:X.A.units+64<cLine)(ha:SE X a ma)(hb:SE X b mb):SE X (.Compare a [.Eq] [b] pos) (m2 bY ma mb):=by
 refine Su (qG hu) (fun B G H σ ρ x y a b d Q I ra rb hf k=>?_) ha hb (tN _);unfold bY at hf;refine bJ hf fun h hf=>?_
 ·skip
  simp only[eO,kK]at h;cases hf;exact⟨G,a,b,I.fz,ra,rb,h.1.1,h.1.2,h.2,k G H _ I (Fz.refl G) rfl⟩
section
variable {X:Cx} {pins:List (Addr×Obj)} {σ:St} {H G:Hp} {s:Shared}
theorem zD (I:Inv X pins σ H s)(fz:Fz G H)(A:Around)(a b:D)(u v:Value)(hd:depth a<=50)(na:bQ a=true)(nb:bQ b=true)(hu:A.units+64<cLine)(ha:Sh X.K G s a u)(hb:Sh X.K G s b v):SeqAt.RcNeAt A s u v (!fO a b):=by
 have hu':A.units<cLine:=by lia
 have ih:∀(a b:D) (u v:Value),depth a<50->bQ a=true->bQ b=true->Sh X.K G s a u->Sh X.K G s b v->SeqAt.EqAt A.in1 s u v (fO a b):=fun a b u v h1 h2 h3 h4 h5=>(zq6 I fz 50 A.in1 a b u v h1 h2 h3 (by show A.units+1+50<cLine;lia) h4 h5).1
 cases ha with
 |non=>cases hb with
  |non=>exact .none_none
  |bl c=>exact .none_bool _
  |int c t=>exact .none_int _ _
  |str c t=>exact .none_str _ _
  |lst _ _ _ pl=>exact .none_list pl.isList hu'
  |tup _ _ _ pl=>exact .none_tuple pl hu'
 |bl c0=>cases hb with
  |non=>exact .bool_none _
  |bl c=>exact .bool_bool _ _
  |int c t=>exact .bool_int _ _ _
  |str c t=>exact .bool_str _ _ _
  |lst _ _ _ pl=>exact .bool_list _ pl.isList hu'
  |tup _ _ _ pl=>exact .bool_tuple _ pl hu'
 |int c0 t0=>cases hb with
  |non=>exact .int_none _ _
  |bl c=>exact .int_bool _ _ _
  |int c t=>exact .int_int _ _ _ _
  |str c t=>exact .int_str _ _ _ _
  |lst _ _ _ pl=>exact .int_list _ _ pl.isList hu'
  |tup _ _ _ pl=>exact .int_tuple _ _ pl hu'
 |str c0 t0=>cases hb with
  |non=>exact .str_none _ _
  |bl c=>exact .str_bool _ _ _
  |int c t=>exact .str_int _ _ _ _
  |str c t=>exact .str_str _ _ _ _
  |lst _ _ _ pl=>exact .str_list _ _ pl.isList hu'
  |tup _ _ _ pl=>exact .str_tuple _ _ pl hu'
 | @lst ds p xs its q r rv pl=>cases hb with
  |non=>exact .list_none pl.isList hu'
  |bl c=>exact .list_bool _ pl.isList hu'
  |int c t=>exact .list_int _ _ pl.isList hu'
  |str c t=>exact .list_str _ _ pl.isList hu'
  |tup _ _ _ pl2=>exact .list_tuple pl.isList pl2 hu'
  | @lst es p2 ys its2 q2 r2 rv2 pl2=>
   have l1:=rv.length;have l2:=r.length;have l3:=rv2.length;have l4:=r2.length;show SeqAt.RcNeAt A s (.ref p) (.ref p2) (!dS ds es)
   by_cases hl:ds.length=es.length
   ·have z:=SeqAt.RcNeAt.lists (A:=A) (s:=s) (e:=Ax ds es) pl.isList pl2.isList (by rw[cO,cO];lia) hu' (Vj I fz ih (Nat.lt_of_succ_le hd) na nb r r2 rv rv2);rw[cO,<-l1,l2,Ru ds es hl]at z;exact z
   ·rw[Tn hl];refine .lists_lengths pl.isList pl2.isList ?_ hu';rw[cO,cO,Mt];lia
 | @tup ds p xs its q r rv pl=>cases hb with
  |non=>exact .tuple_none pl hu'
  |bl c=>exact .tuple_bool _ pl hu'
  |int c t=>exact .tuple_int _ _ pl hu'
  |str c t=>exact .tuple_str _ _ pl hu'
  |lst _ _ _ pl2=>exact .tuple_list pl pl2.isList hu'
  | @tup es p2 ys its2 q2 r2 rv2 pl2=>
   have l1:=rv.length;have l2:=r.length;have l3:=rv2.length;have l4:=r2.length;show SeqAt.RcNeAt A s (.ref p) (.ref p2) (!dS ds es);have z:=SeqAt.RcNeAt.tuples (A:=A) (s:=s) (e:=Ax ds es) pl pl2 hu' (Vj I fz ih (Nat.lt_of_succ_le hd) na nb r r2 rv rv2);rw[cO,cO]at z
   by_cases hl:ds.length=es.length
   ·rw[show min its.length its2.length=ds.length by lia,show(its.length==its2.length)=true from qbG.mpr (by lia),Bool.and_true,Ru ds es hl]at z;exact z
   ·rw[show(its.length==its2.length)=false from qab.mpr (by lia),Bool.and_false]at z;rw[Tn hl];exact z
theorem Ff (I:Inv X pins σ H s)(fz:Fz G H)(A:Around)(a b:D)(x y:V)(u v:Value)(hd:depth a<=50)(na:bQ a=true)(nb:bQ b=true)(hu:A.units+64<cLine)(ra:RepD X.K G x a)(rb:RepD X.K G y b)(rx:RelV x u)(ry:RelV y v):
  SeqAt.RcNeAt A s u v (!fO a b):=zD I fz A a b u v hd na nb hu (Me I fz na ra rx) (Me I fz nb rb ry)
end
theorem rN (hu:X.A.units+64<cLine):OpR X (compareOp .NotEq) (vS X.K not):=by
 intro pins s σ H x y v u Q I rx ry h;obtain⟨G,a,b,fz,ra,rb,na,nb,hd,q⟩:=h;exact Ff I fz X.A a b x y v u hd na nb hu ra rb rx ry _ _ _ _ ⟨.bl _,H,I,rfl,q⟩
theorem Bw:V2 X (vS X.K not) fU:=by
 intro B G H σ ρ x y a b d Q I ra rb hf k;unfold fU at hf;refine bJ hf fun h hf=>?_
 ·skip
  simp only[eO,kK]at h;cases hf;exact⟨G,a,b,I.fz,ra,rb,h.1.1,h.1.2,h.2,k G H _ I (Fz.refl G) rfl⟩
theorem Qt:V2 X (vS X.K id) bY:=by
 intro B G H σ ρ x y a b d Q I ra rb hf k;unfold bY at hf;refine bJ hf fun h hf=>?_
 ·skip
  simp only[eO,kK]at h;cases hf;exact⟨G,a,b,I.fz,ra,rb,h.1.1,h.1.2,h.2,k G H _ I (Fz.refl G) rfl⟩
theorem Ta {ma mb:ME}(hu:X.A.units+64<cLine)(ha:SE X a ma)(hb:SE X b mb):SE X (.Compare a [.NotEq] [b] pos) (m2 fU ma mb):=
 Su (rN hu) Bw ha hb (tN _)
noncomputable def cI:D->D->Option D
 | .lst ds,.int i=>atI ds i
 | .tup ds,.int i=>atI ds i
 | .scr ns,.int i=>(atI ns i).map .int
 |_,_=>none
theorem yG {α β:Type}(f:α->β){xs:List α}{i:Int}{v:α}(h:atI xs i=some v):atI (xs.map f) i=some (f v):=by
 unfold atI at h ⊢;rw[eL];cases q:hZ xs.length i with
 |none=>rw[q]at h;exact aM h
 |some j=>
  rw[q]at h;show(xs.map f)[j]? =_;rw[fJ,show xs[j]? =some v from h]
  rfl
noncomputable def ReadD (K:W.Frag)(G H:Hp)(v:V):D->Prop
 | .lst ds=>∃a xs,v= .ref a/\H a=some (.lst xs)/\RepL K G xs ds
 |d=>RepD K G v d
theorem ReadD.of (fz:Fz G H)(h:RepD K G v d):ReadD K G H v d:=by
 cases d with
 |lst ds=>obtain⟨a,xs,e,q,r⟩:=h;exact⟨a,xs,e,fz a _ q,r⟩
 |_=>exact h
noncomputable def Sl.read:Sl->Option D
 | .emp=>none
 | .two _ _=>none
 | .tre _=>none
 | .ptr _=>none
 | .val d=>some d
 | .own ds=>some (.lst ds)
 | .par ds=>some (.lst ds)
noncomputable def eV (ρ:R)(j:Nat):Bool:=match ρ[j]? with
 |some (.val _)=>true
 |some (.own _)=>true
 |some (.par _)=>true
 |_=>false
theorem SI.has (I:SI K B G H σ ρ)(h:eV ρ j=true):∃v,σ[j]? =some (some v):=by
 unfold eV at h;cases e:ρ[j]? with
 |none=>rw[e]at h;cases h
 |some s=>
  rw[e]at h;have q:=I.slot j s e;cases s with
  |emp=>cases h
  |two _ _=>cases h
  |tre _=>cases h
  |ptr _=>cases h
  |val d=>obtain⟨v,e,_⟩:=q;exact⟨v,e⟩
  |own d=>obtain⟨l,_,e,_⟩:=q;exact⟨_,e⟩
  |par d=>obtain⟨l,_,e,_⟩:=q;exact⟨_,e⟩
theorem SI.read (I:SI K B G H σ ρ)(hv:σ[j]? =some (some v))(e:ρ[j]? =some s)(q:s.read=some d):ReadD K G H v d:=by
 have h:=I.slot j s e;cases s with
 |emp=>exact aM q
 |two _ _=>exact aM q
 |tre _=>exact aM q
 |ptr _=>exact aM q
 |val d'=>
  cases q;obtain⟨w,e1,r⟩:=h;rw[hv]at e1;cases e1;exact .of I.fz r
 |own ds=>
  cases q;obtain⟨l,xs,e1,_,h3,h4,_⟩:=h;rw[hv]at e1;cases e1;exact⟨l,xs,rfl,h3,h4⟩
 |par ds=>
  cases q;obtain⟨l,xs,e1,_,h3,h4,_⟩:=h;rw[hv]at e1;cases e1;exact⟨l,xs,rfl,h3,h4⟩
theorem zrR {x y:V}{a b d:D}{Q:VK}(I:SI K B G H σ ρ)(ra:ReadD K G H x a)(rb:RepD K G y b)(hf:cI a b=some d)(k:∀v,RepD K G v d->Q v H):rIx K x y H Q:=by
 cases a<;>cases b<;>simp only[cI]at hf<;>try exact aM hf
 ·rename_i ds i;obtain⟨p,xs,rfl,hp,r⟩:=ra;obtain⟨v,e,q⟩:=r.at hf;exact .inl ⟨p,xs,i,v,rfl,rb,SqL.of hp,e,k _ q⟩
 ·rename_i ds i;obtain⟨p,xs,rfl,hp,r⟩:=I.tup ra;obtain⟨v,e,q⟩:=r.at hf;exact .inr (.inl ⟨p,xs,i,v,rfl,rb,SqT.of hp,e,k _ q⟩)
 ·rename_i ns i;obtain⟨p,rfl,hp⟩:=ra;cases e:atI ns i with
  |none=>rw[e]at hf;exact aM hf
  |some n=>
   rw[e]at hf;cases hf;exact .inl ⟨p,_,i,.int n,rfl,rb,I.fz.sql hp,yG V.int e,k _ rfl⟩
theorem Qz:V2 X (rIx X.K) cI:=fun B G H σ ρ x y a b d Q I ra rb hf k=>zrR I (.of I.fz ra) rb hf fun v q=>k G H v I (Fz.refl G) q
theorem eI {ma mb:ME}(ha:SE X a ma)(hb:SE X b mb)(hs:autoParam (Wf b) zu7._auto_1):SE X (.Subscript a b pos) (m2 cI ma mb):=Qm nP Qz ha hb hs
noncomputable def aI (j:Nat)(mi:ME):ME:=fun ρ=>if eV ρ j then(mi ρ).bind fun p=>(p.2[j]?.bind Sl.read).bind fun d=>(cI d p.1).map fun e=>(e,p.2)else none
theorem aW (j:Nat)(hb:SE X b mb)(hN:autoParam (X.N[j]? =some x) zu3._auto_1)(hv:autoParam (iA X.env.scope x) zu6._auto_1)(hd:autoParam ((x==("__debug__":Str))=false) zu1._auto_1)
    (hcd:autoParam ((x==("__classdict__":Str))=false) zu1._auto_1) (hs:autoParam (Wf b) zu7._auto_1):SE X (.Subscript (.Name x pos') b pos) (aI j mb):=by
  refine hb.el fun tb pb sb=>?_
  refine⟨_,Bo nP (jG hN hv hd hcd) pb hs,fun B G H σ ρ d ρ' Q I hm k=>?_⟩;unfold aI at hm;refine bJ hm fun hh hm=>?_
  . skip
    obtain⟨v,ev⟩:=I.has hh;cases e1:mb ρ with
    |none=>rw[e1]at hm;exact aM hm
    |some q=>
      obtain⟨i,ρ1⟩:=q;rw[e1]at hm;simp only[kA]at hm;cases e2:ρ1[j]? with
      |none=>rw[e2]at hm;exact aM hm
      |some s=>
        rw[e2]at hm;simp only[kA]at hm;cases e3:s.read with
        |none=>rw[e3]at hm;exact aM hm
        |some a=>
          rw[e3]at hm;simp only[kA]at hm;cases e4:cI a i with
          |none=>rw[e4]at hm;exact aM hm
          |some c=>
            rw[e4]at hm;cases hm;exact⟨v,ev,sb B G H σ ρ i ρ' _ I e1 fun G1 H1 y I1 f1 r1=>zrR I1 (I1.read ev e2 e3) r1 e4 fun w q=>k G1 H1 w I1 f1 q⟩
noncomputable def dZ:List D->Option D
 |[.lst ds]=>some (.int ds.length)
 |[.tup ds]=>some (.int ds.length)
 |[.scr ns]=>some (.int ns.length)
 |_=>none
theorem zoE {x:V}{a d:D}{Q:VK}(I:SI K B G H σ ρ)(ra:ReadD K G H x a)(hf:dZ [a]=some d)(k:∀v,RepD K G v d->Q v H):
  ∃p ys,[x]=[V.ref p]/\(SqL K H p ys\/SqT K H p ys)/\Q (.int ys.length) H:=by
 cases a<;>simp only[dZ]at hf<;>try cases hf
 ·obtain⟨p,xs,rfl,hp,r⟩:=ra;exact⟨p,xs,rfl,.inl (SqL.of hp),by rw[r.length];exact k _ rfl⟩
 ·obtain⟨p,xs,rfl,hp,r⟩:=I.tup ra;exact⟨p,xs,rfl,.inr (SqT.of hp),by rw[r.length];exact k _ rfl⟩
 ·obtain⟨p,rfl,hp⟩:=ra;exact⟨p,_,rfl,.inl (I.fz.sql hp),by rw[eL];exact k _ rfl⟩
theorem RepL.one (h:RepL K G xs [d]):∃x,xs=[x]/\RepD K G x d:=by
 obtain⟨x,ys,e,q,r⟩:=h;cases(show ys=[]from r);exact⟨x,e,q⟩
theorem RepL.two {a b:D}(h:RepL K G xs [a,b]):∃x y,xs=[x,y]/\RepD K G x a/\RepD K G y b:=by
 obtain⟨x,ys,e,q,r⟩:=h;obtain⟨y,e2,q2⟩:=r.one;subst e2;exact⟨x,y,e,q,q2⟩
theorem pJ (h:dZ ds=some d):∃a,ds=[a]:=by
 match ds,h with
 |[a],_=>exact⟨a,rfl⟩
 |[],h=>exact aM h
 |_::_::_,h=>simp[dZ]at h
theorem Dx:VC X (fun xs H Q=>∃p ys,xs=[.ref p]/\(SqL X.K H p ys\/SqT X.K H p ys)/\Q (.int ys.length) H) dZ:=by
 intro B G H σ ρ xs ds d Q I r hf k;obtain⟨a,rfl⟩:=pJ hf;obtain⟨x,rfl,ra⟩:=r.one;exact zoE I (.of I.fz ra) hf fun v q=>k G H v I (Fz.refl G) q
theorem zr3 (ml:X.mg "len"=none)(ha:SA X [e] ma)(hg:autoParam (Gl X "len") zu3._auto_1)(he:autoParam (starEach [e] X.env=(false,eval e X.env)::starEach [] X.env) zu3._auto_1):SE X (.Call (.Name "len" p) [e] [] pos) (mC dZ ma):=
 uF zjX Dx PySem.boot_len ml ha hg (by decide) (by decide) he rfl
noncomputable def cR (j:Nat):ME:=fun ρ=>(ρ[j]?.bind Sl.read).bind fun d=>(dZ [d]).map fun e=>(e,ρ)
theorem dF (j:Nat)(ml:X.mg "len"=none)(hN:autoParam (X.N[j]? =some x) zu3._auto_1)(hv:autoParam (iA X.env.scope x) zu6._auto_1)(hd:autoParam ((x==("__debug__":Str))=false) zu1._auto_1)
  (hcd:autoParam ((x==("__classdict__":Str))=false) zu1._auto_1) (hg:autoParam (Gl X "len") zu3._auto_1) (he:autoParam (starEach [.Name x pos'] X.env=(false,eval (.Name x pos') X.env)::starEach [] X.env) zu3._auto_1):SE X (.Call (.Name "len" p) [.Name x pos'] [] pos) (cR j):=by
 refine⟨_,zlV zjX hg ml PySem.boot_len (lS (jG hN hv hd hcd) As he) (by decide) (by decide) he rfl,fun B G H σ ρ d ρ' Q I hm k=>?_⟩;unfold cR at hm;cases e2:ρ[j]? with
 |none=>rw[e2]at hm;exact aM hm
 |some s=>
  rw[e2]at hm;simp only[kA]at hm;cases e3:s.read with
  |none=>rw[e3]at hm;exact aM hm
  |some a=>
   rw[e3]at hm;simp only[kA]at hm;cases e4:dZ [a]with
   |none=>rw[e4]at hm;exact aM hm
   |some c=>
    rw[e4]at hm;obtain⟨rfl,rfl⟩:=bT hm;have hh:eV ρ j=true:=by
     unfold eV;rw[e2];cases s<;>first|rfl|exact aM e3
    obtain⟨v,ev⟩:=I.has hh;exact⟨v,ev,zoE I (I.read ev e2 e3) e4 fun w q=>k G H w I (Fz.refl G) q⟩
noncomputable def fW:List D->Option D
 |[.lst ds]=>some (.tup ds)
 |[.tup ds]=>some (.tup ds)
 |[.scr ns]=>some (.tup (ns.map .int))
 |_=>none
theorem oW:VC X (fun xs H Q=>∃p ys,xs=[.ref p]/\((SqL X.K H p ys/\∀l,H l=none->Q (.ref l) (upd H l (.tup ys)))\/(SqT X.K H p ys/\Q (.ref p) H))) fW:=by
 intro B G H σ ρ xs ds d Q I r hf k
 match ds,hf with
 |[a],hf=>
  obtain⟨x,rfl,ra⟩:=r.one;cases a<;>simp only[fW]at hf<;>try cases hf
  ·obtain⟨p,ys,rfl,hp,q⟩:=I.lst ra;refine⟨p,ys,rfl,.inl ⟨SqL.of hp,fun l hl=>?_⟩⟩;obtain⟨I2,f2,r2⟩:=I.newT hl q;exact k _ _ _ I2 f2 r2
  ·obtain⟨p,ys,e,hp,q⟩:=I.tup ra;subst e;exact⟨p,ys,rfl,.inr ⟨SqT.of hp,k G H _ I (Fz.refl G) ra⟩⟩
  ·obtain⟨p,rfl,hp⟩:=ra;refine⟨p,_,rfl,.inl ⟨I.fz.sql hp,fun l hl=>?_⟩⟩;obtain⟨I2,f2,r2⟩:=I.newT hl (RepL.ints _);exact k _ _ _ I2 f2 r2
 |[],hf=>exact aM hf
 |_::_::_,hf=>simp[fW]at hf
theorem jH (ml:X.mg "tuple"=none)(ha:SA X [e] ma)(hg:autoParam (Gl X "tuple") zu3._auto_1)(he:autoParam (starEach [e] X.env=(false,eval e X.env)::starEach [] X.env) zu3._auto_1)(hb:autoParam (bootBuiltins "tuple"=some (.type "tuple")) zu8._auto_1):
  SE X (.Call (.Name "tuple" p) [e] [] pos) (mC fW ma):=
 zrj zl6 oW hb ml ha hg (by decide) (by decide) he rfl
noncomputable def dM:List D->Option (List D)
 |[.lst ds]=>some ds
 |[.tup ds]=>some ds
 |[.scr ns]=>some (ns.map .int)
 |_=>none
noncomputable def oC (f:List D->Option (List D))(ma:MA):MO:=fun ρ=>(ma ρ).bind fun p=>(f p.1).map fun d=>(d,p.2)
theorem Dk {f:List D->Option (List D)}{d:List D}(h:oC f ma ρ=some (d,ρ')):∃a,ma ρ=some (a,ρ')/\f a=some d:=by
 unfold oC at h;cases e1:ma ρ with
 |none=>rw[e1]at h;exact aM h
 |some p=>
  obtain⟨a,ρ1⟩:=p;rw[e1]at h;simp only[kA]at h;cases e3:f a with
  |none=>rw[e3]at h;exact aM h
  |some c=>rw[e3]at h;obtain⟨rfl,rfl⟩:=bT h;exact⟨a,rfl,e3⟩
theorem SI.newO (I:SI K B G H σ ρ){p:Addr}(hp:H p=none)(xs:List V):SI K B G (upd H p (.lst xs)) σ ρ/\G p=none/\(upd H p (.lst xs)) p=some (.lst xs)/\B.H p=none/\Nw K G (upd H p (.lst xs)) σ ρ p:=
 ⟨I.allocO hp _,I.fz.free hp,gK,I.there p hp,I.nw_move (I.nw hp) fun i s a _ _ g h=>⟨g,cF fun z=>h (by rw[z];exact hp)⟩⟩
theorem Xj (ml:X.mg "list"=none)(ha:SA X [e] ma)(hg:autoParam (Gl X "list") zu3._auto_1)(he:autoParam (starEach [e] X.env=(false,eval e X.env)::starEach [] X.env) zu3._auto_1)(hb:autoParam (bootBuiltins "list"=some (.type "list")) zu8._auto_1):
  SO X (.Call (.Name "list" p) [e] [] pos) (oC dM ma):=by
 refine ha.el fun t pa sa=>?_
 refine⟨_,znF znN hg ml hb pa (by decide) (by decide) he rfl,fun B G H σ ρ ds ρ' Q I hm k=>?_⟩;obtain⟨as,e1,e2⟩:=Dk hm;refine sa B G H σ ρ as ρ' _ I e1 fun G1 H1 vs I1 f1 r1=>?_
 match as,e2 with
 |[a],e2=>
  obtain⟨x,rfl,ra⟩:=r1.one;have fin:∀(q:Addr) (ys:List V) (sq:SqL X.K H1 q ys\/SqT X.K H1 q ys),x= .ref q->RepL X.K G1 ys ds->∃p ys,[x]=[V.ref p]/\(SqL X.K H1 p ys\/SqT X.K H1 p ys)/\∀l,H1 l=none->Q (.ref l) (upd H1 l (.lst ys)):=fun q ys sq ex r=>by
   refine⟨q,ys,by rw[ex],sq,fun l hl=>?_⟩;obtain⟨I2,g2,h2,b2,n2⟩:=I1.newO hl ys;exact k G1 _ l ys I2 f1 g2 h2 r b2 n2
  cases a<;>simp only[dM]at e2<;>try cases e2
  ·obtain⟨p,ys,ex,hp,q⟩:=I1.lst ra;exact fin p ys (.inl (SqL.of hp)) ex q
  ·obtain⟨p,ys,ex,hp,q⟩:=I1.tup ra;exact fin p ys (.inr (SqT.of hp)) ex q
  ·obtain⟨p,ex,hp⟩:=ra;exact fin p _ (.inl (I1.fz.sql hp)) ex (RepL.ints _)
 |[],e2=>exact aM e2
 |_::_::_,e2=>simp[dM]at e2
section
variable {X:Cx} {es:List Expr} {ma:MA} {pos:Pos}
noncomputable def aY (ma:MA):ME:=fun ρ=>(ma ρ).bind fun p=>if p.1.length<=16777216 then some (.tup p.1,p.2)else none
theorem cJ {x1}(h:SA X es ma):SE X (.Tuple es x1 pos) (aY ma):=by
 refine h.el fun t pa sa=>?_
 refine⟨_,Er pa,fun B G H σ ρ d ρ' Q I hm k=>?_⟩;unfold aY at hm;cases e1:ma ρ with
 |none=>rw[e1]at hm;exact aM hm
 |some q=>
  obtain⟨ds,ρ1⟩:=q;rw[e1]at hm;simp only[kA]at hm;refine bJ hm fun hl hm=>?_
  ·skip
   cases hm;refine sa B G H σ ρ ds ρ' _ I e1 fun G1 H1 vs I1 f1 r1=>⟨by rw[r1.length,iL];exact hl,fun p hp=>?_⟩
   obtain⟨I2,f2,r2⟩:=I1.newT hp r1;exact k _ _ _ I2 (f1.trans f2) r2
noncomputable def dC (ma:MA):MO:=fun ρ=>(ma ρ).bind fun p=>if p.1.length<=16777216 then some (p.1,p.2)else none
theorem jE (h:SA X es ma):SO X (.List es pos) (dC ma):=by
 refine h.el fun t pa sa=>?_
 refine⟨_,sD pa,fun B G H σ ρ d ρ' Q I hm k=>?_⟩;unfold dC at hm;cases e1:ma ρ with
 |none=>rw[e1]at hm;exact aM hm
 |some q=>
  obtain⟨ds,ρ1⟩:=q;rw[e1]at hm;simp only[kA]at hm;refine bJ hm fun hl hm=>?_
  ·skip
   cases hm;refine sa B G H σ ρ _ ρ' _ I e1 fun G1 H1 vs I1 f1 r1=>⟨by rw[r1.length,iL];exact hl,fun p hp=>?_⟩
   obtain⟨I2,g2,h2,b2,n2⟩:=I1.newO hp vs;exact k G1 _ p vs I2 f1 g2 h2 r1 b2 n2
end
theorem zoQ {α β:Type}{o:Option α}{f:α->Option β}{b:β}(h:o.bind f=some b):∃a,o=some a/\f a=some b:=by
 cases o with
 |none=>exact aM h
 |some a=>exact⟨a,rfl,h⟩
theorem zol {α β:Type}{o:Option α}{f:α->β}{b:β}(h:o.map f=some b):∃a,o=some a/\f a=b:=by
 cases o with
 |none=>exact aM h
 |some a=>cases h;exact⟨a,rfl,rfl⟩
noncomputable def wH:D->Option Bool
 | .bl b=>some b
 | .int i=>some (i !=0)
 | .non=>some false
 | .lst ds=>some (!ds.isEmpty)
 | .tup ds=>some (!ds.isEmpty)
 |_=>none
noncomputable def aQ (ma:ME):MT:=fun ρ=>(ma ρ).bind fun p=>(wH p.1).map fun b=>(b,p.2)
section
variable {X:Cx} {a b c:Expr} {ma mb mc:ME} {pos:Pos}
theorem zq8 (h:RepL K G xs ds):(!xs.isEmpty)=!ds.isEmpty:=by
 have:=h.length;cases xs<;>cases ds<;>simp_all
theorem Ey (ha:SE X a ma)(he:autoParam (∀whole,isTrue a X.env whole=(do let v<-whole;standAt a.pos;holding [v] (truthy v))) zu9._auto_1):STt X a (aQ ma):=by
  refine ha.el fun ta pa sa=>?_
  refine⟨_,nK pa he,fun B G H σ ρ d ρ' Q I hm k=>?_⟩;refine bP hm fun x ρ1 e1 e2=>?_
  refine cW e2 fun t e3 e4=>?_
  obtain⟨rfl,rfl⟩:=Prod.mk.inj e4;refine sa B G H σ ρ x ρ1 _ I e1 fun G1 H1 v I1 f1 r1=>⟨t,?_,k G1 H1 I1 f1⟩
  cases x<;>simp only[wH]at e3<;>try cases e3
  . cases r1;exact rfl
  . cases r1;exact rfl
  . cases r1;exact rfl
  . obtain⟨p,xs,rfl,hp,r⟩:=I1.lst r1
    exact .inl ⟨xs,SqL.of hp,(zq8 r).symm⟩
  . obtain⟨p,xs,rfl,hp,r⟩:=I1.tup r1
    exact .inr (.inl ⟨xs,SqT.of hp,(zq8 r).symm⟩)
theorem Ay {r:R2}(ho:OpR X (compareOp op) r)(hv:V2 X r f)(hB:∀x y d,f x y=some d->∃t,d= .bl t)(ha:SE X a ma)(hb:SE X b mb)(hm:behindInMarks op b=false):STt X (.Compare a [op] [b] pos) (aQ (m2 f ma mb)):=by
 refine ha.el fun ta pa sa=>?_
 refine hb.el fun tb pb sb=>?_
 refine⟨_,zA ho pa pb hm,fun B G H σ ρ d ρ' Q I hm k=>?_⟩;refine bP hm fun x ρ1 e1 e2=>?_
 refine cW e2 fun t e3 e4=>?_
 obtain⟨rfl,rfl⟩:=Prod.mk.inj e4;obtain⟨_,_,_,_,_,e5⟩:=qR e1;obtain⟨t',rfl⟩:=hB _ _ _ e5;obtain rfl:t'=t:=Option.some.inj e3;refine Vx hv sa sb B G H σ ρ (.bl t') ρ1 _ I e1 fun G1 H1 v I1 f1 r1=>?_
 cases(show v=V.bl t' from r1);exact⟨t',rfl,k G1 H1 I1 f1⟩
theorem xV {g:Int->Int->Bool}(x y d:D)(h:kZ (fun _ _=>true) (fun i j=> .bl (g i j)) x y=some d):∃t,d= .bl t:=Uj h fun _ _ _ _ _ e=>⟨_,e.symm⟩
theorem Nh (x y d:D)(h:bY x y=some d):∃t,d= .bl t:=by
 unfold bY at h
 split at h
 ·cases h;exact⟨_,rfl⟩
 ·exact aM h
theorem Se (x y d:D)(h:fU x y=some d):∃t,d= .bl t:=by
 unfold fU at h
 split at h
 ·cases h;exact⟨_,rfl⟩
 ·exact aM h
theorem xQ (ha:SE X a ma)(hb:SE X b mb):STt X (.Compare a [.Lt] [b] pos) (aQ (m2 fV ma mb)):=Ay mH eQ xV ha hb (tN _)
theorem Ar (ha:SE X a ma)(hb:SE X b mb):STt X (.Compare a [.Gt] [b] pos) (aQ (m2 iY ma mb)):=Ay Bl eQ xV ha hb (tN _)
theorem Ak (ha:SE X a ma)(hb:SE X b mb):STt X (.Compare a [.GtE] [b] pos) (aQ (m2 Us ma mb)):=Ay Oq eQ xV ha hb (tN _)
theorem fF (hu:X.A.units+64<cLine)(ha:SE X a ma)(hb:SE X b mb):STt X (.Compare a [.Eq] [b] pos) (aQ (m2 bY ma mb)):=Ay (qG hu) Qt Nh ha hb (tN _)
theorem qL (hu:X.A.units+64<cLine)(ha:SE X a ma)(hb:SE X b mb):STt X (.Compare a [.NotEq] [b] pos) (aQ (m2 fU ma mb)):=Ay (rN hu) Bw Se ha hb (tN _)
end
noncomputable def Qs (X:Cx)(e:Expr)(m:MT)(t:TT):Prop:=∀B G H σ ρ d ρ' (Q:Bool->Hp->Prop),SI X.K B G H σ ρ->m ρ=some (d,ρ')->(∀G' H',SI X.K B G' H' σ ρ'->Fz G G'->Q d H')->t σ H Q
noncomputable def STw (X:Cx)(e:Expr)(m:MT):Prop:=∃t,PW X e t/\Qs X e m t
theorem STw.el {m:MT}(h:STw X e m)(k:∀t,PW X e t->Qs X e m t->C):C:=h.elim fun t q=>k t q.1 q.2
theorem STw.st {m:MT}(h:STw X e m):STt X e m:=h.el fun t p s=>⟨t,p.pt,s⟩
noncomputable def Bv (a b:MT):MT:=fun ρ=>(a ρ).bind fun p=>if p.1 then b p.2 else some (false,p.2)
noncomputable def fE (a b:MT):MT:=fun ρ=>(a ρ).bind fun p=>if p.1 then some (true,p.2)else b p.2
noncomputable def lP (a:MT):MT:=fun ρ=>(a ρ).map fun p=>(!p.1,p.2)
section
variable {X:Cx} {a b c:Expr} {ma mb:MT} {pos:Pos} {rest:List Expr}
theorem Pm (h:STt X a ma):STw X (.BoolOp .And [a] pos) ma:=h.el fun t p s=>⟨t,uP p,s⟩
theorem Lp (h:STt X a ma):STw X (.BoolOp .Or [a] pos) ma:=h.el fun t p s=>⟨t,Jj p,s⟩
theorem Re (ha:STt X a ma)(hb:STw X (.BoolOp .And (b::rest) pos) mb):STw X (.BoolOp .And (a::b::rest) pos) (Bv ma mb):=by
 refine ha.el fun ta pa sa=>?_
 refine hb.el fun tb pb sb=>?_
 refine⟨_,Hu pa pb,fun B G H σ ρ d ρ' Q I hm k=>?_⟩;refine bP hm fun x ρ1 e1 e2=>?_
 refine sa B G H σ ρ x ρ1 _ I e1 fun G1 H1 I1 f1=>?_
 cases x with
 |true=>exact sb B G1 H1 σ ρ1 d ρ' Q I1 e2 fun G2 H2 I2 f2=>k G2 H2 I2 (f1.trans f2)
 |false=>obtain⟨rfl,rfl⟩:=bT e2;exact k G1 H1 I1 f1
theorem tP (ha:STt X a ma)(hb:STw X (.BoolOp .Or (b::rest) pos) mb):STw X (.BoolOp .Or (a::b::rest) pos) (fE ma mb):=by
 refine ha.el fun ta pa sa=>?_
 refine hb.el fun tb pb sb=>?_
 refine⟨_,Nn pa pb,fun B G H σ ρ d ρ' Q I hm k=>?_⟩;refine bP hm fun x ρ1 e1 e2=>?_
 refine sa B G H σ ρ x ρ1 _ I e1 fun G1 H1 I1 f1=>?_
 cases x with
 |false=>exact sb B G1 H1 σ ρ1 d ρ' Q I1 e2 fun G2 H2 I2 f2=>k G2 H2 I2 (f1.trans f2)
 |true=>obtain⟨rfl,rfl⟩:=bT e2;exact k G1 H1 I1 f1
theorem rD (ha:STt X a ma):STt X (.UnaryOp .Not a pos) (lP ma):=by
 refine ha.el fun ta pa sa=>?_
 refine⟨_,Hh pa,fun B G H σ ρ d ρ' Q I hm k=>?_⟩;refine iJ hm fun x ρ1 e1 e2=>?_
 cases e2;exact sa B G H σ ρ x ρ1 _ I e1 fun G1 H1 I1 f1=>k G1 H1 I1 f1
end
noncomputable def fB (a b:ME):ME:=fun ρ=>(a ρ).bind fun p=>match p.1 with
 | .bl true=>b p.2
 | .bl false=>some (.bl false,p.2)
 |_=>none
noncomputable def eOr (a b:ME):ME:=fun ρ=>(a ρ).bind fun p=>match p.1 with
 | .bl true=>some (.bl true,p.2)
 | .bl false=>b p.2
 |_=>none
noncomputable def sU:D->Option D
 | .bl b=>some (.bl (!b))
 |_=>none
section
variable {X:Cx} {a b c:Expr} {ma mb:ME} {pos:Pos} {rest:List Expr} {op:BoolOp}
theorem tE (h:SE X a ma):SE X (.BoolOp op [a] pos) ma:=h.el fun t p s=>⟨t,Kh p,s⟩
theorem tU (ha:SE X a ma)(hb:SE X (.BoolOp .And (b::rest) pos) mb):SE X (.BoolOp .And (a::b::rest) pos) (fB ma mb):=by
 refine ha.el fun ta pa sa=>?_
 refine hb.el fun tb pb sb=>?_
 refine⟨_,Jr pa pb,fun B G H σ ρ d ρ' Q I hm k=>?_⟩;refine bP hm fun x ρ1 e1 e2=>?_
 refine sa B G H σ ρ x ρ1 _ I e1 fun G1 H1 v I1 f1 r1=>?_
 cases x<;>try exact aM e2
 rename_i y;refine⟨y,r1,?_⟩;cases y with
 |true=>exact sb B G1 H1 σ ρ1 d ρ' Q I1 e2 fun G2 H2 v I2 f2 r2=>k G2 H2 v I2 (f1.trans f2) r2
 |false=>obtain⟨rfl,rfl⟩:=bT e2;exact k G1 H1 _ I1 f1 rfl
theorem oV (ha:SE X a ma):SE X (.UnaryOp .Not a pos) (m1 sU ma):=by
 refine ha.el fun ta pa sa=>?_
 refine⟨_,Gr pa,fun B G H σ ρ d ρ' Q I hm k=>?_⟩;obtain⟨x,e1,e2⟩:=qD hm;refine sa B G H σ ρ x ρ' _ I e1 fun G1 H1 v I1 f1 r1=>?_
 cases x<;>simp only[sU]at e2<;>try cases e2
 exact⟨_,r1,k G1 H1 _ I1 f1 rfl⟩
noncomputable def Xf (c:MT)(a b:ME):ME:=fun ρ=>(c ρ).bind fun p=>if p.1 then a p.2 else b p.2
theorem pI (hc:STt X c mc)(ha:SE X a ma)(hb:SE X b mb):SE X (.IfExp c a b pos) (Xf mc ma mb):=by
 refine hc.el fun tc pc sc=>?_
 refine ha.el fun ta pa sa=>?_
 refine hb.el fun tb pb sb=>?_
 refine⟨_,sP pc pa pb,fun B G H σ ρ d ρ' Q I hm k=>?_⟩;refine bP hm fun x ρ1 e1 e2=>?_
 refine sc B G H σ ρ x ρ1 _ I e1 fun G1 H1 I1 f1=>?_
 cases x with
 |true=>exact sa B G1 H1 σ ρ1 d ρ' Q I1 e2 fun G2 H2 v I2 f2 r2=>k G2 H2 v I2 (f1.trans f2) r2
 |false=>exact sb B G1 H1 σ ρ1 d ρ' Q I1 e2 fun G2 H2 v I2 f2 r2=>k G2 H2 v I2 (f1.trans f2) r2
end
noncomputable def iZ (f g:D->D->Option D)(a b c:ME):ME:=fun ρ=>(a ρ).bind fun p=>(b p.2).bind fun q=>(f p.1 q.1).bind fun t=>match t with
 | .bl true=>(c q.2).bind fun r=>(g q.1 r.1).map fun d=>(d,r.2)
 | .bl false=>some (.bl false,q.2)
 |_=>none
section
variable {X:Cx} {a b c:Expr} {ma mb mc:ME} {pos:Pos}
theorem zkH {r r':R2}{f g:D->D->Option D}{ta tb tc:TE}(hv:V2 X r f)(hw:V2 X r' g)
  (sa:∀B G H σ ρ d ρ' (Q:VK),SI X.K B G H σ ρ->ma ρ=some (d,ρ')->(∀G' H' v,SI X.K B G' H' σ ρ'->Fz G G'->RepD X.K G' v d->Q v H')->ta σ H Q)
  (sb:∀B G H σ ρ d ρ' (Q:VK),SI X.K B G H σ ρ->mb ρ=some (d,ρ')->(∀G' H' v,SI X.K B G' H' σ ρ'->Fz G G'->RepD X.K G' v d->Q v H')->tb σ H Q)
  (sc:∀B G H σ ρ d ρ' (Q:VK),SI X.K B G H σ ρ->mc ρ=some (d,ρ')->(∀G' H' v,SI X.K B G' H' σ ρ'->Fz G G'->RepD X.K G' v d->Q v H')->tc σ H Q):
  ∀B G H σ ρ d ρ' (Q:VK),SI X.K B G H σ ρ->iZ f g ma mb mc ρ=some (d,ρ')->(∀G' H' v,SI X.K B G' H' σ ρ'->Fz G G'->RepD X.K G' v d->Q v H')->zqE r r' ta tb tc σ H Q:=by
 intro B G H σ ρ d ρ' Q I hm k;refine bP hm fun x ρ1 e1 h1=>?_
 refine bP h1 fun y ρ2 e2 h2=>?_
 refine bA h2 fun t e3 h3=>?_
 refine sa B G H σ ρ x ρ1 _ I e1 fun G1 H1 v I1 f1 r1=>sb B G1 H1 σ ρ1 y ρ2 _ I1 e2 fun G2 H2 u I2 f2 r2=>hv B G2 H2 σ ρ2 v u x y t _ I2 (r1.mono f2) r2 e3 fun G3 H3 z I3 f3 r3=>?_
 cases t<;>try exact aM h3
 rename_i t;refine⟨t,r3,?_⟩;cases t with
 |true=>
  refine bP h3 fun w ρ3 e4 h4=>?_
  refine cW h4 fun d' e5 e6=>?_
  cases e6;exact sc B G3 H3 σ ρ2 w ρ3 _ I3 e4 fun G4 H4 s I4 f4 r4=>hw B G4 H4 σ ρ3 u s y w d Q I4 (r2.mono (f3.trans f4)) r4 e5 fun G5 H5 z5 I5 f5 r5=>k G5 H5 z5 I5 (f1.trans (f2.trans (f3.trans (f4.trans f5)))) r5
 |false=>obtain⟨rfl,rfl⟩:=bT h3;exact k G3 H3 _ I3 (f1.trans (f2.trans f3)) rfl
theorem Kp {r r':R2}{f g:D->D->Option D}(ho:OpR X (compareOp op) r)(ho':OpR X (compareOp op') r')(hv:V2 X r f)(hw:V2 X r' g)(ha:SE X a ma)(hb:SE X b mb)(hc:SE X c mc)
  (hm:autoParam (lastMarks [op,op'] [b,c]=false) zu5._auto_1):SE X (.Compare a [op,op'] [b,c] pos) (iZ f g ma mb mc):=by
 refine ha.el fun ta pa sa=>?_
 refine hb.el fun tb pb sb=>?_
 refine hc.el fun tc pc sc=>?_
 exact⟨_,sW ho ho' pa pb pc hm,zkH hv hw sa sb sc⟩
theorem Mf {r r':R2}{f g:D->D->Option D}(ho:OpR X (compareOp op) r)(ho':OpR X (compareOp op') r')(hv:V2 X r f)(hw:V2 X r' g)(hB:∀x y d,g x y=some d->∃t,d= .bl t)(ha:SE X a ma)(hb:SE X b mb)(hc:SE X c mc)
  (hm:autoParam (lastMarks [op,op'] [b,c]=false) zu5._auto_1):STt X (.Compare a [op,op'] [b,c] pos) (aQ (iZ f g ma mb mc)):=by
 refine ha.el fun ta pa sa=>?_
 refine hb.el fun tb pb sb=>?_
 refine hc.el fun tc pc sc=>?_
 refine⟨_,qB ho ho' pa pb pc hm,fun B G H σ ρ d ρ' Q I hm k=>?_⟩;refine bP hm fun x ρ1 e1 e2=>?_
 refine cW e2 fun t e3 e4=>?_
 obtain⟨rfl,rfl⟩:=Prod.mk.inj e4;have hx:∃t',x= .bl t':=by
  refine bP e1 fun x' ρ1' _ h1=>?_
  refine bP h1 fun y' ρ2' _ h2=>?_
  refine bA h2 fun t' et' h3=>?_
  clear et';cases t'<;>try exact aM h3
  rename_i t';cases t' with
  |true=>
   refine bP h3 fun w ρ3 e4 h4=>?_
   refine cW h4 fun d' e5 e6=>?_
   cases e6;exact hB _ _ _ e5
  |false=>obtain⟨rfl,rfl⟩:=bT h3;exact⟨_,rfl⟩
 obtain⟨t',rfl⟩:=hx;obtain rfl:t'=t:=Option.some.inj e3;refine zkH hv hw sa sb sc B G H σ ρ (.bl t') ρ1 _ I e1 fun G1 H1 v I1 f1 r1=>?_
 cases(show v=V.bl t' from r1);exact⟨t',rfl,k G1 H1 I1 f1⟩
end
inductive Fl where
 |next|brk|cont|ret (r:Sl)
noncomputable abbrev MS:=R->Option (Fl×R)
noncomputable def Ph (K:W.Frag)(B:Bs)(G H:Hp)(v:V):Sl->Prop
 | .val d=>RepD K G v d
 | .own ds=>∃l xs,v= .ref l/\G l=none/\H l=some (.lst xs)/\RepL K G xs ds/\B.H l=none
 | .tre t=>∃A,RepT K G H v t A/\A.Nodup/\∀a∈A,G a=none/\B.H a=none
 | .two ds es=>∃t l xs m ys,v= .ref t/\H t=some (.tup [.ref l,.ref m])/\l≠m/\G l=none/\H l=some (.lst xs)/\RepL K G xs ds/\B.H l=none/\G m=none/\H m=some (.lst ys)/\RepL K G ys es/\B.H m=none
 |_=>False
noncomputable def Post (K:W.Frag)(B:Bs)(G:Hp)(E:Ends)(fl:Fl)(ρ':R):Prop:=match fl with
 | .next=>∀G' H' σ',SI K B G' H' σ' ρ'->Fz G G'->E.nx σ' H'
 | .brk=>∀G' H' σ',SI K B G' H' σ' ρ'->Fz G G'->E.bk σ' H'
 | .cont=>∀G' H' σ',SI K B G' H' σ' ρ'->Fz G G'->E.ct σ' H'
 | .ret r=>∀G' H' σ' v,SI K B G' H' σ' ρ'->Fz G G'->Ph K B G' H' v r->E.rt v H'
theorem Post.mono {G G1:Hp}{E:Ends}{fl:Fl}(h:Post K B G E fl ρ')(f:Fz G G1):Post K B G1 E fl ρ':=by
 cases fl with
 |next=>exact fun G' H' σ' I g=>h G' H' σ' I (f.trans g)
 |brk=>exact fun G' H' σ' I g=>h G' H' σ' I (f.trans g)
 |cont=>exact fun G' H' σ' I g=>h G' H' σ' I (f.trans g)
 |ret r=>exact fun G' H' σ' v I g=>h G' H' σ' v I (f.trans g)
noncomputable def SSb (X:Cx)(st:Stmt)(m:MS)(t:TS):Prop:=∀B G H σ ρ fl ρ' (E:Ends),SI X.K B G H σ ρ->m ρ=some (fl,ρ')->Post X.K B G E fl ρ'->t E σ H
noncomputable def SS (X:Cx)(st:Stmt)(m:MS):Prop:=∃t,PS X st t/\SSb X st m t
theorem SS.el {st:Stmt}(h:SS X st m)(k:∀t,PS X st t->SSb X st m t->C):C:=h.elim fun t q=>k t q.1 q.2
noncomputable def Qc (X:Cx)(st:List Stmt)(m:MS)(t:TS):Prop:=∀B G H σ ρ fl ρ' (E:Ends),SI X.K B G H σ ρ->m ρ=some (fl,ρ')->Post X.K B G E fl ρ'->t E σ H
noncomputable def SSs (X:Cx)(st:List Stmt)(m:MS):Prop:=∃t,PSs X st t/\Qc X st m t
theorem SSs.el {st:List Stmt}(h:SSs X st m)(k:∀t,PSs X st t->Qc X st m t->C):C:=h.elim fun t q=>k t q.1 q.2
noncomputable def bZ:MS:=fun ρ=>some (.next,ρ)
noncomputable def aF (a b:MS):MS:=fun ρ=>(a ρ).bind fun p=>match p.1 with
 | .next=>b p.2
 |f=>some (f,p.2)
section
variable {X:Cx} {st:Stmt} {rest:List Stmt} {m n:MS} {e:Expr} {me:ME} {pos:Pos}
theorem cD:SSs X [] bZ:=⟨_,zC,fun B G H σ ρ fl ρ' E I hm k=>by obtain⟨rfl,rfl⟩:=bT hm;exact k G H σ I (Fz.refl G)⟩
theorem aU (h:SS X st m):SSs X [st] m:=h.el fun t p s=>⟨t,yU p,s⟩
theorem aO (h:SS X st m)(hr:SSs X rest n):SSs X (st::rest) (aF m n):=by
 refine h.el fun t p s=>?_
 refine hr.el fun u q z=>?_
 refine⟨_,zo0 p q,fun B G H σ ρ fl ρ' E I hm k=>?_⟩;refine bP hm fun f ρ1 e1 e2=>?_
 refine s B G H σ ρ f ρ1 _ I e1 ?_;cases f with
 |next=>exact fun G1 H1 σ1 I1 f1=>z B G1 H1 σ1 ρ1 fl ρ' E I1 e2 (k.mono f1)
 |brk=>obtain⟨rfl,rfl⟩:=bT e2;exact k
 |cont=>obtain⟨rfl,rfl⟩:=bT e2;exact k
 |ret r=>obtain⟨rfl,rfl⟩:=bT e2;exact k
noncomputable def sL (m:ME):MS:=fun ρ=>(m ρ).map fun p=>(.next,p.2)
theorem zT (h:SE X e me)(hs:autoParam (swapsWith e none pos.line X.env=pure false) zu3._auto_1):SS X (.Expr e pos) (sL me):=by
 refine h.el fun t p s=>?_
 refine⟨_,Zb p hs,fun B G H σ ρ fl ρ' E I hm k=>?_⟩;refine iJ hm fun d ρ1 e1 e2=>?_
 cases e2;exact s B G H σ ρ d ρ1 _ I e1 fun G1 H1 v I1 f1 _=>k G1 H1 σ I1 f1
noncomputable def aR (m:ME):MS:=fun ρ=>(m ρ).map fun p=>(.ret (.val p.1),p.2)
theorem bL (h:SE X e me):SS X (.Return (some e) pos) (aR me):=by
 refine h.el fun t p s=>?_
 refine⟨_,Xo p,fun B G H σ ρ fl ρ' E I hm k=>?_⟩;refine iJ hm fun d ρ1 e1 e2=>?_
 cases e2;exact s B G H σ ρ d ρ1 _ I e1 fun G1 H1 v I1 f1 r1=>k G1 H1 σ v I1 f1 r1
noncomputable def zL (m:MO):MS:=fun ρ=>(m ρ).map fun p=>(.ret (.own p.1),p.2)
theorem Ip {mo:MO}(h:SO X e mo):SS X (.Return (some e) pos) (zL mo):=by
 refine h.el fun t p s=>?_
 refine⟨_,Xo p,fun B G H σ ρ fl ρ' E I hm k=>?_⟩;refine iJ hm fun d ρ1 e1 e2=>?_
 cases e2;exact s B G H σ ρ d ρ1 _ I e1 fun G1 H1 l xs I1 f1 g1 h1 r1 b1 _=>k G1 H1 σ _ I1 f1 ⟨l,xs,rfl,g1,h1,r1,b1⟩
theorem SI.emp (I:SI K B G H σ ρ)(i:Nat):SI K B G H σ (ρ.set i .emp):=by
 by_cases hi:i<ρ.length
 ·have hs:σ[i]? =some (σ[i]'(by rw[I.len];exact hi)):=cG _;have h:=I.chg (i:=i) (ov:=σ[i]'(by rw[I.len];exact hi)) (s':= .emp) I.fz (Fz.refl G) I.new I.keep I.there (fun _ _ _ _ _ _ g _=>⟨g,rfl,id⟩) trivial;rwa[Ld hs]at h
 ·rw[List.set_eq_of_length_le (by lia)];exact I
noncomputable def kB (i:Nat):MS:=fun ρ=>match ρ[i]? with
 |some (.val d)=>some (.ret (.val d),ρ)
 |some (.own ds)=>some (.ret (.own ds),ρ.set i .emp)
 |_=>none
theorem mI (i:Nat)(hN:autoParam (X.N[i]? =some x) zu3._auto_1)(hv:autoParam (iA X.env.scope x) zu6._auto_1)(hd:autoParam ((x==("__debug__":Str))=false) zu1._auto_1)
  (hcd:autoParam ((x==("__classdict__":Str))=false) zu1._auto_1):SS X (.Return (some (.Name x pos')) pos) (kB i):=by
 refine⟨_,Xo (jG hN hv hd hcd),fun B G H σ ρ fl ρ' E I hm k=>?_⟩;unfold kB at hm;cases e:ρ[i]? with
 |none=>rw[e]at hm;exact aM hm
 |some s=>
  rw[e]at hm;have h:=I.slot i s e;cases s with
  |emp=>exact aM hm
  |two _ _=>exact aM hm
  |tre _=>exact aM hm
  |ptr _=>exact aM hm
  |par ds=>exact aM hm
  |val d=>obtain⟨rfl,rfl⟩:=bT hm;obtain⟨v,h1,h2⟩:=h;exact⟨v,h1,k G H σ v I (Fz.refl G) h2⟩
  |own ds=>
   obtain⟨rfl,rfl⟩:=bT hm;obtain⟨l,xs,h1,h2,h3,h4,h5⟩:=h;exact⟨.ref l,h1,k G H σ _ (I.emp i) (Fz.refl G) ⟨l,xs,rfl,h2,h3,h4,h5⟩⟩
noncomputable def bW (c:MT)(a b:MS):MS:=fun ρ=>(c ρ).bind fun p=>if p.1 then a p.2 else b p.2
theorem cA {c:Expr}{a b:List Stmt}{ma mb:MS}(hc:STt X c mc)(ha:SSs X a ma)(hb:SSs X b mb):SS X (.If c a b pos) (bW mc ma mb):=by
 refine hc.el fun tc pc sc=>?_
 refine ha.el fun ta pa sa=>?_
 refine hb.el fun tb pb sb=>?_
 refine⟨_,Cd pc pa pb,fun B G H σ ρ fl ρ' E I hm k=>?_⟩;refine bP hm fun x ρ1 e1 e2=>?_
 refine sc B G H σ ρ x ρ1 _ I e1 fun G1 H1 I1 f1=>?_
 cases x with
 |true=>exact sa B G1 H1 σ ρ1 fl ρ' E I1 e2 (k.mono f1)
 |false=>exact sb B G1 H1 σ ρ1 fl ρ' E I1 e2 (k.mono f1)
end
noncomputable def Xy (X:Cx)(tg:Expr)(g:D->R->Option R)(t:TG):Prop:=∀B G H σ ρ v d ρ' (Q:St->Hp->Prop),SI X.K B G H σ ρ->RepD X.K G v d->g d ρ=some ρ'->(∀G' H' σ',SI X.K B G' H' σ' ρ'->Fz G G'->Q σ' H')->t v σ H Q
noncomputable def SG (X:Cx)(tg:Expr)(g:D->R->Option R):Prop:=∃t,PG X tg t/\Xy X tg g t
theorem SG.el (h:SG X tg g)(k:∀t,PG X tg t->Xy X tg g t->C):C:=h.elim fun t q=>k t q.1 q.2
noncomputable def Qo (X:Cx)(tgs:List Expr)(g:List D->R->Option R)(t:nO):Prop:=∀B G H σ ρ vs ds ρ' (Q:St->Hp->Prop),SI X.K B G H σ ρ->RepL X.K G vs ds->g ds ρ=some ρ'->(∀G' H' σ',SI X.K B G' H' σ' ρ'->Fz G G'->Q σ' H')->t vs σ H Q
noncomputable def SGs (X:Cx)(tgs:List Expr)(g:List D->R->Option R):Prop:=∃t,Bu X tgs t/\Qo X tgs g t
theorem SGs.el {g:List D->R->Option R}(h:SGs X tgs g)(k:∀t,Bu X tgs t->Qo X tgs g t->C):C:=h.elim fun t q=>k t q.1 q.2
noncomputable def gN (i:Nat):D->R->Option R:=fun d ρ=>some (ρ.set i (.val d))
noncomputable def fG:List D->R->Option R:=fun ds ρ=>match ds with
 |[]=>some ρ
 |_=>none
noncomputable def bX (g:D->R->Option R)(h:List D->R->Option R):List D->R->Option R:=fun ds ρ=>match ds with
 |d::ds=>(g d ρ).bind fun ρ1=>h ds ρ1
 |[]=>none
noncomputable def gT (n:Nat)(g:List D->R->Option R):D->R->Option R:=fun d ρ=>match d with
 | .tup ds=>if ds.length=n then g ds ρ else none
 |_=>none
section
variable {X:Cx} {pos:Pos}
theorem bB (i:Nat)(hN:X.N.Nodup)(hi:autoParam (X.N[i]? =some x) zu3._auto_1)(hx:autoParam (iP X.env.scope x) zu6._auto_1)(hf:autoParam (X.fn x=true\/X.env.scope.names.lookup x=some .local) zu6._auto_1):SG X (.Name x pos) (gN i):=
 ⟨_,zoi hN hi hx hf,fun B G H σ ρ v d ρ' Q I r hm k=>by cases hm;exact k G H _ (I.set r) (Fz.refl G)⟩
theorem gB:SGs X [] fG:=⟨_,zp6,fun B G H σ ρ vs ds ρ' Q I r hm k=>by
 cases ds with
 |nil=>cases hm;exact⟨r,k G H σ I (Fz.refl G)⟩
 |cons=>exact aM hm⟩
theorem cB {e:Expr}(h1:SG X e g)(h2:SGs X es h)(hs:autoParam ((assignEach (e::es) X.env).map (·.2)=assign e X.env::(assignEach es X.env).map (·.2)) zu3._auto_1):SGs X (e::es) (bX g h):=by
 refine h1.el fun t p s=>?_
 refine h2.el fun u q z=>?_
 refine⟨_,zpl p q hs,fun B G H σ ρ vs ds ρ' Q I r hm k=>?_⟩;cases ds with
 |nil=>exact aM hm
 |cons d ds=>
  obtain⟨x,ys,rfl,rx,ry⟩:=r;refine bA hm fun ρ1 e1 e2=>?_
  exact⟨x,ys,rfl,s B G H σ ρ x d ρ1 _ I rx e1 fun G1 H1 σ1 I1 f1=>z B G1 H1 σ1 ρ1 ys ds ρ' Q I1 (ry.mono f1) e2 fun G2 H2 σ2 I2 f2=>k G2 H2 σ2 I2 (f1.trans f2)⟩
theorem fZ {k:Nat}{g:List D->R->Option R}(hc:X.calm=true)(h:SGs X es g)(hn:autoParam ((assignEach es X.env).length=n) zu3._auto_1)(hst:autoParam ((assignEach es X.env).findIdx? (·.1)=none) zu3._auto_1):SG X (.Tuple es k pos) (gT n g):=by
 refine h.el fun t p s=>?_
 refine⟨_,Js hc p hn hst,fun B G H σ ρ v d ρ' Q I r hm k=>?_⟩;cases d<;>try exact aM hm
 rename_i ds;simp only[gT]at hm;refine bJ hm fun hl hm=>?_
 ·skip
  obtain⟨a,xs,e,ha,rx⟩:=I.tup r;exact⟨a,xs,e,SqT.of ha,by rw[rx.length];exact hl,s B G H σ ρ xs ds ρ' Q I rx hm k⟩
variable {e tg:Expr} {me:ME} {mo:MO}
noncomputable def gX (m:ME)(g:D->R->Option R):MS:=fun ρ=>(m ρ).bind fun p=>(g p.1 p.2).map fun ρ'=>(.next,ρ')
theorem Cg (he:SE X e me)(hg:SG X tg g)(hs:autoParam (swapsWithSole [tg] e pos.line X.env=pure false) zu3._auto_1)(hw:autoParam (swappedStores [tg] e X.env=pure none) zu3._auto_1)
  (h1:autoParam ((assignEach [tg] X.env).map (·.2)=[assign tg X.env]) zu3._auto_1):SS X (.Assign [tg] e pos) (gX me g):=by
 refine he.el fun t p s=>?_
 refine hg.el fun u q z=>?_
 refine⟨_,zqd p q hs hw h1,fun B G H σ ρ fl ρ' E I hm k=>?_⟩;refine bP hm fun d ρ1 e1 h2=>?_
 refine cW h2 fun ρ2 e2 e3=>?_
 obtain⟨rfl,rfl⟩:=Prod.mk.inj e3;exact s B G H σ ρ d ρ1 _ I e1 fun G1 H1 v I1 f1 r1=>z B G1 H1 σ ρ1 v d ρ2 _ I1 r1 e2 fun G2 H2 σ2 I2 f2=>k G2 H2 σ2 I2 (f1.trans f2)
noncomputable def aP (i:Nat)(m:ME):MS:=fun ρ=>(m ρ).map fun p=>(.next,p.2.set i (.val p.1))
theorem bF (i:Nat)(he:SE X e me)(hN:X.N.Nodup)(hi:autoParam (X.N[i]? =some x) zu3._auto_1)(hx:autoParam (iP X.env.scope x) zu6._auto_1)(hs:autoParam (swapsWith e (some (.Name x pos')) pos.line X.env=pure false) zu3._auto_1)
    (hf:autoParam (X.fn x=true\/X.env.scope.names.lookup x=some .local) zu6._auto_1):SS X (.Assign [.Name x pos'] e pos) (aP i me):=by
  refine he.el fun t p s=>?_
  refine⟨_,Xw hN hi hx p hs hf,fun B G H σ ρ fl ρ' E I hm k=>?_⟩;refine iJ hm fun d ρ1 e1 e3=>?_
  cases e3;exact s B G H σ ρ d ρ1 _ I e1 fun G1 H1 v I1 f1 r1=>k G1 H1 _ (I1.set r1) f1
noncomputable def fR (i:Nat)(m:MO):MS:=fun ρ=>(m ρ).map fun p=>(.next,p.2.set i (.own p.1))
theorem kC (i:Nat)(he:SO X e mo)(hN:X.N.Nodup)(hi:autoParam (X.N[i]? =some x) zu3._auto_1)(hx:autoParam (iP X.env.scope x) zu6._auto_1)(hs:autoParam (swapsWith e (some (.Name x pos')) pos.line X.env=pure false) zu3._auto_1)
    (hf:autoParam (X.fn x=true\/X.env.scope.names.lookup x=some .local) zu6._auto_1):SS X (.Assign [.Name x pos'] e pos) (fR i mo):=by
  refine he.el fun t p s=>?_
  refine⟨_,Xw hN hi hx p hs hf,fun B G H σ ρ fl ρ' E I hm k=>?_⟩;refine iJ hm fun d ρ1 e1 e3=>?_
  cases e3;exact s B G H σ ρ d ρ1 _ I e1 fun G1 H1 l xs I1 f1 g1 h1 r1 b1 n1=>k G1 H1 _ (I1.setO g1 h1 r1 b1 n1) f1
noncomputable def dB (i:Nat)(m:ME):MS:=fun ρ=>if(ρ[i]?.bind Sl.items).isSome then(m ρ).bind fun p=>p.2[i]?.bind fun s=>s.items.bind fun ds=>if ds.length<16777216 then some (.next,p.2.set i (s.put (ds++[p.1])))else none else none
theorem jJ (i:Nat){pos' apos cpos:Pos}(he:SE X e me)(hN:autoParam (X.N[i]? =some x) zu3._auto_1)(hv:autoParam (iA X.env.scope x) zu6._auto_1)(hd:autoParam ((x==("__debug__":Str))=false) zu1._auto_1)
  (hcd:autoParam ((x==("__classdict__":Str))=false) zu1._auto_1)
  (hbase:autoParam (attributeBase (.Name x pos') "append" X.env (eval (.Name x pos') X.env)=eval (.Name x pos') X.env) zu3._auto_1)
  (hfew :autoParam (((backTo cpos (starEach [e] X.env)).all (fun x => !x.1) && (backToKw cpos (keywordEach [] X.env)).all (fun x => x.1.isSome)
   &&decide ([e].length+([]:List Keyword).length+(if([]:List Keyword).isEmpty then 0 else 1)<30))=true) zu3._auto_1)
  (hline:autoParam ((apos.endLine==cpos.line)=true) zu3._auto_1) (hs:autoParam (starEach [e] X.env=(false,eval e X.env)::starEach [] X.env) zu3._auto_1):SS X (.Expr (.Call (.Attribute (.Name x pos') "append" apos) [e] [] cpos) pos) (dB i me):=by
 refine he.el fun t p s=>?_
 refine⟨_,Zb (lA Uu PySem.F.slot_list_append PySem.F.type_list_append znm (jG hN hv hd hcd) (lS p As hs) hbase hfew hline hs rfl) (by rfl),fun B G H σ ρ fl ρ' E I hm k=>?_⟩;unfold dB at hm;refine bJ hm fun hso hm=>?_
 ·skip
  obtain⟨ds0,hso⟩:=qaQ.mp hso;refine bA hso fun s0 e0 q0=>?_
  obtain⟨l,xs0,h1,h2,h3,h4⟩:=I.wr e0 q0;refine bP hm fun d ρ1 e1 hm=>?_
  refine bA hm fun s1 e2 hm=>?_
  refine bA hm fun ds e3 hm=>?_
  refine bJ hm fun hl hm=>?_
  ·skip
   obtain⟨rfl,rfl⟩:=bT hm;refine⟨.ref l,h1,.inl ⟨rfl,_,SqL.of h3⟩,s B G H σ ρ d ρ1 _ I e1 fun G1 H1 v I1 f1 r1=>?_⟩;obtain⟨l',xs,k1,k2,k3,k4⟩:=I1.wr e2 e3;rw[h1]at k1;cases k1;refine⟨l,xs,v,rfl,rfl,k3,by rw[k4.length,iL];exact hl,?_⟩;exact k G1 _ σ (I1.write e2 e3 h1 (k4.snoc r1)) f1
noncomputable def eP (j:Nat)(mi me:ME):MS:=fun ρ=>(me ρ).bind fun p=>if eV p.2 j then(mi p.2).bind fun q=>match q.1 with
 | .int k=>q.2[j]?.bind fun s=>s.items.bind fun ds=>(hZ ds.length k).bind fun n=>some (.next,q.2.set j (s.put (ds.set n p.1)))
 |_=>none else none
theorem mB (j:Nat){i:Expr}{mi:ME}{pos' tpos:Pos}(he:SE X e me)(hi:SE X i mi)(hN:autoParam (X.N[j]? =some x) zu3._auto_1)(hv:autoParam (iA X.env.scope x) zu6._auto_1)(hd:autoParam ((x==("__debug__":Str))=false) zu1._auto_1)
  (hcd:autoParam ((x==("__classdict__":Str))=false) zu1._auto_1)
  (ha :autoParam (∀ v, assign (.Subscript (.Name x pos') i tpos) X.env v = (do
   let ov<-holding [v] (eval (.Name x pos') X.env)
   let iv<-holding [v,ov] (eval i X.env)
   standAt tpos
   holding [v,ov,iv] (setItem ov iv v)
   release [v,ov,iv] [])) zu9._auto_1)
  (hs:autoParam (swapsWithSole [.Subscript (.Name x pos') i tpos] e pos.line X.env=pure false) zu3._auto_1) (hw:autoParam (swappedStores [.Subscript (.Name x pos') i tpos] e X.env=pure none) zu3._auto_1)
  (h1:autoParam ((assignEach [.Subscript (.Name x pos') i tpos] X.env).map (·.2)=[assign (.Subscript (.Name x pos') i tpos) X.env]) zu3._auto_1):SS X (.Assign [.Subscript (.Name x pos') i tpos] e pos) (eP j mi me):=by
 refine he.el fun t p s=>?_
 refine hi.el fun u q z=>?_
 refine⟨_,zqd p (pQ (jG hN hv hd hcd) q zpc ha) hs hw h1,fun B G H σ ρ fl ρ' E I hm k=>?_⟩;refine bP hm fun d ρ1 e1 hm=>?_
 refine s B G H σ ρ d ρ1 _ I e1 fun G1 H1 v I1 f1 r1=>?_
 refine bJ hm fun hh hm=>?_
 ·skip
  obtain⟨w,ew⟩:=I1.has hh;refine bP hm fun kd ρ2 e2 hm=>?_
  cases kd<;>try exact aM hm
  rename_i kk;refine bA hm fun s2 e3 hm=>?_
  refine bA hm fun ds e4 hm=>?_
  refine bA hm fun n e5 hm=>?_
  obtain⟨rfl,rfl⟩:=bT hm;refine⟨w,ew,z B G1 H1 σ ρ1 (.int kk) ρ2 _ I1 e2 fun G2 H2 y I2 f2 r2=>?_⟩;obtain⟨l,xs,k1,k2,k3,k4⟩:=I2.wr e3 e4;rw[ew]at k1;cases k1;refine⟨l,xs,kk,n,rfl,r2,k3,by rw[k4.length];exact e5,?_⟩;exact k G2 _ σ (I2.write e3 e4 ew (k4.set n (r1.mono f2))) (f1.trans f2)
end
structure Itm (K:W.Frag) (J:It) (G:Hp) (items:List D):Prop where
 go:∀H i,Fz G H->i<items.length->J.go i H
 yld:∀H i x H',Fz G H->J.yld i H x H'->∀d,items[i]? =some d->(H'=H/\RepD K G x d)\/∃p xs ds,H p=none/\H'=upd H p (.tup xs)/\x= .ref p/\d= .tup ds/\RepL K G xs ds
 stop:∀H i,Fz G H->items.length<=i->J.stop i H
noncomputable def uU (X:Cx)(tg it:Expr)(m:MA)(wi:TI):Prop:=∀B G H σ ρ ds ρ' (Q:It->Hp->Prop),SI X.K B G H σ ρ->m ρ=some (ds,ρ')->(∀J G' H',SI X.K B G' H' σ ρ'->Fz G G'->Itm X.K J G' ds->Q J H')->wi σ H Q
noncomputable def SIt (X:Cx)(tg it:Expr)(m:MA):Prop:=∃wi,PI X tg it wi/\uU X tg it m wi
theorem SIt.el {m:MA}(h:SIt X tg it m)(k:∀wi,PI X tg it wi->uU X tg it m wi->C):C:=h.elim fun wi q=>k wi q.1 q.2
noncomputable def fC (f:D->R->Option (Fl×R)):List D->R->Option (Fl×R)
 |[],ρ=>some (.next,ρ)
 |d::ds,ρ=>(f d ρ).bind fun p=>match p.1 with
  | .next=>fC f ds p.2
  | .cont=>fC f ds p.2
  | .brk=>some (.next,p.2)
  | .ret r=>some (.ret r,p.2)
noncomputable def cL (mi:MA)(g:D->R->Option R)(mb:MS):MS:=fun ρ=>(mi ρ).bind fun p=>fC (fun d ρ=>(g d ρ).bind fun ρ'=>mb ρ') p.1 p.2
theorem SI.yld {x:V}(I:SI K B G H σ ρ)
  (h:(H'=H/\RepD K G x d)\/∃p xs ds,H p=none/\H'=upd H p (.tup xs)/\x= .ref p/\d= .tup ds/\RepL K G xs ds):∃G',SI K B G' H' σ ρ/\Fz G G'/\RepD K G' x d:=by
 rcases h with⟨rfl,r⟩|⟨p,xs,ds,hp,rfl,rfl,rfl,r⟩
 ·exact⟨G,I,Fz.refl G,r⟩
 ·obtain⟨I2,f2,r2⟩:=I.newT hp r;exact⟨_,I2,f2,r2⟩
theorem gO {mi:MA}{mb:MS}(hp:PassesOwn (model X.prog X.w) X.A X.env X.xe)(hc:X.calm=true)(hi:SIt X tg it mi)(hg:SG X tg g)(hb:SSs X body mb)
    (hs:autoParam (∀x,foldedSetIterable it X.env x=pure x) zu9._auto_1):SS X (.For tg it body [] pos) (cL mi g mb):=by
  refine hi.el fun wi pi si=>?_
  refine hg.el fun tg' pg sg=>?_
  refine hb.el fun tb pb sb=>?_
  refine⟨_,Kg hp hc pi pg pb hs,fun B G H σ ρ fl ρ' E I hm k=>?_⟩;refine bP hm fun ds ρ1 e1 hm=>?_
  refine si B G H σ ρ ds ρ1 _ I e1 fun J G1 H1 I1 f1 IT=>?_
  refine⟨fun i m σ H=>m=ds.length-i/\i<=ds.length/\∃G2 ρ2,SI X.K B G2 H σ ρ2/\Fz G1 G2/\fC (fun d ρ=>(g d ρ).bind fun ρ'=>mb ρ') (ds.drop i) ρ2=some (fl,ρ'),⟨ds.length,by simp,lI _,G1,ρ1,I1,Fz.refl _,by simpa using hm⟩,?_⟩;rintro i m σ2 H2 ⟨rfl,hi,G2,ρ2,I2,f2,e2⟩
  by_cases hlt:i<ds.length
  . rw[qbI hlt]at e2
    simp only[fC]at e2;refine bP e2 fun f ρ3 e3 e4=>?_
    refine bA e3 fun ρ2' e5 e6=>?_
    have fz2:Fz G1 H2:=f2.trans I2.fz;refine .inr ⟨IT.go H2 i fz2 hlt,fun σ' H'=>(∃G3,SI X.K B G3 H' σ' ρ3/\Fz G1 G3)/\(f= .next\/f= .cont),?_,fun x H' y=>?_⟩
    . rintro σ' H' ⟨⟨G3,I3,f3⟩,hf⟩
      refine⟨ds.length-(i+1),by lia,rfl,hlt,G3,ρ3,I3,f3,?_⟩;rcases hf with rfl|rfl<;>exact e4
    . have yy:=IT.yld H2 i x H' fz2 y ds[i] (cG hlt)
      have yy2:(H'=H2/\RepD X.K G2 x ds[i])\/∃p xs es,H2 p=none/\H'=upd H2 p (.tup xs)/\x= .ref p/\ds[i]= .tup es/\RepL X.K G2 xs es:=by
        rcases yy with⟨a,b⟩|⟨p,xs,es,a,b,c,d,e⟩
        . exact .inl ⟨a,b.mono f2⟩
        . exact .inr ⟨p,xs,es,a,b,c,d,e.mono f2⟩
      obtain⟨G3,I3,f3,r3⟩:=I2.yld yy2;refine sg B G3 H' σ2 ρ2 x ds[i] ρ2' _ I3 r3 e5 fun G4 H4 σ4 I4 f4=>sb B G4 H4 σ4 ρ2' f ρ3 _ I4 e6 ?_
      have ff:Fz G1 G4:=f2.trans (f3.trans f4);cases f with
      |next=>exact fun G5 H5 σ5 I5 f5=>⟨⟨G5,I5,ff.trans f5⟩,.inl rfl⟩
      |cont=>exact fun G5 H5 σ5 I5 f5=>⟨⟨G5,I5,ff.trans f5⟩,.inr rfl⟩
      |brk=>obtain⟨rfl,rfl⟩:=bT e4;exact fun G5 H5 σ5 I5 f5=>k G5 H5 σ5 I5 (f1.trans (ff.trans f5))
      |ret r=>obtain⟨rfl,rfl⟩:=bT e4;exact fun G5 H5 σ5 v I5 f5=>k G5 H5 σ5 v I5 (f1.trans (ff.trans f5))
  . have e:i=ds.length:=by lia
    subst e;rw[List.drop_length]at e2;obtain⟨rfl,rfl⟩:=bT e2;exact .inl ⟨IT.stop H2 _ (f2.trans I2.fz) (bU _),k G2 H2 σ2 I2 (f1.trans f2)⟩
section
variable {X:Cx} {tg it:Expr} {me:ME}
noncomputable def cC (m:ME):MA:=fun ρ=>(m ρ).bind fun p=>(dM [p.1]).map fun ds=>(ds,p.2)
theorem My {l:Expr}{tl:TE}(hl:PE X l tl):PI X tg l (fun σ H R=>tl σ H fun x H1=>∃a,x= .ref a/\(((∃xs,SqL X.K H1 a xs)/\R (Zh X.K a) H1)\/((∃xs,SqT X.K H1 a xs)/\R (Ym X.K a) H1))):=by
 intro pins s σ H R I h;refine bC (hl pins s σ H _ I h) fun v s1 ⟨x,H1,I1,r1,q1⟩=>?_
 obtain⟨a,e,q⟩:=q1;subst e;cases r1;rcases q with⟨⟨xs,hq⟩,q⟩|⟨⟨xs,hq⟩,q⟩
 ·obtain⟨its,rv,p,hz⟩:=I1.list hq;refine wpAny_pyIter_list p.isList ?_;refine⟨s1.heap.objs.size,[s1.heap.objs.size],_,_,H1,rfl,I1.kept (t':=s1.toks) fun b o e=>bH _ e,zrE a _,⟨_,eR _ rfl,rfl,rfl⟩,fun b hb=>?_,q⟩;have e:b=s1.heap.objs.size:=by simpa using hb
  subst e;exact I1.fpOk (bU _) (I1.hok.fresh (bU _))
 ·obtain⟨its,rv,p,hz⟩:=I1.tuple hq;refine qbJ (show s1.heap.IsTuple a its.toArray from p) ?_;refine⟨s1.heap.objs.size,[s1.heap.objs.size],_,_,H1,rfl,I1.kept (t':=s1.toks) fun b o e=>bH _ e,zpU a _,⟨_,eR _ rfl,rfl,rfl⟩,fun b hb=>?_,q⟩;have e:b=s1.heap.objs.size:=by simpa using hb
  subst e;exact I1.fpOk (bU _) (I1.hok.fresh (bU _))
theorem zoI {a:Addr}(hg:SqL K G a xs)(r:RepL K G xs ds):Itm K (Zh K a) G ds where
 go:=fun H i f hi=>by
  have hl:=r.length;exact⟨xs,xs[i],f.sql hg,cG (by lia)⟩
 yld:=fun H i x H' f y d e=>by
  obtain⟨rfl,y⟩:=y;have hx:=y xs (f.sql hg);obtain⟨x',h1,h2⟩:=r.get e;rw[hx]at h1;cases h1;exact .inl ⟨rfl,h2⟩
 stop:=fun H i f hi=>⟨xs,f.sql hg,by rw[r.length];exact hi⟩
theorem Ac {a:Addr}(hg:G a=some (.tup xs))(r:RepL K G xs ds):Itm K (Ym K a) G ds where
 go:=fun H i f hi=>by
  have hl:=r.length;exact⟨xs,xs[i],SqT.of (f _ _ hg),cG (by lia)⟩
 yld:=fun H i x H' f y d e=>by
  obtain⟨rfl,y⟩:=y;have hx:=y xs (SqT.of (f _ _ hg));obtain⟨x',h1,h2⟩:=r.get e;rw[hx]at h1;cases h1;exact .inl ⟨rfl,h2⟩
 stop:=fun H i f hi=>⟨xs,SqT.of (f _ _ hg),by rw[r.length];exact hi⟩
theorem fS (h:SE X it me):SIt X tg it (cC me):=by
 refine h.el fun t p s=>?_
 refine⟨_,My p,fun B G H σ ρ ds ρ' Q I hm k=>?_⟩;refine bP hm fun d ρ1 e1 hm=>?_
 refine cW hm fun es e2 e3=>?_
 cases e3;refine s B G H σ ρ d ρ1 _ I e1 fun G1 H1 v I1 f1 r1=>?_
 cases d<;>simp only[dM]at e2<;>try cases e2
 ·obtain⟨a,xs,rfl,ha,r⟩:=r1;exact⟨a,rfl,.inl ⟨⟨xs,SqL.of (I1.fz _ _ ha)⟩,k _ G1 H1 I1 f1 (zoI (SqL.of ha) r)⟩⟩
 ·obtain⟨a,xs,rfl,ha,r⟩:=r1;exact⟨a,rfl,.inr ⟨⟨xs,SqT.of (I1.fz _ _ ha)⟩,k _ G1 H1 I1 f1 (Ac ha r)⟩⟩
 ·obtain⟨a,rfl,ha⟩:=r1;exact⟨a,rfl,.inl ⟨⟨_,I1.fz.sql ha⟩,k _ G1 H1 I1 f1 (zoI ha (RepL.ints _))⟩⟩
end
noncomputable def jQ (lo:Int)(n:Nat):List D:=(List.range n).map fun(i:Nat)=>D.int (lo+(i:Int))
theorem zmU (lo:Int)(n:Nat):Itm K (Ol lo n) G (jQ lo n) where
 go:=fun H i f hi=>by show i<n;simpa[jQ]using hi
 yld:=fun H i x H' f y d e=>by
  obtain⟨rfl,rfl⟩:=y;unfold jQ at e;rw[fJ]at e;cases q:(List.range n)[i]? with
  |none=>rw[q]at e;exact aM e
  |some j=>
   rw[q]at e;have hj:j=i:=by
    have:=qap.mp q;obtain⟨h1,h2⟩:=this;simpa using h2.symm
   subst hj;cases e;exact .inl ⟨rfl,rfl⟩
 stop:=fun H i f hi=>by show n<=i;simpa[jQ]using hi
noncomputable def iE (j:Int):Bool:=decide (-1000000000000<=j)&&decide (j<=1000000000000)
theorem De {j:Int}(h:iE j=true): -(2^62)<=j/\j<2^62:=by
 unfold iE at h;simp only[eO,kK]at h;lia
noncomputable def fI (ma:MA):MA:=fun ρ=>(ma ρ).bind fun p=>match p.1 with
 |[.int j]=>if iE j then some (jQ 0 j.toNat,p.2)else none
 |_=>none
noncomputable def Mi (ma:MA):MA:=fun ρ=>(ma ρ).bind fun p=>match p.1 with
 |[.int i,.int j]=>if iE i&&iE j then some (jQ i (j-i).toNat,p.2)else none
 |_=>none
section
variable {X:Cx} {tg a b:Expr} {ma:MA} {p pos:Pos}
theorem fY (hm:X.mg "range"=none)(ha:SA X [a] ma)(hg:autoParam (Gl X "range") zu3._auto_1)(hs:autoParam (starEach [a] X.env=[(false,eval a X.env)]) zu3._auto_1):SIt X tg (.Call (.Name "range" p) [a] [] pos) (fI ma):=by
 obtain⟨t,pa,sa⟩:=ha;refine⟨_,zq1 hg hm pa hs,fun B G H σ ρ ds ρ' Q I hm k=>?_⟩;obtain⟨⟨es,ρ1⟩,e1,h2⟩:=zoQ hm;dsimp only at h2;refine sa B G H σ ρ es ρ1 _ I e1 fun G1 H1 vs I1 f1 r1=>?_
 split at h2
 ·rename_i j
  split at h2
  ·rename_i hj;cases h2;obtain⟨x,rfl,rx⟩:=r1.one;cases(show x=V.int j from rx);exact⟨j,rfl,(De hj).1,(De hj).2,k _ G1 H1 I1 f1 (zmU 0 _)⟩
  ·exact aM h2
 ·exact aM h2
theorem Vo (hm:X.mg "range"=none)(ha:SA X [a,b] ma)(hg:autoParam (Gl X "range") zu3._auto_1)(hs:autoParam (starEach [a,b] X.env=[(false,eval a X.env),(false,eval b X.env)]) zu3._auto_1)(hs2:autoParam (starEach [b] X.env=[(false,eval b X.env)]) zu3._auto_1):SIt X tg (.Call (.Name "range" p) [a,b] [] pos) (Mi ma):=by
 refine ha.el fun t pa sa=>?_
 refine⟨_,zqF hg hm pa hs hs2,fun B G H σ ρ ds ρ' Q I hm k=>?_⟩;refine bP hm fun es ρ1 e1 h2=>?_
 dsimp only at h2;refine sa B G H σ ρ es ρ1 _ I e1 fun G1 H1 vs I1 f1 r1=>?_
 split at h2
 ·rename_i i j;refine bJ h2 fun hj h2=>?_
  ·skip
   simp only[eO]at hj;obtain⟨rfl,rfl⟩:=bT h2;obtain⟨x,y,rfl,rx,ry⟩:=r1.two;cases(show x=V.int i from rx);cases(show y=V.int j from ry);exact⟨i,j,rfl,⟨(De hj.1).1,(De hj.1).2,(De hj.2).1,(De hj.2).2⟩,k _ G1 H1 I1 f1 (zmU i _)⟩
 ·exact aM h2
end
noncomputable def jU (K:W.Frag)(G' H' H:Hp)(v:V):Sl->Prop
 | .val d=>RepD K G' v d
 | .own ds=>∃l xs,v= .ref l/\G' l=none/\H' l=some (.lst xs)/\RepL K G' xs ds/\H l=none
 | .tre t=>∃A,RepT K G' H' v t A/\A.Nodup/\∀a∈A,G' a=none/\H a=none
 | .two ds es=>∃t l xs m ys,v= .ref t/\H' t=some (.tup [.ref l,.ref m])/\l≠m/\G' l=none/\H' l=some (.lst xs)/\RepL K G' xs ds/\H l=none/\G' m=none/\H' m=some (.lst ys)/\RepL K G' ys es/\H m=none
 |_=>False
noncomputable def aT (K:W.Frag)(n:Nat)(F:List D->Option Sl):Sp:=fun vs H Q _=>∃G ds r,F ds=some r/\ds.length=n/\Fz G H/\RepL K G vs ds/\
 ∀G' H' v,Fz G G'->Fz G' H'->(∀b o,G' b=some o->G b≠none\/H b=none)->Fz H H'->jU K G' H' H v r->Q v H'
noncomputable def gI (K:W.Frag)(n:Nat)(F:List D->List D->Option (Sl×List D)):Sp:=fun vs H Q _=>∃G l xs cs ws ds r out,vs= .ref l::ws/\F cs ds=some (r,out)/\ds.length+1=n/\Fz G H/\G l=none/\H l=some (.lst xs)/\RepL K G xs cs/\RepL K G ws ds/\
 ∀G' H' v ys,Fz G G'->Fz G' H'->(∀b o,G' b=some o->G b≠none\/H b=none)->(∀b o,b≠l->H b=some o->H' b=some o)->G' l=none->H' l=some (.lst ys)->RepL K G' ys out->jU K G' H' H v r->Q v H'
noncomputable def fP (N:Nat)(m:MS):List D->Option Sl:=fun ds=>(m (ds.map .val++List.replicate (N-ds.length) .emp)).bind fun p=>match p.1 with
 | .ret r=>some r
 | .next=>some (.val .non)
 |_=>none
noncomputable def fM (N:Nat)(m:MS):List D->List D->Option (Sl×List D):=fun cs ds=>(m (.par cs::(ds.map .val++List.replicate (N-(ds.length+1)) .emp))).bind fun p=>match p.1,(p.2[0]?:Option Sl)with
 |Fl.ret r,some (Sl.par out)=>some (r,out)
 |Fl.next,some (Sl.par out)=>some (.val .non,out)
 |_,_=>none
theorem zkU (h:vs.length<=N.length):(L2.start N vs).length=N.length:=by
 unfold L2.start;rw[iC,eL,Oa];lia
theorem SI.start (fz:Fz G H)(r:RepL K G vs ds)(h:ds.length<=N.length):
  SI K ⟨G,H,[]⟩ G H (L2.start N vs) (ds.map .val++List.replicate (N.length-ds.length) .emp) where
 fz:=fz
 g0:=Fz.refl G
 new:=fun b o e=> .inl (by show G b≠none;rw[e];simp)
 keep:=fun b o e _=>e
 there:=fun b e=>e
 ob:=fun i b m=>by cases m
 len:=by rw[zkU (by rw[r.length];exact h),iC,eL,Oa];lia
 slot:=fun i s e=>by
  by_cases hi:i<ds.length
  ·rw[jS (by simpa using hi),fJ,cG hi]at e;cases e;obtain⟨x,h1,h2⟩:=r.get (cG hi);refine⟨x,?_,h2⟩;unfold L2.start;rw[jS (by rw[eL,r.length];exact hi),fJ,h1]
   rfl
  ·rw[qT (by simpa using hi),vK]at e
   split at e
   ·cases e;trivial
   ·exact aM e
 dis:=fun i j s _ a _ e _ w=>by
  exfalso
  by_cases hi:i<ds.length
  ·rw[jS (by simpa using hi),fJ,cG hi]at e;cases e;exact w
  ·rw[qT (by simpa using hi),vK]at e
   split at e
   ·cases e;exact w
   ·exact aM e
theorem SI.startM (fz:Fz G H)(hg:G l=none)(hl:H l=some (.lst xs))(rc:RepL K G xs cs)(r:RepL K G vs ds)(h:ds.length+1<=N.length):
  SI K ⟨G,H,[(0,l)]⟩ G H (L2.start N (.ref l::vs)) (.par cs::(ds.map .val++List.replicate (N.length-(ds.length+1)) .emp)) where
 fz:=fz
 g0:=Fz.refl G
 new:=fun b o e=> .inl (by show G b≠none;rw[e];simp)
 keep:=fun b o e _=>e
 there:=fun b e=>e
 ob:=fun i b m=>by
  have:b=l:=((by simpa using m):i=0/\b=l).2;subst this;show H b≠none;rw[hl];simp
 len:=by
  have:=r.length;rw[zkU (by rw[eU,r.length];exact h),eU,iC,eL,Oa];lia
 slot:=fun i s e=>by
  cases i with
  |zero=>simp at e;subst e;exact⟨l,xs,rfl,hg,hl,rc,by simp⟩
  |succ i=>
   rw[uQ]at e
   by_cases hi:i<ds.length
   ·rw[jS (by simpa using hi),fJ,cG hi]at e;cases e;obtain⟨x,h1,h2⟩:=r.get (cG hi);refine⟨x,?_,h2⟩;unfold L2.start;rw[jW,Uo,uQ,jS (by rw[eL,r.length];exact hi),fJ,h1]
    rfl
   ·rw[qT (by simpa using hi),vK]at e
    split at e
    ·cases e;trivial
    ·exact aM e
 dis:=fun i j s t a hij hi hj w1 w2=>by
  have z:∀(i:Nat) (s:Sl),(Sl.par cs::(ds.map .val++List.replicate (N.length-(ds.length+1)) .emp))[i]? =some s->eZ K G H (L2.start N (.ref l::vs))[i]? a s->i=0:=fun i s e q=>by
   cases i with
   |zero=>rfl
   |succ i=>
    exfalso;rw[uQ]at e
    by_cases hi:i<ds.length
    ·rw[jS (by simpa using hi),fJ,cG hi]at e;cases e;exact q
    ·rw[qT (by simpa using hi),vK]at e
     split at e
     ·cases e;exact q
     ·exact aM e
  exact hij ((z i s hi w1).trans (z j t hj w2).symm)
section
variable {P:Program} {w:World} {K:W.Frag} {mg:Str->Option Value} {base:Heap}
theorem oO {st:Stmt}{f:Addr}{k n:Nat}(F:Fun K x qual st f fd)(S:FnScope N ps (zaM st))(hn:ps.length=n)(hN:n<=N.length)
  (body:∀(cdv:Value) (A:Around) (outer:List Env) (s:Shared) (H:Hp) (E:XK),Room k (A.deeper (envOfC qual (zaM st) s.heap.objs.size f cdv))->SSs (fD jF P w K mg base N qual (zaM st) f cdv A outer s H E).nox (zct st) m):
  FnOk P w K mg base jF (k+1) f fd ps (aT K n (fP N.length m)):=by
 refine F.ok S (fun vs H Q E h=>?_) (fun cdv A outer s H vs Q E hr h=>?_)
 ·obtain⟨G,ds,r,_,h2,_,h4,_⟩:=h;rw[h4.length,h2,hn]
 ·obtain⟨G,ds,r,e1,h2,fz,h4,kk⟩:=h;obtain⟨t,pt,so⟩:=body cdv A outer s H E hr;refine⟨t,pt,?_⟩;refine bP e1 fun fl ρ' e2 e3=>?_
  refine so ⟨G,H,[]⟩ G H (L2.start N vs) _ fl ρ' _ (SI.start fz h4 (by lia)) e2 ?_;have fin:∀G' H' σ' v,SI K ⟨G,H,[]⟩ G' H' σ' ρ'->Fz G G'->jU K G' H' H v r->Q v H':=fun G' H' σ' v I f rr=>kk G' H' v f I.fz I.new (fun b o e=>I.keep b o e (by simp)) rr
  cases fl with
  |next=>cases e3;exact fun G' H' σ' I f=>fin G' H' σ' .non I f rfl
  |brk=>exact aM e3
  |cont=>exact aM e3
  |ret r'=>
   cases e3;refine fun G' H' σ' v I f rr=>fin G' H' σ' v I f ?_
   cases r with
   |val d=>exact rr
   |own ds=>exact rr
   |emp=>exact rr
   |two _ _=>exact rr
   |tre _=>exact rr
   |ptr _=>exact rr
   |par ds=>exact rr
theorem Jf {st:Stmt}{f:Addr}{k n:Nat}(F:Fun K x qual st f fd)(S:FnScope N ps (zaM st))(hn:ps.length=n)(hN:n<=N.length)
  (body:∀(cdv:Value) (A:Around) (outer:List Env) (s:Shared) (H:Hp) (E:XK),Room k (A.deeper (envOfC qual (zaM st) s.heap.objs.size f cdv))->SSs (fD jF P w K mg base N qual (zaM st) f cdv A outer s H E).nox (zct st) m):
  FnOk P w K mg base jF (k+1) f fd ps (gI K n (fM N.length m)):=by
 refine F.ok S (fun vs H Q E h=>?_) (fun cdv A outer s H vs Q E hr h=>?_)
 ·obtain⟨G,l,xs,cs,ws,ds,r,out,rfl,_,h2,_,_,_,_,h4,_⟩:=h;rw[eU,h4.length,h2,hn]
 ·obtain⟨G,l,xs,cs,ws,ds,r,out,rfl,e1,h2,fz,hg,hl,rc,h4,kk⟩:=h;obtain⟨t,pt,so⟩:=body cdv A outer s H E hr;refine⟨t,pt,?_⟩;refine bP e1 fun fl ρ' e2 e3=>?_
  refine so ⟨G,H,[(0,l)]⟩ G H _ _ fl ρ' _ (SI.startM fz hg hl rc h4 (by lia)) e2 ?_;have fin:∀G' H' σ' v,ρ'[0]? =some (.par out)->SI K ⟨G,H,[(0,l)]⟩ G' H' σ' ρ'->Fz G G'->jU K G' H' H v r->Q v H':=fun G' H' σ' v e0 I f rr=>by
   obtain⟨l',ys,k1,k2,k3,k4,k5⟩:=I.slot 0 _ e0;have:l'=l:=by simpa using k5
   subst this;exact kk G' H' v ys f I.fz I.new (fun b o hb e=>I.keep b o e (fun i hm=>by simp at hm;exact hb hm.2)) k2 k3 k4 rr
  cases e0:ρ'[0]? with
  |none=>rw[e0]at e3;cases fl<;>exact aM e3
  |some s0=>
   rw[e0]at e3;cases s0 with
   |emp=>cases fl<;>exact aM e3
   |two _ _=>cases fl<;>exact aM e3
   |tre _=>cases fl<;>exact aM e3
   |ptr _=>cases fl<;>exact aM e3
   |val d=>cases fl<;>exact aM e3
   |own d=>cases fl<;>exact aM e3
   |par o2=>
    cases fl with
    |next=>obtain⟨rfl,rfl⟩:=bT e3;exact fun G' H' σ' I f=>fin G' H' σ' .non e0 I f rfl
    |brk=>exact aM e3
    |cont=>exact aM e3
    |ret r'=>
     cases e3;refine fun G' H' σ' v I f rr=>fin G' H' σ' v e0 I f ?_
     cases r with
     |val d=>exact rr
     |own ds=>exact rr
     |emp=>exact rr
     |two _ _=>exact rr
     |tre _=>exact rr
     |ptr _=>exact rr
     |par ds=>exact rr
end
structure FD (P:Program) (w:World) (K:W.Frag) (mg:Str->Option Value) (base:Heap) (k:Nat) (x:Str) (sp:Sp):Prop where
 ex:∃f fd ps,FnOk P w K mg base jF k f fd ps sp/\mg x=some (.ref f)/\W.keepIn K (.ref f)=true/\Binds K fd ps []
theorem zrQ (nw:∀b o,G' b=some o->G b≠none\/H b=none)(kp:Fz H H'):∀(i:Nat) (s:Sl) (a:Addr),ρ[i]? =some s->eZ K G H σ[i]? a s->G a=none->H a≠none->G' a=none/\H' a=H a:=fun i s a _ _ g h=>by
 obtain⟨u,hu⟩:=qby.mp h;refine⟨?_,(kp a u hu).trans hu.symm⟩;cases q:G' a with
 |none=>rfl
 |some u=>
  rcases nw a u q with z|z
  ·exact absurd g z
  ·exact absurd z h
theorem SI.grow (I:SI K B G H σ ρ)(f:Fz G G')(fz:Fz G' H')(nw:∀b o,G' b=some o->G b≠none\/H b=none)(kp:Fz H H'):SI K B G' H' σ ρ:=
 I.move fz f (fun b o e=>by
  rcases nw b o e with h|h
  ·cases q:G b with
   |none=>exact absurd q h
   |some u=>exact I.new b u q
  ·exact .inr (I.there b h)) (fun b o e n=>kp b o (I.keep b o e n)) (fun b e=>I.there b (kp.free e)) (zrQ nw kp)
theorem SI.own_ne (I:SI K B G H σ ρ){p:Addr}(hp:H p=none)(nw:∀b o,G' b=some o->G b≠none\/H b=none)(kp:Fz H H'):Nw K G' H' σ ρ p:=I.nw_move (I.nw hp) (zrQ nw kp)
noncomputable def bD (F:List D->Option Sl)(ma:MA):ME:=fun ρ=>(ma ρ).bind fun p=>(F p.1).bind fun r=>match r with
 | .val d=>some (d,p.2)
 | .own ds=>some (.lst ds,p.2)
 |_=>none
noncomputable def Kx (F:List D->Option Sl)(ma:MA):MO:=fun ρ=>(ma ρ).bind fun p=>(F p.1).bind fun r=>match r with
 | .own ds=>some (ds,p.2)
 |_=>none
section
variable {X:Cx} {x:Str} {p pos:Pos} {e:Expr} {es:List Expr} {ma:MA} {k k' n:Nat} {F:List D->Option Sl}
theorem bE (fd:FD X.prog X.w X.K X.mg X.base k x (aT X.K n F))(hr:Room k' X.A)(ha:SA X (e::es) ma)(hn:autoParam ((e::es).length=n) zu3._auto_1)(hk:autoParam (k<=k') zu1._auto_1)(hg:autoParam (Gl X x) zu3._auto_1)(hdb:autoParam ((x==("__debug__":Str))=false) zu1._auto_1)
  (he:autoParam (starEach (e::es) X.env=(false,eval e X.env)::starEach es X.env) zu3._auto_1) (hpl:autoParam ((backTo pos (starEach es X.env)).any (·.1)=false) zu3._auto_1) (hlen:∀ρ as ρ',ma ρ=some (as,ρ')->as.length=n):SE X (.Call (.Name x p) (e::es) [] pos) (bD F ma):=by
 obtain⟨f,fdd,ps,G0,h1,h2,h3⟩:=fd.ex;refine ha.el fun t pa sa=>?_
 refine⟨_,Ui G0 (hr.mono hk) hg h1 h2 h3 .nil kJ pa hdb he hpl,fun B G H σ ρ d ρ' Q I hm kk=>?_⟩;refine bP hm fun as ρ1 e1 hm=>?_
 refine bA hm fun r e2 hm=>?_
 refine sa B G H σ ρ as ρ1 _ I e1 fun G1 H1 vs I1 f1 r1=>?_
 show aT X.K n F (vs++[]) H1 Q E0;rw[Bn];refine⟨G1,as,r,e2,hlen ρ as ρ1 e1,I1.fz,r1,fun G2 H2 v f2 fz2 nw kp rr=>?_⟩;have I2:=I1.grow f2 fz2 nw kp;cases r with
 |val d'=>obtain⟨rfl,rfl⟩:=bT hm;exact kk G2 H2 v I2 (f1.trans f2) rr
 |own ds=>
  obtain⟨rfl,rfl⟩:=bT hm;obtain⟨l,xs,rfl,g3,h3,r3,b3⟩:=rr;obtain⟨I3,f3,r4⟩:=Lm I2 g3 h3 r3 (I1.there l b3) (I1.own_ne b3 nw kp);exact kk _ H2 _ I3 (f1.trans (f2.trans f3)) r4
 |emp=>exact aM hm
 |two _ _=>exact aM hm
 |tre _=>exact aM hm
 |ptr _=>exact aM hm
 |par _=>exact aM hm
theorem Xa (fd:FD X.prog X.w X.K X.mg X.base k x (aT X.K n F))(hr:Room k' X.A)(ha:SA X (e::es) ma)(hn:autoParam ((e::es).length=n) zu3._auto_1)(hk:autoParam (k<=k') zu1._auto_1)(hg:autoParam (Gl X x) zu3._auto_1)(hdb:autoParam ((x==("__debug__":Str))=false) zu1._auto_1)
  (he:autoParam (starEach (e::es) X.env=(false,eval e X.env)::starEach es X.env) zu3._auto_1) (hpl:autoParam ((backTo pos (starEach es X.env)).any (·.1)=false) zu3._auto_1) (hlen:∀ρ as ρ',ma ρ=some (as,ρ')->as.length=n):SO X (.Call (.Name x p) (e::es) [] pos) (Kx F ma):=by
 obtain⟨f,fdd,ps,G0,h1,h2,h3⟩:=fd.ex;refine ha.el fun t pa sa=>?_
 refine⟨_,Ui G0 (hr.mono hk) hg h1 h2 h3 .nil kJ pa hdb he hpl,fun B G H σ ρ d ρ' Q I hm kk=>?_⟩;refine bP hm fun as ρ1 e1 hm=>?_
 refine bA hm fun r e2 hm=>?_
 refine sa B G H σ ρ as ρ1 _ I e1 fun G1 H1 vs I1 f1 r1=>?_
 show aT X.K n F (vs++[]) H1 Q E0;rw[Bn];refine⟨G1,as,r,e2,hlen ρ as ρ1 e1,I1.fz,r1,fun G2 H2 v f2 fz2 nw kp rr=>?_⟩;have I2:=I1.grow f2 fz2 nw kp;cases r with
 |val d'=>exact aM hm
 |own ds=>
  obtain⟨rfl,rfl⟩:=bT hm;obtain⟨l,xs,rfl,g3,h3,r3,b3⟩:=rr;exact kk G2 H2 l xs I2 (f1.trans f2) g3 h3 r3 (I1.there l b3) (I1.own_ne b3 nw kp)
 |emp=>exact aM hm
 |two _ _=>exact aM hm
 |tre _=>exact aM hm
 |ptr _=>exact aM hm
 |par _=>exact aM hm
end
noncomputable def sH (ma:MA)(n:Nat):Prop:=∀ρ as ρ',ma ρ=some (as,ρ')->as.length=n
theorem aV:sH aB 0:=fun ρ as ρ' h=>by obtain⟨rfl,rfl⟩:=bT h;rfl
theorem aN {m:ME}{r:MA}(h:sH r n):sH (aD m r) (n+1):=fun ρ as ρ' e=>by
 refine bP e fun d ρ1 _ h2=>?_
 refine iJ h2 fun ds ρ2 e3 e4=>?_
 cases e4;rw[eU,h ρ1 ds ρ2 e3]
noncomputable def cU (F:List D->List D->Option (Sl×List D))(j:Nat)(ma:MA):ME:=fun ρ=>if(ρ[j]?.bind Sl.items).isSome then(ma ρ).bind fun p=>p.2[j]?.bind fun s=>s.items.bind fun cs=>(F cs p.1).bind fun r=>match r.1 with
 | .val d=>some (d,p.2.set j (s.put r.2))
 | .own ds=>some (.lst ds,p.2.set j (s.put r.2))
 |_=>none else none
theorem SI.growW (I:SI K B G H σ ρ)(e:ρ[j]? =some s)(q:s.items=some cs)(hl:σ[j]? =some (some (.ref l)))
  (f:Fz G G') (fz:Fz G' H') (nw:∀b o,G' b=some o->G b≠none\/H b=none) (kp:∀b o,b≠l->H b=some o->H' b=some o) (gl:G' l=none) (hl':H' l=some (.lst ys)) (r:RepL K G' ys out):SI K B G' H' σ (ρ.set j (s.put out)):=
 I.chgW e q hl fz f nw kp gl hl' r
theorem SI.own_neW {l p:Addr}(I:SI K B G H σ ρ)(e:ρ[j]? =some s)(q:s.items=some cs)(hl:σ[j]? =some (some (.ref l)))(hp:H p=none)
  (nw:∀b o,G' b=some o->G b≠none\/H b=none) (kp:∀b o,b≠l->H b=some o->H' b=some o):Nw K G' H' σ (ρ.set j (s.put out)) p:=fun i t et w=>by
 obtain⟨l',xs,e1,e2,e3,e4⟩:=I.wr e q;rw[hl]at e1;cases e1;have hpl:p≠l:=fun z=>by rw[z,e3]at hp;cases hp
 by_cases z:i=j
 ·subst z;rw[tJ,if_pos rfl]at et
  split at et
  ·cases et;have:=(mJ (Wx q out)).mp w;rw[hl]at this;exact hpl (V.ref.inj (Option.some.inj (Option.some.inj this))).symm
  ·cases et
 ·rw[tO (Ne.symm z)]at et;have sl:=I.slot i t et;refine(sl.own (sl.back (fun a w g h=>?_) w)).2.1 hp;have na:a≠l:=fun w'=>by subst w';exact I.dis i j t s a z et e w ((mJ q).mpr hl)
  obtain⟨u,hu⟩:=qby.mp h;refine⟨?_,(kp a u na hu).trans hu.symm⟩;cases q2:G' a with
  |none=>rfl
  |some u=>
   rcases nw a u q2 with z|z
   ·exact absurd g z
   ·exact absurd z h
section
variable {X:Cx} {x y:Str} {p py pos:Pos} {es:List Expr} {ma:MA} {k k' n:Nat} {F:List D->List D->Option (Sl×List D)}
theorem Fp {t:TA}{Q:VK}(sa:∀B G H σ ρ ds ρ' (Q:List V->Hp->Prop),SI X.K B G H σ ρ->ma ρ=some (ds,ρ')->(∀G' H' vs,SI X.K B G' H' σ ρ'->Fz G G'->RepL X.K G' vs ds->Q vs H')->t σ H Q)
  (hlen:∀ρ as ρ',ma ρ=some (as,ρ')->as.length+1=n) (I:SI X.K B G H σ ρ) {ds0:List D} (h0:ρ[j]?.bind Sl.items=some ds0) {as:List D} {ρ1:R} (e1:ma ρ=some (as,ρ1)) {s:Sl} (e2:ρ1[j]? =some s) {cs:List D} (e3:s.items=some cs)
  {r:Sl} {out:List D} (e4:F cs as=some (r,out))
  (kk:∀G' H' v,SI X.K B G' H' σ (ρ1.set j (s.put out))->Fz G G'->True->(∃H1,jU X.K G' H' H1 v r/\(∀b,H1 b=none->B.H b=none)/\∀b,H1 b=none->Nw X.K G' H' σ (ρ1.set j (s.put out)) b)->Q v H'):
  An (gI X.K n F) [] E0 (Ao (Oo j) t) σ H Q:=by
 obtain⟨s0,k0,q0⟩:=zoQ h0;obtain⟨l,xs0,h1,h2,h3,h4⟩:=I.wr k0 q0;refine⟨.ref l,h1,sa B G H σ ρ as ρ1 _ I e1 fun G1 H1 vs I1 f1 r1=>?_⟩;show gI X.K n F ((.ref l::vs)++[]) H1 Q E0;rw[Bn];obtain⟨l',xs,m1,m2,m3,m4⟩:=I1.wr e2 e3;rw[h1]at m1;cases m1;refine⟨G1,l,xs,cs,vs,as,r,out,rfl,e4,hlen ρ as ρ1 e1,I1.fz,m2,m3,m4,r1,fun G2 H2 v ys f2 fz2 nw kp gl hl r2 rr=>?_⟩;exact kk G2 H2 v (I1.growW e2 e3 h1 f2 fz2 nw kp gl hl r2) (f1.trans f2) trivial ⟨H1,rr,fun b hb=>I1.there b hb,fun b hb=>I1.own_neW e2 e3 h1 hb nw kp⟩
theorem dH (j:Nat)(fd:FD X.prog X.w X.K X.mg X.base k x (gI X.K n F))(hr:Room k' X.A)(ha:SA X es ma)(hlen:∀ρ as ρ',ma ρ=some (as,ρ')->as.length+1=n)(hN:autoParam (X.N[j]? =some y) zu3._auto_1)(hv:autoParam (iA X.env.scope y) zu6._auto_1)(hd:autoParam ((y==("__debug__":Str))=false) zu1._auto_1)
  (hcd:autoParam ((y==("__classdict__":Str))=false) zu1._auto_1) (hk:autoParam (k<=k') zu1._auto_1) (hg:autoParam (Gl X x) zu3._auto_1) (hdb:autoParam ((x==("__debug__":Str))=false) zu1._auto_1)
  (he:autoParam (starEach (.Name y py::es) X.env=(false,eval (.Name y py) X.env)::starEach es X.env) zu3._auto_1) (hpl:autoParam ((backTo pos (starEach es X.env)).any (·.1)=false) zu3._auto_1):SE X (.Call (.Name x p) (.Name y py::es) [] pos) (cU F j ma):=by
 obtain⟨f,fdd,ps,G0,h1,h2,h3⟩:=fd.ex;refine ha.el fun t pa sa=>?_
 refine⟨_,Ui G0 (hr.mono hk) hg h1 h2 h3 .nil kJ (lS (jG hN hv hd hcd) pa he) hdb he hpl,fun B G H σ ρ d ρ' Q I hm kk=>?_⟩;unfold cU at hm;refine bJ hm fun hso hm=>?_
 ·skip
  obtain⟨ds0,hso⟩:=qaQ.mp hso;refine bP hm fun as ρ1 e1 hm=>?_
  refine bA hm fun s e2 hm=>?_
  refine bA hm fun cs e3 hm=>?_
  refine bP hm fun r out e4 hm=>?_
  refine Fp sa hlen I hso e1 e2 e3 e4 fun G' H' v I' f' _ ⟨H1,rr,bb,nn⟩=>?_
  cases r with
  |val d'=>obtain⟨rfl,rfl⟩:=bT hm;exact kk G' H' v I' f' rr
  |own ds=>
   obtain⟨rfl,rfl⟩:=bT hm;obtain⟨l,xs,rfl,g3,h3,r3,b3⟩:=rr;obtain⟨I3,f3,r4⟩:=Lm I' g3 h3 r3 (bb l b3) (nn l b3);exact kk _ H' _ I3 (f'.trans f3) r4
  |emp=>exact aM hm
  |two _ _=>exact aM hm
  |tre _=>exact aM hm
  |ptr _=>exact aM hm
  |par _=>exact aM hm
end
noncomputable def qX (env:Env)(cs:List (Str×Addr))(x:Str×NameKind):List (Str×Addr):=if x.2== .free then(x.1,(env.cells.lookup x.1).getD 0)::cs else cs
noncomputable def gQ (scope:Scope)(env:Env):List (Str×Addr):=scope.names.foldl (qX env) []
theorem zjY:∀(names:List (Str×NameKind)) (cs:List (Str×Addr)),(∀y∈names,y.2= .free->∃c,env.cells.lookup y.1=some c)->
  (forIn names cs (fun x r=>if x.2==NameKind.free then do let a<-cellOf env x.1;pure (ForInStep.yield ((x.1,a)::r))else pure (ForInStep.yield r)):Sem (List (Str×Addr)))=pure (names.foldl (qX env) cs)
 |[],cs,_=>rfl
 |(n,k)::r,cs,h=>by
  have ih:=fun cs'=>zjY r cs' (fun y hy=>h y (jD _ hy))
  rw[Gm,Tx]
  by_cases hk:(k==NameKind.free)=true
  ·obtain⟨c,hc⟩:=h (n,k) mD (by simpa using hk);have e:qX env cs (n,k)=(n,c)::cs:=by unfold qX;simp[hk,hc]
   rw[e,<-ih];simp only[hk,if_true];unfold cellOf;simp only at hc;rw[hc]
   rfl
  ·have e:qX env cs (n,k)=cs:=by unfold qX;simp[hk]
   rw[e,<-ih];simp only[hk]
   rfl
theorem zpD {env:Env}(h:∀y∈scope.names,y.2= .free->∃c,env.cells.lookup y.1=some c):closureFor scope env=pure (gQ scope env):=by
 unfold closureFor gQ;have e:=zjY (env:=env) scope.names [] h;simp only[bind_pure];exact e
theorem zeS {c:Addr}:∀{names:List (Str×NameKind)} {cs:List (Str×Addr)},(∀y∈names,y.2= .free->∃c,env.cells.lookup y.1=some c)->(cs.lookup x=some c->env.cells.lookup x=some c)->
  (names.foldl (qX env) cs).lookup x=some c->env.cells.lookup x=some c
 |[],cs,_,h0,h=>h0 h
 |(n,k)::r,cs,hn,h0,h=>by
  rw[Tx]at h;refine zeS (names:=r) (fun y hy=>hn y (jD _ hy)) ?_ h;intro q;unfold qX at q
  split at q
  ·rename_i hk;obtain⟨c',hc⟩:=hn (n,k) mD (by simpa using hk);rw[lU]at q;simp only at hc
   by_cases z:(x==n)=true
   ·rw[z]at q;have zz:x=n:=by simpa using z
    subst zz;simp only[hc,Option.getD_some]at q;rw[hc];exact q
   ·have z':(x==n)=false:=by simpa using z
    rw[z']at q;exact h0 q
  ·exact h0 q
theorem zhv:∀{names:List (Str×NameKind)} {cs:List (Str×Addr)},((x,NameKind.free)∈names\/(cs.lookup x).isSome=true)->((names.foldl (qX env) cs).lookup x).isSome=true
 |[],cs,h=>by
  rcases h with h|h
  ·simp at h
  ·exact h
 |(n,k)::r,cs,h=>by
  rw[Tx];refine zhv (names:=r) ?_;rcases h with h|h
  ·rcases qam.mp h with h|h
   ·cases h;refine .inr ?_;unfold qX;simp
   ·exact .inl h
  ·refine .inr ?_;unfold qX
   split
   ·rw[lU]
    by_cases z:(x==n)=true
    ·rw[z];rfl
    ·have z':(x==n)=false:=by simpa using z
     rw[z'];exact h
   ·exact h
theorem Yc {c:Addr}:∀{names:List (Str×NameKind)} {n:Nat} {acc:List (Str×Addr)},(cellsFrom n names acc).lookup x=some c->(n<=c/\(x,NameKind.cell)∈names)\/acc.lookup x=some c
 |[],n,acc,h=> .inr h
 |(m,k)::r,n,acc,h=>by
  unfold cellsFrom at h
  split at h
  ·rename_i hk;have hk':k= .cell:=by simpa using hk
   subst hk';rcases Yc h with⟨h1,h2⟩|h1
   ·exact .inl ⟨Nat.le_of_succ_le h1,jD _ h2⟩
   ·rw[lU]at h1;cases q:x==m with
    |true=>
     rw[q]at h1;cases h1;rw[qbG.mp q];exact .inl ⟨bU _,mD⟩
    |false=>rw[q]at h1;exact .inr h1
  ·rcases Yc h with⟨h1,h2⟩|h1
   ·exact .inl ⟨h1,jD _ h2⟩
   ·exact .inr h1
theorem Wk:∀{names:List (Str×NameKind)} {n:Nat} {acc:List (Str×Addr)},(x,NameKind.cell)∉names->(cellsFrom n names acc).lookup x=acc.lookup x
 |[],n,acc,_=>rfl
 |(m,k)::r,n,acc,h=>by
  unfold cellsFrom
  split
  ·rename_i hk;have hk':k= .cell:=by simpa using hk
   subst hk';rw[Wk fun z=>h (jD _ z),lU];cases q:x==m with
   |true=>exact absurd (by rw[qbG.mp q];exact mD) h
   |false=>rfl
  ·exact Wk fun z=>h (jD _ z)
theorem Xe:∀{names:List (Str×NameKind)} {n:Nat} {acc:List (Str×Addr)},(x,NameKind.cell)∈names->∃c,(cellsFrom n names acc).lookup x=some c/\n<=c
 |(m,k)::r,n,acc,h=>by
  unfold cellsFrom
  by_cases hr:(x,NameKind.cell)∈r
  ·split
   ·obtain⟨c,h1,h2⟩:=Xe (n:=n+1) (acc:=(m,n)::acc) hr;exact⟨c,h1,Nat.le_of_succ_le h2⟩
   ·exact Xe hr
  ·rcases qam.mp h with e|e
   ·cases e;rw[if_pos (gM _),Wk hr,lU,gM];exact⟨n,rfl,bU _⟩
   ·exact absurd e hr
theorem zqp:∀{names:List (Str×NameKind)} {n:Nat} {acc:List (Str×Addr)},(∀x c,acc.lookup x=some c->c<n)->(∀x y c,acc.lookup x=some c->acc.lookup y=some c->x=y)->
  ∀x y c,(cellsFrom n names acc).lookup x=some c->(cellsFrom n names acc).lookup y=some c->x=y
 |[],n,acc,_,hi=>hi
 |(m,k)::r,n,acc,hl,hi=>by
  unfold cellsFrom
  split
  ·refine zqp (fun x c h=>?_) (fun x y c h1 h2=>?_)
   ·rw[lU]at h;cases q:x==m with
    |true=>rw[q]at h;cases h;exact Tr _
    |false=>rw[q]at h;exact Ve (hl x c h)
   ·rw[lU]at h1 h2;cases q:x==m with
    |true=>
     rw[q]at h1;cases h1;cases q2:y==m with
     |true=>rw[qbG.mp q,qbG.mp q2]
     |false=>rw[q2]at h2;exact absurd (hl y n h2) (lV _)
    |false=>
     rw[q]at h1;cases q2:y==m with
     |true=>rw[q2]at h2;cases h2;exact absurd (hl x n h1) (lV _)
     |false=>rw[q2]at h2;exact hi x y c h1 h2
  ·exact zqp hl hi
theorem Yp:∀{names:List (Str×NameKind)} {h:Heap} {acc:List (Str×Addr)},(∀x c,acc.lookup x=some c->∃v,h.IsCell c v)->∀x c,(cellsFrom h.objs.size names acc).lookup x=some c->∃v,(pushCells h names).IsCell c v
 |[],h,acc,ha=>ha
 |(m,k)::r,h,acc,ha=>by
  unfold cellsFrom pushCells
  split
  ·intro x c e;rw[<-jY h {cls:= .type "cell",data:= .cell none}]at e;refine Yp (fun y d q=>?_) x c e;rw[lU]at q;cases z:y==m with
   |true=>rw[z]at q;cases q;exact⟨none,_,eR _ rfl,rfl⟩
   |false=>
    rw[z]at q;obtain⟨v,hv⟩:=ha y d q;exact⟨v,hv.keeps fun b o e=>bH _ e⟩
  ·exact Yp ha
theorem zoA {M:Model}{s:Shared}{globals:Addr}{Q:Env->Shared->Prop}
  (hQ : ∀ h' : Heap, h'.Ns s.heap.objs.size (fun _ => none) -> (∀ a o, s.heap.get? a = some o -> h'.get? a = some o) ->
   ((∀x c,cl.lookup x=some c->∃v,s.heap.IsCell c v)->∀x c,(cellsFrom (s.heap.objs.size+1) scope.names cl).lookup x=some c->∃v,h'.IsCell c v)->
   Q (newEnv scope s.heap.objs.size globals (cellsFrom (s.heap.objs.size+1) scope.names cl) qual none .none (some env) builtinsNs) {s with heap:=h'}):
  wpAny M A (newFunctionEnv scope globals cl [] qual none .none (some env)) Q E s:=by
 simp only[newFunctionEnv,Option.isSome_some,if_true];refine aL (wpAny_alloc ?_);refine aL (wpAny_layCells _ (fun name kind cells=>by cases hkc:kind==NameKind.cell<;>simp[hkc]) _ _ _ _ ?_)
 rw[show({s with heap:=s.heap.push {cls:= .type "dict",data:= .dict #[]}}:Shared).heap.objs.size=s.heap.objs.size+1 from jY ..];refine aL ?_;rw[Fc];refine qaz (qaz (hQ _ ((Heap.Ns.new s.heap (.type "dict")).keeps (pushCells_keeps _ _)) (fun a o e=>pushCells_keeps _ _ a o (bH _ e)) fun hc x c e=>?_));rw[<-jY s.heap {cls:= .type "dict",data:= .dict #[]}]at e;refine Yp (fun y d q=>?_) x c e;obtain⟨v,hv⟩:=hc y d q;exact⟨v,hv.keeps fun b o e=>bH _ e⟩
noncomputable def Kw (scope:Scope)(env:Env)(C:Addr):List (Str×Addr):=cellsFrom (C+1) scope.names (gQ scope env)
noncomputable def En (scope:Scope)(x:Str):Bool:=match scope.names.lookup x with
 |some .cell=>true
 |_=>false
noncomputable def cP (X:Cx)(N:List Str)(scope:Scope)(C:Addr)(s:Shared)(H:Hp)(fp:List Addr):Cx:=
 {X with N:=N,s₀:=s,H₀:=H,env:=compEnvC scope (Kw scope X.env C) C X.env,outer:=X.stack,ex:=fp,fn:=En scope,pn:=[],xe:=fun _ _=>False}
structure BlkOk (X:Cx) (scope:Scope):Prop where
 kind:scope.kind= .function
 uniq:∀y∈scope.names,scope.names.lookup y.1=some y.2
 free:∀y∈scope.names,y.2= .free->X.env.kindOf y.1=some .cell\/X.env.kindOf y.1=some .free
theorem Wo {α:Type}{v:α}:∀{l:List (Str×α)},l.lookup x=some v->(x,v)∈l
 |[],h=>by simp at h
 |(n,w)::r,h=>by
  rw[lU]at h
  by_cases z:(x==n)=true
  ·rw[z]at h;have zz:x=n:=by simpa using z
   subst zz;cases h;exact mD
  ·have z':(x==n)=false:=by simpa using z
   rw[z']at h;exact jD _ (Wo h)
theorem ze9 {env:Env}{x:Str}:∀{names:List (Str×NameKind)},(names.map fun(n,k)=>if(k==NameKind.free&&env.scope.kind== .function&&env.kindOf n==some .cell)then(n,NameKind.cell)else(n,k)).lookup x=
  (names.lookup x).map fun k=>if(k==NameKind.free&&env.scope.kind== .function&&env.kindOf x==some .cell)then NameKind.cell else k
 |[]=>rfl
 |(n,k)::r=>by
  have ih:=ze9 (env:=env) (x:=x) (names:=r);show List.lookup x ((if(k==NameKind.free&&env.scope.kind== .function&&env.kindOf n==some .cell)=true then(n,NameKind.cell)else(n,k))::_)=_;cases hx:x==n with
  |true=>
   have zz:x=n:=by simpa using hx
   by_cases hc:(k==NameKind.free&&env.scope.kind== .function&&env.kindOf n==some .cell)=true
   ·rw[if_pos hc];simp only[lU,hx,Hg];rw[zz,if_pos hc]
   ·rw[if_neg hc];simp only[lU,hx,Hg];rw[zz,if_neg hc]
  |false=>
   by_cases hc:(k==NameKind.free&&env.scope.kind== .function&&env.kindOf n==some .cell)=true
   ·rw[if_pos hc];simp only[lU,hx];exact ih
   ·rw[if_neg hc];simp only[lU,hx];exact ih
section
variable {X:Cx} {pins:List (Addr×Obj)} {σ:St} {H:Hp} {s:Shared} {scope:Scope} {N:List Str} {fp:List Addr} {C:Addr}
theorem Xv (I:Inv X pins σ H s)(b:BlkOk X scope):∀y∈scope.names,y.2= .free->∃c,X.env.cells.lookup y.1=some c:=fun y hy hf=>I.ok.has y.1 (b.free y hy hf)
theorem zI (h:(relabel scope X.env).names.lookup x=some .cell\/(relabel scope X.env).names.lookup x=some .free):(x,NameKind.free)∈scope.names\/(x,NameKind.cell)∈scope.names:=by
 have e:(relabel scope X.env).names.lookup x=(scope.names.lookup x).map fun k=>if(k==NameKind.free&&X.env.scope.kind== .function&&X.env.kindOf x==some .cell)then NameKind.cell else k:=ze9
 rw[e]at h;cases q:scope.names.lookup x with
 |none=>rw[q]at h;simp at h
 |some k=>
  have hm:=Wo q
  by_cases hk:k= .free
  ·subst hk;exact .inl hm
  ·rw[q]at h;have hkf:(k==NameKind.free)=false:=by simpa using hk
   simp only[Hg,hkf,Bool.false_and,Ja,iK,Option.some.injEq]at h;rcases h with h|h
   ·subst h;exact .inr hm
   ·exact absurd h hk
theorem Ow (I:Inv X pins σ H s)(b:BlkOk X scope){c:Addr}(h:(gQ scope X.env).lookup x=some c):X.env.cells.lookup x=some c:=zeS (Xv I b) (by simp) h
theorem zjO (I:Inv X pins σ H s)(b:BlkOk X scope){c:Addr}(h:(Kw scope X.env C).lookup x=some c):C<c\/X.env.cells.lookup x=some c:=by
 rcases Yc h with⟨h1,_⟩|h1
 ·exact .inl h1
 ·exact .inr (Ow I b h1)
theorem zoJ (b:BlkOk X scope)(h:(x,NameKind.free)∈scope.names):(Kw scope X.env C).lookup x=(gQ scope X.env).lookup x:=Wk fun z=>by
 have h1:=b.uniq _ h;have h2:=b.uniq _ z;simp only at h1 h2;rw[h1]at h2;cases h2
theorem Iy (I:Inv X pins σ H s)(b:BlkOk X scope)(hC:s.heap.objs.size<=C)(hf:∀b∈fp,eB X pins H b)(hfC:∀b∈fp,b<C):(cP X N scope C s H fp).Ok where
 mod:=I.ok.mod
 kind:=b.kind
 glob:=I.ok.glob
 blt:=I.ok.blt
 above:=hC
 inj:=zqp (fun x c h=>by
  obtain⟨v,hv⟩:=I.cell x c (Ow I b h);exact Ve (iH hv.lt hC)) fun x y c h1 h2=>I.ok.inj x y c (Ow I b h1) (Ow I b h2)
 has:=fun x hx=>by
  rcases zI (x:=x) hx with hm|hm
  ·show ∃c,(Kw scope X.env C).lookup x=some c;rw[zoJ b hm];exact qaQ.mp (zhv (.inl hm))
  ·obtain⟨c,h,_⟩:=Xe (n:=C+1) (acc:=gQ scope X.env) hm;exact⟨c,h⟩
 cab:=fun x c h e=>by
  have h':En scope x=true:=h;unfold En at h'
  split at h'
  ·rename_i q;obtain⟨c',h1,h2⟩:=Xe (n:=C+1) (acc:=gQ scope X.env) (Wo q);have e':some c'=some c:=h1.symm.trans e;cases e';exact gY hC (Nat.le_of_succ_le h2)
  ·cases h'
 hd:=I.ok.hd
 frames:=I.ok.frames
 stk:= .inl rfl
 exf:=fun a ha=>⟨gC (hfC a ha),fun x c e z=>by
  rcases zjO I b e with q|q
  ·exact Nat.lt_asymm q (z ▸ hfC a ha)
  ·exact(hf a ha).2.2.2.2.1 x c q z⟩
 bs:=I.bs
 bsz:=gY I.ok.bsz I.sz
 noex:=fun a o e ha=>by
  rcases(hf a ha).2.2.2.1 with z|z
  ·exact I.ok.noex a o e z
  ·exact absurd (iH (cY e) (gY I.ok.bsz z)) (lV _)
 exfs:=fun a ha hs=>by
  rcases qam.mp (I.stkSub a hs)with z|z
  ·exact(hf a ha).2.1 z
  ·exact(hf a ha).2.2.1 z
 funs:=I.stack
 frf:=I.stkFree
theorem zq2 {tk:Nat}(I:Inv X pins σ H s)(b:BlkOk X scope)(hf:∀b∈fp,eB X pins H b)(hfs:∀b∈fp,b<s.heap.objs.size)
  (hns:h'.Ns s.heap.objs.size (fun _=>none)) (hk:∀a o,s.heap.get? a=some o->h'.get? a=some o) (hcl:∀x c,(Kw scope X.env s.heap.objs.size).lookup x=some c->∃v,h'.IsCell c v) (hl:σc.length=N.length)
  (hσ:∀(i:Nat) (x:Str) (v:V),N[i]? =some x->σc[i]? =some (some v)->(x,NameKind.free)∈scope.names/\∃j:Nat,X.N[j]? =some x/\σ[j]? =some (some v)) (hloc:∀(i:Nat) (x:Str) (v:V),N[i]? =some x->σc[i]? =some (some v)->¬(relabel scope X.env).names.lookup x=some .local):
  Inv (cP X N scope s.heap.objs.size s H fp) [] σc H {s with heap:=h',toks:=tk}:=by
 have ok:=Iy (N:=N) I b (bU _) hf hfs;refine⟨ok,rfl,I.bare,Un.kept hk,⟨_,hns,fun i x v h1 h2 h3=>?_⟩,fun x c e=>?_,I.hok.fresh (bU _),fun x c e=>?_,fun p hp=>absurd (show p∈([]:List (Addr×Obj))from hp) (by simp),I.hok.kept hk,hl⟩
 ·obtain⟨hm,j,hj,hv⟩:=hσ i x v h1 h2;have hkind:=b.free _ hm rfl;obtain⟨m,hn,hloc'⟩:=I.loc;have hvis:iA X.env.scope x:=by
   rcases hkind with z|z
   ·exact .inr (.inl z)
   ·exact .inr (.inr z)
  obtain⟨u,ru,lk⟩:=hloc' j x v hj hv hvis;refine⟨u,ru,?_⟩;rcases lk with⟨z,_⟩|⟨_,c,ec,hc⟩
  ·exfalso;rcases hkind with w|w<;>simp only at w<;>rw[z]at w<;>cases w
  ·refine .inr ⟨?_,c,?_,?_⟩
   ·rcases h3 with z|z|z
    ·exact absurd z (hloc i x v h1 h2)
    ·exact .inl z
    ·exact .inr z
   ·have hs:((gQ scope X.env).lookup x).isSome=true:=zhv (.inl hm);obtain⟨c',ec'⟩:=qaQ.mp hs;have:=zeS (Xv I b) (by simp) ec';rw[ec]at this;cases this;exact(zoJ b hm).trans ec'
   ·obtain⟨o,ho,hd⟩:=hc;exact⟨o,hk _ _ ho,hd⟩
 ·exact hcl x c e
 ·rcases zjO I b e with q|q
  ·exact I.hok.fresh (Nat.le_of_lt q)
  ·exact I.freeC x c q
theorem zqy {h':Heap}{s1:Shared}(I:Inv X pins σ H s)(hf:∀b∈fp,eB X pins H b)(J:Inv (cP X N scope s.heap.objs.size s H fp) [] σc H' s1)(hs:Heap.SameBut s.heap.objs.size s1.heap h'):Inv X pins σ H' {s1 with heap:=h'}:=by
 have kp:∀a o,a≠s.heap.objs.size->s1.heap.get? a=some o->h'.get? a=some o:=fun a o ha e=>hs.extBut a o ha e
 have free:H' s.heap.objs.size=none:=J.free;have ntr:∀a u,H' a=some u->a≠s.heap.objs.size:=fun a u e z=>by rw[z,free]at e;exact aM e
 have lt:∀a o,s.heap.get? a=some o->a≠s.heap.objs.size:=fun a o e=>gC (cY e)
 have u:Un (frs X.stack) fp H H' s.heap s1.heap:=J.base;have u':Un (frs X.stack) fp H H' s.heap h':=by
  refine⟨fun a o e n hb hx=>kp a o (lt a o e) (u.keep a o e n hb hx),fun a o e n hb hx=>?_,u.free,fun a o e hx=>?_,u.tups,u.frzs,u.tbls⟩
  ·obtain⟨sl,q⟩:=u.slot a o e n hb hx;exact⟨sl,kp a _ (lt a o e) q⟩
  ·obtain⟨o',q⟩:=u.there a o e hx;exact⟨o',kp a _ (lt a o e) q⟩
 have hok:HOk X.prog X.w H' h':=fun a o e=>(J.hok a o e).stay (fun c v hc q=>by
  refine kp c v ?_ q;rcases hc with rfl|hc
  ·exact ntr _ _ e
  ·exact ntr _ _ hc) (fun _ q=>q) fun _ _ q=>q
 obtain⟨hh,g,d,t,os'⟩:=s1;have os:os'=s.os:=J.os;subst os;have z:=I.call (h':=h') (g':=g) (d':=d) (t':=t) (ch:=fp) u' hok J.bare (fun a ha=>⟨(hf a ha).2.2.2.1,(hf a ha).2.1,(hf a ha).2.2.2.2.1,(hf a ha).2.2.2.2.2⟩);exact z
end
noncomputable def Kl (X:Cx)(ifs:List Expr)(t:TT):Prop:=∀(pins:List (Addr×Obj)) (s:Shared) (σ:St) (H:Hp) (Q:Bool->Hp->Prop),Inv X pins σ H s->t σ H Q->
 wpAny (model X.prog X.w) X.A (forIn ifs true fun c r=>if r=true then do let ok<-isTrue c X.env (eval c X.env);pure (ForInStep.yield ok)else pure (ForInStep.yield r)) (TP X pins σ Q) X.xe s
theorem vX:Kl X [] (fun _ H Q=>Q true H):=fun pins s σ H Q I h=>wpAny_tests_nil ⟨H,I,h⟩
theorem vE {c:Expr}{t:TT}(h:PT X c t):Kl X [c] t:=fun pins s σ H Q I hw=>wpAny_tests_one (h pins s σ H Q I hw)
theorem zox {R:Result->Shared->Prop}{s:Shared}{elt target iter:Expr}{it acc:Value}(I:Nat->Shared->Prop)
  (turn : ∀ n s, I n s -> wpAny (model prog w) A (pyNext it) (fun r s₁ => match r with
   |none=>R (.ok .next) s₁
   | some v => wpAny (model prog w) A (letOwnedTupleGo target it v) (fun _ s₁' => wpAny (model prog w) A (assign target env v) (fun _ s₂ =>
     wpAny (model prog w) A (forIn ifs true fun c r=>if r=true then do let ok<-isTrue c env (eval c env);pure (ForInStep.yield ok)else pure (ForInStep.yield r)) (fun ok s₃=>
      if ok=true then wpAny (model prog w) A (eval elt env) (fun x s₄=>
       wpAny (model prog w) A (call (.builtin "list.append") [acc,x]) (fun _ s₅=>∃m,m<n/\I m s₅) (fun _ _=>False) s₄) (fun _ _=>False) s₃
      else ∃m,m<n/\I m s₃) (fun _ _=>False) s₂) (fun _ _=>False) s₁') (fun _ _=>False) s₁) (fun _ _=>False) s)
  (n:Nat) (h:I n s):codeAny (model prog w) A (.compLoop (.ListComp elt [⟨target,iter,ifs,0⟩] scope pos) 0 it acc env) R s:=by
 refine codeAny_loop rfl I (fun n s hI=>?_) n h;show wpAny _ A ((compTurn (.ListComp elt [⟨target,iter,ifs,0⟩] scope pos) 0 it acc env).onRaise (fun x=>do noteFrame x env;theTreesLotGoes x)) _ _ s;refine wpAny_noted ?_;rw[compTurn_list];have no:∀{E:Value->Shared->Prop},∀x s',(fun(_:Value) (_:Shared)=>False) x s'->E x s':=fun _ _ z=>z.elim
 refine aL (Ny (aL (kW (turn n s hI) (fun r s₁ h₁=>?_) no)));cases r with
 |none=>exact qaz h₁
 |some v=>
  refine aL (kW h₁ (fun _ s₁' h₁'=>?_) no);refine aL (kW h₁' (fun _ s₂ h₂=>aL (kW h₂ (fun ok s₃ h₃=>?_) no)) no);cases ok with
  |false=>exact qaz ⟨rfl,h₃⟩
  |true=>
   exact aL (aL (kW h₃ (fun x s₄ h₄=>aL (kW h₄ (fun _ s₅ h₅=>qaz (qaz ⟨rfl,h₅⟩)) no)) no))
noncomputable def Tc (σ0:St->St)(wi:TI)(g:Addr->Shared->Hp->List Addr->TG)(tt:Addr->Shared->Hp->List Addr->TT)(te:Addr->Shared->Hp->List Addr->TE):TE:=fun σ H Q=>wi σ H fun J H1=>∀D,H1 D=none->∃W:Nat->Nat->St->Hp->Prop,(∃m,W 0 m (σ0 σ) (upd H1 D (.lst [])))/\∀i m σ H,W i m σ H->
 (J.stop i H /\ Q (.ref D) H) \/ (J.go i H /\ ∀ C s₀ H₀ fp x H', J.yld i H x H' -> g C s₀ H₀ fp x σ H' fun σ2 H2 => tt C s₀ H₀ fp σ2 H2 fun ok H3 => if ok = true then te C s₀ H₀ fp σ2 H3 fun v H4 => ∃ xs, H4 D = some (.lst xs) /\ xs.length < sizeLine /\ ∃ m', m' < m /\ W (i + 1) m' σ2 (upd H4 D (.lst (xs ++ [v])))
  else ∃m',m'<m/\W (i+1) m' σ2 H3)
section
variable {X:Cx} {elt iter tg:Expr} {ifs:List Expr} {scope:Scope} {pos:Pos} {N:List Str} {σ0:St->St} {wi:TI} {g:Addr->Shared->Hp->List Addr->TG} {tt:Addr->Shared->Hp->List Addr->TT} {te:Addr->Shared->Hp->List Addr->TE}
structure Cap (X:Cx) (scope:Scope) (N:List Str) (σ0:St->St):Prop where
 len:∀σ,(σ0 σ).length=N.length
 src:∀(σ:St) (i:Nat) (x:Str) (v:V),N[i]? =some x->(σ0 σ)[i]? =some (some v)->(x,NameKind.free)∈scope.names/\∃j:Nat,X.N[j]? =some x/\σ[j]? =some (some v)
 loc:∀(σ:St) (i:Nat) (x:Str) (v:V),N[i]? =some x->(σ0 σ)[i]? =some (some v)->¬(relabel scope X.env).names.lookup x=some .local
theorem zqs {E:Value->Shared->Prop}(hc:X.calm=true)(b:BlkOk X scope)(cap:Cap X scope N σ0)(hi:PI X tg iter wi)(hg:∀C s H fp,PG (cP X N scope C s H fp) tg (g C s H fp))(ht:∀C s H fp,Kl (cP X N scope C s H fp) ifs (tt C s H fp))(he:∀C s H fp,PE (cP X N scope C s H fp) elt (te C s H fp))
  {pins:List (Addr×Obj)} {s:Shared} {σ:St} {H:Hp} {Q:VK} (I:Inv X pins σ H s) (h:Tc σ0 wi g tt te σ H Q) {QQ:Value->Shared->Prop} {p0:Pos}
  (hs:∀x,foldedSetIterable iter X.env x=pure x)
  (fin : match use with
   |none=>∀u s',EP X pins σ Q u s'->QQ u s'
   |some f=>∀(D:Addr) (fp:List Addr) (C:Addr) (H1 H':Hp) (σc:St) (s1 s':Shared),Inv X pins σ H1 s1->(∀b∈fp,eB X pins H1 b)->C=s1.heap.objs.size->Inv (cP X N scope C s1 H1 fp) [] σc H' s'->Q (.ref D) H'->
     wpAny (model X.prog X.w) X.A (f (.ref D)) (fun _ s''=>∃m,s''.heap.Ns C m/\∀h',Heap.SameBut C s''.heap h'->QQ .none {s'' with heap:=h'}) X.xe s'):
  wpAny (model X.prog X.w) X.A (comprehension (.ListComp elt [⟨tg,iter,ifs,0⟩] scope pos) scope X.env p0 (newList []) false (eval iter X.env) use) QQ X.xe s:=by
 refine wpAny_comprehension_free (cl:=gQ scope X.env) (g:=⟨tg,iter,ifs,0⟩) (gs:=[]) rfl hs (zpD (Xv I b)) b.kind (fun x hx hl=>hl ▸ b.uniq x hx) ?_;refine bC (hi pins s σ H _ I h) fun v s1 h1=>bC h1 fun itv s2 h2=>?_
 obtain⟨it,fp,tn,J,H2,e,I2,T,st2,f2,h3⟩:=h2;subst e;refine vY ?_ (by show(0:Nat)<=sizeLine;exact lI _);have hD:H2 s2.heap.objs.size=none:=I2.fresh;obtain⟨W,⟨m0,w0⟩,turn⟩:=h3 _ hD;have I3:Inv X pins σ (upd H2 s2.heap.objs.size (.lst [])) {s2 with heap:=s2.heap.push {cls:= .type "list",data:= .seq ([]:List Value).toArray}}:=I2.lnew (t':=s2.toks) .nil (lI _);have f3:∀b∈fp,eB X pins (upd H2 s2.heap.objs.size (.lst [])) b:=fun b hb=>by
  obtain⟨a1,a2⟩:=f2 b hb;obtain⟨o,ho,_⟩:=T.obj _ _ st2 b hb;exact⟨by rw[cF (gC (cY ho))];exact a1,a2⟩
 have st3:tn 0 (s2.heap.push {cls:= .type "list",data:= .seq ([]:List Value).toArray}):=T.keep _ _ _ st2 fun b hb o e=>bH _ e
 generalize hs3:({s2 with heap:=s2.heap.push {cls:= .type "list",data:= .seq ([]:List Value).toArray}}:Shared)=s3 at I3
 have hs3':s3.heap=s2.heap.push {cls:= .type "list",data:= .seq ([]:List Value).toArray}:=by rw[<-hs3]
 rw[<-hs3']at st3;have hfs:∀b∈fp,b<s3.heap.objs.size:=fun b hb=>by
  obtain⟨o,ho,_⟩:=T.obj _ _ st3 b hb;exact cY ho
 show wpAny _ _ (newFunctionEnv scope X.env.globals (gQ scope X.env) [] X.env.qual none .none (some X.env)) _ _ s3;refine zoA fun h' hns hk hcl=>?_
 have hcl:=hcl fun x c e=>I3.cell x c (Ow I3 b e)
 generalize hDD:s2.heap.objs.size=DD at*
 have B0:Inv (cP X N scope s3.heap.objs.size s3 (upd H2 DD (.lst [])) fp) [] (σ0 σ) (upd H2 DD (.lst [])) {s3 with heap:=h'}:=
  zq2 (tk:=s3.toks) I3 b f3 hfs hns hk hcl (cap.len σ) (cap.src σ) (cap.loc σ)
 have stat:∀{H':Hp},(∀b∈fp,H' b=none)->∀b∈fp,eB (cP X N scope s3.heap.objs.size s3 (upd H2 DD (.lst [])) fp) [] H' b:=fun hn b' hb=>by
  refine⟨hn b' hb,gC (hfs b' hb),fun z=>?_,.inl hb,fun x c e=>?_,fun p hp=>absurd (show p∈([]:List (Addr×Obj))from hp) (by simp)⟩
  ·rcases qam.mp (I3.stkSub b' z)with w|w
   ·exact(f3 b' hb).2.1 w
   ·exact(f3 b' hb).2.2.1 w
  ·intro z;rcases zjO I3 b e with q|q
   ·exact Nat.lt_asymm q (z ▸ hfs b' hb)
   ·exact(f3 b' hb).2.2.2.2.1 x c q z
 have tn0:tn 0 h':=T.keep _ _ _ st3 fun b' hb o e=>hk b' o e
 have post:∀(s':Shared) (σc:St) (H':Hp),Inv (cP X N scope s3.heap.objs.size s3 (upd H2 DD (.lst [])) fp) [] σc H' s'->Q (.ref DD) H'->compPost (model X.prog X.w) X.A X.xe use QQ (.ref DD) s3.heap.objs.size (.ok .next) s':=fun s' σc H' J' q=>by
  cases use with
  |none=>
   obtain⟨m,hn,_⟩:=J'.loc;exact⟨m,hn,fun h'' hs''=>fin _ _ ⟨.ref DD,H',zqy I3 f3 J' hs'',rfl,q⟩⟩
  |some f=>exact fin DD fp _ _ H' σc s3 s' I3 f3 rfl J' q
 have loop:codeAny (model X.prog X.w) X.A (.compLoop (.ListComp elt [⟨tg,iter,ifs,0⟩] scope pos) 0 (.ref it) (.ref DD) (compEnvC scope (Kw scope X.env s3.heap.objs.size) s3.heap.objs.size X.env)) (compPost (model X.prog X.w) X.A X.xe use QQ (.ref DD) s3.heap.objs.size) {s3 with heap:=h'}:=by
  refine zox (fun n s'=>∃i σ' H',Inv (cP X N scope s3.heap.objs.size s3 (upd H2 DD (.lst [])) fp) [] σ' H' s'/\tn i s'.heap/\(∀b∈fp,H' b=none)/\W i n σ' H') ?_ m0 ⟨0,σ0 σ,_,B0,tn0,fun b' hb=>(f3 b' hb).1,w0⟩;rintro n s5 ⟨i,σ5,H5,I5,st5,fr5,w5⟩;rcases turn i n σ5 H5 w5 with⟨stop,qn⟩|⟨go,step⟩
  ·refine bC (T.done (cP X N scope s3.heap.objs.size s3 (upd H2 DD (.lst [])) fp) rfl rfl rfl hc i [] s5 σ5 H5 (fun _ _=>False) I5 (stat fr5) st5 stop) fun r s6 ⟨hr,I6⟩=>?_
   subst hr;exact post s6 σ5 H5 I6 qn
  ·refine bC (T.item (cP X N scope s3.heap.objs.size s3 (upd H2 DD (.lst [])) fp) rfl rfl rfl hc i [] s5 σ5 H5 (fun _ _=>False) I5 (stat fr5) st5 go) fun r s6 ⟨u,hr,h6⟩=>?_
   subst hr;refine bC h6 fun _ s7 ⟨x,H7,I7,r7,y7,st7,fr7⟩=>?_
   have I7':=I7.pinned (stat fr7) (T.obj _ _ st7);have again:∀{σ8:St} {H8:Hp} {s8:Shared} {m':Nat},Inv (cP X N scope s3.heap.objs.size s3 (upd H2 DD (.lst [])) fp) ([]++Pg fp s7.heap) σ8 H8 s8->m'<n->W (i+1) m' σ8 H8->
     ∃m,m<n/\∃i σ' H',Inv (cP X N scope s3.heap.objs.size s3 (upd H2 DD (.lst [])) fp) [] σ' H' s8/\tn i s8.heap/\(∀b∈fp,H' b=none)/\W i m σ' H':=fun{σ8 H8 s8 m'} I8 hm w8=>by
    refine⟨m',hm,i+1,σ8,H8,I8.unpinned,T.keep _ _ _ st7 fun b' hb o e=>(I8.pin (b',o) (jK _ (jK _ (Vq hb e)))).1,fun b' hb=>?_,w8⟩;obtain⟨o,e,d⟩:=T.obj _ _ st7 b' hb;exact(I8.pin (b',o) (jK _ (jK _ (Vq hb e)))).2.1
   refine bC (hg _ _ _ _ _ s7 σ5 H7 x u _ I7' r7 (step _ _ _ _ x H7 y7)) fun _ s8 ⟨σ8,H8,I8,q8⟩=>?_
   refine bC (ht _ _ _ _ _ s8 σ8 H8 _ I8 q8) fun ok s9 ⟨H9,I9,q9⟩=>?_
   cases ok with
   |false=>
    obtain⟨m',hm,w9⟩:=q9;exact again I9 hm w9
   |true=>
    refine bC (he _ _ _ _ _ s9 σ8 H9 _ I9 q9) fun u10 s10 ⟨v10,H10,I10,r10,xs,hx,hz,m',hm,w10⟩=>?_
    refine bC (znm _ s10 σ8 H10 (.ref DD) [v10] (.ref DD) [u10] (fun v H'=>v= .non/\H'=upd H10 DD (.lst (xs++[v10]))) I10 rfl (.cons r10 .nil) ⟨DD,xs,v10,rfl,rfl,hx,hz,rfl,rfl⟩) fun _ s11 ⟨_,H11,I11,_,_,e11⟩=>?_
    subst e11;exact again I11 hm w10
 exact codeAny_compStart_list loop (T.self _ _ _ _ _ tn0 loop)
theorem Ap (hc:X.calm=true)(b:BlkOk X scope)(cap:Cap X scope N σ0)(hi:PI X tg iter wi)(hg:∀C s H fp,PG (cP X N scope C s H fp) tg (g C s H fp))(ht:∀C s H fp,Kl (cP X N scope C s H fp) ifs (tt C s H fp))(he:∀C s H fp,PE (cP X N scope C s H fp) elt (te C s H fp))
    (hs:autoParam (∀x,foldedSetIterable iter X.env x=pure x) zu9._auto_1):PE X (.ListComp elt [⟨tg,iter,ifs,0⟩] scope pos) (Tc σ0 wi g tt te):=by
  intro pins s σ H Q I h;rw[eval_ListComp];exact zqs (use:=none) (E:=X.xe) hc b cap hi hg ht he I h hs (fun u s' q=>q)
end
noncomputable def hU (ρ:R):Bool:=ρ.all fun s=>match s with
 | .own _=>false
 | .par _=>false
 | .tre _=>false
 | .ptr _=>false
 |_=>true
theorem zo6 (h:hU ρ=true){a:Addr}(e:ρ[i]? =some s):¬eZ K G H ov a s:=fun w=>by
 unfold hU at h;rw[qbU]at h;have:=h s (Lk e);cases s with
 |emp=>exact w
 |two _ _=>exact w
 |val d=>exact w
 |_=>exact absurd (show false=true from this) iX
theorem Wu (h:hU ρ=true)(e:ρ[i]? =some s):(∀t,s≠ .tre t)/\∀t,s≠ .ptr t:=by
 unfold hU at h;rw[qbU]at h;have:=h s (Lk e)
 constructor
 ·rintro t rfl;exact absurd (show false=true from this) iX
 ·rintro t rfl;exact absurd (show false=true from this) iX
theorem Tu (h:hU ρ=true):¬Wr ρ i:=fun⟨s,ds,e,q⟩=>by
 unfold hU at h;rw[qbU]at h;have:=h s (Lk e);cases s with
 |emp=>exact aM q
 |two _ _=>exact aM q
 |tre _=>exact aM q
 |ptr _=>exact aM q
 |val d=>exact aM q
 |own d=>exact absurd (show false=true from this) iX
 |par d=>exact absurd (show false=true from this) iX
structure VS (K:W.Frag) (G:Hp) (σ:St) (ρ:R):Prop where
 len:σ.length=ρ.length
 no:hU ρ=true
 val:∀(i:Nat) d,ρ[i]? =some (.val d)->∃v,σ[i]? =some (some v)/\RepD K G v d
theorem VS.si (h:VS K G σ ρ)(fz:Fz G H):SI K ⟨G,H,[]⟩ G H σ ρ where
 fz:=fz
 g0:=Fz.refl G
 new:=fun b o e=> .inl (by show G b≠none;rw[e];simp)
 keep:=fun b o e _=>e
 there:=fun b e=>e
 ob:=fun i b m=>by cases m
 len:=h.len
 slot:=fun i s e=>by
  cases s with
  |emp=>trivial
  |two _ _=>trivial
  |tre t=>exact absurd rfl ((Wu h.no e).1 t)
  |ptr t=>exact absurd rfl ((Wu h.no e).2 t)
  |val d=>exact h.val i d e
  |own ds=>exact absurd ⟨_,ds,e,rfl⟩ (Tu h.no (i:=i))
  |par ds=>exact absurd ⟨_,ds,e,rfl⟩ (Tu h.no (i:=i))
 dis:=fun i j s _ a _ e _ w=>absurd w (zo6 h.no e)
theorem VS.of (I:SI K B G H σ ρ)(h:hU ρ=true):VS K G σ ρ:=⟨I.len,h,fun i d e=>I.slot i _ e⟩
noncomputable def fz1 (i:Nat)(ρ:R):R:=match ρ[i]? with
 |some (.own ds)=>ρ.set i (.val (.lst ds))
 |_=>ρ
noncomputable def fzL:List Nat->R->R
 |[],ρ=>ρ
 |i::is,ρ=>fzL is (fz1 i ρ)
theorem SI.fz1 (I:SI K B G H σ ρ)(i:Nat):∃G',SI K B G' H σ (M.fz1 i ρ)/\Fz G G':=by
 unfold M.fz1;cases e:ρ[i]? with
 |none=>exact⟨G,I,Fz.refl G⟩
 |some s=>
  cases s with
  |own ds=>obtain⟨l,xs,_,f,_,I'⟩:=I.freeze e;exact⟨_,I',f⟩
  |emp=>exact⟨G,I,Fz.refl G⟩
  |two _ _=>exact⟨G,I,Fz.refl G⟩
  |tre _=>exact⟨G,I,Fz.refl G⟩
  |ptr _=>exact⟨G,I,Fz.refl G⟩
  |val _=>exact⟨G,I,Fz.refl G⟩
  |par _=>exact⟨G,I,Fz.refl G⟩
theorem SI.fzL:∀(is:List Nat) {G:Hp} {ρ:R},SI K B G H σ ρ->∃G',SI K B G' H σ (M.fzL is ρ)/\Fz G G'
 |[],G,ρ,I=>⟨G,I,Fz.refl G⟩
 |i::is,G,ρ,I=>by
  obtain⟨G1,I1,f1⟩:=I.fz1 i;obtain⟨G2,I2,f2⟩:=SI.fzL is I1;exact⟨G2,I2,f1.trans f2⟩
noncomputable def kD (ρ:R)(i:Nat):Sl:=match ρ[i]? with
 |some (.val d)=> .val d
 |_=> .emp
theorem zpJ (ρ:R)(i:Nat):kD ρ i= .emp\/∃d,kD ρ i= .val d:=by
 unfold kD
 split
 ·exact .inr ⟨_,rfl⟩
 ·exact .inl rfl
noncomputable def gH (cap:List Nat)(t:Nat)(ρ:R):R:=cap.map (kD ρ)++List.replicate t .emp
noncomputable def dU (cap:List Nat)(t:Nat)(σ:St):St:=cap.map (fun i=>(σ[i]?).join)++List.replicate t none
theorem pY (I:SI K B G H σ ρ)(cap:List Nat)(t:Nat):VS K G (dU cap t σ) (gH cap t ρ) where
 len:=by unfold dU gH;simp
 no:=by
  unfold hU gH;rw[qbU];intro s hs;rcases qan.mp hs with h|h
  ·obtain⟨i,_,rfl⟩:=qbV.mp h;rcases zpJ ρ i with e|⟨d,e⟩
   ·rw[e]
   ·rw[e]
  ·rw[List.eq_of_mem_replicate h]
 val:=fun i d e=>by
  unfold gH at e
  by_cases hi:i<cap.length
  ·rw[jS (by simpa using hi),fJ,cG hi]at e;have e':kD ρ cap[i]= .val d:=by simpa using e
   unfold kD at e'
   split at e'
   ·rename_i d' q;cases e';obtain⟨v,h1,h2⟩:=I.slot _ _ q;refine⟨v,?_,h2⟩;unfold dU;rw[jS (by simpa using hi),fJ,cG hi];simp[h1]
   ·cases e'
  ·rw[qT (by simpa using hi),vK]at e
   split at e
   ·cases e
   ·exact aM e
noncomputable def iG (f:D->R->Option (Option D×R)):List D->R->Option (List D×R)
 |[],ρ=>some ([],ρ)
 |d::ds,ρ=>(f d ρ).bind fun p=>(iG f ds p.2).map fun q=>(p.1.toList++q.1,q.2)
noncomputable def lF (g:D->R->Option R)(mt:MT)(me:ME):D->R->Option (Option D×R):=fun d ρ=>(g d ρ).bind fun ρ1=>(mt ρ1).bind fun p=>if p.1 then(me p.2).bind fun q=>if hU q.2 then some (some q.1,q.2)else none else if hU p.2 then some (none,p.2)else none
noncomputable def dJ (cap:List Nat)(t:Nat)(mi:MA)(g:D->R->Option R)(mt:MT)(me:ME):MO:=fun ρ=>(mi ρ).bind fun p=>if p.1.length<=16777216 then(iG (lF g mt me) p.1 (gH cap t (fzL cap p.2))).map fun q=>(q.1,fzL cap p.2)else none
noncomputable def Sy (X:Cx)(ifs:List Expr)(m:MT)(t:TT):Prop:=∀B G H σ ρ d ρ' (Q:Bool->Hp->Prop),SI X.K B G H σ ρ->m ρ=some (d,ρ')->(∀G' H',SI X.K B G' H' σ ρ'->Fz G G'->Q d H')->t σ H Q
noncomputable def xB (X:Cx)(ifs:List Expr)(m:MT):Prop:=∃t,Kl X ifs t/\Sy X ifs m t
noncomputable def dD:MT:=fun ρ=>some (true,ρ)
theorem dO:xB X [] dD:=⟨_,vX,fun B G H σ ρ d ρ' Q I hm k=>by obtain⟨rfl,rfl⟩:=bT hm;exact k G H I (Fz.refl G)⟩
theorem zr4 {c:Expr}{m:MT}(h:STt X c m):xB X [c] m:=h.el fun t p s=>⟨t,vE p,s⟩
noncomputable def iR (env:Env)(scope:Scope):Bool:=(scope.names.all fun x=>scope.names.lookup x.1==some x.2&&(x.2 != .free||(env.kindOf x.1==some .cell||env.kindOf x.1==some .free)))
theorem Mg (hk:scope.kind= .function)(h:iR X.env scope=true):BlkOk X scope:=by
 unfold iR at h;rw[qbU]at h;refine⟨hk,fun x hx=>?_,fun x hx hf=>?_⟩
 ·have:=h x hx;simp only[eO,Xb,Mt,qbG]at this;exact this.1
 ·have:=h x hx;simp only[eO,Xb,Mt,qbG]at this;exact(this.2).resolve_left (fun z=>z hf)
noncomputable def jB (names:List (Str×NameKind))(N XN:List Str)(cap:List Nat)(t:Nat):Bool:=N.length==cap.length+t&&(cap.zip N).all fun p=>XN[p.1]? ==some p.2&&names.lookup p.2==some .free
theorem Kj (h:jB scope.names N X.N cap t=true):Cap X scope N (dU cap t):=by
 unfold jB at h;rw[eO,qbU]at h;obtain⟨hl,h⟩:=h;have hl:N.length=cap.length+t:=by simpa using hl
 have key:∀(σ:St) (i:Nat) (x:Str) (v:V),N[i]? =some x->(dU cap t σ)[i]? =some (some v)->∃j,cap[i]? =some j/\σ[j]? =some (some v)/\X.N[j]? =some x/\scope.names.lookup x=some .free:=fun σ i x v h1 h2=>by
  unfold dU at h2
  by_cases hi:i<cap.length
  ·rw[jS (by simpa using hi),fJ,cG hi]at h2;have h3:(σ[cap[i]]?).join=some v:=by simpa using h2
   have hz:(cap[i],x)∈cap.zip N:=by
    refine Lk (i:=i) ?_;rw[List.getElem?_zip_eq_some];exact⟨cG hi,h1⟩
   have:=h _ hz;simp only[eO,qbG]at this;refine⟨cap[i],cG hi,?_,this.1,this.2⟩;cases q:σ[cap[i]]? with
   |none=>rw[q]at h3;exact aM h3
   |some o=>rw[q]at h3;rw[show o=some v from h3]
  ·rw[qT (by simpa using hi),vK]at h2
   split at h2<;>cases h2
 refine⟨fun σ=>by unfold dU;simp[hl],fun σ i x v h1 h2=>?_,fun σ i x v h1 h2 z=>?_⟩
 ·obtain⟨j,_,a,b,c⟩:=key σ i x v h1 h2;exact⟨Wo c,j,b,a⟩
 ·obtain⟨j,_,a,b,c⟩:=key σ i x v h1 h2;have e:(relabel scope X.env).names.lookup x=(scope.names.lookup x).map fun k=>if(k==NameKind.free&&X.env.scope.kind== .function&&X.env.kindOf x==some .cell)then NameKind.cell else k:=ze9
  rw[e,c]at z;simp only[Hg,Option.some.injEq]at z
  split at z<;>cases z
noncomputable def kY (ok:R->Bool)(g:D->R->Option R)(mt:MT)(me:ME):D->R->Option (Option D×R):=fun d ρ=>(g d ρ).bind fun ρ1=>(mt ρ1).bind fun p=>if p.1 then(me p.2).bind fun q=>if ok q.2 then some (some q.1,q.2)else none else if ok p.2 then some (none,p.2)else none
theorem Mr {α β:Type}{a c:α}{b d:β}(h:some (a,b)=some (c,d))(k:a=c->b=d->C):C:=k (bT h).1 (bT h).2
theorem sI {ok:R->Bool}{mt:MT}{me:ME}(h:kY ok g mt me d ρ=some (o,ρ'))(k:∀ρ1 b ρ2,g d ρ=some ρ1->mt ρ1=some (b,ρ2)->((b=true/\∃dv,me ρ2=some (dv,ρ')/\o=some dv)\/(b=false/\o=none/\ρ2=ρ'))->ok ρ'=true->C):C:=by
 unfold kY at h;refine bA h fun ρ1 e1 h=>bP h fun b ρ2 e2 h=>?_
 cases b with
 |true=>exact bP h fun dv ρ3 e3 h=>bJ h fun z h=>Mr h fun q1 q2=>by subst q2;exact k ρ1 _ ρ2 e1 e2 (.inl ⟨rfl,dv,e3,q1.symm⟩) z
 |false=>exact bJ h fun z h=>Mr h fun q1 q2=>by subst q2;exact k ρ1 _ ρ2 e1 e2 (.inr ⟨rfl,q1.symm,rfl⟩) z
theorem zpy {f:D->R->Option (Option D×R)}{d:D}(h:iG f (d::ds) ρ=some (out,ρ'))(k:∀o ρ1 rest,f d ρ=some (o,ρ1)->iG f ds ρ1=some (rest,ρ')->out=o.toList++rest->C):C:=by
 simp only[iG]at h;exact bP h fun o ρ1 e1 h=>iJ h fun rest ρ2 e2 h=>by
  obtain⟨rfl,rfl⟩:=Prod.mk.inj h;exact k o ρ1 rest e1 e2 rfl
structure LcG (K:W.Frag) (O:List (Nat×Addr)) (G2 H1:Hp) (DD:Addr) (Hc Gc:Hp) (xs:List V):Prop where
 fc:Fz G2 Gc
 fcH:Fz Gc Hc
 nw:∀b o,Gc b=some o->G2 b≠none\/H1 b=none
 kp:∀b o,(∀i,(i,b)∉O)->H1 b=some o->Hc b=some o
 gD:Gc DD=none
 hDc:Hc DD=some (.lst xs)
theorem zq4 {b:Addr}(h:∀o,H b=some o->False):H b=none:=by
 cases q:H b with
 |none=>rfl
 |some u=>exact(h u q).elim
theorem LcG.next {G2 H1:Hp}(J:LcG K O G2 H1 DD Hc Gc xs)(hO:∀i,(i,DD)∉O){σ':St}(I:SI K ⟨Gc,Hc,O⟩ G' H' σ' ρ'):LcG K O G2 H1 DD H' G' xs where
 fc:=J.fc.trans I.g0
 fcH:=I.fz
 nw:=fun b o e=>(I.new b o e).elim (fun h=>by
  cases q:Gc b with
  |none=>exact absurd q h
  |some u=>exact J.nw b u q) fun h=> .inr (zq4 fun u q=>Classical.byCases (p:=∀i,(i,b)∉O) (fun n=>aM ((show Hc b=none from h).symm.trans (J.kp b u n q))) fun n=>n fun i m=>I.ob i b m h)
 kp:=fun b o n e=>I.keep b o (J.kp b o n e) n
 gD:=zq4 fun u q=>(I.new DD u q).elim (fun h=>h J.gD) fun h=>aM ((show Hc DD=none from h).symm.trans J.hDc)
 hDc:=I.keep DD _ J.hDc hO
theorem LcG.put {G2 H1:Hp}(J:LcG K O G2 H1 DD Hc Gc xs)(hD:H1 DD=none)(ys:List V):LcG K O G2 H1 DD (upd Hc DD (.lst ys)) Gc ys where
 fc:=J.fc
 fcH:=J.fcH.right J.gD _
 nw:=J.nw
 kp:=fun b o n e=>(cF (mM e hD)).trans (J.kp b o n e)
 gD:=J.gD
 hDc:=gK
section
variable {X:Cx} {elt iter tg:Expr} {ifs:List Expr} {scope:Scope} {pos:Pos} {N:List Str} {cap:List Nat} {t:Nat} {mi:MA} {g:D->R->Option R} {mt:MT} {me:ME}
structure LcB (X:Cx) (scope:Scope) (N:List Str) (elt tg:Expr) (ifs:List Expr) (g:D->R->Option R) (mt:MT) (me:ME) (tg':Addr->Shared->Hp->List Addr->TG) (tt:Addr->Shared->Hp->List Addr->TT) (te:Addr->Shared->Hp->List Addr->TE):Prop where
 sg:∀C s H fp,Xy (cP X N scope C s H fp) tg g (tg' C s H fp)
 st:∀C s H fp,Sy (cP X N scope C s H fp) ifs mt (tt C s H fp)
 se:∀C s H fp,SEb (cP X N scope C s H fp) elt me (te C s H fp)
noncomputable def LcW (σs:St)(J:It)(DD:Addr)(H1:Hp)(tg':Addr->Shared->Hp->List Addr->TG)(tt:Addr->Shared->Hp->List Addr->TT)(te:Addr->Shared->Hp->List Addr->TE)(Q:VK):Prop:=∃W:Nat->Nat->St->Hp->Prop,(∃m,W 0 m σs (upd H1 DD (.lst [])))/\∀i m σ H,W i m σ H->
 (J.stop i H /\ Q (.ref DD) H) \/ (J.go i H /\ ∀ C s₀ H₀ fp x H', J.yld i H x H' -> tg' C s₀ H₀ fp x σ H' fun σ2 H2 => tt C s₀ H₀ fp σ2 H2 fun ok H3 => if ok = true then te C s₀ H₀ fp σ2 H3 fun v H4 => ∃ xs, H4 DD = some (.lst xs) /\ xs.length < sizeLine /\ ∃ m', m' < m /\ W (i + 1) m' σ2 (upd H4 DD (.lst (xs ++ [v])))
  else ∃m',m'<m/\W (i+1) m' σ2 H3)
theorem znM (blk:LcB X scope N elt tg ifs g mt me tg' tt te){ok:R->Bool}{items all:List D}{ρs ρf:R}{G1 G2 H1:Hp}{σs:St}{J:It}{Q:VK}
  (IT:Itm X.K J G1 items) (f2:Fz G1 G2) (fH:Fz G2 H1) (hD:H1 DD=none) (hlen:items.length<=16777216) (hO:∀i,(i,DD)∉O)
  (jsi:∀G H σ ρ,JJ G H σ ρ->Fz G H->SI X.K ⟨G,H,O⟩ G H σ ρ) (joi:∀Gb Hb G H σ ρ,SI X.K ⟨Gb,Hb,O⟩ G H σ ρ->ok ρ=true->JJ G H σ ρ) (jup:∀G H σ ρ xs,JJ G H σ ρ->JJ G (upd H DD (.lst xs)) σ ρ)
  (j0:JJ G2 H1 σs ρs) (e2:iG (kY ok g mt me) items ρs=some (all,ρf))
  (k:∀Gc Hc σc xs,LcG X.K O G2 H1 DD Hc Gc xs->RepL X.K Gc xs all->JJ Gc Hc σc ρf->Q (.ref DD) Hc):LcW σs J DD H1 tg' tt te Q:=by
 refine⟨fun i m σc Hc=>m=items.length-i/\i<=items.length/\∃Gc ρc acc xs rest,LcG X.K O G2 H1 DD Hc Gc xs/\RepL X.K Gc xs acc/\xs.length<=i/\JJ Gc Hc σc ρc/\iG (kY ok g mt me) (items.drop i) ρc=some (rest,ρf)/\all=acc++rest,
  ⟨items.length,rfl,lI _,G2,ρs,[],[],all,⟨Fz.refl _,fH.right (fH.free hD) _,fun b o e=> .inl (by rw[e];exact nofun),fun b o _ e=>(cF (mM e hD)).trans e,fH.free hD,gK⟩,.nil,bU _,jup _ _ _ _ _ j0,e2,rfl⟩,?_⟩
 rintro i m σc Hc ⟨rfl,hi,Gc,ρc,acc,xs,rest,J0,ra,hx,jj,ec,eall⟩
 by_cases hlt:i<items.length
 ·refine .inr ⟨IT.go Hc i (f2.trans (J0.fc.trans J0.fcH)) hlt,fun C s₀ H₀ fp x H' y=>?_⟩;rw[qbI hlt]at ec;refine zpy ec fun o ρ3 rest2 h3 h4 er=>sI h3 fun ρ5 b ρ6 h5 h6 hb hok=>?_
  have f3':Fz G1 Gc:=f2.trans J0.fc;have yy2:(H'=Hc/\RepD X.K Gc x items[i])\/∃p xs es,Hc p=none/\H'=upd Hc p (.tup xs)/\x= .ref p/\items[i]= .tup es/\RepL X.K Gc xs es:=(IT.yld Hc i x H' (f3'.trans J0.fcH) y items[i] (cG hlt)).imp (fun q=>⟨q.1,q.2.mono f3'⟩) fun⟨p,xs,es,a,b,c,d,e⟩=>⟨p,xs,es,a,b,c,d,e.mono f3'⟩
  obtain⟨G3,I3,f3,r3⟩:=(jsi _ _ _ _ jj J0.fcH).yld yy2;refine blk.sg C s₀ H₀ fp _ G3 H' σc ρc x items[i] ρ5 _ I3 r3 h5 fun G4 H4 σ4 I4 f4=>blk.st C s₀ H₀ fp _ G4 H4 σ4 ρ5 b ρ6 _ I4 h6 fun G5 H5 I5 f5=>?_
  have hlt2:items.length-(i+1)<items.length-i:=by lia
  rcases hb with⟨rfl,dv,h7,rfl⟩|⟨rfl,rfl,rfl⟩
  ·refine blk.se C s₀ H₀ fp _ G5 H5 σ4 ρ6 dv _ _ I5 h7 fun G6 H6 v I6 f6 r6=>?_
   have J1:=J0.next hO I6;exact⟨xs,J1.hDc,by rw[iL];lia,_,hlt2,rfl,hlt,G6,_,acc++[dv],xs++[v],rest2,J1.put hD _,(ra.mono I6.g0).snoc r6,by rw[iC,Pp];lia,jup _ _ _ _ _ (joi _ _ _ _ _ _ I6 hok),h4,by rw[eall,er,List.append_assoc];rfl⟩
  ·exact⟨_,hlt2,rfl,hlt,G5,_,acc,xs,rest2,J0.next hO I5,ra.mono I5.g0,by lia,joi _ _ _ _ _ _ I5 hok,h4,by rw[eall,er];rfl⟩
 ·have e:i=items.length:=by lia
  subst e;rw[List.drop_length]at ec;have hr:=bT ec;obtain⟨q1,q2⟩:=hr;subst q1 q2;rw[Bn]at eall;subst eall;exact .inl ⟨IT.stop Hc _ (f2.trans (J0.fc.trans J0.fcH)) (bU _),k Gc Hc σc xs J0 ra jj⟩
theorem zmA (si:uU X tg iter mi wi)(blk:LcB X scope N elt tg ifs g mt me tg' tt te):
  ∀B G H σ ρ ds ρ' (Q:VK),SI X.K B G H σ ρ->dJ cap t mi g mt me ρ=some (ds,ρ')->
   (∀G' H' l xs,SI X.K B G' H' σ ρ'->Fz G G'->G' l=none->H' l=some (.lst xs)->RepL X.K G' xs ds->B.H l=none->Nw X.K G' H' σ ρ' l->Q (.ref l) H')->Tc (dU cap t) wi tg' tt te σ H Q:=fun B G H σ ρ ds ρ' Q I hm k=>
 bP hm fun items ρ1 e1 hm=>si B G H σ ρ items ρ1 _ I e1 fun J G1 H1 I1 f1 IT DD hD=>bJ hm fun hlen hm=>iJ hm fun all ρf e2 e3=>by
  obtain⟨rfl,rfl⟩:=Prod.mk.inj e3;obtain⟨G2,I2,f2⟩:=SI.fzL cap I1;exact znM blk (O:=[]) (JJ:=fun G _ σ ρ=>VS X.K G σ ρ) IT f2 I2.fz hD hlen (fun i m=>nomatch m) (fun G H σ ρ h f=>h.si f) (fun _ _ _ _ _ _ I h=>VS.of I h) (fun _ _ _ _ _ h=>h) (pY I2 cap t) e2
   fun Gc Hc σc xs J ra _=>k Gc Hc DD xs (I2.grow J.fc J.fcH J.nw fun b o e=>J.kp b o nofun e) (f1.trans (f2.trans J.fc)) J.gD J.hDc ra (I2.there DD hD) (I2.own_ne hD J.nw fun b o e=>J.kp b o nofun e)
theorem LcB.mk' (hg:∀C s H fp,SG (cP X N scope C s H fp) tg g)(ht:∀C s H fp,xB (cP X N scope C s H fp) ifs mt)(he:∀C s H fp,SE (cP X N scope C s H fp) elt me):LcB X scope N elt tg ifs g mt me (fun C s H fp=>(hg C s H fp).choose) (fun C s H fp=>(ht C s H fp).choose) (fun C s H fp=>(he C s H fp).choose):=⟨fun C s H fp=>(hg C s H fp).choose_spec.2,fun C s H fp=>(ht C s H fp).choose_spec.2,fun C s H fp=>(he C s H fp).choose_spec.2⟩
theorem fQ (cap:List Nat)(t:Nat)(N:List Str)(hc:X.calm=true)(hi:SIt X tg iter mi)(hg:∀C s H fp,SG (cP X N scope C s H fp) tg g)(ht:∀C s H fp,xB (cP X N scope C s H fp) ifs mt)(he:∀C s H fp,SE (cP X N scope C s H fp) elt me)
    (hk:autoParam (scope.kind= .function) zu3._auto_1) (hb:autoParam (iR X.env scope=true) zu10._auto_1) (hcap:autoParam (jB scope.names N X.N cap t=true) zu10._auto_1)
    (hs:autoParam (∀x,foldedSetIterable iter X.env x=pure x) zu9._auto_1):SO X (.ListComp elt [⟨tg,iter,ifs,0⟩] scope pos) (dJ cap t mi g mt me):=by
  refine hi.el fun wi pi si=>?_
  exact⟨_,Ap hc (Mg hk hb) (Kj hcap) pi (fun C s H fp=>(hg C s H fp).choose_spec.1) (fun C s H fp=>(ht C s H fp).choose_spec.1) (fun C s H fp=>(he C s H fp).choose_spec.1) hs,
    zmA si (.mk' hg ht he)⟩
end
section
variable {X:Cx} {elt iter tg:Expr} {ifs:List Expr} {scope:Scope} {pos lpos pos':Pos} {N:List Str} {cap:List Nat} {t:Nat} {mi:MA} {g:D->R->Option R} {mt:MT} {me:ME}
theorem Tz {σ0:St->St}(hN:X.N.Nodup)(hxi:X.N[i]? =some x)(hx:iP X.env.scope x)(hf:X.fn x=true\/X.env.scope.names.lookup x=some .local)
  (hsw:swapsWith (.ListComp elt [⟨tg,iter,ifs,0⟩] scope lpos) (some (.Name x pos')) pos.line X.env=pure true) (hc:X.calm=true) (b:BlkOk X scope) (cap:Cap X scope N σ0) (hi:PI X tg iter wi) (hg:∀C s H fp,PG (cP X N scope C s H fp) tg (tg' C s H fp)) (ht:∀C s H fp,Kl (cP X N scope C s H fp) ifs (tt C s H fp)) (he:∀C s H fp,PE (cP X N scope C s H fp) elt (te C s H fp))
  (hs:∀x,foldedSetIterable iter X.env x=pure x):PS X (.Assign [.Name x pos'] (.ListComp elt [⟨tg,iter,ifs,0⟩] scope lpos) pos) (fun E σ H=>Tc σ0 wi tg' tt te σ H fun v H'=>E.nx (σ.set i (some v)) H'):=by
 intro pins s σ H E I h;rw[exec_Assign_Name_used _ _ _ _ hsw];refine aL (Ny (aL ?_));show wpAny _ _ (do let _<-comprehension (.ListComp elt [⟨tg,iter,ifs,0⟩] scope lpos) scope X.env _ (newList []) false (eval iter X.env) (some (assign (.Name x pos') X.env))) _ _ s;refine aL (bC (zqs (use:=some (assign (.Name x pos') X.env)) (QQ:=fun _ s'=>SP X pins E .next s') (E:=X.xe) hc b cap hi hg ht he I h hs ?_) fun _ s' hq=>qaz (qaz hq));intro D fp C H1 H' σc s1 s' I1 f1 eC J q;subst eC;have I2:Inv X pins σ H' s':=by
  have z:=zqy (h':=s'.heap) I1 f1 J (Heap.SameBut.refl _ _);exact z
 obtain⟨m,⟨o,es,ep,ho,hd,hrest⟩,_⟩:=J.loc;have fpk:eB X pins H' s1.heap.objs.size:=I1.fpOk (bU _) J.free;have I3:Inv X (pins++[(s1.heap.objs.size,o)]) σ H' s':=I2.pins_of fun p hp=>by
  rcases qan.mp hp with hp|hp
  ·exact I2.pin p (jK _ hp)
  ·have e:p=(s1.heap.objs.size,o):=by simpa using hp
   subst e;exact⟨ho,fpk.1,fpk.2.1,fpk.2.2.1,fun v z=>by rw[hd]at z;cases z⟩
 refine bC (zoi hN hxi hx hf (pins++[(s1.heap.objs.size,o)]) s' σ H' (.ref D) (.ref D) (fun σ2 H2=>E.nx σ2 H2) I3 rfl q) fun _ s'' ⟨σ2,H2,I4,q4⟩=>?_
 have pC:=I4.pin (s1.heap.objs.size,o) (jK _ (jK _ (by simp)));refine⟨m,⟨o,es,ep,pC.1,hd,hrest⟩,fun h' hs'=>?_⟩;have I5:Inv X pins σ2 H2 s'':=I4.unpinned;have fp2:eB X pins H2 s1.heap.objs.size:=I1.fpOk (bU _) pC.2.1;have I6:=I5.turned (t':=s''.toks) (h':=h') (it:=s1.heap.objs.size) (fun b' o' hb e=>hs'.extBut b' o' hb e) fp2.1 fp2.2.1 fp2.2.2.2.1 fp2.2.2.2.2.1 fp2.2.2.2.2.2;exact⟨σ2,H2,I6,q4⟩
theorem Yy (i:Nat)(cap:List Nat)(t:Nat)(N:List Str)(hc:X.calm=true)(hi:SIt X tg iter mi)(hg:∀C s H fp,SG (cP X N scope C s H fp) tg g)(ht:∀C s H fp,xB (cP X N scope C s H fp) ifs mt)(he:∀C s H fp,SE (cP X N scope C s H fp) elt me)(hN:X.N.Nodup)
    (hxi:autoParam (X.N[i]? =some x) zu3._auto_1) (hx:autoParam (iP X.env.scope x) zu6._auto_1) (hf:autoParam (X.fn x=true\/X.env.scope.names.lookup x=some .local) zu6._auto_1)
    (hsw:autoParam (swapsWith (.ListComp elt [⟨tg,iter,ifs,0⟩] scope lpos) (some (.Name x pos')) pos.line X.env=pure true) zu3._auto_1)
    (hk:autoParam (scope.kind= .function) zu3._auto_1) (hb:autoParam (iR X.env scope=true) zu10._auto_1) (hcap:autoParam (jB scope.names N X.N cap t=true) zu10._auto_1)
    (hs:autoParam (∀x,foldedSetIterable iter X.env x=pure x) zu9._auto_1):SS X (.Assign [.Name x pos'] (.ListComp elt [⟨tg,iter,ifs,0⟩] scope lpos) pos) (fR i (dJ cap t mi g mt me)):=by
  refine hi.el fun wi pi si=>?_
  refine⟨_,Tz hN hxi hx hf hsw hc (Mg hk hb) (Kj hcap) pi (fun C s H fp=>(hg C s H fp).choose_spec.1) (fun C s H fp=>(ht C s H fp).choose_spec.1) (fun C s H fp=>(he C s H fp).choose_spec.1) hs,fun B G H σ ρ fl ρ' E I hm k=>?_⟩;refine iJ hm fun d ρ1 e1 e3=>?_
  obtain⟨rfl,rfl⟩:=Prod.mk.inj e3;exact zmA si (.mk' hg ht he) B G H σ ρ d ρ1 _ I e1 fun G1 H1 l xs I1 f1 g1 h1 r1 b1 n1=>k G1 H1 _ (I1.setO g1 h1 r1 b1 n1) f1
end
section
variable {X:Cx} {pins:List (Addr×Obj)} {σ:St} {H:Hp} {s:Shared}
theorem Fy {A:Around}{p:Addr}(hh:A.handled=none)(I:Inv X pins σ H s)(hq:SqL X.K H p ys\/SqT X.K H p ys)
  (k : ∀ (its : List Value) (s₂ : Shared) (St : Nat -> Heap -> Prop), Vals ys its -> Walks X.prog X.w A s.heap.objs.size [s.heap.objs.size, p] [s.heap.objs.size] its.length (fun i v => its[i]? = some v) St -> St 0 s₂.heap -> (∀ b ∈ [s.heap.objs.size, p], b < s₂.heap.objs.size) ->
   (∀h' tk,(∀b o,b∉[s.heap.objs.size]->s₂.heap.get? b=some o->h'.get? b=some o)->Inv X pins σ H {s₂ with heap:=h',toks:=tk})->Q (.ref s.heap.objs.size) s₂):wpAny (model X.prog X.w) A (pyIter (.ref p)) Q E s:=by
 have fin:∀(o:Obj),∀h' tk,(∀b o',b∉[s.heap.objs.size]->(s.heap.push o).get? b=some o'->h'.get? b=some o')->Inv X pins σ H {({s with heap:=s.heap.push o}:Shared)with heap:=h',toks:=tk}:=fun o h' tk hk=>by
  have z:=I.kept (h':=h') (t':=tk) fun b o' e=>hk b o' (by simpa using gC (cY e)) (bH _ e)
  exact z
 rcases hq with hq|hq
 ·obtain⟨its,r,pl,hz⟩:=I.list hq;have hlt:p<s.heap.objs.size:=by obtain⟨_,_,e,_⟩:=pl;exact cY e
  refine wpAny_pyIter_list pl.isList (k its _ (fun i h=>h.IsListIter s.heap.objs.size p i/\h.IsList p its.toArray) r ?_ ⟨⟨_,eR _ rfl,rfl,rfl⟩,pl.isList.push _⟩ (fun b hb=>?_) (fin _))
  ·have w:=Walks.list (prog:=X.prog) (w:=X.w) (A:=A) hh s.heap.objs.size p (gC hlt) its.toArray;simpa using w
  ·show b<(s.heap.push _).objs.size;rw[jY];simp at hb;rcases hb with z|z
   ·rw[z];exact Tr _
   ·rw[z];exact Ve hlt
 ·obtain⟨its,r,pl,hz⟩:=I.tuple hq;have hlt:p<s.heap.objs.size:=pl.lt;refine qbJ (show s.heap.IsTuple p its.toArray from pl) (k its _ (fun i h=>h.IsTupleIter s.heap.objs.size p i/\h.IsTuple p its.toArray) r ?_ ⟨⟨_,eR _ rfl,rfl,rfl⟩,(show s.heap.IsTuple p its.toArray from pl).push _⟩ (fun b hb=>?_) (fin _))
  ·have w:=Walks.tuple (prog:=X.prog) (w:=X.w) (A:=A) hh s.heap.objs.size p (gC hlt) its.toArray;simpa using w
  ·show b<(s.heap.push _).objs.size;rw[jY];simp at hb;rcases hb with z|z
   ·rw[z];exact Tr _
   ·rw[z];exact Ve hlt
end
theorem zls (ns:List Int):∀j,preSum (fun i=>ns.getD i 0) j=(ns.take j).sum
 |0=>by simp[preSum]
 |j+1=>by
  rw[preSum,zls ns j]
  by_cases h:j<ns.length
  ·rw[List.take_succ_eq_append_getElem h,List.sum_append];simp[h]
  ·rw[xO (by lia),xO (by lia)];simp[eE (by lia:ns.length<=j)]
theorem Ml (r:Vals (ns.map V.int) its){v:Value}(e:its[i]? =some v):∃t,v= .int (ns.getD i 0) t:=by
 have hl:=r.length;have hi:i<its.length:=(qap.mp e).1;rw[eL]at hl;have e2:(ns.map V.int)[i]? =some (.int ns[i]):=by rw[fJ,cG (by lia)];rfl
 obtain⟨u,h1,t,h2⟩:=r.get e2;rw[e]at h1;cases h1;exact⟨t,by rw[h2];simp[show i<ns.length by lia]⟩
noncomputable def Nl (K:W.Frag):List V->Hp->VK->Prop:=fun xs H Q=>∃(p:Addr) (ns:List Int),xs=[.ref p]/\(SqL K H p (ns.map V.int)\/SqT K H p (ns.map V.int))/\Q (.int ns.sum) H
theorem zrL (hc:X.calm=true):jM X (.builtin "sum") (Nl X.K):=by
 intro pins s σ H xs us Q I r h;obtain⟨p,ns,rfl,hq,q⟩:=h;obtain⟨u,rfl,ru⟩:=zG r;cases ru;refine call_sum_walkG (Fy (A:=X.A.in1) (I.ok.hd hc) I hq fun its s₂ St rv W st hfp fin=>?_);refine⟨_,_,_,_,_,_,fun i=>ns.getD i 0,rfl,W,st,hfp,fun i v e=>Ml rv e,fun h' tk t' hk=>⟨.int ns.sum,H,fin h' tk hk,⟨t',?_⟩,q⟩⟩;have hl:=rv.length;rw[eL]at hl;rw[zls,<-hl,xO (bU _)]
noncomputable def iD:List D->Option (List Int)
 |[]=>some []
 | .int i::ds=>(iD ds).map (i:: ·)
 |_=>none
theorem Qw:∀{ds:List D} {ns:List Int},iD ds=some ns->ds=ns.map .int
 |[],ns,h=>by cases h;rfl
 |d::ds,ns,h=>by
  cases d<;>simp only[iD]at h<;>try exact aM h
  refine cW h fun ms e1 e2=>?_
  subst e2;rw[Qw e1];rfl
@[simp] theorem intsOf_map:∀(ns:List Int),iD (ns.map .int)=some ns
 |[]=>rfl
 |n::ns=>by simp[iD,intsOf_map ns]
noncomputable def dA:List D->Option D
 |[d]=>(dM [d]).bind fun ds=>(iD ds).map fun ns=> .int ns.sum
 |_=>none
theorem Vl (I:SI K B G H σ ρ){x:V}(r:RepD K G x d)(e:dM [d]=some ds):∃p ys,x= .ref p/\(SqL K H p ys\/SqT K H p ys)/\RepL K G ys ds:=by
 cases d<;>simp only[dM]at e<;>try cases e
 ·obtain⟨p,ys,ex,hp,q⟩:=I.lst r;exact⟨p,ys,ex,.inl (SqL.of hp),q⟩
 ·obtain⟨p,ys,ex,hp,q⟩:=I.tup r;exact⟨p,ys,ex,.inr (SqT.of hp),q⟩
 ·obtain⟨p,ex,hp⟩:=r;exact⟨p,_,ex,.inl (I.fz.sql hp),RepL.ints _⟩
theorem Jt:VC X (Nl X.K) dA:=by
 intro B G H σ ρ xs ds d Q I r hf k
 match ds,hf with
 |[a],hf=>
  refine bA hf fun es e1 hf=>?_
  refine cW hf fun ns e2 e3=>?_
  subst e3;obtain⟨x,rfl,ra⟩:=r.one;obtain⟨p,ys,rfl,hq,ry⟩:=Vl I ra e1;rw[Qw e2]at ry;rw[RepL.ints_eq ry]at hq;exact⟨p,ns,rfl,hq,k G H _ I (Fz.refl G) rfl⟩
 |[],hf=>exact aM hf
 |_::_::_,hf=>exact aM hf
theorem jI (hc:X.calm=true)(ml:X.mg "sum"=none)(ha:SA X [e] ma)(hg:autoParam (Gl X "sum") zu3._auto_1)(he:autoParam (starEach [e] X.env=(false,eval e X.env)::starEach [] X.env) zu3._auto_1):SE X (.Call (.Name "sum" p) [e] [] pos) (mC dA ma):=
 uF (zrL hc) Jt (by decide+kernel) ml ha hg (by decide) (by decide) he rfl
noncomputable def yQ:List D->Option (List Bool)
 |[]=>some []
 | .bl b::ds=>(yQ ds).map (b:: ·)
 |_=>none
theorem zlA:∀{ds:List D} {bs:List Bool},yQ ds=some bs->ds=bs.map .bl
 |[],ns,h=>by cases h;rfl
 |d::ds,ns,h=>by
  cases d<;>simp only[yQ]at h<;>try exact aM h
  refine cW h fun ms e1 e2=>?_
  subst e2;rw[zlA e1];rfl
@[simp] theorem boolsOf_map:∀(bs:List Bool),yQ (bs.map .bl)=some bs
 |[]=>rfl
 |n::ns=>by simp[yQ,boolsOf_map ns]
theorem RepL.bools_eq:∀{bs:List Bool} {xs:List V},RepL K G xs (bs.map D.bl)->xs=bs.map V.bl
 |[],_,e=>e
 |n::ns,_,⟨x,ys,e,q,r⟩=>by subst e;cases(show x=V.bl n from q);rw[RepL.bools_eq r];rfl
theorem znn {bs:List Bool}(r:Vals (bs.map V.bl) its){v:Value}(e:its[i]? =some v):∃b,bs[i]? =some b/\v= .bool b:=by
 have hl:=r.length;have hi:i<its.length:=(qap.mp e).1;rw[eL]at hl;have e2:(bs.map V.bl)[i]? =some (.bl bs[i]):=by rw[fJ,cG (by lia)];rfl
 obtain⟨u,h1,h2⟩:=r.get e2;rw[e]at h1;cases h1;exact⟨bs[i],cG (by lia),h2⟩
noncomputable def Do (K:W.Frag)(f:List Bool->Bool):List V->Hp->VK->Prop:=fun xs H Q=>∃(p:Addr) (bs:List Bool),xs=[.ref p]/\(SqL K H p (bs.map V.bl)\/SqT K H p (bs.map V.bl))/\Q (.bl (f bs)) H
theorem zqe (hc:X.calm=true):jM X (.builtin "all") (Do X.K fun bs=>bs.all id):=by
 intro pins s σ H xs us Q I r h;obtain⟨p,bs,rfl,hq,q⟩:=h;obtain⟨u,rfl,ru⟩:=zG r;cases ru;refine call_all_walk (Fy (A:=X.A.in1) (I.ok.hd hc) I hq fun its s₂ St rv W st hfp fin=>?_);have hl:=rv.length;rw[eL]at hl;refine⟨_,_,_,_,_,_,fun i=>(bs[i]?).getD true,rfl,W,st,fun i v s' Q' E' hP hQ=>?_,fun h' tk hk=>⟨.bl (bs.all id),H,fin h' tk hk,?_,q⟩⟩
 ·obtain⟨b,e,rfl⟩:=znn rv hP;simp only[e,Option.getD_some]at hQ;exact qO hQ
 ·rw[<-hl,LSm.range_all];rfl
theorem zqA (hc:X.calm=true):jM X (.builtin "any") (Do X.K fun bs=>bs.any id):=by
 intro pins s σ H xs us Q I r h;obtain⟨p,bs,rfl,hq,q⟩:=h;obtain⟨u,rfl,ru⟩:=zG r;cases ru;refine call_any_walk (Fy (A:=X.A.in1) (I.ok.hd hc) I hq fun its s₂ St rv W st hfp fin=>?_);have hl:=rv.length;rw[eL]at hl;refine⟨_,_,_,_,_,_,fun i=>(bs[i]?).getD false,rfl,W,st,fun i v s' Q' E' hP hQ=>?_,fun h' tk hk=>⟨.bl (bs.any id),H,fin h' tk hk,?_,q⟩⟩
 ·obtain⟨b,e,rfl⟩:=znn rv hP;simp only[e,Option.getD_some]at hQ;exact qO hQ
 ·rw[<-hl,LSm.range_any];rfl
noncomputable def gG (f:List Bool->Bool):List D->Option D
 |[d]=>(dM [d]).bind fun ds=>(yQ ds).map fun bs=> .bl (f bs)
 |_=>none
theorem mY (f:List Bool->Bool):VC X (Do X.K f) (gG f):=by
 intro B G H σ ρ xs ds d Q I r hf k
 match ds,hf with
 |[a],hf=>
  refine bA hf fun es e1 hf=>?_
  refine cW hf fun ns e2 e3=>?_
  subst e3;obtain⟨x,rfl,ra⟩:=r.one;obtain⟨p,ys,rfl,hq,ry⟩:=Vl I ra e1;rw[zlA e2]at ry;rw[RepL.bools_eq ry]at hq;exact⟨p,ns,rfl,hq,k G H _ I (Fz.refl G) rfl⟩
 |[],hf=>exact aM hf
 |_::_::_,hf=>exact aM hf
theorem Pw (hc:X.calm=true)(ml:X.mg "all"=none)(ha:SA X [e] ma)(hg:autoParam (Gl X "all") zu3._auto_1)(he:autoParam (starEach [e] X.env=(false,eval e X.env)::starEach [] X.env) zu3._auto_1):SE X (.Call (.Name "all" p) [e] [] pos) (mC (gG fun bs=>bs.all id) ma):=
 uF (zqe hc) (mY _) (by decide+kernel) ml ha hg (by decide) (by decide) he rfl
theorem pO (hc:X.calm=true)(ml:X.mg "any"=none)(ha:SA X [e] ma)(hg:autoParam (Gl X "any") zu3._auto_1)(he:autoParam (starEach [e] X.env=(false,eval e X.env)::starEach [] X.env) zu3._auto_1):SE X (.Call (.Name "any" p) [e] [] pos) (mC (gG fun bs=>bs.any id) ma):=
 uF (zqA hc) (mY _) (by decide+kernel) ml ha hg (by decide) (by decide) he rfl
noncomputable def xU (g:Int->Int->Int):List D->Option D
 |[.int i,.int j]=>some (.int (g i j))
 |_=>none
theorem Be (g:Int->Int->Int):VC X (fun xs H Q=>∃i j,xs=[.int i,.int j]/\Q (.int (g i j)) H) (xU g):=by
 intro B G H σ ρ xs ds d Q I r hf k;unfold xU at hf
 split at hf
 ·rename_i i j;cases hf;obtain⟨x,y,rfl,rx,ry⟩:=r.two;cases(show x=V.int i from rx);cases(show y=V.int j from ry);exact⟨i,j,rfl,k G H _ I (Fz.refl G) rfl⟩
 ·exact aM hf
noncomputable def eA (i j:Int):Int:=if j>i then j else i
noncomputable def nW (i j:Int):Int:=if j<i then j else i
theorem zoh (hc:X.calm=true)(ml:X.mg "max"=none)(ha:SA X [a,b] ma)(hg:autoParam (Gl X "max") zu3._auto_1)(he:autoParam (starEach [a,b] X.env=(false,eval a X.env)::starEach [b] X.env) zu3._auto_1)(hpl:autoParam ((backTo pos (starEach [b] X.env)).any (·.1)=false) zu3._auto_1):SE X (.Call (.Name "max" p) [a,b] [] pos) (mC (xU eA) ma):=
 uF (zqT hc) (Be eA) (by decide+kernel) ml ha hg (by decide) (by decide) he hpl
theorem Ag (hc:X.calm=true)(ml:X.mg "min"=none)(ha:SA X [a,b] ma)(hg:autoParam (Gl X "min") zu3._auto_1)(he:autoParam (starEach [a,b] X.env=(false,eval a X.env)::starEach [b] X.env) zu3._auto_1)(hpl:autoParam ((backTo pos (starEach [b] X.env)).any (·.1)=false) zu3._auto_1):SE X (.Call (.Name "min" p) [a,b] [] pos) (mC (xU nW) ma):=
 uF (zrc hc) (Be nW) (by decide+kernel) ml ha hg (by decide) (by decide) he hpl
theorem zki (K:W.Frag):W.kitOne K (.type "NoneType") (.type "int")=some false:=by kernel_rfl
theorem zjS (K:W.Frag):W.kitOne K (.type "NoneType") (.type "bool")=some false:=by kernel_rfl
theorem zi6 (K:W.Frag):W.kitOne K (.type "NoneType") (.type "tuple")=some false:=by kernel_rfl
theorem zjM (K:W.Frag):W.kitOne K (.type "NoneType") (.type "list")=some false:=by kernel_rfl
theorem zkf (K:W.Frag):W.kitOne K (.type "NoneType") (.type "str")=some false:=by kernel_rfl
theorem zm9 (K:W.Frag):W.kitOne K (.type "bool") (.type "int")=some true:=by kernel_rfl
theorem zl2 (K:W.Frag):W.kitOne K (.type "bool") (.type "bool")=some true:=by kernel_rfl
theorem zlk (K:W.Frag):W.kitOne K (.type "bool") (.type "tuple")=some false:=by kernel_rfl
theorem zmc (K:W.Frag):W.kitOne K (.type "bool") (.type "list")=some false:=by kernel_rfl
theorem zmV (K:W.Frag):W.kitOne K (.type "bool") (.type "str")=some false:=by kernel_rfl
theorem zoz (K:W.Frag):W.kitOne K (.type "int") (.type "int")=some true:=by kernel_rfl
theorem zna (K:W.Frag):W.kitOne K (.type "int") (.type "bool")=some false:=by kernel_rfl
theorem zmf (K:W.Frag):W.kitOne K (.type "int") (.type "tuple")=some false:=by kernel_rfl
theorem zm4 (K:W.Frag):W.kitOne K (.type "int") (.type "list")=some false:=by kernel_rfl
theorem zn9 (K:W.Frag):W.kitOne K (.type "int") (.type "str")=some false:=by kernel_rfl
theorem znX (K:W.Frag):W.kitOne K (.type "str") (.type "int")=some false:=by kernel_rfl
theorem zm5 (K:W.Frag):W.kitOne K (.type "str") (.type "bool")=some false:=by kernel_rfl
theorem zlX (K:W.Frag):W.kitOne K (.type "str") (.type "tuple")=some false:=by kernel_rfl
theorem znP (K:W.Frag):W.kitOne K (.type "str") (.type "list")=some false:=by kernel_rfl
theorem zn7 (K:W.Frag):W.kitOne K (.type "str") (.type "str")=some true:=by kernel_rfl
theorem zne (K:W.Frag):W.kitOne K (.type "list") (.type "int")=some false:=by kernel_rfl
theorem zmh (K:W.Frag):W.kitOne K (.type "list") (.type "bool")=some false:=by kernel_rfl
theorem zla (K:W.Frag):W.kitOne K (.type "list") (.type "tuple")=some false:=by kernel_rfl
theorem zmJ (K:W.Frag):W.kitOne K (.type "list") (.type "list")=some true:=by kernel_rfl
theorem znI (K:W.Frag):W.kitOne K (.type "list") (.type "str")=some false:=by kernel_rfl
theorem zmp (K:W.Frag):W.kitOne K (.type "tuple") (.type "int")=some false:=by kernel_rfl
theorem zlb (K:W.Frag):W.kitOne K (.type "tuple") (.type "bool")=some false:=by kernel_rfl
theorem zkW (K:W.Frag):W.kitOne K (.type "tuple") (.type "tuple")=some true:=by kernel_rfl
theorem zk2 (K:W.Frag):W.kitOne K (.type "tuple") (.type "list")=some false:=by kernel_rfl
theorem zmv (K:W.Frag):W.kitOne K (.type "tuple") (.type "str")=some false:=by kernel_rfl
noncomputable def Nk (T:String):D->Bool
 | .non=>false
 | .bl _=>T=="bool"||T=="int"
 | .int _=>T=="int"
 | .str _=>T=="str"
 | .lst _=>T=="list"
 | .tup _=>T=="tuple"
 | .scr _=>T=="list"
 | .exc _=>false
 | .dic _ _=>false
 | .dit _ _=>false
 | .obj _ _ _ _ _=>false
noncomputable def Pq (T:String):Bool:=["int","bool","tuple","list","str"].contains T
noncomputable def Pi (K:W.Frag)(T:String):List V->Hp->VK->Prop:=fun xs H Q=>∃x t b,xs=[x,.ty T]/\TyOf K H x t/\W.kitOne K t (.type T)=some b/\Q (.bl b) H
theorem sX (T:String):jM X (.builtin "isinstance") (Pi X.K T):=by
 intro pins s σ H xs us Q I r h;obtain⟨x,t,b,rfl,ty,e,q⟩:=h;obtain⟨u,w',rfl,r1,r2⟩:=oB r;cases(show w'=Value.type T from r2);exact zq3 I r1 ty e fun tk=>⟨.bl b,H,I.tok _,rfl,q⟩
noncomputable def eIsI (T:String)(ma:ME):ME:=fun ρ=>(ma ρ).bind fun p=>if Pq T&&noS1 p.1 then some (.bl (Nk T p.1),p.2)else none
where noS1:D->Bool
 | .scr _=>false
 | .exc _=>false
 | .dic _ _=>false
 | .dit _ _=>false
 | .obj _ _ _ _ _=>false
 |_=>true
theorem zO (K:W.Frag){T:String}(hT:Pq T=true):W.kitOne K (.type "NoneType") (.type T)=some false/\W.kitOne K (.type "bool") (.type T)=some (T=="bool"||T=="int")/\W.kitOne K (.type "int") (.type T)=some (T=="int")/\
  W.kitOne K (.type "str") (.type T)=some (T=="str")/\W.kitOne K (.type "list") (.type T)=some (T=="list")/\W.kitOne K (.type "tuple") (.type T)=some (T=="tuple"):=by
 have h:T="int"\/T="bool"\/T="tuple"\/T="list"\/T="str":=by simpa[Pq]using hT
 rcases h with rfl|rfl|rfl|rfl|rfl
 ·exact⟨zki K,zm9 K,zoz K,znX K,zne K,zmp K⟩
 ·exact⟨zjS K,zl2 K,zna K,zm5 K,zmh K,zlb K⟩
 ·exact⟨zi6 K,zlk K,zmf K,zlX K,zla K,zkW K⟩
 ·exact⟨zjM K,zmc K,zm4 K,znP K,zmJ K,zk2 K⟩
 ·exact⟨zkf K,zmV K,zn9 K,zn7 K,znI K,zmv K⟩
theorem Dc {ma:ME}{p q pos:Pos}(T:String)(ml:X.mg "isinstance"=none)(mT:X.mg x=none)(hbT:bootBuiltins x=some (.type T))(ha:SE X a ma)(hg:autoParam (Gl X "isinstance") zu3._auto_1)(hgT:autoParam (Gl X x) zu3._auto_1)(hn:autoParam (x≠"__name__") zu1._auto_1)(hd:autoParam ((x==("__debug__":Str))=false) zu1._auto_1)
  (he:autoParam (starEach [a,.Name x q] X.env=(false,eval a X.env)::starEach [.Name x q] X.env) zu3._auto_1) (he2:autoParam (starEach [.Name x q] X.env=(false,eval (.Name x q) X.env)::starEach [] X.env) zu3._auto_1) (hpl:autoParam ((backTo pos (starEach [.Name x q] X.env)).any (·.1)=false) zu3._auto_1):
  SE X (.Call (.Name "isinstance" p) [a,.Name x q] [] pos) (eIsI T ma):=by
 refine ha.el fun ta pa sa=>?_
 refine⟨_,zlV (sX T) hg ml boot_isinstance (lS pa (lS (xG (v:= .ty T) hgT mT hbT rfl hn hd) As he2) he) (by decide) (by decide) he hpl,fun B G H σ ρ d ρ' Q I hm k=>?_⟩;refine bP hm fun y ρ1 e1 hm=>?_
 dsimp only at hm;refine bJ hm fun hT hm=>?_
 ·skip
  obtain⟨rfl,rfl⟩:=Prod.mk.inj (Option.some.inj hm);rw[eO]at hT;obtain⟨hT,hS⟩:=hT;refine sa B G H σ ρ y ρ1 _ I e1 fun G1 H1 v I1 f1 r1=>?_
  obtain⟨k0,k1,k2,k3,k4,k5⟩:=zO X.K hT;have fin:∀t,TyOf X.K H1 v t->W.kitOne X.K t (.type T)=some (Nk T y)->Pi X.K T [v,.ty T] H1 Q:=fun t ty e=>⟨v,t,Nk T y,rfl,ty,e,k G1 H1 _ I1 f1 rfl⟩
  cases y with
  |non=>cases(show v=V.non from r1);exact fin _ .non k0
  |bl c=>cases(show v=V.bl c from r1);exact fin _ (.bl c) k1
  |int c=>cases(show v=V.int c from r1);exact fin _ (.int c) k2
  |str c=>cases(show v=V.str c from r1);exact fin _ (.str c) k3
  |lst ds=>obtain⟨a,xs,e,hp,r⟩:=I1.lst r1;subst e;exact fin _ (.lst hp) k4
  |tup ds=>obtain⟨a,xs,e,hp,r⟩:=I1.tup r1;subst e;exact fin _ (.tup hp) k5
  |scr _=>cases hS
  |exc _=>cases hS
  |dic _ _=>cases hS
  |dit _ _=>cases hS
  |obj _ _ _ _ _=>cases hS
noncomputable def bS {α:Type}(xs:List α)(lo hi:Option Int):List α:=(xs.drop (HT.sIx xs.length 0 lo)).take (HT.sIx xs.length xs.length hi-HT.sIx xs.length 0 lo)
theorem RepL.cut (h:RepL K G xs ds)(lo hi:Option Int):RepL K G (hV xs lo hi) (bS ds lo hi):=by
 unfold hV bS;rw[h.length];exact(h.drop _).take _
section
variable {prog:Program} {w:World} {A:Around} {E:Value->Shared->Prop} {s:Shared}
theorem ziC {t sl:Addr}{items:Array Value}{vl vu:Value}{lo hi:Option Int}(ht:IsTup s.heap t items)(hs:s.heap.IsSliceOf sl vl vu .none)(pl:IsPart vl lo)(pu:IsPart vu hi)
  (hw:HT.sIx items.size 0 lo=0/\HT.sIx items.size items.size hi=items.size) (h:Q (.ref t) s):wpAny (model prog w) A (getItem (.ref t) (.ref sl)) Q E s:=by
 obtain⟨os,hos,hcs,hds⟩:=id hs;have hTs:s.TypeIs (.ref sl) "slice":=⟨os,hos,hcs⟩;unfold getItem
 try with_reducible refine jL ?_
 first|refine aL (qaz ?_)|skip
 refine aL (wpAny_sequenceKey ht.typeIs (by decide) ?_);refine aL (Iq (name:=Str.ofString "__getitem__") ht.typeIs Vg
  (Cf Vg ht.typeIs entry_tuple_getitem ?_ (args_tuple_getitem _ _)))
 show wpAny _ _ (Builtin.Tuple.tupleItemsOf (.ref t)>>=_) _ _ s;refine aL (tupleItemsOf_ ht ?_);refine aL (wpAny_typeOf hTs ?_);rw[if_pos (by decide)];refine aL (HT.zgu hs pl pu ?_);have hyes:(((HT.sIx items.size 0 lo:Nat):Int)==0&&(1:Int)==1&&(HT.sIx items.size items.size hi-HT.sIx items.size 0 lo)==items.size)=true:=by
  rw[hw.1,hw.2];simp
 show wpAny _ _ (if(((HT.sIx items.size 0 lo:Nat):Int)==0&&(1:Int)==1&&(HT.sIx items.size items.size hi-HT.sIx items.size 0 lo)==items.size)=true then _ else _) _ _ s;rw[if_pos hyes];refine aL (m:=Builtin.Tuple.tupleIsExact _) ?_;unfold Builtin.Tuple.tupleIsExact;refine aL (wpAny_typeOf ht.typeIs (qaz ?_));rw[if_pos (by decide)];refine aL (Bx ?_);exact qaz ⟨_,rfl,qaz h⟩
end
noncomputable def Ti (K:W.Frag):V->Option Int->Option Int->Hp->VK->Prop:=fun x lo hi H Q=>∃a xs,x= .ref a/\SqT K H a xs/\(HT.sIx xs.length 0 lo=0/\HT.sIx xs.length xs.length hi=xs.length)/\Q (.ref a) H
theorem yH:SlR X (Ti X.K):=by
 intro pins s σ H x v vl vu lo hi sl Q I rx hs pl pu h;obtain⟨a,xs,rfl,hx,hw,q⟩:=h;cases rx;obtain⟨its,r,ht,hz⟩:=I.tuple hx;have hlen:its.toArray.size=xs.length:=by rw[cO];exact r.length.symm
 refine⟨"tuple",_,PyProof.Rows.slot_tuple_getitem.lookup,ht.typeIs,?_⟩;exact ziC ht hs pl pu (by rw[hlen];exact hw) ⟨.ref a,H,I,rfl,q⟩
noncomputable abbrev MP:=R->Option (Option Int×R)
noncomputable def Oc (X:Cx)(e:Option Expr)(m:MP)(t:TO):Prop:=∀B G H σ ρ o ρ' (Q:Option Int->Hp->Prop),SI X.K B G H σ ρ->m ρ=some (o,ρ')->(∀G' H',SI X.K B G' H' σ ρ'->Fz G G'->Q o H')->t σ H Q
noncomputable def SPt (X:Cx)(e:Option Expr)(m:MP):Prop:=∃t,PO X e t/\Oc X e m t
theorem SPt.el {e:Option Expr}{m:MP}(h:SPt X e m)(k:∀t,PO X e t->Oc X e m t->C):C:=h.elim fun t q=>k t q.1 q.2
noncomputable def iN:MP:=fun ρ=>some (none,ρ)
noncomputable def gE (m:ME):MP:=fun ρ=>(m ρ).bind fun p=>match p.1 with
 | .int i=>some (some i,p.2)
 |_=>none
theorem jN:SPt X none iN:=⟨_,uW,fun B G H σ ρ o ρ' Q I hm k=>by obtain⟨rfl,rfl⟩:=bT hm;exact k G H I (Fz.refl G)⟩
theorem gV {m:ME}(h:SE X e m):SPt X (some e) (gE m):=by
 refine h.el fun t p s=>?_
 refine⟨_,wF p,fun B G H σ ρ o ρ' Q I hm k=>?_⟩;refine bP hm fun d ρ1 e1 hm=>?_
 refine s B G H σ ρ d ρ1 _ I e1 fun G1 H1 v I1 f1 r1=>?_
 cases d<;>try cases hm
 rename_i i;exact⟨i,r1,k G1 H1 I1 f1⟩
noncomputable def lZ (d:D)(lo hi:Option Int):Option D:=match d with
 | .lst ds=>some (.lst (bS ds lo hi))
 | .tup ds=>some (.tup (bS ds lo hi))
 | .scr ns=>some (.lst ((bS ns lo hi).map .int))
 |_=>none
noncomputable def dX (ma:ME)(ml mh:MP):ME:=fun ρ=>(ma ρ).bind fun p=>(ml p.2).bind fun q=>(mh q.2).bind fun r=>(lZ p.1 q.1 r.1).map fun d=>(d,r.2)
theorem zq5 (ns:List Int)(lo hi:Option Int):hV (ns.map V.int) lo hi=(bS ns lo hi).map V.int:=by
 unfold hV bS;rw[eL,<-List.map_drop,<-List.map_take]
theorem lB {lo hi:Option Expr}{ma:ME}{ml mh:MP}{pos p2:Pos}(he:SE X e ma)(hl:SPt X lo ml)(hu:SPt X hi mh):SE X (.Subscript e (.Slice lo hi none p2) pos) (dX ma ml mh):=by
 refine he.el fun ta pa sa=>?_
 refine hl.el fun tl pl sl=>?_
 refine hu.el fun th ph sh=>?_
 refine⟨_,sE (sl_list.or (sl_tup.or yH)) pa pl ph,fun B G H σ ρ d ρ' Q I hm k=>?_⟩;refine bP hm fun x ρ1 e1 hm=>?_
 refine bP hm fun l ρ2 e2 hm=>?_
 refine bP hm fun u ρ3 e3 hm=>?_
 refine cW hm fun c e4 e5=>?_
 obtain⟨rfl,rfl⟩:=Prod.mk.inj e5;refine sa B G H σ ρ x ρ1 _ I e1 fun G1 H1 v I1 f1 r1=>sl B G1 H1 σ ρ1 l ρ2 _ I1 e2 fun G2 H2 I2 f2=>sh B G2 H2 σ ρ2 u ρ3 _ I2 e3 fun G3 H3 I3 f3=>?_
 have r3:=r1.mono (f2.trans f3);dsimp only at e4;cases x with
 |exc _=>exact aM e4
 |dic _ _=>exact aM e4
 |dit _ _=>exact aM e4
 |obj _ _ _ _ _=>exact aM e4
 |non=>exact aM e4
 |bl _=>exact aM e4
 |int _=>exact aM e4
 |str _=>exact aM e4
 |lst ds=>
  cases e4;obtain⟨a,xs,rfl,ha,r⟩:=I3.lst r3;refine .inl ⟨a,xs,rfl,SqL.of ha,fun p hp=>?_⟩;obtain⟨I4,f4,r4⟩:=I3.newL hp (r.cut l u);exact k _ _ _ I4 (f1.trans (f2.trans (f3.trans f4))) r4
 |tup ds=>
  cases e4;obtain⟨a,xs,rfl,ha,r⟩:=I3.tup r3
  by_cases hw:HT.sIx xs.length 0 l=0/\HT.sIx xs.length xs.length u=xs.length
  ·refine .inr (.inr ⟨a,xs,rfl,SqT.of ha,hw,?_⟩);have e:bS ds l u=ds:=by
    unfold bS;rw[<-r.length,hw.1,hw.2,Wc,Nat.sub_zero,xO (by rw[r.length];exact bU _)]
   rw[e]at k;exact k G3 H3 _ I3 (f1.trans (f2.trans f3)) r3
  ·refine .inr (.inl ⟨a,xs,rfl,SqT.of ha,hw,fun p hp=>?_⟩);obtain⟨I4,f4,r4⟩:=I3.newT hp (r.cut l u);exact k _ _ _ I4 (f1.trans (f2.trans (f3.trans f4))) r4
 |scr ns=>
  cases e4;obtain⟨a,rfl,ha⟩:=r3;refine .inl ⟨a,_,rfl,I3.fz.sql ha,fun p hp=>?_⟩;rw[zq5];obtain⟨I4,f4,r4⟩:=I3.newL hp (RepL.ints (bS ns l u));exact k _ _ _ I4 (f1.trans (f2.trans (f3.trans f4))) r4
theorem dG (h:sH ma n):∀ρ as ρ',ma ρ=some (as,ρ')->as.length+1=n+1:=fun ρ as ρ' e=>congrArg (· +1) (h ρ as ρ' e)
section
variable {X:Cx} {elt iter tg:Expr} {ifs:List Expr} {scope:Scope} {pos lpos pos':Pos} {N:List Str} {cap:List Nat} {t:Nat} {mi:MA} {g:D->R->Option R} {mt:MT} {me:ME}
theorem Qj (i:Nat)(cap:List Nat)(t:Nat)(N:List Str)(hc:X.calm=true)(hi:SIt X tg iter mi)(hg:∀C s H fp,SG (cP X N scope C s H fp) tg g)(ht:∀C s H fp,xB (cP X N scope C s H fp) ifs mt)(he:∀C s H fp,SE (cP X N scope C s H fp) elt me)(hN:X.N.Nodup)
    (hxi:autoParam (X.N[i]? =some x) zu3._auto_1) (hx:autoParam (iP X.env.scope x) zu6._auto_1) (hf:autoParam (X.fn x=true\/X.env.scope.names.lookup x=some .local) zu6._auto_1)
    (hsw:autoParam (swapsWith (.ListComp elt [⟨tg,iter,ifs,0⟩] scope lpos) (some (.Name x pos')) pos.line X.env=pure true) zu3._auto_1)
    (hk:autoParam (scope.kind= .function) zu3._auto_1) (hb:autoParam (iR X.env scope=true) zu10._auto_1) (hcap:autoParam (jB scope.names N X.N cap t=true) zu10._auto_1)
    (hs:autoParam (∀x,foldedSetIterable iter X.env x=pure x) zu9._auto_1):SS X (.Assign [.Name x pos'] (.ListComp elt [⟨tg,iter,ifs,0⟩] scope lpos) pos) (aP i (cQ (dJ cap t mi g mt me))):=by
  refine hi.el fun wi pi si=>?_
  refine⟨_,Tz hN hxi hx hf hsw hc (Mg hk hb) (Kj hcap) pi (fun C s H fp=>(hg C s H fp).choose_spec.1) (fun C s H fp=>(ht C s H fp).choose_spec.1) (fun C s H fp=>(he C s H fp).choose_spec.1) hs,fun B G H σ ρ fl ρ' E I hm k=>?_⟩;refine iJ hm fun d ρ1 e1 e3=>?_
  refine iJ e1 fun ds ρ2 e4 e5=>?_
  obtain⟨rfl,rfl⟩:=Prod.mk.inj e5;obtain⟨rfl,rfl⟩:=Prod.mk.inj e3;refine zmA si (.mk' hg ht he) B G H σ ρ ds ρ2 _ I e4 fun G1 H1 l xs I1 f1 g1 h1 r1 b1 n1=>?_
  obtain⟨I2,f2,r2⟩:=Lm I1 g1 h1 r1 b1 n1;exact k _ H1 _ (I2.set r2) (f1.trans f2)
end
end M
namespace M
open L2 PySem
@[simp] theorem atI_nat' {α:Type} (xs:List α) (i:Nat):atI xs (i:Int)=xs[i]?:=by
 unfold atI hZ;rw[if_pos (by lia)]
 by_cases h:i<xs.length
 ·rw[if_pos (by lia)];simp
 ·rw[if_neg (by lia)];simp[eE (by lia:xs.length<=i)]
end M
namespace M
open L2 PyProof.Rows PySem PySem.Spec
noncomputable def tS (i:Nat)(g:Int->Int->Int)(me:ME):MS:=fun ρ=>match ρ[i]? with
 |some (.val (.int a))=>(me ρ).bind fun p=>match p.1 with
  | .int b=>some (.next,p.2.set i (.val (.int (g a b))))
  |_=>none
 |_=>none
section
variable {X:Cx} {e:Expr} {me:ME} {pos:Pos}
theorem zrq (i:Nat){x:Str}{pos':Pos}{op:Operator}{g:Int->Int->Int}(ho:Tq X op (ipI g))(he:SE X e me)(hN:X.N.Nodup)(hi:autoParam (X.N[i]? =some x) zu3._auto_1)(hx:autoParam (iP X.env.scope x) zu6._auto_1)
    (hf:autoParam (X.fn x=true\/X.env.scope.names.lookup x=some .local) zu6._auto_1):SS X (.AugAssign (.Name x pos') op e pos) (tS i g me):=by
  refine he.el fun t p s=>?_
  refine⟨_,Du hN hi hx p ho hf,fun B G H σ ρ fl ρ' E I hm k=>?_⟩;unfold tS at hm
  split at hm
  . rename_i a e0
    refine bP hm fun d ρ1 e1 h2=>?_
    dsimp only at h2
    split at h2
    . rename_i b
      obtain⟨rfl,rfl⟩:=bT h2;obtain⟨v,h1,hv⟩:=I.slot i _ e0;cases(show v=V.int a from hv);refine⟨_,h1,s B G H σ ρ (.int b) ρ1 _ I e1 fun G1 H1 w I1 f1 r1=>?_⟩;cases(show w=V.int b from r1);exact⟨a,b,rfl,rfl,k G1 H1 _ (I1.set (d:= .int (g a b)) rfl) f1⟩
    . exact aM h2
  . exact aM hm
theorem zrM (i:Nat){x:Str}{pos':Pos}(he:SE X e me)(hN:X.N.Nodup)(hi:autoParam (X.N[i]? =some x) zu3._auto_1)(hx:autoParam (iP X.env.scope x) zu6._auto_1)
  (hf:autoParam (X.fn x=true\/X.env.scope.names.lookup x=some .local) zu6._auto_1):SS X (.AugAssign (.Name x pos') .Add e pos) (tS i (fun i j=>i+j) me):=zrq i Hr he hN hi hx hf
theorem Vw (i:Nat){x:Str}{pos':Pos}(he:SE X e me)(hN:X.N.Nodup)(hi:autoParam (X.N[i]? =some x) zu3._auto_1)(hx:autoParam (iP X.env.scope x) zu6._auto_1)
  (hf:autoParam (X.fn x=true\/X.env.scope.names.lookup x=some .local) zu6._auto_1):SS X (.AugAssign (.Name x pos') .Sub e pos) (tS i (fun i j=>i-j) me):=zrq i Dw he hN hi hx hf
end
noncomputable def gF {α:Type}(xs:List α)(lo hi st:Option Int):List α:=
 (sliceRange (sliceBounds lo hi st xs.length).1 (sliceBounds lo hi st xs.length).2.1 (sliceBounds lo hi st xs.length).2.2).filterMap (xs[·]?)
theorem zj1 (its:List Value)(lo hi st:Option Int):slicePick its.toArray lo hi st=(gF its lo hi st).toArray:=by
 unfold slicePick gF;simp
theorem zmZ {xs:List V}{its:List Value}(h:xs.length=its.length)(lo hi st:Option Int):(gF its lo hi st).length<=xs.length:=by
 have:=slicePick_size_le its.toArray lo hi st;rw[zj1]at this;simpa[h]using this
theorem kU {its:List Value}{xs:List V}(r:Vals xs its):∀js:List Nat,Vals (js.filterMap (xs[·]?)) (js.filterMap (its[·]?))
 |[]=> .nil
 |j::js=>by
  have hl:=r.length
  by_cases h:j<xs.length
  ·have h2:j<its.length:=by lia
   obtain⟨u,e1,e2⟩:=r.get (cG h);rw[iS,iS,cG h,e1];exact .cons e2 (kU r js)
  ·rw[iS,iS,eE (by lia),eE (by lia)];exact kU r js
theorem RepL.pickJ {K:W.Frag}{G:Hp}{xs:List V}{ds:List D}(r:RepL K G xs ds):∀js:List Nat,RepL K G (js.filterMap (xs[·]?)) (js.filterMap (ds[·]?))
 |[]=>RepL.nil
 |j::js=>by
  have hl:=r.length
  by_cases h:j<xs.length
  ·have h2:j<ds.length:=by lia
   obtain⟨u,e1,e2⟩:=r.get (cG h2);rw[iS,iS,cG h2,e1];exact RepL.cons e2 (r.pickJ js)
  ·rw[iS,iS,eE (by lia),eE (by lia)];exact r.pickJ js
section
variable {X:Cx} {e st:Expr} {lo hi:Option Expr} {te:TE} {tl th ts:TO} {p2 pos:Pos}
theorem zpL (he:PE X e te)(hl:PO X lo tl)(hu:PO X hi th)(hst:PO X (some st) ts):PE X (.Subscript e (.Slice lo hi (some st) p2) pos)
  (fun σ H Q=>te σ H fun x H1=>tl σ H1 fun l H2=>th σ H2 fun u H3=>ts σ H3 fun c H4=>∃a xs,x= .ref a/\SqL X.K H4 a xs/\c≠some 0/\∀p,H4 p=none->Q (.ref p) (upd H4 p (.lst (gF xs l u c)))):=by
 intro pins s σ H Q I h;refine Subscript_ (bC (he pins s σ H _ I h) fun v s1 ⟨x,H1,I1,r1,q1⟩=>?_);refine wpAny_Slice (bC (hl pins s1 σ H1 _ I1 q1) fun vl s2 ⟨l,H2,I2,pl,q2⟩=>bC (hu pins s2 σ H2 _ I2 q2) fun vu s3 ⟨u,H3,I3,pu,q3⟩=>bC (hst pins s3 σ H3 _ I3 q3) fun vs s4 ⟨c,H4,I4,pc,q4⟩=>?_);have I5:Inv X pins σ H4 {s4 with heap:=s4.heap.push {cls:= .type "slice",data:= .fields #[vl,vu,vs]}}:=I4.kept (t':=s4.toks) fun b ob q=>bH _ q
 obtain⟨a,xs,rfl,hx,h0,q⟩:=q4;cases r1;obtain⟨its,r,ht,hz⟩:=I5.list hx;have hlen:=r.length;have hg:wpAny (model X.prog X.w) X.A (getItem (.ref a) (.ref s4.heap.objs.size)) (EP X pins σ Q) X.xe {s4 with heap:=s4.heap.push {cls:= .type "slice",data:= .fields #[vl,vu,vs]}}:=by
  refine wpAny_getItem_list_slice ht.isList (Heap.IsSliceOf.new ..) pl pu pc h0 ?_ (by rw[cO]<;>lia)
  rw[zj1];refine⟨.ref _,_,I5.laid (t':=s4.toks) (o:= .lst (gF xs l u c)) (fun b ob q=>bH _ q) (bU _) ?_,rfl,q _ (I5.hok.fresh (bU _))⟩;refine⟨?_,_,0,?_,eR _ rfl⟩
  ·have:=zmZ hlen l u c;have e2:(gF xs l u c).length=(gF its l u c).length:=by
    unfold gF;rw[hlen];exact(kU r _).length
   lia
  ·unfold gF;rw[hlen];exact kU r _
 show wpAny (model X.prog X.w) X.A (subscriptTail e (.Slice lo hi (some st) p2) (.ref a) (.ref s4.heap.objs.size)) (EP X pins σ Q) X.xe {s4 with heap:=s4.heap.push {cls:= .type "slice",data:= .fields #[vl,vu,vs]}};exact tail_any (ops:=[.ref a,.ref s4.heap.objs.size]) ht.isList.typeIs slot_list_getitem.lookup hg (by with_unfolding_all rfl)
end
noncomputable def Px (d:D)(lo hi st:Option Int):Option D:=match d with
 | .lst ds=>if st=some 0 then none else some (.lst (gF ds lo hi st))
 |_=>none
noncomputable def Tj (ma:ME)(ml mh ms:MP):ME:=fun ρ=>(ma ρ).bind fun p=>(ml p.2).bind fun q=>(mh q.2).bind fun r=>(ms r.2).bind fun t=>(Px p.1 q.1 r.1 t.1).map fun d=>(d,t.2)
theorem RepL.pick {K:W.Frag}{G:Hp}{xs:List V}{ds:List D}(r:RepL K G xs ds)(lo hi st:Option Int):RepL K G (gF xs lo hi st) (gF ds lo hi st):=by
 unfold gF;rw[r.length];exact r.pickJ _
theorem zob {X:Cx}{e st:Expr}{lo hi:Option Expr}{ma:ME}{ml mh ms:MP}{pos p2:Pos}(he:SE X e ma)(hl:SPt X lo ml)(hu:SPt X hi mh)(hs:SPt X (some st) ms):SE X (.Subscript e (.Slice lo hi (some st) p2) pos) (Tj ma ml mh ms):=by
 refine he.el fun ta pa sa=>?_
 refine hl.el fun tl pl sl=>?_
 refine hu.el fun th ph sh=>?_
 refine hs.el fun tc pc sc=>?_
 refine⟨_,zpL pa pl ph pc,fun B G H σ ρ d ρ' Q I hm k=>?_⟩;refine bP hm fun x ρ1 e1 hm=>?_
 refine bP hm fun l ρ2 e2 hm=>?_
 refine bP hm fun u ρ3 e3 hm=>?_
 refine bP hm fun c ρ4 e4 hm=>?_
 refine cW hm fun y e5 e6=>?_
 obtain⟨rfl,rfl⟩:=Prod.mk.inj e6;refine sa B G H σ ρ x ρ1 _ I e1 fun G1 H1 v I1 f1 r1=>sl B G1 H1 σ ρ1 l ρ2 _ I1 e2 fun G2 H2 I2 f2=>sh B G2 H2 σ ρ2 u ρ3 _ I2 e3 fun G3 H3 I3 f3=>sc B G3 H3 σ ρ3 c ρ4 _ I3 e4 fun G4 H4 I4 f4=>?_
 have r3:=r1.mono (f2.trans (f3.trans f4));dsimp only at e5;cases x<;>simp only[Px]at e5<;>try exact aM e5
 rename_i ds
 split at e5
 ·exact aM e5
 ·rename_i h0;cases e5;obtain⟨a,xs,rfl,ha,r⟩:=I4.lst r3;refine⟨a,xs,rfl,SqL.of ha,h0,fun p hp=>?_⟩;obtain⟨I5,f5,r5⟩:=I4.newL hp (r.pick l u c);exact k _ _ _ I5 (f1.trans (f2.trans (f3.trans (f4.trans f5)))) r5
end M
namespace M
open L2 PySem PySem.Spec
open PyProof.Rows hiding St
variable {K:W.Frag} {tg a b e:Expr} {pins:List (Addr×Obj)} {s:Shared} {E:Value->Shared->Prop} {p pos:Pos} {G:Hp} {j:Int} {X:Cx} {ma:MA} {xs:List V} {ds:List D}
noncomputable def cntS (lo hi st:Int):Nat:=if lo<hi then((hi-lo-1)/st+1).toNat else 0
noncomputable def xJ (lo st:Int)(n:Nat):It:=⟨fun i _=>i<n,fun i H x H'=>H'=H/\x= .int (lo+i*st),fun i _=>n<=i⟩
theorem zoe {P:Program}{w:World}(it:Addr)(lo st:Int)(n:Nat):Turn P w K tg (xJ lo st n) [it] it (fun i h=>IsRangeIter h it (lo+(i:Nat)*st) ((n:Int)-(i:Nat)) st) where
 mem:=by simp
 obj:=fun i h st b hb=>by
  have e:b=it:=by simpa using hb
  subst e;exact⟨_,st,fun v z=>by
   have z':Data.fields _=Data.cell v:=z;cases z'⟩
 keep:=fun i h h' st k=>k it (by simp) _ st
 item:=by
  intro X hP hw hK hc i pins s σ H E I hf st' hg;subst hP hw hK;obtain⟨f0,f1,f2,f3,f4,f5⟩:=hf it (by simp);have W:=Walks.range (prog:=X.prog) (w:=X.w) (I.ok.hd hc) it lo st n;refine W.item i s _ _ hg st' fun v h' tk hv st' kk=>?_
  obtain⟨t,rfl⟩:=hv;have I1:Inv X pins σ H {s with heap:=h',toks:=tk}:=I.turned (fun b o hb e=>kk b o (by simpa using hb) e) f0 f1 f3 f4 f5;exact⟨_,rfl,kM (s:={s with heap:=h',toks:=tk}) (n:="range_iterator") st' rfl rfl (by decide) ⟨.int (lo+i*st),H,I1,⟨t,rfl⟩,⟨rfl,rfl⟩,st',fun b hb=>(hf b hb).1⟩⟩
 done:=by
  intro X hP hw hK hc i pins s σ H E I hf st' hg;subst hP hw hK;obtain⟨f0,f1,f2,f3,f4,f5⟩:=hf it (by simp);exact wpAny_pyNext_range_end (I.ok.hd hc) st' (by have:n<=i:=hg;lia) fun h' eb=>⟨rfl,I.turned (t':=s.toks) (fun b o hb e=>eb b o hb e) f0 f1 f3 f4 f5⟩
 self:=fun _ _ _ _ _ st h=>wpAny_pyIter_rangeiter st h
theorem zpp {lo hi st:Int}(h:0<st):((cntS lo hi st:Nat):Int)=Builtin.Range.rangeSize lo hi st:=by
 unfold cntS Builtin.Range.rangeSize;rw[if_pos h]
 split
 ·have:0<=(hi-lo-1)/st:=Int.ediv_nonneg (by lia) (by lia);lia
 ·rfl
theorem nQ {a b c:Int}(ha: -(2^60)<=a)(ha':a<2^60)(hb: -(2^60)<=b)(hb':b<2^60)(hc:0<c)(hc':c<1073741824):Builtin.Range.small a b c=true:=by
 have h1:=zpp (lo:=a) (hi:=b) hc;have h2:Builtin.Range.rangeSize a b c<=2^62:=by
  unfold Builtin.Range.rangeSize;rw[if_pos hc]
  split
  ·have:(b-a-1)/c<=b-a-1:=Int.ediv_le_self _ (by lia);lia
  ·lia
 have h3:0<=Builtin.Range.rangeSize a b c:=by rw[<-h1];lia
 unfold Builtin.Range.small;simp only[Builtin.Range.rangeFitsLong,eO,Xb,kK,qbG,show c>0 from hc,if_true]
 generalize Builtin.Range.rangeSize a b c=z at*
 lia
section
variable {X:Cx} {tg:Expr}
theorem zqD {σ:St}{H:Hp}{R:It->Hp->Prop}{lo hi st:Int}{t u v:Tok}{tk:Nat}(I:Inv X pins σ H s)(h1: -(2^60)<=lo)(h2:lo<2^60)(h3: -(2^60)<=hi)(h4:hi<2^60)(h5:0<st)(h6:st<1073741824)
  (q:R (xJ lo st (cntS lo hi st)) H):wpAny (model X.prog X.w) X.A (pyIter (.ref s.heap.objs.size)) (PIE X pins σ tg R) E {s with heap:=s.heap.push {cls:= .type "range",data:= .fields #[.int lo t,.int hi u,.int st v]},toks:=tk}:=by
 refine wpAny_pyIter_range (IsRange.new ..) (nQ h1 h2 h3 h4 h5 h6) ?_;have I1:Inv X pins σ H {s with heap:=s.heap.push {cls:= .type "range",data:= .fields #[.int lo t,.int hi u,.int st v]},toks:=tk}:=I.kept fun b o e=>bH _ e
 refine⟨(s.heap.push {cls:= .type "range",data:= .fields #[.int lo t,.int hi u,.int st v]}).objs.size,[(s.heap.push {cls:= .type "range",data:= .fields #[.int lo t,.int hi u,.int st v]}).objs.size],_,_,H,rfl,
  I1.kept (t':=tk) fun b o e=>bH _ e,zoe _ lo st (cntS lo hi st),?_,fun b hb=>?_,q⟩
 ·have e1:lo+((0:Nat):Int)*st=lo:=by simp
  show IsRangeIter _ _ (lo+((0:Nat):Int)*st) (((cntS lo hi st:Nat):Int)-((0:Nat):Int)) st;rw[e1,zpp h5,show(((0:Nat):Int))=0 from rfl,Int.sub_zero];exact eR _ rfl
 ·have e:b=(s.heap.push {cls:= .type "range",data:= .fields #[.int lo t,.int hi u,.int st v]}).objs.size:=by simpa using hb
  subst e;exact I1.fpOk (bU _) (I1.hok.fresh (bU _))
theorem zqO {a b c:Expr}{ta:TA}(hg:Gl X "range")(hm:X.mg "range"=none)(ha:PA X [a,b,c] ta)(hs:autoParam (starEach [a,b,c] X.env=(false,eval a X.env)::starEach [b,c] X.env) zu3._auto_1)(hs2:autoParam ((backTo pos (starEach [b,c] X.env)).any (·.1)=false) zu3._auto_1):
  PI X tg (.Call (.Name "range" p) [a,b,c] [] pos) (fun σ H R=>ta σ H fun vs H1=>∃i j k:Int,vs=[.int i,.int j,.int k]/\(-(2^60)<=i/\i<2^60/\ -(2^60)<=j/\j<2^60/\0<k/\k<1073741824)/\R (xJ i k (cntS i j k)) H1):=by
 intro pins s σ H R I h;refine Call_ (yF I hg hm boot_range (Cw (bC (ha pos pins s σ H _ I h) fun us s1 ⟨vs,H1,I1,r1,q1⟩=>?_) hs hs2));obtain⟨i,j,k,e,⟨q1,q2,q3,q4,q5,q6⟩,q⟩:=q1;subst e;cases r1 with
 |cons r rr=>
  cases rr with
  |cons r' rr=>
   cases rr with
   |cons r'' rr=>
    cases rr;obtain⟨t,rfl⟩:=r;obtain⟨t',rfl⟩:=r';obtain⟨t'',rfl⟩:=r'';exact call_range_3 (by lia) (zqD I1 q1 q2 q3 q4 q5 q6 q) (Or.inl (PyProof.noPylong_small (by lia)))
end
noncomputable def Cs (lo st:Int)(n:Nat):List D:=(List.range n).map fun(i:Nat)=>D.int (lo+(i:Int)*st)
theorem zpq (lo st:Int)(n:Nat):Itm K (xJ lo st n) G (Cs lo st n) where
 go:=fun H i f hi=>by show i<n;simpa[Cs]using hi
 yld:=fun H i x H' f y d e=>by
  obtain⟨rfl,rfl⟩:=y;unfold Cs at e;rw[fJ]at e;cases q:(List.range n)[i]? with
  |none=>rw[q]at e;exact aM e
  |some j=>
   rw[q]at e;have hj:j=i:=by
    have:=qap.mp q;obtain⟨h1,h2⟩:=this;simpa using h2.symm
   subst hj;cases e;exact .inl ⟨rfl,rfl⟩
 stop:=fun H i f hi=>by show n<=i;simpa[Cs]using hi
noncomputable def Mz (ma:MA):MA:=fun ρ=>(ma ρ).bind fun p=>match p.1 with
 |[.int i,.int j,.int k]=>if iE i&&iE j&&decide (0<k)&&decide (k<1073741824)then some (Cs i k (cntS i j k),p.2)else none
 |_=>none
theorem znh (h:iE j=true): -(2^60)<=j/\j<2^60:=by
 unfold iE at h;simp only[eO,kK]at h;lia
theorem Zf {tg a b c:Expr}(hm:X.mg "range"=none)(ha:SA X [a,b,c] ma)(hg:autoParam (Gl X "range") zu3._auto_1)(hs:autoParam (starEach [a,b,c] X.env=(false,eval a X.env)::starEach [b,c] X.env) zu3._auto_1)(hs2:autoParam ((backTo pos (starEach [b,c] X.env)).any (·.1)=false) zu3._auto_1):SIt X tg (.Call (.Name "range" p) [a,b,c] [] pos) (Mz ma):=by
 refine ha.el fun t pa sa=>?_
 refine⟨_,zqO hg hm pa hs hs2,fun B G H σ ρ ds ρ' Q I hm k=>?_⟩;refine bP hm fun es ρ1 e1 h2=>?_
 dsimp only at h2;refine sa B G H σ ρ es ρ1 _ I e1 fun G1 H1 vs I1 f1 r1=>?_
 split at h2
 ·rename_i i j l;refine bJ h2 fun hj h2=>?_
  ·skip
   simp only[eO,kK]at hj;obtain⟨rfl,rfl⟩:=bT h2;obtain⟨x,xs,rfl,rx,r2⟩:=r1;obtain⟨y,ys,rfl,ry,r3⟩:=r2;obtain⟨z,zs,rfl,rz,r4⟩:=r3;cases(show x=V.int i from rx);cases(show y=V.int j from ry);cases(show z=V.int l from rz);cases(show zs=[]from r4);have a1:=znh hj.1.1.1;have a2:=znh hj.1.1.2;exact⟨i,j,l,rfl,⟨a1.1,a1.2,a2.1,a2.2,hj.1.2,hj.2⟩,k _ G1 H1 I1 f1 (zpq i l _)⟩
 ·exact aM h2
noncomputable def oE (lt:Int->Int->Bool)(ns:List Int):Int:=ns.getD (argBest (fun i j=>lt (ns.getD i 0) (ns.getD j 0)) (ns.length-1)) 0
noncomputable def oI (K:W.Frag)(lt:Int->Int->Bool):List V->Hp->VK->Prop:=fun xs H Q=>∃(p:Addr) (ns:List Int),xs=[.ref p]/\ns≠[]/\(SqL K H p (ns.map V.int)\/SqT K H p (ns.map V.int))/\Q (.int (oE lt ns)) H
theorem zrw (hc:X.calm=true):jM X (.builtin "max") (oI X.K fun i j=>decide (i>j)):=by
 intro pins s σ H xs us Q I r h;obtain⟨p,ns,rfl,ne,hq,q⟩:=h;obtain⟨u,rfl,ru⟩:=zG r;cases ru;refine call_max_walk (Fy (A:=X.A.in1) (I.ok.hd hc) I hq fun its s₂ St rv W st hfp fin=>?_);have hl:=rv.length;rw[eL]at hl;have hp:0<its.length:=by rw[<-hl];exact qbZ.mpr ne
 refine⟨_,_,_,_,_,_,_,rfl,W,st,hfp,hp,CmpOf.ints_gt (fun i=>ns.getD i 0) (fun i v e=>Ml rv e),fun v h' tk hP hk=>?_⟩;obtain⟨t,rfl⟩:=Ml rv hP;refine⟨.int (oE _ ns),H,fin h' tk hk,⟨t,?_⟩,q⟩;unfold oE;rw[hl]
theorem zqJ (hc:X.calm=true):jM X (.builtin "min") (oI X.K fun i j=>decide (i<j)):=by
 intro pins s σ H xs us Q I r h;obtain⟨p,ns,rfl,ne,hq,q⟩:=h;obtain⟨u,rfl,ru⟩:=zG r;cases ru;refine call_min_walk (Fy (A:=X.A.in1) (I.ok.hd hc) I hq fun its s₂ St rv W st hfp fin=>?_);have hl:=rv.length;rw[eL]at hl;have hp:0<its.length:=by rw[<-hl];exact qbZ.mpr ne
 refine⟨_,_,_,_,_,_,_,rfl,W,st,hfp,hp,CmpOf.ints_lt (fun i=>ns.getD i 0) (fun i v e=>Ml rv e),fun v h' tk hP hk=>?_⟩;obtain⟨t,rfl⟩:=Ml rv hP;refine⟨.int (oE _ ns),H,fin h' tk hk,⟨t,?_⟩,q⟩;unfold oE;rw[hl]
noncomputable def Rn (lt:Int->Int->Bool):List D->Option D
 |[d]=>(dM [d]).bind fun ds=>(iD ds).bind fun ns=>if ns.isEmpty then none else some (.int (oE lt ns))
 |_=>none
theorem zqu (lt:Int->Int->Bool):VC X (oI X.K lt) (Rn lt):=by
 intro B G H σ ρ xs ds d Q I r hf k
 match ds,hf with
 |[a],hf=>
  refine bA hf fun es e1 hf=>?_
  refine bA hf fun ns e2 hf=>?_
  split at hf
  ·exact aM hf
  ·rename_i ne;cases hf;obtain⟨x,rfl,ra⟩:=r.one;obtain⟨p,ys,rfl,hq,ry⟩:=Vl I ra e1;rw[Qw e2]at ry;rw[RepL.ints_eq ry]at hq;exact⟨p,ns,rfl,fun z=>ne (by rw[z];rfl),hq,k G H _ I (Fz.refl G) rfl⟩
 |[],hf=>exact aM hf
 |_::_::_,hf=>exact aM hf
noncomputable def gL:List D->Option D:=Rn fun i j=>decide (i>j)
noncomputable def jZ:List D->Option D:=Rn fun i j=>decide (i<j)
theorem Lf (hc:X.calm=true)(ml:X.mg "max"=none)(ha:SA X [e] ma)(hg:autoParam (Gl X "max") zu3._auto_1)(he:autoParam (starEach [e] X.env=(false,eval e X.env)::starEach [] X.env) zu3._auto_1):SE X (.Call (.Name "max" p) [e] [] pos) (mC gL ma):=
 uF (zrw hc) (zqu _) (by decide+kernel) ml ha hg (by decide) (by decide) he rfl
theorem Uh (hc:X.calm=true)(ml:X.mg "min"=none)(ha:SA X [e] ma)(hg:autoParam (Gl X "min") zu3._auto_1)(he:autoParam (starEach [e] X.env=(false,eval e X.env)::starEach [] X.env) zu3._auto_1):SE X (.Call (.Name "min" p) [e] [] pos) (mC jZ ma):=
 uF (zqJ hc) (zqu _) (by decide+kernel) ml ha hg (by decide) (by decide) he rfl
noncomputable def yN (ma mb:ME):MO:=fun ρ=>(ma ρ).bind fun p=>(mb p.2).bind fun q=>match p.1,q.1 with
 | .lst xs,.int k=>if iE k&&decide (xs.length*k.toNat<=16777216)then some ((List.replicate k.toNat xs).flatten,q.2)else none
 |_,_=>none
theorem RepL.times (h:RepL K G xs ds):∀n:Nat,RepL K G (List.replicate n xs).flatten (List.replicate n ds).flatten
 |0=>RepL.nil
 |n+1=>by
  rw[zR,Bh,zR,Bh];exact h.append (h.times n)
theorem qM {ma mb:ME}(ha:SE X a ma)(hb:SE X b mb):SO X (.BinOp a .Mult b pos) (yN ma mb):=by
 refine ha.el fun ta pa sa=>?_
 refine hb.el fun tb pb sb=>?_
 refine⟨_,Au pL pa pb,fun B G H σ ρ d ρ' Q I hm k=>?_⟩;refine bP hm fun x ρ1 e1 hm=>?_
 refine bP hm fun y ρ2 e2 hm=>?_
 refine sa B G H σ ρ x ρ1 _ I e1 fun G1 H1 v I1 f1 r1=>sb B G1 H1 σ ρ1 y ρ2 _ I1 e2 fun G2 H2 u I2 f2 r2=>?_
 dsimp only at hm
 split at hm
 ·rename_i xs n _;refine bJ hm fun hs hm=>?_
  ·skip
   obtain⟨rfl,rfl⟩:=bT hm;simp only[eO,kK]at hs;cases(show u=V.int n from r2);obtain⟨l,ys,rfl,hl,r⟩:=I2.lst (r1.mono f2);have a1:=De hs.1;refine⟨l,n,ys,rfl,rfl,hl,by lia,by lia,by rw[r.length,iL];exact hs.2,fun p hp=>?_⟩;obtain⟨I3,g3,h3,b3,n3⟩:=I2.newO hp (List.replicate n.toNat ys).flatten;exact k G2 _ p _ I3 (f1.trans f2) g3 h3 (r.times _) b3 n3
 ·exact aM hm
noncomputable def Xc:D->Option V
 | .non=>some .non
 | .bl b=>some (.bl b)
 | .int i=>some (.int i)
 | .str x=>some (.str x)
 |_=>none
noncomputable def qN:List D->Option (List V)
 |[]=>some []
 |d::ds=>(Xc d).bind fun v=>(qN ds).map (v:: ·)
theorem pM {x v:V}{d:D}(r:RepD K G x d)(e:Xc d=some v):x=v/\tQ v=true:=by
 cases d<;>simp only[Xc]at e<;>cases e<;>exact⟨r,rfl⟩
theorem zoK:∀{ys xs:List V} {ds:List D},RepL K G ys ds->qN ds=some xs->ys=xs/\xs.all tQ=true
 |ys,xs,[],r,e=>by cases e;cases(show ys=[]from r);exact⟨rfl,rfl⟩
 |ys,xs,d::ds,r,e=>by
  obtain⟨y,zs,rfl,ry,rz⟩:=r;refine bA e fun v e1 e=>?_
  obtain⟨vs,e2,rfl⟩:=zol e;obtain⟨rfl,f1⟩:=pM ry e1;obtain⟨rfl,f2⟩:=zoK rz e2;exact⟨rfl,by rw[Uk,f1,f2];rfl⟩
noncomputable def Ej (neg:Bool)(a b:D):Option D:=(Xc a).bind fun x=>(dM [b]).bind fun ds=>(qN ds).map fun xs=> .bl (if neg then !Xh x xs else Xh x xs)
noncomputable def mF:D->D->Option D:=Ej false
theorem Ng (neg:Bool):V2 X (rIn X.K neg) (Ej neg):=by
 intro B G H σ ρ x y a b d Q I ra rb hf k;refine bA hf fun v e1 hf=>?_
 refine bA hf fun ds e2 hf=>?_
 obtain⟨xs,e3,rfl⟩:=zol hf;obtain⟨rfl,f1⟩:=pM ra e1;obtain⟨p,ys,rfl,hq,ry⟩:=Vl I rb e2;obtain⟨rfl,f2⟩:=zoK ry e3;exact⟨p,ys,rfl,hq,f1,f2,k G H _ I (Fz.refl G) rfl⟩
theorem Tb (neg:Bool):∀x y d,Ej neg x y=some d->∃t,d= .bl t:=by
 intro x y d hf;refine bA hf fun v e1 hf=>?_
 refine bA hf fun ds e2 hf=>?_
 obtain⟨xs,e3,rfl⟩:=zol hf;exact⟨_,rfl⟩
theorem Ce {ma mb:ME}(ha:SE X a ma)(hb:SE X b mb)(hm:autoParam (behindInMarks .In b=false) zu3._auto_1):STt X (.Compare a [.In] [b] pos) (aQ (m2 mF ma mb)):=Ay zr9 (Ng false) (Tb false) ha hb hm
end M
namespace M
open L2 PySem PySem.Spec
open PyProof.Rows hiding St
open Sem (wp)
variable {b N i:Nat} {a it l:Addr} {t:Bool} {h h':Heap} {is xs ys:Array Value} {Q:Value->Shared->Prop}
theorem aX {b x y z:Nat}(h:b∈[x,y])(h1:x≠z)(h2:y≠z):b≠z:=by
 simp at h;rcases h with rfl|rfl<;>assumption
theorem nA {N a b:Nat}(h:a≠b):N+a≠N+b:=fun e=>h (qb0 e)
theorem nB (h:0≠b):N≠N+b:=fun e=>h (qb0 (show N+0=N+b from e))
theorem nC (h:b≠0):N+b≠N:=fun e=>h (qb0 (show N+b=N+0 from e))
theorem nL {a N b:Nat}(h:a<N):a≠N+b:=gC (iH h (Nat.le_add_right _ _))
theorem bG {a b:Nat}(h:a≠b):a≠b:=h
local macro_rules | `(tactic| ac_rfl) => `(tactic| first | exact M.nA (by decide) | exact M.nB (by decide) | exact M.nC (by decide) | exact M.nL (by assumption) | exact Nat.ne_of_lt (by assumption) | lia)
noncomputable def SrcIt:Bool->Heap->Addr->Addr->Nat->Prop
 |true,h,it,a,i=>h.IsTupleIter it a i
 |false,h,it,a,i=>h.IsListIter it a i
noncomputable def SrcH:Bool->Heap->Addr->Array Value->Prop
 |true,h,a,its=>h.IsTuple a its
 |false,h,a,its=>h.IsList a its
theorem SrcIt.at (x:SrcIt t h it a i)(e:∀o,h.get? it=some o->h'.get? it=some o):SrcIt t h' it a i:=by
 cases t
 ·exact Heap.IsListIter.at x e
 ·exact Heap.IsTupleIter.at x e
theorem SrcH.at (x:SrcH t h a is)(e:∀o,h.get? a=some o->h'.get? a=some o):SrcH t h' a is:=by
 cases t
 ·exact Heap.IsList.at x e
 ·obtain⟨o,ho,r⟩:=x;exact⟨o,e _ ho,r⟩
theorem SrcIt.obj (x:SrcIt t h it a i):∃o,h.get? it=some o/\∀v,o.data≠ .cell v:=by
 cases t<;>(obtain⟨o,e,c,d⟩:=x;exact⟨o,e,fun v z=>by rw[d]at z;cases z⟩)
theorem SrcH.lt (x:SrcH t h a is):a<h.objs.size:=by
 cases t<;>(obtain⟨o,e,_⟩:=x;exact cY e)
section
variable {prog:Program} {w:World} {A:Around} {E:Value->Shared->Prop} {s:Shared}
theorem zpb {items}(hit:s.heap.IsTupleIter it l i)(hl:s.heap.IsTuple l items)
  (k : (∃ x, items[i]? = some x /\ ∀ h', h'.IsTupleIter it l (i + 1) -> Heap.SameBut it s.heap h' -> Q x { s with heap := h' }) \/
   (items[i]? =none/\A.handled=none/\∀h' e,Heap.ExtBut it s.heap h'->(∃o,h'.get? e=some o/\o.cls= .type "StopIteration")->E (.ref e) {s with heap:=h'})):
  wpAny (model prog w) A (Builtin.SmallTypes.nextOf (.ref it)) Q E s:=by
 obtain⟨o,ho,hc,hd⟩:=id hit;obtain⟨ol,hol,-,nl,hdl⟩:=hl;have ne:¬((Value.ref l==Value.none)=true):=iX;unfold Builtin.SmallTypes.nextOf;refine aL (Iq (name:=Str.ofString "__next__") hit.typeIs slot_tupleiter_next (Cf slot_tupleiter_next hit.typeIs entry_tupleiter_next ?_ (args_tupleiter_next _)));refine(?_:wpAny _ _ (field (.ref it) 0>>=_) _ _ s);refine aL (gW ho hd (x:= .ref l) rfl (?_:wpAny _ _ (if(Value.ref l==Value.none)=true then _ else _) _ _ s));rw[if_neg ne];refine(?_:wpAny _ _ (field (.ref it) 1>>=_) _ _ s);refine aL (gW ho hd (x:= .int i 0) rfl (?_:wpAny _ _ (seqItems? (.ref l)>>=_) _ _ s));refine aL (iI hol hdl ?_);rcases k with⟨x,hx,k⟩|⟨hx,hh,k⟩<;>simp only[Uc,hx]
 ·have upd:∀h':Heap,h'.get? it=some (o.mapFields fun a=>a.setIfInBounds 1 (rawInt (((i:Nat):Int)+1)))->h'.IsTupleIter it l (i+1):=fun h' e=>⟨_,e,(Obj.cls_mapFields ..).trans hc,by rw[Zk hd];simp[rawInt]⟩
  refine aL (wpAny_setField ho hd (by simp) (qaz ⟨x,rfl,qaz (k _ ?_ (qb3 ..))⟩));refine⟨_,Sm _ ho (Obj.isFreed_of_fields (Zk hd _)),(Obj.cls_mapFields ..).trans hc,?_⟩;rw[Zk hd];simp[rawInt]
 ·refine aL (Bx (aL (wpAny_setField ho hd (by simp) (?_:wpAny _ _ (newExc (.type "StopIteration") []>>=_) _ _ _))));refine aL ?_;simp only[newExc,newTuple];refine aL (vY (aL (m:=firstArgMember _ _) (wpAny_of_eq (a:=Value.none) (by first|rfl|(simp only[firstArgMember];rfl)) (vY ?_ (by size_fits)))) (by size_fits));simp only[raiseNew];refine aL (wpAny_handled ?_)
  first|rw[show A.in1.handled=none from hh]|rw[hh]
  exact aL (qaz (wpAny_throw (k _ _ (((qb3 ..).extBut.push _).push _) ⟨_,eR _ rfl,rfl⟩)))
theorem mN (hh:A.handled=none)(it l:Addr)(hne:l≠it)(items:Array Value):Draws prog w A it [it,l] items.size (fun i v=>items[i]? =some v) (fun i h=>SrcIt t h it l i/\SrcH t h l items):=by
 cases t
 ·exact Draws.list hh it l hne items
 ·refine⟨fun _ _ st=>?_,fun _ _ _ st hk=>⟨SrcIt.at st.1 fun o e=>hk it (by simp) o e,SrcH.at st.2 fun o e=>hk l (by simp) o e⟩,fun i s Q E hi st hQ=>?_,fun s Q E st hE=>zpb st.1 st.2 (.inr ⟨by simp,hh,hE⟩)⟩
  ·obtain⟨o,e,-⟩:=SrcIt.obj st.1;exact⟨o,e⟩
  ·exact zpb st.1 st.2 (.inl ⟨items[i],by simp[hi],fun h' a b=>hQ _ h' s.toks (by simp[hi]) ⟨a,SrcH.at st.2 fun o e=>(b.2 l hne).trans e⟩ b⟩)
noncomputable def bM (t:Bool)(a:Addr):Obj:={cls:= .type (if t then "tuple_iterator" else "list_iterator"),data:= .fields #[.ref a,.int 0 0]}
theorem Lq (e:h.get? it=some (bM t a)):SrcIt t h it a 0:=by
 cases t<;>exact⟨_,e,rfl,rfl⟩
theorem Lz (t:Bool)(a:Addr):(bM t a).isFreed=false:=by cases t<;>rfl
theorem Fg {items}(hl:SrcH t s.heap a items)(hQ:Q (.ref s.heap.objs.size) {s with heap:=s.heap.push (bM t a)}):
  wpAny (model prog w) A (pyIter (.ref a)) Q E s:=by
 cases t
 ·exact wpAny_pyIter_list hl hQ
 ·exact qbJ hl hQ
noncomputable abbrev gZ (h:Heap)(T:Addr)(a b c:Value):Prop:=h.get? T=some {cls:= .type "tuple",data:= .seq #[a,b,c]}
theorem Sb {T:Addr}{a b c x:Value}{k:Nat}{Q:Unit->Shared->Prop}(hT:gZ s.heap T a b c)
  (h:∀h',h'.get? T=some {cls:= .type "tuple",data:= .seq ((#[a,b,c]:Array Value).setIfInBounds k x)}->Heap.SameBut T s.heap h'->Q () {s with heap:=h'}):
  wpAny (model prog w) A (updateSeq T (·.setIfInBounds k x)) Q E s:=
 Wz hT rfl (h _ (by rw[Sm _ hT rfl];simp[Obj.mapSeq]) (qb3 ..))
section
variable {N a1 a2 a3:Nat} {n1 n2 n3:Nat} {P1 P2 P3:Nat->Value->Prop} {S1 S2 S3:Nat->Heap->Prop}
theorem zqx {a b c:Value}(D1:Draws prog w A N [N,a1] n1 P1 S1)(D2:Draws prog w A (N+1) [N+1,a2] n2 P2 S2)(D3:Draws prog w A (N+2) [N+2,a3] n3 P3 S3)(l1:a1<N)(l2:a2<N)(l3:a3<N)
  (hz:IsZip s.heap (N+5) (N+3) (N+4) .none) (hTI:gZ s.heap (N+3) (.ref N) (.ref (N+1)) (.ref (N+2))) (hTO:gZ s.heap (N+4) a b c) (h1:S1 i s.heap) (h2:S2 i s.heap) (h3:S3 i s.heap) (i1:i<n1) (i2:i<n2) (i3:i<n3)
  (k : ∀ x y z h' tk, P1 i x -> P2 i y -> P3 i z -> IsZip h' (N + 5) (N + 3) (N + 4) (rawInt s.heap.objs.size) -> gZ h' (N + 4) x y z -> S1 (i + 1) h' -> S2 (i + 1) h' -> S3 (i + 1) h' -> gZ h' s.heap.objs.size x y z ->
   (∀c o,c≠N->c≠N+1->c≠N+2->c≠N+4->c≠N+5->s.heap.get? c=some o->h'.get? c=some o)->Q (.ref s.heap.objs.size) {s with heap:=h',toks:=tk}):
  wpAny (model prog w) A (Builtin.«zip.__next__» ⟨[.ref (N+5)],[]⟩) (fun fin s'=>∃v,fin= .done (.ret v)/\Q v s') E s:=by
 refine(?_:wpAny _ _ (field (.ref (N+5)) 2>>=_) _ _ _);refine aL (gW hz rfl (x:= .bool false) rfl (?_:wpAny _ _ (field (.ref (N+5)) 3>>=_) _ _ _));refine aL (gW hz rfl (x:= .ref (N+3)) rfl (aL (iI hTI rfl (?_:wpAny _ _ (Builtin.SmallTypes.ownedTupleIsFree (.ref (N+5))>>=_) _ _ _))));refine aL ?_;unfold Builtin.SmallTypes.ownedTupleIsFree;refine aL (gW hz rfl (x:= .none) rfl (qaz ?_));simp only[if_true];refine aL (Bx (aL (gW hz rfl (x:= .ref (N+4)) rfl (aL (jT hz (by simp) fun g1 z1 s1=>aL ?_)))))
 replace z1:IsZip g1 (N+5) (N+3) (N+4) .ellipsis:=z1
 simp only[Uy,Vv,Gm,Fc];refine aL (aL (tV (?_:wpAny _ _ (Builtin.SmallTypes.nextOf (.ref N)>>=_) _ _ _)));have e1:S1 i g1:=D1.frame _ _ _ h1 fun b hb o e=>(s1.2 b (aX hb (by ac_rfl) (by ac_rfl))).trans e
 refine aL (D1.item i _ _ _ i1 e1 fun x g2 t2 p1 f2 s2=>qaz ?_);have q2:gZ g2 (N+4) a b c:=(s2.2 _ (bG (by ac_rfl))).trans ((s1.2 _ (bG (by ac_rfl))).trans hTO);refine aL (iI q2 rfl (aL (Sb q2 fun g3 q3 s3=>aL (mQ (qaz ?_)))))
 replace q3:gZ g3 (N+4) x b c:=q3
 have k3:∀d o,d≠N->d≠N+4->d≠N+5->s.heap.get? d=some o->g3.get? d=some o:=fun d o c1 c2 c3 e=>(s3.2 d c2).trans ((s2.2 d c1).trans ((s1.2 d c3).trans e))
 refine aL (aL (tV (?_:wpAny _ _ (Builtin.SmallTypes.nextOf (.ref (N+1))>>=_) _ _ _)));have e3:S2 i g3:=D2.frame _ _ _ h2 fun b hb o e=>k3 b o (aX hb (by ac_rfl) (by ac_rfl)) (aX hb (by ac_rfl) (by ac_rfl)) (aX hb (by ac_rfl) (by ac_rfl)) e
 refine aL (D2.item i _ _ _ i2 e3 fun y g4 t4 p2 f4 s4=>qaz ?_);have q4:gZ g4 (N+4) x b c:=(s4.2 _ (bG (by ac_rfl))).trans q3;refine aL (iI q4 rfl (aL (Sb q4 fun g5 q5 s5=>aL (mQ (qaz ?_)))))
 replace q5:gZ g5 (N+4) x y c:=q5
 refine aL (aL (tV (?_:wpAny _ _ (Builtin.SmallTypes.nextOf (.ref (N+2))>>=_) _ _ _)));have e5:S3 i g5:=D3.frame _ _ _ h3 fun b hb o e=>(s5.2 b (aX hb (by ac_rfl) (by ac_rfl))).trans ((s4.2 b (aX hb (by ac_rfl) (by ac_rfl))).trans (k3 b o (aX hb (by ac_rfl) (by ac_rfl)) (aX hb (by ac_rfl) (by ac_rfl)) (aX hb (by ac_rfl) (by ac_rfl)) e))
 refine aL (D3.item i _ _ _ i3 e5 fun z g6 t6 p3 f6 s6=>qaz ?_);have q6:gZ g6 (N+4) x y c:=(s6.2 _ (bG (by ac_rfl))).trans q5;refine aL (iI q6 rfl (aL (Sb q6 fun g7 q7 s7=>aL (mQ (qaz (qaz ?_))))))
 replace q7:gZ g7 (N+4) x y z:=q7
 have sz:g7.objs.size=s.heap.objs.size:=by rw[s7.1,s6.1,s5.1,s4.1,s3.1,s2.1,s1.1]
 have z7:IsZip g7 (N+5) (N+3) (N+4) .ellipsis:=(s7.2 _ (bG (by ac_rfl))).trans ((s6.2 _ (bG (by ac_rfl))).trans ((s5.2 _ (bG (by ac_rfl))).trans ((s4.2 _ (bG (by ac_rfl))).trans ((s3.2 _ (bG (by ac_rfl))).trans ((s2.2 _ (bG (by ac_rfl))).trans z1)))));have zl:(N+5:Nat)<g7.objs.size:=cY z7;have k7:∀d o,d≠N->d≠N+1->d≠N+2->d≠N+4->d≠N+5->s.heap.get? d=some o->g7.get? d=some o:=fun d o c1 c2 c3 c4 c5 e=>(s7.2 d c4).trans ((s6.2 d c3).trans ((s5.2 d c4).trans ((s4.2 d c2).trans (k3 d o c1 c4 c5 e))))
 have f7:S1 (i+1) g7:=D1.frame _ _ _ f2 fun b hb o e=>(s7.2 b (aX hb (by ac_rfl) (by ac_rfl))).trans ((s6.2 b (aX hb (by ac_rfl) (by ac_rfl))).trans ((s5.2 b (aX hb (by ac_rfl) (by ac_rfl))).trans ((s4.2 b (aX hb (by ac_rfl) (by ac_rfl))).trans ((s3.2 b (aX hb (by ac_rfl) (by ac_rfl))).trans e))))
 have f7':S2 (i+1) g7:=D2.frame _ _ _ f4 fun b hb o e=>(s7.2 b (aX hb (by ac_rfl) (by ac_rfl))).trans ((s6.2 b (aX hb (by ac_rfl) (by ac_rfl))).trans ((s5.2 b (aX hb (by ac_rfl) (by ac_rfl))).trans e))
 have f7'':S3 (i+1) g7:=D3.frame _ _ _ f6 fun b hb o e=>(s7.2 b (aX hb (by ac_rfl) (by ac_rfl))).trans e
 refine aL (iI q7 rfl (aL (wpAny_newTuple (?_:wpAny _ _ (Builtin.SmallTypes.ownedTupleHandOut (.ref (N+5)) (.ref g7.objs.size)>>=_) _ _ _))));refine aL ?_;unfold Builtin.SmallTypes.ownedTupleHandOut;refine aL (jT (show IsZip (g7.push {cls:= .type "tuple",data:= .seq #[x,y,z]}) (N+5) (N+3) (N+4) .ellipsis from bH _ z7) (by simp) fun g9 z9 s9=>?_)
 replace z9:IsZip g9 (N+5) (N+3) (N+4) (rawInt g7.objs.size):=z9
 refine jT z9 (by simp) fun g8 z8 s8=>qaz ⟨_,rfl,?_⟩
 replace z8:IsZip g8 (N+5) (N+3) (N+4) (rawInt g7.objs.size):=z8
 have up:∀c o,c≠N+5->g7.get? c=some o->g8.get? c=some o:=fun c o c1 e=>(s8.2 c c1).trans ((s9.2 c c1).trans (bH _ e))
 have T8:gZ g8 g7.objs.size x y z:=(s8.2 _ (bG (by ac_rfl))).trans ((s9.2 _ (bG (by ac_rfl))).trans (eR _ rfl));rw[sz]at z8 T8;refine(?_:Q (.ref g7.objs.size) _);rw[sz];exact k x y z g8 _ p1 p2 p3 z8 (up _ _ (bG (by ac_rfl)) q7) (D1.frame _ _ _ f7 fun b hb o e=>up b o (aX hb (by ac_rfl) (by ac_rfl)) e) (D2.frame _ _ _ f7' fun b hb o e=>up b o (aX hb (by ac_rfl) (by ac_rfl)) e) (D3.frame _ _ _ f7'' fun b hb o e=>up b o (aX hb (by ac_rfl) (by ac_rfl)) e) T8 fun c o c1 c2 c3 c4 c5 e=>up c o c5 (k7 c o c1 c2 c3 c4 c5 e)
theorem rK {a b c:Value}{Q:Fin->Shared->Prop}(D1:Draws prog w A N [N,a1] n1 P1 S1)(D2:Draws prog w A (N+1) [N+1,a2] n2 P2 S2)(D3:Draws prog w A (N+2) [N+2,a3] n3 P3 S3)(l1:a1<N)(l2:a2<N)(l3:a3<N)
  (hz:IsZip s.heap (N+5) (N+3) (N+4) .none) (hTI:gZ s.heap (N+3) (.ref N) (.ref (N+1)) (.ref (N+2))) (hTO:gZ s.heap (N+4) a b c) (h1:S1 i s.heap) (h2:S2 i s.heap) (h3:S3 i s.heap) (hi:i=n1\/(i<n1/\(i=n2\/(i<n2/\i=n3))))
  (k:∀h' e tk,(∀c o,c≠N->c≠N+1->c≠N+2->c≠N+4->c≠N+5->s.heap.get? c=some o->h'.get? c=some o)->(∃o,h'.get? e=some o/\o.cls= .type "StopIteration")->E (.ref e) {s with heap:=h',toks:=tk}):
  wpAny (model prog w) A (Builtin.«zip.__next__» ⟨[.ref (N+5)],[]⟩) Q E s:=by
 refine(?_:wpAny _ _ (field (.ref (N+5)) 2>>=_) _ _ _);refine aL (gW hz rfl (x:= .bool false) rfl (?_:wpAny _ _ (field (.ref (N+5)) 3>>=_) _ _ _));refine aL (gW hz rfl (x:= .ref (N+3)) rfl (aL (iI hTI rfl (?_:wpAny _ _ (Builtin.SmallTypes.ownedTupleIsFree (.ref (N+5))>>=_) _ _ _))));refine aL ?_;unfold Builtin.SmallTypes.ownedTupleIsFree;refine aL (gW hz rfl (x:= .none) rfl (qaz ?_));simp only[if_true];refine aL (Bx (aL (gW hz rfl (x:= .ref (N+4)) rfl (aL (jT hz (by simp) fun g1 z1 s1=>aL ?_)))))
 replace z1:IsZip g1 (N+5) (N+3) (N+4) .ellipsis:=z1
 simp only[Uy,Vv,Gm,Fc];refine aL (aL (tV (?_:wpAny _ _ (Builtin.SmallTypes.nextOf (.ref N)>>=_) _ _ _)));have e1:S1 i g1:=D1.frame _ _ _ h1 fun b hb o e=>(s1.2 b (aX hb (by ac_rfl) (by ac_rfl))).trans e
 rcases hi with rfl|⟨i1,hi⟩
 ·refine aL (D1.done _ _ _ e1 fun g2 e x2 he=>?_);obtain⟨oe,hoe,hce⟩:=he;have z2:IsZip g2 (N+5) (N+3) (N+4) .ellipsis:=x2 _ _ (bG (by ac_rfl)) z1;have hez:e≠N+5:=fun x=>by subst x;rw[z2]at hoe;cases hoe;simp at hce
  exact jT z2 (by simp) fun g3 _ s3=>k g3 e _ (fun c o c1 c2 c3 c4 c5 x=>(s3.2 c c5).trans (x2 c o c1 ((s1.2 c c5).trans x))) ⟨oe,(s3.2 _ hez).trans hoe,hce⟩
 refine aL (D1.item i _ _ _ i1 e1 fun x g2 t2 p1 f2 s2=>qaz ?_);have q2:gZ g2 (N+4) a b c:=(s2.2 _ (bG (by ac_rfl))).trans ((s1.2 _ (bG (by ac_rfl))).trans hTO);refine aL (iI q2 rfl (aL (Sb q2 fun g3 q3 s3=>aL (mQ (qaz ?_)))))
 replace q3:gZ g3 (N+4) x b c:=q3
 have k3:∀d o,d≠N->d≠N+4->d≠N+5->s.heap.get? d=some o->g3.get? d=some o:=fun d o c1 c2 c3 e=>(s3.2 d c2).trans ((s2.2 d c1).trans ((s1.2 d c3).trans e))
 have z3:IsZip g3 (N+5) (N+3) (N+4) .ellipsis:=(s3.2 _ (bG (by ac_rfl))).trans ((s2.2 _ (bG (by ac_rfl))).trans z1);refine aL (aL (tV (?_:wpAny _ _ (Builtin.SmallTypes.nextOf (.ref (N+1))>>=_) _ _ _)));have e3:S2 i g3:=D2.frame _ _ _ h2 fun b hb o e=>k3 b o (aX hb (by ac_rfl) (by ac_rfl)) (aX hb (by ac_rfl) (by ac_rfl)) (aX hb (by ac_rfl) (by ac_rfl)) e
 rcases hi with rfl|⟨i2,rfl⟩
 ·refine aL (D2.done _ _ _ e3 fun g4 e x4 he=>?_);obtain⟨oe,hoe,hce⟩:=he;have z4:IsZip g4 (N+5) (N+3) (N+4) .ellipsis:=x4 _ _ (bG (by ac_rfl)) z3;have hez:e≠N+5:=fun x=>by subst x;rw[z4]at hoe;cases hoe;simp at hce
  exact jT z4 (by simp) fun g5 _ s5=>k g5 e _ (fun c o c1 c2 c3 c4 c5 x=>(s5.2 c c5).trans (x4 c o c2 (k3 c o c1 c4 c5 x))) ⟨oe,(s5.2 _ hez).trans hoe,hce⟩
 refine aL (D2.item i _ _ _ i2 e3 fun y g4 t4 p2 f4 s4=>qaz ?_);have q4:gZ g4 (N+4) x b c:=(s4.2 _ (bG (by ac_rfl))).trans q3;refine aL (iI q4 rfl (aL (Sb q4 fun g5 q5 s5=>aL (mQ (qaz ?_)))));have z5:IsZip g5 (N+5) (N+3) (N+4) .ellipsis:=(s5.2 _ (bG (by ac_rfl))).trans ((s4.2 _ (bG (by ac_rfl))).trans z3);refine aL (aL (tV (?_:wpAny _ _ (Builtin.SmallTypes.nextOf (.ref (N+2))>>=_) _ _ _)));have e5:S3 i g5:=D3.frame _ _ _ h3 fun b hb o e=>(s5.2 b (aX hb (by ac_rfl) (by ac_rfl))).trans ((s4.2 b (aX hb (by ac_rfl) (by ac_rfl))).trans (k3 b o (aX hb (by ac_rfl) (by ac_rfl)) (aX hb (by ac_rfl) (by ac_rfl)) (aX hb (by ac_rfl) (by ac_rfl)) e))
 refine aL (D3.done _ _ _ e5 fun g6 e x6 he=>?_);obtain⟨oe,hoe,hce⟩:=he;have z6:IsZip g6 (N+5) (N+3) (N+4) .ellipsis:=x6 _ _ (bG (by ac_rfl)) z5;have hez:e≠N+5:=fun x=>by subst x;rw[z6]at hoe;cases hoe;simp at hce
 exact jT z6 (by simp) fun g7 _ s7=>k g7 e _ (fun c o c1 c2 c3 c4 c5 x=>(s7.2 c c5).trans (x6 c o c3 ((s5.2 c c4).trans ((s4.2 c c2).trans (k3 c o c1 c4 c5 x))))) ⟨oe,(s7.2 _ hez).trans hoe,hce⟩
end
end
noncomputable abbrev iU (vs:Array Value):Obj:={cls:= .type "tuple",data:= .seq vs}
noncomputable abbrev Rq (ti to:Addr):Obj:={cls:= .type "zip",data:= .fields #[.none,.bool false,.bool false,.ref ti,.ref to]}
noncomputable abbrev Wi (h:Heap)(t1 t2:Bool)(l1 l2:Addr):Heap:=(h.push (bM t1 l1)).push (bM t2 l2)
noncomputable abbrev Xd (h:Heap)(t1 t2:Bool)(l1 l2:Addr):Heap:=(Wi h t1 t2 l1 l2).push (iU #[.ref h.objs.size,.ref (h.push (bM t1 l1)).objs.size])
noncomputable abbrev Wh (h:Heap)(t1 t2:Bool)(l1 l2:Addr):Heap:=(Xd h t1 t2 l1 l2).push (iU #[.none,.none])
noncomputable abbrev Kq (h:Heap)(t1 t2:Bool)(l1 l2:Addr):Heap:=(Wh h t1 t2 l1 l2).push (Rq (Wi h t1 t2 l1 l2).objs.size (Xd h t1 t2 l1 l2).objs.size)
theorem zpP (t1 t2:Bool)(l1 l2:Addr)(xs ys:Array Value):Meets (Builtin.«zip.__new__» ⟨[.type "zip",.ref l1,.ref l2],[]⟩) (fun _ R s=>SrcH t1 s.heap l1 xs/\SrcH t2 s.heap l2 ys/\
   R (.ok (.ret (.ref (Wh s.heap t1 t2 l1 l2).objs.size))) {s with heap:=Kq s.heap t1 t2 l1 l2}):=
 .of_wp fun prog w A R s h=>by
  obtain⟨hp,g,d,tk,os⟩:=s;obtain⟨b1,b2,h⟩:=h;have hsub:=sub_zip;have L1:SrcH t1 (Shared.heap ⟨hp,g,d,tk,os⟩) l1 xs:=b1;have L2:SrcH t2 (Shared.heap ⟨hp.push (bM t1 l1),g,d,tk,os⟩) l2 ys:=SrcH.at b2 fun o e=>bH _ e
  wp_walk using Fg L1,Fg L2
  exact⟨_,rfl,h⟩
noncomputable abbrev Wd (h:Heap)(t1 t2 t3:Bool)(l1 l2 l3:Addr):Heap:=((h.push (bM t1 l1)).push (bM t2 l2)).push (bM t3 l3)
noncomputable abbrev Xi (h:Heap)(t1 t2 t3:Bool)(l1 l2 l3:Addr):Heap:=(Wd h t1 t2 t3 l1 l2 l3).push (iU #[.ref h.objs.size,.ref (h.push (bM t1 l1)).objs.size,.ref ((h.push (bM t1 l1)).push (bM t2 l2)).objs.size])
noncomputable abbrev Uw (h:Heap)(t1 t2 t3:Bool)(l1 l2 l3:Addr):Heap:=(Xi h t1 t2 t3 l1 l2 l3).push (iU #[.none,.none,.none])
noncomputable abbrev Fn (h:Heap)(t1 t2 t3:Bool)(l1 l2 l3:Addr):Heap:=(Uw h t1 t2 t3 l1 l2 l3).push (Rq (Wd h t1 t2 t3 l1 l2 l3).objs.size (Xi h t1 t2 t3 l1 l2 l3).objs.size)
set_option maxHeartbeats 4000000 in
theorem zpW (t1 t2 t3:Bool)(l1 l2 l3:Addr)(xs ys zs:Array Value):Meets (Builtin.«zip.__new__» ⟨[.type "zip",.ref l1,.ref l2,.ref l3],[]⟩) (fun _ R s=>SrcH t1 s.heap l1 xs/\SrcH t2 s.heap l2 ys/\SrcH t3 s.heap l3 zs/\
   R (.ok (.ret (.ref (Uw s.heap t1 t2 t3 l1 l2 l3).objs.size))) {s with heap:=Fn s.heap t1 t2 t3 l1 l2 l3}):=
 .of_wp fun prog w A R s h=>by
  obtain⟨hp,g,d,tk,os⟩:=s;obtain⟨b1,b2,b3,h⟩:=h;have hsub:=sub_zip;have L1:SrcH t1 (Shared.heap ⟨hp,g,d,tk,os⟩) l1 xs:=b1;have L2:SrcH t2 (Shared.heap ⟨hp.push (bM t1 l1),g,d,tk,os⟩) l2 ys:=SrcH.at b2 fun o e=>bH _ e
  have L3:SrcH t3 (Shared.heap ⟨(hp.push (bM t1 l1)).push (bM t2 l2),g,d,tk,os⟩) l3 zs:=SrcH.at b3 fun o e=>bH _ (bH _ e)
  wp_walk using Fg L1,Fg L2,Fg L3
  exact⟨_,rfl,h⟩
theorem zlM (a b c:Value):checkTypeCall "zip" ⟨[a,b,c],[]⟩=pure ():=by kernel_rfl
theorem znk (a b c:Value):checkBuiltinCall "zip.__new__" ⟨[.type "zip",a,b,c],[]⟩=pure ():=by kernel_rfl
theorem zpC (a b c d:Value):argsOk "object.__init__" ⟨[a,b,c,d],[]⟩:=by
 unfold argsOk;rw[signature?_of (id:="object.__init__") (n:=['_','_','t','i','n','i','_','_']) (o:=['t','c','e','j','b','o']) (by kernel_rfl) F.owner_object];kernel_rfl
section
variable {prog:Program} {w:World} {A:Around} {E:Value->Shared->Prop} {s:Shared}
theorem zr1 {t1 t2:Bool}{l1 l2:Addr}(h1:SrcH t1 s.heap l1 xs)(h2:SrcH t2 s.heap l2 ys)
  (k : ∀ h', IsZip h' (s.heap.objs.size + 4) (s.heap.objs.size + 2) (s.heap.objs.size + 3) .none -> IsPair h' (s.heap.objs.size + 2) (.ref s.heap.objs.size) (.ref (s.heap.objs.size + 1)) ->
   IsPair h' (s.heap.objs.size+3) .none .none->SrcIt t1 h' s.heap.objs.size l1 0->SrcIt t2 h' (s.heap.objs.size+1) l2 0->
   (∀c o,s.heap.get? c=some o->h'.get? c=some o)->Q (.ref (s.heap.objs.size+4)) {s with heap:=h'}):wpAny (model prog w) A (call (.type "zip") [.ref l1,.ref l2]) Q E s:=by
 refine callType_new F.called_zip (by decide) (F.typeCall_zip_2 _ _) (F.newCall_zip_2 _ _) (fun obj=>F.args_object_init_3 obj _ _) F.entry_zip_new (zpP t1 t2 l1 l2 xs ys) ⟨h1,h2,(?_:_/\_)⟩;have y1:(s.heap.push (bM t1 l1)).objs.size=s.heap.objs.size+1:=jY ..;have y2:(Wi s.heap t1 t2 l1 l2).objs.size=s.heap.objs.size+2:=by rw[jY,y1]
 have y3:(Xd s.heap t1 t2 l1 l2).objs.size=s.heap.objs.size+3:=by rw[jY,y2]
 have y4:(Wh s.heap t1 t2 l1 l2).objs.size=s.heap.objs.size+4:=by rw[jY,y3]
 have g5:(Kq s.heap t1 t2 l1 l2).get? (Wh s.heap t1 t2 l1 l2).objs.size=some _:=eR _ rfl;have g4:(Kq s.heap t1 t2 l1 l2).get? (Xd s.heap t1 t2 l1 l2).objs.size=some _:=bH _ (eR _ rfl);have g3:(Kq s.heap t1 t2 l1 l2).get? (Wi s.heap t1 t2 l1 l2).objs.size=some _:=bH _ (bH _ (eR _ rfl));have g2:(Kq s.heap t1 t2 l1 l2).get? (s.heap.push (bM t1 l1)).objs.size=some (bM t2 l2):=bH _ (bH _ (bH _ (eR _ (Lz ..))));have g1:(Kq s.heap t1 t2 l1 l2).get? s.heap.objs.size=some (bM t1 l1):=bH _ (bH _ (bH _ (bH _ (eR _ (Lz ..)))));rw[y2,y3,y4]at g5;rw[y1,y2]at g3;rw[y3]at g4;rw[y1]at g2;rw[y4];exact⟨⟨_,g5,rfl⟩,k _ g5 g3 g4 (Lq g1) (Lq g2) fun c o x=>bH _ (bH _ (bH _ (bH _ (bH _ x))))⟩
theorem zrF {t1 t2 t3:Bool}{l1 l2 l3:Addr}{xs ys zs:Array Value}(h1:SrcH t1 s.heap l1 xs)(h2:SrcH t2 s.heap l2 ys)(h3:SrcH t3 s.heap l3 zs)
  (k : ∀ h', IsZip h' (s.heap.objs.size + 5) (s.heap.objs.size + 3) (s.heap.objs.size + 4) .none -> gZ h' (s.heap.objs.size + 3) (.ref s.heap.objs.size) (.ref (s.heap.objs.size + 1)) (.ref (s.heap.objs.size + 2)) ->
   gZ h' (s.heap.objs.size+4) .none .none .none->SrcIt t1 h' s.heap.objs.size l1 0->SrcIt t2 h' (s.heap.objs.size+1) l2 0->SrcIt t3 h' (s.heap.objs.size+2) l3 0->
   (∀c o,s.heap.get? c=some o->h'.get? c=some o)->Q (.ref (s.heap.objs.size+5)) {s with heap:=h'}):wpAny (model prog w) A (call (.type "zip") [.ref l1,.ref l2,.ref l3]) Q E s:=by
 refine callType_new F.called_zip (by decide) (zlM _ _ _) (znk _ _ _) (fun obj=>zpC obj _ _ _) F.entry_zip_new (zpW t1 t2 t3 l1 l2 l3 xs ys zs) ⟨h1,h2,h3,(?_:_/\_)⟩;have y1:(s.heap.push (bM t1 l1)).objs.size=s.heap.objs.size+1:=jY ..;have y2:((s.heap.push (bM t1 l1)).push (bM t2 l2)).objs.size=s.heap.objs.size+2:=by rw[jY,y1]
 have y3:(Wd s.heap t1 t2 t3 l1 l2 l3).objs.size=s.heap.objs.size+3:=by rw[jY,y2]
 have y4:(Xi s.heap t1 t2 t3 l1 l2 l3).objs.size=s.heap.objs.size+4:=by rw[jY,y3]
 have y5:(Uw s.heap t1 t2 t3 l1 l2 l3).objs.size=s.heap.objs.size+5:=by rw[jY,y4]
 have g6:(Fn s.heap t1 t2 t3 l1 l2 l3).get? (Uw s.heap t1 t2 t3 l1 l2 l3).objs.size=some _:=eR _ rfl;have g5:(Fn s.heap t1 t2 t3 l1 l2 l3).get? (Xi s.heap t1 t2 t3 l1 l2 l3).objs.size=some _:=bH _ (eR _ rfl);have g4:(Fn s.heap t1 t2 t3 l1 l2 l3).get? (Wd s.heap t1 t2 t3 l1 l2 l3).objs.size=some _:=bH _ (bH _ (eR _ rfl));have g3:(Fn s.heap t1 t2 t3 l1 l2 l3).get? ((s.heap.push (bM t1 l1)).push (bM t2 l2)).objs.size=some (bM t3 l3):=bH _ (bH _ (bH _ (eR _ (Lz ..))));have g2:(Fn s.heap t1 t2 t3 l1 l2 l3).get? (s.heap.push (bM t1 l1)).objs.size=some (bM t2 l2):=bH _ (bH _ (bH _ (bH _ (eR _ (Lz ..)))));have g1:(Fn s.heap t1 t2 t3 l1 l2 l3).get? s.heap.objs.size=some (bM t1 l1):=bH _ (bH _ (bH _ (bH _ (bH _ (eR _ (Lz ..))))));rw[y3,y4,y5]at g6;rw[y1,y2,y3]at g4;rw[y4]at g5;rw[y2]at g3;rw[y1]at g2;rw[y5];exact⟨⟨_,g6,rfl⟩,k _ g6 g4 g5 (Lq g1) (Lq g2) (Lq g3) fun c o x=>bH _ (bH _ (bH _ (bH _ (bH _ (bH _ x)))))⟩
noncomputable abbrev en_ (it:Addr):Obj:={cls:= .type "enumerate",data:= .fields #[.none,.bool false,.ref it,rawInt 0,.none,.none]}
theorem zpX (t:Bool)(l:Addr)(o:Obj)(xs:Array Value):Meets (Builtin.«enumerate.__new__» ⟨[.type "enumerate",.ref l],[]⟩) (fun _ R s=>s.heap.get? l=some o/\SrcH t s.heap l xs/\
   R (.ok (.ret (.ref (s.heap.push (bM t l)).objs.size))) {s with heap:=(s.heap.push (bM t l)).push (en_ s.heap.objs.size)}):=
 .of_wp fun prog w A R s h=>by
  obtain⟨hp,g,d,tk,os⟩:=s;obtain⟨hl,b,h⟩:=h;have hsub:=sub_enumerate;have hL:SrcH t (Shared.heap ⟨hp,g,d,tk,os⟩) l xs:=b
  wp_walk using Zy hl
  refine wpAny_stack_any fun st=>qaz ?_
  split
  ·rename_i c _ _ _ _ _;cases(c==Value.type "enumerate")<;>(wp_walk using Zy hl,Fg hL;exact⟨_,rfl,h⟩)
  ·wp_walk using Zy hl,Fg hL
   exact⟨_,rfl,h⟩
theorem zqv (h1:SrcH t s.heap l xs)
  (k:∀h',IsEnum h' (s.heap.objs.size+1) s.heap.objs.size 0 .none->SrcIt t h' s.heap.objs.size l 0->(∀b o,s.heap.get? b=some o->h'.get? b=some o)->Q (.ref (s.heap.objs.size+1)) {s with heap:=h'}):
  wpAny (model prog w) A (call (.type "enumerate") [.ref l]) Q E s:=by
 have⟨o,ho⟩:∃o,s.heap.get? l=some o:=by cases t<;>(obtain⟨o,e,-⟩:=h1;exact⟨o,e⟩)
 refine callType_new F.called_enumerate (by decide) (F.typeCall_enumerate_1 _) (F.newCall_enumerate_1 _) (fun obj=>F.args_object_init_2 obj _) F.entry_enumerate_new (zpX t l o xs) ⟨ho,h1,(?_:_/\_)⟩;have y1:(s.heap.push (bM t l)).objs.size=s.heap.objs.size+1:=jY ..;have g2:((s.heap.push (bM t l)).push (en_ s.heap.objs.size)).get? (s.heap.push (bM t l)).objs.size=some _:=eR _ rfl;have g1:((s.heap.push (bM t l)).push (en_ s.heap.objs.size)).get? s.heap.objs.size=some (bM t l):=bH _ (eR _ (Lz ..));rw[y1]at g2;rw[y1];exact⟨⟨_,g2,rfl⟩,k _ g2 (Lq g1) fun b o x=>bH _ (bH _ x)⟩
end
end M
namespace M
local macro_rules | `(tactic| ac_rfl) => `(tactic| first | exact M.nA (by decide) | exact M.nB (by decide) | exact M.nC (by decide) | exact M.nL (by assumption) | exact Nat.ne_of_lt (by assumption) | lia)
open L2 PySem PySem.Spec
open PyProof.Rows hiding St
open Sem (wp)
variable {t' ek:Nat} {h':Heap} {fp:List Addr} {vs xs:List V} {its:List Value} {t:Bool} {X:Cx} {pins:List (Addr×Obj)} {σ:St} {H:Hp} {s:Shared} {a:Expr} {K:W.Frag} {elts:List Expr} {ep p pos:Pos} {ta:TA} {es:List D} {ma:MA}
section
variable {X:Cx} {pins:List (Addr×Obj)} {σ:St} {H:Hp} {s:Shared}
theorem Tp (I:Inv X pins σ H s)(k:∀b o,b∉fp->s.heap.get? b=some o->h'.get? b=some o)(hf:∀b∈fp,eB X pins H b):Inv X pins σ H {s with heap:=h',toks:=t'}:=by
 have nit:∀b u,H b=some u->b∉fp:=fun b u e z=>by rw[(hf b z).1]at e;exact aM e
 refine I.step (g':=s.gens) (d':=s.drawn) (ch:=fp) (fun b hb=>?_) (fun b o _ _ hc e _=>k b o hc e) (fun b o _ _ hc e _=>⟨o.slots,k b o hc e⟩) (fun _ _ _ _ n=>n)
  (fun b o hc e=>⟨o,k b o hc e⟩) (fun _ _ e=>e) (fun _ _ _ e=>e) (fun b ps e=>⟨#[],by rw[e];simp⟩) (fun m hm=>?_) (fun b u e=>?_) I.bare
 ·obtain⟨f0,f1,f2,f3,f4,f5⟩:=hf b hb;exact⟨f3,f1,f4,f5⟩
 ·obtain⟨o,es,ep,ho,r⟩:=hm;exact⟨o,es,ep,k _ o (fun z=>(hf _ z).2.1 rfl) ho,r⟩
 ·refine(I.hok b u e).stay (fun c v hc q=>k c v ?_ q) (fun _ q=>q) fun _ _ q=>q
  rcases hc with z|z
  ·rw[z];exact nit b u e
  ·exact nit c _ z
theorem zn0 {t':Nat}{h':Heap}{fp:List Addr}(I:Inv X pins σ H s)(k:∀b o,b∉fp->s.heap.get? b=some o->h'.get? b=some o)(hf:∀b∈fp,eB X pins H b)(hl:∀b∈fp,b<s.heap.objs.size)
  (hT:h'.get? s.heap.objs.size=some (iU its.toArray)) (hz:vs.length<=sizeLine) (r:Vals vs its):Inv X pins σ (upd H s.heap.objs.size (.tup vs)) {s with heap:=h',toks:=t'}:=by
 have I1:=I.laid (t':=s.toks) (a:=s.heap.objs.size) (o:= .tup vs) (h':=s.heap.push (iU its.toArray)) (fun b u q=>bH _ q) (bU _) ⟨hz,its,r,IsTup.new _ _⟩;refine Tp (s:={s with heap:=s.heap.push (iU its.toArray),toks:=s.toks}) (t':=t') (fp:=fp) I1 (fun b o hb e=>?_) fun b hb=>?_
 ·have e':(s.heap.push (iU its.toArray)).get? b=some o:=e;rcases Heap.get?_push_cases e' with⟨rfl,rfl⟩|q
  ·exact hT
  ·exact k b o hb q
 ·obtain⟨f0,fr⟩:=hf b hb;refine⟨?_,fr⟩;rw[cF (gC (hl b hb))];exact f0
end
noncomputable def SrcSq (t:Bool)(K:W.Frag)(H:Hp)(a:Addr)(xs:List V):Prop:=match t with
 |true=>SqT K H a xs
 |false=>SqL K H a xs
theorem SrcSq.heap {a:Addr}(I:Inv X pins σ H s)(h:SrcSq t X.K H a xs):∃its:List Value,Vals xs its/\SrcH t s.heap a its.toArray/\xs.length<=sizeLine:=by
 cases t
 ·obtain⟨its,r,p,z⟩:=I.list h;exact⟨its,r,p.isList,z⟩
 ·obtain⟨its,r,p,z⟩:=I.tuple h;exact⟨its,r,p,z⟩
theorem SrcSq.inj {a:Addr}{xs ys:List V}(I:Inv X pins σ H s)(h:SrcSq t X.K H a xs)(h':SrcSq t X.K H a ys):xs=ys:=by
 cases t
 ·exact I.list_inj h h'
 ·exact I.tuple_inj h h'
noncomputable def Eg (K:W.Frag)(t1:Bool)(a1:Addr)(t2:Bool)(a2:Addr)(n:Nat):It where
 go:=fun i H=>i<n/\∃xs ys,SrcSq t1 K H a1 xs/\SrcSq t2 K H a2 ys/\n=min xs.length ys.length
 yld:=fun i H x H'=>∃p x1 x2,H p=none/\H'=upd H p (.tup [x1,x2])/\x= .ref p/\∀xs ys,SrcSq t1 K H a1 xs->SrcSq t2 K H a2 ys->xs[i]? =some x1/\ys[i]? =some x2
 stop:=fun i H=>n<=i/\∃xs ys,SrcSq t1 K H a1 xs/\SrcSq t2 K H a2 ys/\n=min xs.length ys.length
theorem Mk {c N:Nat}(h:c∉([N,N+1,N+2,N+3,N+4]:List Nat)):c≠N/\c≠N+1/\c≠N+3/\c≠N+4:=
 ⟨fun e=>h (e ▸ .head _),fun e=>h (e ▸ .tail _ (.head _)),fun e=>h (e ▸ .tail _ (.tail _ (.tail _ (.head _)))),fun e=>h (e ▸ .tail _ (.tail _ (.tail _ (.tail _ (.head _)))))⟩
theorem Te {c N:Nat}(h:c∉([N,N+1,N+2,N+3,N+4,N+5]:List Nat)):c≠N/\c≠N+1/\c≠N+2/\c≠N+4/\c≠N+5:=
 ⟨fun e=>h (e ▸ .head _),fun e=>h (e ▸ .tail _ (.head _)),fun e=>h (e ▸ .tail _ (.tail _ (.head _))),fun e=>h (e ▸ .tail _ (.tail _ (.tail _ (.tail _ (.head _))))),fun e=>h (e ▸ .tail _ (.tail _ (.tail _ (.tail _ (.tail _ (.head _))))))⟩
noncomputable def Oj (K:W.Frag)(t1:Bool)(a1:Addr)(t2:Bool)(a2:Addr)(t3:Bool)(a3:Addr)(n:Nat):It where
 go:=fun i H=>i<n/\∃xs ys zs,SrcSq t1 K H a1 xs/\SrcSq t2 K H a2 ys/\SrcSq t3 K H a3 zs/\n=min xs.length (min ys.length zs.length)
 yld:=fun i H x H'=>∃p x1 x2 x3,H p=none/\H'=upd H p (.tup [x1,x2,x3])/\x= .ref p/\∀xs ys zs,SrcSq t1 K H a1 xs->SrcSq t2 K H a2 ys->SrcSq t3 K H a3 zs->xs[i]? =some x1/\ys[i]? =some x2/\zs[i]? =some x3
 stop:=fun i H=>n<=i/\∃xs ys zs,SrcSq t1 K H a1 xs/\SrcSq t2 K H a2 ys/\SrcSq t3 K H a3 zs/\n=min xs.length (min ys.length zs.length)
theorem zsb {P:Program}{w:World}(t1:Bool)(a1:Nat)(t2:Bool)(a2:Nat)(t3:Bool)(a3:Nat)(n N:Nat)(l1:a1<N)(l2:a2<N)(l3:a3<N):
  Turn P w K (.Tuple elts ek ep) (Oj K t1 a1 t2 a2 t3 a3 n) ([N,N+1,N+2,N+3,N+4,N+5]:List Nat) (N+5:Nat)
   (fun i h=>i<=n/\IsZip h (N+5:Nat) (N+3:Nat) (N+4:Nat) .none/\gZ h (N+3:Nat) (.ref N) (.ref (N+1:Nat)) (.ref (N+2:Nat))/\(∃a b c,gZ h (N+4:Nat) a b c)/\SrcIt t1 h N a1 i/\SrcIt t2 h (N+1:Nat) a2 i/\SrcIt t3 h (N+2:Nat) a3 i) where
 mem:=by simp
 obj:=fun i h st b hb=>by
  obtain⟨-,h5,h3,⟨a,c,d,h4⟩,h0,h1,h2⟩:=st;simp only[qam,List.not_mem_nil,or_false]at hb;rcases hb with rfl|rfl|rfl|rfl|rfl|rfl
  ·exact h0.obj
  ·exact h1.obj
  ·exact h2.obj
  ·exact⟨_,h3,fun v z=>by cases z⟩
  ·exact⟨_,h4,fun v z=>by cases z⟩
  ·exact⟨_,h5,fun v z=>by cases z⟩
 keep:=fun i h h' st k=>by
  obtain⟨hi,h5,h3,⟨a,c,d,h4⟩,h0,h1,h2⟩:=st;exact⟨hi,k _ (by simp) _ h5,k _ (by simp) _ h3,⟨a,c,d,k _ (by simp) _ h4⟩,h0.at fun o e=>k _ (by simp) o e,h1.at fun o e=>k _ (by simp) o e,h2.at fun o e=>k _ (by simp) o e⟩
 item:=by
  intro X hP hw hK hc i pins s σ H E I hf st hg;subst hP hw hK;obtain⟨hi,h5,h3,⟨a,c,d,h4⟩,h0,h1,h2⟩:=st;obtain⟨hn,xs,ys,zs,q1,q2,q3,en⟩:=hg;obtain⟨us,ru,hu,zu⟩:=q1.heap I;obtain⟨ws,rw',hw',zw⟩:=q2.heap I;obtain⟨os,ro,ho',zo⟩:=q3.heap I;have lu:=ru.length;have lw:=rw'.length;have lo:=ro.length;have D1:=mN (prog:=X.prog) (w:=X.w) (A:=X.A.in1) (t:=t1) (I.ok.hd hc) N a1 (bG (by ac_rfl)) us.toArray;have D2:=mN (prog:=X.prog) (w:=X.w) (A:=X.A.in1) (t:=t2) (I.ok.hd hc) (N+1) a2 (bG (by ac_rfl)) ws.toArray;have D3:=mN (prog:=X.prog) (w:=X.w) (A:=X.A.in1) (t:=t3) (I.ok.hd hc) (N+2) a3 (bG (by ac_rfl)) os.toArray;have hT:s.TypeIs (.ref (N+5:Nat)) "zip":=⟨_,h5,rfl⟩;unfold pyNext;refine aL (Wj (Iq (name:=Str.ofString "__next__") hT Bg (Cf Bg hT Vr
   (zqx D1 D2 D3 l1 l2 l3 h5 h3 h4 ⟨h0,hu⟩ ⟨h1,hw'⟩ ⟨h2,ho'⟩ (by simp;lia) (by simp;lia) (by simp;lia) fun x y z h' tk p1 p2 p3 g5 g4 g0 g1 g2 gT kk=>qaz ?_) (Vs _))))
  obtain⟨x1,hx1⟩:∃x1,xs[i]? =some x1:=⟨xs[i]'(by lia),cG _⟩;obtain⟨x2,hx2⟩:∃x2,ys[i]? =some x2:=⟨ys[i]'(by lia),cG _⟩;obtain⟨x3,hx3⟩:∃x3,zs[i]? =some x3:=⟨zs[i]'(by lia),cG _⟩;obtain⟨u1,hu1,r1⟩:=ru.get hx1;obtain⟨u2,hu2,r2⟩:=rw'.get hx2;obtain⟨u3,hu3,r3⟩:=ro.get hx3;have e1:u1=x:=by
   have:us[i]? =some x:=by simpa using p1
   rw[hu1]at this;cases this;rfl
  have e2:u2=y:=by
   have:ws[i]? =some y:=by simpa using p2
   rw[hu2]at this;cases this;rfl
  have e3:u3=z:=by
   have:os[i]? =some z:=by simpa using p3
   rw[hu3]at this;cases this;rfl
  subst e1 e2 e3;refine⟨_,rfl,wpAny_letOwnedTupleGo_zip (s:={s with heap:=h',toks:=tk}) g5 fun h'' g5' sb=>?_⟩
  replace sb:Heap.SameBut (N+5:Nat) h' h'':=sb
  have lz:N+5<s.heap.objs.size:=cY h5;have kk':∀b o,b∉([N,N+1,N+2,N+3,N+4,N+5]:List Nat)->s.heap.get? b=some o->h''.get? b=some o:=fun b o hb e=>by
   obtain⟨c1,c2,c3,c4,c5⟩:=Te hb;exact(sb.2 b c5).trans (kk b o c1 c2 c3 c4 c5 e)
  have I1:=zn0 (t':=tk) (vs:=[x1,x2,x3]) (its:=[u1,u2,u3]) I kk' hf (fun b hb=>by
   have:b=N\/b=N+1\/b=N+2\/b=N+3\/b=N+4\/b=N+5:=by simpa using hb
   exact Ek (show(b:Nat)<=N+5 by rcases this with h|h|h|h|h|h<;>rw[h]<;>simp) lz) ((sb.2 _ (bG (by ac_rfl))).trans gT) (by simp;rw[iL];decide) (.cons r1 (.cons r2 (.cons r3 .nil)))
  refine⟨.ref s.heap.objs.size,_,I1,rfl,⟨_,x1,x2,x3,I.hok.fresh (bU _),rfl,rfl,fun xs' ys' zs' b1 b2 b3=>?_⟩,⟨hn,g5',(sb.2 _ (bG (by ac_rfl))).trans (kk _ _ (bG (by ac_rfl)) (bG (by ac_rfl)) (bG (by ac_rfl)) (bG (by ac_rfl)) (bG (by ac_rfl)) h3),⟨_,_,_,(sb.2 _ (bG (by ac_rfl))).trans g4⟩,SrcIt.at g0.1 fun o e=>(sb.2 _ (bG (by ac_rfl))).trans e,SrcIt.at g1.1 fun o e=>(sb.2 _ (bG (by ac_rfl))).trans e,SrcIt.at g2.1 fun o e=>(sb.2 _ (bG (by ac_rfl))).trans e⟩,fun b hb=>?_⟩
  ·rw[SrcSq.inj I b1 q1,SrcSq.inj I b2 q2,SrcSq.inj I b3 q3];exact⟨hx1,hx2,hx3⟩
  ·have:b=N\/b=N+1\/b=N+2\/b=N+3\/b=N+4\/b=N+5:=by simpa using hb
   rw[cF (gC (Ek (show(b:Nat)<=N+5 by rcases this with h|h|h|h|h|h<;>rw[h]<;>simp) lz))]
   exact(hf b hb).1
 done:=by
  intro X hP hw hK hc i pins s σ H E I hf st hg;subst hP hw hK;obtain⟨hi,h5,h3,⟨a,c,d,h4⟩,h0,h1,h2⟩:=st;obtain⟨hn,xs,ys,zs,q1,q2,q3,en⟩:=hg;obtain⟨us,ru,hu,zu⟩:=q1.heap I;obtain⟨ws,rw',hw',zw⟩:=q2.heap I;obtain⟨os,ro,ho',zo⟩:=q3.heap I;have lu:=ru.length;have lw:=rw'.length;have lo:=ro.length;have D1:=mN (prog:=X.prog) (w:=X.w) (A:=X.A.in1) (t:=t1) (I.ok.hd hc) N a1 (bG (by ac_rfl)) us.toArray;have D2:=mN (prog:=X.prog) (w:=X.w) (A:=X.A.in1) (t:=t2) (I.ok.hd hc) (N+1) a2 (bG (by ac_rfl)) ws.toArray;have D3:=mN (prog:=X.prog) (w:=X.w) (A:=X.A.in1) (t:=t3) (I.ok.hd hc) (N+2) a3 (bG (by ac_rfl)) os.toArray;have hT:s.TypeIs (.ref (N+5:Nat)) "zip":=⟨_,h5,rfl⟩;unfold pyNext;refine aL (Wj (Iq (name:=Str.ofString "__next__") hT Bg (Cf Bg hT Vr
   (rK D1 D2 D3 l1 l2 l3 h5 h3 h4 ⟨h0,hu⟩ ⟨h1,hw'⟩ ⟨h2,ho'⟩ (by simp;lia) fun h' e tk kk he=>?_) (Vs _))))
  obtain⟨o,ho,hce⟩:=he;refine aL (wpAny_isInstance (T:="StopIteration") (b:=true) ⟨o,ho,hce⟩ isSubtype_stop (qaz ⟨rfl,Tp I (fun b o hb e=>?_) hf⟩));obtain⟨c1,c2,c3,c4,c5⟩:=Te hb;exact kk b o c1 c2 c3 c4 c5 e
 self:=fun _ _ _ _ _ st h=>wpAny_pyIter_zip st.2.1 h
noncomputable def Ite (K:W.Frag)(t1:Bool)(a1:Addr)(n:Nat):It where
 go:=fun i H=>i<n/\∃xs,SrcSq t1 K H a1 xs/\n=xs.length
 yld:=fun i H x H'=>∃p x1,H p=none/\H'=upd H p (.tup [.int i,x1])/\x= .ref p/\∀xs,SrcSq t1 K H a1 xs->xs[i]? =some x1
 stop:=fun i H=>n<=i/\∃xs,SrcSq t1 K H a1 xs/\n=xs.length
theorem zrg {P:Program}{w:World}(t1:Bool)(a1:Nat)(n N:Nat)(l1:a1<N):
  Turn P w K (.Tuple elts ek ep) (Ite K t1 a1 n) ([N+1,N]:List Nat) (N+1:Nat) (fun i h=>i<=n/\(∃old,IsEnum h (N+1:Nat) N i old)/\SrcIt t1 h N a1 i) where
 mem:=by simp
 obj:=fun i h st b hb=>by
  obtain⟨-,⟨old,h1⟩,h0⟩:=st;simp only[qam,List.not_mem_nil,or_false]at hb;rcases hb with rfl|rfl
  ·exact⟨_,h1,fun v z=>by cases z⟩
  ·exact h0.obj
 keep:=fun i h h' st k=>by
  obtain⟨hi,⟨old,h1⟩,h0⟩:=st;exact⟨hi,⟨old,k _ (by simp) _ h1⟩,h0.at fun o e=>k _ (by simp) o e⟩
 item:=by
  intro X hP hw hK hc i pins s σ H E I hf st hg;subst hP hw hK;obtain⟨hi,⟨old,h1⟩,h0⟩:=st;obtain⟨hn,xs,q1,en⟩:=hg;obtain⟨us,ru,hu,zu⟩:=q1.heap I;have lu:=ru.length;have D1:=mN (prog:=X.prog) (w:=X.w) (A:=X.A.in1) (t:=t1) (I.ok.hd hc) N a1 (bG (by ac_rfl)) us.toArray;refine wpAny_pyNext_enum_itemD D1 h1 ⟨h0,hu⟩ (by simp;lia) (bG (by ac_rfl)) (fun z=>aX (z:=N+1) z (by lia) (by lia) rfl) fun x h' tk p1 ho g0 gT gz kk=>?_
  obtain⟨x1,hx1⟩:∃x1,xs[i]? =some x1:=⟨xs[i]'(by lia),cG _⟩;obtain⟨u1,hu1,r1⟩:=ru.get hx1;have e1:u1=x:=by
   have:us[i]? =some x:=by simpa using p1
   rw[hu1]at this;cases this;rfl
  subst e1;refine⟨_,rfl,wpAny_letOwnedTupleGo_enum (s:={s with heap:=h',toks:=tk+1}) ho fun h'' he' sb=>?_⟩
  replace sb:Heap.SameBut (N+1:Nat) h' h'':=sb
  have lz:N+1<s.heap.objs.size:=cY h1;have kk':∀b o,b∉([N+1,N]:List Nat)->s.heap.get? b=some o->h''.get? b=some o:=fun b o hb e=>
   (sb.2 b fun z=>hb (by simp[z])).trans (kk b o (fun z=>hb (by simp[z])) (fun z=>hb (by simp[z])) e)
  have I1:=zn0 (t':=tk+1) (vs:=[.int i,x1]) (its:=[.int i tk,u1]) I kk' hf (fun b hb=>by
   have:b=N+1\/b=N:=by simpa using hb
   exact Ek (show(b:Nat)<=N+1 by rcases this with h|h<;>rw[h]<;>simp) lz) ((sb.2 _ (bG (by ac_rfl))).trans gT) (by simp;rw[iL];decide) (.cons ⟨_,rfl⟩ (.cons r1 .nil))
  refine⟨.ref s.heap.objs.size,_,I1,rfl,⟨_,x1,I.hok.fresh (bU _),rfl,rfl,fun xs' b1=>?_⟩,⟨hn,⟨_,by simpa using he'⟩,SrcIt.at g0.1 fun o e=>(sb.2 _ (bG (by ac_rfl))).trans e⟩,fun b hb=>?_⟩
  ·rw[SrcSq.inj I b1 q1];exact hx1
  ·have:b=N+1\/b=N:=by simpa using hb
   rw[cF (gC (Ek (show(b:Nat)<=N+1 by rcases this with h|h<;>rw[h]<;>simp) lz))]
   exact(hf b hb).1
 done:=by
  intro X hP hw hK hc i pins s σ H E I hf st hg;subst hP hw hK;obtain⟨hi,⟨old,h1⟩,h0⟩:=st;obtain⟨hn,xs,q1,en⟩:=hg;obtain⟨us,ru,hu,zu⟩:=q1.heap I;have lu:=ru.length;have D1:=mN (prog:=X.prog) (w:=X.w) (A:=X.A.in1) (t:=t1) (I.ok.hd hc) N a1 (bG (by ac_rfl)) us.toArray;have W:=WalksT.enumerateD D1 (N+1:Nat) (bG (by ac_rfl)) (fun z=>aX (z:=N+1) z (by lia) (by lia) rfl) (by simp);have ei:i=us.toArray.size:=by simp;lia
  subst ei;exact W.done s _ _ ⟨⟨old,h1⟩,h0,hu⟩ fun h' tk kk=>⟨rfl,Tp I kk hf⟩
 self:=fun _ _ _ _ _ st h=>by
  obtain⟨hi,⟨old,h1⟩,h0⟩:=st;exact wpAny_pyIter_enum h1 h
theorem zpi:bootBuiltins "zip"=some (.type "zip"):=by decide+kernel
theorem zli:bootBuiltins "enumerate"=some (.type "enumerate"):=by decide+kernel
section
variable {X:Cx} {elts:List Expr} {ek:Nat} {ep:Pos}
theorem zW {a b c:Expr}(hg:Gl X "zip")(hm:X.mg "zip"=none)(ha:PA X [a,b,c] ta)(hs:autoParam (starEach [a,b,c] X.env=(false,eval a X.env)::starEach [b,c] X.env) zu3._auto_1)(hs2:autoParam ((backTo pos (starEach [b,c] X.env)).any (·.1)=false) zu3._auto_1):
  PI X (.Tuple elts ek ep) (.Call (.Name "zip" p) [a,b,c] [] pos) (fun σ H R=>ta σ H fun vs H1=>∃t1 a1 xs t2 a2 ys t3 a3 zs,vs=[.ref a1,.ref a2,.ref a3]/\SrcSq t1 X.K H1 a1 xs/\SrcSq t2 X.K H1 a2 ys/\SrcSq t3 X.K H1 a3 zs/\R (Oj X.K t1 a1 t2 a2 t3 a3 (min xs.length (min ys.length zs.length))) H1):=by
 intro pins s σ H R I h;refine Call_ (yF I hg hm zpi (Cw (bC (ha pos pins s σ H _ I h) fun us s1 ⟨vs,H1,I1,r1,q1⟩=>?_) hs hs2));obtain⟨t1,a1,xs,t2,a2,ys,t3,a3,zs,e,q1,q2,q3,q⟩:=q1;subst e;cases r1 with
 |cons r rr=>
  cases rr with
  |cons r' rr=>
   cases rr with
   |cons r'' rr=>
    cases rr;cases r;cases r';cases r'';obtain⟨us,ru,hu,-⟩:=q1.heap I1;obtain⟨ws,rw',hw',-⟩:=q2.heap I1;obtain⟨os,ro,ho',-⟩:=q3.heap I1;refine zrF hu hw' ho' fun h' g5 g3 g4 g0 g1 g2 kk=>wpAny_pyIter_zip g5 ⟨_,_,_,_,H1,rfl,I1.kept (t':=s1.toks) kk,zsb t1 a1 t2 a2 t3 a3 (min xs.length (min ys.length zs.length)) s1.heap.objs.size hu.lt hw'.lt ho'.lt,⟨lI _,g5,g3,⟨_,_,_,g4⟩,g0,g1,g2⟩,fun b hb=>?_,q⟩
    have:b=s1.heap.objs.size\/b=s1.heap.objs.size+1\/b=s1.heap.objs.size+2\/b=s1.heap.objs.size+3\/b=s1.heap.objs.size+4\/b=s1.heap.objs.size+5:=by simpa using hb
    have le:s1.heap.objs.size<=b:=by rcases this with h|h|h|h|h|h<;>rw[h]<;>simp
    exact I1.fpOk le (I1.hok.fresh le)
theorem tY (hg:Gl X "enumerate")(hm:X.mg "enumerate"=none)(ha:PA X [a] ta)(hs:autoParam (starEach [a] X.env=(false,eval a X.env)::starEach [] X.env) zu3._auto_1)(hs2:autoParam ((backTo pos (starEach [] X.env)).any (·.1)=false) zu3._auto_1):
  PI X (.Tuple elts ek ep) (.Call (.Name "enumerate" p) [a] [] pos) (fun σ H R=>ta σ H fun vs H1=>∃t1 a1 xs,vs=[.ref a1]/\SrcSq t1 X.K H1 a1 xs/\R (Ite X.K t1 a1 xs.length) H1):=by
 intro pins s σ H R I h;refine Call_ (yF I hg hm zli (Cw (bC (ha pos pins s σ H _ I h) fun us s1 ⟨vs,H1,I1,r1,q1⟩=>?_) hs hs2));obtain⟨t1,a1,xs,e,q1,q⟩:=q1;subst e;cases r1 with
 |cons r rr=>
  cases rr;cases r;obtain⟨us,ru,hu,-⟩:=q1.heap I1;refine zqv hu fun h' g1 g0 kk=>wpAny_pyIter_enum g1 ⟨_,_,_,_,H1,rfl,I1.kept (t':=s1.toks) kk,zrg t1 a1 xs.length s1.heap.objs.size hu.lt,⟨lI _,⟨_,g1⟩,g0⟩,fun b hb=>?_,q⟩
  have:b=s1.heap.objs.size+1\/b=s1.heap.objs.size:=by simpa using hb
  have le:s1.heap.objs.size<=b:=by rcases this with h|h<;>rw[h]<;>simp
  exact I1.fpOk le (I1.hok.fresh le)
end
theorem Lo {G:Hp}{x:V}{d:D}(r:RepD K G x d)(e:dM [d]=some es):∃t a xs,x= .ref a/\(∀H,Fz G H->SrcSq t K H a xs)/\RepL K G xs es:=by
 cases d<;>simp only[dM]at e<;>try cases e
 ·obtain⟨a,xs,rfl,ha,r⟩:=r;exact⟨false,a,xs,rfl,fun H f=>SqL.of (f _ _ ha),r⟩
 ·obtain⟨a,xs,rfl,ha,r⟩:=r;exact⟨true,a,xs,rfl,fun H f=>SqT.of (f _ _ ha),r⟩
 ·obtain⟨a,rfl,ha⟩:=r;exact⟨false,a,_,rfl,fun H f=>f.sql ha,RepL.ints _⟩
noncomputable def Hw (xs ys:List D):List D:=List.zipWith (fun x y=>D.tup [x,y]) xs ys
noncomputable def Ct (xs ys zs:List D):List D:=List.zipWith (fun x (p:D×D)=>D.tup [x,p.1,p.2]) xs (List.zip ys zs)
noncomputable def Hm (xs:List D):List D:=List.zipWith (fun x (i:Nat)=>D.tup [.int i,x]) xs (List.range xs.length)
noncomputable def Um (ma:MA):MA:=fun ρ=>(ma ρ).bind fun p=>match p.1 with
 |[a,b]=>(dM [a]).bind fun xs=>(dM [b]).bind fun ys=>some (Hw xs ys,p.2)
 |_=>none
noncomputable def iZ3 (ma:MA):MA:=fun ρ=>(ma ρ).bind fun p=>match p.1 with
 |[a,b,c]=>(dM [a]).bind fun xs=>(dM [b]).bind fun ys=>(dM [c]).bind fun zs=>some (Ct xs ys zs,p.2)
 |_=>none
noncomputable def Sr (ma:MA):MA:=fun ρ=>(ma ρ).bind fun p=>(dM p.1).map fun xs=>(Hm xs,p.2)
theorem wJ {a b c:Expr}(hm:X.mg "zip"=none)(ha:SA X [a,b,c] ma)(hg:autoParam (Gl X "zip") zu3._auto_1)(hs:autoParam (starEach [a,b,c] X.env=(false,eval a X.env)::starEach [b,c] X.env) zu3._auto_1)(hs2:autoParam ((backTo pos (starEach [b,c] X.env)).any (·.1)=false) zu3._auto_1):
  SIt X (.Tuple elts ek ep) (.Call (.Name "zip" p) [a,b,c] [] pos) (iZ3 ma):=by
 refine ha.el fun t pa sa=>?_
 refine⟨_,zW hg hm pa hs hs2,fun B G H σ ρ ds ρ' Q I hm k=>?_⟩;refine bP hm fun es ρ1 e1 h2=>?_
 dsimp only at h2;refine sa B G H σ ρ es ρ1 _ I e1 fun G1 H1 vs I1 f1 r1=>?_
 split at h2
 ·refine bA h2 fun xs ex h2=>?_
  refine bA h2 fun ys ey h2=>?_
  refine bA h2 fun zs ez h2=>?_
  obtain⟨rfl,rfl⟩:=bT h2;obtain⟨x,us,rfl,rx,r2⟩:=r1;obtain⟨y,ws,rfl,ry,r3⟩:=r2;obtain⟨z,os,rfl,rz,r4⟩:=r3;cases(show os=[]from r4);obtain⟨t1,a1,us,rfl,s1,c1⟩:=Lo rx ex;obtain⟨t2,a2,ws,rfl,s2,c2⟩:=Lo ry ey;obtain⟨t3,a3,os,rfl,s3,c3⟩:=Lo rz ez;have n1:=c1.length;have n2:=c2.length;have n3:=c3.length;refine⟨t1,a1,us,t2,a2,ws,t3,a3,os,rfl,s1 _ I1.fz,s2 _ I1.fz,s3 _ I1.fz,k _ G1 H1 I1 f1 ⟨fun H i f hi=>?_,fun H i x H' f y d e=>?_,fun H i f hi=>?_⟩⟩
  ·exact⟨by simp[Ct]at hi;lia,us,ws,os,s1 _ f,s2 _ f,s3 _ f,rfl⟩
  ·obtain⟨p,x1,x2,x3,hp,eh,ex',q⟩:=y;obtain⟨q1,q2,q3⟩:=q us ws os (s1 _ f) (s2 _ f) (s3 _ f);simp only[Ct,List.zip,Lb]at e;have hi:i<us.length/\i<ws.length/\i<os.length:=⟨(qap.mp q1).1,(qap.mp q2).1,(qap.mp q3).1⟩;have g1:xs[i]? =some (xs[i]'(by lia)):=cG _;have g2:ys[i]? =some (ys[i]'(by lia)):=cG _;have g3:zs[i]? =some (zs[i]'(by lia)):=cG _;rw[g1,g2,g3]at e;cases e;obtain⟨v1,b1,r1⟩:=c1.get g1;obtain⟨v2,b2,r2⟩:=c2.get g2;obtain⟨v3,b3,r3⟩:=c3.get g3;rw[q1]at b1;cases b1;rw[q2]at b2;cases b2;rw[q3]at b3;cases b3;exact .inr ⟨p,_,_,hp,eh,ex',rfl,⟨_,_,rfl,r1,_,_,rfl,r2,_,_,rfl,r3,rfl⟩⟩
  ·exact⟨by simp[Ct]at hi;lia,us,ws,os,s1 _ f,s2 _ f,s3 _ f,rfl⟩
 ·exact aM h2
theorem Zl (hm:X.mg "enumerate"=none)(ha:SA X [a] ma)(hg:autoParam (Gl X "enumerate") zu3._auto_1)(hs:autoParam (starEach [a] X.env=(false,eval a X.env)::starEach [] X.env) zu3._auto_1)(hs2:autoParam ((backTo pos (starEach [] X.env)).any (·.1)=false) zu3._auto_1):
  SIt X (.Tuple elts ek ep) (.Call (.Name "enumerate" p) [a] [] pos) (Sr ma):=by
 refine ha.el fun t pa sa=>?_
 refine⟨_,tY hg hm pa hs hs2,fun B G H σ ρ ds ρ' Q I hm k=>?_⟩;refine bP hm fun es ρ1 e1 h2=>?_
 refine cW h2 fun xs ex h2=>?_
 cases h2;refine sa B G H σ ρ es ρ1 _ I e1 fun G1 H1 vs I1 f1 r1=>?_
 match es,ex,r1 with
 |[],ex,_=>exact aM ex
 |_::_::_,ex,_=>exact absurd ex (by simp[dM])
 |[d],ex,r1=>
  obtain⟨x,rfl,rx⟩:=r1.one;obtain⟨t1,a1,us,rfl,s1,c1⟩:=Lo rx ex;have n1:=c1.length;refine⟨t1,a1,us,rfl,s1 _ I1.fz,k _ G1 H1 I1 f1 ⟨fun H i f hi=>?_,fun H i x H' f y d e=>?_,fun H i f hi=>?_⟩⟩
  ·exact⟨by simp[Hm]at hi;lia,us,s1 _ f,rfl⟩
  ·obtain⟨p,x1,hp,eh,ex',q⟩:=y;have q1:=q us (s1 _ f);have hi:i<us.length:=(qap.mp q1).1;have g1:xs[i]? =some (xs[i]'(by lia)):=cG _;simp only[Hm,Lb]at e;rw[g1,show(List.range xs.length)[i]? =some i from by rw[List.getElem?_range (by lia)]]at e;cases e;obtain⟨v1,b1,r1⟩:=c1.get g1;rw[q1]at b1;cases b1;exact .inr ⟨p,_,_,hp,eh,ex',rfl,⟨_,_,rfl,rfl,_,_,rfl,r1,rfl⟩⟩
  ·exact⟨by simp[Hm]at hi;lia,us,s1 _ f,rfl⟩
end M
namespace M
open L2 PySem PySem.Spec
open PyProof.Rows hiding St
variable {X:Cx} {K:W.Frag} {G H:Hp} {x:Str} {σ:St} {ρ:R} {b:Nat} {cs:List D} {l:Addr} {ys:List V} {cap:List Nat} {tg':Addr->Shared->Hp->List Addr->TG} {tt:Addr->Shared->Hp->List Addr->TT} {te:Addr->Shared->Hp->List Addr->TE} {lpos pos':Pos}
theorem mR {st:Stmt}:SS X st (fun _=>none):=⟨_,rO,fun B G H σ ρ fl ρ' E I hm k=>by exact aM hm⟩
noncomputable def Hl (K:W.Frag):V->List V->Hp->VK->Prop:=fun x vs H Q=>∃(l:Addr) (ns:List Int) (k:Int),x= .ref l/\vs=[.int k]/\SqL K H l (ns.map V.int)/\k∈ns/\Q (.int (ns.idxOf k:Nat)) H
theorem qZ:MtR X "list.index" (Hl X.K):=by
 intro pins s σ H x vs v us Q I rx rv h;obtain⟨l,ns,k,rfl,rfl,hq,hk,q⟩:=h;cases rx;obtain⟨u,rfl,t,rfl⟩:=rv.one;obtain⟨its,r,p,hz⟩:=I.list hq;have hi:=zjC r;have hlen:=hi.length;have hj:ns.idxOf k<ns.length:=List.idxOf_lt_length_iff.mpr hk;have hb:ns.length<=sizeLine:=by simpa using hz
 rw[iL]at hb;obtain⟨⟨cls,dd,data,sl⟩,ho,hc,n,hd⟩:=p.isList;simp only at hc hd;subst hc hd;refine Mb PySem.F.slot_list_index ⟨_,ho,rfl⟩ PySem.F.entry_list_index (PySem.F.args_list_index_2 _ _)
  (PySem.SeqAt.list_indexAt l its.toArray n dd sl (.int k t) (isInt k) (ns.idxOf k) (by simpa[hlen]using hj) (by lia) ?_ ?_) ⟨ho,fun y hy=>(eq_isInt k t hi y (by simpa using hy)).at _ _,⟨.int (ns.idxOf k:Nat),H,I.tok _,⟨_,rfl⟩,q⟩⟩
 ·show isInt k its[ns.idxOf k]=true;rw[isInt_at k hi _ (by lia) hj];simpa using List.getElem_idxOf hj
 ·intro j hjs hlt;show isInt k its[j]=false;rw[isInt_at k hi j (by simpa using hjs) (by lia)];exact ne_of_lt_idxOf hlt _
noncomputable def Rg:D->D->Option D
 | .lst ds,.int k=>(iD ds).bind fun ns=>if k∈ns then some (.int (ns.idxOf k:Nat))else none
 |_,_=>none
theorem qC {o e:Expr}{mo me:ME}{apos cpos:Pos}(ho:SE X o mo)(he:SE X e me)
  (hbase:autoParam (attributeBase o "index" X.env (eval o X.env)=eval o X.env) zu3._auto_1)
  (hfew :autoParam (((backTo cpos (starEach [e] X.env)).all (fun x => !x.1) && (backToKw cpos (keywordEach [] X.env)).all (fun x => x.1.isSome)
   &&decide ([e].length+([]:List Keyword).length+(if([]:List Keyword).isEmpty then 0 else 1)<30))=true) zu3._auto_1)
  (hline:autoParam ((apos.endLine==cpos.line)=true) zu3._auto_1) (hs:autoParam (starEach [e] X.env=(false,eval e X.env)::starEach [] X.env) zu3._auto_1):SE X (.Call (.Attribute o "index" apos) [e] [] cpos) (m2 Rg mo me):=by
 refine ho.el fun to po so=>?_
 refine he.el fun te pe se=>?_
 refine⟨_,lA Uu PySem.F.slot_list_index PySem.F.type_list_index qZ po (lS pe As hs) hbase hfew hline hs rfl,fun B G H σ ρ d ρ' Q I hm k=>?_⟩;refine bP hm fun d1 ρ1 e1 hm=>?_
 refine bP hm fun d2 ρ2 e2 hm=>?_
 refine cW hm fun d3 e3 hm=>?_
 cases hm;refine so B G H σ ρ d1 ρ1 _ I e1 fun G1 H1 v I1 f1 r1=>?_
 cases d1 with
 |lst ds=>
  cases d2 with
  |int i=>
   refine bA e3 fun ns e4 e3=>?_
   obtain⟨a,xs,rfl,ha,rr⟩:=r1;refine⟨.inl ⟨rfl,xs,SqL.of (I1.fz _ _ ha)⟩,?_⟩;refine se B G1 H1 σ ρ1 _ ρ2 _ I1 e2 fun G2 H2 u I2 f2 r2=>?_
   cases(show u=V.int i from r2);refine bJ e3 fun hk e3=>?_
   ·skip
    cases e3;cases Qw e4;have rl:=rr.mono f2;have ex:xs=ns.map V.int:=RepL.ints_eq rl;subst ex;exact⟨a,ns,i,rfl,rfl,SqL.of (I2.fz _ _ (f2 _ _ ha)),hk,k G2 H2 _ I2 (f1.trans f2) rfl⟩
  |_=>exact aM e3
 |_=>exact aM e3
noncomputable def sS:D->Bool
 | .non=>true
 |_=>false
theorem nJ {x:V}{d:D}(r:RepD K G x d):decide (x= .non)=sS d:=by
 cases d with
 |non=>cases(show x=V.non from r);rfl
 |bl b=>cases(show x=V.bl b from r);rfl
 |int i=>cases(show x=V.int i from r);rfl
 |str s=>cases(show x=V.str s from r);rfl
 |lst ds=>obtain⟨a,xs,rfl,-⟩:=r;rfl
 |tup ds=>obtain⟨a,xs,rfl,-⟩:=r;rfl
 |scr ns=>obtain⟨a,rfl,-⟩:=r;rfl
 |exc c=>obtain⟨a,C,rfl,-⟩:=r;rfl
 |dic _ _=>obtain⟨a,ys,rfl,-⟩:=r;rfl
 |dit _ _=>obtain⟨a,ys,o,xs,rfl,-⟩:=r;rfl
 |obj _ _ _ _ _=>obtain⟨_,_,_,_,_,_,_,_,_,rfl,-⟩:=r;rfl
noncomputable def kE:D->D->Option D
 |a,.non=>some (.bl (sS a))
 |_,_=>none
noncomputable def wO:D->D->Option D
 |a,.non=>some (.bl (!sS a))
 |_,_=>none
theorem Fj:V2 X (fun x y H Q=>y= .non/\Q (.bl (decide (x= .non))) H) kE:=by
 intro B G H σ ρ x y a b d Q I ra rb hf k;cases b<;>simp only[kE]at hf<;>cases hf
 exact⟨rb,k G H _ I (Fz.refl G) (by rw[nJ ra];rfl)⟩
theorem Ae:V2 X (fun x y H Q=>y= .non/\Q (.bl (!decide (x= .non))) H) wO:=by
 intro B G H σ ρ x y a b d Q I ra rb hf k;cases b<;>simp only[wO]at hf<;>cases hf
 exact⟨rb,k G H _ I (Fz.refl G) (by rw[nJ ra];rfl)⟩
theorem Gn:∀x y d,kE x y=some d->∃t,d= .bl t:=by
 intro x y d hf;cases y<;>simp only[kE]at hf<;>cases hf
 exact⟨_,rfl⟩
theorem vJ:∀x y d,wO x y=some d->∃t,d= .bl t:=by
 intro x y d hf;cases y<;>simp only[wO]at hf<;>cases hf
 exact⟨_,rfl⟩
section
variable {X:Cx} {a b:Expr} {ma mb:ME} {pos:Pos}
theorem Qi (ha:SE X a ma)(hb:SE X b mb)(hm:autoParam (behindInMarks .Is b=false) zu3._auto_1):STt X (.Compare a [.Is] [b] pos) (aQ (m2 kE ma mb)):=Ay Dh Fj Gn ha hb hm
theorem zmn (ha:SE X a ma)(hb:SE X b mb)(hm:autoParam (behindInMarks .IsNot b=false) zu3._auto_1):STt X (.Compare a [.IsNot] [b] pos) (aQ (m2 wO ma mb)):=Ay uC Ae vJ ha hb hm
end
noncomputable def Iv (b:Nat)(ρ:R):Bool:=match ρ[b]? with
 |some (.par _)=>hU (ρ.set b .emp)
 |_=>false
noncomputable def Mp (b:Nat)(ρ:R):List D:=match ρ[b]? with
 |some (.par cs)=>cs
 |_=>[]
noncomputable def lH (b:Nat)(g:D->R->Option R)(mt:MT)(me:ME):D->R->Option (Option D×R):=fun d ρ=>(g d ρ).bind fun ρ1=>(mt ρ1).bind fun p=>if p.1 then(me p.2).bind fun q=>if Iv b q.2 then some (some q.1,q.2)else none else if Iv b p.2 then some (none,p.2)else none
noncomputable def fN (cap:List Nat)(t b w:Nat)(mi:MA)(g:D->R->Option R)(mt:MT)(me:ME):MO:=fun ρ=>(mi ρ).bind fun p=>if p.1.length<=16777216 then
    ((fzL (cap.filter (· !=w)) p.2)[w]?).bind fun s=>s.items.bind fun cs=>(iG (lH b g mt me) p.1 ((gH cap t (fzL (cap.filter (· !=w)) p.2)).set b (.par cs))).map fun q=>(q.1,(fzL (cap.filter (· !=w)) p.2).set w (s.put (Mp b q.2)))
  else none
theorem VS.setEmp (h:VS K G σ ρ)(b:Nat):VS K G σ (ρ.set b .emp) where
 len:=by rw[Ks];exact h.len
 no:=by
  have h0:=h.no;unfold hU at*;rw[qbU]at*;intro s hs;rcases List.mem_or_eq_of_mem_set hs with z|z
  ·exact h0 s z
  ·rw[z]
 val:=fun i d e=>by
  rw[tJ]at e
  split at e
  ·split at e
   ·cases e
   ·exact aM e
  ·exact h.val i d e
theorem VS.siP (h:VS K G σ (ρ.set b .emp))(fz:Fz G H)(hb:ρ[b]? =some (.par cs))(hs:σ[b]? =some (some (.ref l)))(gl:G l=none)(hl:H l=some (.lst ys))(r:RepL K G ys cs):SI K ⟨G,H,[(b,l)]⟩ G H σ ρ where
 fz:=fz
 g0:=Fz.refl G
 new:=fun b o e=> .inl (by show G b≠none;rw[e];simp)
 keep:=fun b o e _=>e
 there:=fun b e=>e
 ob:=fun i c m=>by
  have:i=b/\c=l:=by simpa using m
  rw[this.2];show H l≠none;rw[hl];simp
 len:=by rw[h.len,Ks]
 slot:=fun i s e=>by
  by_cases z:i=b
  ·subst z;rw[hb]at e;cases e;exact⟨l,ys,hs,gl,hl,r,by simp⟩
  ·have e':(ρ.set b .emp)[i]? =some s:=by rw[tO (Ne.symm z)];exact e
   cases s with
   |emp=>trivial
   |two _ _=>trivial
   |tre t=>exact absurd rfl ((Wu h.no e').1 t)
   |ptr t=>exact absurd rfl ((Wu h.no e').2 t)
   |val d=>exact h.val i d e'
   |own ds=>exact absurd ⟨_,ds,e',rfl⟩ (Tu h.no (i:=i))
   |par ds=>exact absurd ⟨_,ds,e',rfl⟩ (Tu h.no (i:=i))
 dis:=fun i j s t a hij e1 e2 w1 w2=>by
  have key:∀(i:Nat) (s:Sl) ov,ρ[i]? =some s->eZ K G H ov a s->i=b:=fun i s ov e w=>by
   by_cases z:i=b
   ·exact z
   ·exact absurd w (zo6 h.no (show(ρ.set b .emp)[i]? =some s by rw[tO (Ne.symm z)];exact e))
  exact hij ((key i s _ e1 w1).trans (key j t _ e2 w2).symm)
theorem VS.ofP {B:Bs}(I:SI K B G H σ ρ)(hO:B.O=[(b,l)])(h:Iv b ρ=true):∃cs ys,ρ[b]? =some (.par cs)/\σ[b]? =some (some (.ref l))/\G l=none/\H l=some (.lst ys)/\RepL K G ys cs/\VS K G σ (ρ.set b .emp):=by
 unfold Iv at h
 split at h
 ·rename_i cs e;obtain⟨l',ys,h1,h2,h3,h4,h5⟩:=I.slot b _ e;have hl:l'=l:=by rw[hO]at h5;simpa using h5
  subst hl;refine⟨cs,ys,e,h1,h2,h3,h4,⟨by rw[Ks];exact I.len,h,fun i d e'=>?_⟩⟩;rw[tJ]at e'
  split at e'
  ·split at e'
   ·cases e'
   ·exact aM e'
  ·exact I.slot i _ e'
 ·cases h
noncomputable def PaAt (K:W.Frag)(b:Nat)(l:Addr)(G H:Hp)(σ:St)(ρ:R):Prop:=∃cs ys,ρ[b]? =some (.par cs)/\σ[b]? =some (some (.ref l))/\G l=none/\H l=some (.lst ys)/\RepL K G ys cs
theorem PaAt.upd {l DD:Addr}(h:PaAt K b l G H σ ρ)(n:l≠DD)(xs:List V):PaAt K b l G (L2.upd H DD (.lst xs)) σ ρ:=h.imp fun _ h=>h.imp fun _ h=>⟨h.1,h.2.1,h.2.2.1,(cF n).trans h.2.2.2.1,h.2.2.2.2⟩
theorem oF {b w t:Nat}(h1:cap[b]? =some w)(h2:σ[w]? =some (some (.ref l))):b<cap.length/\(dU cap t σ)[b]? =some (some (.ref l)):=by
 have hb:b<cap.length:=(qap.mp h1).1;have hbe:cap[b]=w:=(qap.mp h1).2;refine⟨hb,?_⟩;unfold dU;rw[jS (by rw[eL];exact hb),fJ,cG hb,hbe,Hg,h2]
 rfl
theorem zoj (cap:List Nat)(t:Nat)(ρ:R):(gH cap t ρ).length=cap.length+t:=by unfold gH;simp
section
variable {X:Cx} {elt iter tg:Expr} {ifs:List Expr} {scope:Scope} {pos:Pos} {N:List Str} {cap:List Nat} {t bk wk:Nat} {mi:MA} {g:D->R->Option R} {mt:MT} {me:ME}
theorem zky (hbw:cap[bk]? =some wk){wi:TI}(si:uU X tg iter mi wi)(blk:LcB X scope N elt tg ifs g mt me tg' tt te):
    ∀B G H σ ρ ds ρ' (Q:VK),SI X.K B G H σ ρ->fN cap t bk wk mi g mt me ρ=some (ds,ρ')->
      (∀G' H' l xs,SI X.K B G' H' σ ρ'->Fz G G'->G' l=none->H' l=some (.lst xs)->RepL X.K G' xs ds->B.H l=none->Nw X.K G' H' σ ρ' l->Q (.ref l) H')->Tc (dU cap t) wi tg' tt te σ H Q:=fun B G H σ ρ ds ρ' Q I hm k=>
  bP hm fun items ρ1 e1 hm=>si B G H σ ρ items ρ1 _ I e1 fun J G1 H1 I1 f1 IT DD hD=>bJ hm fun hlen hm=>bA hm fun sw ew hm=>bA hm fun cs0 qw hm=>iJ hm fun all ρf e2 e3=>by
    obtain⟨rfl,rfl⟩:=Prod.mk.inj e3;obtain⟨G2,I2,f2⟩:=SI.fzL (cap.filter (· !=wk)) I1
    obtain⟨l,ys0,hσ,gl0,hl0,rl0⟩:=I2.wr ew qw;have hlD:l≠DD:=mM hl0 hD;have hb:=oF (t:=t) hbw hσ;refine znM blk (O:=[(bk,l)]) (JJ:=fun G H σ ρ=>PaAt X.K bk l G H σ ρ/\VS X.K G σ (ρ.set bk .emp)) IT f2 I2.fz hD hlen (fun i m=>?_) (fun G H σ ρ h f=>?_) (fun _ _ _ _ _ _ I h=>?_) (fun _ _ _ _ xs h=>⟨h.1.upd hlD xs,h.2⟩) ⟨⟨cs0,ys0,?_,hb.2,gl0,hl0,rl0⟩,?_⟩ e2 fun Gc Hc σc xs J ra jj=>?_
    . rw[qcg]at m;exact hlD (Prod.mk.inj m).2.symm
    . obtain⟨⟨cs,ys,a1,a2,a3,a4,a5⟩,vs⟩:=h
      exact vs.siP f a1 a2 a3 a4 a5
    . obtain⟨cs',ys',w1,w2,w3,w4,w5,w6⟩:=VS.ofP I rfl h
      exact⟨⟨cs',ys',w1,w2,w3,w4,w5⟩,w6⟩
    . rw[tJ,if_pos rfl,if_pos (by rw[zoj];lia)]
    . rw[List.set_set];exact(pY I2 cap t).setEmp bk
    . obtain⟨⟨cs,ys,a1,a2,a3,a4,a5⟩,vs⟩:=jj
      have hp:Mp bk ρf=cs:=by unfold Mp;rw[a1]
      rw[hp]at k;have kp:∀b o,b≠l->H1 b=some o->Hc b=some o:=fun b o n e=>J.kp b o (fun i m=>n (Prod.mk.inj (qcg.mp m)).2) e
      exact k Gc Hc DD xs (I2.growW ew qw hσ J.fc J.fcH J.nw kp a3 a4 a5) (f1.trans (f2.trans J.fc)) J.gD J.hDc ra (I2.there DD hD) (I2.own_neW ew qw hσ hD J.nw kp)
theorem Vd (cap:List Nat)(t bk wk:Nat)(N:List Str)(hc:X.calm=true)(hi:SIt X tg iter mi)(hg:∀C s H fp,SG (cP X N scope C s H fp) tg g)(ht:∀C s H fp,xB (cP X N scope C s H fp) ifs mt)(he:∀C s H fp,SE (cP X N scope C s H fp) elt me)(hbw:autoParam (cap[bk]? =some wk) zu3._auto_1)
    (hk:autoParam (scope.kind= .function) zu3._auto_1) (hb:autoParam (iR X.env scope=true) zu10._auto_1) (hcap:autoParam (jB scope.names N X.N cap t=true) zu10._auto_1)
    (hs:autoParam (∀x,foldedSetIterable iter X.env x=pure x) zu9._auto_1):SO X (.ListComp elt [⟨tg,iter,ifs,0⟩] scope pos) (fN cap t bk wk mi g mt me):=by
  refine hi.el fun wi pi si=>?_
  exact⟨_,Ap hc (Mg hk hb) (Kj hcap) pi (fun C s H fp=>(hg C s H fp).choose_spec.1) (fun C s H fp=>(ht C s H fp).choose_spec.1) (fun C s H fp=>(he C s H fp).choose_spec.1) hs,
    zky hbw si (.mk' hg ht he)⟩
theorem znl (i:Nat)(cap:List Nat)(t bk wk:Nat)(N:List Str)(hc:X.calm=true)(hi:SIt X tg iter mi)(hg:∀C s H fp,SG (cP X N scope C s H fp) tg g)(ht:∀C s H fp,xB (cP X N scope C s H fp) ifs mt)(he:∀C s H fp,SE (cP X N scope C s H fp) elt me)(hN:X.N.Nodup)(hbw:autoParam (cap[bk]? =some wk) zu3._auto_1)
    (hxi:autoParam (X.N[i]? =some x) zu3._auto_1) (hx:autoParam (iP X.env.scope x) zu6._auto_1) (hf:autoParam (X.fn x=true\/X.env.scope.names.lookup x=some .local) zu6._auto_1)
    (hsw:autoParam (swapsWith (.ListComp elt [⟨tg,iter,ifs,0⟩] scope lpos) (some (.Name x pos')) pos.line X.env=pure true) zu3._auto_1)
    (hk:autoParam (scope.kind= .function) zu3._auto_1) (hb:autoParam (iR X.env scope=true) zu10._auto_1) (hcap:autoParam (jB scope.names N X.N cap t=true) zu10._auto_1)
    (hs:autoParam (∀x,foldedSetIterable iter X.env x=pure x) zu9._auto_1):SS X (.Assign [.Name x pos'] (.ListComp elt [⟨tg,iter,ifs,0⟩] scope lpos) pos) (fR i (fN cap t bk wk mi g mt me)):=by
  refine hi.el fun wi pi si=>?_
  refine⟨_,Tz hN hxi hx hf hsw hc (Mg hk hb) (Kj hcap) pi (fun C s H fp=>(hg C s H fp).choose_spec.1) (fun C s H fp=>(ht C s H fp).choose_spec.1) (fun C s H fp=>(he C s H fp).choose_spec.1) hs,fun B G H σ ρ fl ρ' E I hm k=>?_⟩;refine iJ hm fun d ρ1 e1 e3=>?_
  obtain⟨rfl,rfl⟩:=Prod.mk.inj e3;exact zky hbw si (.mk' hg ht he) B G H σ ρ d ρ1 _ I e1 fun G1 H1 l xs I1 f1 g1 h1 r1 b1 n1=>k G1 H1 _ (I1.setO g1 h1 r1 b1 n1) f1
theorem zp2 (i:Nat)(cap:List Nat)(t bk wk:Nat)(N:List Str)(hc:X.calm=true)(hi:SIt X tg iter mi)(hg:∀C s H fp,SG (cP X N scope C s H fp) tg g)(ht:∀C s H fp,xB (cP X N scope C s H fp) ifs mt)(he:∀C s H fp,SE (cP X N scope C s H fp) elt me)(hN:X.N.Nodup)(hbw:autoParam (cap[bk]? =some wk) zu3._auto_1)
    (hxi:autoParam (X.N[i]? =some x) zu3._auto_1) (hx:autoParam (iP X.env.scope x) zu6._auto_1) (hf:autoParam (X.fn x=true\/X.env.scope.names.lookup x=some .local) zu6._auto_1)
    (hsw:autoParam (swapsWith (.ListComp elt [⟨tg,iter,ifs,0⟩] scope lpos) (some (.Name x pos')) pos.line X.env=pure true) zu3._auto_1)
    (hk:autoParam (scope.kind= .function) zu3._auto_1) (hb:autoParam (iR X.env scope=true) zu10._auto_1) (hcap:autoParam (jB scope.names N X.N cap t=true) zu10._auto_1)
    (hs:autoParam (∀x,foldedSetIterable iter X.env x=pure x) zu9._auto_1):SS X (.Assign [.Name x pos'] (.ListComp elt [⟨tg,iter,ifs,0⟩] scope lpos) pos) (aP i (cQ (fN cap t bk wk mi g mt me))):=by
  refine hi.el fun wi pi si=>?_
  refine⟨_,Tz hN hxi hx hf hsw hc (Mg hk hb) (Kj hcap) pi (fun C s H fp=>(hg C s H fp).choose_spec.1) (fun C s H fp=>(ht C s H fp).choose_spec.1) (fun C s H fp=>(he C s H fp).choose_spec.1) hs,fun B G H σ ρ fl ρ' E I hm k=>?_⟩;refine iJ hm fun d ρ1 e1 e3=>?_
  refine iJ e1 fun ds ρ2 e4 e5=>?_
  obtain⟨rfl,rfl⟩:=Prod.mk.inj e5;obtain⟨rfl,rfl⟩:=Prod.mk.inj e3;refine zky hbw si (.mk' hg ht he) B G H σ ρ ds ρ2 _ I e4 fun G1 H1 l xs I1 f1 g1 h1 r1 b1 n1=>?_
  obtain⟨I2,f2,r2⟩:=Lm I1 g1 h1 r1 b1 n1;exact k _ H1 _ (I2.set r2) (f1.trans f2)
end
end M
namespace HT
open L2 PyProof.Rows PySem
noncomputable def jV:List Int->List Int->Bool
 |[],[]=>false
 |[],_::_=>false
 |_::_,[]=>true
 |x::xs,y::ys=>if x=y then jV xs ys else decide (x>y)
theorem zpZ (x y:Int)(xs ys:List Int):jV (x::xs) (y::ys)=if x=y then jV xs ys else decide (x>y):=rfl
theorem oZ (A:Around)(s:Shared)(a:Int)(t:Tok)(c:Int)(u:Tok)(prog:Program)(w:World)(E:Value->Shared->Prop)(Q:Value->Shared->Prop)(h:Q (.bool (decide (a>c))) s):
  wpAny (model prog w) A (richCompare .Gt (.int a t) (.int c u)) Q E s:=
 (PyProof.Rows.gt_int h:wpAny (model prog w) A (compareOp .Gt (.int a t) (.int c u)) Q E s)
section
open PySem.SeqAt
open PySem.AutoSeq1 (wpAny_loadPart')
open PySem.MeetsSeq PySem.MeetsSeq2 PySem.MeetsSeq3
theorem zmE (l b:Addr)(items items2:Array Value)(n n2:Nat)(dd dd2:Option Addr)(sl sl2:Array (Option Value))(ns ms:List Int)(hi:IntsAre items.toList ns)(hj:IntsAre items2.toList ms):
  Meets (Builtin.«tuple.__gt__» ⟨[.ref l,.ref b],[]⟩)
   (fun _ R s => s.heap.get? l = some { cls := .type "tuple", dict := dd, data := .seq items n, slots := sl } /\ s.heap.get? b = some { cls := .type "tuple", dict := dd2, data := .seq items2 n2, slots := sl2 } /\
    R (.ok (.ret (.bool (jV ns ms)))) s):=
 .of_wp fun prog w A R s h=>by
  obtain⟨hp,g,d,tk,os⟩:=s;obtain⟨hl,hb,h⟩:=h;have f2:=AutoSeq1.sub_tuple_tuple;have z1:items.size=ns.length:=by rw[<-hi.length];simp
  have z2:items2.size=ms.length:=by rw[<-hj.length];simp
  wp_walk using wpAny_loadPart' hl,wpAny_loadPart' hb,wpAny_forIn_list _ (fun rest b s'=>b.1=none/\s'=⟨hp,g,d,tk,os⟩/\∃(vs ws:List Value) (ns' ms':List Int),rest=vs.zip ws/\
   IntsAre vs ns'/\IntsAre ws ms'/\ns'.length+items2.size=ms'.length+items.size/\R (.ok (.ret (.bool (jV ns' ms')))) ⟨hp,g,d,tk,os⟩) _
  case turn=>
   rintro⟨y,x⟩ rest b s' ⟨hb',rfl,vs,ws,ns',ms',hz,hvi,hwi,hlen,hR⟩;cases hvi with
   |nil=>rw[List.zip_nil_left]at hz;cases hz
   |cons a t hvi'=>
    cases hwi with
    |nil=>rw[List.zip_nil_right]at hz;cases hz
    |cons c u hwi'=>
     rw[List.zip_cons_cons]at hz;injection hz with hyx hrest
     injection hyx with hy hx
     subst hy hx;rw[zpZ]at hR;simp only[eU]at hlen;obtain⟨e,he,hiff⟩:=qW A.in1 ⟨hp,g,d,tk,os⟩ a t c u;refine aL (he prog w _ _ ?_);cases e with
     |true=>
      rw[if_pos (hiff.mp rfl)]at hR
      wp_walk
      exact⟨rfl,rfl,_,_,_,_,hrest,hvi',hwi',by lia,hR⟩
     |false=>
      rw[if_neg (fun q=>absurd (hiff.mpr q) iX)]at hR;have hri:=oZ A.in1 ⟨hp,g,d,tk,os⟩ a t c u prog w
      wp_walk using hri
      exact⟨_,rfl,by simpa using hR⟩
  case fin=>
   rintro⟨b1,b2⟩ s' ⟨hb',rfl,vs,ws,ns',ms',hz,hvi,hwi,hlen,hR⟩;simp only at hb';subst hb';have hv:jV ns' ms'=decide (items.size>items2.size):=by
    cases hvi with
    |nil=>
     cases hwi with
     |nil=>
      simp only[Wb]at hlen;rw[(show jV [] []=false from rfl)];exact(iQ (by lia)).symm
     |cons c u hw=>
      simp only[Wb,eU]at hlen;rw[(show jV [] (_::_)=false from rfl)];exact(iQ (by lia)).symm
    |cons a t hv=>
     cases hwi with
     |nil=>
      simp only[Wb,eU]at hlen;rw[(show jV (_::_) []=true from rfl)];exact(eG (by lia)).symm
     |cons c u hw=>
      rw[List.zip_cons_cons]at hz;cases hz
   rw[hv]at hR
   wp_walk
   exact⟨_,rfl,by simpa[Builtin.Tuple.tupleCompareSizes]using hR⟩
  case h=>
   exact⟨rfl,rfl,items.toList,items2.toList,ns,ms,rfl,hi,hj,by lia,h⟩
end
section
variable {prog:Program} {w:World} {A:Around} {E:Value->Shared->Prop} {s:Shared}
theorem zp0 {l b:Addr}{items items2:Array Value}{ns ms:List Int}{Q:Value->Shared->Prop}(hl:IsTup s.heap l items)(hb:IsTup s.heap b items2)(hi:IntsAre items.toList ns)(hj:IntsAre items2.toList ms)
  (hu:A.units<cLine) (h:Q (.bool (jV ns ms)) s):wpAny (model prog w) A (compareOp .Gt (.ref l) (.ref b)) Q E s:=by
 obtain⟨⟨cls,dd,data,sl⟩,ho,hc,n,hd⟩:=id hl;obtain⟨⟨cls2,dd2,data2,sl2⟩,ho2,hc2,n2,hd2⟩:=id hb;simp only at hc hd hc2 hd2;subst hc hd hc2 hd2;exact richCompare_meets_room (op:= .Gt) ⟨_,ho,rfl⟩ ⟨_,ho2,rfl⟩ PySem.F.slot_tuple_gt PySem.F.entry_tuple_gt (PySem.F.args_tuple_gt_2 _ _) (zmE l b items items2 n n2 dd dd2 sl sl2 ns ms hi hj)
  ⟨ho,ho2,show Value.bool (jV ns ms)≠Value.notImplemented/\Q (.bool (jV ns ms)) s from⟨(fun x=>nomatch x),h⟩⟩ hu
end
end HT
namespace M
open L2 PySem PySem.Spec
open PyProof.Rows hiding St
variable {as:List Addr} {its vs:List Value} {i c:Expr} {v cN cd:Value} {K:W.Frag} {A:Around} {w:World} {H:Hp} {h h':Heap} {a b e f:Addr} {X:Cx} {C:Prop} {S:St->Prop} {E:XK} {x:MX} {mc:MT} {N:List Str} {dN:Option Addr} {es:List DictEntry} {qual:Str} {outer:List Env} {s:Shared} {fd:FuncData} {body:List Stmt} {pos:Pos}
noncomputable def iR2L (ma:MA):MA:=fun ρ=>(ma ρ).bind fun p=>match p.1 with
 |[.int i,.int j]=>some (jQ i (j-i).toNat,p.2)
 |_=>none
noncomputable def Ij:List D->Option (List (List Int))
 |[]=>some []
 | .tup ds::r=>(iD ds).bind fun ns=>(Ij r).map fun nss=>ns::nss
 |_::_=>none
theorem zlU (r:Vals (as.map V.ref) its){i:Nat}(e:its[i]? =some v):∃a,as[i]? =some a/\v= .ref a:=by
 have hl:=r.length;have hi:i<its.length:=(qap.mp e).1;rw[eL]at hl;have e2:(as.map V.ref)[i]? =some (.ref as[i]):=by rw[fJ,cG (by lia)];rfl
 obtain⟨u,h1,h2⟩:=r.get e2;rw[e]at h1;cases h1;exact⟨_,cG (by lia),h2⟩
theorem znq {G:Hp}:∀{ys:List V} {ds:List D} {nss:List (List Int)},RepL K G ys ds->Ij ds=some nss->∃as:List Addr,ys=as.map V.ref/\as.length=nss.length/\∀(i:Nat) a ns,as[i]? =some a->nss[i]? =some ns->G a=some (.tup (ns.map V.int))
 |_,[],nss,r,e=>by cases e;cases r;exact⟨[],rfl,rfl,fun i a ns h=>by simp at h⟩
 |_,d::ds,nss,⟨x,ys,e0,q,r⟩,e=>by
  subst e0;cases d with
  |tup es=>
   refine bA e fun ns e1 e=>?_
   refine cW e fun ms e2 e3=>?_
   subst e3;obtain⟨as,rfl,hl,h⟩:=znq r e2;obtain⟨a,zs,rfl,ha,rz⟩:=q;rw[Qw e1]at rz;rw[RepL.ints_eq rz]at ha;refine⟨a::as,rfl,by rw[eU,eU,hl],fun i b ns' h1 h2=>?_⟩;cases i with
   |zero=>simp at h1 h2;subst h1 h2;exact ha
   |succ i=>exact h i b ns' (by simpa using h1) (by simpa using h2)
  |non=>exact aM e
  |bl _=>exact aM e
  |int _=>exact aM e
  |str _=>exact aM e
  |lst _=>exact aM e
  |scr _=>exact aM e
  |exc _=>exact aM e
  |dic _ _=>exact aM e
  |dit _ _=>exact aM e
  |obj _ _ _ _ _=>exact aM e
theorem zqk (h:A.units+64<cLine):A.in1.units<cLine:=by
 have:A.in1.units=A.units+1\/A.in1.units=A.units:=by first|exact .inr rfl|exact .inl rfl|(simp[Around.in1,Around.units])
 lia
noncomputable def Aw (h:Heap)(a T:Addr)(C a0:Value):Prop:=∃oe vs oT ts,h.get? a=some oe/\(oe.cls=C/\vs[0]? =some a0)/\oe.data= .fields vs/\vs[1]? =some (.ref T)/\T≠a/\h.get? T=some oT/\oT.data= .fields ts/\ts[3]? =some .none
noncomputable def Cj (P:Program)(w:World):tH:=fun outer H s E e s'=>
 ∃(a T:Addr) (C a0:Value) (H':Hp),e= .ref a/\s'.os=s.os/\AllBare s'.gens/\Un (frs outer) [] H H' s.heap s'.heap/\HOk P w H' s'.heap/\Aw s'.heap a T C a0/\(s.heap.get? a=none/\s.heap.get? T=none)/\(H' a=none/\H' T=none)/\E C none H'
theorem yJ {fs:List Addr}{H H' H2:Hp}{h h1 h2:Heap}(u:Un fs [] H H' h h1)(k:∀b o,h.get? b≠none->h1.get? b=some o->b∉fs->h2.get? b=some o)
  (sl:∀b o,b∈fs->h1.get? b=some o->∃sl,h2.get? b=some {o with slots:=sl}) (hh:∀b,h.get? b≠none->H' b=none->H2 b=none) (ht:∀b o,H' b=some o->H2 b=some o):Un fs [] H H2 h h2 where
 keep:=fun b o e n hf hx=>k b o (by rw[e];exact fun z=>by cases z) (u.keep b o e n hf hx) hf
 slot:=fun b o e n hf hx=>by
  obtain⟨s1,e1⟩:=u.slot b o e n hf hx;obtain⟨s2,e2⟩:=sl b _ hf e1;exact⟨s2,e2⟩
 free:=fun b o e n hx=>hh b (by rw[e];exact fun z=>by cases z) (u.free b o e n hx)
 there:=fun b o e hx=>by
  obtain⟨o1,e1⟩:=u.there b o e hx
  by_cases hf:b∈fs
  ·obtain⟨s2,e2⟩:=sl b _ hf e1;exact⟨_,e2⟩
  ·exact⟨o1,k b o1 (by rw[e];exact fun z=>by cases z) e1 hf⟩
 tups:=fun b xs e=>ht b _ (u.tups b xs e)
 frzs:=fun b o xs e=>ht b _ (u.frzs b o xs e)
 tbls:=fun b ps e=>by
  obtain⟨m,e1⟩:=u.tbls b ps e;exact⟨m,ht b _ e1⟩
theorem rP {P:Program}{h h2:Heap}(x:HOk P w H h)(k:∀b o,H b≠none->h.get? b=some o->h2.get? b=some o):HOk P w H h2:=fun a o e=>
  (x a o e).stay (fun b u hb q => k b u (by rcases hb with rfl | hb; · rw [e]; exact fun z => by cases z
                                            . rw[hb];exact fun z=>by cases z) q) (fun _ q=>q) fun _ _ q=>q
theorem zH {P:Program}{o:HO}(x:ObjOk P w H h a o):∃ob,h.get? a=some ob:=by
 cases o with
 |lst xs=>obtain⟨_,_,_,_,e⟩:=x;exact⟨_,e⟩
 |tup xs=>obtain⟨_,_,_,ob,e,_⟩:=x;exact⟨_,e⟩
 |dK kvs=>obtain⟨_,_,_,_,o,_,_,e,_⟩:=x;exact⟨_,e⟩
 |dT kvs=>obtain⟨_,_,_,_,o,_,_,e,_⟩:=x;exact⟨_,e⟩
 |set S n=>obtain⟨o,_,_,_,e,_⟩:=x;exact⟨_,e⟩
 |ins C dx fs=>obtain⟨_,_,_,e,_⟩:=x;exact⟨_,e⟩
 |own y=>exact x
 |xd fs=>obtain⟨_,⟨_,_,_,e,_⟩,_⟩:=x;exact⟨_,e⟩
 |rng lo hi=>obtain⟨_,_,_,e⟩:=x;exact⟨_,e⟩
 |frz ob u=>exact⟨_,x.1⟩
 |tbl ps=>exact⟨_,x⟩
 |met f y=>exact⟨_,x⟩
 |ext φ=>exact x.2.1
theorem zjw {P:Program}(x:HOk P w H h)(e:h.get? b=none):H b=none:=by
 cases q:H b with
 |none=>rfl
 |some o=>
  obtain⟨ob,e2⟩:=zH (x b o q);rw[e]at e2;exact aM e2
theorem nn {α:Type}{o:Option α}{x:α}(e:o=some x):o≠none:=by rw[e];exact fun z=>by cases z
structure TopF (X:Cx):Prop where
 hs:X.stack=X.env::X.outer
 hfr:X.env.frame=some X.env.locals
 hex:X.ex=[]
theorem TopF.frs (t:TopF X):L2.frs X.stack=X.env.locals::X.fs:=by
 rw[t.hs];unfold Cx.fs L2.frs;rw[iS,t.hfr]
section
variable {X:Cx} {pins:List (Addr×Obj)} {σ:St} {H H':Hp} {s s1 s2:Shared} {a T T':Addr} {C a0:Value} {E:XK}
theorem Eo (tp:TopF X)(J:Inv X pins σ H' s1)(k:∀b o,s1.heap.get? b=some o->b∉L2.frs X.stack->b≠a->b≠T->s2.heap.get? b=some o)
  (sl:∀b o,b∈L2.frs X.stack->s1.heap.get? b=some o->∃sl,s2.heap.get? b=some {o with slots:=sl})
  (na:X.s₀.heap.get? a=none) (nT:X.s₀.heap.get? T=none) (nT':X.s₀.heap.get? T'=none) (ha:H' a=none) (hT:H' T=none) (hT':H' T'=none)
  (fl:Aw s2.heap a T' C a0) (os:s2.os=s1.os) (g:AllBare s2.gens) (hE:E C none H'):Cj X.prog X.w X.outer X.H₀ X.s₀ E (.ref a) s2:=by
 have bs:=J.base;rw[tp.hex]at bs;refine⟨a,T',C,a0,H',rfl,os.trans J.os,g,yJ bs (fun b o hb e nf=>k b o e ?_ ?_ ?_) (fun b o hb e=>sl b o ?_ e) (fun _ _ q=>q) (fun _ _ q=>q),rP J.hok (fun b o hb e=>k b o e (fun z=>hb (J.stkFree b z)) (fun z=>hb (z ▸ ha)) fun z=>hb (z ▸ hT)),fl,⟨na,nT'⟩,⟨ha,hT'⟩,hE⟩
 ·rw[tp.frs];intro z;rcases qam.mp z with z|z
  ·obtain⟨ob,eb⟩:∃ob,X.s₀.heap.get? b=some ob:=qby.mp hb;have h1:=cY eb;have h2:=J.ok.above;rw[z]at h1;exact absurd (iH h1 h2) (lV _)
  ·exact nf z
 ·intro z;exact hb (z ▸ na)
 ·intro z;exact hb (z ▸ nT)
 ·rw[tp.frs];exact jD _ hb
theorem zpo (J:Inv X pins σ H' s1)(hex:X.ex=[])(e:s1.heap.get? b=none):X.s₀.heap.get? b=none:=by
 cases q:X.s₀.heap.get? b with
 |none=>rfl
 |some o=>
  obtain⟨o',e'⟩:=J.base.there b o q (by rw[hex];simp);rw[e]at e';exact aM e'
noncomputable abbrev zqq (X:Cx)(E:XK):Value->Shared->Prop:=fun e s'=>wpAny (model X.prog X.w) X.A (leaving X.env e) (fun _ s''=>Cj X.prog X.w X.outer X.H₀ X.s₀ E e s'') (fun e' s''=>Cj X.prog X.w X.outer X.H₀ X.s₀ E e' s'') s'
theorem sA (J:Inv X pins σ H s)(as:List Addr)(h:∀b∈L2.frs X.stack,b∈as):s.heap.FunFrames (W.hideAll s.heap as) X.stack:=W.funFrames_hide J.stack fun env he a' ef=>h a' (qaI.mpr ⟨env,he,ef⟩)
theorem yA (tp:TopF X)(hxe:X.xe=zqq X E)(J:Inv X pins σ H s){C:Value}{tk:Nat}(m:s.heap.MadeExcOf h' e C vs)(hE:E C none H):X.xe (.ref e) {s with heap:=h',toks:=tk}:=by
 rw[hxe];have ff0:=sA J (L2.frs X.stack) fun b hb=>hb
 refine wpAny_leaves_madeW (base:=W.hideAll s.heap (L2.frs X.stack)) (h:=s.heap) (outer:=X.outer) (args:=vs) (cls:=C) (by rw[<-tp.hs];exact J.ok.frames) tp.hfr (fun b o q=>W.of_hideAll _ q) (by rw[<-tp.hs];exact ff0) m fun h2 t fl _ _ up=>?_
 obtain⟨stay,ne,ff,⟨oe',vs',T',oT',ts',q1,q2,q4,q5,q6,q7,q8,q9,q10⟩⟩:=fl;have nofield:∀b∈L2.frs X.stack,∃o,s.heap.get? b=some o/\∀vs:Array Value,o.data≠Data.fields vs:=fun b hb=>(J.stack.mem hb).2
 have fr':T'∉L2.frs X.stack:=fun z=>by
  obtain⟨o,ho,nd⟩:=nofield _ z;obtain⟨sl,h3⟩:=up T' o (m.keeps _ _ ho) nd;rw[q8]at h3;cases h3;exact nd _ q9
 have hT0:s.heap.get? T'=none:=by
  cases z:s.heap.get? T' with
  |none=>rfl
  |some o=>rw[W.hideAll_get _ z fr']at q6;cases q6
 have hT2:X.s₀.heap.get? T'=none/\H T'=none:=⟨zpo J tp.hex hT0,zjw J.hok hT0⟩;refine Eo (T:=T') (T':=T') (a0:= .ref t) tp J (fun b o e nf n1 n2=>stay b o (W.hideAll_get _ e nf)) (fun b o hb e=>?_) (zpo J tp.hex m.new) hT2.1 hT2.1 (zjw J.hok m.new) hT2.2 hT2.2 ⟨oe',vs',oT',ts',q1,q2,q4,q5,q7,q8,q9,q10⟩ rfl J.bare hE;obtain⟨o',ho',nd⟩:=nofield b hb;rw[e]at ho';cases ho';exact up b o (m.keeps _ _ e) nd
end
noncomputable abbrev MX:=R->Option Str
noncomputable abbrev pD (K:W.Frag)(c:Str)(C:Addr):Prop:=W.nsIn K mainGlobals c=some (some (.ref C))
noncomputable def Cn (K:W.Frag)(B:Bs)(E:XK)(c:Str):Prop:=∀H' C,(∀b o,B.H b=some o->(∀i,(i,b)∉B.O)->H' b=some o)->pD K c C->E (.ref C) none H'
section
variable (X:Cx) (S:St->Prop) (E:XK)
noncomputable def XSb (st:Stmt)(x:MX)(t:TS):Prop:=∀B G H σ ρ c,SI X.K B G H σ ρ->S σ->x ρ=some c->Cn X.K B E c->∀D,t D σ H
noncomputable def XS (st:Stmt)(x:MX):Prop:=∃t,PS X st t/\XSb X S E st x t
theorem XS.el {Y:Cx}{T:St->Prop}{F:XK}{st:Stmt}(h:XS Y T F st x)(k:∀t,PS Y st t->XSb Y T F st x t->C):C:=h.elim fun t q=>k t q.1 q.2
noncomputable def Tf (st:List Stmt)(x:MX)(t:TS):Prop:=∀B G H σ ρ c,SI X.K B G H σ ρ->S σ->x ρ=some c->Cn X.K B E c->∀D,t D σ H
noncomputable def XSs (st:List Stmt)(x:MX):Prop:=∃t,PSs X st t/\Tf X S E st x t
theorem XSs.el {Y:Cx}{T:St->Prop}{F:XK}{st:List Stmt}(h:XSs Y T F st x)(k:∀t,PSs Y st t->Tf Y T F st x t->C):C:=h.elim fun t q=>k t q.1 q.2
end
noncomputable def spX (K:W.Frag)(n:Nat)(F:List D->Option Str):Sp:=fun vs H _ E=>∃G ds c,F ds=some c/\ds.length=n/\Fz G H/\RepL K G vs ds/\∀H' C,Fz H H'->pD K c C->E (.ref C) none H'
structure FDX (P:Program) (w:World) (K:W.Frag) (mg:Str->Option Value) (base:Heap) (k:Nat) (x:Str) (sp:Sp):Prop where
 ex:∃f fd ps,FnOk P w K mg base (Cj P w) k f fd ps sp/\mg x=some (.ref f)/\W.keepIn K (.ref f)=true/\Binds K fd ps []
noncomputable def xIf (c:MT)(a:MX):MX:=fun ρ=>(c ρ).bind fun p=>if p.1 then a p.2 else none
noncomputable def fX (N:Nat)(x:MX):List D->Option Str:=fun ds=>x (ds.map .val++List.replicate (N-ds.length) .emp)
section
variable {X:Cx} {S:St->Prop} {E:XK} {x:Str} {p pos:Pos} {e:Expr} {es:List Expr} {ma:MA} {k k' n:Nat} {F:List D->Option Str} {mx:MX}
theorem Ro {a b:List Stmt}(hc:STt X c mc)(ha:XSs X S E a mx):XS X S E (.If c a b pos) (xIf mc mx):=by
 refine hc.el fun tc pc sc=>?_
 refine ha.el fun t pt st=>?_
 refine⟨_,Cd (u:=fun _ _ _=>False) pc pt (fun _ _ _ _ _ _ h=>h.elim),fun B G H σ ρ c I hS hm w D=>?_⟩;refine bP hm fun b ρ1 e1 hm=>?_
 refine sc B G H σ ρ b ρ1 _ I e1 fun G1 H1 I1 f1=>?_
 cases b with
 |true=>rw[if_pos rfl];exact st B G1 H1 σ ρ1 c I1 hS (by simpa using hm) w D
 |false=>simp at hm
theorem zoO {st:Stmt}{rest:List Stmt}(h:XS X S E st mx):XSs X S E (st::rest) mx:=by
 refine h.el fun t pt so=>?_
 exact⟨_,zo0 (u:=fun _ _ _=>False) pt (fun _ _ _ _ _ _ h=>h.elim),fun B G H σ ρ c I hS hm w D=>so B G H σ ρ c I hS hm w _⟩
end
noncomputable abbrev Ls:List Value:=[.type "ValueError",.type "Exception",.type "BaseException",.type "object"]
theorem Bq {N:Addr}{ep:Nat}{sl:Array (Option Value)}(l:K.lookup N=some ⟨cN,dN,.dict es.toArray ep,sl⟩)(o:(es.all fun e=>match e.key with
  | .str _ _=>true
  |_=>false)=true):W.nsOkIn K N=true:=by
 unfold W.nsOkIn;have l':List.lookup N K=some ⟨cN,dN,.dict es.toArray ep,sl⟩:=l;rw[l'];dsimp only;rw[List.all_toArray];exact o
noncomputable def Rw (K:W.Frag)(C:Addr):Prop:=∀(h:Heap) (mg:Str->Option Value) (x:Str),K.In h->mg x=some (.ref C)->OwnCls x C Ls "ValueError.__new__" mg h
theorem mZ {C CS N NS:Addr}{nm q nmS qS:Str}{bs bsS:List Value}{hdct hS:Bool}{sn snS:List Str}{sub subS:List Value}{ab abS:Bool}{col colS:Option Bool}{dd ddS:Option Addr}{k0 k1 k2 k3 k5 j0 j1 j2 j3 j5:Option Value}
  (l1:K.lookup C=some (excClassObj nm q C N bs (.ref CS::Ls) hdct sn sub ab col dd k0 k1 k2 k3 k5 "ValueError.__new__")) (l2:K.lookup CS=some (excClassObj nmS qS CS NS bsS Ls hS snS subS abS colS ddS j0 j1 j2 j3 j5 "ValueError.__new__"))
  (i1:W.nsIn K N "__init__"=some none) (i2:W.nsIn K NS "__init__"=some none) (o1:W.nsOkIn K N=true) (o2:W.nsOkIn K NS=true):Rw K C:=fun h mg x kin hm=>
 ⟨hm,.ref CS::Ls,N,nm,q,bs,hdct,sn,sub,ab,col,dd,k0,k1,k2,k3,k5,h.nsMap N,kin _ _ l1,Heap.Ns.of_isNs (W.isNs_of_in kin o1),W.nsMap_none_of_in kin o1 i1,
  .own (kin _ _ l2) (Heap.Ns.of_isNs (W.isNs_of_in kin o2)) (W.nsMap_none_of_in kin o2 i2) .base⟩
section
variable {X:Cx} {E:XK} {S:St->Prop}
noncomputable abbrev Ck (K:W.Frag)(mg:Str->Option Value)(c:Str):Prop:=∃C,mg c=some (.ref C)/\pD K c C/\Rw K C
end
section
variable {P:Program} {w:World} {K:W.Frag} {mg:Str->Option Value} {base:Heap}
theorem Io {scope:Scope}:TopF (fD (Cj P w) P w K mg base N qual scope f cd A outer s H E):=⟨rfl,rfl,rfl⟩
theorem Fw {x qual:Str}{st:Stmt}{N ps:List Str}{k n:Nat}{m:MX}(F:Fun K x qual st f fd)(S:FnScope N ps (zaM st))(hn:ps.length=n)(hN:n<=N.length)
  (body:∀(cdv:Value) (A:Around) (outer:List Env) (s:Shared) (H:Hp) (E:XK),Room k (A.deeper (envOfC qual (zaM st) s.heap.objs.size f cdv))->XSs (fD (Cj P w) P w K mg base N qual (zaM st) f cdv A outer s H E) (fun _=>True) E (zct st) m):
  FnOk P w K mg base (Cj P w) (k+1) f fd ps (spX K n (fX N.length m)):=by
 obtain⟨oc,od,kV,doc,pm,an,cdv,ct,osl,rfl,lk,hcd⟩:=F.ex;refine Bf lk hcd S (fun vs H Q E h=>?_) fun A outer s H vs Q E hr h=>?_
 ·obtain⟨G,ds,c,_,h2,_,h4,_⟩:=h;rw[h4.length,h2,hn]
 ·obtain⟨G,ds,c,e1,h2,fz,h4,kk⟩:=h;obtain⟨t,pt,so⟩:=body cdv A outer s H E hr;exact⟨t,pt,so ⟨G,H,[]⟩ G H (L2.start N vs) _ c (SI.start fz h4 (by lia)) trivial e1 (fun H' C kp hC=>kk H' C (fun b o q=>kp b o q (by simp)) hC) _⟩
end
noncomputable def tI (mc:MT)(mb:MS):Nat->MS
 |0,_=>none
 |n+1,ρ=>(mc ρ).bind fun p=>if p.1 then(mb p.2).bind fun q=>match q.1 with
  | .next=>tI mc mb n q.2
  | .cont=>tI mc mb n q.2
  | .brk=>some (.next,q.2)
  | .ret r=>some (.ret r,q.2)
  else some (.next,p.2)
theorem zlY {mb:MS}(fuel:Nat)(hp:PassesOwn (model X.prog X.w) X.A X.env X.xe)(hc:STt X c mc)(hb:SSs X body mb):SS X (.While c body [] pos) (tI mc mb fuel):=by
 refine hc.el fun tc pc sc=>?_
 refine hb.el fun tb pb sb=>?_
 refine⟨_,sF hp pc pb,fun B G H σ ρ fl ρ' E I hm k=>?_⟩;refine⟨fun m σ' H'=>∃G' ρ1,SI X.K B G' H' σ' ρ1/\Fz G G'/\tI mc mb m ρ1=some (fl,ρ'),⟨fuel,G,ρ,I,Fz.refl G,hm⟩,fun m σ1 H1 w=>?_⟩;obtain⟨G1,ρ1,I1,f1,e1⟩:=w;cases m with
 |zero=>exact aM e1
 |succ m=>
  refine bP e1 fun b ρ2 e2 e1=>?_
  refine sc B G1 H1 σ1 ρ1 b ρ2 _ I1 e2 fun G2 H2 I2 f2=>?_
  dsimp only at e1;cases b with
  |false=>
   rw[if_neg (by simp)]at e1 ⊢;obtain⟨rfl,rfl⟩:=bT e1;exact k G2 H2 σ1 I2 (f1.trans f2)
  |true=>
   rw[if_pos rfl]at e1 ⊢;refine bP e1 fun f ρ3 e3 e1=>?_
   refine⟨fun σ' H'=>∃G' ρ1,SI X.K B G' H' σ' ρ1/\Fz G G'/\tI mc mb m ρ1=some (fl,ρ'),fun σ' H' h=>⟨m,Tr m,h⟩,?_⟩;refine sb B G2 H2 σ1 ρ2 f ρ3 _ I2 e3 ?_;have ff:=f1.trans f2;cases f with
   |next=>exact fun G' H' σ' I3 f3=>⟨G',ρ3,I3,ff.trans f3,e1⟩
   |cont=>exact fun G' H' σ' I3 f3=>⟨G',ρ3,I3,ff.trans f3,e1⟩
   |brk=>obtain⟨rfl,rfl⟩:=bT e1;exact fun G' H' σ' I3 f3=>k G' H' σ' I3 (ff.trans f3)
   |ret r=>obtain⟨rfl,rfl⟩:=bT e1;exact fun G' H' σ' v I3 f3 rr=>k G' H' σ' v I3 (ff.trans f3) rr
section
variable {X:Cx} {E:XK} {S:St->Prop}
theorem zrx {c m:Str}{np cp cpos pos:Pos}{j:Nat}(tp:TopF X)(hxe:X.xe=zqq X E)(hgl:X.env.globals=mainGlobals)(hc:X.calm=true)(hr:Ck X.K X.mg c)
  (hg:autoParam (Gl X c) zu3._auto_1) (hd:autoParam ((c==("__debug__":Str))=false) zu1._auto_1)
  (he:autoParam (starEach [Expr.Constant (.str m) j cp] X.env=(false,eval (.Constant (.str m) j cp) X.env)::starEach [] X.env) zu3._auto_1) (hpl:autoParam (((backTo cpos (starEach [] X.env)).any (·.1))=false) zu3._auto_1):
  XS X S E (.Raise (some (.Call (.Name c np) [.Constant (.str m) j cp] [] cpos)) none pos) (fun _=>some c):=by
 obtain⟨C,hm,hn,hC⟩:=hr;refine⟨fun D σ H=>E (.ref C) none H,fun pins s σ H D I h=>?_,fun B G H σ ρ c' I hS hm' w D=>?_⟩
 ·obtain⟨mm,fr⟩:=I.fr;have own:=hC X.base X.mg c I.ok.mod.kin hm;have pa:=(lS (X:=X) (rQ (X:=X) (x:=m) (j:=j) (pos:=cp)) As he) cpos pins s σ H (fun vs H1=>vs.length=1/\H1=H) I ⟨rfl,rfl⟩;have kd:X.env.kindOf c=some .globalImplicit:=hg;have gl:=I.ok.mod.glob.keeps fr.keep;rw[<-hgl]at gl;obtain⟨v1,v2,v3,v4,v5,v6,v7,v8,v9,v10,v11,v12,v13,v14,v15,v16,v17,o1,o2,o3,o4⟩:=own.obj;refine wpAny_Raise_call_subT (bm:=v1) (N:=v2) (nm:=v3) (q:=v4) (bs:=v5) (hdct:=v6) (sn:=v7) (sub:=v8) (ab:=v9) (col:=v10) (dd:=v11) (k0:=v12) (k1:=v13) (k2:=v14) (k3:=v15) (k5:=v16) F.excBase_ValueError (o4.hasType F.excBase_ValueError.hasBase) (I.ok.hd hc) ?pl o3 (qas I.ok.kind kd (Calls.loadGlobal_global gl own.bound ⟨rfl,?_⟩) hd)
  case pl=>rw[he];exact hpl
  rw[he]at pa ⊢;refine Calls.evalArgs_plain (kW pa (fun us s2 ⟨vs,H1,I1,r,q1,q2⟩=>?_) fun _ _ q=>q);subst q2;refine⟨rfl,?_,I1.bk _ _ o1,o2.keeps I1.bk,o4.keeps I1.bk,fun h' e mk=>yA (tk:=s2.toks) tp hxe I1 mk h⟩;rw[<-r.length,q1];decide
 ·cases hm';exact w H C (fun b o q hn=>I.keep b o q hn) hn
end
noncomputable def gS (j:Nat)(mi:ME):D->R->Option R:=fun d ρ=>if eV ρ j then(mi ρ).bind fun q=>match q.1 with
 | .int k=>q.2[j]?.bind fun s=>s.items.bind fun ds=>(hZ ds.length k).bind fun n=>some (q.2.set j (s.put (ds.set n d)))
 |_=>none else none
section
variable {X:Cx}
theorem pT (j:Nat){x:Str}{mi:ME}{pos' tpos:Pos}(hi:SE X i mi)(hN:autoParam (X.N[j]? =some x) zu3._auto_1)(hv:autoParam (iA X.env.scope x) zu6._auto_1)(hd:autoParam ((x==("__debug__":Str))=false) zu1._auto_1)
    (hcd:autoParam ((x==("__classdict__":Str))=false) zu1._auto_1)
    (ha :autoParam (∀ v, assign (.Subscript (.Name x pos') i tpos) X.env v = (do
      let ov<-holding [v] (eval (.Name x pos') X.env)
      let iv<-holding [v,ov] (eval i X.env)
      standAt tpos
      holding [v,ov,iv] (setItem ov iv v)
      release [v,ov,iv] [])) zu9._auto_1):SG X (.Subscript (.Name x pos') i tpos) (gS j mi):=by
  refine hi.el fun u q z=>?_
  refine⟨_,pQ (jG hN hv hd hcd) q zpc ha,fun B G H σ ρ v d ρ' Q I r1 hm k=>?_⟩;unfold gS at hm;refine bJ hm fun hh hm=>?_
  . skip
    obtain⟨w,ew⟩:=I.has hh;refine bP hm fun kd ρ2 e2 hm=>?_
    cases kd<;>try exact aM hm
    rename_i kk;refine bA hm fun s2 e3 hm=>?_
    refine bA hm fun ds e4 hm=>?_
    refine bA hm fun n e5 hm=>?_
    cases hm;refine⟨w,ew,z B G H σ ρ (.int kk) ρ2 _ I e2 fun G2 H2 y I2 f2 r2=>?_⟩;obtain⟨l,xs,k1,k2,k3,k4⟩:=I2.wr e3 e4;rw[ew]at k1;cases k1;refine⟨l,xs,kk,n,rfl,r2,k3,by rw[k4.length];exact e5,?_⟩;exact k G2 _ σ (I2.write e3 e4 ew (k4.set n (r1.mono f2))) f2
end
end M
namespace M
open L2 PySem
noncomputable def Nq:Sl->Sl->Bool
 | .own ds,.own es=>match iD ds,iD es with
  |some a,some b=>a==b
  |_,_=>false
 | .par ds,.par es=>match iD ds,iD es with
  |some a,some b=>a==b
  |_,_=>false
 | .own _,_=>false
 | .par _,_=>false
 | .tre _,_=>false
 | .ptr _,_=>false
 |_,_=>true
end M
namespace M
open L2 PySem PySem.Spec
open PyProof.Rows hiding St
variable {s:Sl} {t:T} {ov:Option (Option V)} {a b:Addr} {i j:Nat} {v:V} {A:List Addr} {o:HO} {σ' σ:St} {ρ' ρ:R} {ds:List D} {K:W.Frag} {B:Bs} {G H:Hp} {q:List Int×List D}
noncomputable def Sl.putT (s:Sl)(t:T):Sl:=match s with
 | .tre _=> .tre t
 | .ptr _=> .ptr t
 |s=>s
noncomputable def Sl.tree:Sl->Option T
 | .tre t=>some t
 |_=>none
section
variable {K:W.Frag} {B:Bs} {G G' H H':Hp} {σ:St} {ρ:R}
theorem zpk (q:s.tree=some t):eZ K G H ov a s↔∃v A,ov=some (some v)/\RepT K G H v t A/\a∈A:=by
 cases s with
 |tre _=>cases q;exact Iff.rfl
 |_=>exact aM q
theorem zp8 (q:s.tree=some t)(t':T):(s.putT t').tree=some t':=by
 cases s with
 |tre _=>rfl
 |_=>exact aM q
theorem SI.tree (I:SI K B G H σ ρ)(e:ρ[i]? =some s)(q:s.tree=some t):∃v A,σ[i]? =some (some v)/\RepT K G H v t A/\A.Nodup/\(∀a∈A,G a=none)/\∀a∈A,B.H a=none\/(i,a)∈B.O:=by
 have h:=I.slot i s e;cases s with
 |tre _=>cases q;obtain⟨v,A,h1,h2,h3,h4⟩:=h;exact⟨v,A,h1,h2,h3,fun a m=>(h4 a m).1,fun a m=> .inl (h4 a m).2⟩
 |_=>exact aM q
theorem SI.chT (I:SI K B G H σ ρ){i:Nat}{t t':T}{A A':List Addr}(e:ρ[i]? =some s)(q:s.tree=some t)(hv:σ[i]? =some (some v))(r:RepT K G H v t A)(fz:Fz G H')(kp:∀b o,b∉A->H b=some o->H' b=some o)(th:∀b,H' b=none->H b=none)
  (r':RepT K G H' v t' A') (nd:A'.Nodup) (sub:∀a∈A',a∈A\/H a=none):SI K B G H' σ (ρ.set i (s.putT t')):=by
 obtain⟨v1,A1,h1,h2,h3,h4,h5⟩:=I.tree e q;rw[hv]at h1;cases h1;have:A1=A:=h2.det r fun _ _=>rfl
 subst this;have g':∀a∈A',G a=none:=fun a m=>by
  rcases sub a m with z|z
  ·exact h4 a z
  ·exact I.fz.free z
 have b':∀a∈A',B.H a=none\/(i,a)∈B.O:=fun a m=>by
  rcases sub a m with z|z
  ·exact h5 a z
  ·exact .inl (I.there a z)
 have h:=I.chg (i:=i) (ov:=some v) (s':=s.putT t') (G':=G) (H':=H') fz (Fz.refl G) I.new (fun b o k1 k2=>kp b o (fun m=>?_) (I.keep b o k1 k2)) (fun b k=>I.there b (th b k)) (fun j u a z ej w g ha=>?_) ?_
 ·rwa[Ld hv]at h
 ·rcases h5 b m with z|z
  ·rw[k1]at z;cases z
  ·exact k2 i z
 ·have na:a∉A1:=fun m=>I.dis j i u s a z ej e w ((zpk q).mpr ⟨v,A1,hv,h2,m⟩)
  obtain⟨x,hx⟩:=qby.mp ha;refine⟨g,(kp a x na hx).trans hx.symm,fun w'=>?_⟩;obtain⟨v2,A2,k1,k2,k3⟩:=(zpk (zp8 q t')).mp w';cases k1;rw[k2.det r' fun _ _=>rfl]at k3;rcases sub a k3 with z|z
  ·exact na z
  ·exact ha z
 ·have sl:=I.slot i s e;cases s with
  |tre _=>
   obtain⟨v2,A2,k1,k2,k3,k4⟩:=sl;rw[hv]at k1;cases k1;cases q;have:A2=A1:=k2.det h2 fun _ _=>rfl
   subst this;refine⟨v,A',rfl,r',nd,fun a m=>⟨g' a m,?_⟩⟩;rcases sub a m with z|z
   ·exact(k4 a z).2
   ·exact I.there a z
  |_=>cases q
theorem SI.setT (I:SI K B G H σ ρ)(r:RepT K G H v t A)(nd:A.Nodup)(hA:∀a∈A,G a=none/\B.H a=none/\Nw K G H σ ρ a):SI K B G H (σ.set i (some v)) (ρ.set i (.tre t)):=
 I.chg I.fz (Fz.refl G) I.new I.keep I.there (fun j s a _ e w g _=>⟨g,rfl,fun⟨v2,A2,k1,k2,k3⟩=>by
  cases k1;rw[k2.det r fun _ _=>rfl]at k3;exact(hA a k3).2.2 j s e w⟩) ⟨v,A,rfl,r,nd,fun a m=>⟨(hA a m).1,(hA a m).2.1⟩⟩
open Classical in
noncomputable def Bs.re (B:Bs)(K:W.Frag)(G H:Hp)(σ:St)(ρ:R):Bs:=⟨G,fun b=>if(∃(i:Nat) (s:Sl),ρ[i]? =some s/\eZ K G H σ[i]? b s)/\B.H b=none then none else H b,B.O⟩
theorem Ly (I:SI K B G H σ ρ)(h:(B.re K G H σ ρ).H b=none):B.H b=none:=by
 unfold Bs.re at h;dsimp only at h
 split at h
 ·rename_i w;exact w.2
 ·exact I.there b h
theorem zrs (e:ρ[i]? =some s)(w:eZ K G H σ[i]? b s)(n:B.H b=none):(B.re K G H σ ρ).H b=none:=by
 unfold Bs.re;dsimp only;rw[if_pos ⟨⟨i,s,e,w⟩,n⟩]
theorem zqh (h:H b=some o)(n:Nw K G H σ ρ b):(B.re K G H σ ρ).H b=some o:=by
 unfold Bs.re;dsimp only;rw[if_neg fun w=>by obtain⟨⟨i,s,e,w⟩,_⟩:=w;exact n i s e w];exact h
theorem SI.re (I:SI K B G H σ ρ):SI K (B.re K G H σ ρ) G H σ ρ where
 fz:=I.fz
 g0:=Fz.refl G
 new:=fun b o e=> .inl (by show G b≠none;rw[e];simp)
 keep:=fun b o e _=>by
  unfold Bs.re at e;dsimp only at e
  split at e
  ·exact aM e
  ·exact e
 there:=fun b e=>by
  unfold Bs.re;dsimp only
  split
  ·rfl
  ·exact e
 ob:=fun i b m=>by
  have hb:=I.ob i b m;unfold Bs.re;dsimp only;rw[if_neg fun w=>hb w.2];exact fun z=>hb (I.there b z)
 len:=I.len
 slot:=fun i s e=>by
  have h:=I.slot i s e;cases s with
  |emp=>trivial
  |two _ _=>trivial
  |val d=>exact h
  |own ds=>obtain⟨l,xs,k1,k2,k3,k4,k5⟩:=h;exact⟨l,xs,k1,k2,k3,k4,zrs e k1 k5⟩
  |par ds=>exact h
  |tre t=>obtain⟨v,A,k1,k2,k3,k4⟩:=h;exact⟨v,A,k1,k2,k3,fun a m=>⟨(k4 a m).1,zrs e ⟨v,A,k1,k2,m⟩ (k4 a m).2⟩⟩
  |ptr t=>
   obtain⟨v,A,k1,k2,k3,k4⟩:=h;exact⟨v,A,k1,k2,k3,fun a m=>⟨(k4 a m).1,(k4 a m).2.imp id fun z=>⟨zrs e ⟨v,A,k1,k2,m⟩ z.1,z.2⟩⟩⟩
 dis:=I.dis
theorem SI.unre (I:SI K B G H σ ρ)(J:SI K (B.re K G H σ ρ) G' H' σ' ρ'):SI K B G' H' σ' ρ' where
 fz:=J.fz
 g0:=I.g0.trans J.g0
 new:=fun b o e=>by
  rcases J.new b o e with z|z
  ·cases q:G b with
   |none=>exact absurd q z
   |some u=>exact I.new b u q
  ·exact .inr (Ly I z)
 keep:=fun b o e n=>J.keep b o (by
  unfold Bs.re;dsimp only;rw[if_neg fun w=>by rw[w.2]at e;cases e];exact I.keep b o e n) n
 there:=fun b e=>Ly I (J.there b e)
 ob:=I.ob
 len:=J.len
 slot:=fun i s e=>by
  have h:=J.slot i s e;cases s with
  |emp=>trivial
  |two _ _=>trivial
  |val d=>exact h
  |own ds=>obtain⟨l,xs,k1,k2,k3,k4,k5⟩:=h;exact⟨l,xs,k1,k2,k3,k4,Ly I k5⟩
  |par ds=>exact h
  |tre t=>obtain⟨v,A,k1,k2,k3,k4⟩:=h;exact⟨v,A,k1,k2,k3,fun a m=>⟨(k4 a m).1,Ly I (k4 a m).2⟩⟩
  |ptr t=>
   obtain⟨v,A,k1,k2,k3,k4⟩:=h;exact⟨v,A,k1,k2,k3,fun a m=>⟨(k4 a m).1,(k4 a m).2.imp id fun z=>⟨Ly I z.1,z.2⟩⟩⟩
 dis:=J.dis
theorem SI.re_stays (I:SI K B G H σ ρ)(J:SI K (B.re K G H σ ρ) G' H' σ' ρ')(h:H b=some o)(n:Nw K G H σ ρ b)(hg:G b=none)(hB:B.H b=none):H' b=some o/\G' b=none/\Nw K G' H' σ' ρ' b:=by
 have hb:(B.re K G H σ ρ).H b=some o:=zqh h n;have hO:∀i,(i,b)∉B.O:=fun i m=>I.ob i b m hB
 refine⟨J.keep b o hb hO,?_,fun i s e w=>?_⟩
 ·cases q:G' b with
  |none=>rfl
  |some u=>
   rcases J.new b u q with z|z
   ·exact absurd hg z
   ·rw[hb]at z;cases z
 ·rcases((J.slot i s e).own w).2.2 with z|z
  ·rw[hb]at z;cases z
  ·exact hO i z
end
section
variable {J κ:Type} [DecidableEq J] [DecidableEq κ]
noncomputable def lR:List J->List D->J->Option D
 |k::ks,d::ds,j=>if k=j then some d else lR ks ds j
 |_,_,_=>none
noncomputable def sT (ks:List J)(ds:List D)(j:J)(d:D):List J×List D:=if ks.contains j then(ks,List.zipWith (fun k x=>if k=j then d else x) ks ds)else(ks++[j],ds++[d])
variable {K:W.Frag} {G:Hp} {em:J->κ}
theorem Za (inj:∀a b,em a=em b->a=b):∀{ks:List J} {ds:List D} {ys:List (κ×V)} {j:J} {d:D},ys.map (·.1)=ks.map em->RepL K G (ys.map (·.2)) ds->lR ks ds j=some d->∃v,eY ys (em j)=some v/\RepD K G v d
 |[],_,_,_,_,_,_,h=>by exact aM h
 |_::_,[],_,_,_,_,_,h=>by exact aM h
 |k::ks,x::ds,[],j,d,e,_,_=>by cases e
 |k::ks,x::ds,y::ys,j,d,e,⟨z,zs,e1,r1,r2⟩,h=>by
  cases e1;have e2:=List.cons.inj e;unfold lR at h
  by_cases q:k=j
  ·rw[if_pos q]at h;cases h;subst q;exact⟨y.2,Xl e2.1,r1⟩
  ·rw[if_neg q]at h;obtain⟨v,h1,h2⟩:=Za inj e2.2 r2 h;refine⟨v,?_,h2⟩;rw[Mm fun z=>q (inj _ _ (e2.1.symm.trans z)),h1]
theorem zr7 (inj:∀a b,em a=em b->a=b):∀{ks:List J} {ds:List D} {ys:List (κ×V)} {j:J},ys.map (·.1)=ks.map em->RepL K G (ys.map (·.2)) ds->lR ks ds j=none->eY ys (em j)=none
 |[],_,[],_,_,_,_=>rfl
 |[],_,_::_,_,e,_,_=>by cases e
 |_::_,_,[],_,e,_,_=>by cases e
 |k::ks,[],y::ys,_,_,r,_=>by cases r
 |k::ks,x::ds,y::ys,j,e,⟨z,zs,e1,r1,r2⟩,h=>by
  cases e1;have e2:=List.cons.inj e;unfold lR at h
  by_cases q:k=j
  ·rw[if_pos q]at h;cases h
  ·rw[if_neg q]at h;rw[Mm fun z=>q (inj _ _ (e2.1.symm.trans z)),zr7 inj e2.2 r2 h]
theorem zp7 (inj:∀a b,em a=em b->a=b){ks:List J}{ys:List (κ×V)}{j:J}(e:ys.map (·.1)=ks.map em)(r:RepL K G (ys.map (·.2)) ds):(eY ys (em j)).isSome=(lR ks ds j).isSome:=by
 cases h:lR ks ds j with
 |none=>rw[zr7 inj e r h];rfl
 |some d=>obtain⟨v,h1,_⟩:=Za inj e r h;rw[h1];rfl
theorem Fi (inj:∀a b,em a=em b->a=b){ks:List J}{ys:List (κ×V)}{j:J}{d:D}(e:ys.map (·.1)=ks.map em)(r:RepL K G (ys.map (·.2)) ds)(rv:RepD K G v d):
  (eM ys (em j) v).map (·.1)=(sT ks ds j d).1.map em/\RepL K G ((eM ys (em j) v).map (·.2)) (sT ks ds j d).2:=by
 have any:(ys.any fun kv=>decide (kv.1=em j))=ks.contains j:=by
  clear r
  induction ys generalizing ks with
  |nil=>cases ks with
   |nil=>rfl
   |cons _ _=>cases e
  |cons y ys ih=>cases ks with
   |nil=>cases e
   |cons k ks=>
    have e2:=List.cons.inj e;rw[Ku,ih e2.2,List.contains_cons];congr 1
    by_cases q:j=k
    ·subst q;simp[e2.1]
    ·rw[iQ (fun z=>q (inj _ _ (e2.1.symm.trans z)).symm)];simp[q]
 unfold eM sT;rw[any]
 by_cases q:ks.contains j=true
 ·rw[if_pos q,if_pos q]
  constructor
  ·rw[Ba,<-e];apply Vn;intro a _;simp only[Function.comp]
   split<;>rfl
  ·clear any q;rw[Ba]
   induction ys generalizing ks ds with
   |nil=>cases ks with
    |nil=>exact RepL.nil
    |cons _ _=>cases e
   |cons y ys ih=>cases ks with
    |nil=>cases e
    |cons k ks=>
     have e2:=List.cons.inj e;cases ds with
     |nil=>cases r
     |cons x ds=>
      obtain⟨z,zs,e1,r1,r2⟩:=r;cases e1;refine RepL.cons ?_ (ih e2.2 r2);simp only[Function.comp]
      by_cases q:k=j
      ·rw[if_pos q,if_pos (by rw[<-q];exact e2.1)];exact rv
      ·rw[if_neg q,if_neg fun z=>q (inj _ _ (e2.1.symm.trans z))];exact r1
 ·rw[if_neg q,if_neg q];rw[Lg,Lg,Lg,e];exact⟨rfl,r.append (.cons rv .nil)⟩
end
theorem Zo (a b:Int)(h:kI a=kI b):a=b:=by cases h;rfl
noncomputable def Sl.dic:Sl->Option (List Int×List D)
 | .tre (.dic ks ds)=>some (ks,ds)
 | .val (.dic ks ds)=>some (ks,ds)
 |_=>none
theorem SI.dic (I:SI K B G H σ ρ)(e:ρ[j]? =some s)(h:s.dic=some q):∃p ys,σ[j]? =some (some (.ref p))/\Rd H p (.dK ys)/\ys.map (·.1)=q.1.map kI/\RepL K G (ys.map (·.2)) q.2:=by
 have tr:∀{t:T},s.tree=some t->t= .dic q.1 q.2->∃p ys,σ[j]? =some (some (.ref p))/\Rd H p (.dK ys)/\ys.map (·.1)=q.1.map kI/\RepL K G (ys.map (·.2)) q.2:=fun{t} h1 h2=>by
  subst h2;obtain⟨v,A,k1,k2,_⟩:=I.tree e h1;obtain⟨p,ys,rfl,e2,e3,e4,-⟩:=k2;exact⟨p,ys,k1,.inl e2,e3,e4⟩
 cases s with
 |tre t=>cases t with
  |dic ks ds=>obtain⟨rfl,rfl⟩:=bT h;exact tr rfl rfl
  |_=>exact aM h
 |val d=>cases d with
  |dic ks ds=>
   obtain⟨rfl,rfl⟩:=bT h;obtain⟨v,k1,a,ys,rfl,e2,e3,e4⟩:=I.slot j _ e;exact⟨a,ys,k1,e2.imp (I.fz _ _) fun⟨o,z⟩=>⟨o,I.fz _ _ z⟩,e3,e4⟩
  |_=>exact aM h
 |_=>exact aM h
noncomputable def tDI (j:Nat)(neg:Bool)(mk:ME):MT:=fun ρ=>(mk ρ).bind fun p=>match p.1 with
 | .int k=>(p.2[j]?.bind Sl.dic).map fun q=>(((lR q.1 q.2 k).isSome !=neg),p.2)
 |_=>none
noncomputable def Wn (j:Nat)(mk:ME):ME:=fun ρ=>if(ρ[j]?.bind Sl.dic).isSome then(mk ρ).bind fun p=>match p.1 with
 | .int k=>(p.2[j]?.bind Sl.dic).bind fun q=>(lR q.1 q.2 k).map fun d=>(d,p.2)
 |_=>none else none
noncomputable def sDP (j:Nat)(mk me:ME):MS:=fun ρ=>(me ρ).bind fun p=>if(p.2[j]?.bind Sl.dic).isSome then(mk p.2).bind fun q=>match q.1 with
 | .int k=>q.2[j]?.bind fun s=>match s.tree with
  |some (.dic ks ds)=>if ks.length<16777216 then some (.next,q.2.set j (s.putT (.dic (sT ks ds k p.1).1 (sT ks ds k p.1).2)))else none
  |_=>none
 |_=>none else none
noncomputable def Zv (i:Nat):MS:=fun ρ=>some (.next,ρ.set i (.tre (.dic [] [])))
section
variable {X:Cx} {x:Str} {a e:Expr} {mk me:ME} {pos p' tpos:Pos}
theorem zqP (j:Nat)(hu:X.A.units+64<cLine)(ha:SE X a mk)(hN:autoParam (X.N[j]? =some x) zu3._auto_1)(hv:autoParam (iA X.env.scope x) zu6._auto_1)(hd:autoParam ((x==("__debug__":Str))=false) zu1._auto_1)
  (hcd:autoParam ((x==("__classdict__":Str))=false) zu1._auto_1) (hm:autoParam (behindInMarks .NotIn (.Name x p')=false) zu3._auto_1):STt X (.Compare a [.NotIn] [.Name x p'] pos) (tDI j true mk):=by
 refine ha.el fun t pa sa=>?_
 refine⟨_,Hz (zqC (by lia) pa (jG hN hv hd hcd)) hm,fun B G H σ ρ b ρ' Q I hm k=>?_⟩;refine bP hm fun y ρ1 e1 hm=>?_
 refine sa B G H σ ρ y ρ1 _ I e1 fun G1 H1 v I1 f1 r1=>?_
 cases y<;>try exact aM hm
 rename_i n;refine cW hm fun q e2 e3=>?_
 cases e3;refine bA e2 fun s e4 e5=>?_
 obtain⟨p,ys,k1,k2,k3,k4⟩:=I1.dic e4 e5;refine⟨.ref p,k1,p,eY ys (kI n),rfl,by rw[show v=kV (kI n)from r1];exact .inl ⟨ys,kI n,k2,rfl,rfl⟩,_,rfl,?_⟩;rw[zp7 Zo k3 k4];have:=k G1 H1 I1 f1;simpa using this
theorem wA (j:Nat)(hu:X.A.units+64<cLine)(ha:SE X a mk)(hs:autoParam (Kf a) zu7._auto_1)(hN:autoParam (X.N[j]? =some x) zu3._auto_1)(hv:autoParam (iA X.env.scope x) zu6._auto_1)(hd:autoParam ((x==("__debug__":Str))=false) zu1._auto_1)
  (hcd:autoParam ((x==("__classdict__":Str))=false) zu1._auto_1):SE X (.Subscript (.Name x p') a pos) (Wn j mk):=by
 refine ha.el fun t pa sa=>?_
 refine⟨_,Ah (by lia) (jG hN hv hd hcd) pa hs,fun B G H σ ρ d ρ' Q I hm k=>?_⟩;unfold Wn at hm;refine bJ hm fun hso hm=>?_
 ·skip
  obtain⟨q0,hso⟩:=qaQ.mp hso;refine bA hso fun s0 e0 d0=>?_
  obtain⟨p,ys,k1,_⟩:=I.dic e0 d0;refine bP hm fun y ρ1 e1 hm=>?_
  refine⟨.ref p,k1,sa B G H σ ρ y ρ1 _ I e1 fun G1 H1 v I1 f1 r1=>?_⟩;cases y<;>try exact aM hm
  rename_i n;refine bA hm fun q e2 hm=>?_
  refine cW hm fun d' e3 e4=>?_
  cases e4;refine bA e2 fun s e5 e6=>?_
  obtain⟨p',ys,m1,m2,m3,m4⟩:=I1.dic e5 e6;rw[k1]at m1;cases m1;obtain⟨w,h1,h2⟩:=Za Zo m3 m4 e3;exact⟨p,w,rfl,by rw[show v=kV (kI n)from r1,<-h1];exact .inl ⟨ys,kI n,m2,rfl,rfl⟩,k G1 H1 w I1 f1 h2⟩
theorem Ad (j:Nat)(hu:X.A.units+64<cLine)(he:SE X e me)(ha:SE X a mk)(hN:autoParam (X.N[j]? =some x) zu3._auto_1)(hv:autoParam (iA X.env.scope x) zu6._auto_1)(hd:autoParam ((x==("__debug__":Str))=false) zu1._auto_1)
    (hcd:autoParam ((x==("__classdict__":Str))=false) zu1._auto_1) (hs:autoParam (swapsWith e (some (.Subscript (.Name x p') a tpos)) pos.line X.env=pure false) zu3._auto_1):SS X (.Assign [.Subscript (.Name x p') a tpos] e pos) (sDP j mk me):=by
  refine ha.el fun t pa sa=>?_
  refine he.el fun u pe se=>?_
  refine⟨_,tZ (by lia) (jG hN hv hd hcd) pa pe hs,fun B G H σ ρ fl ρ' E I hm k=>?_⟩;refine bP hm fun d ρ1 e1 hm=>?_
  refine se B G H σ ρ d ρ1 _ I e1 fun G1 H1 v I1 f1 r1=>?_
  refine bJ hm fun hso hm=>?_
  . skip
    obtain⟨q0,hso⟩:=qaQ.mp hso;refine bA hso fun s0 e0 d0=>?_
    obtain⟨p,ys0,k1,_⟩:=I1.dic e0 d0;refine bP hm fun y ρ2 e2 hm=>?_
    refine⟨.ref p,k1,sa B G1 H1 σ ρ1 y ρ2 _ I1 e2 fun G2 H2 w I2 f2 r2=>?_⟩;cases y<;>try exact aM hm
    rename_i n;refine bA hm fun s e3 hm=>?_
    split at hm
    . rename_i ks ds q
      refine bJ hm fun hl hm=>?_
      . skip
        obtain⟨rfl,rfl⟩:=bT hm;obtain⟨v2,A,h1,h2,h3,h4,h5⟩:=I2.tree e3 q;rw[k1]at h1;cases h1;obtain⟨p2,ys,z,g2,g3,g4,rfl⟩:=h2;cases z;have len:ys.length=ks.length:=by have:=congrArg List.length g3;simpa using this
        obtain⟨m1,m2⟩:=Fi Zo (j:=n) g3 g4 (r1.mono f2);have rep:RepT X.K G2 (upd H2 p (.dK (eM ys (kI n) v))) (.ref p) (.dic (sT ks ds n d).1 (sT ks ds n d).2) [p]:=⟨p,_,rfl,gK,m1,m2,rfl⟩;refine⟨p,_,rfl,by rw[show w=kV (kI n)from r2];exact DPut.k g2 (by rw[len,iL];exact hl),?_⟩;exact k G2 _ σ (I2.chT e3 q k1 ⟨p,ys,rfl,g2,g3,g4,rfl⟩ (I2.fz.right (h4 p (by simp)) _) (fun b o n h=>by rw[cF (fun z=>n (by simp[z]))];exact h) (fun b h=>by
          by_cases z:b=p
          . subst z;rw[gK]at h;cases h
          . rw[cF z]at h;exact h) rep (by simp) (fun a m=> .inl m)) (f1.trans f2)
    . exact aM hm
theorem xW (i:Nat)(hN:X.N.Nodup)(hi:autoParam (X.N[i]? =some x) zu3._auto_1)(hx:autoParam (iP X.env.scope x) zu6._auto_1)(hs:autoParam (swapsWith (.Dict [] [] tpos) (some (.Name x p')) pos.line X.env=pure false) zu3._auto_1)
    (hf:autoParam (X.fn x=true\/X.env.scope.names.lookup x=some .local) zu6._auto_1):SS X (.Assign [.Name x p'] (.Dict [] [] tpos) pos) (Zv i):=by
  refine⟨_,Xw hN hi hx pS hs hf,fun B G H σ ρ fl ρ' E I hm k=>?_⟩;obtain⟨rfl,rfl⟩:=bT hm;intro p hp;have nw:Nw X.K G (upd H p (.dK [])) σ ρ p:=I.nw_move (I.nw hp) fun i s a _ _ g h=>⟨g,cF fun z=>h (by rw[z];exact hp)⟩
  exact k G _ _ ((I.allocO hp _).setT (A:=[p]) ⟨p,[],rfl,gK,rfl,RepL.nil,rfl⟩ (by simp) (fun a m=>by
    have:a=p:=by simpa using m
    subst this;exact⟨I.fz.free hp,I.there a hp,nw⟩)) (Fz.refl G)
end
noncomputable def fzD (j:Nat)(ρ:R):R:=match ρ[j]? with
 |some (.tre (.dic ks ds))=>ρ.set j (.val (.dic ks ds))
 |_=>ρ
noncomputable def Je (j:Nat)(m:MS):MS:=fun ρ=>m (fzD j ρ)
theorem SI.fzD (I:SI K B G H σ ρ)(j:Nat):∃G',SI K B G' H σ (fzD j ρ)/\Fz G G':=by
 unfold M.fzD
 split
 ·rename_i ks ds e;obtain⟨v,A,h1,⟨p,ys,rfl,h2,h3,h4,rfl⟩,h5,h6⟩:=I.slot j _ e;have g:=(h6 p (by simp)).1;have fz:=Fz.new g (.dK ys);refine⟨upd G p (.dK ys),?_,fz⟩;have h:=I.chg (i:=j) (ov:=some (.ref p)) (s':= .val (.dic ks ds)) (G':=upd G p (.dK ys)) (H':=H) (fun a u q=>?_) fz (fun b u q=>?_) I.keep I.there (fun i t a z ei w g _=>⟨?_,rfl,id⟩) ⟨.ref p,rfl,p,ys,rfl,.inl gK,h3,h4.mono fz⟩
  ·rwa[Ld h1]at h
  ·by_cases z:a=p
   ·subst z;rw[gK]at q;cases q;exact h2
   ·rw[cF z]at q;exact I.fz a u q
  ·by_cases z:b=p
   ·subst z;exact .inr (h6 b (by simp)).2
   ·rw[cF z]at q;exact I.new b u q
  ·rw[cF (fun q=>by subst q;exact I.dis i j t _ a z ei e w ⟨_,_,h1,⟨a,ys,rfl,h2,h3,h4,rfl⟩,by simp⟩)];exact g
 ·exact⟨G,I,Fz.refl G⟩
theorem Gv {X:Cx}{st:Stmt}{m:MS}(j:Nat)(h:SS X st m):SS X st (Je j m):=by
 refine h.el fun t p s=>?_
 refine⟨t,p,fun B G H σ ρ fl ρ' E I hm k=>?_⟩;obtain⟨G',I',f⟩:=I.fzD j;exact s B G' H σ _ fl ρ' E I' hm (k.mono f)
noncomputable def uB (F:List D->List D->Option (Sl×List D))(mo:MO)(ma:MA):ME:=fun ρ=>(mo ρ).bind fun p=>(ma p.2).bind fun q=>(F p.1 q.1).bind fun r=>match r.1 with
 | .val d=>some (d,q.2)
 | .own ds=>some (.lst ds,q.2)
 |_=>none
end M
namespace HT
open L2 PyProof.Rows PySem PySem.Spec
section
variable {prog:Program} {w:World} {A:Around} {E:Value->Shared->Prop} {I:Addr} {fp wr:List Addr} {n:Nat} {St:Nat->Heap->Prop}
theorem zmW {its:List Value}(W:Walks prog w A I fp wr n (fun i v=>its[i]? =some v) St):∀(m i:Nat) (s:Shared) (Q:List Value->Shared->Prop),i+m<=n->St i s.heap->
  (∀h' tk,St (i+m) h'->(∀b o,b∉wr->s.heap.get? b=some o->h'.get? b=some o)->Q ((its.drop i).take m) {s with heap:=h',toks:=tk})->wpAny (model prog w) A (draw (.ref I) m) Q E s
 |0,i,s,Q,_,st,hq=>qaz (by simpa using hq s.heap s.toks st fun _ _ _ e=>e)
 |m+1,i,s,Q,hi,st,hq=>by
  show wpAny _ _ (pyNext (.ref I)>>=_) Q E s;refine aL (W.item i s _ _ (by lia) st fun v h1 tk1 hv st1 k1=>?_);refine aL (jL (zmW W m (i+1) _ _ (by lia) st1 fun h2 tk2 st2 k2=>qaz ?_));have:=hq h2 tk2 (by rw[show i+(m+1)=i+1+m by lia];exact st2) fun b o nb e=>k2 b o nb (k1 b o nb e)
  obtain⟨hl,ev⟩:=qap.mp hv;rw[qbI hl,List.take_succ_cons,ev]at this;exact this
end
end HT
namespace L2
open PyProof.Rows PySem PySem.Spec
variable {X:Cx} {pos:Pos}
noncomputable def Nf (K:W.Frag)(n:Nat)(t:nO):TG:=fun v σ H Q=>∃a xs,v= .ref a/\SqL K H a xs/\xs.length=n/\t xs σ H Q
theorem wG {es:List Expr}{k:Nat}{t:nO}{n:Nat}(hc:X.calm=true)(h:Bu X es t)
  (hn:autoParam ((assignEach es X.env).length=n) zu3._auto_1) (hst:autoParam ((assignEach es X.env).findIdx? (·.1)=none) zu3._auto_1):PG X (.Tuple es k pos) (Nf X.K n t):=by
 intro pins s σ H v u Q I r hw;obtain⟨a,xs,e1,hq,hl,hw⟩:=hw;subst e1;cases r;obtain⟨its0,rv0,pl,hz⟩:=I.list hq;rw[assign_Tuple];refine aL (Ny ?_);unfold unpack;rw[hst,hn];refine aL (jL ?_);unfold unpackItems;refine aL ?_;unfold notIterableAtAll;refine aL (wpAny_specialOf pl.isList.typeIs PySem.F.slot_list_iter.lookup ?_);refine qaz ?_;simp only[Ja,iK];refine aL (jL (M.Fy (A:=X.A) (I.ok.hd hc) I (.inl hq) fun its s₂ St rv W st hfp fin=>?_));have ln:its.length=n:=by rw[<-rv.length,hl]
 refine aL (jL (HT.zmW W n 0 s₂ _ (by lia) st fun h1 tk1 st1 k1=>?_));have hall:List.take n (List.drop 0 its)=its:=by rw[Wc];exact xO (by lia)
 rw[hall,if_neg (by lia)];refine aL (jL (W.done _ _ _ (by rw[ln,<-lD n];exact st1) fun h2 tk2 k2=>?_));simp only[Option.isSome_none,Ja,iK];refine qaz ?_;exact h pins _ σ H xs _ Q (fin h2 tk2 fun b o nb e=>k2 b o nb (k1 b o nb e)) rv hw
end L2
namespace M
open L2 PySem PySem.Spec
open PyProof.Rows hiding St
noncomputable def Ch.sl:Ch->Sl
 | .d x=> .val x
 | .l ds=> .own ds
 | .t xss=> .tre (.lst (xss.map .l))
theorem Bt {K:W.Frag}{G H:Hp}:∀{xs:List V} {dss:List (List D)} {A:List Addr},RepTb K G H xs dss A->RepCs K G H xs (dss.map .l) A
 |[],[],_,h=>h
 |x::xs,ds::dss,_,⟨r,ys,A2,e1,e2,e3,e4,e5⟩=>⟨[r],A2,⟨r,ys,e1,e2,e3,rfl⟩,Bt e4,e5⟩
 |[],_::_,_,h=>h.elim
 |_::_,[],_,h=>h.elim
noncomputable def Mj:List Nat->List Ch->R->R
 |i::is,c::cs,ρ=>Mj is cs (ρ.set i c.sl)
 |_,_,ρ=>ρ
noncomputable def yL (j:Nat)(is:List Nat):MS:=fun ρ=>match ρ[j]? with
 |some (.tre (.lst cs))=>if cs.length=is.length then some (.next,Mj is cs (ρ.set j .emp))else none
 |_=>none
section
variable {K:W.Frag} {B:Bs} {G H:Hp}
noncomputable def Wt:List Nat->nO
 |[]=>Pa
 |i::is=>Cm (mX i) (Wt is)
theorem nM:∀{is:List Nat} {cs:List Ch} {xs:List V} {A:List Addr} {σ:St} {ρ:R} {Q:St->Hp->Prop},SI K B G H σ ρ->RepCs K G H xs cs A->A.Nodup->(∀a∈A,G a=none/\B.H a=none/\Nw K G H σ ρ a)->cs.length=is.length->(∀σ',SI K B G H σ' (Mj is cs ρ)->Q σ' H)->Wt is xs σ H Q
 |[],[],[],_,σ,ρ,Q,I,_,_,_,_,k=>⟨rfl,k σ I⟩
 |[],_::_,_,_,_,_,_,_,_,_,_,h,_=>by cases h
 |_::_,[],_,_,_,_,_,_,_,_,_,h,_=>by cases h
 |[],[],_::_,_,_,_,_,_,r,_,_,_,_=>r.elim
 |i::is,c::cs,[],_,_,_,_,_,r,_,_,_,_=>r.elim
 |i::is,c::cs,x::xs,A,σ,ρ,Q,I,⟨A1,A2,r1,r2,e⟩,nd,hA,hl,k=>by
  subst e;refine⟨x,xs,rfl,?_⟩;have nd2:=(List.nodup_append.mp nd);have fin:∀s,SI K B G H (σ.set i (some x)) (ρ.set i s)->s=c.sl->(∀a∈A2,¬eZ K G H (some (some x)) a s)->Wt is xs (σ.set i (some x)) H Q:=fun s I' es no=>by
   subst es;refine nM I' r2 nd2.2.1 (fun a m=>?_) (by simpa using hl) k;have h:=hA a (jK _ m);refine⟨h.1,h.2.1,fun j t et w=>?_⟩
   by_cases z:j=i
   ·subst z;rw[tJ,if_pos rfl]at et w
    split at et
    ·cases et
     split at w
     ·exact no a m w
     ·rename_i q1 q2;exact q2 (by rw[I.len];exact q1)
    ·exact aM et
   ·rw[tO (Ne.symm z)]at et w;exact h.2.2 j t et w
  cases c with
  |d y=>exact fin _ (I.set r1.1) rfl fun a _ w=>w
  |l ds=>
   obtain⟨l,ys,rfl,h1,h2,rfl⟩:=r1;have h:=hA l (Lv _ (by simp));refine fin _ (I.setO h.1 h1 h2 h.2.1 h.2.2) rfl fun a m w=>?_
   cases(show some (some (V.ref l))=some (some (.ref a))from w);exact nd2.2.2 l (by simp) l m rfl
  |t xss=>
   obtain⟨p,ys,A',rfl,h1,h2,rfl⟩:=r1;have rt:RepT K G H (.ref p) (.lst (xss.map .l)) (p::A'):=⟨p,ys,A',rfl,h1,Bt h2,rfl⟩;refine fin _ (I.setT rt nd2.1 fun a m=>hA a (Lv _ m)) rfl fun a m w=>?_
   obtain⟨v2,A3,w1,w2,w3⟩:=w;cases w1;rw[w2.det rt fun _ _=>rfl]at w3;exact nd2.2.2 a w3 a m rfl
end
section
variable {X:Cx} {pos:Pos}
noncomputable def zr2 (X:Cx):List Nat->List Expr->Prop
 |[],[]=>True
 |i::is,.Name x _::es=>X.N[i]? =some x/\iP X.env.scope x/\(X.fn x=true\/X.env.scope.names.lookup x=some .local)/\zr2 X is es
 |_,_=>False
theorem znb (hN:X.N.Nodup):∀{is:List Nat} {es:List Expr},zr2 X is es->Bu X es (Wt is)
 |[],[],_=>zp6
 |i::is,.Name x p::es,⟨h1,h2,h3,h4⟩=>zpl (zoi hN h1 h2 h3) (znb hN h4)
theorem Ds (j:Nat)(is:List Nat){x:Str}{es:List Expr}{k:Nat}{p' tp:Pos}(hc:X.calm=true)(hN:X.N.Nodup)(hn:zr2 X is es)(hi:autoParam (X.N[j]? =some x) zu3._auto_1)(hv:autoParam (iA X.env.scope x) zu6._auto_1)(hd:autoParam ((x==("__debug__":Str))=false) zu1._auto_1)
  (hcd:autoParam ((x==("__classdict__":Str))=false) zu1._auto_1) (hl:autoParam ((assignEach es X.env).length=is.length) zu3._auto_1) (hst:autoParam ((assignEach es X.env).findIdx? (·.1)=none) zu3._auto_1) (hs:autoParam (swapsWithSole [.Tuple es k tp] (.Name x p') pos.line X.env=pure false) zu3._auto_1) (hw:autoParam (swappedStores [.Tuple es k tp] (.Name x p') X.env=pure none) zu3._auto_1)
  (h1:autoParam ((assignEach [.Tuple es k tp] X.env).map (·.2)=[assign (.Tuple es k tp) X.env]) zu3._auto_1):SS X (.Assign [.Tuple es k tp] (.Name x p') pos) (yL j is):=by
 refine⟨_,zqd (jG hi hv hd hcd) (wG hc (znb hN hn) hl hst) hs hw h1,fun B G H σ ρ fl ρ' E I hm k=>?_⟩;unfold yL at hm
 split at hm
 ·rename_i cs e;refine bJ hm fun hlen hm=>?_
  ·skip
   obtain⟨rfl,rfl⟩:=bT hm;obtain⟨v,A,k1,k2,k3,k4⟩:=I.slot j _ e;have k2':=k2;obtain⟨p,xs,A',rfl,h2,h3,rfl⟩:=k2;have ln:∀{xs:List V} {cs:List Ch} {A:List Addr},RepCs X.K G H xs cs A->xs.length=cs.length:=by
    intro xs
    induction xs with
    |nil=>intro cs A r;cases cs with
     |nil=>rfl
     |cons _ _=>exact r.elim
    |cons x xs ih=>intro cs A r;cases cs with
     |nil=>exact r.elim
     |cons c cs=>obtain⟨_,_,_,r2,_⟩:=r;rw[eU,eU,ih r2]
   refine⟨.ref p,k1,p,xs,rfl,SqL.of h2,by rw[ln h3,hlen],?_⟩;refine nM (I.emp j) h3 (qaP.mp k3).2 (fun a m=>⟨(k4 a (by simp[m])).1,(k4 a (by simp[m])).2,fun i s es w=>?_⟩) hlen fun σ' I'=>k G H σ' I' (Fz.refl G)
   by_cases z:i=j
   ·subst z;rw[tJ,if_pos rfl]at es
    split at es
    ·cases es;exact w
    ·exact aM es
   ·rw[tO (Ne.symm z)]at es;exact I.dis i j s _ a z es e w ⟨.ref p,_,k1,k2',by simp[m]⟩
 ·exact aM hm
end
end M
namespace M
open L2 PySem PySem.Spec
open PyProof.Rows hiding St
variable {H:Hp} {A:List Addr} {b l f:Addr} {K:W.Frag} {N:List Str} {xs vs ys:List V} {cs ds:List D} {x:Str} {fd:FuncData} {n:Nat} {es:List Expr} {C:Prop}
open Classical in
noncomputable def iB (H:Hp)(A:List Addr):Hp:=fun b=>if b∈A then none else H b
theorem zl3 (h:b∈A):iB H A b=none:=by unfold iB;rw[if_pos h]
theorem Iw (h:b∉A):iB H A b=H b:=by unfold iB;rw[if_neg h]
theorem zjL (h:iB H A b=none):H b=none\/b∈A:=by
 by_cases m:b∈A
 ·exact .inr m
 ·rw[Iw m]at h;exact .inl h
theorem zpV {o:HO}(h:iB H A b=some o):H b=some o/\b∉A:=by
 by_cases m:b∈A
 ·rw[zl3 m]at h;exact aM h
 ·rw[Iw m]at h;exact⟨h,m⟩
noncomputable def lN (K:W.Frag)(n:Nat)(F:List D->T->List D->Option (Sl×List D)):Sp:=fun vs H Q _=>∃G l xs cs v2 t A ws ds r out,vs= .ref l::v2::ws/\F cs t ds=some (r,out)/\ds.length+2=n/\Fz G H/\G l=none/\H l=some (.lst xs)/\RepL K G xs cs/\RepT K G H v2 t A/\A.Nodup/\l∉A/\(∀a∈A,G a=none)/\RepL K G ws ds/\
 ∀G' H' v ys,Fz G G'->Fz G' H'->(∀b o,G' b=some o->G b≠none\/iB H A b=none)->(∀b o,b≠l->iB H A b=some o->H' b=some o)->G' l=none->H' l=some (.lst ys)->RepL K G' ys out->jU K G' H' (iB H A) v r->Q v H'
noncomputable def Wp (N:Nat)(m:MS):List D->T->List D->Option (Sl×List D):=fun cs t ds=>(m (.par cs:: .tre t::(ds.map .val++List.replicate (N-(ds.length+2)) .emp))).bind fun p=>match p.1,(p.2[0]?:Option Sl)with
 |Fl.ret r,some (Sl.par out)=>some (r,out)
 |Fl.next,some (Sl.par out)=>some (.val .non,out)
 |_,_=>none
theorem SI.startMT {G H:Hp}{v2:V}{t:T}(fz:Fz G H)(hg:G l=none)(hl:H l=some (.lst xs))(rc:RepL K G xs cs)(rt:RepT K G H v2 t A)(nd:A.Nodup)(nl:l∉A)(gA:∀a∈A,G a=none)(r:RepL K G vs ds)(h:ds.length+2<=N.length):
  SI K ⟨G,iB H A,[(0,l)]⟩ G H (L2.start N (.ref l::v2::vs)) (.par cs:: .tre t::(ds.map .val++List.replicate (N.length-(ds.length+2)) .emp)) where
 fz:=fz
 g0:=Fz.refl G
 new:=fun b o e=> .inl (by show G b≠none;rw[e];simp)
 keep:=fun b o e _=>(zpV e).1
 there:=fun b e=>by
  show iB H A b=none
  by_cases m:b∈A
  ·exact zl3 m
  ·rw[Iw m];exact e
 ob:=fun i b m=>by
  have:b=l:=((by simpa using m):i=0/\b=l).2;subst this;show iB H A b≠none;rw[Iw nl,hl];simp
 len:=by
  have:=r.length;rw[zkU (by rw[eU,eU,r.length];lia),eU,eU,iC,eL,Oa];lia
 slot:=fun i s e=>by
  match i with
  |0=>simp at e;subst e;exact⟨l,xs,rfl,hg,hl,rc,by simp⟩
  |1=>simp at e;subst e;exact⟨v2,A,rfl,rt,nd,fun a m=>⟨gA a m,zl3 m⟩⟩
  |i+2=>
   rw[uQ,uQ]at e
   by_cases hi:i<ds.length
   ·rw[jS (by simpa using hi),fJ,cG hi]at e;cases e;obtain⟨x,h1,h2⟩:=r.get (cG hi);refine⟨x,?_,h2⟩;unfold L2.start;rw[jW,jW,Uo,Uo,uQ,uQ,jS (by rw[eL,r.length];exact hi),fJ,h1]
    rfl
   ·rw[qT (by simpa using hi),vK]at e
    split at e
    ·cases e;trivial
    ·exact aM e
 dis:=fun i j s u a hij hi hj w1 w2=>by
  have z:∀(i:Nat) (s:Sl),(Sl.par cs::Sl.tre t::(ds.map .val++List.replicate (N.length-(ds.length+2)) .emp))[i]? =some s->eZ K G H (L2.start N (.ref l::v2::vs))[i]? a s->(i=0/\a=l)\/(i=1/\a∈A):=fun i s e q=>by
   match i with
   |0=>
    simp at e;subst e;refine .inl ⟨rfl,?_⟩;have q':=show(L2.start N (V.ref l::v2::vs))[0]? =some (some (.ref a))from q
    cases(show some (some (V.ref l))=some (some (.ref a))from q')
    rfl
   |1=>
    simp at e;subst e;obtain⟨v,A',q1,q2,q3⟩:=q;cases(show some (some v2)=some (some v)from q1);rw[<-rt.det q2 fun _ _=>rfl]at q3;exact .inr ⟨rfl,q3⟩
   |i+2=>
    exfalso;rw[uQ,uQ]at e
    by_cases hi:i<ds.length
    ·rw[jS (by simpa using hi),fJ,cG hi]at e;cases e;exact q
    ·rw[qT (by simpa using hi),vK]at e
     split at e
     ·cases e;exact q
     ·exact aM e
  rcases z i s hi w1 with⟨a1,a2⟩|⟨a1,a2⟩<;>rcases z j u hj w2 with⟨b1,b2⟩|⟨b1,b2⟩
  ·exact hij (a1.trans b1.symm)
  ·subst a2;exact nl b2
  ·subst b2;exact nl a2
  ·exact hij (a1.trans b1.symm)
section
variable {P:Program} {w:World} {K:W.Frag} {mg:Str->Option Value} {base:Heap}
theorem vA {x qual:Str}{st:Stmt}{N ps:List Str}{k n:Nat}{m:MS}(F:Fun K x qual st f fd)(S:FnScope N ps (zaM st))(hn:ps.length=n)(hN:n<=N.length)
  (body:∀(cdv:Value) (A:Around) (outer:List Env) (s:Shared) (H:Hp) (E:XK),Room k (A.deeper (envOfC qual (zaM st) s.heap.objs.size f cdv))->SSs (fD jF P w K mg base N qual (zaM st) f cdv A outer s H E).nox (zct st) m):
  FnOk P w K mg base jF (k+1) f fd ps (lN K n (Wp N.length m)):=by
 refine F.ok S (fun vs H Q E h=>?_) (fun cdv A outer s H vs Q E hr h=>?_)
 ·obtain⟨G,l,xs,cs,v2,t,A,ws,ds,r,out,rfl,_,h2,_,_,_,_,_,_,_,_,h4,_⟩:=h;rw[eU,eU,h4.length,<-hn]at*;lia
 ·obtain⟨G,l,xs,cs,v2,tt,At,ws,ds,r,out,rfl,e1,h2,fz,hg,hl,rc,rt,nd,nl,gA,h4,kk⟩:=h;obtain⟨t,pt,so⟩:=body cdv A outer s H E hr;refine⟨t,pt,?_⟩;refine bP e1 fun fl ρ' e2 e3=>?_
  refine so ⟨G,iB H At,[(0,l)]⟩ G H _ _ fl ρ' _ (SI.startMT fz hg hl rc rt nd nl gA h4 (by lia)) e2 ?_;have fin:∀G' H' σ' v,ρ'[0]? =some (.par out)->SI K ⟨G,iB H At,[(0,l)]⟩ G' H' σ' ρ'->Fz G G'->jU K G' H' (iB H At) v r->Q v H':=fun G' H' σ' v e0 I f rr=>by
   obtain⟨l',ys,k1,k2,k3,k4,k5⟩:=I.slot 0 _ e0;have:l'=l:=by simpa using k5
   subst this;exact kk G' H' v ys f I.fz I.new (fun b o hb e=>I.keep b o e (fun i hm=>by simp at hm;exact hb hm.2)) k2 k3 k4 rr
  cases e0:ρ'[0]? with
  |none=>rw[e0]at e3;cases fl<;>exact aM e3
  |some s0=>
   rw[e0]at e3;cases s0 with
   |par o2=>
    cases fl with
    |next=>obtain⟨rfl,rfl⟩:=bT e3;exact fun G' H' σ' I f=>fin G' H' σ' .non e0 I f rfl
    |brk=>exact aM e3
    |cont=>exact aM e3
    |ret r'=>
     cases e3;refine fun G' H' σ' v I f rr=>fin G' H' σ' v e0 I f ?_
     cases r with
     |val d=>exact rr
     |own ds=>exact rr
     |_=>exact rr
   |_=>cases fl<;>exact aM e3
end
noncomputable abbrev kS:=R->Option (List Ch×R)
noncomputable def Pv (X:Cx)(es:List Expr)(m:kS)(t:TA):Prop:=
 ∀B G H σ ρ cs ρ' (Q:List V->Hp->Prop),SI X.K B G H σ ρ->m ρ=some (cs,ρ')->
  (∀G' H' vs A,SI X.K B G' H' σ ρ'->Fz G G'->RepCs X.K G' H' vs cs A->A.Nodup->(∀a∈A,G' a=none/\B.H a=none/\Nw X.K G' H' σ ρ' a)->Q vs H')->t σ H Q
noncomputable def SP' (X:Cx)(es:List Expr)(m:kS):Prop:=∃t,PA X es t/\Pv X es m t
theorem SP'.el {X:Cx}{m:kS}(h:SP' X es m)(k:∀t,PA X es t->Pv X es m t->C):C:=h.elim fun t q=>k t q.1 q.2
noncomputable def Ft:kS:=fun ρ=>some ([],ρ)
noncomputable def Ec (m:ME)(r:kS):kS:=fun ρ=>(m ρ).bind fun p=>(r p.2).map fun q=>(.d p.1::q.1,q.2)
noncomputable def lJ (i:Nat)(r:kS):kS:=fun ρ=>match ρ[i]? with
 |some (.own ds)=>(r (ρ.set i .emp)).map fun q=>(.l ds::q.1,q.2)
 |_=>none
section
variable {X:Cx} {e:Expr} {es:List Expr} {m:ME} {r:kS}
theorem Gd:SP' X [] Ft:=⟨_,As,fun B G H σ ρ cs ρ' Q I hm k=>by cases hm;exact k G H [] [] I (Fz.refl G) rfl (by simp) (fun a m=>by cases m)⟩
theorem Ji (h:SE X e m)(hr:SP' X es r)(hs:autoParam (starEach (e::es) X.env=(false,eval e X.env)::starEach es X.env) zu3._auto_1):SP' X (e::es) (Ec m r):=by
 refine h.el fun t p s=>?_
 refine hr.el fun u q z=>?_
 refine⟨_,lS p q hs,fun B G H σ ρ cs ρ' Q I hm k=>?_⟩;refine bP hm fun d ρ1 e1 hm=>?_
 refine iJ hm fun cs1 ρ2 e2 e3=>?_
 cases e3;refine s B G H σ ρ d ρ1 _ I e1 fun G1 H1 v I1 f1 r1=>z B G1 H1 σ ρ1 cs1 ρ2 _ I1 e2 fun G2 H2 vs A I2 f2 r2 nd hA=>?_
 exact k G2 H2 (v::vs) A I2 (f1.trans f2) ⟨[],A,⟨r1.mono f2,rfl⟩,r2,rfl⟩ nd hA
theorem Zd (i:Nat){p':Pos}(hr:SP' X es r)(hN:autoParam (X.N[i]? =some x) zu3._auto_1)(hv:autoParam (iA X.env.scope x) zu6._auto_1)(hd:autoParam ((x==("__debug__":Str))=false) zu1._auto_1)
  (hcd:autoParam ((x==("__classdict__":Str))=false) zu1._auto_1) (hs:autoParam (starEach (.Name x p'::es) X.env=(false,eval (.Name x p') X.env)::starEach es X.env) zu3._auto_1):SP' X (.Name x p'::es) (lJ i r):=by
 refine hr.el fun u q z=>?_
 refine⟨_,lS (jG hN hv hd hcd) q hs,fun B G H σ ρ cs ρ' Q I hm k=>?_⟩;unfold lJ at hm
 split at hm
 ·rename_i ds e;refine iJ hm fun cs1 ρ1 e1 e2=>?_
  cases e2;obtain⟨l,xs,h1,h2,h3,h4,h5⟩:=I.slot i _ e;have I1:=I.emp i;have n1:Nw X.K G H σ (ρ.set i .emp) l:=fun j s ej w=>by
   by_cases y:j=i
   ·subst y;rw[tJ,if_pos rfl]at ej
    split at ej
    ·cases ej;exact w
    ·exact aM ej
   ·rw[tO (Ne.symm y)]at ej;exact I.dis j i s _ l y ej e w h1
  refine⟨.ref l,h1,z (B.re X.K G H σ (ρ.set i .emp)) G H σ _ cs1 ρ1 _ I1.re e1 fun G1 H1 vs A J f1 r1 nd hA=>?_⟩;obtain⟨m1,m2,m3⟩:=I1.re_stays J h3 n1 h2 h5;have hb:(B.re X.K G H σ (ρ.set i .emp)).H l=some (.lst xs):=zqh h3 n1;have nl:l∉A:=fun m=>by rw[(hA l m).2.1]at hb;exact aM hb
  refine k G1 H1 (.ref l::vs) (l::A) (I1.unre J) f1 ⟨[l],A,⟨l,xs,rfl,m1,h4.mono f1,rfl⟩,r1,rfl⟩ (qaP.mpr ⟨nl,nd⟩) fun a m=>?_
  rcases qam.mp m with rfl|m
  ·exact⟨m2,h5,m3⟩
  ·exact⟨(hA a m).1,Ly I1 (hA a m).2.1,(hA a m).2.2⟩
 ·exact aM hm
end
theorem SI.chgW2 {B:Bs}{G G' H H':Hp}{σ:St}{ρ:R}(I:SI K B G H σ ρ){i:Nat}{s:Sl}{ds es:List D}(e:ρ[i]? =some s)(q:s.items=some ds)(hl:σ[i]? =some (some (.ref l)))(fz:Fz G' H')(fg:Fz G G')(nw:∀b o,G' b=some o->G b≠none\/iB H A b=none)
  (kp:∀b o,b≠l->iB H A b=some o->H' b=some o) (gl:G' l=none) (hl':H' l=some (.lst ys)) (r:RepL K G' ys es) (hA:∀a∈A,B.H a=none/\Nw K G H σ ρ a):
  SI K B G' H' σ (ρ.set i (s.put es))/\∀p,iB H A p=none->B.H p=none/\Nw K G' H' σ (ρ.set i (s.put es)) p:=by
 obtain⟨l',xs,e1,e2,e3,e4⟩:=I.wr e q;rw[hl]at e1;cases e1;have sl:=I.slot i s e;have ow:∀(j:Nat) (t:Sl) (a:Addr),j≠i->ρ[j]? =some t->eZ K G H σ[j]? a t->G a=none->H a≠none->G' a=none/\H' a=H a:=fun j t a z ej w g ha=>by
  have na:a≠l:=fun w'=>by subst w';exact I.dis j i t s a z ej e w ((mJ q).mpr hl)
  have nA:a∉A:=fun m=>(hA a m).2 j t ej w
  obtain⟨u,hu⟩:=qby.mp ha;refine⟨?_,(kp a u na (by rw[Iw nA];exact hu)).trans hu.symm⟩;cases q2:G' a with
  |none=>rfl
  |some u=>
   rcases nw a u q2 with z|z
   ·exact absurd g z
   ·rw[Iw nA]at z;exact absurd z ha
 have bn:∀b,iB H A b=none->B.H b=none:=fun b h=>by
  rcases zjL h with z|z
  ·exact I.there b z
  ·exact(hA b z).1
 refine⟨?_,fun p hp=>⟨bn p hp,fun j t ej w=>?_⟩⟩
 ·have nb:∀b o,B.H b=some o->(∀i,(i,b)∉B.O)->b≠l:=fun b o h1 h2 z=>by
   subst z;rcases(sl.own ((mJ q).mpr hl)).2.2 with z|z
   ·rw[h1]at z;cases z
   ·exact h2 i z
  have h:=I.chg (i:=i) (ov:=some (.ref l)) (s':=s.put es) (G':=G') (H':=H') fz fg (fun b o k=>?_) (fun b o k1 k2=>kp b o (nb b o k1 k2) (by rw[Iw fun m=>by rw[(hA b m).1]at k1;cases k1];exact I.keep b o k1 k2)) (fun b k=>?_) (fun j t a z ej w g ha=>⟨(ow j t a z ej w g ha).1,(ow j t a z ej w g ha).2,fun z'=>?_⟩) ?_
  ·rwa[Ld hl]at h
  ·rcases nw b o k with h|h
   ·cases q2:G b with
    |none=>exact absurd q2 h
    |some u=>exact I.new b u q2
   ·exact .inr (bn b h)
  ·by_cases z:b=l
   ·subst z;rw[hl']at k;cases k
   ·refine bn b ?_;cases q2:iB H A b with
    |none=>rfl
    |some u=>rw[kp b u z q2]at k;cases k
  ·cases(mJ (Wx q es)).mp z';exact I.dis j i t s l z ej e w ((mJ q).mpr hl)
  ·cases s with
   |own es'=>obtain⟨l',xs',k1,k2,k3,k4,k5⟩:=sl;rw[hl]at k1;cases k1;exact⟨_,ys,rfl,gl,hl',r,k5⟩
   |par es'=>obtain⟨l',xs',k1,k2,k3,k4,k5⟩:=sl;rw[hl]at k1;cases k1;exact⟨_,ys,rfl,gl,hl',r,k5⟩
   |_=>cases q
 ·by_cases z:j=i
  ·subst z;rw[tJ,if_pos rfl]at ej
   split at ej
   ·cases ej;have h1:=(mJ (Wx q es)).mp w;rw[hl]at h1;have:l=p:=V.ref.inj (Option.some.inj (Option.some.inj h1));subst this;rcases zjL hp with z|z
    ·rw[e3]at z;cases z
    ·exact(hA l z).2 j s e ((mJ q).mpr hl)
   ·cases ej
  ·rw[tO (Ne.symm z)]at ej;have sj:=I.slot j t ej;have w0:=sj.back (fun a w g h=>ow j t a z ej w g h) w;rcases zjL hp with y|y
   ·exact(sj.own w0).2.1 y
   ·exact(hA p y).2 j t ej w0
noncomputable def Vh (F:List D->T->List D->Option (Sl×List D))(j:Nat)(mp:kS)(ma:MA):ME:=fun ρ=>if(ρ[j]?.bind Sl.items).isSome then(mp ρ).bind fun c=>if c.1.length<=16777216 then(ma c.2).bind fun p=>p.2[j]?.bind fun s=>s.items.bind fun cs=>(F cs (.lst c.1) p.1).bind fun r=>match r.1 with
 | .val d=>some (d,p.2.set j (s.put r.2))
 | .own ds=>some (.lst ds,p.2.set j (s.put r.2))
 |_=>none else none else none
section
variable {X:Cx} {x y:Str} {p py pl pos:Pos} {es es':List Expr} {mp:kS} {ma:MA} {k k' n:Nat} {F:List D->T->List D->Option (Sl×List D)}
theorem zqw (j:Nat)(fd:FD X.prog X.w X.K X.mg X.base k x (lN X.K n F))(hr:Room k' X.A)(hp:SP' X es mp)(ha:SA X es' ma)(hlen:∀ρ as ρ',ma ρ=some (as,ρ')->as.length+2=n)(hN:autoParam (X.N[j]? =some y) zu3._auto_1)(hv:autoParam (iA X.env.scope y) zu6._auto_1)(hd:autoParam ((y==("__debug__":Str))=false) zu1._auto_1)
  (hcd:autoParam ((y==("__classdict__":Str))=false) zu1._auto_1) (hk:autoParam (k<=k') zu1._auto_1) (hg:autoParam (Gl X x) zu3._auto_1) (hdb:autoParam ((x==("__debug__":Str))=false) zu1._auto_1)
  (he:autoParam (starEach (.Name y py:: .List es pl::es') X.env=(false,eval (.Name y py) X.env)::starEach (.List es pl::es') X.env) zu3._auto_1) (he2:autoParam (starEach (.List es pl::es') X.env=(false,eval (.List es pl) X.env)::starEach es' X.env) zu3._auto_1) (hpl:autoParam ((backTo pos (starEach (.List es pl::es') X.env)).any (·.1)=false) zu3._auto_1):SE X (.Call (.Name x p) (.Name y py:: .List es pl::es') [] pos) (Vh F j mp ma):=by
 obtain⟨f,fdd,ps,G0,h1,h2,h3⟩:=fd.ex;refine ha.el fun t pa sa=>?_
 refine hp.el fun tp pp sp=>?_
 refine⟨_,Ui G0 (hr.mono hk) hg h1 h2 h3 .nil kJ (lS (jG hN hv hd hcd) (lS (sD pp) pa he2) he) hdb he hpl,fun B G H σ ρ d ρ' Q I hm kk=>?_⟩;unfold Vh at hm;refine bJ hm fun hso hm=>?_
 ·skip
  obtain⟨ds0,hso⟩:=qaQ.mp hso;refine bA hso fun s0 k0 q0=>?_
  obtain⟨l,xs0,w1,w2,w3,w4⟩:=I.wr k0 q0;refine bP hm fun cs1 ρ1 e1 hm=>?_
  refine bJ hm fun hsz hm=>?_
  ·skip
   refine bP hm fun as ρ2 e2 hm=>?_
   refine bA hm fun s e3 hm=>?_
   refine bA hm fun cs e4 hm=>?_
   refine bP hm fun r out e5 hm=>?_
   refine⟨.ref l,w1,sp B G H σ ρ cs1 ρ1 _ I e1 fun G1 H1 vs A I1 f1 r1 nd hA=>?_⟩;have ln:∀{xs:List V} {cs:List Ch} {A:List Addr},RepCs X.K G1 H1 xs cs A->xs.length=cs.length:=by
    intro xs
    induction xs with
    |nil=>intro cs A r;cases cs with
     |nil=>rfl
     |cons _ _=>exact r.elim
    |cons x xs ih=>intro cs A r;cases cs with
     |nil=>exact r.elim
     |cons c cs=>obtain⟨_,_,_,r2,_⟩:=r;rw[eU,eU,ih r2]
   refine⟨by rw[ln r1,iL];exact hsz,fun q hq=>?_⟩;have I2:=I1.allocO hq (.lst vs);have mv:∀(i:Nat) (s:Sl) (a:Addr),ρ1[i]? =some s->eZ X.K G1 H1 σ[i]? a s->G1 a=none->H1 a≠none->G1 a=none/\upd H1 q (.lst vs) a=H1 a:=fun i s a _ _ g h=>⟨g,cF fun z=>h (by rw[z];exact hq)⟩
   have hA2:∀a∈q::A,G1 a=none/\B.H a=none/\Nw X.K G1 (upd H1 q (.lst vs)) σ ρ1 a/\∃o,upd H1 q (.lst vs) a=some o:=fun a m=>by
    rcases qam.mp m with rfl|m
    ·exact⟨I1.fz.free hq,I1.there a hq,I1.nw_move (I1.nw hq) mv,_,gK⟩
    ·obtain⟨ys,z⟩:=r1.here m;exact⟨(hA a m).1,(hA a m).2.1,I1.nw_move (hA a m).2.2 mv,_,by rw[cF fun y=>by rw[y,hq]at z;cases z];exact z⟩
   have nq:q∉A:=fun m=>by obtain⟨ys,z⟩:=r1.here m;rw[hq]at z;exact aM z
   have rt:RepT X.K G1 (upd H1 q (.lst vs)) (.ref q) (.lst cs1) (q::A):=⟨q,vs,A,rfl,gK,r1.move (Fz.refl G1) fun a m=>cF fun z=>nq (by rw[<-z];exact m),rfl⟩;refine sa (B.re X.K G1 (upd H1 q (.lst vs)) σ ρ1) G1 _ σ ρ1 as ρ2 _ I2.re e2 fun G2 H2 ws J f2 r2=>?_
   have I3:=I2.unre J;have st:∀a∈q::A,H2 a=upd H1 q (.lst vs) a/\G2 a=none/\Nw X.K G2 H2 σ ρ2 a:=fun a m=>by
    obtain⟨a1,a2,a3,o,a4⟩:=hA2 a m;obtain⟨b1,b2,b3⟩:=I2.re_stays J a4 a3 a1 a2;exact⟨b1.trans a4.symm,b2,b3⟩
   obtain⟨l',xs,m1,m2,m3,m4⟩:=I3.wr e3 e4;rw[w1]at m1;cases m1;show lN X.K n F ((.ref l:: .ref q::ws)++[]) H2 Q E0;rw[Bn];have nl:l∉q::A:=fun m=>(st l m).2.2 j s e3 ((mJ e4).mpr w1)
   refine⟨G2,l,xs,cs,.ref q,.lst cs1,q::A,ws,as,r,out,rfl,e5,hlen ρ1 as ρ2 e2,I3.fz,m2,m3,m4,rt.move f2 fun a m=>(st a m).1,qaP.mpr ⟨nq,nd⟩,nl,fun a m=>(st a m).2.1,r2,fun G3 H3 v ys f3 fz3 nw kp gl hl r3 rr=>?_⟩;obtain⟨I4,fr⟩:=I3.chgW2 e3 e4 w1 fz3 f3 nw kp gl hl r3 fun a m=>⟨(hA2 a m).2.1,(st a m).2.2⟩
   cases r with
   |val d'=>obtain⟨rfl,rfl⟩:=bT hm;exact kk G3 H3 v I4 (f1.trans (f2.trans f3)) rr
   |own ds=>
    obtain⟨rfl,rfl⟩:=bT hm;obtain⟨l',xs',rfl,g4,h4,r4,b4⟩:=rr;obtain⟨I5,f4,r5⟩:=Lm I4 g4 h4 r4 (fr l' b4).1 (fr l' b4).2;exact kk _ H3 _ I5 (f1.trans (f2.trans (f3.trans f4))) r5
   |emp=>exact aM hm
   |two _ _=>exact aM hm
   |tre _=>exact aM hm
   |ptr _=>exact aM hm
   |par _=>exact aM hm
end
theorem Rj {ma:MA}(h:sH ma n):∀ρ as ρ',ma ρ=some (as,ρ')->as.length+2=n+2:=fun ρ as ρ' e=>by rw[h ρ as ρ' e]
end M
namespace M
open L2 PySem PySem.Spec
open PyProof.Rows hiding St
noncomputable def Ch.D:Ch->M.D
 | .d x=>x
 | .l ds=> .lst ds
 | .t xss=> .lst (xss.map .lst)
noncomputable def sTA (i j:Nat):MS:=fun ρ=>match ρ[i]?,ρ[j]? with
 |some (.tre (.lst cs)),some (.own ds)=>if cs.length<16777216 then some (.next,(ρ.set j .emp).set i (.tre (.lst (cs++[.l ds]))))else none
 |_,_=>none
noncomputable abbrev MQ:=R->Option D
noncomputable def fzT (j:Nat)(ρ:R):R:=match ρ[j]? with
 |some (.tre (.lst cs))=>ρ.set j (.val (.lst (cs.map Ch.D)))
 |_=>ρ
section
variable {X:Cx} {x y:Str} {pos p' q' tpos:Pos}
variable {e:Expr} {es:List Expr} {ma:MA} {k k' n:Nat} {F:List D->Option Sl}
variable {a b:Expr} {mi mk:MQ}
noncomputable def Eb (i j:Nat)(ma:MA):MS:=fun ρ=>(ma ρ).bind fun p=>match p.1 with
 |[c,d]=>some (.next,(p.2.set i (.val c)).set j (.val d))
 |_=>none
theorem Cz (i j:Nat){kt k2:Nat}{pt pt2:Pos}(hij:i≠j)(hc:X.calm=true)(ha:SA X [a,b] ma)(hN:X.N.Nodup)(hi:autoParam (X.N[i]? =some x) zu3._auto_1)(hj:autoParam (X.N[j]? =some y) zu3._auto_1)(hx:autoParam (X.env.scope.names.lookup x=some .local) zu3._auto_1)(hy:autoParam (X.env.scope.names.lookup y=some .local) zu3._auto_1)
  (hw:autoParam (swappedStores [.Tuple [.Name x p',.Name y q'] kt pt] (.Tuple [a,b] k2 pt2) X.env=pure (some [x,y])) zu3._auto_1) (hs:autoParam (swapsWithSole [.Tuple [.Name x p',.Name y q'] kt pt] (.Tuple [a,b] k2 pt2) pos.line X.env=pure false) zu3._auto_1):
  SS X (.Assign [.Tuple [.Name x p',.Name y q'] kt pt] (.Tuple [a,b] k2 pt2) pos) (Eb i j ma):=by
 refine ha.el fun t pa sa=>?_
 refine⟨_,Gj hc hN hi hj hij hx hy pa hw hs,fun B G H σ ρ fl ρ' E I hm k=>?_⟩;refine bP hm fun as ρ1 e1 hm=>?_
 refine sa B G H σ ρ as ρ1 _ I e1 fun G1 H1 vs I1 f1 r1=>?_
 dsimp only at hm
 split at hm
 ·rename_i c d;obtain⟨rfl,rfl⟩:=bT hm;obtain⟨v,w,rfl,rv,rw'⟩:=r1.two;exact⟨v,w,rfl,k G1 H1 _ ((I1.set rv).set rw') f1⟩
 ·exact aM hm
end
end M
namespace M
local macro_rules | `(tactic| ac_rfl) => `(tactic| first | exact M.nA (by decide) | exact M.nB (by decide) | exact M.nC (by decide) | exact M.nL (by assumption) | exact Nat.ne_of_lt (by assumption) | lia)
open L2 PySem PySem.Spec
open PyProof.Rows hiding St
open Sem (wp)
variable {a b u:Value} {Q E:Value->Shared->Prop} {i:Nat} {prog:Program} {w:World} {A:Around} {s:Shared} {tg:Expr} {K:W.Frag} {X:Cx} {p pos:Pos}
noncomputable abbrev lW (h:Heap)(z TI TO:Addr)(f0:Value)(b:Bool):Prop:=h.get? z=some {cls:= .type "zip",data:= .fields #[f0,.bool b,.bool false,.ref TI,.ref TO]}
noncomputable def ZipAt (h:Heap)(z TI TO:Addr):Prop:=∃f0 b,lW h z TI TO f0 b/\(f0= .none\/∃T:Nat,f0=rawInt T)
section
variable {prog:Program} {w:World} {A:Around} {E:Value->Shared->Prop} {s:Shared}
theorem zql {a:Addr}{Q:Option Obj->Shared->Prop}(h:Q (s.heap.get? a) s):wpAny (model prog w) A (loadIfAlive a) Q E s:=fun Γ p hΓ=>by
 show Sem.wp _ _ (Sem.loadIfAlive a Sem.pure) _ _ p s;rw[Sem.wp_loadIfAlive];exact(qaz (M:=model prog w) (A:=A) (E:=E) h) Γ p hΓ
theorem zrP {z TI TO:Addr}{f0:Value}{b:Bool}(hz:lW s.heap z TI TO f0 b)(hf:f0= .none\/∃T:Nat,f0=rawInt T){Q:Bool->Shared->Prop}(h1:Q true s)
  (h2:∀h',lW h' z TI TO f0 true->Heap.SameBut z s.heap h'->Q false {s with heap:=h'}):wpAny (model prog w) A (Builtin.SmallTypes.ownedTupleIsFree (.ref z)) Q E s:=by
 unfold Builtin.SmallTypes.ownedTupleIsFree;refine aL (gW hz rfl (x:=f0) rfl ?_);rcases hf with rfl|⟨T,rfl⟩
 ·exact qaz h1
 ·refine(?_:wpAny _ _ (loadIfAlive _>>=_) _ _ _);refine aL (zql ?_);cases e:s.heap.get? (T:Int).toNat with
  |none=>exact qaz h1
  |some o=>
   refine(?_:wpAny _ _ (field (.ref z) 1>>=_) _ _ _);refine aL (gW hz rfl (x:= .bool b) rfl ?_);cases b
   ·refine(?_:wpAny _ _ (setField (.ref z) 1 (.bool true)>>=_) _ _ _);exact aL (jT hz (by simp) fun g1 z1 s1=>qaz (h2 g1 z1 s1))
   ·exact qaz (h2 s.heap hz ⟨rfl,fun _ _=>rfl⟩)
variable {N a1 a2:Nat} {n1 n2:Nat} {P1 P2:Nat->Value->Prop} {S1 S2:Nat->Heap->Prop}
theorem zpw (D1:Draws prog w A N [N,a1] n1 P1 S1)(D2:Draws prog w A (N+1) [N+1,a2] n2 P2 S2)(l1:a1<N)(l2:a2<N)
  (hz':ZipAt s.heap (N+4) (N+2) (N+3)) (hTI:IsPair s.heap (N+2) (.ref N) (.ref (N+1))) (hTO:IsPair s.heap (N+3) a b) (h1:S1 i s.heap) (h2:S2 i s.heap) (i1:i<n1) (i2:i<n2)
  (k : ∀ x y h' tk, P1 i x -> P2 i y -> ZipAt h' (N + 4) (N + 2) (N + 3) -> (∃ a b, IsPair h' (N + 3) a b) -> S1 (i + 1) h' -> S2 (i + 1) h' -> IsPair h' s.heap.objs.size x y ->
   (∀c o,c≠N->c≠N+1->c≠N+3->c≠N+4->s.heap.get? c=some o->h'.get? c=some o)->Q (.ref s.heap.objs.size) {s with heap:=h',toks:=tk}):
  wpAny (model prog w) A (Builtin.«zip.__next__» ⟨[.ref (N+4)],[]⟩) (fun fin s'=>∃v,fin= .done (.ret v)/\Q v s') E s:=by
 obtain⟨f0,bb,hz,hf⟩:=hz';refine(?_:wpAny _ _ (field (.ref (N+4)) 2>>=_) _ _ _);refine aL (gW hz rfl (x:= .bool false) rfl (?_:wpAny _ _ (field (.ref (N+4)) 3>>=_) _ _ _));refine aL (gW hz rfl (x:= .ref (N+2)) rfl (aL (iI hTI rfl (?_:wpAny _ _ (Builtin.SmallTypes.ownedTupleIsFree (.ref (N+4))>>=_) _ _ _))));refine aL (zrP hz hf ?_ fun g0 z0 s0=>?_)
 ·simp only[if_true];refine aL (Bx (aL (gW hz rfl (x:= .ref (N+3)) rfl (aL (jT hz (by simp) fun g1 z1 s1=>aL ?_)))))
  replace z1:lW g1 (N+4) (N+2) (N+3) .ellipsis bb:=z1
  simp only[Uy,Vv,Gm,Fc];refine aL (aL (tV (?_:wpAny _ _ (Builtin.SmallTypes.nextOf (.ref N)>>=_) _ _ _)));have e1:S1 i g1:=D1.frame _ _ _ h1 fun b hb o e=>(s1.2 b (aX hb (by ac_rfl) (by ac_rfl))).trans e
  refine aL (D1.item i _ _ _ i1 e1 fun x g2 t2 p1 f2 s2=>qaz ?_);have q2:IsPair g2 (N+3) a b:=(s2.2 _ (bG (by ac_rfl))).trans ((s1.2 _ (bG (by ac_rfl))).trans hTO);refine aL (iI q2 rfl (aL (qcl q2 fun g3 q3 s3=>aL (mQ (qaz ?_)))))
  replace q3:IsPair g3 (N+3) x b:=q3
  refine aL (aL (tV (?_:wpAny _ _ (Builtin.SmallTypes.nextOf (.ref (N+1))>>=_) _ _ _)));have e3:S2 i g3:=D2.frame _ _ _ h2 fun b hb o e=>(s3.2 b (aX hb (by ac_rfl) (by ac_rfl))).trans ((s2.2 b (aX hb (by ac_rfl) (by ac_rfl))).trans ((s1.2 b (aX hb (by ac_rfl) (by ac_rfl))).trans e))
  refine aL (D2.item i _ _ _ i2 e3 fun y g4 t4 p2 f4 s4=>qaz ?_);have q4:IsPair g4 (N+3) x b:=(s4.2 _ (bG (by ac_rfl))).trans q3;refine aL (iI q4 rfl (aL (qcl q4 fun g5 q5 s5=>aL (mQ (qaz (qaz ?_))))))
  replace q5:IsPair g5 (N+3) x y:=q5
  have sz:g5.objs.size=s.heap.objs.size:=by rw[s5.1,s4.1,s3.1,s2.1,s1.1]
  have z5:lW g5 (N+4) (N+2) (N+3) .ellipsis bb:=(s5.2 _ (bG (by ac_rfl))).trans ((s4.2 _ (bG (by ac_rfl))).trans ((s3.2 _ (bG (by ac_rfl))).trans ((s2.2 _ (bG (by ac_rfl))).trans z1)));have zl:(N+4:Nat)<g5.objs.size:=cY z5;have k5:∀c o,c≠N->c≠N+1->c≠N+3->c≠N+4->s.heap.get? c=some o->g5.get? c=some o:=fun c o c1 c2 c3 c4 e=>(s5.2 c c3).trans ((s4.2 c c2).trans ((s3.2 c c3).trans ((s2.2 c c1).trans ((s1.2 c c4).trans e))))
  have f5:S1 (i+1) g5:=D1.frame _ _ _ f2 fun b hb o e=>(s5.2 b (aX hb (by ac_rfl) (by ac_rfl))).trans ((s4.2 b (aX hb (by ac_rfl) (by ac_rfl))).trans ((s3.2 b (aX hb (by ac_rfl) (by ac_rfl))).trans e))
  have f5':S2 (i+1) g5:=D2.frame _ _ _ f4 fun b hb o e=>(s5.2 b (aX hb (by ac_rfl) (by ac_rfl))).trans e
  refine aL (iI q5 rfl (aL (wpAny_newTuple (?_:wpAny _ _ (Builtin.SmallTypes.ownedTupleHandOut (.ref (N+4)) (.ref g5.objs.size)>>=_) _ _ _))));refine aL ?_;unfold Builtin.SmallTypes.ownedTupleHandOut;refine aL (jT (show lW (g5.push {cls:= .type "tuple",data:= .seq #[x,y]}) (N+4) (N+2) (N+3) .ellipsis bb from bH _ z5) (by simp) fun g7 z7 s7=>?_)
  replace z7:lW g7 (N+4) (N+2) (N+3) (rawInt g5.objs.size) bb:=z7
  refine jT z7 (by simp) fun g8 z8 s8=>qaz ⟨_,rfl,?_⟩
  replace z8:lW g8 (N+4) (N+2) (N+3) (rawInt g5.objs.size) false:=z8
  have up:∀c o,c≠N+4->g5.get? c=some o->g8.get? c=some o:=fun c o c1 e=>(s8.2 c c1).trans ((s7.2 c c1).trans (bH _ e))
  have T8:IsPair g8 g5.objs.size x y:=(s8.2 _ (bG (by ac_rfl))).trans ((s7.2 _ (bG (by ac_rfl))).trans (eR _ rfl));rw[sz]at z8 T8;refine(?_:Q (.ref g5.objs.size) _);rw[sz];exact k x y g8 _ p1 p2 ⟨_,_,z8,.inr ⟨_,rfl⟩⟩ ⟨_,_,up _ _ (bG (by ac_rfl)) q5⟩ (D1.frame _ _ _ f5 fun b hb o e=>up b o (aX hb (by ac_rfl) (by ac_rfl)) e) (D2.frame _ _ _ f5' fun b hb o e=>up b o (aX hb (by ac_rfl) (by ac_rfl)) e) T8 fun c o c1 c2 c3 c4 e=>up c o c4 (k5 c o c1 c2 c3 c4 e)
 ·simp only[Ja,iK];simp only[List.forIn_toArray,Gm,Fc];have e0:S1 i g0:=D1.frame _ _ _ h1 fun b hb o e=>(s0.2 b (aX hb (by ac_rfl) (by ac_rfl))).trans e
  refine aL (aL (aL (jL (?_:wpAny _ _ (Builtin.SmallTypes.nextOf (.ref N)>>=_) _ _ _))));refine aL (D1.item i _ _ _ i1 e0 fun x g2 t2 p1 f2 s2=>qaz (qaz ?_));refine aL (aL (jL (?_:wpAny _ _ (Builtin.SmallTypes.nextOf (.ref (N+1))>>=_) _ _ _)));have e3:S2 i g2:=D2.frame _ _ _ h2 fun b hb o e=>(s2.2 b (aX hb (by ac_rfl) (by ac_rfl))).trans ((s0.2 b (aX hb (by ac_rfl) (by ac_rfl))).trans e)
  refine aL (D2.item i _ _ _ i2 e3 fun y g4 t4 p2 f4 s4=>qaz (qaz (qaz ?_)));have sz:g4.objs.size=s.heap.objs.size:=by rw[s4.1,s2.1,s0.1]
  have z4:lW g4 (N+4) (N+2) (N+3) f0 true:=(s4.2 _ (bG (by ac_rfl))).trans ((s2.2 _ (bG (by ac_rfl))).trans z0);have f4':S1 (i+1) g4:=D1.frame _ _ _ f2 fun b hb o e=>(s4.2 b (aX hb (by ac_rfl) (by ac_rfl))).trans e
  refine(?_:wpAny _ _ (newTuple [x,y]>>=_) _ _ _);refine aL (wpAny_newTuple (qaz ⟨_,rfl,?_⟩));have k5:∀c o,c≠N->c≠N+1->c≠N+3->c≠N+4->s.heap.get? c=some o->g4.get? c=some o:=fun c o c1 c2 c3 c4 e=>(s4.2 c c2).trans ((s2.2 c c1).trans ((s0.2 c c4).trans e))
  have q4:IsPair g4 (N+3) a b:=(s4.2 _ (bG (by ac_rfl))).trans ((s2.2 _ (bG (by ac_rfl))).trans ((s0.2 _ (bG (by ac_rfl))).trans hTO));have T8:IsPair (g4.push {cls:= .type "tuple",data:= .seq #[x,y]}) g4.objs.size x y:=eR _ rfl;rw[sz]at T8;refine(?_:Q (.ref g4.objs.size) _);rw[sz];exact k x y _ _ p1 p2 ⟨_,_,bH _ z4,hf⟩ ⟨_,_,bH _ q4⟩ (D1.frame _ _ _ f4' fun b hb o e=>bH _ e) (D2.frame _ _ _ f4 fun b hb o e=>bH _ e) T8 fun c o c1 c2 c3 c4 e=>bH _ (k5 c o c1 c2 c3 c4 e)
theorem zqY {Q:Fin->Shared->Prop}(D1:Draws prog w A N [N,a1] n1 P1 S1)(D2:Draws prog w A (N+1) [N+1,a2] n2 P2 S2)(l1:a1<N)(l2:a2<N)
  (hz':ZipAt s.heap (N+4) (N+2) (N+3)) (hTI:IsPair s.heap (N+2) (.ref N) (.ref (N+1))) (hTO:IsPair s.heap (N+3) a b) (h1:S1 i s.heap) (h2:S2 i s.heap) (hi:i=n1\/(i<n1/\i=n2))
  (k:∀h' e tk,(∀c o,c≠N->c≠N+1->c≠N+3->c≠N+4->s.heap.get? c=some o->h'.get? c=some o)->(∃o,h'.get? e=some o/\o.cls= .type "StopIteration")->E (.ref e) {s with heap:=h',toks:=tk}):
  wpAny (model prog w) A (Builtin.«zip.__next__» ⟨[.ref (N+4)],[]⟩) Q E s:=by
 obtain⟨f0,bb,hz,hf⟩:=hz';refine(?_:wpAny _ _ (field (.ref (N+4)) 2>>=_) _ _ _);refine aL (gW hz rfl (x:= .bool false) rfl (?_:wpAny _ _ (field (.ref (N+4)) 3>>=_) _ _ _));refine aL (gW hz rfl (x:= .ref (N+2)) rfl (aL (iI hTI rfl (?_:wpAny _ _ (Builtin.SmallTypes.ownedTupleIsFree (.ref (N+4))>>=_) _ _ _))));refine aL (zrP hz hf ?_ fun g0 z0 s0=>?_)
 ·simp only[if_true];refine aL (Bx (aL (gW hz rfl (x:= .ref (N+3)) rfl (aL (jT hz (by simp) fun g1 z1 s1=>aL ?_)))))
  replace z1:lW g1 (N+4) (N+2) (N+3) .ellipsis bb:=z1
  simp only[Uy,Vv,Gm,Fc];refine aL (aL (tV (?_:wpAny _ _ (Builtin.SmallTypes.nextOf (.ref N)>>=_) _ _ _)));have e1:S1 i g1:=D1.frame _ _ _ h1 fun b hb o e=>(s1.2 b (aX hb (by ac_rfl) (by ac_rfl))).trans e
  rcases hi with rfl|⟨i1,rfl⟩
  ·refine aL (D1.done _ _ _ e1 fun g2 e x2 he=>?_);obtain⟨oe,hoe,hce⟩:=he;have z2:lW g2 (N+4) (N+2) (N+3) .ellipsis bb:=x2 _ _ (bG (by ac_rfl)) z1;have hez:e≠N+4:=fun x=>by subst x;rw[z2]at hoe;cases hoe;simp at hce
   exact jT z2 (by simp) fun g3 _ s3=>k g3 e _ (fun c o c1 c2 c3 c4 x=>(s3.2 c c4).trans (x2 c o c1 ((s1.2 c c4).trans x))) ⟨oe,(s3.2 _ hez).trans hoe,hce⟩
  ·refine aL (D1.item i _ _ _ i1 e1 fun x g2 t2 p1 f2 s2=>qaz ?_);have q2:IsPair g2 (N+3) a b:=(s2.2 _ (bG (by ac_rfl))).trans ((s1.2 _ (bG (by ac_rfl))).trans hTO);refine aL (iI q2 rfl (aL (qcl q2 fun g3 q3 s3=>aL (mQ (qaz ?_)))))
   replace q3:IsPair g3 (N+3) x b:=q3
   refine aL (aL (tV (?_:wpAny _ _ (Builtin.SmallTypes.nextOf (.ref (N+1))>>=_) _ _ _)));have e3:S2 i g3:=D2.frame _ _ _ h2 fun b hb o e=>(s3.2 b (aX hb (by ac_rfl) (by ac_rfl))).trans ((s2.2 b (aX hb (by ac_rfl) (by ac_rfl))).trans ((s1.2 b (aX hb (by ac_rfl) (by ac_rfl))).trans e))
   refine aL (D2.done _ _ _ e3 fun g4 e x4 he=>?_);obtain⟨oe,hoe,hce⟩:=he;have z3:lW g3 (N+4) (N+2) (N+3) .ellipsis bb:=(s3.2 _ (bG (by ac_rfl))).trans ((s2.2 _ (bG (by ac_rfl))).trans z1);have z4:lW g4 (N+4) (N+2) (N+3) .ellipsis bb:=x4 _ _ (bG (by ac_rfl)) z3;have hez:e≠N+4:=fun x=>by subst x;rw[z4]at hoe;cases hoe;simp at hce
   exact jT z4 (by simp) fun g5 _ s5=>k g5 e _ (fun c o c1 c2 c3 c4 x=>(s5.2 c c4).trans (x4 c o c2 ((s3.2 c c3).trans ((s2.2 c c1).trans ((s1.2 c c4).trans x))))) ⟨oe,(s5.2 _ hez).trans hoe,hce⟩
 ·simp only[Ja,iK,List.forIn_toArray,Gm,Fc];have e0:S1 i g0:=D1.frame _ _ _ h1 fun b hb o e=>(s0.2 b (aX hb (by ac_rfl) (by ac_rfl))).trans e
  refine aL (aL (aL (jL (?_:wpAny _ _ (Builtin.SmallTypes.nextOf (.ref N)>>=_) _ _ _))));rcases hi with rfl|⟨i1,rfl⟩
  ·refine aL (D1.done _ _ _ e0 fun g2 e x2 he=>?_);exact k g2 e _ (fun c o c1 c2 c3 c4 x=>x2 c o c1 ((s0.2 c c4).trans x)) he
  ·refine aL (D1.item i _ _ _ i1 e0 fun x g2 t2 p1 f2 s2=>qaz (qaz ?_));refine aL (aL (jL (?_:wpAny _ _ (Builtin.SmallTypes.nextOf (.ref (N+1))>>=_) _ _ _)));have e3:S2 i g2:=D2.frame _ _ _ h2 fun b hb o e=>(s2.2 b (aX hb (by ac_rfl) (by ac_rfl))).trans ((s0.2 b (aX hb (by ac_rfl) (by ac_rfl))).trans e)
   refine aL (D2.done _ _ _ e3 fun g4 e x4 he=>?_);exact k g4 e _ (fun c o c1 c2 c3 c4 x=>x4 c o c2 ((s2.2 c c1).trans ((s0.2 c c4).trans x))) he
end
theorem ZipAt.at {h h':Heap}{z TI TO:Addr}(x:ZipAt h z TI TO)(e:∀o,h.get? z=some o->h'.get? z=some o):ZipAt h' z TI TO:=by
 obtain⟨f0,b,q,r⟩:=x;exact⟨f0,b,e _ q,r⟩
theorem zop {z TI TO:Addr}(hz:ZipAt s.heap z TI TO)(h:Q (.ref z) s):wpAny (model prog w) A (pyIter (.ref z)) Q E s:=by
 obtain⟨f0,b,q,r⟩:=hz;have hT:s.TypeIs (.ref z) "zip":=⟨_,q,rfl⟩;exact wpAny_pyIter_slot hT F.slot_zip_iter (Cf F.slot_zip_iter hT F.entry_zip_iter (qaz ⟨.ref z,rfl,"zip",.builtin "zip.__next__",hT,F.slot_zip_next.lookup,h⟩) (F.args_zip_iter_1 (.ref z)))
theorem Dp {z TI TO:Addr}{Q:Unit->Shared->Prop}(hz:ZipAt s.heap z TI TO)(h1:Q () s)
  (h2:∀h',ZipAt h' z TI TO->Heap.SameBut z s.heap h'->Q () {s with heap:=h'}):wpAny (model prog w) A (letOwnedTupleGo tg (.ref z) u) Q E s:=by
 obtain⟨f0,b,q,r⟩:=hz;have core:∀a:Addr,wpAny (model prog w) A (do
   let o<-load z
   match o.cls,o.data with
    |Value.type n,Data.fields vs=>
     if(["enumerate","zip","dict_itemiterator","dict_reverseitemiterator","odict_iterator","itertools.zip_longest","itertools.pairwise"].contains n&&vs[0]? ==some (rawInt ↑a))=true then do
      rule "for.unpacks-the-owned-tuple"
      updateField z 0 Value.none
     else pure ()
    |x,x_1=>pure ()) Q E s:=fun a=>by
  refine aL (wpAny_load q ?_);dsimp only
  split
  ·refine aL (Bx ?_);refine(?_:wpAny _ _ (setField (.ref z) 0 .none) _ _ _);exact jT q (by simp) fun g1 z1 s1=>h2 g1 ⟨_,_,z1,.inl rfl⟩ s1
  ·exact qaz h1
 unfold letOwnedTupleGo;cases tg<;>first|exact qaz h1|(cases u<;>first|exact qaz h1|exact core _)
theorem zpx {P:Program}{w:World}(t1:Bool)(a1:Nat)(t2:Bool)(a2:Nat)(n N:Nat)(l1:a1<N)(l2:a2<N):
  Turn P w K tg (Eg K t1 a1 t2 a2 n) ([N,N+1,N+2,N+3,N+4]:List Nat) (N+4:Nat)
   (fun i h=>i<=n/\ZipAt h (N+4:Nat) (N+2:Nat) (N+3:Nat)/\IsPair h (N+2:Nat) (.ref N) (.ref (N+1:Nat))/\(∃a b,IsPair h (N+3:Nat) a b)/\SrcIt t1 h N a1 i/\SrcIt t2 h (N+1:Nat) a2 i) where
 mem:=by simp
 obj:=fun i h st b hb=>by
  obtain⟨-,h4,h2,⟨a,c,h3⟩,h0,h1⟩:=st;simp only[qam,List.not_mem_nil,or_false]at hb;rcases hb with rfl|rfl|rfl|rfl|rfl
  ·exact h0.obj
  ·exact h1.obj
  ·exact⟨_,h2,fun v z=>by cases z⟩
  ·exact⟨_,h3,fun v z=>by cases z⟩
  ·obtain⟨f0,bb,z4,-⟩:=h4;exact⟨_,z4,fun v z=>by cases z⟩
 keep:=fun i h h' st k=>by
  obtain⟨hi,h4,h2,⟨a,c,h3⟩,h0,h1⟩:=st;exact⟨hi,h4.at fun o e=>k _ (by simp) o e,k _ (by simp) _ h2,⟨a,c,k _ (by simp) _ h3⟩,h0.at fun o e=>k _ (by simp) o e,h1.at fun o e=>k _ (by simp) o e⟩
 item:=by
  intro X hP hw hK hc i pins s σ H E I hf st hg;subst hP hw hK;obtain⟨hi,h4,h2,⟨a,c,h3⟩,h0,h1⟩:=st;obtain⟨hn,xs,ys,q1,q2,en⟩:=hg;obtain⟨us,ru,hu,zu⟩:=q1.heap I;obtain⟨ws,rw',hw',zw⟩:=q2.heap I;have lu:=ru.length;have lw:=rw'.length;have D1:=mN (prog:=X.prog) (w:=X.w) (A:=X.A.in1) (t:=t1) (I.ok.hd hc) N a1 (bG (by ac_rfl)) us.toArray;have D2:=mN (prog:=X.prog) (w:=X.w) (A:=X.A.in1) (t:=t2) (I.ok.hd hc) (N+1) a2 (bG (by ac_rfl)) ws.toArray;have z4:=h4;obtain⟨f0,bb,z4,-⟩:=z4;have hT:s.TypeIs (.ref (N+4:Nat)) "zip":=⟨_,z4,rfl⟩;unfold pyNext;refine aL (Wj (Iq (name:=Str.ofString "__next__") hT Bg (Cf Bg hT Vr
   (zpw D1 D2 l1 l2 h4 h2 h3 ⟨h0,hu⟩ ⟨h1,hw'⟩ (by simp;lia) (by simp;lia) fun x y h' tk p1 p2 g4 g3 g0 g1 gT kk=>qaz ?_) (Vs _))))
  obtain⟨x1,hx1⟩:∃x1,xs[i]? =some x1:=⟨xs[i]'(by lia),cG _⟩;obtain⟨x2,hx2⟩:∃x2,ys[i]? =some x2:=⟨ys[i]'(by lia),cG _⟩;obtain⟨u1,hu1,r1⟩:=ru.get hx1;obtain⟨u2,hu2,r2⟩:=rw'.get hx2;have e1:u1=x:=by
   have:us[i]? =some x:=by simpa using p1
   rw[hu1]at this;cases this;rfl
  have e2:u2=y:=by
   have:ws[i]? =some y:=by simpa using p2
   rw[hu2]at this;cases this;rfl
  subst e1 e2;refine⟨_,rfl,?_⟩;have fin:∀h'',ZipAt h'' (N+4:Nat) (N+2:Nat) (N+3:Nat)->Heap.SameBut (N+4:Nat) h' h''->∃x H',L2.Inv X pins σ H' {s with heap:=h'',toks:=tk}/\RelV x (.ref s.heap.objs.size)/\(Eg X.K t1 a1 t2 a2 n).yld i H x H'/\(i+1<=n/\ZipAt h'' (N+4:Nat) (N+2:Nat) (N+3:Nat)/\IsPair h'' (N+2:Nat) (.ref N) (.ref (N+1:Nat))/\(∃a b,IsPair h'' (N+3:Nat) a b)/\SrcIt t1 h'' N a1 (i+1)/\SrcIt t2 h'' (N+1:Nat) a2 (i+1))/\∀b∈([N,N+1,N+2,N+3,N+4]:List Nat),H' b=none:=fun h'' z'' sb=>by
   have lz:N+4<s.heap.objs.size:=cY z4;have kk':∀b o,b∉([N,N+1,N+2,N+3,N+4]:List Nat)->s.heap.get? b=some o->h''.get? b=some o:=fun b o hb e=>by
    obtain⟨c1,c2,c3,c4⟩:=Mk hb;exact(sb.2 b c4).trans (kk b o c1 c2 c3 c4 e)
   have I1:=zn0 (t':=tk) (vs:=[x1,x2]) (its:=[u1,u2]) I kk' hf (fun b hb=>by
    have:b=N\/b=N+1\/b=N+2\/b=N+3\/b=N+4:=by simpa using hb
    exact Ek (show(b:Nat)<=N+4 by rcases this with h|h|h|h|h<;>rw[h]<;>simp) lz) ((sb.2 _ (bG (by ac_rfl))).trans gT) (by simp;rw[iL];decide) (.cons r1 (.cons r2 .nil))
   refine⟨.ref s.heap.objs.size,_,I1,rfl,⟨_,x1,x2,I.hok.fresh (bU _),rfl,rfl,fun xs' ys' b1 b2=>?_⟩,⟨hn,z'',(sb.2 _ (bG (by ac_rfl))).trans (kk _ _ (bG (by ac_rfl)) (bG (by ac_rfl)) (bG (by ac_rfl)) (bG (by ac_rfl)) h2),(let⟨a',b',e'⟩:=g3;⟨a',b',(sb.2 _ (bG (by ac_rfl))).trans e'⟩),SrcIt.at g0.1 fun o e=>(sb.2 _ (bG (by ac_rfl))).trans e,SrcIt.at g1.1 fun o e=>(sb.2 _ (bG (by ac_rfl))).trans e⟩,fun b hb=>?_⟩
   ·rw[SrcSq.inj I b1 q1,SrcSq.inj I b2 q2];exact⟨hx1,hx2⟩
   ·have:b=N\/b=N+1\/b=N+2\/b=N+3\/b=N+4:=by simpa using hb
    rw[cF (gC (Ek (show(b:Nat)<=N+4 by rcases this with h|h|h|h|h<;>rw[h]<;>simp) lz))]
    exact(hf b hb).1
  exact Dp (s:={s with heap:=h',toks:=tk}) g4 (fin h' g4 ⟨rfl,fun _ _=>rfl⟩) fun h'' z'' sb=>fin h'' z'' sb
 done:=by
  intro X hP hw hK hc i pins s σ H E I hf st hg;subst hP hw hK;obtain⟨hi,h4,h2,⟨a,c,h3⟩,h0,h1⟩:=st;obtain⟨hn,xs,ys,q1,q2,en⟩:=hg;obtain⟨us,ru,hu,zu⟩:=q1.heap I;obtain⟨ws,rw',hw',zw⟩:=q2.heap I;have lu:=ru.length;have lw:=rw'.length;have D1:=mN (prog:=X.prog) (w:=X.w) (A:=X.A.in1) (t:=t1) (I.ok.hd hc) N a1 (bG (by ac_rfl)) us.toArray;have D2:=mN (prog:=X.prog) (w:=X.w) (A:=X.A.in1) (t:=t2) (I.ok.hd hc) (N+1) a2 (bG (by ac_rfl)) ws.toArray;have z4:=h4;obtain⟨f0,bb,z4,-⟩:=z4;have hT:s.TypeIs (.ref (N+4:Nat)) "zip":=⟨_,z4,rfl⟩;unfold pyNext;refine aL (Wj (Iq (name:=Str.ofString "__next__") hT Bg (Cf Bg hT Vr
   (zqY D1 D2 l1 l2 h4 h2 h3 ⟨h0,hu⟩ ⟨h1,hw'⟩ (by simp;lia) fun h' e tk kk he=>?_) (Vs _))))
  obtain⟨o,ho,hce⟩:=he;refine aL (wpAny_isInstance (T:="StopIteration") (b:=true) ⟨o,ho,hce⟩ isSubtype_stop (qaz ⟨rfl,Tp I (fun b o hb e=>?_) hf⟩));obtain⟨c1,c2,c3,c4⟩:=Mk hb;exact kk b o c1 c2 c3 c4 e
 self:=fun _ _ _ _ _ st h=>zop st.2.1 h
theorem oP {a b:Expr}{ta:TA}(hg:Gl X "zip")(hm:X.mg "zip"=none)(ha:PA X [a,b] ta)(hs:autoParam (starEach [a,b] X.env=(false,eval a X.env)::starEach [b] X.env) zu3._auto_1)(hs2:autoParam ((backTo pos (starEach [b] X.env)).any (·.1)=false) zu3._auto_1):
  PI X tg (.Call (.Name "zip" p) [a,b] [] pos) (fun σ H R=>ta σ H fun vs H1=>∃t1 a1 xs t2 a2 ys,vs=[.ref a1,.ref a2]/\SrcSq t1 X.K H1 a1 xs/\SrcSq t2 X.K H1 a2 ys/\R (Eg X.K t1 a1 t2 a2 (min xs.length ys.length)) H1):=by
 intro pins s σ H R I h;refine Call_ (yF I hg hm zpi (Cw (bC (ha pos pins s σ H _ I h) fun us s1 ⟨vs,H1,I1,r1,q1⟩=>?_) hs hs2));obtain⟨t1,a1,xs,t2,a2,ys,e,q1,q2,q⟩:=q1;subst e;cases r1 with
 |cons r rr=>
  cases rr with
  |cons r' rr=>
   cases rr;cases r;cases r';obtain⟨us,ru,hu,-⟩:=q1.heap I1;obtain⟨ws,rw',hw',-⟩:=q2.heap I1;refine zr1 hu hw' fun h' g4 g2 g3 g0 g1 kk=>wpAny_pyIter_zip g4 ⟨_,_,_,_,H1,rfl,I1.kept (t':=s1.toks) kk,zpx t1 a1 t2 a2 (min xs.length ys.length) s1.heap.objs.size hu.lt hw'.lt,⟨lI _,⟨_,_,g4,.inl rfl⟩,g2,⟨_,_,g3⟩,g0,g1⟩,fun b hb=>?_,q⟩
   have:b=s1.heap.objs.size\/b=s1.heap.objs.size+1\/b=s1.heap.objs.size+2\/b=s1.heap.objs.size+3\/b=s1.heap.objs.size+4:=by simpa using hb
   have le:s1.heap.objs.size<=b:=by rcases this with h|h|h|h|h<;>rw[h]<;>simp
   exact I1.fpOk le (I1.hok.fresh le)
theorem zoL {a b:Expr}{ma:MA}(hm:X.mg "zip"=none)(ha:SA X [a,b] ma)(hg:autoParam (Gl X "zip") zu3._auto_1)(hs:autoParam (starEach [a,b] X.env=(false,eval a X.env)::starEach [b] X.env) zu3._auto_1)(hs2:autoParam ((backTo pos (starEach [b] X.env)).any (·.1)=false) zu3._auto_1):
  SIt X tg (.Call (.Name "zip" p) [a,b] [] pos) (Um ma):=by
 refine ha.el fun t pa sa=>?_
 refine⟨_,oP hg hm pa hs hs2,fun B G H σ ρ ds ρ' Q I hm k=>?_⟩;refine bP hm fun es ρ1 e1 h2=>?_
 dsimp only at h2;refine sa B G H σ ρ es ρ1 _ I e1 fun G1 H1 vs I1 f1 r1=>?_
 split at h2
 ·refine bA h2 fun xs ex h2=>?_
  refine bA h2 fun ys ey h2=>?_
  obtain⟨rfl,rfl⟩:=bT h2;obtain⟨x,y,rfl,rx,ry⟩:=r1.two;obtain⟨t1,a1,us,rfl,s1,c1⟩:=Lo rx ex;obtain⟨t2,a2,ws,rfl,s2,c2⟩:=Lo ry ey;have n1:=c1.length;have n2:=c2.length;refine⟨t1,a1,us,t2,a2,ws,rfl,s1 _ I1.fz,s2 _ I1.fz,k _ G1 H1 I1 f1 ⟨fun H i f hi=>?_,fun H i x H' f y d e=>?_,fun H i f hi=>?_⟩⟩
  ·exact⟨by simp[Hw]at hi;lia,us,ws,s1 _ f,s2 _ f,rfl⟩
  ·obtain⟨p,x1,x2,hp,eh,ex',q⟩:=y;obtain⟨q1,q2⟩:=q us ws (s1 _ f) (s2 _ f);simp only[Hw,Lb]at e
   split at e
   ·rename_i d1 d2 g1 g2;cases e;obtain⟨v1,b1,r1⟩:=c1.get g1;obtain⟨v2,b2,r2⟩:=c2.get g2;rw[q1]at b1;cases b1;rw[q2]at b2;cases b2;exact .inr ⟨p,_,_,hp,eh,ex',rfl,⟨_,_,rfl,r1,_,_,rfl,r2,rfl⟩⟩
   ·exact aM e
  ·exact⟨by simp[Hw]at hi;lia,us,ws,s1 _ f,s2 _ f,rfl⟩
 ·exact aM h2
end M
namespace M
open L2 PySem PySem.Spec
open PyProof.Rows hiding St
theorem cE {l:List Str}(h:autoParam (decide l.Nodup=true) zu10._auto_1):l.Nodup:=of_decide_eq_true h
theorem bR {p:List Value->Prop}(h:p []):∀us:List Value,us.length=0->p us:=fun us e=>by
 cases us with
 |nil=>exact h
 |cons=>cases e
theorem aS {p:List Value->Prop}{n:Nat}(h:∀(a:Value) (us:List Value),us.length=n->p (a::us)):∀us:List Value,us.length=n+1->p us:=fun us e=>by
 cases us with
 |nil=>cases e
 |cons a us=>exact h a us (Nat.succ.inj e)
section
variable {P:Program} {w:World} {K:W.Frag} {mg:Str->Option Value} {base hp:Heap} {x:Str} {st:Stmt} {f:Addr}
noncomputable def FnAt (K:W.Frag)(x:Str)(st:Stmt):Prop:=∃f fd,W.nsIn K mainGlobals x=some (some (.ref f))/\Fun K x x st f fd
theorem FnAt.mk {oc:Value}{od an:Option Addr}{osl:Array (Option Value)}{kV doc pm cdv ct:Value}(a:W.nsIn K mainGlobals x=some (some (.ref f)))(l:K.lookup f=some ⟨oc,od,.func (W.fnOf x x (zhz st) (zct st) (zaM st) .none kV doc pm an cdv ct),osl⟩)
  (c:W.codeIn K cdv x=true) (k:W.keepIn K (.ref f)=true):FnAt K x st:=⟨f,_,a,Ed l c k⟩
noncomputable abbrev yM (x:Str)(st:Stmt)(ps:List Str):Prop:=∀(kV doc pm:Value) (an:Option Addr) (cdv ct:Value) (us:List Value),us.length=ps.length->bindArgs (W.fnOf x x (zhz st) (zct st) (zaM st) .none kV doc pm an cdv ct) ⟨us,[]⟩=pure (ps.zip us)
theorem FnAt.law (h:FnAt K x st)(X:K.In hp)(G:hp.Ns mainGlobals mg)(hf:mg x=some (.ref f)):∃kV doc pm an cdv ct,Fun K x x st f (W.fnOf x x (zhz st) (zct st) (zaM st) .none kV doc pm an cdv ct):=by
 obtain⟨f',fd,a,T⟩:=h;have e:=hf.symm.trans (W.mg_of X G a);cases e;obtain⟨oc,od,kV,doc,pm,an,cdv,ct,osl,rfl,lk,hcd⟩:=id T.ex;exact⟨kV,doc,pm,an,cdv,ct,T⟩
variable {N:List Str} {k n:Nat} {m:MS}
noncomputable abbrev Bd (P:Program)(w:World)(K:W.Frag)(mg:Str->Option Value)(base:Heap)(x:Str)(st:Stmt)(N:List Str)(k:Nat)(m:MS):Prop:=∀(f:Addr) (cdv:Value) (A:Around) (outer:List Env) (s:Shared) (H:Hp) (E:XK),Room k (A.deeper (PyProof.Rows.envOfC x (zaM st) s.heap.objs.size f cdv))->N.Nodup->SSs (fD jF P w K mg base N x (zaM st) f cdv A outer s H E).nox (zct st) m
structure DefOk (x:Str) (st:Stmt) (N:List Str) (n:Nat):Prop where
 sc:FnScope N (N.take n) (zaM st)
 len:(N.take n).length=n
 le:n<=N.length
 bs:yM x st (N.take n)
theorem Zz {fd:FuncData}(F:Fun K x x st f fd)(b:Bd P w K mg base x st N k m)(d:DefOk x st N n:=by exact⟨⟨rfl,rfl,rfl,by decide+kernel,rfl,by decide+kernel,by decide+kernel⟩,rfl,by decide,fun _ _ _ _ _ _=>by first|exact aS fun _=>bR rfl|exact aS fun _=>aS fun _=>bR rfl|exact aS fun _=>aS fun _=>aS fun _=>bR rfl|exact aS fun _=>aS fun _=>aS fun _=>aS fun _=>bR rfl|exact bR rfl|exact aS fun _=>aS fun _=>aS fun _=>aS fun _=>aS fun _=>bR rfl⟩):FnOk P w K mg base jF (k+1) f fd (N.take n) (aT K n (fP N.length m)):=oO F d.sc d.len d.le fun cdv A outer s H E hr=>b _ cdv A outer s H E hr d.sc.nd
theorem cM (X:K.In hp)(G:hp.Ns mainGlobals mg)(h:FnAt K x st)(b:Bd P w K mg base x st N k m)(d:DefOk x st N n:=by exact⟨⟨rfl,rfl,rfl,by decide+kernel,rfl,by decide+kernel,by decide+kernel⟩,rfl,by decide,fun _ _ _ _ _ _=>by first|exact aS fun _=>bR rfl|exact aS fun _=>aS fun _=>bR rfl|exact aS fun _=>aS fun _=>aS fun _=>bR rfl|exact aS fun _=>aS fun _=>aS fun _=>aS fun _=>bR rfl|exact bR rfl|exact aS fun _=>aS fun _=>aS fun _=>aS fun _=>aS fun _=>bR rfl⟩):FD P w K mg base (k+1) x (aT K n (fP N.length m)):=
 let⟨f,fd,a,T⟩:=h
 ⟨⟨f,fd,_,oO T d.sc d.len d.le fun cdv A outer s H E hr=>b _ cdv A outer s H E hr d.sc.nd,W.mg_of X G a,T.kp,T.binds d.bs⟩⟩
theorem Ln (X:K.In hp)(G:hp.Ns mainGlobals mg)(h:FnAt K x st)(b:Bd P w K mg base x st N k m)(d:DefOk x st N n:=by exact⟨⟨rfl,rfl,rfl,by decide+kernel,rfl,by decide+kernel,by decide+kernel⟩,rfl,by decide,fun _ _ _ _ _ _=>by first|exact aS fun _=>bR rfl|exact aS fun _=>aS fun _=>bR rfl|exact aS fun _=>aS fun _=>aS fun _=>bR rfl|exact aS fun _=>aS fun _=>aS fun _=>aS fun _=>bR rfl|exact bR rfl|exact aS fun _=>aS fun _=>aS fun _=>aS fun _=>aS fun _=>bR rfl⟩):FD P w K mg base (k+1) x (gI K n (fM N.length m)):=
 let⟨f,fd,a,T⟩:=h
 ⟨⟨f,fd,_,Jf T d.sc d.len d.le fun cdv A outer s H E hr=>b _ cdv A outer s H E hr d.sc.nd,W.mg_of X G a,T.kp,T.binds d.bs⟩⟩
theorem fdMT (X:K.In hp)(G:hp.Ns mainGlobals mg)(h:FnAt K x st)(b:Bd P w K mg base x st N k m)(d:DefOk x st N n:=by exact⟨⟨rfl,rfl,rfl,by decide+kernel,rfl,by decide+kernel,by decide+kernel⟩,rfl,by decide,fun _ _ _ _ _ _=>by first|exact aS fun _=>bR rfl|exact aS fun _=>aS fun _=>bR rfl|exact aS fun _=>aS fun _=>aS fun _=>bR rfl|exact aS fun _=>aS fun _=>aS fun _=>aS fun _=>bR rfl|exact bR rfl|exact aS fun _=>aS fun _=>aS fun _=>aS fun _=>aS fun _=>bR rfl⟩):FD P w K mg base (k+1) x (lN K n (Wp N.length m)):=
 let⟨f,fd,a,T⟩:=h
 ⟨⟨f,fd,_,vA T d.sc d.len d.le fun cdv A outer s H E hr=>b _ cdv A outer s H E hr d.sc.nd,W.mg_of X G a,T.kp,T.binds d.bs⟩⟩
theorem fdX {m:MX}(X:K.In hp)(G:hp.Ns mainGlobals mg)(h:FnAt K x st)(b:∀(f:Addr) (cdv:Value) (A:Around) (outer:List Env) (s:Shared) (H:Hp) (E:XK),Room k (A.deeper (PyProof.Rows.envOfC x (zaM st) s.heap.objs.size f cdv))->N.Nodup->XSs (fD (Cj P w) P w K mg base N x (zaM st) f cdv A outer s H E) (fun _=>True) E (zct st) m)(d:DefOk x st N n:=by exact⟨⟨rfl,rfl,rfl,by decide+kernel,rfl,by decide+kernel,by decide+kernel⟩,rfl,by decide,fun _ _ _ _ _ _=>by first|exact aS fun _=>bR rfl|exact aS fun _=>aS fun _=>bR rfl|exact aS fun _=>aS fun _=>aS fun _=>bR rfl|exact aS fun _=>aS fun _=>aS fun _=>aS fun _=>bR rfl|exact bR rfl|exact aS fun _=>aS fun _=>aS fun _=>aS fun _=>aS fun _=>bR rfl⟩):FDX P w K mg base (k+1) x (spX K n (fX N.length m)):=
 let⟨f,fd,a,T⟩:=h
 ⟨⟨f,fd,_,Fw T d.sc d.len d.le fun cdv A outer s H E hr=>b _ cdv A outer s H E hr d.sc.nd,W.mg_of X G a,T.kp,T.binds d.bs⟩⟩
end
variable {P:Program} {w:World} {H G:Hp} {h:Heap} {a b:Addr} {o:Obj} {xs:List (List L2.cK×Addr×Value)} {ks:List (List Int)} {ys:List (List L2.cK×V)}
noncomputable def Sl.dit:Sl->Option (List (List Int)×List D)
 | .tre (.dit ks ds)=>some (ks,ds)
 | .val (.dit ks ds)=>some (ks,ds)
 |_=>none
end M
namespace M
open L2 PySem PySem.Spec
open PyProof.Rows hiding St
noncomputable def Xz (j:Nat)(ρ:R):R:=match ρ[j]? with
 |some (.tre (.dit ks ds))=>ρ.set j (.val (.dit ks ds))
 |_=>ρ
noncomputable def eCallU (F:List D->Option Sl)(ma:MA):ME:=fun ρ=>(ma ρ).bind fun p=>(F p.1).bind fun r=>match r with
 | .tre (.tup cs)=>some (.tup (cs.map Ch.D),p.2)
 |_=>none
noncomputable def fzU (j:Nat)(ρ:R):R:=match ρ[j]? with
 |some (.tre (.tup cs))=>ρ.set j (.val (.tup (cs.map Ch.D)))
 |_=>ρ
noncomputable def Aq (g:D->R->Option R)(mt:MT)(mo:MO):D->R->Option (Option (List D)×R):=fun d ρ=>(g d ρ).bind fun ρ1=>(mt ρ1).bind fun p=>if p.1 then(mo p.2).bind fun q=>if hU q.2 then some (some q.1,q.2)else none else if hU p.2 then some (none,p.2)else none
noncomputable def sZ:List Ch->Option (List (List D))
 |[]=>some []
 | .l ds::cs=>(sZ cs).map (ds:: ·)
 |_=>none
noncomputable def qMod (ma mb:MQ):MQ:=fun ρ=>(ma ρ).bind fun a=>(mb ρ).bind fun b=>match a,b with
 | .int i,.int j=>if 0<j then some (.int (i%j))else none
 |_,_=>none
noncomputable def wW (i:Nat)(ma:MA):MS:=fun ρ=>if(ρ[i]?.bind Sl.items).isSome then(ma ρ).bind fun p=>p.2[i]?.bind fun s=>s.items.bind fun ds=>match p.1 with
 |[.int k,d]=>if 0<=k/\k<=ds.length/\ds.length<16777216 then some (.next,p.2.set i (s.put (ds.take k.toNat++d::ds.drop k.toNat)))else none
 |_=>none else none
section
variable {X:Cx} {x y:Str} {pos p' q' tpos:Pos} {e a b:Expr} {es:List Expr} {mo:MO}
noncomputable def xR:V->List V->Hp->VK->Prop:=fun x vs H Q=>∃l xs y k,x= .ref l/\vs=[.int k,y]/\H l=some (.lst xs)/\0<=k/\k<=xs.length/\xs.length<sizeLine/\Q .non (upd H l (.lst (xs.take k.toNat++y::xs.drop k.toNat)))
theorem zqj:Xr X "list.insert" xR:=by
 intro pins s σ H x vs v us Q I rx rv h;obtain⟨l,xs,y,k,rfl,rfl,hH,hk,hk2,hz,q⟩:=h;cases rx;obtain⟨u1,u2,rfl,ru1,ru2⟩:=rv.two;obtain⟨t,rfl⟩:=ru1;obtain⟨z,its,n,r,hl,e⟩:=I.lstM hH;have hn:=Ep;have hc0:¬(!Builtin.List.listFitsIndex k)=true:=by
  have h1:(-(2^63:Int))<=k:=by lia
  have h2:k<2^63:=by lia
  have h3:Builtin.List.listFitsIndex k=true:=by
   unfold Builtin.List.listFitsIndex;rw[eO];exact⟨eG h1,eG h2⟩
  rw[h3]
  decide
 refine Mb F.slot_list_insert ⟨_,e,rfl⟩ F.entry_list_insert (F.args_list_insert_3 _ _ _) (AutoSeq1.list_insert_list_int_val_1 l its.toArray n k t u2 hc0 (by rw[cO];lia)) ⟨e,?_⟩;refine⟨.non,_,I.lset (its':=its.take k.toNat++u2::its.drop k.toNat) hH e ?_ ((r.take k.toNat).append (.cons ru2 (r.drop k.toNat))) ?_,rfl,q⟩
 ·have h3:¬k<0:=by lia
  have h4:min k.toNat its.length=k.toNat:=by lia
  simp[h3,h4];exact xO (by rw[La];exact bU _)
 ·rw[iC,eU,Cv,La];lia
theorem Gi (i:Nat){ma:MA}{e1 e2:Expr}{apos cpos:Pos}(he:SA X [e1,e2] ma)(hN:autoParam (X.N[i]? =some x) zu3._auto_1)(hv:autoParam (iA X.env.scope x) zu6._auto_1)(hd:autoParam ((x==("__debug__":Str))=false) zu1._auto_1)
  (hcd:autoParam ((x==("__classdict__":Str))=false) zu1._auto_1)
  (hbase:autoParam (attributeBase (.Name x p') "insert" X.env (eval (.Name x p') X.env)=eval (.Name x p') X.env) zu3._auto_1)
  (hfew :autoParam (((backTo cpos (starEach [e1, e2] X.env)).all (fun x => !x.1) && (backToKw cpos (keywordEach [] X.env)).all (fun x => x.1.isSome)
   &&decide ([e1,e2].length+([]:List Keyword).length+(if([]:List Keyword).isEmpty then 0 else 1)<30))=true) zu3._auto_1)
  (hline:autoParam ((apos.endLine==cpos.line)=true) zu3._auto_1) (hs:autoParam (starEach [e1,e2] X.env=(false,eval e1 X.env)::starEach [e2] X.env) zu3._auto_1) (hpl:autoParam ((backTo cpos (starEach [e2] X.env)).any (·.1)=false) zu3._auto_1):SS X (.Expr (.Call (.Attribute (.Name x p') "insert" apos) [e1,e2] [] cpos) pos) (wW i ma):=by
 refine he.el fun t p s=>?_
 refine⟨_,Zb (lA Uu PySem.F.slot_list_insert PySem.F.type_list_insert zqj (jG hN hv hd hcd) p hbase hfew hline hs hpl) (by rfl),fun B G H σ ρ fl ρ' E I hm k=>?_⟩;unfold wW at hm;refine bJ hm fun hso hm=>?_
 ·skip
  obtain⟨ds0,hso⟩:=qaQ.mp hso;refine bA hso fun s0 e0 q0=>?_
  obtain⟨l,xs0,h1,h2,h3,h4⟩:=I.wr e0 q0;refine bP hm fun as ρ1 e1 hm=>?_
  refine bA hm fun s1 e2 hm=>?_
  refine bA hm fun ds e3 hm=>?_
  dsimp only at hm
  split at hm
  ·rename_i kk d y1 y2;refine bJ hm fun hl hm=>?_
   ·skip
    obtain⟨rfl,rfl⟩:=bT hm;refine⟨.ref l,h1,.inl ⟨rfl,_,SqL.of h3⟩,s B G H σ ρ _ ρ1 _ I e1 fun G1 H1 vs I1 f1 r1=>?_⟩;obtain⟨v1,v2,rfl,w1,w2⟩:=r1.two;cases(show v1=V.int kk from w1);obtain⟨l',xs,k1,k2,k3,k4⟩:=I1.wr e2 e3;rw[h1]at k1;cases k1;refine⟨l,xs,v2,kk,rfl,rfl,k3,hl.1,by rw[k4.length];exact hl.2.1,by rw[k4.length,iL];exact hl.2.2,?_⟩;exact k G1 _ σ (I1.write e2 e3 h1 ((k4.take _).append (.cons w2 (k4.drop _)))) f1
  ·exact aM hm
end
noncomputable def Ql (b c:Nat)(ρ:R):Bool:=match ρ[b]?,ρ[c]? with
 |some (.par _),some (.par _)=>hU ((ρ.set b .emp).set c .emp)
 |_,_=>false
noncomputable def Cp (b c:Nat)(g:D->R->Option R)(mt:MT)(me:ME):D->R->Option (Option D×R):=fun d ρ=>(g d ρ).bind fun ρ1=>(mt ρ1).bind fun p=>if p.1 then(me p.2).bind fun q=>if Ql b c q.2 then some (some q.1,q.2)else none else if Ql b c p.2 then some (none,p.2)else none
noncomputable def vT (j:Nat)(me:ME):ME:=fun ρ=>if(ρ[j]?.bind Sl.items).isSome then(me ρ).bind fun p=>match p.1 with
 | .int i=>p.2[j]?.bind fun s=>s.items.bind fun ds=>if 0<=i/\i<ds.length/\ds.length<=16777216 then(ds[i.toNat]?).map fun d=>(d,p.2.set j (s.put (ds.eraseIdx i.toNat)))else none
 |_=>none else none
theorem RepL.erase {K:W.Frag}{G:Hp}:∀{xs:List V} {ds:List D} (k:Nat),RepL K G xs ds->RepL K G (xs.eraseIdx k) (ds.eraseIdx k)
 |_,[],_,h=>by cases h;simp;rfl
 |_,d::ds,0,⟨x,ys,e,a,b⟩=>by subst e;exact b
 |_,d::ds,k+1,⟨x,ys,e,a,b⟩=>by subst e;exact⟨x,_,rfl,a,RepL.erase k b⟩
section
variable {X:Cx} {x:Str} {e:Expr} {me:ME}
theorem Fs (j:Nat){p' apos cpos:Pos}(he:SE X e me)(hN:autoParam (X.N[j]? =some x) zu3._auto_1)(hv:autoParam (iA X.env.scope x) zu6._auto_1)(hd:autoParam ((x==("__debug__":Str))=false) zu1._auto_1)
  (hcd:autoParam ((x==("__classdict__":Str))=false) zu1._auto_1)
  (hbase:autoParam (attributeBase (.Name x p') "pop" X.env (eval (.Name x p') X.env)=eval (.Name x p') X.env) zu3._auto_1)
  (hfew :autoParam (((backTo cpos (starEach [e] X.env)).all (fun x => !x.1) && (backToKw cpos (keywordEach [] X.env)).all (fun x => x.1.isSome)
   &&decide ([e].length+([]:List Keyword).length+(if([]:List Keyword).isEmpty then 0 else 1)<30))=true) zu3._auto_1)
  (hline:autoParam ((apos.endLine==cpos.line)=true) zu3._auto_1) (hs:autoParam (starEach [e] X.env=(false,eval e X.env)::starEach [] X.env) zu3._auto_1):SE X (.Call (.Attribute (.Name x p') "pop" apos) [e] [] cpos) (vT j me):=by
 refine he.el fun t p s=>?_
 refine⟨_,lA Uu PySem.F.slot_list_pop PySem.F.type_list_pop qK (jG hN hv hd hcd) (lS p As hs) hbase hfew hline hs rfl,fun B G H σ ρ d ρ' Q I hm k=>?_⟩;unfold vT at hm;refine bJ hm fun hso hm=>?_
 ·skip
  obtain⟨ds0,hso⟩:=qaQ.mp hso;refine bA hso fun s0 e0 q0=>?_
  obtain⟨l,xs0,h1,h2,h3,h4⟩:=I.wr e0 q0;refine bP hm fun dv ρ1 e1 hm=>?_
  dsimp only at hm
  split at hm
  ·rename_i i;refine bA hm fun s1 e2 hm=>?_
   refine bA hm fun ds e3 hm=>?_
   refine bJ hm fun hl hm=>?_
   ·skip
    refine cW hm fun dd e4 e5=>?_
    obtain⟨rfl,rfl⟩:=Prod.mk.inj e5;refine⟨.ref l,h1,.inl ⟨rfl,_,SqL.of h3⟩,s B G H σ ρ (.int i) ρ1 _ I e1 fun G1 H1 v I1 f1 r1=>?_⟩;obtain⟨l',xs,k1,k2,k3,k4⟩:=I1.wr e2 e3;rw[h1]at k1;cases k1;cases(show v= .int i from r1);obtain⟨y,hy,ry⟩:=k4.get e4;have len:=k4.length;refine⟨l,xs,i,i.toNat,y,rfl,rfl,k3,by lia,by lia,by unfold seqIndex?;simp;lia,hy,?_⟩;exact k G1 _ y (I1.write e2 e3 h1 (k4.erase i.toNat)) f1 ry
  ·exact aM hm
end
end M
namespace M
open PySem PySem.W
open PyProof.Rows (bubble mirror bubble_size bubble_perm mirror_size mirror_perm getElem?_bubble getElem?_mirror_all)
noncomputable def kv (p:Array Nat)(k:Nat):Nat:=p.getD k 0
end M
namespace HT
open PySem
noncomputable def SIt (h:Heap)(I S:Addr)(first:Value)(i n ep:Nat):Prop:=∃o,h.get? I=some o/\o.cls= .type "set_iterator"/\o.data= .fields #[first,.int i 0,.ref S,.int n 0,.int ep 0]
end HT
namespace M
open L2 PySem PySem.Spec
open PyProof.Rows hiding St
theorem Ud:∀{its:List Value} {ns:List Int},IntsAre its ns->Vals (ns.map V.int) its
 |_,_,.nil=> .nil
 |_,_,.cons n t h=> .cons ⟨t,rfl⟩ (Ud h)
end M
namespace M
open L2 PySem
noncomputable def zro (f g h:D->D->Option D)(a b c d:ME):ME:=fun ρ=>(a ρ).bind fun p=>(b p.2).bind fun q=>(f p.1 q.1).bind fun t=>match t with
 | .bl true=>(c q.2).bind fun r=>(g q.1 r.1).bind fun t'=>match t' with
  | .bl true=>(d r.2).bind fun s=>(h r.1 s.1).map fun x=>(x,s.2)
  | .bl false=>some (.bl false,r.2)
  |_=>none
 | .bl false=>some (.bl false,q.2)
 |_=>none
end M
namespace M
open L2 PySem PySem.Spec
open PyProof.Rows hiding St
open Classical in
noncomputable abbrev MG:=R->Option (R×R)
end M
namespace M
open L2 PySem PySem.Spec
open PyProof.Rows hiding St
noncomputable abbrev MXG:=R->Option (Str×R)
end M
namespace M
open L2 PySem PySem.Spec
open PyProof.Rows hiding St
open Builtin Builtin.Str
noncomputable def sIx (x:Str)(i:Int):Option Str:=(atI x.cps.toList i).map fun c=>⟨#[c]⟩
noncomputable def signs (x:Str):List D:=x.cps.toList.map fun c=>D.str ⟨#[c]⟩
end M
namespace M
open L2 PySem PySem.Spec
open PyProof.Rows hiding St
noncomputable def dAt (c:Str)(ns:List Str)(k:Nat):D->Option D
 | .obj c' ns' ls _ _=>if c'=c/\ns'=ns then ls[k]? else none
 |_=>none
noncomputable abbrev MK:=R->Option ((List Int×List D)×R)
noncomputable def kAt (c:Str)(ns:List Str)(me:ME):MK:=fun ρ=>(me ρ).bind fun p=>match p.1 with
 | .obj c' ns' _ ks ds=>if c'=c/\ns'=ns then some ((ks,ds),p.2)else none
 |_=>none
noncomputable def Sl.ob:Sl->Option (Str×List Str×List (List D)×Option (List Int×List D))
 | .tre (.obj c ns ls dk)=>some (c,ns,ls,dk)
 | .ptr (.obj c ns ls dk)=>some (c,ns,ls,dk)
 |_=>none
noncomputable def Uq (c:Str)(ns:List Str)(ls:List (List D))(q:List Int×List D):D:= .obj c ns (ls.map D.lst) q.1 q.2
noncomputable def Wq:Str:="Slant"
noncomputable def Ul:List Str:=["block","weights","ways","backs","slants"]
end M
namespace HT
open PySem PySem.Spec
noncomputable def Qb (prog:Program)(w:World)(A:Around)(P:Nat->Value->Prop)(bt:Nat->Nat->Bool)(s₂:Shared)(wr:List Addr):Prop:=
 ∀i j vi vj h' tk (Q E:Value->Shared->Prop),P i vi->P j vj->(∀b o,b∉wr->s₂.heap.get? b=some o->h'.get? b=some o)->Q (.bool (bt i j)) {s₂ with heap:=h',toks:=tk}->
  wpAny (model prog w) A (richCompare .Gt vi vj) Q E {s₂ with heap:=h',toks:=tk}
theorem Vy:(toString "max"++toString ".loop":String)="max.loop":=by decide
section
variable {prog:Program} {w:World} {A:Around} {R:Result->Shared->Prop} {I:Addr} {fp wr:List Addr} {n:Nat} {P:Nat->Value->Prop} {St:Nat->Heap->Prop}
theorem zrC (W:Walks prog w A.in1 I fp wr n P St)(bt:Nat->Nat->Bool)(s₂:Shared)(lt:Qb prog w A.in1 P bt s₂ wr)(S:Addr)(hSf:S∉fp)(hS0:s₂.heap.get? S=none)
  (hR:∀v h' tk,P (argBest bt (n-1)) v->(∀b o,b∉wr->s₂.heap.get? b=some o->h'.get? b=some o)->R (.ok (.ret v)) {s₂ with heap:=h',toks:=tk}):
  ∀(k j:Nat) (h:Heap) (tk:Nat) (vb:Value) (c:Nat),n-(j+1)=k->j+1<=n->St (j+1) h->P (argBest bt j) vb->
  h.get? S=some {cls:= .type "list",dict:=none,data:= .seq #[vb,vb] c,slots:= #[]}->(∀b o,b∉wr->s₂.heap.get? b=some o->h.get? b=some o)->
  codeAny (model prog w) A (.builtin "max.loop" ⟨[.ref I,.none,.ref S],[]⟩) R {s₂ with heap:=h,toks:=tk}:=by
 have hSw:S∉wr:=fun z=>hSf (W.sub _ z)
 have neS:∀b o,s₂.heap.get? b=some o->S≠b:=fun b o e z=>by rw[<-z,hS0]at e;cases e
 intro k
 induction k with
 |zero=>
  intro j h tk vb c hk hj hst hPb hS hkp;have hin:j+1=n:=by lia
  refine codeAny_builtin F.entry_max_loop ?_;rw[Zw Ex _];show wpAny _ A.in1 (seqItems? (.ref S)>>=_) _ _ _;refine aL (iI hS rfl ?_);show wpAny _ A.in1 (tryCatch (pyNext (.ref I)) _>>=_) _ _ _;refine aL (Ut (W.done _ _ _ (hin ▸ hst) fun h' tk' hk'=>?_));have hS':=hk' S _ hSw hS;show wpAny _ A.in1 (updateSeq S (fun _=> #[])>>=_) _ _ _;refine aL ?_;refine Wz hS' rfl (aL (mQ (qaz ?_)));exact hR vb _ tk' (by rw[<-hin];exact hPb) fun b o hbw e=>(Dy _ _ (neS b o e)).trans (hk' b o hbw (hkp b o hbw e))
 |succ k ih=>
  intro j h tk vb c hk hj hst hPb hS hkp;have hlt:j+1<n:=by lia
  refine codeAny_builtin F.entry_max_loop ?_;rw[Zw Ex _];show wpAny _ A.in1 (seqItems? (.ref S)>>=_) _ _ _;refine aL (iI hS rfl ?_);show wpAny _ A.in1 (tryCatch (pyNext (.ref I)) _>>=_) _ _ _;refine aL (Ut (W.item (j+1) _ _ _ hlt hst fun v h' tk' hP hst' hk'=>?_));have hS':=hk' S _ hSw hS;have hkp':∀b o,b∉wr->s₂.heap.get? b=some o->h'.get? b=some o:=fun b o hb e=>hk' b o hb (hkp b o hb e)
  show wpAny _ A.in1 (tryCatch (holding [v,v] (richCompare .Gt v vb>>=_)) _>>=_) _ _ _;refine aL (Ut (jL (aL (lt (j+1) (argBest bt j) v vb h' tk' _ _ hP hPb hkp' ?_))));refine aL (jL (qO ?_));refine aL (mQ (qaz ?_));cases hb:bt (j+1) (argBest bt j)with
  |true=>
   simp only[if_true];refine aL ?_;refine Wz hS' rfl (aL (mQ ?_));rw[Vy];refine qaz ⟨Wy Ex _,ih (j+1) _ tk' v _ (by lia) hlt (W.frame _ _ _ hst' fun b hbf o e=>?_) (by simp only[argBest,hb,if_true];exact hP) (Sm _ hS' rfl) fun b o hbw e=>?_⟩
   ·exact(Dy _ _ (fun z:S=b=>hSf (by rw[z];exact hbf))).trans e
   ·exact(Dy _ _ (neS b o e)).trans (hkp' b o hbw e)
  |false=>
   simp only[Ja,iK];refine aL (mQ ?_);rw[Vy];exact qaz ⟨Wy Ex _,ih (j+1) _ tk' vb c (by lia) hlt hst' (by simp only[argBest,hb,Ja,iK];exact hPb) hS' hkp'⟩
end
section
variable {prog:Program} {w:World} {A:Around} {E:Value->Shared->Prop} {s:Shared}
theorem zq7 {x:Value}{Q:Value->Shared->Prop}
  (h : wpAny (model prog w) A.in1 (pyIter x) (fun it s₂ => ∃ I fp wr n P St bt, it = .ref I /\ Walks prog w A.in1 I fp wr n P St /\ St 0 s₂.heap /\ (∀ b ∈ fp, b < s₂.heap.objs.size) /\ 0 < n /\ Qb prog w A.in1 P bt s₂ wr /\
   ∀v h' tk,P (argBest bt (n-1)) v->(∀b o,b∉wr->s₂.heap.get? b=some o->h'.get? b=some o)->Q v {s₂ with heap:=h',toks:=tk}) E s):
  wpAny (model prog w) A (call (.builtin "max") [x]) Q E s:=by
 refine call_function_tree F.kind_max F.plain_max F.entry_max (F.args_max1 _) ?_;show wpAny _ A.in1 (Builtin.Builtins.bindParams "max" ["key","default"] 0 ⟨[],[]⟩>>=_) _ _ s;refine aL (wpAny_of_eq (show Builtin.Builtins.bindParams "max" ["key","default"] 0 ⟨[],[]⟩=pure [none,none]from rfl) ?_);refine aL (qaz ?_);refine aL (kW h (fun it s₂ h₂=>?_) fun _ _ e=>e);obtain⟨I,fp,wr,n,P,St,bt,rfl,W,hst,hfp,hn,lt,hQ⟩:=h₂;refine aL (vY ?_);have hSf:s₂.heap.objs.size∉fp:=fun hm=>lV _ (hfp _ hm)
 have hSw:s₂.heap.objs.size∉wr:=fun z=>hSf (W.sub _ z)
 have hS0:s₂.heap.get? s₂.heap.objs.size=none:=by
  cases q:s₂.heap.get? s₂.heap.objs.size with
  |none=>rfl
  |some o=>exact absurd (cY q) (lV _)
 have neS:∀b o,s₂.heap.get? b=some o->s₂.heap.objs.size≠b:=fun b o e z=>by rw[<-z,hS0]at e;cases e
 rw[Vy];refine qaz ⟨Wy Ex _,codeAny_builtin F.entry_max_loop ?_⟩;rw[Zw Ex _];have hS:(s₂.heap.push {cls:= .type "list",data:= .seq #[]}).get? s₂.heap.objs.size=some {cls:= .type "list",data:= .seq #[]}:=eR _ rfl;show wpAny _ A.in1 (seqItems? (.ref s₂.heap.objs.size)>>=_) _ _ _;refine aL (iI hS rfl ?_);show wpAny _ A.in1 (tryCatch (pyNext (.ref I)) _>>=_) _ _ _;refine aL (Ut (W.item 0 _ _ _ hn (W.frame _ _ _ hst fun b _ o e=>bH _ e) fun v h' tk hP hst' hk'=>?_));have hS':=hk' _ _ hSw hS;show wpAny _ A.in1 (updateSeq s₂.heap.objs.size (fun _=> #[v,v])>>=_) _ _ _;refine aL ?_;refine Wz hS' rfl ?_;rw[Vy];refine qaz ⟨Wy Ex _,zrC W bt s₂ lt s₂.heap.objs.size hSf hS0 hQ _ 0 _ tk v _ rfl hn (W.frame _ _ _ hst' fun b hbf o e=>?_) hP (Sm _ hS' rfl) fun b o hbw e=>?_⟩
 ·exact(Dy _ _ (fun z:s₂.heap.objs.size=b=>hSf (by rw[z];exact hbf))).trans e
 ·exact(Dy _ _ (neS b o e)).trans (hk' b o hbw (bH _ e))
end
end HT
namespace M
open L2 PySem PySem.Spec
open PyProof.Rows hiding St
noncomputable def Kz (nss:List (List Int)):Nat:=argBest (fun i j=>HT.jV (nss.getD i []) (nss.getD j [])) (nss.length-1)
noncomputable def Of:List D->Option D
 |[.lst ds]=>(Ij ds).bind fun nss=>if nss.isEmpty then none else ds[Kz nss]?
 |_=>none
noncomputable def Br (K:W.Frag):List V->Hp->VK->Prop:=fun xs H Q=>∃(p:Addr) (as:List Addr) (nss:List (List Int)),xs=[.ref p]/\nss≠[]/\as.length=nss.length/\SqL K H p (as.map V.ref)/\(∀(i:Nat) a ns,as[i]? =some a->nss[i]? =some ns->SqT K H a (ns.map V.int))/\∀a,as[Kz nss]? =some a->Q (.ref a) H
theorem zpF {X:Cx}(hc:X.calm=true)(hu:X.A.units+64<cLine):jM X (.builtin "max") (Br X.K):=by
 intro pins s σ H xs us Q I r h;obtain⟨p,as,nss,rfl,ne,hl,hq,ht,q⟩:=h;obtain⟨u,rfl,ru⟩:=zG r;cases ru;refine HT.zq7 (Fy (A:=X.A.in1) (I.ok.hd hc) I (.inl hq) fun its s₂ St rv W st hfp fin=>?_);have hl2:=rv.length;rw[eL]at hl2;have hp:0<its.length:=by rw[<-hl2,hl];exact qbZ.mpr ne
 have hu':X.A.in1.units<cLine:=zqk hu;have get:∀i a,as[i]? =some a->SqT X.K H a ((nss.getD i []).map V.int):=fun i a e=>by
  have hi:i<nss.length:=by rw[<-hl];exact(qap.mp e).1
  rw[Qa,cG hi];exact ht i a _ e (cG hi)
 refine⟨_,_,_,_,_,_,fun i j=>HT.jV (nss.getD i []) (nss.getD j []),rfl,W,st,hfp,hp,fun i j vi vj h' tk Q' E' hi hj hk qq=>?_,fun v h' tk hP hk=>?_⟩
 ·obtain⟨a,ea,rfl⟩:=zlU rv hi;obtain⟨b,eb,rfl⟩:=zlU rv hj;have I':=fin h' tk hk;obtain⟨its1,r1,p1,_⟩:=I'.tuple (get i a ea);obtain⟨its2,r2,p2,_⟩:=I'.tuple (get j b eb);exact HT.zp0 p1 p2 (zjC r1) (zjC r2) hu' qq
 ·obtain⟨a,ea,rfl⟩:=zlU rv hP;refine⟨.ref a,H,fin h' tk hk,rfl,q a ?_⟩;unfold Kz;rw[<-hl,hl2];exact ea
theorem uK {X:Cx}:VC X (Br X.K) Of:=by
 intro B G H σ ρ xs ds d Q I r hf k
 match ds,hf with
 |[.lst es],hf=>
  refine bA hf fun nss e1 hf=>?_
  split at hf
  ·exact aM hf
  ·rename_i ne;obtain⟨x,rfl,ra⟩:=r.one;obtain⟨p,ys,rfl,hp,ry⟩:=I.lst ra;obtain⟨as,rfl,hl,h⟩:=znq ry e1;refine⟨p,as,nss,rfl,fun z=>ne (by rw[z];rfl),hl,SqL.of hp,fun i a ns h1 h2=>SqT.of (I.fz _ _ (h i a ns h1 h2)),fun a ea=>?_⟩;obtain⟨y,e2,ry2⟩:=ry.get hf;rw[fJ,ea]at e2;cases e2;exact k G H _ I (Fz.refl G) ry2
 |[],hf=>exact aM hf
 |[.non],hf=>exact aM hf
 |[.bl _],hf=>exact aM hf
 |[.int _],hf=>exact aM hf
 |[.str _],hf=>exact aM hf
 |[.tup _],hf=>exact aM hf
 |[.scr _],hf=>exact aM hf
 |[.exc _],hf=>exact aM hf
 |[.dic _ _],hf=>exact aM hf
 |[.dit _ _],hf=>exact aM hf
 |[.obj _ _ _ _ _],hf=>exact aM hf
 |a::b::c,hf=>exact absurd hf (by unfold Of;simp)
theorem xX {X:Cx}{e:Expr}{ma:MA}{p pos:Pos}(hc:X.calm=true)(hu:X.A.units+64<cLine)(ml:X.mg "max"=none)(ha:SA X [e] ma)(hg:autoParam (Gl X "max") zu3._auto_1)(he:autoParam (starEach [e] X.env=(false,eval e X.env)::starEach [] X.env) zu3._auto_1):SE X (.Call (.Name "max" p) [e] [] pos) (mC Of ma):=
 uF (zpF hc hu) uK (by decide+kernel) ml ha hg (by decide) (by decide) he rfl
end M
namespace M
open L2 PySem
variable {c d x:D} {b:MS} {z:Bool} {Q:Fl×R->Prop} {a i n j N:Nat} {f:D->R->Option (Option D×R)} {g:D->R->Option R} {mt:MT} {me m:ME} {ρ:R} {r:Sl} {h:List D->R->Option R} {ds xs ys:List D} {mi ma:MA} {t:Option Sl} {F:List D->Option Sl} {cap:List Nat} {I:R->Prop} {ns:List Int}
noncomputable abbrev Rt {α:Type}(_:α->Prop):Type:=Option α
noncomputable def aK {α:Type}(Q:α->Prop)(o:Rt Q):Prop:=∃a,o=some a/\Q a
noncomputable def Ok {α:Type}(o:Option α)(Q:α->Prop):Prop:=aK Q o
noncomputable abbrev RtS {α:Sort u}(_:α):Type:=Option Sl
section
variable {α β:Type} {o:Option α} {Q Q':α->Prop}
theorem ok_some {a:α}:aK Q (some a)=Q a:=propext ⟨fun⟨_,e,q⟩=>by cases e;exact q,fun q=>⟨a,rfl,q⟩⟩
theorem ok_none:aK Q (none:Option α)=False:=propext ⟨fun⟨_,e,_⟩=>(by cases e),False.elim⟩
theorem Ok.ex (h:Ok o Q):∃a,o=some a/\Q a:=h
theorem ok_bind {f:α->Option β}{Q:β->Prop}:aK Q (o.bind f)=aK (fun a=>aK Q (f a)) o:=by
 cases o with
 |none=>exact propext ⟨fun⟨_,e,_⟩=>(by cases e),fun⟨_,e,_⟩=>(by cases e)⟩
 |some a=>exact propext ⟨fun h=>⟨a,rfl,h⟩,fun⟨_,e,h⟩=>by cases e;exact h⟩
theorem ok_map {f:α->β}{Q:β->Prop}:aK Q (o.map f)=aK (fun a=>Q (f a)) o:=by
 cases o with
 |none=>exact propext ⟨fun⟨_,e,_⟩=>(by cases e),fun⟨_,e,_⟩=>(by cases e)⟩
 |some a=>exact propext ⟨fun h=>⟨a,rfl,ok_some.mp h⟩,fun⟨_,e,h⟩=>by cases e;exact ok_some.mpr h⟩
theorem sQ {c:Prop}[Decidable c]:aK Q (if c then o else none)=(c/\aK Q o):=by
 by_cases h:c
 ·rw[if_pos h];exact propext ⟨fun k=>⟨h,k⟩,fun k=>k.2⟩
 ·rw[if_neg h];exact propext ⟨fun k=>(ok_none.mp k).elim,fun k=>absurd k.1 h⟩
theorem iT:Ok o Q=aK Q o:=rfl
noncomputable def gd {α:Type}(b:Bool)(o:Option α):Option α:=if b then o else none
theorem Rc {b:Bool}(h:b=true):aK Q (gd b o)=aK Q o:=by subst h;rfl
theorem Ok.mono (h:Ok o Q)(k:∀a,Q a->Q' a):Ok o Q':=by
 obtain⟨a,e,q⟩:=h;exact⟨a,e,k a q⟩
theorem cX {Q':α->Prop}(h:∀a,Q a=Q' a):aK Q o=aK Q' o:=by rw[funext h]
theorem Ok.of {a:α}(e:o=some a)(q:Q a):Ok o Q:=⟨a,e,q⟩
end
section
variable {c:MT} {a b:MS} {ρ:R}
theorem Al {α:Type}{o u:Option α}{Q:α->Prop}:aK Q (if z then o else u)=((z=true->aK Q o)/\(z=false->aK Q u)):=by cases z<;>simp
theorem Ge:aK Q (bW c a b ρ)=(aK (fun p=>(p.1=true->aK Q (a p.2))/\(p.1=false->aK Q (b p.2))) (c ρ)):=by
 unfold bW;rw[ok_bind];exact cX fun p=>Al
theorem Hj {a b:ME}{Q:D×R->Prop}:aK Q (Xf c a b ρ)=(aK (fun p=>(p.1=true->aK Q (a p.2))/\(p.1=false->aK Q (b p.2))) (c ρ)):=by
 unfold Xf;rw[ok_bind];exact cX fun p=>Al
theorem xZ {a b:MT}{Q:Bool×R->Prop}:aK Q (Bv a b ρ)=(aK (fun p=>(p.1=true->aK Q (b p.2))/\(p.1=false->Q (false,p.2))) (a ρ)):=by
 unfold Bv;rw[ok_bind];exact cX fun p=>by rw[Al,ok_some]
theorem Jx {a b:MT}{Q:Bool×R->Prop}:aK Q (fE a b ρ)=(aK (fun p=>(p.1=true->Q (true,p.2))/\(p.1=false->aK Q (b p.2))) (a ρ)):=by
 unfold fE;rw[ok_bind];exact cX fun p=>by rw[Al,ok_some]
theorem zE {a b:ME}{Q:D×R->Prop}:aK Q (fB a b ρ)=(aK (fun p=>∃z,p.1= .bl z/\(z=true->aK Q (b p.2))/\(z=false->Q (.bl false,p.2))) (a ρ)):=by
 unfold fB;rw[ok_bind];have:∀p:D×R,Ok (match p.1 with
  | .bl true=>b p.2
  | .bl false=>some (.bl false,p.2)
  |_=>none) Q↔∃z,p.1= .bl z/\(z=true->Ok (b p.2) Q)/\(z=false->Q (.bl false,p.2)):=by
  rintro⟨d,ρ⟩;cases d with
  |bl z=>cases z<;>simp[iT,ok_some]
  |_=>simp[iT,ok_none]
 exact cX fun p=>propext (this p)
theorem Jp {a b:ME}{Q:D×R->Prop}:aK Q (eOr a b ρ)=(aK (fun p=>∃z,p.1= .bl z/\(z=true->Q (.bl true,p.2))/\(z=false->aK Q (b p.2))) (a ρ)):=by
 unfold eOr;rw[ok_bind];have:∀p:D×R,Ok (match p.1 with
  | .bl true=>some (.bl true,p.2)
  | .bl false=>b p.2
  |_=>none) Q↔∃z,p.1= .bl z/\(z=true->Q (.bl true,p.2))/\(z=false->Ok (b p.2) Q):=by
  rintro⟨d,ρ⟩;cases d with
  |bl z=>cases z<;>simp[iT,ok_some]
  |_=>simp[iT,ok_none]
 exact cX fun p=>propext (this p)
theorem rZ {f g:D->D->Option D}{a b c:ME}{Q:D×R->Prop}:aK Q (iZ f g a b c ρ)=(aK (fun p=>aK (fun q=>aK (fun t=>∃z,t= .bl z/\(z=true->aK (fun r=>aK (fun d=>Q (d,r.2)) (g q.1 r.1)) (c q.2))/\(z=false->Q (.bl false,q.2))) (f p.1 q.1)) (b p.2)) (a ρ)):=by
 unfold iZ;rw[ok_bind];have:∀(p q:D×R) (t:D),Ok (match t with
  | .bl true=>(c q.2).bind fun r=>(g q.1 r.1).map fun d=>(d,r.2)
  | .bl false=>some (.bl false,q.2)
  |_=>none) Q↔∃z,t= .bl z/\(z=true->Ok (c q.2) fun r=>Ok (g q.1 r.1) fun d=>Q (d,r.2))/\(z=false->Q (.bl false,q.2)):=by
  intro p q t;cases t with
  |bl z=>
   cases z
   ·simp[iT,ok_some]
   ·simp only[iT,ok_bind,D.bl.injEq,qcr,forall_const,reduceCtorEq,qcs,and_true];exact iff_of_eq (cX fun r=>ok_map)
  |_=>simp[iT,ok_none]
 exact cX fun p=>by rw[ok_bind];exact cX fun q=>by rw[ok_bind];exact cX fun t=>propext (this p q t)
theorem pE {Q:Option D×R->Prop}:aK Q (lF g mt me d ρ)=(aK (fun ρ1=>aK (fun p=>(p.1=true->aK (fun q=>hU q.2=true/\Q (some q.1,q.2)) (me p.2))/\(p.1=false->hU p.2=true/\Q (none,p.2))) (mt ρ1)) (g d ρ)):=by
 unfold lF;rw[ok_bind];exact cX fun ρ1=>by rw[ok_bind];exact cX fun p=>by rw[Al,ok_bind,sQ,ok_some];congr 1;exact propext (imp_congr Iff.rfl (iff_of_eq (cX fun q=>by rw[sQ,ok_some])))
theorem pR {bk:Nat}{Q:Option D×R->Prop}:aK Q (lH bk g mt me d ρ)=(aK (fun ρ1=>aK (fun p=>(p.1=true->aK (fun q=>Iv bk q.2=true/\Q (some q.1,q.2)) (me p.2))/\(p.1=false->Iv bk p.2=true/\Q (none,p.2))) (mt ρ1)) (g d ρ)):=by
 unfold lH;rw[ok_bind];exact cX fun ρ1=>by rw[ok_bind];exact cX fun p=>by rw[Al,ok_bind,sQ,ok_some];congr 1;exact propext (imp_congr Iff.rfl (iff_of_eq (cX fun q=>by rw[sQ,ok_some])))
theorem zpY (n:Nat):Int.natAbs (no_index (OfNat.ofNat n))=n:=rfl
end
section
theorem nS:aK Q (bZ ρ)=(Q (.next,ρ)):=ok_some
noncomputable def oG (b:MS)(Q:Fl×R->Prop)(p:Fl×R):Prop:=aK Q (match p.1 with
 | .next=>b p.2
 |f=>some (f,p.2))
theorem zr5:oG b Q (.next,ρ)=(aK Q (b ρ)):=rfl
theorem oK:oG b Q (.ret r,ρ)=(Q (.ret r,ρ)):=ok_some
theorem pU:oG b Q (.brk,ρ)=(Q (.brk,ρ)):=ok_some
theorem zrn:oG b Q (.cont,ρ)=(Q (.cont,ρ)):=ok_some
theorem wM {a b:MS}:aK Q (aF a b ρ)=(aK (oG b Q) (a ρ)):=ok_bind
theorem nU:aK Q (sL m ρ)=(aK (fun p=>Q (.next,p.2)) (m ρ)):=ok_map
theorem zU:aK Q (aR m ρ)=(aK (fun p=>Q (.ret (.val p.1),p.2)) (m ρ)):=ok_map
theorem rS {m:MO}:aK Q (zL m ρ)=(aK (fun p=>Q (.ret (.own p.1),p.2)) (m ρ)):=ok_map
theorem sO:aK Q (kB i ρ)=aK Q (match ρ[i]? with
 |some (.val d)=>some (.ret (.val d),ρ)
 |some (.own ds)=>some (.ret (.own ds),ρ.set i .emp)
 |_=>none):=rfl
theorem Nd {Q:R->Prop}:aK Q (gN i d ρ)=(Q (ρ.set i (.val d))):=ok_some
theorem rX {ds:List D}{ρ:R}{Q:R->Prop}:aK Q (fG ds ρ)=aK Q (match ds with
 |[]=>some ρ
 |_=>none):=rfl
theorem zqg {Q:R->Prop}:aK Q (bX g h ds ρ)=aK Q (match ds with
 |d::ds=>(g d ρ).bind fun ρ1=>h ds ρ1
 |[]=>none):=rfl
theorem Ob {g:List D->R->Option R}{Q:R->Prop}:aK Q (gT n g d ρ)=aK Q (match d with
 | .tup ds=>if ds.length=n then g ds ρ else none
 |_=>none):=rfl
theorem vF:aK Q (gX m g ρ)=(aK (fun p=>aK (fun ρ'=>Q (.next,ρ')) (g p.1 p.2)) (m ρ)):=ok_bind.trans (cX fun _=>ok_map)
theorem yV:aK Q (aP i m ρ)=(aK (fun p=>Q (.next,p.2.set i (.val p.1))) (m ρ)):=ok_map
theorem oQ {m:MO}:aK Q (fR i m ρ)=(aK (fun p=>Q (.next,p.2.set i (.own p.1))) (m ρ)):=ok_map
theorem wB:aK Q (dB i m ρ)=aK Q (gd ((ρ[i]?.bind Sl.items).isSome) ((m ρ).bind fun p=>p.2[i]?.bind fun s=>s.items.bind fun ds=>if ds.length<16777216 then some (.next,p.2.set i (s.put (ds++[p.1])))else none)):=rfl
theorem wN {mi me:ME}:aK Q (eP j mi me ρ)=aK Q ((me ρ).bind fun p=>gd (eV p.2 j) ((mi p.2).bind fun q=>match q.1 with
 | .int k=>q.2[j]?.bind fun s=>s.items.bind fun ds=>(hZ ds.length k).bind fun n=>some (.next,q.2.set j (s.put (ds.set n p.1)))
 |_=>none)):=rfl
theorem oD {Q:D×R->Prop}:aK Q (eC d ρ)=(Q (d,ρ)):=ok_some
noncomputable def Tw (Q:D×R->Prop)(s:RtS Q)(ρ:R)(i:Nat):Prop:=match s with
 |some (.val d)=>Q (d,ρ)
 |some (.own ds)=>Q (.lst ds,ρ.set i (.val (.lst ds)))
 |_=>False
theorem Qg {Q:D×R->Prop}:Tw Q (some (.val d)) ρ i=Q (d,ρ):=rfl
theorem wD {Q:D×R->Prop}:Tw Q (some (.own ds)) ρ i=Q (.lst ds,ρ.set i (.val (.lst ds))):=rfl
theorem Ot {Q:D×R->Prop}:aK Q (aA i ρ)=Tw Q ρ[i]? ρ i:=by
 unfold aA Tw;cases ρ[i]? with
 |none=>exact ok_none
 |some s=>cases s<;>first|exact ok_some|exact ok_none
noncomputable def Vb (Q:D->D->Prop)(P:Prop)(s:RtS Q)(t:Option Sl):Prop:=match s,t with
 |some (.val x),some (.val y)=>Q x y
 |_,_=>P
theorem Ea {Q:D->D->Prop}{P:Prop}{x y:D}:Vb Q P (some (.val x)) (some (.val y))=Q x y:=rfl
theorem Ik {Q:D->D->Prop}{P:Prop}:Vb Q P (some (.own xs)) t=P:=rfl
theorem zY {Q:D->D->Prop}{P:Prop}:Vb Q P (some (.val x)) (some (.own ys))=P:=rfl
noncomputable def Va (Q:D->Prop)(P:Prop)(s:RtS Q):Prop:=match s with
 |some (.val x)=>Q x
 |_=>P
theorem El {Q:D->Prop}{P:Prop}:Va Q P (some (.val x))=Q x:=rfl
theorem Fe {Q:D->Prop}{P:Prop}:Va Q P (some (.own xs))=P:=rfl
theorem uT {Q:List D×R->Prop}:aK Q (aB ρ)=(Q ([],ρ)):=ok_some
theorem nF {r:MA}{Q:List D×R->Prop}:aK Q (aD m r ρ)=(aK (fun p=>aK (fun q=>Q (p.1::q.1,q.2)) (r p.2)) (m ρ)):=ok_bind.trans (cX fun _=>ok_map)
theorem kQ {f:D->D->Option D}{ma mb:ME}{Q:D×R->Prop}:aK Q (m2 f ma mb ρ)=(aK (fun p=>aK (fun q=>aK (fun d=>Q (d,q.2)) (f p.1 q.1)) (mb p.2)) (ma ρ)):=ok_bind.trans (cX fun _=>ok_bind.trans (cX fun _=>ok_map))
theorem Af {f:D->D->Option D}{a b:Nat}{Q:D×R->Prop}:aK Q (m2 f (aA a) (aA b) ρ)=Vb (fun x y=>aK (fun d=>Q (d,ρ)) (f x y)) (aK (fun p=>aK (fun q=>aK (fun d=>Q (d,q.2)) (f p.1 q.1)) (aA b p.2)) (aA a ρ)) ρ[a]? ρ[b]?:=by
 rw[kQ,Vb.eq_def]
 split
 ·rename_i x y h1 h2;rw[Ot,h1,Qg,Ot,h2,Qg]
 ·rfl
theorem vR {f:D->D->Option D}{Q:D×R->Prop}:aK Q (m2 f (aA a) (eC c) ρ)=Va (fun x=>aK (fun d=>Q (d,ρ)) (f x c)) (aK (fun p=>aK (fun d=>Q (d,p.2)) (f p.1 c)) (aA a ρ)) ρ[a]?:=by
 rw[kQ,Va.eq_def,show(fun p:D×R=>aK (fun q=>aK (fun d=>Q (d,q.2)) (f p.1 q.1)) (eC c p.2))=fun p=>aK (fun d=>Q (d,p.2)) (f p.1 c)from funext fun p=>oD]
 split
 ·rename_i x h1;rw[Ot,h1,Qg]
 ·rfl
theorem vN {f:D->D->Option D}{Q:D×R->Prop}:aK Q (m2 f (eC c) (aA a) ρ)=Va (fun x=>aK (fun d=>Q (d,ρ)) (f c x)) (aK (fun p=>aK (fun d=>Q (d,p.2)) (f c p.1)) (aA a ρ)) ρ[a]?:=by
 rw[kQ,Va.eq_def,oD]
 split
 ·rename_i x h1;rw[Ot,h1,Qg]
 ·rfl
theorem Rk {f:D->Option D}{ma:ME}{Q:D×R->Prop}:aK Q (m1 f ma ρ)=(aK (fun p=>aK (fun d=>Q (d,p.2)) (f p.1)) (ma ρ)):=ok_bind.trans (cX fun _=>ok_map)
theorem Rp {f:List D->Option D}{Q:D×R->Prop}:aK Q (mC f ma ρ)=(aK (fun p=>aK (fun d=>Q (d,p.2)) (f p.1)) (ma ρ)):=ok_bind.trans (cX fun _=>ok_map)
theorem yB {mi:ME}{Q:D×R->Prop}:aK Q (aI j mi ρ)=aK Q (gd (eV ρ j) ((mi ρ).bind fun p=>(p.2[j]?.bind Sl.read).bind fun d=>(cI d p.1).map fun e=>(e,p.2))):=Eq.trans rfl rfl
noncomputable def Az (s:Option Sl)(c:D):Option D:=match s with
 |some (.val d)=>cI d c
 |some (.own ds)=>cI (.lst ds) c
 |some (.par ds)=>cI (.lst ds) c
 |_=>none
theorem xS:Az (some (.val d)) c=cI d c:=rfl
theorem zB:Az (some (.own ds)) c=cI (.lst ds) c:=rfl
theorem yX:Az (some (.par ds)) c=cI (.lst ds) c:=rfl
theorem zo8:(if eV ρ j then(ρ[j]?.bind Sl.read).bind fun d=>(cI d c).map fun e=>(e,ρ)else none)=(Az ρ[j]? c).map fun e=>(e,ρ):=by
 unfold eV;cases ρ[j]? with
 |none=>rfl
 |some s=>cases s<;>rfl
theorem uR {Q:D×R->Prop}:aK Q (aI j (eC c) ρ)=aK (fun e=>Q (e,ρ)) (Az ρ[j]? c):=by
 rw[show aI j (eC c) ρ=(Az ρ[j]? c).map fun e=>(e,ρ)from zo8,ok_map]
theorem xA {Q:D×R->Prop}:aK Q (aI j (aA i) ρ)=Va (fun c=>aK (fun e=>Q (e,ρ)) (Az ρ[j]? c)) (aK Q (gd (eV ρ j) ((aA i ρ).bind fun p=>(p.2[j]?.bind Sl.read).bind fun d=>(cI d p.1).map fun e=>(e,p.2)))) ρ[i]?:=by
 rw[Va.eq_def]
 split
 ·rename_i x h1;rw[show aI j (aA i) ρ=(Az ρ[j]? x).map fun e=>(e,ρ) by
   rw[<-zo8];unfold aI;rw[show aA i ρ=some (x,ρ) by unfold aA;rw[h1]];rfl,ok_map]
 ·rfl
theorem sY {Q:D×R->Prop}:aK Q (cR j ρ)=aK Q ((ρ[j]?.bind Sl.read).bind fun d=>(dZ [d]).map fun e=>(e,ρ)):=rfl
theorem Qy {f:List D->Option (List D)}{Q:List D×R->Prop}:aK Q (oC f ma ρ)=(aK (fun p=>aK (fun d=>Q (d,p.2)) (f p.1)) (ma ρ)):=ok_bind.trans (cX fun _=>ok_map)
theorem vP {Q:D×R->Prop}:aK Q (aY ma ρ)=(aK (fun p=>p.1.length<=16777216/\Q (.tup p.1,p.2)) (ma ρ)):=ok_bind.trans (cX fun _=>by rw[sQ,ok_some])
theorem wC {Q:List D×R->Prop}:aK Q (dC ma ρ)=(aK (fun p=>p.1.length<=16777216/\Q (p.1,p.2)) (ma ρ)):=ok_bind.trans (cX fun _=>by rw[sQ,ok_some])
theorem wK {ma:ME}{Q:Bool×R->Prop}:aK Q (aQ ma ρ)=(aK (fun p=>aK (fun b=>Q (b,p.2)) (wH p.1)) (ma ρ)):=ok_bind.trans (cX fun _=>ok_map)
theorem nE {a:MT}{Q:Bool×R->Prop}:aK Q (lP a ρ)=(aK (fun p=>Q (!p.1,p.2)) (a ρ)):=ok_map
theorem nD {Q:D×R->Prop}:aK Q (bD F ma ρ)=aK Q ((ma ρ).bind fun p=>(F p.1).bind fun r=>match r with
 | .val d=>some (d,p.2)
 | .own ds=>some (.lst ds,p.2)
 |_=>none):=rfl
theorem oY {Q:List D×R->Prop}:aK Q (Kx F ma ρ)=aK Q ((ma ρ).bind fun p=>(F p.1).bind fun r=>match r with
 | .own ds=>some (ds,p.2)
 |_=>none):=rfl
theorem zsd {F:List D->List D->Option (Sl×List D)}{Q:D×R->Prop}:aK Q (cU F j ma ρ)=aK Q (gd ((ρ[j]?.bind Sl.items).isSome) ((ma ρ).bind fun p=>p.2[j]?.bind fun s=>s.items.bind fun cs=>(F cs p.1).bind fun r=>match r.1 with
 | .val d=>some (d,p.2.set j (s.put r.2))
 | .own ds=>some (.lst ds,p.2.set j (s.put r.2))
 |_=>none)):=rfl
theorem ok_iR2L {Q:List D×R->Prop}:aK Q (iR2L ma ρ)=aK Q ((ma ρ).bind fun p=>match p.1 with
 |[.int i,.int j]=>some (jQ i (j-i).toNat,p.2)
 |_=>none):=rfl
theorem Eh {m:MO}{Q:D×R->Prop}:aK Q (cQ m ρ)=(aK (fun p=>Q (.lst p.1,p.2)) (m ρ)):=ok_map
theorem uV {ma:ME}{ml mh:MP}{Q:D×R->Prop}:aK Q (dX ma ml mh ρ)=aK Q ((ma ρ).bind fun p=>(ml p.2).bind fun q=>(mh q.2).bind fun r=>(lZ p.1 q.1 r.1).map fun d=>(d,r.2)):=rfl
theorem Fm {Q:Option Int×R->Prop}:aK Q (iN ρ)=(Q (none,ρ)):=ok_some
theorem mV {Q:Option Int×R->Prop}:aK Q (gE m ρ)=aK Q ((m ρ).bind fun p=>match p.1 with
 | .int i=>some (some i,p.2)
 |_=>none):=rfl
theorem uA {Q:List D×R->Prop}:aK Q (cC m ρ)=(aK (fun p=>aK (fun ds=>Q (ds,p.2)) (dM [p.1])) (m ρ)):=ok_bind.trans (cX fun _=>ok_map)
theorem Gs {Q:List D×R->Prop}:aK Q (fI ma ρ)=aK Q ((ma ρ).bind fun p=>match p.1 with
 |[.int j]=>if iE j then some (jQ 0 j.toNat,p.2)else none
 |_=>none):=rfl
theorem Cu {Q:List D×R->Prop}:aK Q (Mi ma ρ)=aK Q ((ma ρ).bind fun p=>match p.1 with
 |[.int i,.int j]=>if iE i&&iE j then some (jQ i (j-i).toNat,p.2)else none
 |_=>none):=rfl
theorem uD {mb:MS}:aK Q (cL mi g mb ρ)=(aK (fun p=>aK Q (fC (fun d ρ=>(g d ρ).bind fun ρ'=>mb ρ') p.1 p.2)) (mi ρ)):=ok_bind
theorem Ew {t:Nat}{Q:List D×R->Prop}:aK Q (dJ cap t mi g mt me ρ)=aK Q ((mi ρ).bind fun p=>if p.1.length<=16777216 then(iG (lF g mt me) p.1 (gH cap t (fzL cap p.2))).map fun q=>(q.1,fzL cap p.2)else none):=rfl
theorem qE {Q:Bool×R->Prop}:aK Q (dD ρ)=(Q (true,ρ)):=ok_some
theorem uE {T:String}{ma:ME}{Q:D×R->Prop}:aK Q (eIsI T ma ρ)=aK Q ((ma ρ).bind fun p=>if Pq T&&eIsI.noS1 p.1 then some (.bl (Nk T p.1),p.2)else none):=rfl
theorem qV {g:Int->Int->Int}:aK Q (tS i g me ρ)=aK Q (match ρ[i]? with
 |some (.val (.int a))=>(me ρ).bind fun p=>match p.1 with
  | .int b=>some (.next,p.2.set i (.val (.int (g a b))))
  |_=>none
 |_=>none):=rfl
theorem sG {ma:ME}{ml mh ms:MP}{Q:D×R->Prop}:aK Q (Tj ma ml mh ms ρ)=aK Q ((ma ρ).bind fun p=>(ml p.2).bind fun q=>(mh q.2).bind fun r=>(ms r.2).bind fun t=>(Px p.1 q.1 r.1 t.1).map fun d=>(d,t.2)):=rfl
theorem Gk {Q:List D×R->Prop}:aK Q (Mz ma ρ)=aK Q ((ma ρ).bind fun p=>match p.1 with
 |[.int i,.int j,.int k]=>if iE i&&iE j&&decide (0<k)&&decide (k<1073741824)then some (Cs i k (cntS i j k),p.2)else none
 |_=>none):=rfl
theorem yE {ma mb:ME}{Q:List D×R->Prop}:aK Q (yN ma mb ρ)=aK Q ((ma ρ).bind fun p=>(mb p.2).bind fun q=>match p.1,q.1 with
 | .lst xs,.int k=>if iE k&&decide (xs.length*k.toNat<=16777216)then some ((List.replicate k.toNat xs).flatten,q.2)else none
 |_,_=>none):=rfl
theorem Hk {Q:List D×R->Prop}:aK Q (Um ma ρ)=aK Q ((ma ρ).bind fun p=>match p.1 with
 |[a,b]=>(dM [a]).bind fun xs=>(dM [b]).bind fun ys=>some (Hw xs ys,p.2)
 |_=>none):=rfl
theorem Ii {Q:List D×R->Prop}:aK Q (iZ3 ma ρ)=aK Q ((ma ρ).bind fun p=>match p.1 with
 |[a,b,c]=>(dM [a]).bind fun xs=>(dM [b]).bind fun ys=>(dM [c]).bind fun zs=>some (Ct xs ys zs,p.2)
 |_=>none):=rfl
theorem Gq {Q:List D×R->Prop}:aK Q (Sr ma ρ)=aK Q ((ma ρ).bind fun p=>(dM p.1).map fun xs=>(Hm xs,p.2)):=rfl
theorem xP {t b w:Nat}{Q:List D×R->Prop}:aK Q (fN cap t b w mi g mt me ρ)=aK Q ((mi ρ).bind fun p=>if p.1.length<=16777216 then
    ((fzL (cap.filter (· !=w)) p.2)[w]?).bind fun s=>s.items.bind fun cs=>(iG (lH b g mt me) p.1 ((gH cap t (fzL (cap.filter (· !=w)) p.2)).set b (.par cs))).map fun q=>(q.1,(fzL (cap.filter (· !=w)) p.2).set w (s.put (Mp b q.2)))
  else none):=rfl
noncomputable def Bk:Nat->List D->R
 |N,[]=>List.replicate N .emp
 |N,d::ds=> .val d::Bk (N-1) ds
theorem zlE {d:D}:Bk N (d::ds)= .val d::Bk (N-1) ds:=rfl
theorem zrZ:Bk N []=List.replicate N .emp:=rfl
theorem Xg:∀(N:Nat) (ds:List D),ds.map .val++List.replicate (N-ds.length) .emp=Bk N ds
 |_,[]=>rfl
 |N,d::ds=>by rw[zlE,<-Xg (N-1) ds,jW,eU,Nat.sub_sub,Ma 1];rfl
theorem zrt {α β:Type}{f:α->β}{a:α}{l:List α}:(a::l).map f=f a::l.map f:=rfl
theorem mU {α β:Type}{f:α->β}:[].map f=[]:=rfl
theorem Sf {m:MS}{Q:Sl->Prop}:aK Q (fP N m ds)=aK Q ((m (Bk N ds)).bind fun p=>match p.1 with
 | .ret r=>some r
 | .next=>some (.val .non)
 |_=>none):=by rw[<-Xg];rfl
theorem Pb {m:MS}{cs:List D}{Q:Sl×List D->Prop}:aK Q (fM N m cs ds)=aK Q ((m (.par cs::Bk (N-1) ds)).bind fun p=>match p.1,(p.2[0]?:Option Sl)with
 |Fl.ret r,some (Sl.par out)=>some (r,out)
 |Fl.next,some (Sl.par out)=>some (.val .non,out)
 |_,_=>none):=by rw[<-Xg,Nat.sub_sub,Ma 1];rfl
end
noncomputable def Turn (I:R->Prop)(Q:Fl×R->Prop)(p:Fl×R):Prop:=match p.1 with
 | .next=>I p.2
 | .cont=>I p.2
 | .brk=>Q (.next,p.2)
 | .ret r=>Q (.ret r,p.2)
theorem zrY:Turn I Q (.next,ρ)=(I ρ):=rfl
theorem zrp:Turn I Q (.cont,ρ)=(I ρ):=rfl
theorem nX:Turn I Q (.brk,ρ)=(Q (.next,ρ)):=rfl
theorem qP:Turn I Q (.ret r,ρ)=(Q (.ret r,ρ)):=rfl
theorem zp5 {α:Type}{f:D->R->Option (Fl×R)}(enc:α->D)(I:Nat->R->Prop):∀(l:List α) (b:Nat) (ρ:R),I b ρ->
  (∀i a ρ,l[i]? =some a->I (b+i) ρ->Ok (f (enc a) ρ) (Turn (I (b+i+1)) Q))->(∀ρ,I (b+l.length) ρ->Q (.next,ρ))->Ok (fC f (l.map enc) ρ) Q
 |[],b,ρ,h0,_,hq=>ok_some.mpr (hq ρ h0)
 |a::l,b,ρ,h0,hs,hq=>by
  obtain⟨p,e,t⟩:=hs 0 a ρ rfl h0;obtain⟨fl,ρ1⟩:=p;have go:∀ρ1,I (b+1) ρ1->Ok (fC f (l.map enc) ρ1) Q:=fun ρ1 h1=>zp5 enc I l (b+1) ρ1 h1 (fun i a' ρ' hi hp=>by
   have:=hs (i+1) a' ρ' (by simpa using hi) (by rw[show b+(i+1)=b+1+i by lia];exact hp);rw[show b+(i+1)+1=b+1+i+1 by lia]at this;exact this) (fun ρ h=>hq ρ (by rw[eU,show b+(l.length+1)=b+1+l.length by lia];exact h))
  have e':fC f ((a::l).map enc) ρ=(f (enc a) ρ).bind fun p=>match p.1 with
   | .next=>fC f (l.map enc) p.2
   | .cont=>fC f (l.map enc) p.2
   | .brk=>some (.next,p.2)
   | .ret r=>some (.ret r,p.2):=rfl
  rw[e',e];cases fl with
  |next=>exact go ρ1 t
  |cont=>exact go ρ1 t
  |brk=>exact ok_some.mpr t
  |ret r=>exact ok_some.mpr t
theorem rJ {α:Type}{f:D->R->Option (Fl×R)}{enc:α->D}{l:List α}(I:Nat->R->Prop)(h0:I 0 ρ)
  (hs:∀i a ρ,l[i]? =some a->I i ρ->Ok (f (enc a) ρ) (Turn (I (i+1)) Q)) (hq:∀ρ,I l.length ρ->Q (.next,ρ)):Ok (fC f (l.map enc) ρ) Q:=
 zp5 enc I l 0 ρ h0 (fun i a ρ hi h=>by rw[lD]at h ⊢;exact hs i a ρ hi h) (fun ρ h=>hq ρ (by rw[lD]at h;exact h))
theorem znv {α:Type}(enc:α->D){Q:List D×R->Prop}(I:Nat->List D->R->Prop):∀(l:List α) (b:Nat) (acc:List D) (ρ:R),I b acc ρ->
  (∀i a acc ρ,l[i]? =some a->I (b+i) acc ρ->Ok (f (enc a) ρ) fun p=>I (b+i+1) (acc++p.1.toList) p.2)->(∀ds ρ,I (b+l.length) (acc++ds) ρ->Q (ds,ρ))->Ok (iG f (l.map enc) ρ) Q
 |[],b,acc,ρ,h0,_,hq=>ok_some.mpr (hq [] ρ (by rw[Bn];exact h0))
 |a::l,b,acc,ρ,h0,hs,hq=>by
  obtain⟨p,e,t⟩:=hs 0 a acc ρ rfl h0;have go:=znv enc (Q:=fun q=>Q (p.1.toList++q.1,q.2)) I l (b+1) (acc++p.1.toList) p.2 t (fun i a' acc' ρ' hi hp=>by
   have:=hs (i+1) a' acc' ρ' (by simpa using hi) (by rw[show b+(i+1)=b+1+i by lia];exact hp);rw[show b+(i+1)+1=b+1+i+1 by lia]at this;exact this) (fun ds ρ h=>hq _ ρ (by rw[eU,show b+(l.length+1)=b+1+l.length by lia,<-List.append_assoc];exact h))
  have e':iG f ((a::l).map enc) ρ=(f (enc a) ρ).bind fun p=>(iG f (l.map enc) p.2).map fun q=>(p.1.toList++q.1,q.2):=rfl
  rw[e',e];exact ok_map.mpr go
theorem zoF {α:Type}{enc:α->D}{l:List α}{Q:List D×R->Prop}(I:Nat->List D->R->Prop)(h0:I 0 [] ρ)
  (hs:∀i a acc ρ,l[i]? =some a->I i acc ρ->Ok (f (enc a) ρ) fun p=>I (i+1) (acc++p.1.toList) p.2) (hq:∀ds ρ,I l.length ds ρ->Q (ds,ρ)):Ok (iG f (l.map enc) ρ) Q:=
 znv enc I l 0 [] ρ h0 (fun i a acc ρ hi h=>by rw[lD]at h ⊢;exact hs i a acc ρ hi h) (fun ds ρ h=>hq ds ρ (by rw[lD]at h;exact h))
theorem zgr {α β:Type}{f g:α->Option β}:∀(l:List α),(∀a∈l,f a=g a)->l.filterMap f=l.filterMap g
 |[],_=>rfl
 |a::l,h=>by rw[iS,iS,h a mD,zgr l fun b hb=>h b (jD _ hb)]
theorem zmx {α:Type}{enc:α->D}{l:List α}{Q:List D×R->Prop}(P:R->Prop)(g:α->Option D)(h0:P ρ)
  (hs:∀a ρ,a∈l->P ρ->Ok (f (enc a) ρ) fun p=>p.1=g a/\P p.2) (hq:∀ρ,P ρ->Q (l.filterMap g,ρ)):Ok (iG f (l.map enc) ρ) Q:=
 zoF (fun i ds ρ=>ds=(l.take i).filterMap g/\P ρ) ⟨rfl,h0⟩ (fun i a acc ρ hi ⟨e,p⟩=>by
  refine(hs a ρ (Lk hi) p).mono fun r h=>⟨?_,h.2⟩
  obtain⟨h1,h2⟩:=qap.mp hi;rw[h.1,e,List.take_add_one,hi,List.filterMap_append];cases q:g a<;>simp[q]) (fun ds ρ ⟨e,p⟩=>by rw[List.take_length]at e;rw[e];exact hq ρ p)
theorem zrS {α:Type}{enc:α->D}{l:List α}{Q:List D×R->Prop}(P:R->Prop)(g:α->D)(h0:P ρ)
  (hs:∀a ρ,a∈l->P ρ->Ok (f (enc a) ρ) fun p=>p.1=some (g a)/\P p.2) (hq:∀ρ,P ρ->Q (l.map g,ρ)):Ok (iG f (l.map enc) ρ) Q:=
 zmx P (fun a=>some (g a)) h0 hs (fun ρ p=>by rw[<-Lw some g,List.filterMap_eq_map];exact hq ρ p)
theorem uI (i j:Int):bY (.int i) (.int j)=some (.bl (i==j)):=by
 unfold bY;rw[show bQ (.int i)=true from rfl,show bQ (.int j)=true from rfl,show depth (.int i)=0 from rfl]
 rfl
theorem wX (i j:Int):fU (.int i) (.int j)=some (.bl (i !=j)):=by
 unfold fU;rw[show bQ (.int i)=true from rfl,show bQ (.int j)=true from rfl,show depth (.int i)=0 from rfl]
 rfl
theorem pG {α:Type}(xs:List α)(i:Nat):atI xs (i:Int)=xs[i]?:=by
 unfold atI hZ;rw[if_pos (by lia)]
 by_cases h:i<xs.length
 ·rw[if_pos (by lia)];simp
 ·rw[if_neg (by lia)];simp[eE (by lia:xs.length<=i)]
theorem vQ {α:Type}(xs:List α)(n:Nat):atI xs (no_index (@OfNat.ofNat Int n _))=xs[n]?:=pG xs n
theorem Df {α:Type}(xs:List α)(i:Nat):atI xs ((i:Int)+1)=xs[i+1]?:=pG xs (i+1)
theorem Bi (n i:Nat):hZ n (i:Int)=if i<n then some i else none:=by
 unfold hZ;rw[if_pos (by lia)]
 by_cases h:i<n
 ·rw[if_pos (by lia),if_pos h];simp
 ·rw[if_neg (by lia),if_neg h]
theorem wY (n i:Nat):hZ n (no_index (@OfNat.ofNat Int i _))=if i<n then some i else none:=Bi n i
theorem zoU {α:Type}(xs:List α)(x:α):atI (xs++[x]) (-1)=some x:=by
 unfold atI hZ;rw[if_neg (by lia),if_pos (by simp;lia)];have:(-1+((xs++[x]).length:Int)).toNat=xs.length:=by simp;lia
 simp only[kA,this];simp
theorem lT {i j:Int}(h:i.natAbs<18446744073709551616):xM i j=true:=by
 unfold xM;have:decide (i.natAbs<2^64)=true:=eG h;rw[this];rfl
theorem Aj {i j:Int}(h:j.natAbs<18446744073709551616):xM i j=true:=by
 unfold xM;have:decide (j.natAbs<2^64)=true:=eG h;rw[this];simp
theorem kL {j:Int}(h1: -1000000000000<=j)(h2:j<=1000000000000):iE j=true:=by
 unfold iE;rw[eG h1,eG h2];rfl
noncomputable def wL (n:Nat)(f:Nat->D):List D:=(List.range n).map f
noncomputable abbrev wI (n:Nat)(f:Nat->Int):List D:=wL n fun i=> .int (f i)
theorem dQ (n:Nat)(f:Nat->D):(wL n f).length=n:=by simp[wL]
theorem bI (f:Nat->D)(h:i<n):(wL n f)[i]? =some (f i):=by simp[wL,h]
theorem tL (n:Nat)(f:Nat->D):wL (n+1) f=wL n f++[f n]:=by simp[wL,List.range_succ]
theorem tM {f g:Nat->D}(h:∀i,i<n->f i=g i):wL n f=wL n g:=Vn fun i hi=>h i (qah.mp hi)
theorem zor (n:Nat)(f:Nat->D)(x:D):wL n f++[x]=wL (n+1) fun j=>if j<n then f j else x:=by
 rw[tL];congr 1
 ·exact tM fun i hi=>by rw[if_pos hi]
 ·rw[if_neg (by lia)]
theorem Jk (f:Nat->D)(x:D)(h:i<n):(wL n f).set i x=wL n fun j=>if j=i then x else f j:=by
 apply lM;intro j
 by_cases hj:j<n
 ·rw[bI _ hj,tJ]
  by_cases e:i=j
  ·subst e;simp[dQ,h]
  ·simp[e,bI _ hj,Ne.symm e]
 ·rw[eE (by simp[dQ];lia),eE (by simp[dQ];lia)]
theorem Ic (f:Nat->D):atI (wL (n+1) f) (-1)=some (f n):=by rw[tL];exact zoU _ _
theorem zou (n:Nat)(f:Nat->D):Hm (wL n f)=wL n fun i=> .tup [.int (i:Nat),f i]:=by
 apply lM;intro j;unfold Hm
 by_cases hj:j<n
 ·rw[Lb,bI _ hj,bI _ hj];simp[dQ,hj]
 ·rw[eE (by simp[dQ];lia),eE (by simp[dQ];lia)]
theorem zqW (n:Nat)(f g:Nat->D):Hw (wL n f) (wL n g)=wL n fun i=> .tup [f i,g i]:=by
 apply lM;intro j;unfold Hw
 by_cases hj:j<n
 ·rw[Lb,bI _ hj,bI _ hj,bI _ hj]
 ·rw[eE (by simp[dQ];lia),eE (by simp[dQ];lia)]
theorem zo4 {α:Type}(xs:List α)(i:Nat):bS xs none (some (i:Int))=xs.take i:=by
 unfold bS;rw[HT.Vi,HT.Yh,Nat.sub_zero,Wc]
 by_cases h:i<=xs.length
 ·rw[Ts h]
 ·rw[Nat.min_eq_right (by lia),xO (bU _),xO (by lia)]
theorem zmw {α:Type}(xs:List α)(i:Nat):bS xs (some (i:Int)) none=xs.drop i:=by
 unfold bS;rw[HT.Vi,HT.Yh]
 by_cases h:i<=xs.length
 ·rw[Ts h,xO (by simp)]
 ·rw[Nat.min_eq_right (by lia),List.drop_of_length_le (bU _),List.drop_of_length_le (by lia)];simp
theorem Kv:∀(l:List Int),iD (l.map .int)=some l
 |[]=>rfl
 |i::l=>by simp[iD,Kv l]
theorem ziF (bt:Nat->Nat->Bool):∀n,argBest bt n<=n
 |0=>bU 0
 |n+1=>by
  have:=ziF bt n;unfold argBest
  split<;>lia
theorem znH (lt:Int->Int->Bool)(h:ns≠[]):oE lt ns∈ns:=by
 unfold oE;have hl:0<ns.length:=qbZ.mpr h;have:=ziF (fun i j=>lt (ns.getD i 0) (ns.getD j 0)) (ns.length-1)
 generalize argBest (fun i j=>lt (ns.getD i 0) (ns.getD j 0)) (ns.length-1)=k at*
 rw[Qa,cG (by lia)];exact List.getElem_mem _
theorem zln (lt:Int->Int->Bool)(h:ns≠[]):Rn lt [.lst (ns.map .int)]=some (.int (oE lt ns)):=by
 have hne:ns.isEmpty=false:=by cases ns with|nil=>exact absurd rfl h|cons=>rfl
 simp only[Rn,dM,kA,Kv,hne]
 rfl
theorem zqX:∀{ds:List D},(∀d∈ds,bQ d=true)->eK ds=true
 |[],_=>rfl
 |d::ds,h=>by simp only[eK,eO];exact⟨h d mD,zqX fun e he=>h e (jD _ he)⟩
theorem znG {k:Nat}:∀{ds:List D},(∀d∈ds,depth d<=k)->yI ds<=k
 |[],_=>lI _
 |d::ds,h=>by simp only[yI];exact Nat.max_le.mpr ⟨h d mD,znG fun e he=>h e (jD _ he)⟩
noncomputable def Pl (k:Nat)(d:D):Prop:=bQ d=true/\depth d<=k
theorem yP (k:Nat)(i:Int):Pl k (.int i):=⟨rfl,lI _⟩
theorem zZ {k:Nat}(h:∀d∈ds,Pl k d):Pl (k+1) (.tup ds):=⟨by simp only[bQ];exact zqX fun d hd=>(h d hd).1,by simp only[depth];exact Nat.succ_le_succ (znG fun d hd=>(h d hd).2)⟩
theorem jR {k n:Nat}{f:Nat->D}(h:∀i,Pl k (f i)):∀d∈wL n f,Pl k d:=fun d hd=>by
 obtain⟨i,_,rfl⟩:=qbV.mp hd;exact h i
theorem qU (n:Nat):jQ 0 n=wL n fun i=> .int (i:Nat):=by unfold jQ wL;simp only[Int.zero_add]
theorem Wv (lo:Int)(n:Nat):jQ lo n=wL n fun i=> .int (lo+(i:Nat)):=rfl
section
variable {n:Nat} {e:Nat->D} {ρ:R}
theorem gP {f:D->R->Option (Fl×R)}(I:Nat->R->Prop)(h0:I 0 ρ)
  (hs:∀i ρ,i<n->I i ρ->Ok (f (e i) ρ) (Turn (I (i+1)) Q)) (hq:∀ρ,I n ρ->Q (.next,ρ)):Ok (fC f (wL n e) ρ) Q:=
 rJ (enc:=e) (l:=List.range n) I h0 (fun i a ρ hi h=>by
  obtain⟨h1,h2⟩:=qap.mp hi;have:a=i:=by simpa using h2.symm
  subst this;exact hs a ρ (by simpa using h1) h) (fun ρ h=>hq ρ (by simpa using h))
variable {f:D->R->Option (Option D×R)} {Q:List D×R->Prop}
theorem Kr (I:Nat->List D->R->Prop)(h0:I 0 [] ρ)
  (hs:∀i acc ρ,i<n->I i acc ρ->Ok (f (e i) ρ) fun p=>I (i+1) (acc++p.1.toList) p.2) (hq:∀ds ρ,I n ds ρ->Q (ds,ρ)):Ok (iG f (wL n e) ρ) Q:=
 zoF (enc:=e) (l:=List.range n) I h0 (fun i a acc ρ hi h=>by
  obtain⟨h1,h2⟩:=qap.mp hi;have:a=i:=by simpa using h2.symm
  subst this;exact hs a acc ρ (by simpa using h1) h) (fun ds ρ h=>hq ds ρ (by simpa using h))
theorem zr6 (P:R->Prop)(g:Nat->Option D)(h0:P ρ)
  (hs:∀i ρ,i<n->P ρ->Ok (f (e i) ρ) fun p=>p.1=g i/\P p.2) (hq:∀ρ,P ρ->Q ((List.range n).filterMap g,ρ)):Ok (iG f (wL n e) ρ) Q:=
 zmx (enc:=e) (l:=List.range n) P g h0 (fun a ρ ha hp=>hs a ρ (qah.mp ha) hp) hq
theorem eS (P:R->Prop)(g:Nat->D)(h0:P ρ)
  (hs:∀i ρ,i<n->P ρ->Ok (f (e i) ρ) fun p=>p.1=some (g i)/\P p.2) (hq:∀ρ,P ρ->Q (wL n g,ρ)):Ok (iG f (wL n e) ρ) Q:=
 zrS (enc:=e) (l:=List.range n) P g h0 (fun a ρ ha hp=>hs a ρ (qah.mp ha) hp) hq
end
end M
namespace M
theorem Lx (n:Nat)(f:Nat->Int)(x:Int):wI n f++[.int x]=wI (n+1) fun j=>if j<n then f j else x:=by
 rw[wI,zor];exact tM fun j _=>by dsimp only;split<;>rfl
theorem jC {j:Int}(h0:0<j)(h1:j<1073741824):Mc j=true:=by
 have h:j.natAbs.log2<9000:=by
  have:j.natAbs.log2<30:=(Nat.log2_lt (by lia)).mpr (by lia);lia
 unfold Mc;rw[eG h0,eG h];rfl
theorem zrI {j:Int}(h0:0<j)(h1:j<2^250):Mc j=true:=by
 have h:j.natAbs.log2<9000:=by
  have:j.natAbs.log2<250:=(Nat.log2_lt (by lia)).mpr (by lia);lia
 unfold Mc;rw[eG h0,eG h];rfl
theorem lX {n i:Nat}(f:Nat->Int)(x:Int)(h:i<n):(wI n f).set i (.int x)=wI n fun j=>if j=i then x else f j:=by
 rw[wI,Jk _ _ h];exact tM fun j _=>by dsimp only;split<;>rfl
theorem wQ:sS .non=true:=rfl
theorem vO (i:Int):sS (.int i)=false:=rfl
theorem Jm (b:Bool):sS (.bl b)=false:=rfl
theorem zM (s:PySem.Str):sS (.str s)=false:=rfl
theorem vC (ds:List D):sS (.lst ds)=false:=rfl
theorem yW (ds:List D):sS (.tup ds)=false:=rfl
end M
namespace M
open L2 PySem
variable {s b j i c N:Nat} {g:D->R->Option R} {v:Int} {Q:Fl×R->Prop} {d:D} {F:List D->T->List D->Option (Sl×List D)} {mo:MO} {ma:MA} {is:List Nat} {ds:List D} {mt:MT} {me:ME} {ls:List (List D)} {q:List Int×List D}
theorem nR (ds:List D):dM [.lst ds]=some ds:=rfl
theorem nV (ds:List D):dM [.tup ds]=some ds:=rfl
theorem pZ (ns:List Int):dM [.scr ns]=some (ns.map .int):=rfl
theorem rE (ds:List D):dZ [.lst ds]=some (.int ds.length):=rfl
theorem nN (ds:List D):dZ [.tup ds]=some (.int ds.length):=rfl
theorem Et (ns:List Int):dZ [.scr ns]=some (.int ns.length):=rfl
theorem pF (ds:List D):fW [.lst ds]=some (.tup ds):=rfl
theorem pN (ds:List D):fW [.tup ds]=some (.tup ds):=rfl
theorem pA (ns:List Int):fW [.scr ns]=some (.tup (ns.map .int)):=rfl
theorem Dd (ds:List D)(a b:Option Int):lZ (.lst ds) a b=some (.lst (bS ds a b)):=rfl
theorem Jd (ds:List D)(a b:Option Int):lZ (.tup ds) a b=some (.tup (bS ds a b)):=rfl
theorem Cy (ns:List Int)(a b:Option Int):lZ (.scr ns) a b=some (.lst ((bS ns a b).map .int)):=rfl
theorem Oi (ds:List D)(i:Int):cI (.lst ds) (.int i)=atI ds i:=rfl
theorem Pe (ds:List D)(i:Int):cI (.tup ds) (.int i)=atI ds i:=rfl
theorem Qv (ns:List Int)(i:Int):cI (.scr ns) (.int i)=(atI ns i).map .int:=rfl
theorem uZ (a b:Str):bY (.str a) (.str b)=some (.bl (a==b)):=by
 unfold bY;rw[show bQ (.str a)=true from rfl,show bQ (.str b)=true from rfl,show depth (.str a)=0 from rfl]
 rfl
theorem zF (n:Nat)(f g h:Nat->D):Ct (wL n f) (wL n g) (wL n h)=wL n fun i=> .tup [f i,g i,h i]:=by
 apply lM;intro j;unfold Ct
 by_cases hj:j<n
 ·have e:(List.zip (wL n g) (wL n h))[j]? =some (g j,h j):=by
   rw[List.getElem?_zip_eq_some];exact⟨bI g hj,bI h hj⟩
  rw[Lb,e,bI _ hj,bI _ hj]
 ·rw[eE (by simp[dQ];lia),eE (by simp[dQ];lia)]
structure Sq (d:D) (n:Nat) (f:Nat->Int):Prop where
 it:dM [d]=some (wI n f)
 ln:dZ [d]=some (.int n)
 tp:fW [d]=some (.tup (wI n f))
 ix:∀i,cI d (.int i)=atI (wI n f) i
 ct:∀lo hi,∃d',lZ d lo hi=some d'/\dM [d']=some (bS (wI n f) lo hi)
theorem Sq.lst (n:Nat)(f:Nat->Int):Sq (.lst (wI n f)) n f:=⟨rfl,by rw[rE,dQ],rfl,fun _=>rfl,fun lo hi=>⟨_,rfl,rfl⟩⟩
theorem Sq.tup (n:Nat)(f:Nat->Int):Sq (.tup (wI n f)) n f:=⟨rfl,by rw[nN,dQ],rfl,fun _=>rfl,fun lo hi=>⟨_,rfl,rfl⟩⟩
noncomputable def Lh (s:Nat)(a b:Nat->Int):Bool:=(List.range s).map a==(List.range s).map b
theorem Ue:∀(xs ys:List Int),dS (xs.map D.int) (ys.map D.int)=(xs==ys)
 |[],[]=>rfl
 |[],_::_=>rfl
 |_::_,[]=>rfl
 |x::xs,y::ys=>by simp[dS,fO,Ue xs ys]
theorem Li (n:Nat)(f:Nat->Int):wI n f=((List.range n).map f).map .int:=by simp[wL,Ba,Lw]
theorem Iz (s:Nat)(a b:Nat->Int):bY (.tup (wI s a)) (.tup (wI s b))=some (.bl (Lh s a b)):=by
 have p1:Pl 1 (.tup (wI s a)):=zZ (jR fun c=>yP 0 _);have p2:Pl 1 (.tup (wI s b)):=zZ (jR fun c=>yP 0 _);unfold bY;rw[p1.1,p2.1,eG (gY p1.2 (by decide:1<=50))];simp only[Zg,if_true,fO];rw[Li,Li,Ue];rfl
theorem Fx (s:Nat)(a b:Nat->Int):fU (.tup (wI s a)) (.tup (wI s b))=some (.bl (!Lh s a b)):=by
 have p1:Pl 1 (.tup (wI s a)):=zZ (jR fun c=>yP 0 _);have p2:Pl 1 (.tup (wI s b)):=zZ (jR fun c=>yP 0 _);unfold fU;rw[p1.1,p2.1,eG (gY p1.2 (by decide:1<=50))];simp only[Zg,if_true,fO];rw[Li,Li,Ue];rfl
theorem eqW_iff {a b:Nat->Int}:Lh s a b=true↔∀i,i<s->a i=b i:=by
 unfold Lh;rw[qbG]
 constructor
 ·intro h i hi;have:=congrArg (fun l=>l[i]?) h;simpa[hi]using this
 ·intro h;exact Vn fun i hi=>h i (qah.mp hi)
theorem Im (n:Nat)(b:Nat->Bool):yQ (wL n fun i=> .bl (b i))=some ((List.range n).map b):=by
 have:∀l:List Nat,yQ (l.map fun i=>D.bl (b i))=some (l.map b):=by
  intro l
  induction l with
  |nil=>rfl
  |cons a l ih=>simp[yQ,ih]
 exact this _
theorem Lj (n:Nat)(b:Nat->Bool):(((List.range n).map b).all id=true)↔∀i,i<n->b i=true:=by simp
theorem kT (n:Nat)(b:Nat->Bool):(((List.range n).map b).any id=true)↔∃i,i<n/\b i=true:=by simp
theorem kF {j n m i:Nat}(hm:0<m):i<cntS (j:Int) (n:Int) (m:Int)↔j+i*m<n:=by
 unfold cntS
 by_cases h:(j:Int)<(n:Int)
 ·rw[if_pos h];have e:((n:Int)-(j:Int)-1)/(m:Int)=(((n-j-1)/m:Nat):Int):=by
   rw[Int.natCast_ediv];congr 1;lia
  have e2:∀q:Nat,((q:Int)+1).toNat=q+1:=fun q=>by lia
  rw[e,e2,Nat.lt_succ_iff,Jy hm];lia
 ·rw[if_neg h]
  constructor
  ·intro h;lia
  ·intro h;lia
theorem zqZ {α β:Type}{h:α->Option β}{g:α->β}:∀(l:List α),(∀a∈l,h a=some (g a))->l.filterMap h=l.map g
 |[],_=>rfl
 |a::l,e=>by rw[iS,e a mD,jW,zqZ l fun b hb=>e b (jD _ hb)]
theorem Sz {n j m:Nat}(f:Nat->D)(hm:0<m)(hj:j<n):gF (wL n f) (some (j:Int)) none (some (m:Int))=wL (cntS (j:Int) (n:Int) (m:Int)) fun i=>f (j+i*m):=by
 have hb:sliceBounds (some (j:Int)) none (some (m:Int)) n=((j:Int),(n:Int),(m:Int)):=by
  have:(m:Int)>0:=by lia
  simp[sliceBounds,this];lia
 unfold gF;rw[dQ,hb];unfold sliceRange;have h1:(m:Int)>0:=by lia
 have h2:(j:Int)<(n:Int):=by lia
 simp only[h1,h2,if_true];have ec:(((n:Int)-(j:Int)+(m:Int)-1)/(m:Int)).toNat=cntS (j:Int) (n:Int) (m:Int):=by
  unfold cntS;rw[if_pos h2,show((n:Int)-(j:Int)+(m:Int)-1)=((n:Int)-(j:Int)-1)+(m:Int) by lia,Int.add_ediv_of_dvd_right (Int.dvd_refl _),Int.ediv_self (by lia)]
 rw[ec];rw[List.filterMap_map];apply zqZ;intro i hi;have hi:j+i*m<n:=(kF hm).mp (qah.mp hi);have ht:((j:Int)+(m:Int)*(i:Int)).toNat=j+i*m:=by
  rw[show((j:Int)+(m:Int)*(i:Int))=((j+i*m:Nat):Int) by push_cast;rw[Int.mul_comm]];lia
 simp only[Lw,ht];exact bI f hi
noncomputable def aG:Nat->(Nat->Int)->Int
 |0,_=>0
 |n+1,f=>aG n f+f n
theorem gU {f g:Nat->Int}:∀{n:Nat},(∀i,i<n->f i=g i)->aG n f=aG n g
 |0,_=>rfl
 |n+1,h=>by rw[aG,aG,gU fun i hi=>h i (by lia),h n (by lia)]
theorem Km (f g:Nat->Int):∀n,aG n (fun i=>f i+g i)=aG n f+aG n g
 |0=>rfl
 |n+1=>by simp only[aG,Km f g n];lia
theorem zl5 (f g:Nat->Int):∀n,aG n (fun i=>f i-g i)=aG n f-aG n g
 |0=>rfl
 |n+1=>by simp only[aG,zl5 f g n];lia
theorem Uv:∀n,aG n (fun _=>0)=0
 |0=>rfl
 |n+1=>by simp only[aG,Uv n];lia
theorem Vu (a:Int)(f:Nat->Int):∀n,aG n (fun i=>a*f i)=a*aG n f
 |0=>by simp[aG]
 |n+1=>by simp only[aG,Vu a f n,Int.mul_add]
theorem tF {f g:Nat->Int}:∀{n:Nat},(∀i,i<n->f i<=g i)->aG n f<=aG n g
 |0,_=>Jc _
 |n+1,h=>by
  have h1:=tF (n:=n) fun i hi=>h i (by lia)
  have h2:=h n (by lia);simp only[aG];lia
theorem tW (f:Nat->Int)(a:Nat):∀b,aG (a+b) f=aG a f+aG b fun i=>f (a+i)
 |0=>by simp[aG]
 |b+1=>by rw[show a+(b+1)=a+b+1 by lia,aG,aG,tW f a b];lia
theorem iO (f:Nat->Int):∀n,((List.range n).map f).sum=aG n f
 |0=>rfl
 |n+1=>by simp[List.range_succ,iO f n,aG]
theorem iM (n:Nat)(f:Nat->Int):iD (wI n f)=some ((List.range n).map f):=by
 have:wI n f=((List.range n).map f).map .int:=by simp[wL,Ba,Lw]
 rw[this,Kv]
theorem Oy {n a b:Nat}(f:Nat->D)(h:a+b<=n):bS (wL n f) (some (a:Int)) (some ((a:Int)+(b:Int)))=wL b fun i=>f (a+i):=by
 have e:bS (wL n f) (some (a:Int)) (some ((a:Int)+(b:Int)))=((wL n f).drop a).take b:=by
  unfold bS;rw[HT.Vi,show((a:Int)+(b:Int))=((a+b:Nat):Int) by lia,HT.Vi,dQ];rw[Ts h,Ts (by lia:a<=n),Nat.add_sub_cancel_left]
 rw[e];apply lM;intro j
 by_cases hj:j<b
 ·rw[qaX hj,qcz,bI _ (by lia),bI _ hj]
 ·rw[eE (by simp[dQ];lia),eE (by rw[dQ];lia)]
theorem zhA (v:Nat->Int):∀n i,i<=n->v i<=v (argBest (fun i j=>decide (v i>v j)) n)
 |0,i,h=>by rw[show i=0 by lia];exact Jc _
 |n+1,i,h=>by
  simp only[argBest]
  by_cases c:v (n+1)>v (argBest (fun i j=>decide (v i>v j)) n)
  ·rw[if_pos (eG c)]
   by_cases e:i=n+1
   ·rw[e];exact Jc _
   ·have:=zhA v n i (by lia);lia
  ·rw[if_neg (by simpa using c)]
   by_cases e:i=n+1
   ·rw[e];lia
   ·exact zhA v n i (by lia)
theorem zhw (v:Nat->Int):∀n i,i<=n->v (argBest (fun i j=>decide (v i<v j)) n)<=v i
 |0,i,h=>by rw[show i=0 by lia];exact Jc _
 |n+1,i,h=>by
  simp only[argBest]
  by_cases c:v (n+1)<v (argBest (fun i j=>decide (v i<v j)) n)
  ·rw[if_pos (eG c)]
   by_cases e:i=n+1
   ·rw[e];exact Jc _
   ·have:=zhw v n i (by lia);lia
  ·rw[if_neg (by simpa using c)]
   by_cases e:i=n+1
   ·rw[e];lia
   ·exact zhw v n i (by lia)
theorem zoG (g:Nat->Int)(h:i<c):((List.range c).map g).getD i 0=g i:=by
 rw[Qa];simp[h]
theorem Mh (g:Nat->Int)(hc:0<c):∃v,gL [.lst (wI c g)]=some (.int v)/\(∃i,i<c/\g i=v)/\∀i,i<c->g i<=v:=by
 have hne:(List.range c).map g≠[]:=fun h=>by have:=congrArg List.length h;simp at this;lia
 have e1:wI c g=((List.range c).map g).map .int:=by simp[wL,Ba,Lw]
 refine⟨_,by rw[e1];exact zln _ hne,?_,?_⟩
 ·obtain⟨i,hi,e⟩:=qbV.mp (znH (fun i j=>decide (i>j)) hne);exact⟨i,qah.mp hi,e⟩
 ·intro i hi;have:=zhA (fun i=>((List.range c).map g).getD i 0) (c-1) i (by lia);rw[zoG g hi]at this;unfold oE;rw[eL,Sj];exact this
theorem kR (g:Nat->Int)(hc:0<c):∃v,jZ [.lst (wI c g)]=some (.int v)/\(∃i,i<c/\g i=v)/\∀i,i<c->v<=g i:=by
 have hne:(List.range c).map g≠[]:=fun h=>by have:=congrArg List.length h;simp at this;lia
 have e1:wI c g=((List.range c).map g).map .int:=by simp[wL,Ba,Lw]
 refine⟨_,by rw[e1];exact zln _ hne,?_,?_⟩
 ·obtain⟨i,hi,e⟩:=qbV.mp (znH (fun i j=>decide (i<j)) hne);exact⟨i,qah.mp hi,e⟩
 ·intro i hi;have:=zhw (fun i=>((List.range c).map g).getD i 0) (c-1) i (by lia);rw[zoG g hi]at this;unfold oE;rw[eL,Sj];exact this
theorem pX (f:Nat->Int){n m j:Nat}(hm:0<m)(hj:j<m)(hn:m<=n):∃v,gL [.lst (gF (wI n f) (some (j:Int)) none (some (m:Int)))]=some (.int v)/\(∃p,p<n/\p%m=j/\f p=v)/\∀p,p<n->p%m=j->f p<=v:=by
 rw[wI,Sz _ hm (by lia)];obtain⟨v,e,⟨i,hi,ei⟩,h⟩:=Mh (fun i=>f (j+i*m)) (c:=cntS (j:Int) (n:Int) (m:Int)) ((kF hm).mpr (by lia));refine⟨v,e,⟨j+i*m,(kF hm).mp hi,by rw[Vk,jO hj],ei⟩,fun p hp hpm=>?_⟩;have e2:j+p/m*m=p:=by have:=Nat.mod_add_div p m;rw[Mv];lia
 have:=h (p/m) ((kF hm).mpr (by lia));rw[e2]at this;exact this
theorem rF (f:Nat->Int){n m j:Nat}(hm:0<m)(hj:j<m)(hn:m<=n):∃v,jZ [.lst (gF (wI n f) (some (j:Int)) none (some (m:Int)))]=some (.int v)/\(∃p,p<n/\p%m=j/\f p=v)/\∀p,p<n->p%m=j->v<=f p:=by
 rw[wI,Sz _ hm (by lia)];obtain⟨v,e,⟨i,hi,ei⟩,h⟩:=kR (fun i=>f (j+i*m)) (c:=cntS (j:Int) (n:Int) (m:Int)) ((kF hm).mpr (by lia));refine⟨v,e,⟨j+i*m,(kF hm).mp hi,by rw[Vk,jO hj],ei⟩,fun p hp hpm=>?_⟩;have e2:j+p/m*m=p:=by have:=Nat.mod_add_div p m;rw[Mv];lia
 have:=h (p/m) ((kF hm).mpr (by lia));rw[e2]at this;exact this
theorem zpH (f:Nat->Int){n m j:Nat}(hm:0<m)(hj:j<m)(h:∃p,p<n/\p%m=j/\f p=v):∃i:Nat,Rg (.lst (gF (wI n f) (some (j:Int)) none (some (m:Int)))) (.int v)=some (.int i)/\j+i*m<n/\f (j+i*m)=v:=by
 obtain⟨p,hp,hpm,hv⟩:=h;have hjn:j<n:=by have:=Nat.mod_le p m;lia
 rw[wI,Sz _ hm hjn];have e2:j+p/m*m=p:=by have:=Nat.mod_add_div p m;rw[Mv];lia
 have hc:p/m<cntS (j:Int) (n:Int) (m:Int):=(kF hm).mpr (by lia);have mem:v∈(List.range (cntS (j:Int) (n:Int) (m:Int))).map fun i=>f (j+i*m):=qbV.mpr ⟨p/m,qah.mpr hc,by rw[e2];exact hv⟩
 have e3:iD (wL (cntS (j:Int) (n:Int) (m:Int)) fun i=>D.int (f (j+i*m)))=some ((List.range (cntS (j:Int) (n:Int) (m:Int))).map fun i=>f (j+i*m)):=iM _ fun i=>f (j+i*m)
 have hl:=List.idxOf_lt_length_iff.mpr mem;have hg:=List.getElem_idxOf hl;refine⟨List.idxOf v ((List.range (cntS (j:Int) (n:Int) (m:Int))).map fun i=>f (j+i*m)),by simp only[Rg,e3,kA,mem,if_true],?_,?_⟩
 ·exact(kF hm).mp (by simpa using hl)
 ·rw[List.getElem_map,List.getElem_range]at hg;exact hg
theorem We {mc:MT}{mb:MS}(I:Nat->R->Prop)(turn:∀m ρ,I m ρ->Ok (mc ρ) fun p=>(p.1=true->∃m',m=m'+1/\Ok (mb p.2) fun q=>q.1= .next/\I m' q.2)/\(p.1=false->Q (.next,p.2))):∀(fuel m:Nat) (ρ:R),m<fuel->I m ρ->Ok (tI mc mb fuel ρ) Q
 |0,m,ρ,h,_=>by lia
 |n+1,m,ρ,h,hI=>by
  obtain⟨⟨b,ρ1⟩,e,h1,h2⟩:=(turn m ρ hI);unfold tI;rw[e];cases b with
  |false=>exact ok_some.mpr (h2 rfl)
  |true=>
   obtain⟨m',rfl,h3⟩:=h1 rfl;obtain⟨⟨f,ρ2⟩,e2,ef,hI2⟩:=h3;show Ok ((mb ρ1).bind _) Q;rw[e2];cases(show f= .next from ef);exact We I turn n m' ρ2 (by lia) hI2
theorem Rz {mi:ME}{ρ:R}{Q:R->Prop}:aK Q (gS j mi d ρ)=aK Q (gd (eV ρ j) ((mi ρ).bind fun q=>match q.1 with
 | .int k=>q.2[j]?.bind fun s=>s.items.bind fun ds=>(hZ ds.length k).bind fun n=>some (q.2.set j (s.put (ds.set n d)))
 |_=>none)):=rfl
theorem like_par (ns:List Int):Nq (.par (ns.map .int)) (.par (ns.map .int))=true:=by
 show(match iD (ns.map D.int),iD (ns.map D.int)with
  |some a,some b=>a==b
  |_,_=>false)=true
 rw[Kv];exact gM ns
section
variable {j:Nat} {mk me:ME} {ρ:R}
theorem Dg {neg:Bool}{Q:Bool×R->Prop}:aK Q (tDI j neg mk ρ)=(aK (fun p=>aK Q (match p.1 with
 | .int k=>(p.2[j]?.bind Sl.dic).map fun q=>(((lR q.1 q.2 k).isSome !=neg),p.2)
 |_=>none)) (mk ρ)):=ok_bind
theorem Hs {Q:D×R->Prop}:aK Q (Wn j mk ρ)=aK Q (gd ((ρ[j]?.bind Sl.dic).isSome) ((mk ρ).bind fun p=>match p.1 with
 | .int k=>(p.2[j]?.bind Sl.dic).bind fun q=>(lR q.1 q.2 k).map fun d=>(d,p.2)
 |_=>none)):=rfl
theorem Ee:aK Q (sDP j mk me ρ)=aK Q ((me ρ).bind fun p=>gd ((p.2[j]?.bind Sl.dic).isSome) ((mk p.2).bind fun q=>match q.1 with
 | .int k=>q.2[j]?.bind fun s=>match s.tree with
  |some (.dic ks ds)=>if ks.length<16777216 then some (.next,q.2.set j (s.putT (.dic (sT ks ds k p.1).1 (sT ks ds k p.1).2)))else none
  |_=>none
 |_=>none)):=rfl
theorem Ka:aK Q (Zv j ρ)=(Q (.next,ρ.set j (.tre (.dic [] [])))):=ok_some
theorem zN {m:MS}:aK Q (Je j m ρ)=aK Q (m (fzD j ρ)):=rfl
theorem ok_eCallMO {F:List D->List D->Option (Sl×List D)}{Q:D×R->Prop}:aK Q (uB F mo ma ρ)=aK Q ((mo ρ).bind fun p=>(ma p.2).bind fun q=>(F p.1 q.1).bind fun r=>match r.1 with
 | .val d=>some (d,q.2)
 | .own ds=>some (.lst ds,q.2)
 |_=>none):=rfl
theorem zpt {mp:kS}{Q:D×R->Prop}:aK Q (Vh F j mp ma ρ)=aK Q (gd ((ρ[j]?.bind Sl.items).isSome) ((mp ρ).bind fun c=>if c.1.length<=16777216 then(ma c.2).bind fun p=>p.2[j]?.bind fun s=>s.items.bind fun cs=>(F cs (.lst c.1) p.1).bind fun r=>match r.1 with
 | .val d=>some (d,p.2.set j (s.put r.2))
 | .own ds=>some (.lst ds,p.2.set j (s.put r.2))
 |_=>none else none)):=rfl
theorem Ab:aK Q (yL j is ρ)=aK Q (match ρ[j]? with
 |some (.tre (.lst cs))=>if cs.length=is.length then some (.next,Mj is cs (ρ.set j .emp))else none
 |_=>none):=rfl
theorem vW {Q:List Ch×R->Prop}:aK Q (Ft ρ)=(Q ([],ρ)):=ok_some
theorem vH {r:kS}{Q:List Ch×R->Prop}:aK Q (Ec me r ρ)=(aK (fun p=>aK (fun q=>Q (.d p.1::q.1,q.2)) (r p.2)) (me ρ)):=ok_bind.trans (cX fun _=>ok_map)
theorem xT {r:kS}{Q:List Ch×R->Prop}:aK Q (lJ j r ρ)=aK Q (match ρ[j]? with
 |some (.own ds)=>(r (ρ.set j .emp)).map fun q=>(.l ds::q.1,q.2)
 |_=>none):=rfl
theorem Dz {m:MS}{cs:List D}{t:T}{Q:Sl×List D->Prop}:aK Q (Wp N m cs t ds)=aK Q ((m (.par cs:: .tre t::Bk (N-2) ds)).bind fun p=>match p.1,(p.2[0]?:Option Sl)with
 |Fl.ret r,some (Sl.par out)=>some (r,out)
 |Fl.next,some (Sl.par out)=>some (.val .non,out)
 |_,_=>none):=by rw[<-Xg,Nat.sub_sub,Ma 2];rfl
theorem xI:aK Q (Eb i j ma ρ)=aK Q ((ma ρ).bind fun p=>match p.1 with
 |[c,d]=>some (.next,(p.2.set i (.val c)).set j (.val d))
 |_=>none):=rfl
theorem oU {Q:Option (List D)×R->Prop}:aK Q (Aq g mt mo d ρ)=(aK (fun ρ1=>aK (fun p=>(p.1=true->aK (fun q=>hU q.2=true/\Q (some q.1,q.2)) (mo p.2))/\(p.1=false->hU p.2=true/\Q (none,p.2))) (mt ρ1)) (g d ρ)):=by
 unfold Aq;rw[ok_bind];exact cX fun ρ1=>by rw[ok_bind];exact cX fun p=>by rw[Al,ok_bind,sQ,ok_some];congr 1;exact propext (imp_congr Iff.rfl (iff_of_eq (cX fun q=>by rw[sQ,ok_some])))
theorem vV:aK Q (wW j ma ρ)=aK Q (gd ((ρ[j]?.bind Sl.items).isSome) ((ma ρ).bind fun p=>p.2[j]?.bind fun s=>s.items.bind fun ds=>match p.1 with
 |[.int k,d]=>if 0<=k/\k<=ds.length/\ds.length<16777216 then some (.next,p.2.set j (s.put (ds.take k.toNat++d::ds.drop k.toNat)))else none
 |_=>none)):=rfl
theorem oM {Q:Option D×R->Prop}:aK Q (Cp b c g mt me d ρ)=(aK (fun ρ1=>aK (fun p=>(p.1=true->aK (fun q=>Ql b c q.2=true/\Q (some q.1,q.2)) (me p.2))/\(p.1=false->Ql b c p.2=true/\Q (none,p.2))) (mt ρ1)) (g d ρ)):=by
 unfold Cp;rw[ok_bind];exact cX fun ρ1=>by rw[ok_bind];exact cX fun p=>by rw[Al,ok_bind,sQ,ok_some];congr 1;exact propext (imp_congr Iff.rfl (iff_of_eq (cX fun q=>by rw[sQ,ok_some])))
theorem yC {Q:D×R->Prop}:aK Q (vT j me ρ)=aK Q (gd ((ρ[j]?.bind Sl.items).isSome) ((me ρ).bind fun p=>match p.1 with
 | .int i=>p.2[j]?.bind fun s=>s.items.bind fun ds=>if 0<=i/\i<ds.length/\ds.length<=16777216 then(ds[i.toNat]?).map fun d=>(d,p.2.set j (s.put (ds.eraseIdx i.toNat)))else none
 |_=>none)):=rfl
theorem zqM {f g h:D->D->Option D}{a b c d:ME}{Q:D×R->Prop}:aK Q (zro f g h a b c d ρ)=(aK (fun p=>aK (fun q=>aK (fun t=>∃z,t= .bl z/\(z=true->aK (fun r=>aK (fun t'=>∃z',t'= .bl z'/\(z'=true->aK (fun s=>aK (fun x=>Q (x,s.2)) (h r.1 s.1)) (d r.2))/\(z'=false->Q (.bl false,r.2))) (g q.1 r.1)) (c q.2))/\(z=false->Q (.bl false,q.2))) (f p.1 q.1)) (b p.2)) (a ρ)):=by
 unfold zro;rw[ok_bind];refine cX fun p=>?_
 rw[ok_bind];refine cX fun q=>?_
 rw[ok_bind];refine cX fun t=>?_
 cases t with
 |bl z=>
  cases z
  ·simp[ok_some]
  ·simp only[D.bl.injEq,qcr,forall_const,Bool.true_eq_false,qcs,and_true];rw[ok_bind];refine cX fun r=>?_
   rw[ok_bind];refine cX fun t'=>?_
   cases t' with
   |bl z=>
    cases z
    ·simp[ok_some]
    ·simp only[D.bl.injEq,qcr,forall_const,Bool.true_eq_false,qcs,and_true];rw[ok_bind];exact cX fun s=>ok_map
   |_=>simp[ok_none]
 |_=>simp[ok_none]
end
section
variable {ρ:R} {j k i:Nat} {c:Str} {ns ns2:List Str} {me mo mi:ME} {mO:MO} {ma:MA} {md:MK}
noncomputable def Yq (c:Str)(ns:List Str)(p:D×R):Option ((List Int×List D)×R):=match p.1 with
 | .obj c' ns' _ ks ds=>if c'=c/\ns'=ns then some ((ks,ds),p.2)else none
 |_=>none
theorem Fq:Yq Wq Ul (Uq Wq Ul ls q,ρ)=some (q,ρ):=by
 unfold Yq Uq;dsimp only;rw[if_pos ⟨rfl,rfl⟩]
theorem Gg:dAt Wq Ul k (Uq Wq Ul ls q)=(ls[k]?).map D.lst:=by
 unfold dAt Uq;dsimp only;rw[if_pos ⟨rfl,rfl⟩,fJ]
theorem Gf {Q:(List Int×List D)×R->Prop}:aK Q (kAt c ns me ρ)=aK Q ((me ρ).bind (Yq c ns)):=rfl
end
end M
local macro_rules | `(tactic| simp! only [$ls,*]) => do
  let f (d : Bool) (n : String) : Lean.MacroM (Lean.TSyntax `Lean.Parser.Tactic.simpLemma) := let i := Lean.mkIdent n.toName; if d then `(Lean.Parser.Tactic.simpLemma| ↓$i:term) else `(Lean.Parser.Tactic.simpLemma| $i:term)
  let a ← ("M.iT M.Ge M.Hj M.xZ M.Jx M.zE M.Jp M.rZ M.zqM M.pE M.pR M.oM M.ok_bind M.ok_map M.Rc M.sQ M.ok_some M.nS M.wM M.nU M.zU M.rS M.sO M.Nd M.rX M.zqg M.Ob M.vF M.yV M.oQ M.wB M.wN M.oD M.Ot M.uT M.nF M.Rk M.Rp M.sY M.Qy M.vP M.wC M.wK M.nE M.nD M.oY M.zsd M.Eh M.uV M.Fm M.mV M.uA M.Gs M.Cu M.uD M.Ew M.qE M.uE M.Sf M.Pb M.qV M.sG M.Gk M.yE M.Hk M.Ii M.Gq M.xP M.Dg M.Hs M.Ee M.Ka M.zN M.zpt M.Ab M.vW M.vH M.xT M.Dz M.xI M.oU M.vV M.yC M.Gf M.uR M.xA M.Af M.vR M.vN".splitOn " ").toArray.mapM (f true)
  let b ← ("M.kQ M.yB M.kZ M.bN M.dP M.bO M.eJ M.fV M.jA M.iY M.Us M.fA M.dE M.aZ M.wH M.sU M.Sl.read M.Sl.items M.Sl.put M.eV M.hU M.fz1 M.fzL M.kD M.gH M.eIsI.noS1 M.Pq M.Nk M.xU M.dA M.gG M.gL M.jZ M.kE M.wO M.Iv M.Mp M.fzD M.Mj M.Ch.sl M.Sl.dic M.Sl.dit M.Sl.tree M.Sl.putT M.Sl.dit M.fzT M.Ch.D M.Xz M.fzU M.sZ M.Ql M.Sl.ob M.zr5 M.oK M.pU M.zrn M.zrY M.zrp M.nX M.qP List.getElem?_cons_zero List.getElem?_cons_succ List.set_cons_zero List.set_cons_succ Option.bind_some Option.isSome_some Option.map_some if_true M.zrt M.mU M.zlE M.zrZ M.xS M.zB M.yX M.Qg M.wD M.Ea M.Ik M.zY M.El M.Fe List.replicate_succ List.replicate_zero List.length_cons List.length_nil List.cons_append List.nil_append List.all_cons List.all_nil Bool.and_true Bool.true_and Bool.and_self Bool.true_eq_false Bool.false_eq_true if_false M.uI M.wX List.length_map List.length_append M.pG M.vQ M.Bi M.wY M.Df M.ok_none M.nR M.nV M.pZ M.rE M.nN M.Et M.pF M.pN M.pA M.Dd M.Jd M.Cy M.Oi M.Pe M.Qv M.uZ M.zF M.wQ M.vO M.Jm M.zM M.vC M.yW M.Fq M.Gg beq_self_eq_true Bool.not_true Bool.not_false M.Kv Int.toNat_natCast M.qU M.dQ decide_eq_true_eq Bool.and_eq_true true_and and_true Nat.reduceAdd Nat.reduceLeDiff Int.reduceLT Int.reduceLE Int.reduceNeg Nat.reduceSub Int.reducePow Int.reduceMul Int.reduceAdd Int.reduceSub Int.reduceMod Int.reduceDiv Nat.reduceLT Nat.reduceBNe Nat.reduceEqDiff List.filter_cons List.filter_nil bne_self_eq_false Int.reduceToNat Nat.reducePow M.zpY Int.reduceEq Int.reduceBEq Int.reduceBNe Nat.reduceMod decide_true decide_false beq_iff_eq beq_eq_false_iff_ne bne_iff_ne bne_eq_false_iff_eq decide_eq_false_iff_not Int.not_le Int.not_lt ne_eq forall_const true_implies false_implies reduceCtorEq imp_self implies_true M.D.bl.injEq exists_eq_left' Bool.not_true Bool.not_false".splitOn " ").toArray.mapM (f false)
  `(tactic| simp only [$a,*, $b,*, $ls,*])
namespace Prf
open L2 M PySem
noncomputable def bV (i:Nat):Stmt:=PySem.Challenge.pw_tellsum_k34_rings_judged.main.body.getD i (.Pass ⟨0,0,0,0⟩)
structure BN (K:W.Frag) (mg:Str->Option Value):Prop where
 r_NoNumber:Ck K mg "NoNumber"
 all':mg "all"=none
 any':mg "any"=none
 bool':mg "bool"=none
 enumerate':mg "enumerate"=none
 isinstance':mg "isinstance"=none
 len':mg "len"=none
 list':mg "list"=none
 max':mg "max"=none
 min':mg "min"=none
 range':mg "range"=none
 sum':mg "sum"=none
 tuple':mg "tuple"=none
 zip':mg "zip"=none
section
variable {P:Program} {w:World} {K:W.Frag} {mg:Str->Option Value} {base hp:Heap} {f:Addr} {fd:FuncData} (X:K.In hp) (G:hp.Ns mainGlobals mg) (bn:BN K mg)
include X G bn
abbrev zjx:Stmt:=bV 1
def zgG:ME:=
 (m2 bN (aA 0) (aA 1))
def zgy:MO:=
 dJ [] 2 (Um (aD (aA 0) (aD (aA 1) aB))) (gT 2 (bX (gN 0) (bX (gN 1) fG))) dD zgG
def Xt:MS:=
 (zL zgy)
def Jo:List D->Option Sl:=fP 2 Xt
theorem zlJ (h:FnAt K "less_mores" zjx):FD P w K mg base 1 "less_mores" (aT K 2 Jo):=
 cM (N:=["bounds","mores"]) (k:=0) (m:=Xt) X G h fun _ _ _ _ _ _ _ hr nd=>(aU (Ip (fQ [] 2 ["bound","more"] rfl (zoL bn.zip' (aE (aC 0) (aE (aC 1) aH))) (fun C s H fp=>(fZ rfl (cB (bB 0 cE) (cB (bB 1 cE) gB)))) (fun C s H fp=>dO) (fun C s H fp=>(eD (aC 0) (aC 1))))))
abbrev zi7:Stmt:=bV 2
def zgP:ME:=
 (aY (aD (mC gL (aD (Tj (aA 0) (gE (aA 3)) iN (gE (aA 1))) aB)) (aD (mC jZ (aD (Tj (aA 2) (gE (aA 3)) iN (gE (aA 1))) aB)) aB)))
def zgH:MO:=
 dJ [0,2,1] 1 (fI (aD (aA 2) aB)) (gN 3) dD zgP
def Ys:MS:=
 (zL zgH)
def He:List D->Option Sl:=fP 3 Ys
theorem zmC (h:FnAt K "head_spans" zi7):FD P w K mg base 1 "head_spans" (aT K 3 He):=
 cM (N:=["lows","highs","many"]) (k:=0) (m:=Ys) X G h fun _ _ _ _ _ _ _ hr nd=>(aU (Ip (fQ [0,2,1] 1 ["lows","many","highs","j"] rfl (fY bn.range' (aE (aC 2) aH)) (fun C s H fp=>(bB 3 cE)) (fun C s H fp=>dO) (fun C s H fp=>(cJ (aE (Lf rfl bn.max' (aE (zob (aC 0) (gV (aC 3)) jN (gV (aC 1))) aH)) (aE (Uh rfl bn.min' (aE (zob (aC 2) (gV (aC 3)) jN (gV (aC 1))) aH)) aH)))))))
abbrev zg6:Stmt:=bV 3
def zfm:ME:=
 (m2 aZ (aI 0 (m2 bO (aA 2) (aA 1))) (aA 3))
def zfw:MO:=
 dJ [0,2] 2 (Sr (aD (aA 1) aB)) (gT 2 (bX (gN 2) (bX (gN 3) fG))) dD zfm
def ze5:MS:=
 (aF (aP 2 (cR 0))
  (aR (mC fW (aD (cQ zfw) aB))))
def Jh:List D->Option Sl:=fP 3 ze5
theorem zkM (h:FnAt K "row_by_heads" zg6):FD P w K mg base 1 "row_by_heads" (aT K 2 Jh):=
 cM (N:=["heads","mores","many"]) (k:=0) (m:=ze5) X G h fun _ _ _ _ _ _ _ hr nd=>(aO (bF 2 (dF 0 bn.len') nd)
  (aU (bL (jH bn.tuple' (aE (SO.se (fQ [0,2] 2 ["heads","many","place","more"] rfl (Zl bn.enumerate' (aE (aC 1) aH)) (fun C s H fp=>(fZ rfl (cB (bB 2 cE) (cB (bB 3 cE) gB)))) (fun C s H fp=>dO) (fun C s H fp=>(cH (aW 0 (dW (aC 2) (aC 1))) (aC 3))))) aH)))))
abbrev zfW:Stmt:=bV 4
def zeI:ME:=
 (m2 aZ (aA 3) (m2 dE (aA 0) (m2 Rg (Tj (aA 1) (gE (aA 3)) iN (gE (aA 0))) (aI 2 (aA 3)))))
def zeM:MO:=
 dJ [2,0,1] 1 (fI (aD (aA 2) aB)) (gN 3) dD zeI
def zea:MS:=
 (aF (aP 2 (cR 1))
  (aR (mC fW (aD (cQ zeM) aB))))
def Ll:List D->Option Sl:=fP 3 zea
theorem zkg (h:FnAt K "places_asking" zfW):FD P w K mg base 1 "places_asking" (aT K 2 Ll):=
 cM (N:=["asks","ends","many"]) (k:=0) (m:=zea) X G h fun _ _ _ _ _ _ _ hr nd=>(aO (bF 2 (dF 1 bn.len') nd)
  (aU (bL (jH bn.tuple' (aE (SO.se (fQ [2,0,1] 1 ["many","asks","ends","j"] rfl (fY bn.range' (aE (aC 2) aH)) (fun C s H fp=>(bB 3 cE)) (fun C s H fp=>dO) (fun C s H fp=>(cH (aC 3) (iW (aC 0) (qC (zob (aC 1) (gV (aC 3)) jN (gV (aC 0))) (aW 2 (aC 3)))))))) aH)))))
abbrev zh6:Stmt:=bV 5
def zf3:ME:=
 (aA 0)
def zgf:MO:=
 dJ [] 2 (cC (aA 4)) (gT 2 (bX (gN 0) (bX (gN 1) fG))) dD zf3
def zga:ME:=
 (aA 1)
def zgj:MO:=
 dJ [] 2 (cC (aA 4)) (gT 2 (bX (gN 0) (bX (gN 1) fG))) dD zga
def zfZ:MS:=
 (bW (aQ (m2 iY (aI 5 (aA 9)) (aI 6 (aA 9))))
  (aR (aY (aD (eC (.str "clash")) (aD (aI 7 (aA 9)) (aD (aI 8 (aA 9)) aB)))))
  bZ)
def zfS:MS:=
 cL (fI (aD (aA 2) aB)) (gN 9) zfZ
def zfU:MS:=
 (aR (eC .non))
def zf1:MS:=
 (aF (bW (aQ (m2 fV (mC dA (aD (aA 6) aB)) (aA 3)))
  (aR (aY (aD (eC (.str "high")) (aD (aA 8) aB))))
  bZ)
  zfU)
def zfL:MS:=
 (aF (aP 4 (bD He (aD (aA 0) (aD (aA 1) (aD (aA 2) aB)))))
  (aF (aP 5 (cQ zgf))
  (aF (aP 6 (cQ zgj))
  (aF (aP 7 (bD Ll (aD (aA 0) (aD (aA 5) aB))))
  (aF (aP 8 (bD Ll (aD (aA 1) (aD (aA 6) aB))))
  (aF zfS
  (aF (bW (aQ (m2 iY (mC dA (aD (aA 5) aB)) (aA 3)))
  (aR (aY (aD (eC (.str "low")) (aD (aA 7) aB))))
  bZ)
  zf1)))))))
def Nv:List D->Option Sl:=fP 10 zfL
theorem zk7 (zck:FD P w K mg base 1 "head_spans" (aT K 3 He))(zcq:FD P w K mg base 1 "places_asking" (aT K 2 Ll))(h:FnAt K "heads_paper" zh6):FD P w K mg base 2 "heads_paper" (aT K 4 Nv):=
 cM (N:=["lows","highs","many","total","spans","low_ends","high_ends","low_places","high_places","j"]) (k:=1) (m:=zfL) X G h fun _ _ _ _ _ _ _ hr nd=>(aO (bF 4 (bE zck hr (aE (aC 0) (aE (aC 1) (aE (aC 2) aH))) (hlen:=(aN (aN (aN aV))))) nd)
  (aO (Qj 5 [] 2 ["low", "high"] rfl (fS (aC 4)) (fun C s H fp => (fZ rfl (cB (bB 0 cE) (cB (bB 1 cE) gB)))) (fun C s H fp => dO) (fun C s H fp => (aC 0)) nd)
  (aO (Qj 6 [] 2 ["low", "high"] rfl (fS (aC 4)) (fun C s H fp => (fZ rfl (cB (bB 0 cE) (cB (bB 1 cE) gB)))) (fun C s H fp => dO) (fun C s H fp => (aC 1)) nd)
  (aO (bF 7 (bE zcq hr (aE (aC 0) (aE (aC 5) aH)) (hlen := (aN (aN aV)))) nd)
  (aO (bF 8 (bE zcq hr (aE (aC 1) (aE (aC 6) aH)) (hlen := (aN (aN aV)))) nd)
  (aO (gO fL rfl (fY bn.range' (aE (aC 2) aH)) (bB 9 nd)
  (aU (cA (Ar (aW 5 (aC 9)) (aW 6 (aC 9)))
  (aU (bL (cJ (aE cS (aE (aW 7 (aC 9)) (aE (aW 8 (aC 9)) aH))))))
  cD)))
  (aO (cA (Ar (jI rfl bn.sum' (aE (aC 5) aH)) (aC 3))
  (aU (bL (cJ (aE cS (aE (aC 7) aH)))))
  cD)
  (aO (cA (xQ (jI rfl bn.sum' (aE (aC 6) aH)) (aC 3))
  (aU (bL (cJ (aE cS (aE (aC 8) aH)))))
  cD)
  (aU (bL Cq))))))))))
abbrev zf4:Stmt:=bV 6
def zeK:ME:=
 (m2 aZ (aA 3) (aI 0 (m2 bO (aA 2) (aA 1))))
def zeN:MO:=
 fN [4,1] 2 0 4 (Sr (aD (aA 0) aB)) (gT 2 (bX (gN 2) (bX (gN 3) fG))) dD zeK
def zeC:MS:=
 (aF (fR 4 (yN (cQ (dC (aD (eC (.int 0)) aB))) (aA 1)))
  (aF (eP 4 (aA 2) (m1 fA (eC (.int 1))))
  (aF (eP 4 (aA 3) (eC (.int 1)))
  (aR (mC fW (aD (cQ zeN) aB))))))
def Qk:List D->Option Sl:=fP 5 zeC
theorem zkh (h:FnAt K "exchanged_row" zf4):FD P w K mg base 1 "exchanged_row" (aT K 4 Qk):=
 cM (N:=["row","many","giver","taker","shifts"]) (k:=0) (m:=zeC) X G h fun _ _ _ _ _ _ _ hr nd=>(aO (kC 4 (qM (SO.se (jE (aE aJ aH))) (aC 1)) nd)
  (aO (mB 4 (tK aJ) (aC 2))
  (aO (mB 4 aJ (aC 3))
  (aU (bL (jH bn.tuple' (aE (SO.se (Vd [4,1] 2 0 4 ["shifts","many","place","number"] rfl (Zl bn.enumerate' (aE (aC 0) aH)) (fun C s H fp=>(fZ rfl (cB (bB 2 cE) (cB (bB 3 cE) gB)))) (fun C s H fp=>dO) (fun C s H fp=>(cH (aC 3) (aW 0 (dW (aC 2) (aC 1))))))) aH)))))))
abbrev zhV:Stmt:=bV 7
def zfY:MS:=
 (dB 2 (bD Qk (aD (aA 0) (aD (aA 1) (aD (aA 3) (aD (aA 4) aB))))))
def zgd:MS:=
 cL (Mi (aD (m2 aZ (aA 3) (eC (.int 1))) (aD (aA 1) aB))) (gN 4) zfY
def zgm:MS:=
 zgd
def zf2:MS:=
 cL (fI (aD (aA 1) aB)) (gN 3) zgm
def zfH:MS:=
 (aF (fR 2 (dC aB))
  (aF zf2
  (kB 2)))
def Pz:List D->Option Sl:=fP 5 zfH
theorem zk1 (zdv:FD P w K mg base 1 "exchanged_row" (aT K 4 Qk))(h:FnAt K "lesser_rows" zhV):FD P w K mg base 2 "lesser_rows" (aT K 2 Pz):=
 cM (N:=["row","many","rows","giver","taker"]) (k:=1) (m:=zfH) X G h fun _ _ _ _ _ _ _ hr nd=>(aO (kC 2 (jE aH) nd)
  (aO (gO fL rfl (fY bn.range' (aE (aC 1) aH)) (bB 3 nd)
  (aU (gO fL rfl (Vo bn.range' (aE (cH (aC 3) aJ) (aE (aC 1) aH))) (bB 4 nd)
  (aU (jJ 2 (bE zdv hr (aE (aC 0) (aE (aC 1) (aE (aC 3) (aE (aC 4) aH)))) (hlen:=(aN (aN (aN (aN aV)))))))))))
  (aU (mI 2))))
abbrev zh1:Stmt:=bV 8
def zgo:ME:=
 (aA 1)
def zgn:MO:=
 dJ [] 2 (cC (aA 0)) (gT 2 (bX (gN 0) (bX (gN 1) fG))) dD zgo
def zf7:MS:=
 (aF (tS 4 (fun i j => i - j) (aA 6))
  (aF (aP 7 (mC (xU eA) (aD (aA 5) (aD (m2 bN (aA 3) (aA 4)) aB))))
  (aF (dB 2 (aA 7))
  (tS 3 (fun i j=>i-j) (aA 7)))))
def zgb:MS:=
 cL (cC (aA 0)) (gT 2 (bX (gN 5) (bX (gN 6) fG))) zf7
def zfF:MS:=
 (aF (fR 2 (dC aB))
  (aF (aP 3 (aA 1))
  (aF (aP 4 (mC dA (aD (cQ zgn) aB)))
  (aF zgb
  (kB 2)))))
def Nr:List D->Option Sl:=fP 8 zfF
theorem zll (h:FnAt K "least_heads" zh1):FD P w K mg base 1 "least_heads" (aT K 2 Nr):=
 cM (N:=["spans","total","heads","left","room","low","high","head"]) (k:=0) (m:=zfF) X G h fun _ _ _ _ _ _ _ hr nd=>(aO (kC 2 (jE aH) nd)
  (aO (bF 3 (aC 1) nd)
  (aO (bF 4 (jI rfl bn.sum' (aE (SO.se (fQ [] 2 ["low", "high"] rfl (fS (aC 0)) (fun C s H fp => (fZ rfl (cB (bB 0 cE) (cB (bB 1 cE) gB)))) (fun C s H fp => dO) (fun C s H fp => (aC 1)))) aH)) nd)
  (aO (gO fL rfl (fS (aC 0)) (fZ rfl (cB (bB 5 nd) (cB (bB 6 nd) gB)))
  (aO (Vw 4 (aC 6) nd)
  (aO (bF 7 (zoh rfl bn.max' (aE (aC 5) (aE (eD (aC 3) (aC 4)) aH))) nd)
  (aO (jJ 2 (aC 7))
  (aU (Vw 3 (aC 7) nd))))))
  (aU (mI 2))))))
abbrev zkd:Stmt:=bV 9
def zie:MS:=
 (aP 2 (m2 dP (m2 dE (aA 2) (m2 aZ (aA 0) (aA 3))) (aA 3)))
def zhT:MS:=
 cL (Mi (aD (eC (.int 1)) (aD (aA 1) aB))) (gN 3) zie
def ziE:MS:=
 (aF (aP 2 (eC (.int 1)))
  (aF zhT
  (kB 2)))
def Od:List D->Option Sl:=fP 4 ziE
theorem znR (h:FnAt K "part_ways" zkd):FD P w K mg base 1 "part_ways" (aT K 2 Od):=
 cM (N:=["number","parts","ways","step"]) (k:=0) (m:=ziE) X G h fun _ _ _ _ _ _ _ hr nd=>(aO (bF 2 aJ nd)
  (aO (gO fL rfl (Vo bn.range' (aE aJ (aE (aC 1) aH))) (bB 3 nd)
  (aU (bF 2 (jP (iW (aC 2) (cH (aC 0) (aC 3))) (aC 3)) nd)))
  (aU (mI 2))))
abbrev zju:Stmt:=bV 10
def zhc:ME:=
 (m2 iY (aA 0) (aA 1))
def zgI:MO:=
 dJ [] 2 (cC (aA 0)) (gT 2 (bX (gN 0) (bX (gN 1) fG))) dD zhc
def zgJ:ME:=
 (aA 0)
def zhx:MO:=
 dJ [] 2 (cC (aA 0)) (gT 2 (bX (gN 0) (bX (gN 1) fG))) dD zgJ
def zg7:ME:=
 (aY (aD (m1 fA (aA 1)) (aD (m2 bN (aA 2) (aA 0)) aB)))
def zgM:MT:=
 (aQ (m2 Us (aA 2) (aA 0)))
def zhd:MO:=
 dJ [6] 2 (cC (aA 3)) (gT 2 (bX (gN 1) (bX (gN 2) fG))) zgM zg7
def zhn:MS:=
 (aF (aP 6 (m2 aZ (m2 bN (aA 5) (aA 4)) (eC (.int 1))))
  (aP 3 (m2 aZ (aA 3) (cQ zhd))))
def zhB:MS:=
 cL (cC (aA 0)) (gT 2 (bX (gN 4) (bX (gN 5) fG))) zhn
def zhk:ME:=
 (m2 dE (aA 1) (bD Od (aD (aA 2) (aD (cR 0) aB))))
def zhD:MO:=
 dJ [0] 2 (cC (aA 3)) (gT 2 (bX (gN 1) (bX (gN 2) fG))) dD zhk
def Yn:MS:=
 (aF (aP 3 (cQ (dC (aD (aY (aD (eC (.int 1)) (aD (aA 2) aB))) aB))))
  (aF zhB
  (aR (mC dA (aD (cQ zhD) aB)))))
def zhs:MS:=
 (aF (aP 2 (m2 bN (aA 1) (mC dA (aD (cQ zhx) aB))))
  (aF (bW (aQ (m2 fV (aA 2) (eC (.int 0))))
  (aR (eC (.int 0)))
  bZ)
  Yn))
def zgF:MS:=
 (aF (bW (aQ (mC (gG fun bs => bs.any id) (aD (cQ zgI) aB)))
  (aR (eC (.int 0)))
  bZ)
  zhs)
def Gh:List D->Option Sl:=fP 7 zgF
theorem zmO (zgY:FD P w K mg base 1 "part_ways" (aT K 2 Od))(h:FnAt K "heads_many" zju):FD P w K mg base 2 "heads_many" (aT K 2 Gh):=
 cM (N:=["spans","total","left","terms","low","high","width"]) (k:=1) (m:=zgF) X G h fun _ _ _ _ _ _ _ hr nd=>(aO (cA (Ey (pO rfl bn.any' (aE (SO.se (fQ [] 2 ["low","high"] rfl (fS (aC 0)) (fun C s H fp=>(fZ rfl (cB (bB 0 cE) (cB (bB 1 cE) gB)))) (fun C s H fp=>dO) (fun C s H fp=>(Ko (aC 0) (aC 1))))) aH)))
  (aU (bL aJ))
  cD)
  (aO (bF 2 (eD (aC 1) (jI rfl bn.sum' (aE (SO.se (fQ [] 2 ["low", "high"] rfl (fS (aC 0)) (fun C s H fp => (fZ rfl (cB (bB 0 cE) (cB (bB 1 cE) gB)))) (fun C s H fp => dO) (fun C s H fp => (aC 0)))) aH))) nd)
  (aO (cA (xQ (aC 2) aJ)
  (aU (bL aJ))
  cD)
  (aO (bF 3 (SO.se (jE (aE (cJ (aE aJ (aE (aC 2) aH))) aH))) nd)
  (aO (gO fL rfl (fS (aC 0)) (fZ rfl (cB (bB 4 nd) (cB (bB 5 nd) gB)))
  (aO (bF 6 (cH (eD (aC 5) (aC 4)) aJ) nd)
  (aU (bF 3 (cH (aC 3) (SO.se (fQ [6] 2 ["width","sign","rest"] rfl (fS (aC 3)) (fun C s H fp=>(fZ rfl (cB (bB 1 cE) (cB (bB 2 cE) gB)))) (fun C s H fp=>(zr4 (Ak (aC 2) (aC 0)))) (fun C s H fp=>(cJ (aE (tK (aC 1)) (aE (eD (aC 2) (aC 0)) aH))))))) nd))))
  (aU (bL (jI rfl bn.sum' (aE (SO.se (fQ [0] 2 ["spans","sign","rest"] rfl (fS (aC 3)) (fun C s H fp=>(fZ rfl (cB (bB 1 cE) (cB (bB 2 cE) gB)))) (fun C s H fp=>dO) (fun C s H fp=>(iW (aC 1) (bE zgY hr (aE (aC 2) (aE (dF 0 bn.len') aH)) (hlen:=(aN (aN aV)))))))) aH)))))))))
abbrev zid:Stmt:=bV 11
def zfI:MS:=
 (aR (bD Gh (aD (m2 aZ (cQ (dC (aD (aY (aD (m2 cI (aI 0 (eC (.int 0))) (eC (.int 0))) (aD (m2 bN (aA 2) (eC (.int 1))) aB))) aB))) (dX (aA 0) (gE (eC (.int 1))) iN)) (aD (aA 1) aB))))
def Ho:List D->Option Sl:=fP 3 zfI
theorem zld (zch:FD P w K mg base 2 "heads_many" (aT K 2 Gh))(h:FnAt K "heads_below" zid):FD P w K mg base 3 "heads_below" (aT K 3 Ho):=
 cM (N:=["spans","total","first"]) (k:=2) (m:=zfI) X G h fun _ _ _ _ _ _ _ hr nd=>(aU (bL (bE zch hr (aE (cH (SO.se (jE (aE (cJ (aE (eI (aW 0 aJ) aJ) (aE (eD (aC 2) aJ) aH))) aH))) (lB (aC 0) (gV aJ) jN)) (aE (aC 1) aH)) (hlen:=(aN (aN aV))))))
abbrev ziZ:Stmt:=bV 12
def zho:MT:=
 (aQ (m2 fV (aA 3) (aA 4)))
def zgx:MS:=
 (aF (aP 5 (m2 dP (m2 aZ (m2 aZ (aA 3) (aA 4)) (eC (.int 1))) (eC (.int 2))))
  (bW (aQ (m2 iY (bD Ho (aD (aA 0) (aD (aA 1) (aD (aA 5) aB)))) (aA 2)))
  (aP 4 (m2 bN (aA 5) (eC (.int 1))))
  (aP 3 (aA 5))))
def zhp:MS:=
 tI zho zgx 400
def zg9:MS:=
 (aF (aP 3 (m2 cI (aI 0 (eC (.int 0))) (eC (.int 0))))
  (aF (aP 4 (m2 cI (aI 0 (eC (.int 0))) (eC (.int 1))))
  (aF zhp
  (kB 3))))
def Os:List D->Option Sl:=fP 6 zg9
theorem zl4 (zbY:FD P w K mg base 3 "heads_below" (aT K 3 Ho))(h:FnAt K "first_head" ziZ):FD P w K mg base 4 "first_head" (aT K 3 Os):=
 cM (N:=["spans","total","number","low","high","middle"]) (k:=3) (m:=zg9) X G h fun _ _ _ _ _ _ _ hr nd=>(aO (bF 3 (eI (aW 0 aJ) aJ) nd)
  (aO (bF 4 (eI (aW 0 aJ) aJ) nd)
  (aO (zlY 400 fL (xQ (aC 3) (aC 4))
  (aO (bF 5 (jP (cH (cH (aC 3) (aC 4)) aJ) aJ) nd)
  (aU (cA (Ar (bE zbY hr (aE (aC 0) (aE (aC 1) (aE (aC 5) aH))) (hlen := (aN (aN (aN aV))))) (aC 2))
  (aU (bF 4 (eD (aC 5) aJ) nd))
  (aU (bF 3 (aC 5) nd))))))
  (aU (mI 3)))))
abbrev zkI:Stmt:=bV 13
def zjv:MS:=
 (aF (aP 7 (bD Os (aD (dX (aA 0) (gE (aA 6)) iN) (aD (aA 4) (aD (aA 5) aB)))))
  (aF (tS 5 (fun i j => i - j) (bD Ho (aD (dX (aA 0) (gE (aA 6)) iN) (aD (aA 4) (aD (aA 7) aB)))))
  (aF (dB 3 (aA 7))
  (tS 4 (fun i j=>i-j) (aA 7)))))
def zjB:MS:=
 cL (fI (aD (cR 0) aB)) (gN 6) zjv
def zjP:MS:=
 (aF (fR 3 (dC aB))
  (aF (aP 4 (aA 1))
  (aF (aP 5 (aA 2))
  (aF zjB
  (kB 3)))))
def Tg:List D->Option Sl:=fP 8 zjP
theorem zot (zfP:FD P w K mg base 4 "first_head" (aT K 3 Os))(zbY:FD P w K mg base 3 "heads_below" (aT K 3 Ho))(h:FnAt K "heads_at" zkI):FD P w K mg base 5 "heads_at" (aT K 3 Tg):=
 cM (N:=["spans","total","number","heads","left","ahead","j","head"]) (k:=4) (m:=zjP) X G h fun _ _ _ _ _ _ _ hr nd=>(aO (kC 3 (jE aH) nd)
  (aO (bF 4 (aC 1) nd)
  (aO (bF 5 (aC 2) nd)
  (aO (gO fL rfl (fY bn.range' (aE (dF 0 bn.len') aH)) (bB 6 nd)
  (aO (bF 7 (bE zfP hr (aE (lB (aC 0) (gV (aC 6)) jN) (aE (aC 4) (aE (aC 5) aH))) (hlen := (aN (aN (aN aV))))) nd)
  (aO (Vw 5 (bE zbY hr (aE (lB (aC 0) (gV (aC 6)) jN) (aE (aC 4) (aE (aC 7) aH))) (hlen := (aN (aN (aN aV))))) nd)
  (aO (jJ 3 (aC 7))
  (aU (Vw 4 (aC 7) nd))))))
  (aU (mI 3))))))
abbrev zj5:Stmt:=bV 18
def zh9:ME:=
 (mC dA (aD (dX (aA 0) (gE (aA 2)) (gE (m2 aZ (aA 2) (aA 1)))) aB))
def zhS:MO:=
 dJ [2,1] 1 (fI (aD (cR 0) aB)) (gN 2) dD zh9
def ziM:MS:=
 (aF (aP 2 (m2 aZ (mC fW (aD (aA 0) aB)) (mC fW (aD (aA 0) aB))))
  (aR (mC fW (aD (cQ zhS) aB))))
def Qq:List D->Option Sl:=fP 3 ziM
theorem znp (h:FnAt K "ring_sums" zj5):FD P w K mg base 1 "ring_sums" (aT K 2 Qq):=
 cM (N:=["row","k","twice"]) (k:=0) (m:=ziM) X G h fun _ _ _ _ _ _ _ hr nd=>(aO (bF 2 (cH (jH bn.tuple' (aE (aC 0) aH)) (jH bn.tuple' (aE (aC 0) aH))) nd)
  (aU (bL (jH bn.tuple' (aE (SO.se (fQ [2,1] 1 ["twice","k","i"] rfl (fY bn.range' (aE (dF 0 bn.len') aH)) (fun C s H fp=>(bB 2 cE)) (fun C s H fp=>dO) (fun C s H fp=>(jI rfl bn.sum' (aE (lB (aC 0) (gV (aC 2)) (gV (cH (aC 2) (aC 1)))) aH))))) aH)))))
abbrev zjc:Stmt:=bV 19
def zgE:ME:=
 (aI 0 (aA 1))
def zg3:MO:=
 dJ [0] 1 (cC (aA 1)) (gN 1) dD zgE
def zgC:MS:=
 (aR (mC dA (aD (cQ zg3) aB)))
def Ht:List D->Option Sl:=fP 2 zgC
theorem zmL (h:FnAt K "chosen_sum" zjc):FD P w K mg base 1 "chosen_sum" (aT K 2 Ht):=
 cM (N:=["row","places"]) (k:=0) (m:=zgC) X G h fun _ _ _ _ _ _ _ hr nd=>(aU (bL (jI rfl bn.sum' (aE (SO.se (fQ [0] 1 ["row","place"] rfl (fS (aC 1)) (fun C s H fp=>(bB 1 cE)) (fun C s H fp=>dO) (fun C s H fp=>(aW 0 (aC 1))))) aH))))
abbrev zja:Stmt:=bV 21
def zhC:ME:=
 (iZ jA jA (aA 0) (aA 1) (aA 2))
def zgK:MO:=
 dJ [] 3 (iZ3 (aD (aA 1) (aD (aA 0) (aD (aA 2) aB)))) (gT 3 (bX (gN 0) (bX (gN 1) (bX (gN 2) fG)))) dD zhC
def zhj:MS:=
 (aR (mC (gG fun bs=>bs.all id) (aD (cQ zgK) aB)))
def Yd:MS:=
 (aF (bW (aQ (m2 fU (cR 0) (cR 1)))
  (aR (eC (.bl false)))
  bZ)
  zhj)
def Qn:List D->Option Sl:=fP 3 Yd
theorem zmi (h:FnAt K "row_within" zja):FD P w K mg base 1 "row_within" (aT K 3 Qn):=
 cM (N:=["row","least","greatest"]) (k:=0) (m:=Yd) X G h fun _ _ _ _ _ _ _ hr nd=>(aO (cA (qL hr.units (dF 0 bn.len') (dF 1 bn.len'))
  (aU (bL kX))
  cD)
  (aU (bL (Pw rfl bn.all' (aE (SO.se (fQ [] 3 ["low","number","high"] rfl (wJ bn.zip' (aE (aC 1) (aE (aC 0) (aE (aC 2) aH)))) (fun C s H fp=>(fZ rfl (cB (bB 0 cE) (cB (bB 1 cE) (cB (bB 2 cE) gB))))) (fun C s H fp=>dO) (fun C s H fp=>(Kp jX jX eQ eQ (aC 0) (aC 1) (aC 2))))) aH)))))
abbrev zi0:Stmt:=bV 22
def zgV:MS:=
 (aR (fB (bD Qn (aD (aA 1) (aD (aI 0 (eC (.int 2))) (aD (aI 0 (eC (.int 3))) aB)))) (m2 bY (bD Qq (aD (aA 1) (aD (aI 0 (eC (.int 0))) aB))) (aI 0 (eC (.int 1))))))
def Hy:List D->Option Sl:=fP 2 zgV
theorem zmm (zhq:FD P w K mg base 1 "ring_sums" (aT K 2 Qq))(zfG:FD P w K mg base 1 "row_within" (aT K 3 Qn))(h:FnAt K "ring_holds" zi0):FD P w K mg base 2 "ring_holds" (aT K 2 Hy):=
 cM (N:=["ring","row"]) (k:=1) (m:=zgV) X G h fun _ _ _ _ _ _ _ hr nd=>(aU (bL (tU (bE zfG hr (aE (aC 1) (aE (aW 0 aJ) (aE (aW 0 aJ) aH))) (hlen:=(aN (aN (aN aV))))) (tE (vG hr.units (bE zhq hr (aE (aC 1) (aE (aW 0 aJ) aH)) (hlen:=(aN (aN aV)))) (aW 0 aJ))))))
abbrev zia:Stmt:=bV 24
def zgt:MS:=
 (aR (m2 iY (aI 0 (aA 3)) (aI 1 (aA 4))))
def Jn:MS:=
 (aF (bW (fE (lP (aQ (iZ jA fV (eC (.int 0)) (aA 3) (cR 0)))) (fE (lP (aQ (iZ jA fV (eC (.int 0)) (aA 4) (cR 1)))) (aQ (m2 fU (m2 bO (aA 3) (aA 2)) (m2 bO (aA 4) (aA 2))))))
  (aR (eC (.bl false)))
  bZ)
  zgt)
def yD:List D->Option Sl:=fP 5 Jn
theorem zk6 (h:FnAt K "clash_right" zia):FD P w K mg base 1 "clash_right" (aT K 5 yD):=
 cM (N:=["lows","highs","many","a","b"]) (k:=0) (m:=Jn) X G h fun _ _ _ _ _ _ _ hr nd=>(aO (cA (STw.st (tP (rD (Mf jX mH eQ eQ xV aJ (aC 3) (dF 0 bn.len'))) (tP (rD (Mf jX mH eQ eQ xV aJ (aC 4) (dF 1 bn.len'))) (Lp (qL hr.units (dW (aC 3) (aC 2)) (dW (aC 4) (aC 2)))))))
  (aU (bL kX))
  cD)
  (aU (bL (Ko (aW 0 (aC 3)) (aW 1 (aC 4))))))
abbrev zhY:Stmt:=bV 25
def zgs:ME:=
 (fB (iZ jA fV (eC (.int 0)) (aA 3) (cR 0)) (m2 bY (m2 bO (aA 3) (aA 1)) (aA 2)))
def zgi:MO:=
 dJ [0,1] 2 (Sr (aD (aA 2) aB)) (gT 2 (bX (gN 2) (bX (gN 3) fG))) dD zgs
def zge:MS:=
 (aR (mC (gG fun bs=>bs.all id) (aD (cQ zgi) aB)))
def zfA:MS:=
 (aF (bW (aQ (m2 fU (cR 2) (aA 1)))
  (aR (eC (.bl false)))
  bZ)
  zge)
def Di:List D->Option Sl:=fP 3 zfA
theorem zlf (h:FnAt K "one_of_each" zhY):FD P w K mg base 1 "one_of_each" (aT K 3 Di):=
 cM (N:=["asks","many","places"]) (k:=0) (m:=zfA) X G h fun _ _ _ _ _ _ _ hr nd=>(aO (cA (qL hr.units (dF 2 bn.len') (aC 1))
  (aU (bL kX))
  cD)
  (aU (bL (Pw rfl bn.all' (aE (SO.se (fQ [0,1] 2 ["asks","many","j","place"] rfl (Zl bn.enumerate' (aE (aC 2) aH)) (fun C s H fp=>(fZ rfl (cB (bB 2 cE) (cB (bB 3 cE) gB)))) (fun C s H fp=>dO) (fun C s H fp=>(tU (Kp jX mH eQ eQ aJ (aC 3) (dF 0 bn.len')) (tE (vG hr.units (dW (aC 3) (aC 1)) (aC 2))))))) aH)))))
abbrev zj9:Stmt:=bV 26
def ziG:MS:=
 (aR (fB (bD Di (aD (aA 0) (aD (aA 1) (aD (aA 3) aB)))) (m2 iY (bD Ht (aD (aA 0) (aD (aA 3) aB))) (aA 2))))
def Rr:List D->Option Sl:=fP 4 ziG
theorem znU (zcm:FD P w K mg base 1 "chosen_sum" (aT K 2 Ht))(zbW:FD P w K mg base 1 "one_of_each" (aT K 3 Di))(h:FnAt K "low_right" zj9):FD P w K mg base 2 "low_right" (aT K 4 Rr):=
 cM (N:=["lows","many","total","places"]) (k:=1) (m:=ziG) X G h fun _ _ _ _ _ _ _ hr nd=>(aU (bL (tU (bE zbW hr (aE (aC 0) (aE (aC 1) (aE (aC 3) aH))) (hlen:=(aN (aN (aN aV))))) (tE (Ko (bE zcm hr (aE (aC 0) (aE (aC 3) aH)) (hlen:=(aN (aN aV)))) (aC 2))))))
abbrev zi4:Stmt:=bV 27
def Zm:MS:=
 (aR (fB (bD Di (aD (aA 0) (aD (aA 1) (aD (aA 3) aB)))) (m2 fV (bD Ht (aD (aA 0) (aD (aA 3) aB))) (aA 2))))
def Og:List D->Option Sl:=fP 4 Zm
theorem zml (zcm:FD P w K mg base 1 "chosen_sum" (aT K 2 Ht))(zbW:FD P w K mg base 1 "one_of_each" (aT K 3 Di))(h:FnAt K "high_right" zi4):FD P w K mg base 2 "high_right" (aT K 4 Og):=
 cM (N:=["highs","many","total","places"]) (k:=1) (m:=Zm) X G h fun _ _ _ _ _ _ _ hr nd=>(aU (bL (tU (bE zbW hr (aE (aC 0) (aE (aC 1) (aE (aC 3) aH))) (hlen:=(aN (aN (aN aV))))) (tE (Cb (bE zcm hr (aE (aC 0) (aE (aC 3) aH)) (hlen:=(aN (aN aV)))) (aC 2))))))
abbrev zif:Stmt:=bV 28
def zgh:MS:=
 (aR (fB (m2 bY (aA 5) (eC (.str "high"))) (bD Og (aD (aA 1) (aD (aA 2) (aD (aA 3) (aD (aI 4 (eC (.int 1))) aB)))))))
def zds:MS:=
 (aF (bW (aQ (m2 bY (aA 5) (eC (.str "low"))))
  (aR (bD Rr (aD (aA 0) (aD (aA 2) (aD (aA 3) (aD (aI 4 (eC (.int 1))) aB))))))
  bZ)
  zgh)
def Pc:MS:=
 (aF (aP 5 (aI 4 (eC (.int 0))))
  (aF (bW (aQ (m2 bY (aA 5) (eC (.str "clash"))))
  (aR (bD yD (aD (aA 0) (aD (aA 1) (aD (aA 2) (aD (aI 4 (eC (.int 1))) (aD (aI 4 (eC (.int 2))) aB)))))))
  bZ)
  zds))
def Jv:List D->Option Sl:=fP 6 Pc
theorem zk8 (zeT:FD P w K mg base 1 "clash_right" (aT K 5 yD))(zfM:FD P w K mg base 2 "high_right" (aT K 4 Og))(zgL:FD P w K mg base 2 "low_right" (aT K 4 Rr))(h:FnAt K "paper_right" zif):FD P w K mg base 3 "paper_right" (aT K 5 Jv):=
 cM (N:=["lows","highs","many","total","told","word"]) (k:=2) (m:=Pc) X G h fun _ _ _ _ _ _ _ hr nd=>(aO (bF 5 (aW 4 aJ) nd)
  (aO (cA (fF hr.units (aC 5) cS)
  (aU (bL (bE zeT hr (aE (aC 0) (aE (aC 1) (aE (aC 2) (aE (aW 4 aJ) (aE (aW 4 aJ) aH))))) (hlen:=(aN (aN (aN (aN (aN aV)))))))))
  cD)
  (aO (cA (fF hr.units (aC 5) cS)
  (aU (bL (bE zgL hr (aE (aC 0) (aE (aC 2) (aE (aC 3) (aE (aW 4 aJ) aH)))) (hlen:=(aN (aN (aN (aN aV))))))))
  cD)
  (aU (bL (tU (vG hr.units (aC 5) cS) (tE (bE zfM hr (aE (aC 1) (aE (aC 2) (aE (aC 3) (aE (aW 4 aJ) aH)))) (hlen:=(aN (aN (aN (aN aV)))))))))))))
abbrev zh5:Stmt:=bV 30
def zgv:ME:=
 (aA 2)
def zgl:MT:=
 (Bv (aQ (m2 bY (m2 bO (aA 0) (aA 2)) (eC (.int 0)))) (aQ (m2 bY (m2 bO (aA 1) (aA 2)) (eC (.int 0)))))
def zgp:MO:=
 dJ [1,2] 1 (Mi (aD (eC (.int 1)) (aD (m2 aZ (aA 1) (eC (.int 1))) aB))) (gN 2) zgl zgv
def zfy:MS:=
 (aF (aP 1 (aI 0 (eC (.int 0))))
  (aF (aP 2 (mC dZ (aD (aI 0 (eC (.int 1))) aB)))
  (aR (mC gL (aD (cQ zgp) aB)))))
def hX:List D->Option Sl:=fP 3 zfy
theorem zlh (h:FnAt K "rounds_many" zh5):FD P w K mg base 1 "rounds_many" (aT K 1 hX):=
 cM (N:=["ring","k","many"]) (k:=0) (m:=zfy) X G h fun _ _ _ _ _ _ _ hr nd=>(aO (bF 1 (aW 0 aJ) nd)
  (aO (bF 2 (zr3 bn.len' (aE (aW 0 aJ) aH)) nd)
  (aU (bL (Lf rfl bn.max' (aE (SO.se (fQ [1,2] 1 ["k","many","divisor"] rfl (Vo bn.range' (aE aJ (aE (cH (aC 1) aJ) aH))) (fun C s H fp=>(bB 2 cE)) (fun C s H fp=>(zr4 (STw.st (Re (fF hr.units (dW (aC 0) (aC 2)) aJ) (Pm (fF hr.units (dW (aC 1) (aC 2)) aJ)))))) (fun C s H fp=>(aC 2)))) aH))))))
abbrev zi3:Stmt:=bV 31
def zgS:MS:=
 (aF (dB 4 (aY (aD (aA 5) (aD (aA 6) aB))))
  (aF (tS 6 (fun i j => i + j) (m2 bN (aI 2 (m2 bO (m2 aZ (aA 5) (eC (.int 1))) (aA 3))) (aI 2 (aA 5))))
  (aP 5 (m2 bO (m2 aZ (aA 5) (aI 0 (eC (.int 0)))) (aA 3)))))
def zgO:MS:=
 cL (fI (aD (m2 dP (aA 3) (bD hX (aD (aA 0) aB))) aB)) (gN 7) zgS
def zgN:MS:=
 (aF (aP 2 (aI 0 (eC (.int 1))))
  (aF (aP 3 (cR 2))
  (aF (fR 4 (dC aB))
  (aF (aP 5 (aA 1))
  (aF (aP 6 (eC (.int 0)))
  (aF zgO
  (aF (dB 4 (aY (aD (aA 5) (aD (aA 6) aB))))
  (kB 4))))))))
def Dt:List D->Option Sl:=fP 8 zgN
theorem zmN (zao:FD P w K mg base 1 "rounds_many" (aT K 1 hX))(h:FnAt K "round_walk" zi3):FD P w K mg base 2 "round_walk" (aT K 2 Dt):=
 cM (N:=["ring","j","sums","many","walk","place","more","step"]) (k:=1) (m:=zgN) X G h fun _ _ _ _ _ _ _ hr nd=>(aO (bF 2 (aW 0 aJ) nd)
  (aO (bF 3 (dF 2 bn.len') nd)
  (aO (kC 4 (jE aH) nd)
  (aO (bF 5 (aC 1) nd)
  (aO (bF 6 aJ nd)
  (aO (gO fL rfl (fY bn.range' (aE (jP (aC 3) (bE zao hr (aE (aC 0) aH) (hlen := (aN aV)))) aH)) (bB 7 nd)
  (aO (jJ 4 (cJ (aE (aC 5) (aE (aC 6) aH))))
  (aO (zrM 6 (eD (aW 2 (dW (cH (aC 5) aJ) (aC 3))) (aW 2 (aC 5))) nd)
  (aU (bF 5 (dW (cH (aC 5) (aW 0 aJ)) (aC 3)) nd)))))
  (aO (jJ 4 (cJ (aE (aC 5) (aE (aC 6) aH))))
  (aU (mI 4)))))))))
abbrev zgB:Stmt:=bV 32
def Zq:MS:=
 (aR (m2 bY (m2 cI (m2 cI (bD Dt (aD (aA 0) (aD (aA 1) aB))) (m1 fA (eC (.int 1)))) (eC (.int 1))) (eC (.int 0))))
def Fk:List D->Option Sl:=fP 2 Zq
theorem zkX (zcl:FD P w K mg base 2 "round_walk" (aT K 2 Dt))(h:FnAt K "round_closes" zgB):FD P w K mg base 3 "round_closes" (aT K 2 Fk):=
 cM (N:=["ring","j"]) (k:=2) (m:=Zq) X G h fun _ _ _ _ _ _ _ hr nd=>(aU (bL (vG hr.units (eI (eI (bE zcl hr (aE (aC 0) (aE (aC 1) aH)) (hlen:=(aN (aN aV)))) (tK aJ)) aJ) aJ)))
abbrev ziX:Stmt:=bV 33
def zgX:MS:=
 (eP 1 (aA 3) (aA 4))
def zgQ:MS:=
 cL (cC (dX (bD Dt (aD (aA 0) (aD (aA 2) aB))) iN (gE (m1 fA (eC (.int 1)))))) (gT 2 (bX (gN 3) (bX (gN 4) fG))) zgX
def zhh:MS:=
 zgQ
def zgA:MS:=
 cL (fI (aD (bD hX (aD (aA 0) aB)) aB)) (gN 2) zhh
def zhf:MS:=
 (aF (fR 1 (yN (cQ (dC (aD (eC (.int 0)) aB))) (mC dZ (aD (aI 0 (eC (.int 1))) aB))))
  (aF zgA
  (kB 1)))
def lY:List D->Option Sl:=fP 5 zhf
theorem zlI (zcl:FD P w K mg base 2 "round_walk" (aT K 2 Dt))(zao:FD P w K mg base 1 "rounds_many" (aT K 1 hX))(h:FnAt K "ring_mores" ziX):FD P w K mg base 3 "ring_mores" (aT K 1 lY):=
 cM (N:=["ring","mores","j","place","more"]) (k:=2) (m:=zhf) X G h fun _ _ _ _ _ _ _ hr nd=>(aO (kC 1 (qM (SO.se (jE (aE aJ aH))) (zr3 bn.len' (aE (aW 0 aJ) aH))) nd)
  (aO (gO fL rfl (fY bn.range' (aE (bE zao hr (aE (aC 0) aH) (hlen := (aN aV))) aH)) (bB 2 nd)
  (aU (gO fL rfl (fS (lB (bE zcl hr (aE (aC 0) (aE (aC 2) aH)) (hlen := (aN (aN aV)))) jN (gV (tK aJ)))) (fZ rfl (cB (bB 3 nd) (cB (bB 4 nd) gB)))
  (aU (mB 1 (aC 4) (aC 3))))))
  (aU (mI 1))))
abbrev ziW:Stmt:=bV 34
def Yz:MS:=
 (aR (m2 dP (aI 0 (eC (.int 0))) (bD hX (aD (aA 0) aB))))
def Ef:List D->Option Sl:=fP 1 Yz
theorem zl1 (zao:FD P w K mg base 1 "rounds_many" (aT K 1 hX))(h:FnAt K "head_times" ziW):FD P w K mg base 2 "head_times" (aT K 1 Ef):=
 cM (N:=["ring"]) (k:=1) (m:=Yz) X G h fun _ _ _ _ _ _ _ hr nd=>(aU (bL (jP (aW 0 aJ) (bE zao hr (aE (aC 0) aH) (hlen:=(aN aV))))))
abbrev zj2:Stmt:=bV 35
def zix:MS:=
 (aR (m2 bN (m2 cI (aI 0 (eC (.int 1))) (eC (.int 0))) (mC dA (aD (dX (bD lY (aD (aA 0) aB)) iN (gE (aI 0 (eC (.int 0))))) aB))))
def Ia:List D->Option Sl:=fP 1 zix
theorem znt (zaB:FD P w K mg base 3 "ring_mores" (aT K 1 lY))(h:FnAt K "heads_sum" zj2):FD P w K mg base 4 "heads_sum" (aT K 1 Ia):=
 cM (N:=["ring"]) (k:=3) (m:=zix) X G h fun _ _ _ _ _ _ _ hr nd=>(aU (bL (eD (eI (aW 0 aJ) aJ) (jI rfl bn.sum' (aE (lB (bE zaB hr (aE (aC 0) aH) (hlen:=(aN aV))) jN (gV (aW 0 aJ))) aH)))))
abbrev zjq:Stmt:=bV 36
def zg2:MS:=
 (aR (m2 dP (bD Ia (aD (aA 0) aB)) (bD Ef (aD (aA 0) aB))))
def mG:List D->Option Sl:=fP 1 zg2
theorem zmb (zcj:FD P w K mg base 2 "head_times" (aT K 1 Ef))(zcF:FD P w K mg base 4 "heads_sum" (aT K 1 Ia))(h:FnAt K "ring_total" zjq):FD P w K mg base 5 "ring_total" (aT K 1 mG):=
 cM (N:=["ring"]) (k:=4) (m:=zg2) X G h fun _ _ _ _ _ _ _ hr nd=>(aU (bL (jP (bE zcF hr (aE (aC 0) aH) (hlen:=(aN aV))) (bE zcj hr (aE (aC 0) aH) (hlen:=(aN aV))))))
abbrev zji:Stmt:=bV 37
def zhl:MS:=
 (bW (lP (aQ (bD Fk (aD (aA 0) (aD (aA 1) aB)))))
  (aR (aY (aD (eC (.str "round")) (aD (aA 1) aB))))
  bZ)
def zht:MS:=
 cL (fI (aD (bD hX (aD (aA 0) aB)) aB)) (gN 1) zhl
def zgU:MS:=
 (aR (eC .non))
def zhg:MS:=
 (aF zht
  (aF (aP 2 (m2 bO (bD Ia (aD (aA 0) aB)) (bD Ef (aD (aA 0) aB))))
  (aF (bW (aQ (m2 fU (aA 2) (eC (.int 0))))
  (aR (aY (aD (eC (.str "part")) (aD (aA 2) aB))))
  bZ)
  zgU)))
def tX:List D->Option Sl:=fP 3 zhg
theorem zl7 (zcj:FD P w K mg base 2 "head_times" (aT K 1 Ef))(zcF:FD P w K mg base 4 "heads_sum" (aT K 1 Ia))(zbE:FD P w K mg base 3 "round_closes" (aT K 2 Fk))(zao:FD P w K mg base 1 "rounds_many" (aT K 1 hX))(h:FnAt K "sums_paper" zji):FD P w K mg base 5 "sums_paper" (aT K 1 tX):=
 cM (N:=["ring","j","left"]) (k:=4) (m:=zhg) X G h fun _ _ _ _ _ _ _ hr nd=>(aO (gO fL rfl (fY bn.range' (aE (bE zao hr (aE (aC 0) aH) (hlen:=(aN aV))) aH)) (bB 1 nd)
  (aU (cA (rD (Ey (bE zbE hr (aE (aC 0) (aE (aC 1) aH)) (hlen := (aN (aN aV))))))
  (aU (bL (cJ (aE cS (aE (aC 1) aH)))))
  cD)))
  (aO (bF 2 (dW (bE zcF hr (aE (aC 0) aH) (hlen := (aN aV))) (bE zcj hr (aE (aC 0) aH) (hlen := (aN aV)))) nd)
  (aO (cA (qL hr.units (aC 2) aJ)
  (aU (bL (cJ (aE cS (aE (aC 2) aH)))))
  cD)
  (aU (bL Cq)))))
abbrev zj4:Stmt:=bV 38
def Zr:MS:=
 (zL (Kx Jo (aD (aI 0 (eC (.int 2))) (aD (bD lY (aD (aA 0) aB)) aB))))
def uL:List D->Option Sl:=fP 1 Zr
theorem znB (zci:FD P w K mg base 1 "less_mores" (aT K 2 Jo))(zaB:FD P w K mg base 3 "ring_mores" (aT K 1 lY))(h:FnAt K "ring_lows" zj4):FD P w K mg base 4 "ring_lows" (aT K 1 uL):=
 cM (N:=["ring"]) (k:=3) (m:=Zr) X G h fun _ _ _ _ _ _ _ hr nd=>(aU (Ip (Xa zci hr (aE (aW 0 aJ) (aE (bE zaB hr (aE (aC 0) aH) (hlen:=(aN aV))) aH)) (hlen:=(aN (aN aV))))))
abbrev zjm:Stmt:=bV 39
def zgR:MS:=
 (zL (Kx Jo (aD (aI 0 (eC (.int 3))) (aD (bD lY (aD (aA 0) aB)) aB))))
def uJ:List D->Option Sl:=fP 1 zgR
theorem zmK (zci:FD P w K mg base 1 "less_mores" (aT K 2 Jo))(zaB:FD P w K mg base 3 "ring_mores" (aT K 1 lY))(h:FnAt K "ring_highs" zjm):FD P w K mg base 4 "ring_highs" (aT K 1 uJ):=
 cM (N:=["ring"]) (k:=3) (m:=zgR) X G h fun _ _ _ _ _ _ _ hr nd=>(aU (Ip (Xa zci hr (aE (aW 0 aJ) (aE (bE zaB hr (aE (aC 0) aH) (hlen:=(aN aV))) aH)) (hlen:=(aN (aN aV))))))
abbrev zib:Stmt:=bV 40
def zfC:MS:=
 (zL (Kx He (aD (bD uL (aD (aA 0) aB)) (aD (bD uJ (aD (aA 0) aB)) (aD (bD hX (aD (aA 0) aB)) aB)))))
def yS:List D->Option Sl:=fP 1 zfC
theorem zk0 (zck:FD P w K mg base 1 "head_spans" (aT K 3 He))(zbe:FD P w K mg base 4 "ring_highs" (aT K 1 uJ))(zbp:FD P w K mg base 4 "ring_lows" (aT K 1 uL))(zao:FD P w K mg base 1 "rounds_many" (aT K 1 hX))(h:FnAt K "round_spans" zib):FD P w K mg base 5 "round_spans" (aT K 1 yS):=
 cM (N:=["ring"]) (k:=4) (m:=zfC) X G h fun _ _ _ _ _ _ _ hr nd=>(aU (Ip (Xa zck hr (aE (bE zbp hr (aE (aC 0) aH) (hlen:=(aN aV))) (aE (bE zbe hr (aE (aC 0) aH) (hlen:=(aN aV))) (aE (bE zao hr (aE (aC 0) aH) (hlen:=(aN aV))) aH))) (hlen:=(aN (aN (aN aV)))))))
abbrev zhR:Stmt:=bV 41
def zf5:MS:=
 (aR (aY (aD (eC (.str "row")) (aD (bD Jh (aD (bD Nr (aD (bD yS (aD (aA 0) aB)) (aD (bD mG (aD (aA 0) aB)) aB))) (aD (bD lY (aD (aA 0) aB)) aB))) aB))))
def Nm:MS:=
 (aF (bW (aQ (m2 wO (aA 1) (eC .non)))
  (kB 1)
  bZ)
  zf5)
def zfJ:MS:=
 (aF (aP 1 (bD tX (aD (aA 0) aB)))
  (aF (bW (aQ (m2 kE (aA 1) (eC .non)))
  (aP 1 (bD Nv (aD (bD uL (aD (aA 0) aB)) (aD (bD uJ (aD (aA 0) aB)) (aD (bD hX (aD (aA 0) aB)) (aD (bD mG (aD (aA 0) aB)) aB))))))
  bZ)
  Nm))
def Mn:List D->Option Sl:=fP 2 zfJ
theorem zle (ze8:FD P w K mg base 2 "heads_paper" (aT K 4 Nv))(ze0:FD P w K mg base 1 "least_heads" (aT K 2 Nr))(zbe:FD P w K mg base 4 "ring_highs" (aT K 1 uJ))(zbp:FD P w K mg base 4 "ring_lows" (aT K 1 uL))(zaB:FD P w K mg base 3 "ring_mores" (aT K 1 lY))(zaP:FD P w K mg base 5 "ring_total" (aT K 1 mG))(za5:FD P w K mg base 5 "round_spans" (aT K 1 yS))(zao:FD P w K mg base 1 "rounds_many" (aT K 1 hX))(zbA:FD P w K mg base 1 "row_by_heads" (aT K 2 Jh))(zba:FD P w K mg base 5 "sums_paper" (aT K 1 tX))(h:FnAt K "fitted_ring" zhR):FD P w K mg base 6 "fitted_ring" (aT K 1 Mn):=
 cM (N:=["ring","paper"]) (k:=5) (m:=zfJ) X G h fun _ _ _ _ _ _ _ hr nd=>(aO (bF 1 (bE zba hr (aE (aC 0) aH) (hlen:=(aN aV))) nd)
  (aO (cA (Qi (aC 1) Cq)
  (aU (bF 1 (bE ze8 hr (aE (bE zbp hr (aE (aC 0) aH) (hlen:=(aN aV))) (aE (bE zbe hr (aE (aC 0) aH) (hlen:=(aN aV))) (aE (bE zao hr (aE (aC 0) aH) (hlen:=(aN aV))) (aE (bE zaP hr (aE (aC 0) aH) (hlen:=(aN aV))) aH)))) (hlen:=(aN (aN (aN (aN aV)))))) nd))
  cD)
  (aO (cA (zmn (aC 1) Cq)
  (aU (mI 1))
  cD)
  (aU (bL (cJ (aE cS (aE (bE zbA hr (aE (bE ze0 hr (aE (bE za5 hr (aE (aC 0) aH) (hlen:=(aN aV))) (aE (bE zaP hr (aE (aC 0) aH) (hlen:=(aN aV))) aH)) (hlen:=(aN (aN aV)))) (aE (bE zaB hr (aE (aC 0) aH) (hlen:=(aN aV))) aH)) (hlen:=(aN (aN aV)))) aH))))))))
abbrev zj6:Stmt:=bV 42
def zh8:MS:=
 (aR (bD Gh (aD (bD yS (aD (aA 0) aB)) (aD (bD mG (aD (aA 0) aB)) aB))))
def ziI:MS:=
 (aF (bW (aQ (m2 wO (bD tX (aD (aA 0) aB)) (eC .non)))
  (aR (eC (.int 0)))
  bZ)
  zh8)
def oS:List D->Option Sl:=fP 1 ziI
theorem zmP (zch:FD P w K mg base 2 "heads_many" (aT K 2 Gh))(zaP:FD P w K mg base 5 "ring_total" (aT K 1 mG))(za5:FD P w K mg base 5 "round_spans" (aT K 1 yS))(zba:FD P w K mg base 5 "sums_paper" (aT K 1 tX))(h:FnAt K "ring_many" zj6):FD P w K mg base 6 "ring_many" (aT K 1 oS):=
 cM (N:=["ring"]) (k:=5) (m:=ziI) X G h fun _ _ _ _ _ _ _ hr nd=>(aO (cA (zmn (bE zba hr (aE (aC 0) aH) (hlen:=(aN aV))) Cq)
  (aU (bL aJ))
  cD)
  (aU (bL (bE zch hr (aE (bE za5 hr (aE (aC 0) aH) (hlen:=(aN aV))) (aE (bE zaP hr (aE (aC 0) aH) (hlen:=(aN aV))) aH)) (hlen:=(aN (aN aV)))))))
abbrev zjH:Stmt:=bV 43
def zjZ:MS:=
 (aR (bD Jh (aD (bD Tg (aD (bD yS (aD (aA 0) aB)) (aD (bD mG (aD (aA 0) aB)) (aD (aA 1) aB)))) (aD (bD lY (aD (aA 0) aB)) aB))))
def zkL:MS:=
 (aF (bW (lP (aQ (iZ jA fV (eC (.int 0)) (aA 1) (bD oS (aD (aA 0) aB)))))
  (fun _=>none)
  bZ)
  zjZ)
def Np:List D->Option Sl:=fP 2 zkL
theorem zpR (ziz:FD P w K mg base 5 "heads_at" (aT K 3 Tg))(zbr:FD P w K mg base 6 "ring_many" (aT K 1 oS))(zaB:FD P w K mg base 3 "ring_mores" (aT K 1 lY))(zaP:FD P w K mg base 5 "ring_total" (aT K 1 mG))(za5:FD P w K mg base 5 "round_spans" (aT K 1 yS))(zbA:FD P w K mg base 1 "row_by_heads" (aT K 2 Jh))(h:FnAt K "ring_at" zjH):FD P w K mg base 7 "ring_at" (aT K 2 Np):=
 cM (N:=["ring","number"]) (k:=6) (m:=zkL) X G h fun _ _ _ _ _ _ _ hr nd=>(aO (cA (rD (Mf jX mH eQ eQ xV aJ (aC 1) (bE zbr hr (aE (aC 0) aH) (hlen:=(aN aV)))))
  (aU mR)
  cD)
  (aU (bL (bE zbA hr (aE (bE ziz hr (aE (bE za5 hr (aE (aC 0) aH) (hlen:=(aN aV))) (aE (bE zaP hr (aE (aC 0) aH) (hlen:=(aN aV))) (aE (aC 1) aH))) (hlen:=(aN (aN (aN aV))))) (aE (bE zaB hr (aE (aC 0) aH) (hlen:=(aN aV))) aH)) (hlen:=(aN (aN aV)))))))
def znc:MX:=
 (xIf (lP (aQ (iZ jA fV (eC (.int 0)) (aA 1) (bD oS (aD (aA 0) aB))))) (fun _=>some "NoNumber"))
def zqL:List D->Option Str:=fX 2 znc
theorem znW (zbr:FD P w K mg base 6 "ring_many" (aT K 1 oS))(h:FnAt K "ring_at" zjH):FDX P w K mg base 7 "ring_at" (spX K 2 zqL):=
 fdX (N:=["ring","number"]) (k:=6) (m:=znc) X G h fun _ _ _ _ _ _ _ hr nd=>(zoO (Ro (rD (Mf jX mH eQ eQ xV aJ (aC 1) (bE zbr hr (aE (aC 0) aH) (hlen:=(aN aV))))) (zoO (zrx Io rfl rfl rfl bn.r_NoNumber))))
abbrev zil:Stmt:=bV 45
def zfX:ME:=
 (bD Hy (aD (aA 0) (aD (aA 1) aB)))
def zfV:MO:=
 dJ [0] 1 (cC (bD Pz (aD (aA 1) (aD (bD hX (aD (aA 0) aB)) aB)))) (gN 1) dD zfX
def zgg:MS:=
 (aR (m1 sU (mC (gG fun bs=>bs.any id) (aD (cQ zfV) aB))))
def zfB:MS:=
 (aF (bW (lP (aQ (bD Hy (aD (aA 0) (aD (aA 1) aB)))))
  (aR (eC (.bl false)))
  bZ)
  zgg)
def Qf:List D->Option Sl:=fP 2 zfB
theorem zlj (zeQ:FD P w K mg base 2 "lesser_rows" (aT K 2 Pz))(zd3:FD P w K mg base 2 "ring_holds" (aT K 2 Hy))(zao:FD P w K mg base 1 "rounds_many" (aT K 1 hX))(h:FnAt K "least_right" zil):FD P w K mg base 3 "least_right" (aT K 2 Qf):=
 cM (N:=["ring","row"]) (k:=2) (m:=zfB) X G h fun _ _ _ _ _ _ _ hr nd=>(aO (cA (rD (Ey (bE zd3 hr (aE (aC 0) (aE (aC 1) aH)) (hlen:=(aN (aN aV))))))
  (aU (bL kX))
  cD)
  (aU (bL (oV (pO rfl bn.any' (aE (SO.se (fQ [0] 1 ["ring","lesser"] rfl (fS (bE zeQ hr (aE (aC 1) (aE (bE zao hr (aE (aC 0) aH) (hlen:=(aN aV))) aH)) (hlen:=(aN (aN aV))))) (fun C s H fp=>(bB 1 cE)) (fun C s H fp=>dO) (fun C s H fp=>(bE zd3 hr (aE (aC 0) (aE (aC 1) aH)) (hlen:=(aN (aN aV))))))) aH))))))
abbrev zh7:Stmt:=bV 46
def Xn:MS:=
 (aR (fB (iZ jA fV (eC (.int 0)) (aA 1) (bD hX (aD (aA 0) aB))) (m1 sU (bD Fk (aD (aA 0) (aD (aA 1) aB))))))
def Ub:List D->Option Sl:=fP 2 Xn
theorem zlg (zbE:FD P w K mg base 3 "round_closes" (aT K 2 Fk))(zao:FD P w K mg base 1 "rounds_many" (aT K 1 hX))(h:FnAt K "round_right" zh7):FD P w K mg base 4 "round_right" (aT K 2 Ub):=
 cM (N:=["ring","j"]) (k:=3) (m:=Xn) X G h fun _ _ _ _ _ _ _ hr nd=>(aU (bL (tU (Kp jX mH eQ eQ aJ (aC 1) (bE zao hr (aE (aC 0) aH) (hlen:=(aN aV)))) (tE (oV (bE zbE hr (aE (aC 0) (aE (aC 1) aH)) (hlen:=(aN (aN aV)))))))))
abbrev zje:Stmt:=bV 47
def zhm:MS:=
 (aR (bD Jv (aD (bD uL (aD (aA 0) aB)) (aD (bD uJ (aD (aA 0) aB)) (aD (bD hX (aD (aA 0) aB)) (aD (bD mG (aD (aA 0) aB)) (aD (aA 1) aB)))))))
def zeu:MS:=
 (aF (bW (aQ (m2 wO (aA 3) (eC .non)))
  (aR (eC (.bl false)))
  bZ)
  zhm)
def Zn:MS:=
 (aF (aP 3 (bD tX (aD (aA 0) aB)))
  (aF (bW (aQ (m2 bY (aA 2) (eC (.str "part"))))
  (aR (m2 bY (aA 3) (aY (aD (eC (.str "part")) (aD (aI 1 (eC (.int 1))) aB)))))
  bZ)
  zeu))
def Wg:MS:=
 (aF (bW (aQ (m2 bY (aA 2) (eC (.str "round"))))
  (aR (bD Ub (aD (aA 0) (aD (aI 1 (eC (.int 1))) aB))))
  bZ)
  Zn)
def Lr:MS:=
 (aF (aP 2 (aI 1 (eC (.int 0))))
  (aF (bW (aQ (m2 bY (aA 2) (eC (.str "row"))))
  (aR (bD Qf (aD (aA 0) (aD (aI 1 (eC (.int 1))) aB))))
  bZ)
  Wg))
def iV:List D->Option Sl:=fP 4 Lr
theorem zmu (zeV:FD P w K mg base 3 "least_right" (aT K 2 Qf))(zfa:FD P w K mg base 3 "paper_right" (aT K 5 Jv))(zbe:FD P w K mg base 4 "ring_highs" (aT K 1 uJ))(zbp:FD P w K mg base 4 "ring_lows" (aT K 1 uL))(zaP:FD P w K mg base 5 "ring_total" (aT K 1 mG))(zeZ:FD P w K mg base 4 "round_right" (aT K 2 Ub))(zao:FD P w K mg base 1 "rounds_many" (aT K 1 hX))(zba:FD P w K mg base 5 "sums_paper" (aT K 1 tX))(h:FnAt K "ring_right" zje):FD P w K mg base 6 "ring_right" (aT K 2 iV):=
 cM (N:=["ring","told","word","of_sums"]) (k:=5) (m:=Lr) X G h fun _ _ _ _ _ _ _ hr nd=>(aO (bF 2 (aW 1 aJ) nd)
  (aO (cA (fF hr.units (aC 2) cS)
  (aU (bL (bE zeV hr (aE (aC 0) (aE (aW 1 aJ) aH)) (hlen:=(aN (aN aV))))))
  cD)
  (aO (cA (fF hr.units (aC 2) cS)
  (aU (bL (bE zeZ hr (aE (aC 0) (aE (aW 1 aJ) aH)) (hlen:=(aN (aN aV))))))
  cD)
  (aO (bF 3 (bE zba hr (aE (aC 0) aH) (hlen := (aN aV))) nd)
  (aO (cA (fF hr.units (aC 2) cS)
  (aU (bL (vG hr.units (aC 3) (cJ (aE cS (aE (aW 1 aJ) aH))))))
  cD)
  (aO (cA (zmn (aC 3) Cq)
  (aU (bL kX))
  cD)
  (aU (bL (bE zfa hr (aE (bE zbp hr (aE (aC 0) aH) (hlen:=(aN aV))) (aE (bE zbe hr (aE (aC 0) aH) (hlen:=(aN aV))) (aE (bE zao hr (aE (aC 0) aH) (hlen:=(aN aV))) (aE (bE zaP hr (aE (aC 0) aH) (hlen:=(aN aV))) (aE (aC 1) aH))))) (hlen:=(aN (aN (aN (aN (aN aV)))))))))))))))
abbrev zka:Stmt:=bV 49
def zhP:MS:=
 (aF (aP 2 (m2 bO (m2 aZ (m2 aZ (m2 dE (aA 2) (eC (.int 48271))) (m2 dE (eC (.int 7919)) (aA 3))) (eC (.int 12345))) (eC (.int 2147483647))))
  (aF (aP 4 (m2 bO (m2 dE (aA 2) (aA 2)) (eC (.int 2147483629))))
  (aP 1 (m2 aZ (m2 dE (aA 1) (eC (.int 4194304))) (m2 bO (m2 dP (aA 4) (eC (.int 256))) (eC (.int 4194304)))))))
def zic:MS:=
 cL (fI (aD (eC (.int 28)) aB)) (gN 3) zhP
def zik:MS:=
 (aF (aP 1 (eC (.int 0)))
  (aF (aP 2 (m2 aZ (m2 bO (aA 0) (eC (.int 2147483647))) (eC (.int 6113))))
  (aF zic
  (zL (dC (aD (aA 1) aB))))))
def zit:MS:=
 (aF (bW (aQ (m2 Us (aA 0) (m2 eJ (eC (.int 10)) (eC (.int 18)))))
  (zL (dC (aD (m2 bO (m2 bN (aA 0) (m2 eJ (eC (.int 10)) (eC (.int 18)))) (m2 dE (m2 dE (m2 eJ (eC (.int 10)) (eC (.int 64))) (m2 eJ (eC (.int 10)) (eC (.int 64)))) (m2 eJ (eC (.int 10)) (eC (.int 64))))) aB)))
  bZ)
  zik)
def Qr:List D->Option Sl:=fP 5 zit
theorem znO (h:FnAt K "_law_deal" zka):FD P w K mg base 1 "_law_deal" (aT K 1 Qr):=
 cM (N:=["cell","great","one","k","two"]) (k:=0) (m:=zit) X G h fun _ _ _ _ _ _ _ hr nd=>(aO (cA (Ak (aC 0) (lQ aJ aJ))
  (aU (Ip (jE (aE (dW (eD (aC 0) (lQ aJ aJ)) (iW (iW (lQ aJ aJ) (lQ aJ aJ)) (lQ aJ aJ))) aH))))
  cD)
  (aO (bF 1 aJ nd)
  (aO (bF 2 (cH (dW (aC 0) aJ) aJ) nd)
  (aO (gO fL rfl (fY bn.range' (aE aJ aH)) (bB 3 nd)
  (aO (bF 2 (dW (cH (cH (iW (aC 2) aJ) (iW aJ (aC 3))) aJ) aJ) nd)
  (aO (bF 4 (dW (iW (aC 2) (aC 2)) aJ) nd)
  (aU (bF 1 (cH (iW (aC 1) aJ) (dW (jP (aC 4) aJ) aJ)) nd)))))
  (aU (Ip (jE (aE (aC 1) aH))))))))
abbrev zj3:Stmt:=bV 50
def Xx:MS:=
 (aF (aP 2 (m2 bO (aI 0 (eC (.int 0))) (aA 1)))
  (aF (eP 0 (eC (.int 0)) (m2 dP (aI 0 (eC (.int 0))) (aA 1)))
  (kB 2)))
def cV:List D->List D->Option (Sl×List D):=fM 3 Xx
theorem zm6 (h:FnAt K "_law_take" zj3):FD P w K mg base 1 "_law_take" (gI K 2 cV):=
 Ln (N:=["pot","many","digit"]) (k:=0) (m:=Xx) X G h fun _ _ _ _ _ _ _ hr nd=>(aO (bF 2 (dW (aW 0 aJ) (aC 1)) nd)
  (aO (mB 0 (jP (aW 0 aJ) (aC 1)) aJ)
  (aU (mI 2))))
abbrev zhi:Stmt:=bV 51
def zfv:MT:=
 (aQ (m2 iY (aA 1) (eC (.int 0))))
def zfo:MS:=
 (Eb 0 1 (aD (aA 1) (aD (m2 bO (aA 0) (aA 1)) aB)))
def zfl:MS:=
 tI zfv zfo 400
def zeY:MS:=
 (aF zfl
  (kB 0))
def vB:List D->Option Sl:=fP 2 zeY
theorem zkC (h:FnAt K "_law_divisor" zhi):FD P w K mg base 1 "_law_divisor" (aT K 2 vB):=
 cM (N:=["one","other"]) (k:=0) (m:=zeY) X G h fun _ _ _ _ _ _ _ hr nd=>(aO (zlY 400 fL (Ar (aC 1) aJ)
  (aU (Cz 0 1 (by decide) rfl (aE (aC 1) (aE (dW (aC 0) (aC 1)) aH)) nd)))
  (aU (mI 0)))
abbrev zfn:Stmt:=bV 52
def zes:ME:=
 (aI 0 (m2 bO (m2 aZ (aA 1) (aA 3)) (aA 2)))
def zeA:MO:=
 dJ [1,3,2] 1 (fI (aD (aA 0) aB)) (gN 3) dD zes
def zef:ME:=
 (mC dA (aD (cQ zeA) aB))
def zd8:MO:=
 dJ [1,0,2] 1 (fI (aD (aA 2) aB)) (gN 3) dD zef
def zdy:MS:=
 (aF (aP 2 (cR 0))
  (aR (mC fW (aD (cQ zd8) aB))))
def Kc:List D->Option Sl:=fP 3 zdy
theorem zjQ (h:FnAt K "_law_ring_sums" zfn):FD P w K mg base 1 "_law_ring_sums" (aT K 2 Kc):=
 cM (N:=["row","k","many"]) (k:=0) (m:=zdy) X G h fun _ _ _ _ _ _ _ hr nd=>(aO (bF 2 (dF 0 bn.len') nd)
  (aU (bL (jH bn.tuple' (aE (SO.se (fQ [1,0,2] 1 ["k","row","many","at"] rfl (fY bn.range' (aE (aC 2) aH)) (fun C s H fp=>(bB 3 cE)) (fun C s H fp=>dO) (fun C s H fp=>(jI rfl bn.sum' (aE (SO.se (fQ [1,3,2] 1 ["row","at","many","step"] rfl (fY bn.range' (aE (aC 0) aH)) (fun C s H fp=>(bB 3 cE)) (fun C s H fp=>dO) (fun C s H fp=>(aW 0 (dW (cH (aC 1) (aC 3)) (aC 2)))))) aH))))) aH)))))
abbrev zfg:Stmt:=bV 54
def zeF:ME:=
 (m2 aZ (aA 1) (aA 0))
def zee:MO:=
 dJ [10] 1 (cC (aA 4)) (gN 1) dD zeF
def zeD:MS:=
 (eP 4 (m2 bO (aA 11) (aA 7)) (m2 aZ (aI 4 (m2 bO (aA 11) (aA 7))) (aA 10)))
def zev:MS:=
 cL (Mi (aD (aA 9) (aD (m2 aZ (aA 9) (aA 3)) aB))) (gN 11) zeD
def zel:ME:=
 (m2 aZ (aA 1) (aA 0))
def zep:MO:=
 dJ [10] 1 (cC (aA 5)) (gN 1) dD zel
def zem:ME:=
 (mC gL (aD (aA 0) aB))
def zei:MO:=
 dJ [] 1 (Um (aD (aA 6) (aD (aA 5) aB))) (gN 0) dD zem
def zcx:MS:=
 (aR (aY (aD (aA 3) (aD (mC fW (aD (aA 4) aB)) (aD (mC fW (aD (aA 5) aB)) (aD (mC fW (aD (aA 6) aB)) aB))))))
def Yb:MS:=
 (aF (bW (aQ (m2 bY (aA 8) (eC (.int 7))))
  (aF (fR 5 zep)
  (fR 6 zei))
  bZ)
  zcx)
def Yr:MS:=
 (aF (bW (aQ (m2 bY (aA 8) (eC (.int 6))))
  (aF (eP 6 (aA 9) (m2 bN (aI 6 (aA 9)) (aA 10)))
  (eP 5 (aA 9) (mC (xU nW) (aD (aI 5 (aA 9)) (aD (aI 6 (aA 9)) aB)))))
  bZ)
  Yb)
def zcC:MS:=
 (aF (bW (aQ (m2 bY (aA 8) (eC (.int 5))))
  (aF (eP 5 (aA 9) (m2 aZ (aI 5 (aA 9)) (aA 10)))
  (eP 6 (aA 9) (mC (xU eA) (aD (aI 6 (aA 9)) (aD (aI 5 (aA 9)) aB)))))
  bZ)
  Yr)
def zcz:MS:=
 (aF (bW (aQ (m2 mF (aA 8) (aY (aD (eC (.int 3)) (aD (eC (.int 4)) aB)))))
  zev
  bZ)
  zcC)
def Ua:MS:=
 (aF (bW (aQ (m2 bY (aA 8) (eC (.int 2))))
  (fR 4 zee)
  bZ)
  zcz)
def zdx:MS:=
 (aF (yL 1 [3, 4, 5, 6])
  (aF (aP 7 (cR 4))
  (aF (aP 8 (cU cV 0 (aD (eC (.int 8)) aB)))
  (aF (aP 9 (cU cV 0 (aD (aA 7) aB)))
  (aF (aP 10 (m2 dE (m2 bN (cU cV 0 (aD (eC (.int 9)) aB)) (eC (.int 4))) (m2 cI (aY (aD (eC (.int 1)) (aD (aA 2) aB))) (cU cV 0 (aD (eC (.int 2)) aB)))))
  (aF (bW (aQ (m2 bY (aA 8) (eC (.int 1))))
  (eP 4 (aA 9) (m2 aZ (aI 4 (aA 9)) (aA 10)))
  bZ)
  Ua))))))
def Mq:List D->T->List D->Option (Sl×List D):=Wp 12 zdx
theorem zjU (zak:FD P w K mg base 1 "_law_take" (gI K 2 cV))(h:FnAt K "_law_bent_ring" zfg):FD P w K mg base 2 "_law_bent_ring" (lN K 3 Mq):=
 fdMT (N:=["pot","parts","by","k","sums","least","greatest","many","way","at","more","place"]) (k:=1) (m:=zdx) X G h fun _ _ _ _ _ _ _ hr nd=>(aO (Ds 1 [3,4,5,6] rfl nd ⟨rfl,by trivial,by trivial,rfl,by trivial,by trivial,rfl,by trivial,by trivial,rfl,by trivial,by trivial,trivial⟩)
  (aO (bF 7 (dF 4 bn.len') nd)
  (aO (bF 8 (dH 0 zak hr (aE aJ aH) (dG (aN aV))) nd)
  (aO (bF 9 (dH 0 zak hr (aE (aC 7) aH) (dG (aN aV))) nd)
  (aO (bF 10 (iW (eD (dH 0 zak hr (aE aJ aH) (dG (aN aV))) aJ) (eI (cJ (aE aJ (aE (aC 2) aH))) (dH 0 zak hr (aE aJ aH) (dG (aN aV))))) nd)
  (aO (cA (fF hr.units (aC 8) aJ)
  (aU (mB 4 (cH (aW 4 (aC 9)) (aC 10)) (aC 9)))
  cD)
  (aO (cA (fF hr.units (aC 8) aJ)
  (aU (Yy 4 [10] 1 ["more","total"] rfl (fS (aC 4)) (fun C s H fp=>(bB 1 cE)) (fun C s H fp=>dO) (fun C s H fp=>(cH (aC 1) (aC 0))) nd))
  cD)
  (aO (cA (Ce (aC 8) (cJ (aE aJ (aE aJ aH))))
  (aU (gO fL rfl (Vo bn.range' (aE (aC 9) (aE (cH (aC 9) (aC 3)) aH))) (bB 11 nd)
  (aU (mB 4 (cH (aW 4 (dW (aC 11) (aC 7))) (aC 10)) (dW (aC 11) (aC 7))))))
  cD)
  (aO (cA (fF hr.units (aC 8) aJ)
  (aO (mB 5 (cH (aW 5 (aC 9)) (aC 10)) (aC 9))
  (aU (mB 6 (zoh rfl bn.max' (aE (aW 6 (aC 9)) (aE (aW 5 (aC 9)) aH))) (aC 9))))
  cD)
  (aO (cA (fF hr.units (aC 8) aJ)
  (aO (mB 6 (eD (aW 6 (aC 9)) (aC 10)) (aC 9))
  (aU (mB 5 (Ag rfl bn.min' (aE (aW 5 (aC 9)) (aE (aW 6 (aC 9)) aH))) (aC 9))))
  cD)
  (aO (cA (fF hr.units (aC 8) aJ)
  (aO (Yy 5 [10] 1 ["more", "bound"] rfl (fS (aC 5)) (fun C s H fp => (bB 1 cE)) (fun C s H fp => dO) (fun C s H fp => (cH (aC 1) (aC 0))) nd)
  (aU (Yy 6 [] 1 ["pair"] rfl (zoL bn.zip' (aE (aC 6) (aE (aC 5) aH))) (fun C s H fp=>(bB 0 cE)) (fun C s H fp=>dO) (fun C s H fp=>(Lf rfl bn.max' (aE (aC 0) aH))) nd)))
  cD)
  (aU (bL (cJ (aE (aC 3) (aE (jH bn.tuple' (aE (aC 4) aH)) (aE (jH bn.tuple' (aE (aC 5) aH)) (aE (jH bn.tuple' (aE (aC 6) aH)) aH))))))))))))))))))
abbrev zj7:Stmt:=bV 53
def zh3:ME:=
 (m2 aZ (m2 dE (m2 bN (cU cV 0 (aD (eC (.int 13)) aB)) (eC (.int 6))) (aA 1)) (aA 2))
def zh2:MO:=
 fN [0,5,7] 1 0 0 (fI (aD (aA 3) aB)) (gN 3) dD zh3
def zim:ME:=
 (m2 bN (aA 3) (m2 dE (cU cV 0 (aD (aA 1) aB)) (aA 2)))
def zig:MO:=
 fN [0,6,5] 1 0 0 (cC (aA 8)) (gN 3) dD zim
def zii:ME:=
 (m2 aZ (aA 3) (m2 dE (cU cV 0 (aD (aA 1) aB)) (aA 2)))
def zin:MO:=
 fN [0,6,5] 1 0 0 (cC (aA 8)) (gN 3) dD zii
def Ug:MS:=
 (aF (aP 5 (m2 cI (aY (aD (eC (.int 1)) (aD (eC (.int 1)) (aD (eC (.int 1)) (aD (m2 eJ (eC (.int 10)) (eC (.int 58))) aB))))) (cU cV 0 (aD (eC (.int 4)) aB))))
  (aF (aP 6 (m2 cI (aY (aD (eC (.int 1)) (aD (eC (.int 2)) (aD (eC (.int 4)) (aD (eC (.int 9)) aB))))) (cU cV 0 (aD (eC (.int 4)) aB))))
  (aF (aP 7 (m2 cI (aY (aD (eC (.int 0)) (aD (eC (.int 0)) (aD (eC (.int 0)) (aD (m2 eJ (eC (.int 10)) (eC (.int 59))) aB))))) (cU cV 0 (aD (eC (.int 4)) aB))))
  (aF (aP 8 (cQ zh2))
  (aF (fR 9 zig)
  (aF (fR 10 zin)
  (aF (fR 11 (oC dM (aD (bD Kc (aD (aA 8) (aD (aA 2) aB))) aB)))
  (aR (Vh Mq 0 (Ec (aA 2) (lJ 11 (lJ 9 (lJ 10 Ft)))) (aD (aA 5) aB))))))))))
def ze3:MS:=
 (aF (bW (aQ (m2 bY (aA 4) (eC (.int 1))))
  (aP 3 (m2 dE (aA 2) (m2 aZ (eC (.int 1)) (cU cV 0 (aD (m2 dP (aA 1) (aA 2)) aB)))))
  bZ)
  Ug)
def ziw:MS:=
 (aF (aP 2 (m2 aZ (eC (.int 2)) (cU cV 0 (aD (eC (.int 4)) aB))))
  (aF (aP 3 (m2 aZ (aA 2) (cU cV 0 (aD (m2 aZ (m2 bN (aA 1) (aA 2)) (eC (.int 1))) aB))))
  (aF (aP 4 (cU cV 0 (aD (eC (.int 4)) aB)))
  (aF (bW (aQ (m2 bY (aA 4) (eC (.int 0))))
  (aP 3 (aA 2))
  bZ)
  ze3))))
def Rm:List D->List D->Option (Sl×List D):=fM 12 ziw
theorem znA (zc6:FD P w K mg base 2 "_law_bent_ring" (lN K 3 Mq))(zbg:FD P w K mg base 1 "_law_ring_sums" (aT K 2 Kc))(zak:FD P w K mg base 1 "_law_take" (gI K 2 cV))(h:FnAt K "_law_ring" zj7):FD P w K mg base 3 "_law_ring" (gI K 2 Rm):=
 Ln (N:=["pot","most","k","many","shape","by","wide","far","row","least","greatest","sums"]) (k:=2) (m:=ziw) X G h fun _ _ _ _ _ _ _ hr nd=>(aO (bF 2 (cH aJ (dH 0 zak hr (aE aJ aH) (dG (aN aV)))) nd)
  (aO (bF 3 (cH (aC 2) (dH 0 zak hr (aE (cH (eD (aC 1) (aC 2)) aJ) aH) (dG (aN aV)))) nd)
  (aO (bF 4 (dH 0 zak hr (aE aJ aH) (dG (aN aV))) nd)
  (aO (cA (fF hr.units (aC 4) aJ)
  (aU (bF 3 (aC 2) nd))
  cD)
  (aO (cA (fF hr.units (aC 4) aJ)
  (aU (bF 3 (iW (aC 2) (cH aJ (dH 0 zak hr (aE (jP (aC 1) (aC 2)) aH) (dG (aN aV))))) nd))
  cD)
  (aO (bF 5 (eI (cJ (aE aJ (aE aJ (aE aJ (aE (lQ aJ aJ) aH))))) (dH 0 zak hr (aE aJ aH) (dG (aN aV)))) nd)
  (aO (bF 6 (eI (cJ (aE aJ (aE aJ (aE aJ (aE aJ aH))))) (dH 0 zak hr (aE aJ aH) (dG (aN aV)))) nd)
  (aO (bF 7 (eI (cJ (aE aJ (aE aJ (aE aJ (aE (lQ aJ aJ) aH))))) (dH 0 zak hr (aE aJ aH) (dG (aN aV)))) nd)
  (aO (zp2 8 [0, 5, 7] 1 0 0 ["pot", "by", "far", "place"] rfl (fY bn.range' (aE (aC 3) aH)) (fun C s H fp => (bB 3 cE)) (fun C s H fp => dO) (fun C s H fp => (cH (iW (eD (dH 0 zak hr (aE aJ aH) (dG (aN aV))) aJ) (aC 1)) (aC 2))) nd)
  (aO (znl 9 [0, 6, 5] 1 0 0 ["pot", "wide", "by", "number"] rfl (fS (aC 8)) (fun C s H fp => (bB 3 cE)) (fun C s H fp => dO) (fun C s H fp => (eD (aC 3) (iW (dH 0 zak hr (aE (aC 1) aH) (dG (aN aV))) (aC 2)))) nd)
  (aO (znl 10 [0, 6, 5] 1 0 0 ["pot", "wide", "by", "number"] rfl (fS (aC 8)) (fun C s H fp => (bB 3 cE)) (fun C s H fp => dO) (fun C s H fp => (cH (aC 3) (iW (dH 0 zak hr (aE (aC 1) aH) (dG (aN aV))) (aC 2)))) nd)
  (aO (kC 11 (Xj bn.list' (aE (bE zbg hr (aE (aC 8) (aE (aC 2) aH)) (hlen := (aN (aN aV)))) aH)) nd)
  (aU (bL (zqw 0 zc6 hr (Ji (aC 2) (Zd 11 (Zd 9 (Zd 10 Gd)))) (aE (aC 5) aH) (Rj (aN aV)))))))))))))))))
abbrev zeO:Stmt:=bV 55
def zdB:MT:=
 (tDI 7 true (aA 10))
def zdV:MS:=
 (aF (sDP 7 (aA 10) (aA 11))
  (aF (aP 11 (m2 bN (m2 aZ (aA 11) (aI 2 (m2 bO (m2 aZ (aA 10) (eC (.int 1))) (aA 5)))) (aI 2 (aA 10))))
  (aP 10 (m2 bO (m2 aZ (aA 10) (aA 1)) (aA 5)))))
def zdC:MS:=
 tI zdB zdV 400
def zdU:MS:=
 (aF (aP 10 (aA 9))
  (aF (aP 11 (eC (.int 0)))
  (aF zdC
  (dB 8 (aA 11)))))
def zdH:MS:=
 cL (fI (aD (aA 6) aB)) (gN 9) zdU
def zdL:ME:=
 (Wn 0 (aA 1))
def zdD:MO:=
 dJ [7] 1 (fI (aD (aA 5) aB)) (gN 1) dD zdL
def zc3:MS:=
 (aF (gX (aA 0) (gT 4 (bX (gN 1) (bX (gN 2) (bX (gN 3) (bX (gN 4) fG))))))
  (aF (aP 5 (cR 2))
  (aF (aP 6 (bD vB (aD (aA 5) (aD (aA 1) aB))))
  (aF (Zv 7)
  (aF (fR 8 (dC aB))
  (aF zdH
  (Je 7 (aR (aY (aD (cQ zdD) (aD (aA 8) aB)))))))))))
def zP:List D->Option Sl:=fP 12 zc3
theorem zjz (zaX:FD P w K mg base 1 "_law_divisor" (aT K 2 vB))(h:FnAt K "_law_ring_mores" zeO):FD P w K mg base 2 "_law_ring_mores" (aT K 1 zP):=
 cM (N:=["ring","k","sums","least","greatest","many","rounds","mores","backs","first","place","more"]) (k:=1) (m:=zc3) X G h fun _ _ _ _ _ _ _ hr nd=>(aO (Cg (aC 0) (fZ rfl (cB (bB 1 nd) (cB (bB 2 nd) (cB (bB 3 nd) (cB (bB 4 nd) gB))))))
  (aO (bF 5 (dF 2 bn.len') nd)
  (aO (bF 6 (bE zaX hr (aE (aC 5) (aE (aC 1) aH)) (hlen := (aN (aN aV)))) nd)
  (aO (xW 7 nd)
  (aO (kC 8 (jE aH) nd)
  (aO (gO fL rfl (fY bn.range' (aE (aC 6) aH)) (bB 9 nd)
  (aO (bF 10 (aC 9) nd)
  (aO (bF 11 aJ nd)
  (aO (zlY 400 fL (zqP 7 hr.units (aC 10))
  (aO (Ad 7 hr.units (aC 11) (aC 10))
  (aO (bF 11 (eD (cH (aC 11) (aW 2 (dW (cH (aC 10) aJ) (aC 5)))) (aW 2 (aC 10))) nd)
  (aU (bF 10 (dW (cH (aC 10) (aC 1)) (aC 5)) nd)))))
  (aU (jJ 8 (aC 11)))))))
  (aU (Gv 7 (bL (cJ (aE (SO.se (fQ [7] 1 ["mores","place"] rfl (fY bn.range' (aE (aC 5) aH)) (fun C s H fp=>(bB 1 cE)) (fun C s H fp=>dO) (fun C s H fp=>(wA 0 hr.units (aC 1))))) (aE (aC 8) aH))))))))))))
abbrev zeH:Stmt:=bV 56
def zd1:ME:=
 (m2 bN (m2 cI (aI 0 (eC (.int 2))) (aA 2)) (aI 1 (aA 2)))
def zdY:MO:=
 dJ [0,1] 1 (Mz (aD (aA 4) (aD (cR 1) (aD (aA 2) aB)))) (gN 2) dD zd1
def zd0:ME:=
 (m2 bN (m2 cI (aI 0 (eC (.int 3))) (aA 2)) (aI 1 (aA 2)))
def zdM:MO:=
 dJ [0,1] 1 (Mz (aD (aA 4) (aD (cR 1) (aD (aA 2) aB)))) (gN 2) dD zd0
def zdK:MS:=
 (aF (aP 5 (cQ zdY))
  (aF (aP 6 (cQ zdM))
  (dB 3 (aY (aD (mC gL (aD (aA 5) aB)) (aD (mC jZ (aD (aA 6) aB)) aB))))))
def zdQ:MS:=
 cL (fI (aD (aA 2) aB)) (gN 4) zdK
def zc1:MS:=
 (aF (aP 2 (bD vB (aD (cR 1) (aD (aI 0 (eC (.int 0))) aB))))
  (aF (fR 3 (dC aB))
  (aF zdQ
  (kB 3))))
def Oe:List D->Option Sl:=fP 7 zc1
theorem zjb (zaX:FD P w K mg base 1 "_law_divisor" (aT K 2 vB))(h:FnAt K "_law_ring_spans" zeH):FD P w K mg base 2 "_law_ring_spans" (aT K 2 Oe):=
 cM (N:=["ring","mores","rounds","spans","first","lows","highs"]) (k:=1) (m:=zc1) X G h fun _ _ _ _ _ _ _ hr nd=>(aO (bF 2 (bE zaX hr (aE (dF 1 bn.len') (aE (aW 0 aJ) aH)) (hlen:=(aN (aN aV)))) nd)
  (aO (kC 3 (jE aH) nd)
  (aO (gO fL rfl (fY bn.range' (aE (aC 2) aH)) (bB 4 nd)
  (aO (Qj 5 [0, 1] 1 ["ring", "mores", "place"] rfl (Zf bn.range' (aE (aC 4) (aE (dF 1 bn.len') (aE (aC 2) aH)))) (fun C s H fp => (bB 2 cE)) (fun C s H fp => dO) (fun C s H fp => (eD (eI (aW 0 aJ) (aC 2)) (aW 1 (aC 2)))) nd)
  (aO (Qj 6 [0, 1] 1 ["ring", "mores", "place"] rfl (Zf bn.range' (aE (aC 4) (aE (dF 1 bn.len') (aE (aC 2) aH)))) (fun C s H fp => (bB 2 cE)) (fun C s H fp => dO) (fun C s H fp => (eD (eI (aW 0 aJ) (aC 2)) (aW 1 (aC 2)))) nd)
  (aU (jJ 3 (cJ (aE (Lf rfl bn.max' (aE (aC 5) aH)) (aE (Uh rfl bn.min' (aE (aC 6) aH)) aH))))))))
  (aU (mI 3)))))
abbrev zfr:Stmt:=bV 57
def zey:ME:=
 (iZ jA jA (aI 0 (aA 3)) (aI 1 (aA 3)) (aI 2 (aA 3)))
def zew:MO:=
 dJ [4,1,5] 1 (fI (aD (cR 1) aB)) (gN 3) dD zey
def zeE:MS:=
 (aR (mC (gG fun bs=>bs.all id) (aD (cQ zew) aB)))
def zdr:MS:=
 (aF (gX (aA 0) (gT 4 (bX (gN 2) (bX (gN 3) (bX (gN 4) (bX (gN 5) fG))))))
  (aF (bW (fE (aQ (m2 fU (cR 1) (cR 3))) (aQ (m2 fU (bD Kc (aD (aA 1) (aD (aA 2) aB))) (aA 3))))
  (aR (eC (.bl false)))
  bZ)
  zeE))
def Qp:List D->Option Sl:=fP 6 zdr
theorem zjK (zbg:FD P w K mg base 1 "_law_ring_sums" (aT K 2 Kc))(h:FnAt K "_law_ring_fits" zfr):FD P w K mg base 2 "_law_ring_fits" (aT K 2 Qp):=
 cM (N:=["ring","row","k","sums","least","greatest"]) (k:=1) (m:=zdr) X G h fun _ _ _ _ _ _ _ hr nd=>(aO (Cg (aC 0) (fZ rfl (cB (bB 2 nd) (cB (bB 3 nd) (cB (bB 4 nd) (cB (bB 5 nd) gB))))))
  (aO (cA (STw.st (tP (qL hr.units (dF 1 bn.len') (dF 3 bn.len')) (Lp (qL hr.units (bE zbg hr (aE (aC 1) (aE (aC 2) aH)) (hlen := (aN (aN aV)))) (aC 3)))))
  (aU (bL kX))
  cD)
  (aU (bL (Pw rfl bn.all' (aE (SO.se (fQ [4,1,5] 1 ["least","row","greatest","place"] rfl (fY bn.range' (aE (dF 1 bn.len') aH)) (fun C s H fp=>(bB 3 cE)) (fun C s H fp=>dO) (fun C s H fp=>(Kp jX jX eQ eQ (aW 0 (aC 3)) (aW 1 (aC 3)) (aW 2 (aC 3)))))) aH))))))
abbrev zeL:Stmt:=bV 58
def zdJ:ME:=
 (m2 jA (aI 0 (eC (.int 0))) (aI 0 (eC (.int 1))))
def zdR:MO:=
 dJ [] 1 (cC (aA 5)) (gN 0) dD zdJ
def zdS:ME:=
 (aI 0 (eC (.int 1)))
def zdT:MO:=
 dJ [] 1 (cC (dX (aA 5) (gE (m2 aZ (aA 8) (eC (.int 1)))) iN)) (gN 0) dD zdS
def zdP:MS:=
 (aF (dB 7 (mC (xU eA) (aD (m2 cI (aI 5 (aA 8)) (eC (.int 0))) (aD (m2 bN (aA 6) (mC dA (aD (cQ zdT) aB))) aB))))
  (aP 6 (m2 bN (aA 6) (aI 7 (aA 8)))))
def zdZ:MS:=
 cL (fI (aD (cR 5) aB)) (gN 8) zdP
def zdN:ME:=
 (m2 aZ (aI 0 (m2 bO (aA 2) (cR 0))) (aI 1 (aA 2)))
def zdX:MO:=
 fN [7,1] 1 0 7 (fI (aD (cR 1) aB)) (gN 2) dD zdN
def zdE:MS:=
 (aF (aP 6 (m2 dP (aA 4) (aA 3)))
  (aF (fR 7 (dC aB))
  (aF zdZ
  (aF (aP 9 (mC fW (aD (cQ zdX) aB)))
  (aR (Xf (aQ (bD Qp (aD (aA 0) (aD (aA 9) aB)))) (aA 9) (eC .non)))))))
def zc0:MS:=
 (aF (gX (bD zP (aD (aA 0) aB)) (gT 2 (bX (gN 1) (bX (gN 2) fG))))
  (aF (aP 3 (m2 dP (aI 0 (eC (.int 0))) (cR 2)))
  (aF (aP 4 (m2 bN (m2 cI (aI 0 (eC (.int 1))) (eC (.int 0))) (mC dA (aD (dX (aA 1) iN (gE (aI 0 (eC (.int 0))))) aB))))
  (aF (aP 5 (bD Oe (aD (aA 0) (aD (aA 1) aB))))
  (aF (bW (fE (aQ (m2 iY (mC gL (aD (aA 2) aB)) (eC (.int 0)))) (fE (aQ (m2 fV (mC jZ (aD (aA 2) aB)) (eC (.int 0)))) (fE (aQ (m2 iY (m2 bO (aA 4) (aA 3)) (eC (.int 0)))) (lP (aQ (mC (gG fun bs => bs.all id) (aD (cQ zdR) aB)))))))
  (aR (eC .non))
  bZ)
  zdE)))))
def Qx:List D->Option Sl:=fP 10 zc0
theorem zjs (zc9:FD P w K mg base 2 "_law_ring_fits" (aT K 2 Qp))(zaK:FD P w K mg base 2 "_law_ring_mores" (aT K 1 zP))(zcS:FD P w K mg base 2 "_law_ring_spans" (aT K 2 Oe))(h:FnAt K "_law_ring_least" zeL):FD P w K mg base 3 "_law_ring_least" (aT K 1 Qx):=
 cM (N:=["ring","mores","backs","each","total","spans","left","firsts","at","row"]) (k:=2) (m:=zc0) X G h fun _ _ _ _ _ _ _ hr nd=>(aO (Cg (bE zaK hr (aE (aC 0) aH) (hlen:=(aN aV))) (fZ rfl (cB (bB 1 nd) (cB (bB 2 nd) gB))))
  (aO (bF 3 (jP (aW 0 aJ) (dF 2 bn.len')) nd)
  (aO (bF 4 (eD (eI (aW 0 aJ) aJ) (jI rfl bn.sum' (aE (lB (aC 1) jN (gV (aW 0 aJ))) aH))) nd)
  (aO (bF 5 (bE zcS hr (aE (aC 0) (aE (aC 1) aH)) (hlen := (aN (aN aV)))) nd)
  (aO (cA (STw.st (tP (Ar (Lf rfl bn.max' (aE (aC 2) aH)) aJ) (tP (xQ (Uh rfl bn.min' (aE (aC 2) aH)) aJ) (tP (Ar (dW (aC 4) (aC 3)) aJ) (Lp (rD (Ey (Pw rfl bn.all' (aE (SO.se (fQ [] 1 ["span"] rfl (fS (aC 5)) (fun C s H fp => (bB 0 cE)) (fun C s H fp => dO) (fun C s H fp => (Sx (aW 0 aJ) (aW 0 aJ))))) aH)))))))))
  (aU (bL Cq))
  cD)
  (aO (bF 6 (jP (aC 4) (aC 3)) nd)
  (aO (kC 7 (jE aH) nd)
  (aO (gO fL rfl (fY bn.range' (aE (dF 5 bn.len') aH)) (bB 8 nd)
  (aO (jJ 7 (zoh rfl bn.max' (aE (eI (aW 5 (aC 8)) aJ) (aE (eD (aC 6) (jI rfl bn.sum' (aE (SO.se (fQ [] 1 ["span"] rfl (fS (lB (aC 5) (gV (cH (aC 8) aJ)) jN)) (fun C s H fp => (bB 0 cE)) (fun C s H fp => dO) (fun C s H fp => (aW 0 aJ)))) aH))) aH))))
  (aU (bF 6 (eD (aC 6) (aW 7 (aC 8))) nd))))
  (aO (bF 9 (jH bn.tuple' (aE (SO.se (Vd [7, 1] 1 0 7 ["firsts", "mores", "place"] rfl (fY bn.range' (aE (dF 1 bn.len') aH)) (fun C s H fp => (bB 2 cE)) (fun C s H fp => dO) (fun C s H fp => (cH (aW 0 (dW (aC 2) (dF 0 bn.len'))) (aW 1 (aC 2)))))) aH)) nd)
  (aU (bL (pI (Ey (bE zc9 hr (aE (aC 0) (aE (aC 9) aH)) (hlen:=(aN (aN aV))))) (aC 9) Cq))))))))))))
abbrev zdO:Stmt:=bV 59
def zcX:ME:=
 (fB (iZ jA fV (eC (.int 0)) (aI 0 (aA 3)) (aA 1)) (m2 bY (m2 bO (aI 0 (aA 3)) (aA 2)) (aA 3)))
def zcZ:MO:=
 dJ [0,2,1] 1 (fI (aD (aA 1) aB)) (gN 3) dD zcX
def zcY:MS:=
 (aR (mC (gG fun bs=>bs.all id) (aD (cQ zcZ) aB)))
def zcs:MS:=
 (aF (bW (aQ (m2 fU (cR 0) (aA 1)))
  (aR (eC (.bl false)))
  bZ)
  zcY)
def Mx:List D->Option Sl:=fP 3 zcs
theorem zhM (h:FnAt K "_law_firsts_right" zdO):FD P w K mg base 1 "_law_firsts_right" (aT K 3 Mx):=
 cM (N:=["places","rounds","many"]) (k:=0) (m:=zcs) X G h fun _ _ _ _ _ _ _ hr nd=>(aO (cA (qL hr.units (dF 0 bn.len') (aC 1))
  (aU (bL kX))
  cD)
  (aU (bL (Pw rfl bn.all' (aE (SO.se (fQ [0,2,1] 1 ["places","many","rounds","j"] rfl (fY bn.range' (aE (aC 1) aH)) (fun C s H fp=>(bB 3 cE)) (fun C s H fp=>dO) (fun C s H fp=>(tU (Kp jX mH eQ eQ aJ (aW 0 (aC 3)) (aC 1)) (tE (vG hr.units (dW (aW 0 (aC 3)) (aC 2)) (aC 3))))))) aH)))))
abbrev zec:Stmt:=bV 60
def zdk:MS:=
 (aR (m2 iY (m2 bN (m2 cI (aI 0 (eC (.int 2))) (aA 4)) (aI 1 (aA 4))) (m2 bN (m2 cI (aI 0 (eC (.int 3))) (aA 5)) (aI 1 (aA 5)))))
def zdo:ME:=
 (m2 bN (m2 cI (aI 0 (eC (.int 2))) (aA 2)) (aI 1 (aA 2)))
def zdf:MO:=
 dJ [0,1] 1 (cC (aI 2 (eC (.int 1)))) (gN 2) dD zdo
def zdj:ME:=
 (m2 bN (m2 cI (aI 0 (eC (.int 3))) (aA 2)) (aI 1 (aA 2)))
def zdp:MO:=
 dJ [0,1] 1 (cC (aI 2 (eC (.int 1)))) (gN 2) dD zdj
def zdm:MS:=
 (aR (m2 fV (mC dA (aD (cQ zdp) aB)) (aA 6)))
def zcg:MS:=
 (aF (aP 6 (m2 dP (m2 bN (m2 cI (aI 0 (eC (.int 1))) (eC (.int 0))) (mC dA (aD (dX (aA 1) iN (gE (aI 0 (eC (.int 0))))) aB))) (m2 dP (aI 0 (eC (.int 0))) (aA 3))))
  (aF (bW (aQ (m2 bY (aI 2 (eC (.int 0))) (eC (.str "low"))))
  (aR (m2 iY (mC dA (aD (cQ zdf) aB)) (aA 6)))
  bZ)
  zdm))
def zb8:MS:=
 (aF (bW (lP (aQ (bD Mx (aD (aI 2 (eC (.int 1))) (aD (aA 3) (aD (cR 1) aB))))))
  (aR (eC (.bl false)))
  bZ)
  zcg)
def Sw:MS:=
 (aF (aP 3 (bD vB (aD (cR 1) (aD (aI 0 (eC (.int 0))) aB))))
  (aF (bW (aQ (m2 bY (aI 2 (eC (.int 0))) (eC (.str "clash"))))
  (aF (gX (dX (aA 2) (gE (eC (.int 1))) iN) (gT 2 (bX (gN 4) (bX (gN 5) fG))))
  (aF (bW (fE (lP (aQ (iZ jA fV (eC (.int 0)) (aA 4) (cR 1)))) (fE (lP (aQ (iZ jA fV (eC (.int 0)) (aA 5) (cR 1)))) (aQ (m2 fU (m2 bO (aA 4) (aA 3)) (m2 bO (aA 5) (aA 3))))))
  (aR (eC (.bl false)))
  bZ)
  zdk))
  bZ)
  zb8))
def tR:List D->Option Sl:=fP 7 Sw
theorem ziD (zaX:FD P w K mg base 1 "_law_divisor" (aT K 2 vB))(zco:FD P w K mg base 1 "_law_firsts_right" (aT K 3 Mx))(h:FnAt K "_law_bound_paper" zec):FD P w K mg base 2 "_law_bound_paper" (aT K 3 tR):=
 cM (N:=["ring","mores","told","rounds","a","b","total"]) (k:=1) (m:=Sw) X G h fun _ _ _ _ _ _ _ hr nd=>(aO (bF 3 (bE zaX hr (aE (dF 1 bn.len') (aE (aW 0 aJ) aH)) (hlen:=(aN (aN aV)))) nd)
  (aO (cA (fF hr.units (aW 2 aJ) cS)
  (aO (Cg (lB (aC 2) (gV aJ) jN) (fZ rfl (cB (bB 4 nd) (cB (bB 5 nd) gB))))
  (aO (cA (STw.st (tP (rD (Mf jX mH eQ eQ xV aJ (aC 4) (dF 1 bn.len'))) (tP (rD (Mf jX mH eQ eQ xV aJ (aC 5) (dF 1 bn.len'))) (Lp (qL hr.units (dW (aC 4) (aC 3)) (dW (aC 5) (aC 3)))))))
  (aU (bL kX))
  cD)
  (aU (bL (Ko (eD (eI (aW 0 aJ) (aC 4)) (aW 1 (aC 4))) (eD (eI (aW 0 aJ) (aC 5)) (aW 1 (aC 5))))))))
  cD)
  (aO (cA (rD (Ey (bE zco hr (aE (aW 2 aJ) (aE (aC 3) (aE (dF 1 bn.len') aH))) (hlen := (aN (aN (aN aV)))))))
  (aU (bL kX))
  cD)
  (aO (bF 6 (jP (eD (eI (aW 0 aJ) aJ) (jI rfl bn.sum' (aE (lB (aC 1) jN (gV (aW 0 aJ))) aH))) (jP (aW 0 aJ) (aC 3))) nd)
  (aO (cA (fF hr.units (aW 2 aJ) cS)
  (aU (bL (Ko (jI rfl bn.sum' (aE (SO.se (fQ [0,1] 1 ["ring","mores","place"] rfl (fS (aW 2 aJ)) (fun C s H fp=>(bB 2 cE)) (fun C s H fp=>dO) (fun C s H fp=>(eD (eI (aW 0 aJ) (aC 2)) (aW 1 (aC 2)))))) aH)) (aC 6))))
  cD)
  (aU (bL (Cb (jI rfl bn.sum' (aE (SO.se (fQ [0,1] 1 ["ring","mores","place"] rfl (fS (aW 2 aJ)) (fun C s H fp=>(bB 2 cE)) (fun C s H fp=>dO) (fun C s H fp=>(eD (eI (aW 0 aJ) (aC 2)) (aW 1 (aC 2)))))) aH)) (aC 6)))))))))
abbrev zfe:Stmt:=bV 61
def zeq:MS:=
 (aR (fB (m2 bY (aA 4) (eC (.int 0))) (bD tR (aD (aA 0) (aD (aA 2) (aD (aA 1) aB))))))
def zcw:MS:=
 (aF (bW (aQ (m2 bY (aI 1 (eC (.int 0))) (eC (.str "part"))))
  (aR (fB (m2 iY (aA 4) (eC (.int 0))) (m2 bY (aI 1 (eC (.int 1))) (aA 4))))
  bZ)
  zeq)
def Zt:MS:=
 (aF (aP 4 (m2 bO (m2 bN (m2 cI (aI 0 (eC (.int 1))) (eC (.int 0))) (mC dA (aD (dX (aA 2) iN (gE (aI 0 (eC (.int 0))))) aB))) (m2 dP (aI 0 (eC (.int 0))) (cR 3))))
  (aF (bW (fE (aQ (m2 iY (mC gL (aD (aA 3) aB)) (eC (.int 0)))) (aQ (m2 fV (mC jZ (aD (aA 3) aB)) (eC (.int 0)))))
  (aR (eC (.bl false)))
  bZ)
  zcw))
def Vt:MS:=
 (aF (gX (bD zP (aD (aA 0) aB)) (gT 2 (bX (gN 2) (bX (gN 3) fG))))
  (aF (bW (aQ (m2 bY (aI 1 (eC (.int 0))) (eC (.str "round"))))
  (aR (fB (iZ jA fV (eC (.int 0)) (aI 1 (eC (.int 1))) (cR 3)) (m2 fU (aI 3 (aI 1 (eC (.int 1)))) (eC (.int 0)))))
  bZ)
  Zt))
def Ki:MS:=
 (aF (bW (aQ (m2 bY (aI 1 (eC (.int 0))) (eC (.str "row"))))
  (aR (m2 bY (mC fW (aD (aI 1 (eC (.int 1))) aB)) (bD Qx (aD (aA 0) aB))))
  bZ)
  Vt)
def mL:List D->Option Sl:=fP 5 Ki
theorem zjW (zcA:FD P w K mg base 2 "_law_bound_paper" (aT K 3 tR))(zcP:FD P w K mg base 3 "_law_ring_least" (aT K 1 Qx))(zaK:FD P w K mg base 2 "_law_ring_mores" (aT K 1 zP))(h:FnAt K "_law_ring_told" zfe):FD P w K mg base 4 "_law_ring_told" (aT K 2 mL):=
 cM (N:=["ring","told","mores","backs","left"]) (k:=3) (m:=Ki) X G h fun _ _ _ _ _ _ _ hr nd=>(aO (cA (fF hr.units (aW 1 aJ) cS)
  (aU (bL (vG hr.units (jH bn.tuple' (aE (aW 1 aJ) aH)) (bE zcP hr (aE (aC 0) aH) (hlen:=(aN aV))))))
  cD)
  (aO (Cg (bE zaK hr (aE (aC 0) aH) (hlen := (aN aV))) (fZ rfl (cB (bB 2 nd) (cB (bB 3 nd) gB))))
  (aO (cA (fF hr.units (aW 1 aJ) cS)
  (aU (bL (tU (Kp jX mH eQ eQ aJ (aW 1 aJ) (dF 3 bn.len')) (tE (Ta hr.units (aW 3 (aW 1 aJ)) aJ)))))
  cD)
  (aO (bF 4 (dW (eD (eI (aW 0 aJ) aJ) (jI rfl bn.sum' (aE (lB (aC 2) jN (gV (aW 0 aJ))) aH))) (jP (aW 0 aJ) (dF 3 bn.len'))) nd)
  (aO (cA (STw.st (tP (Ar (Lf rfl bn.max' (aE (aC 3) aH)) aJ) (Lp (xQ (Uh rfl bn.min' (aE (aC 3) aH)) aJ))))
  (aU (bL kX))
  cD)
  (aO (cA (fF hr.units (aW 1 aJ) cS)
  (aU (bL (tU (Ko (aC 4) aJ) (tE (vG hr.units (aW 1 aJ) (aC 4))))))
  cD)
  (aU (bL (tU (vG hr.units (aC 4) aJ) (tE (bE zcA hr (aE (aC 0) (aE (aC 2) (aE (aC 1) aH))) (hlen:=(aN (aN (aN aV)))))))))))))))
abbrev zg5:Stmt:=bV 62
def zc5:MS:=
 (bW (aQ (m2 bY (m2 bO (aA 7) (aA 2)) (aA 4)))
  (eP 6 (aA 7) (m2 bN (aI 6 (aA 7)) (aA 5)))
  bZ)
def zfb:MS:=
 (aF (bW (aQ (m2 bY (m2 bO (aA 7) (aA 2)) (aA 3)))
  (eP 6 (aA 7) (m2 aZ (aI 6 (aA 7)) (aA 5)))
  bZ)
  zc5)
def zfp:MS:=
 cL (fI (aD (cR 1) aB)) (gN 7) zfb
def zeR:MS:=
 (aF (aP 3 (cU cV 0 (aD (aA 2) aB)))
  (aF (aP 4 (cU cV 0 (aD (aA 2) aB)))
  (aF (aP 5 (m2 cI (aY (aD (eC (.int 1)) (aD (eC (.int 1)) (aD (eC (.int 2)) (aD (m2 eJ (eC (.int 10)) (eC (.int 58))) aB))))) (cU cV 0 (aD (eC (.int 4)) aB))))
  (aF (fR 6 (oC dM (aD (aA 1) aB)))
  (aF zfp
  (aR (mC fW (aD (aA 6) aB))))))))
def Lc:List D->List D->Option (Sl×List D):=fM 8 zeR
theorem zkT (zak:FD P w K mg base 1 "_law_take" (gI K 2 cV))(h:FnAt K "_law_shifted" zg5):FD P w K mg base 2 "_law_shifted" (gI K 3 Lc):=
 Ln (N:=["pot","row","rounds","one","other","by","found","place"]) (k:=1) (m:=zeR) X G h fun _ _ _ _ _ _ _ hr nd=>(aO (bF 3 (dH 0 zak hr (aE (aC 2) aH) (dG (aN aV))) nd)
  (aO (bF 4 (dH 0 zak hr (aE (aC 2) aH) (dG (aN aV))) nd)
  (aO (bF 5 (eI (cJ (aE aJ (aE aJ (aE aJ (aE (lQ aJ aJ) aH))))) (dH 0 zak hr (aE aJ aH) (dG (aN aV)))) nd)
  (aO (kC 6 (Xj bn.list' (aE (aC 1) aH)) nd)
  (aO (gO fL rfl (fY bn.range' (aE (dF 1 bn.len') aH)) (bB 7 nd)
  (aO (cA (fF hr.units (dW (aC 7) (aC 2)) (aC 3))
  (aU (mB 6 (cH (aW 6 (aC 7)) (aC 5)) (aC 7)))
  cD)
  (aU (cA (fF hr.units (dW (aC 7) (aC 2)) (aC 4))
  (aU (mB 6 (eD (aW 6 (aC 7)) (aC 5)) (aC 7)))
  cD))))
  (aU (bL (jH bn.tuple' (aE (aC 6) aH)))))))))
abbrev zh4:Stmt:=bV 63
def zgq:ME:=
 (aY (aD (m2 dE (aA 0) (m2 bN (aI 1 (aA 3)) (aI 2 (aA 3)))) (aD (aA 3) aB)))
def zfT:MO:=
 dJ [9,8,2] 1 (Mz (aD (aA 11) (aD (aA 5) (aD (aA 4) aB)))) (gN 3) dD zgq
def zf9:MS:=
 (aF (aP 12 (cQ zfT))
  (dB 10 (m2 cI (mC Of (aD (aA 12) aB)) (eC (.int 1)))))
def zf8:MS:=
 cL (fI (aD (aA 4) aB)) (gN 11) zf9
def zf6:ME:=
 (m2 aZ (aA 3) (m2 dE (aA 0) (cU cV 1 (aD (m2 dP (aA 2) (aA 0)) aB))))
def zfR:MO:=
 fN [4,0,5] 1 1 0 (fI (aD (aA 4) aB)) (gN 3) dD zf6
def zdw:MS:=
 (aF (fR 10 (dC aB))
  (aF zf8
  (aF (dB 6 (aY (aD (aA 7) (aD (mC fW (aD (aA 10) aB)) aB))))
  (dB 6 (aY (aD (aA 7) (aD (mC fW (aD (cQ zfR) aB)) aB)))))))
def zgk:MS:=
 cL (cC (aY (aD (aY (aD (eC (.str "low")) (aD (aI 1 (eC (.int 2))) (aD (eC (.int 1)) aB)))) (aD (aY (aD (eC (.str "high")) (aD (aI 1 (eC (.int 3))) (aD (m1 fA (eC (.int 1))) aB)))) aB)))) (gT 3 (bX (gN 7) (bX (gN 8) (bX (gN 9) fG)))) zdw
def zgc:MS:=
 (aF (aP 14 (cU cV 0 (aD (aA 5) aB)))
  (dB 6 (aY (aD (eC (.str "clash")) (aD (aA 14) (aD (m2 bO (m2 aZ (aA 14) (m2 dE (aA 4) (cU cV 0 (aD (m2 dP (aA 5) (aA 4)) aB)))) (aA 5)) aB))))))
def zf0:MS:=
 cL (fI (aD (eC (.int 3)) aB)) (gN 13) zgc
def Xp:MS:=
 (kB 6)
def zfx:MS:=
 (aF (gX (bD zP (aD (aA 1) aB)) (gT 2 (bX (gN 2) (bX (gN 3) fG))))
  (aF (aP 4 (cR 3))
  (aF (aP 5 (cR 2))
  (aF (fR 6 (dC (aD (bD Mn (aD (aA 1) aB)) (aD (aY (aD (eC (.str "round")) (aD (cU cV 0 (aD (aA 4) aB)) aB))) (aD (aY (aD (eC (.str "part")) (aD (m2 aZ (eC (.int 1)) (cU cV 0 (aD (eC (.int 5)) aB))) aB))) aB)))))
  (aF (dB 6 (aY (aD (eC (.str "part")) (aD (m2 bO (m2 bN (m2 cI (aI 1 (eC (.int 1))) (eC (.int 0))) (mC dA (aD (dX (aA 2) iN (gE (aI 1 (eC (.int 0))))) aB))) (m2 dP (aI 1 (eC (.int 0))) (aA 4))) aB))))
  (aF zgk
  (aF zf0
  (aF (aP 15 (bD oS (aD (aA 1) aB)))
  (aF (bW (aQ (m2 iY (aA 15) (eC (.int 0))))
  (aF (dB 6 (aY (aD (eC (.str "row")) (aD (bD Np (aD (aA 1) (aD (m2 bO (cU cV 0 (aD (m2 eJ (eC (.int 10)) (eC (.int 18))) aB)) (aA 15)) aB))) aB))))
  (aF (dB 6 (aY (aD (eC (.str "row")) (aD (cU Lc 0 (aD (m2 cI (aI 6 (m1 fA (eC (.int 1)))) (eC (.int 1))) (aD (aA 4) aB))) aB))))
  (dB 6 (aY (aD (eC (.str "row")) (aD (cU Lc 0 (aD (m2 cI (aI 6 (eC (.int 0))) (eC (.int 1))) (aD (aA 4) aB))) aB))))))
  bZ)
  Xp)))))))))
def Nc:List D->List D->Option (Sl×List D):=fM 16 zfx
theorem zk4 (zaK:FD P w K mg base 2 "_law_ring_mores" (aT K 1 zP))(zcU:FD P w K mg base 2 "_law_shifted" (gI K 3 Lc))(zak:FD P w K mg base 1 "_law_take" (gI K 2 cV))(ze1:FD P w K mg base 6 "fitted_ring" (aT K 1 Mn))(zjF:FD P w K mg base 7 "ring_at" (aT K 2 Np))(zbr:FD P w K mg base 6 "ring_many" (aT K 1 oS))(h:FnAt K "_law_papers" zh4):FD P w K mg base 8 "_law_papers" (gI K 2 Nc):=
 Ln (N:=["pot","ring","mores","backs","rounds","many","papers","word","bounds","sign","places","first","some","turn","a","count"]) (k:=7) (m:=zfx) X G h fun _ _ _ _ _ _ _ hr nd=>(aO (Cg (bE zaK hr (aE (aC 1) aH) (hlen:=(aN aV))) (fZ rfl (cB (bB 2 nd) (cB (bB 3 nd) gB))))
  (aO (bF 4 (dF 3 bn.len') nd)
  (aO (bF 5 (dF 2 bn.len') nd)
  (aO (kC 6 (jE (aE (bE ze1 hr (aE (aC 1) aH) (hlen := (aN aV))) (aE (cJ (aE cS (aE (dH 0 zak hr (aE (aC 4) aH) (dG (aN aV))) aH))) (aE (cJ (aE cS (aE (cH aJ (dH 0 zak hr (aE aJ aH) (dG (aN aV)))) aH))) aH)))) nd)
  (aO (jJ 6 (cJ (aE cS (aE (dW (eD (eI (aW 1 aJ) aJ) (jI rfl bn.sum' (aE (lB (aC 2) jN (gV (aW 1 aJ))) aH))) (jP (aW 1 aJ) (aC 4))) aH))))
  (aO (gO fL rfl (fS (cJ (aE (cJ (aE cS (aE (aW 1 aJ) (aE aJ aH)))) (aE (cJ (aE cS (aE (aW 1 aJ) (aE (tK aJ) aH)))) aH)))) (fZ rfl (cB (bB 7 nd) (cB (bB 8 nd) (cB (bB 9 nd) gB))))
  (aO (kC 10 (jE aH) nd)
  (aO (gO fL rfl (fY bn.range' (aE (aC 4) aH)) (bB 11 nd)
  (aO (Qj 12 [9, 8, 2] 1 ["sign", "bounds", "mores", "place"] rfl (Zf bn.range' (aE (aC 11) (aE (aC 5) (aE (aC 4) aH)))) (fun C s H fp => (bB 3 cE)) (fun C s H fp => dO) (fun C s H fp => (cJ (aE (iW (aC 0) (eD (aW 1 (aC 3)) (aW 2 (aC 3)))) (aE (aC 3) aH)))) nd)
  (aU (jJ 10 (eI (xX rfl hr.units bn.max' (aE (aC 12) aH)) aJ)))))
  (aO (jJ 6 (cJ (aE (aC 7) (aE (jH bn.tuple' (aE (aC 10) aH)) aH))))
  (aU (jJ 6 (cJ (aE (aC 7) (aE (jH bn.tuple' (aE (SO.se (Vd [4,0,5] 1 1 0 ["rounds","pot","many","first"] rfl (fY bn.range' (aE (aC 4) aH)) (fun C s H fp=>(bB 3 cE)) (fun C s H fp=>dO) (fun C s H fp=>(cH (aC 3) (iW (aC 0) (dH 1 zak hr (aE (jP (aC 2) (aC 0)) aH) (dG (aN aV)))))))) aH)) aH)))))))))
  (aO (gO fL rfl (fY bn.range' (aE aJ aH)) (bB 13 nd)
  (aO (bF 14 (dH 0 zak hr (aE (aC 5) aH) (dG (aN aV))) nd)
  (aU (jJ 6 (cJ (aE cS (aE (aC 14) (aE (dW (cH (aC 14) (iW (aC 4) (dH 0 zak hr (aE (jP (aC 5) (aC 4)) aH) (dG (aN aV))))) (aC 5)) aH))))))))
  (aO (bF 15 (bE zbr hr (aE (aC 1) aH) (hlen := (aN aV))) nd)
  (aO (cA (Ar (aC 15) aJ)
  (aO (jJ 6 (cJ (aE cS (aE (bE zjF hr (aE (aC 1) (aE (dW (dH 0 zak hr (aE (lQ aJ aJ) aH) (dG (aN aV))) (aC 15)) aH)) (hlen := (aN (aN aV)))) aH))))
  (aO (jJ 6 (cJ (aE cS (aE (dH 0 zcU hr (aE (eI (aW 6 (tK aJ)) aJ) (aE (aC 4) aH)) (dG (aN (aN aV)))) aH))))
  (aU (jJ 6 (cJ (aE cS (aE (dH 0 zcU hr (aE (eI (aW 6 aJ) aJ) (aE (aC 4) aH)) (dG (aN (aN aV)))) aH)))))))
  cD)
  (aU (mI 6)))))))))))
abbrev zdW:Stmt:=bV 64
def zb1:MS:=
 (aR (mC fW (aD (aA 3) aB)))
def zb0:MS:=
 (aF (bW (Bv (aQ (m2 bY (aA 4) (eC (.int 6)))) (aQ (m2 fV (m2 aZ (aA 5) (eC (.int 1))) (cR 3))))
  (gX (aY (aD (aI 3 (m2 aZ (aA 5) (eC (.int 1)))) (aD (aI 3 (aA 5)) aB))) (gT 2 (bX (gS 3 (aA 5)) (bX (gS 3 (m2 aZ (aA 5) (eC (.int 1)))) fG))))
  bZ)
  zb1)
def Zu:MS:=
 (aF (bW (Bv (aQ (m2 bY (aA 4) (eC (.int 5)))) (aQ (m2 fV (aA 5) (cR 3))))
  (sL (vT 3 (aA 5)))
  bZ)
  zb0)
def Xq:MS:=
 (aF (bW (aQ (m2 bY (aA 4) (eC (.int 4))))
  (wW 3 (aD (aA 5) (aD (cU cV 0 (aD (aA 2) aB)) aB)))
  bZ)
  Zu)
def Yi:MS:=
 (aF (fR 3 (oC dM (aD (aA 1) aB)))
  (aF (aP 4 (cU cV 0 (aD (eC (.int 7)) aB)))
  (aF (aP 5 (cU cV 0 (aD (m2 aZ (cR 3) (eC (.int 1))) aB)))
  (aF (aP 6 (m2 cI (aY (aD (eC (.int 1)) (aD (m1 fA (eC (.int 1))) (aD (m2 bN (eC (.int 0)) (aA 2)) (aD (aA 2) (aD (m2 eJ (eC (.int 10)) (eC (.int 59))) (aD (m1 fA (m2 eJ (eC (.int 10)) (eC (.int 59)))) aB))))))) (cU cV 0 (aD (eC (.int 6)) aB))))
  (aF (bW (Bv (aQ (m2 fV (aA 4) (eC (.int 4)))) (aQ (m2 fV (aA 5) (cR 3))))
  (eP 3 (aA 5) (m2 aZ (aI 3 (aA 5)) (aA 6)))
  bZ)
  Xq)))))
def Rf:List D->List D->Option (Sl×List D):=fM 7 Yi
theorem zhN (zak:FD P w K mg base 1 "_law_take" (gI K 2 cV))(h:FnAt K "_law_bent_numbers" zdW):FD P w K mg base 2 "_law_bent_numbers" (gI K 3 Rf):=
 Ln (N:=["pot","numbers","size","some","way","at","more"]) (k:=1) (m:=Yi) X G h fun _ _ _ _ _ _ _ hr nd=>(aO (kC 3 (Xj bn.list' (aE (aC 1) aH)) nd)
  (aO (bF 4 (dH 0 zak hr (aE aJ aH) (dG (aN aV))) nd)
  (aO (bF 5 (dH 0 zak hr (aE (cH (dF 3 bn.len') aJ) aH) (dG (aN aV))) nd)
  (aO (bF 6 (eI (cJ (aE aJ (aE (tK aJ) (aE (eD aJ (aC 2)) (aE (aC 2) (aE (lQ aJ aJ) (aE (tK (lQ aJ aJ)) aH))))))) (dH 0 zak hr (aE aJ aH) (dG (aN aV)))) nd)
  (aO (cA (STw.st (Re (xQ (aC 4) aJ) (Pm (xQ (aC 5) (dF 3 bn.len')))))
  (aU (mB 3 (cH (aW 3 (aC 5)) (aC 6)) (aC 5)))
  cD)
  (aO (cA (fF hr.units (aC 4) aJ)
  (aU (Gi 3 (aE (aC 5) (aE (dH 0 zak hr (aE (aC 2) aH) (dG (aN aV))) aH))))
  cD)
  (aO (cA (STw.st (Re (fF hr.units (aC 4) aJ) (Pm (xQ (aC 5) (dF 3 bn.len')))))
  (aU (zT (Fs 3 (aC 5))))
  cD)
  (aO (cA (STw.st (Re (fF hr.units (aC 4) aJ) (Pm (xQ (cH (aC 5) aJ) (dF 3 bn.len')))))
  (aU (Cg (cJ (aE (aW 3 (cH (aC 5) aJ)) (aE (aW 3 (aC 5)) aH))) (fZ rfl (cB (pT 3 (aC 5)) (cB (pT 3 (cH (aC 5) aJ)) gB)))))
  cD)
  (aU (bL (jH bn.tuple' (aE (aC 3) aH))))))))))))
abbrev zkb:Stmt:=bV 65
def zih:MS:=
 (aF (aP 6 (m2 cI (aY (aD (eC (.int 0)) (aD (eC (.int 1)) (aD (m1 fA (eC (.int 1))) (aD (m2 bN (eC (.int 0)) (aA 2)) (aD (m2 eJ (eC (.int 10)) (eC (.int 59))) aB)))))) (cU cV 0 (aD (eC (.int 5)) aB))))
  (aR (aY (aD (m2 cI (aY (aD (eC (.str "round")) (aD (eC (.str "part")) aB))) (cU cV 0 (aD (eC (.int 2)) aB))) (aD (m2 aZ (aI 1 (eC (.int 1))) (aA 6)) aB)))))
def zeP:MS:=
 (aF (bW (aQ (m2 bY (aI 1 (eC (.int 0))) (eC (.str "clash"))))
  (aF (gX (dX (aA 1) (gE (eC (.int 1))) iN) (gT 2 (bX (gN 4) (bX (gN 5) fG))))
  (aF (aP 6 (m2 cI (aY (aD (eC (.int 1)) (aD (m1 fA (eC (.int 1))) (aD (m2 bN (eC (.int 0)) (aA 2)) (aD (aA 2) (aD (m2 eJ (eC (.int 10)) (eC (.int 59))) aB)))))) (cU cV 0 (aD (eC (.int 5)) aB))))
  (aR (m2 cI (aY (aD (aY (aD (eC (.str "clash")) (aD (m2 aZ (aA 4) (aA 6)) (aD (aA 5) aB)))) (aD (aY (aD (eC (.str "clash")) (aD (aA 4) (aD (m2 aZ (aA 5) (aA 6)) aB)))) (aD (aY (aD (eC (.str "clash")) (aD (aA 5) (aD (aA 4) aB)))) (aD (aY (aD (eC (.str "clash")) (aD (aA 4) (aD (aA 4) aB)))) aB))))) (cU cV 0 (aD (eC (.int 4)) aB))))))
  bZ)
  zih)
def Sk:MS:=
 (aF (bW (aQ (m2 mF (aI 1 (eC (.int 0))) (aY (aD (eC (.str "row")) (aD (eC (.str "low")) (aD (eC (.str "high")) aB))))))
  (aF (aP 3 (m2 cI (aY (aD (aI 1 (eC (.int 0))) (aD (aI 1 (eC (.int 0))) (aD (aI 1 (eC (.int 0))) (aD (eC (.str "low")) (aD (eC (.str "high")) (aD (eC (.str "row")) aB))))))) (cU cV 0 (aD (eC (.int 6)) aB))))
  (aR (aY (aD (aA 3) (aD (cU Rf 0 (aD (aI 1 (eC (.int 1))) (aD (aA 2) aB))) aB)))))
  bZ)
  zeP)
def uO:List D->List D->Option (Sl×List D):=fM 7 Sk
theorem znD (zcp:FD P w K mg base 2 "_law_bent_numbers" (gI K 3 Rf))(zak:FD P w K mg base 1 "_law_take" (gI K 2 cV))(h:FnAt K "_law_bent" zkb):FD P w K mg base 3 "_law_bent" (gI K 3 uO):=
 Ln (N:=["pot","paper","size","word","a","b","more"]) (k:=2) (m:=Sk) X G h fun _ _ _ _ _ _ _ hr nd=>(aO (cA (Ce (aW 1 aJ) (cJ (aE cS (aE cS (aE cS aH)))))
  (aO (bF 3 (eI (cJ (aE (aW 1 aJ) (aE (aW 1 aJ) (aE (aW 1 aJ) (aE cS (aE cS (aE cS aH))))))) (dH 0 zak hr (aE aJ aH) (dG (aN aV)))) nd)
  (aU (bL (cJ (aE (aC 3) (aE (dH 0 zcp hr (aE (aW 1 aJ) (aE (aC 2) aH)) (dG (aN (aN aV)))) aH))))))
  cD)
  (aO (cA (fF hr.units (aW 1 aJ) cS)
  (aO (Cg (lB (aC 1) (gV aJ) jN) (fZ rfl (cB (bB 4 nd) (cB (bB 5 nd) gB))))
  (aO (bF 6 (eI (cJ (aE aJ (aE (tK aJ) (aE (eD aJ (aC 2)) (aE (aC 2) (aE (lQ aJ aJ) aH)))))) (dH 0 zak hr (aE aJ aH) (dG (aN aV)))) nd)
  (aU (bL (eI (cJ (aE (cJ (aE cS (aE (cH (aC 4) (aC 6)) (aE (aC 5) aH)))) (aE (cJ (aE cS (aE (aC 4) (aE (cH (aC 5) (aC 6)) aH)))) (aE (cJ (aE cS (aE (aC 5) (aE (aC 4) aH)))) (aE (cJ (aE cS (aE (aC 4) (aE (aC 4) aH)))) aH))))) (dH 0 zak hr (aE aJ aH) (dG (aN aV))))))))
  cD)
  (aO (bF 6 (eI (cJ (aE aJ (aE aJ (aE (tK aJ) (aE (eD aJ (aC 2)) (aE (lQ aJ aJ) aH)))))) (dH 0 zak hr (aE aJ aH) (dG (aN aV)))) nd)
  (aU (bL (cJ (aE (eI (cJ (aE cS (aE cS aH))) (dH 0 zak hr (aE aJ aH) (dG (aN aV)))) (aE (cH (aW 1 aJ) (aC 6)) aH))))))))
abbrev Ry:Stmt:=bV 66
def zo1:ME:=
 (cU uO 0 (aD (aA 2) (aD (mC dZ (aD (aI 1 (eC (.int 1))) aB)) aB)))
def zph:MO:=
 fN [2,3] 1 0 2 (cC (aA 4)) (gN 2) dD zo1
def Pu:MS:=
 (bW (Bv (aQ (m2 bY (aI 5 (eC (.int 0))) (eC (.str "row")))) (aQ (m2 fU (bD iV (aD (aA 3) (aD (aY (aD (eC (.str "row")) (aD (cQ (oC dM (aD (aI 5 (eC (.int 1))) aB))) aB))) aB))) (aA 6))))
  (aR (eC (.bl false)))
  bZ)
def zoT:MS:=
 (aF (bW (aQ (m2 fU (bD iV (aD (aA 3) (aD (aA 5) aB))) (aA 6)))
  (aR (eC (.bl false)))
  bZ)
  Pu)
def zlS:MS:=
 (aF (aP 6 (bD iV (aD (aA 3) (aD (aA 5) aB))))
  (aF (bW (fE (lP (aQ (eIsI "bool" (aA 6)))) (aQ (m2 fU (aA 6) (bD mL (aD (aA 3) (aD (aA 5) aB))))))
  (aR (eC (.bl false)))
  bZ)
  zoT))
def zoS:MS:=
 cL (cC (m2 aZ (aA 4) (cQ zph))) (gN 5) zlS
def zo2:MS:=
 (aF (fR 2 (Kx Qr (aD (aA 1) aB)))
  (aF (aP 3 (cU Rm 2 (aD (eC (.int 24)) aB)))
  (aF (aP 4 (cU Nc 2 (aD (aA 3) aB)))
  zoS)))
def zpa:MS:=
 cL (cC (m2 aZ (dX (aA 0) iN (gE (eC (.int 5)))) (cQ (dC (aD (eC (.int 0)) aB))))) (gN 1) zo2
def rY:MS:=
 (aF zpa
  (aR (eC (.bl true))))
def Bp:List D->Option Sl:=fP 7 rY
theorem Jq (zg0:FD P w K mg base 3 "_law_bent" (gI K 3 uO))(zg8:FD P w K mg base 1 "_law_deal" (aT K 1 Qr))(ze6:FD P w K mg base 8 "_law_papers" (gI K 2 Nc))(zgZ:FD P w K mg base 3 "_law_ring" (gI K 2 Rm))(zda:FD P w K mg base 4 "_law_ring_told" (aT K 2 mL))(zcO:FD P w K mg base 6 "ring_right" (aT K 2 iV))(F:Fun K "law" "law" Ry f fd):FnOk P w K mg base jF 9 f fd ["script"] (aT K 1 Bp):=
 Zz (N:=["script","cell","pot","ring","papers","paper","found"]) (k:=8) (n:=1) (m:=rY) F fun _ _ _ _ _ _ _ hr nd=>(aO (gO fL rfl (fS (cH (lB (aC 0) jN (gV aJ)) (SO.se (jE (aE aJ aH))))) (bB 1 nd)
  (aO (kC 2 (Xa zg8 hr (aE (aC 1) aH) (hlen := (aN aV))) nd)
  (aO (bF 3 (dH 2 zgZ hr (aE aJ aH) (dG (aN aV))) nd)
  (aO (bF 4 (dH 2 ze6 hr (aE (aC 3) aH) (dG (aN aV))) nd)
  (aU (gO fL rfl (fS (cH (aC 4) (SO.se (Vd [2, 3] 1 0 2 ["pot", "ring", "paper"] rfl (fS (aC 4)) (fun C s H fp => (bB 2 cE)) (fun C s H fp => dO) (fun C s H fp => (dH 0 zg0 hr (aE (aC 2) (aE (zr3 bn.len' (aE (aW 1 aJ) aH)) aH)) (dG (aN (aN aV))))))))) (bB 5 nd)
  (aO (bF 6 (bE zcO hr (aE (aC 3) (aE (aC 5) aH)) (hlen := (aN (aN aV)))) nd)
  (aO (cA (STw.st (tP (rD (Ey (Dc "bool" bn.isinstance' bn.bool' (by decide +kernel) (aC 6)))) (Lp (qL hr.units (aC 6) (bE zda hr (aE (aC 3) (aE (aC 5) aH)) (hlen := (aN (aN aV))))))))
  (aU (bL kX))
  cD)
  (aO (cA (qL hr.units (bE zcO hr (aE (aC 3) (aE (aC 5) aH)) (hlen := (aN (aN aV)))) (aC 6))
  (aU (bL kX))
  cD)
  (aU (cA (STw.st (Re (fF hr.units (aW 5 aJ) cS) (Pm (qL hr.units (bE zcO hr (aE (aC 3) (aE (cJ (aE cS (aE (SO.se (Xj bn.list' (aE (aW 5 aJ) aH))) aH))) aH)) (hlen := (aN (aN aV)))) (aC 6)))))
  (aU (bL kX))
  cD)))))))))))
  (aU (bL kX)))
end
set_option maxHeartbeats 0 in
theorem Jw {l:W.OpenLaw}{w:World}{K:W.Frag}{h:Heap}{mg:Str->Option Value}{fa:Addr}(X:K.In h)(G:h.Ns mainGlobals mg)(hfa:mg "law"=some (.ref fa))
  (h1:FnAt K "less_mores" zjx)
  (h2:FnAt K "head_spans" zi7)
  (h3:FnAt K "row_by_heads" zg6)
  (h4:FnAt K "places_asking" zfW)
  (h5:FnAt K "heads_paper" zh6)
  (h6:FnAt K "exchanged_row" zf4)
  (h7:FnAt K "lesser_rows" zhV)
  (h8:FnAt K "least_heads" zh1)
  (h9:FnAt K "part_ways" zkd)
  (h10:FnAt K "heads_many" zju)
  (h11:FnAt K "heads_below" zid)
  (h12:FnAt K "first_head" ziZ)
  (h13:FnAt K "heads_at" zkI)
  (h14:FnAt K "ring_sums" zj5)
  (h15:FnAt K "chosen_sum" zjc)
  (h16:FnAt K "row_within" zja)
  (h17:FnAt K "ring_holds" zi0)
  (h18:FnAt K "clash_right" zia)
  (h19:FnAt K "one_of_each" zhY)
  (h20:FnAt K "low_right" zj9)
  (h21:FnAt K "high_right" zi4)
  (h22:FnAt K "paper_right" zif)
  (h23:FnAt K "rounds_many" zh5)
  (h24:FnAt K "round_walk" zi3)
  (h25:FnAt K "round_closes" zgB)
  (h26:FnAt K "ring_mores" ziX)
  (h27:FnAt K "head_times" ziW)
  (h28:FnAt K "heads_sum" zj2)
  (h29:FnAt K "ring_total" zjq)
  (h30:FnAt K "sums_paper" zji)
  (h31:FnAt K "ring_lows" zj4)
  (h32:FnAt K "ring_highs" zjm)
  (h33:FnAt K "round_spans" zib)
  (h34:FnAt K "fitted_ring" zhR)
  (h35:FnAt K "ring_many" zj6)
  (h36:FnAt K "ring_at" zjH)
  (h37:FnAt K "least_right" zil)
  (h38:FnAt K "round_right" zh7)
  (h39:FnAt K "ring_right" zje)
  (h40:FnAt K "_law_deal" zka)
  (h41:FnAt K "_law_take" zj3)
  (h42:FnAt K "_law_divisor" zhi)
  (h43:FnAt K "_law_ring_sums" zfn)
  (h44:FnAt K "_law_bent_ring" zfg)
  (h45:FnAt K "_law_ring" zj7)
  (h46:FnAt K "_law_ring_mores" zeO)
  (h47:FnAt K "_law_ring_spans" zeH)
  (h48:FnAt K "_law_ring_fits" zfr)
  (h49:FnAt K "_law_ring_least" zeL)
  (h50:FnAt K "_law_firsts_right" zdO)
  (h51:FnAt K "_law_bound_paper" zec)
  (h52:FnAt K "_law_ring_told" zfe)
  (h53:FnAt K "_law_shifted" zg5)
  (h54:FnAt K "_law_papers" zh4)
  (h55:FnAt K "_law_bent_numbers" zdW)
  (h56:FnAt K "_law_bent" zkb)
  (h57:FnAt K "law" Ry)
  (z0:W.nsIn K mainGlobals "all"=some none) (z1:W.nsIn K mainGlobals "any"=some none) (z2:W.nsIn K mainGlobals "bool"=some none) (z3:W.nsIn K mainGlobals "enumerate"=some none) (z4:W.nsIn K mainGlobals "isinstance"=some none) (z5:W.nsIn K mainGlobals "len"=some none) (z6:W.nsIn K mainGlobals "list"=some none) (z7:W.nsIn K mainGlobals "max"=some none) (z8:W.nsIn K mainGlobals "min"=some none) (z9:W.nsIn K mainGlobals "range"=some none) (z10:W.nsIn K mainGlobals "sum"=some none) (z11:W.nsIn K mainGlobals "tuple"=some none) (z12:W.nsIn K mainGlobals "zip"=some none) {zc8:Addr} (zhI:W.nsIn K mainGlobals "NoNumber"=some (some (.ref zc8))) {zfi:Addr} (zly:W.nsIn K mainGlobals "SumError"=some (some (.ref zfi))) (hsp:W.specialIn K (.builtin "object.__class__") "__get__"=some (some (.builtin "getset_descriptor.__get__"))) (htk:W.takesIn K (.builtin "object.__class__")=some true) {nm_NoNumber qn_NoNumber:Str} {N_NoNumber:Addr} {bs_NoNumber sub_NoNumber:List Value} {hd_NoNumber ab_NoNumber:Bool} {sn_NoNumber:List Str} {col_NoNumber:Option Bool} {dd_NoNumber:Option Addr} {j0_NoNumber j1_NoNumber j2_NoNumber j3_NoNumber j5_NoNumber:Option Value} (zio:K.lookup zc8=some (excClassObj nm_NoNumber qn_NoNumber zc8 N_NoNumber bs_NoNumber (.ref zfi::Ls) hd_NoNumber sn_NoNumber sub_NoNumber ab_NoNumber col_NoNumber dd_NoNumber j0_NoNumber j1_NoNumber j2_NoNumber j3_NoNumber j5_NoNumber "ValueError.__new__")) (zir:W.nsIn K N_NoNumber "__init__"=some none) {cN_NoNumber:Value} {dN_NoNumber:Option Addr} {es_NoNumber:List DictEntry} {ep_NoNumber:Nat} {sN_NoNumber:Array (Option Value)} (ziL:K.lookup N_NoNumber=some ⟨cN_NoNumber,dN_NoNumber,.dict es_NoNumber.toArray ep_NoNumber,sN_NoNumber⟩) (ziQ:(es_NoNumber.all fun e=>match e.key with| .str _ _=>true|_=>false)=true) {nm_SumError qn_SumError:Str} {N_SumError:Addr} {bs_SumError sub_SumError:List Value} {hd_SumError ab_SumError:Bool} {sn_SumError:List Str} {col_SumError:Option Bool} {dd_SumError:Option Addr} {j0_SumError j1_SumError j2_SumError j3_SumError j5_SumError:Option Value} (ziA:K.lookup zfi=some (excClassObj nm_SumError qn_SumError zfi N_SumError bs_SumError Ls hd_SumError sn_SumError sub_SumError ab_SumError col_SumError dd_SumError j0_SumError j1_SumError j2_SumError j3_SumError j5_SumError "ValueError.__new__")) (ziy:W.nsIn K N_SumError "__init__"=some none) {cN_SumError:Value} {dN_SumError:Option Addr} {es_SumError:List DictEntry} {ep_SumError:Nat} {sN_SumError:Array (Option Value)} (ziv:K.lookup N_SumError=some ⟨cN_SumError,dN_SumError,.dict es_SumError.toArray ep_SumError,sN_SumError⟩) (ziJ:(es_SumError.all fun e=>match e.key with| .str _ _=>true|_=>false)=true) (zkS:W.typeIn K (.ref zc8)=some (.type "type")) (zkK:W.typeIn K (.ref zfi)=some (.type "type")) (zd9:W.mroIn K zc8 (.ref zc8)=some true):
  ∃fd:FuncData,(∀(s:Shared) (v:Value),BindsTo s fd ⟨[v],[]⟩ [("script",v)])/\∀base:Heap,K.In base->base.Ns mainGlobals mg->FnOk l.prog w K mg base jF 9 fa fd ["script"] (aT K 1 Bp):=by
 have bn:BN K mg:=⟨⟨zc8,W.mg_of X G zhI,zhI,mZ zio ziA zir ziy (Bq ziL ziQ) (Bq ziv ziJ)⟩,lK X G z0,lK X G z1,lK X G z2,lK X G z3,lK X G z4,lK X G z5,lK X G z6,lK X G z7,lK X G z8,lK X G z9,lK X G z10,lK X G z11,lK X G z12⟩;obtain⟨a,b,c,d,e,f,T⟩:=h57.law X G hfa;refine⟨W.fnOf "law" "law" (zhz Ry) (zct Ry) (zaM Ry) .none a b c d e f,fun s v=> .of_eq rfl,fun base _ _=>?_⟩;have zci:=zlJ (P:=l.prog) (w:=w) (base:=base) X G bn h1;have zck:=zmC (P:=l.prog) (w:=w) (base:=base) X G bn h2;have zbA:=zkM (P:=l.prog) (w:=w) (base:=base) X G bn h3;have zcq:=zkg (P:=l.prog) (w:=w) (base:=base) X G bn h4;have ze8:=zk7 (P:=l.prog) (w:=w) (base:=base) X G bn zck zcq h5;have zdv:=zkh (P:=l.prog) (w:=w) (base:=base) X G bn h6;have zeQ:=zk1 (P:=l.prog) (w:=w) (base:=base) X G bn zdv h7;have ze0:=zll (P:=l.prog) (w:=w) (base:=base) X G bn h8;have zgY:=znR (P:=l.prog) (w:=w) (base:=base) X G bn h9;have zch:=zmO (P:=l.prog) (w:=w) (base:=base) X G bn zgY h10;have zbY:=zld (P:=l.prog) (w:=w) (base:=base) X G bn zch h11;have zfP:=zl4 (P:=l.prog) (w:=w) (base:=base) X G bn zbY h12;have ziz:=zot (P:=l.prog) (w:=w) (base:=base) X G bn zfP zbY h13;have zhq:=znp (P:=l.prog) (w:=w) (base:=base) X G bn h14;have zcm:=zmL (P:=l.prog) (w:=w) (base:=base) X G bn h15;have zfG:=zmi (P:=l.prog) (w:=w) (base:=base) X G bn h16;have zd3:=zmm (P:=l.prog) (w:=w) (base:=base) X G bn zhq zfG h17;have zeT:=zk6 (P:=l.prog) (w:=w) (base:=base) X G bn h18;have zbW:=zlf (P:=l.prog) (w:=w) (base:=base) X G bn h19;have zgL:=znU (P:=l.prog) (w:=w) (base:=base) X G bn zcm zbW h20;have zfM:=zml (P:=l.prog) (w:=w) (base:=base) X G bn zcm zbW h21;have zfa:=zk8 (P:=l.prog) (w:=w) (base:=base) X G bn zeT zfM zgL h22;have zao:=zlh (P:=l.prog) (w:=w) (base:=base) X G bn h23;have zcl:=zmN (P:=l.prog) (w:=w) (base:=base) X G bn zao h24;have zbE:=zkX (P:=l.prog) (w:=w) (base:=base) X G bn zcl h25;have zaB:=zlI (P:=l.prog) (w:=w) (base:=base) X G bn zcl zao h26;have zcj:=zl1 (P:=l.prog) (w:=w) (base:=base) X G bn zao h27;have zcF:=znt (P:=l.prog) (w:=w) (base:=base) X G bn zaB h28;have zaP:=zmb (P:=l.prog) (w:=w) (base:=base) X G bn zcj zcF h29;have zba:=zl7 (P:=l.prog) (w:=w) (base:=base) X G bn zcj zcF zbE zao h30;have zbp:=znB (P:=l.prog) (w:=w) (base:=base) X G bn zci zaB h31;have zbe:=zmK (P:=l.prog) (w:=w) (base:=base) X G bn zci zaB h32;have za5:=zk0 (P:=l.prog) (w:=w) (base:=base) X G bn zck zbe zbp zao h33;have ze1:=zle (P:=l.prog) (w:=w) (base:=base) X G bn ze8 ze0 zbe zbp zaB zaP za5 zao zbA zba h34;have zbr:=zmP (P:=l.prog) (w:=w) (base:=base) X G bn zch zaP za5 zba h35;have zjF:=zpR (P:=l.prog) (w:=w) (base:=base) X G bn ziz zbr zaB zaP za5 zbA h36;have fdx_ring_at:=znW (P:=l.prog) (w:=w) (base:=base) X G bn zbr h36;have zeV:=zlj (P:=l.prog) (w:=w) (base:=base) X G bn zeQ zd3 zao h37;have zeZ:=zlg (P:=l.prog) (w:=w) (base:=base) X G bn zbE zao h38;have zcO:=zmu (P:=l.prog) (w:=w) (base:=base) X G bn zeV zfa zbe zbp zaP zeZ zao zba h39
 have zg8:=znO (P:=l.prog) (w:=w) (base:=base) X G bn h40;have zak:=zm6 (P:=l.prog) (w:=w) (base:=base) X G bn h41;have zaX:=zkC (P:=l.prog) (w:=w) (base:=base) X G bn h42;have zbg:=zjQ (P:=l.prog) (w:=w) (base:=base) X G bn h43;have zc6:=zjU (P:=l.prog) (w:=w) (base:=base) X G bn zak h44;have zgZ:=znA (P:=l.prog) (w:=w) (base:=base) X G bn zc6 zbg zak h45;have zaK:=zjz (P:=l.prog) (w:=w) (base:=base) X G bn zaX h46;have zcS:=zjb (P:=l.prog) (w:=w) (base:=base) X G bn zaX h47;have zc9:=zjK (P:=l.prog) (w:=w) (base:=base) X G bn zbg h48;have zcP:=zjs (P:=l.prog) (w:=w) (base:=base) X G bn zc9 zaK zcS h49;have zco:=zhM (P:=l.prog) (w:=w) (base:=base) X G bn h50;have zcA:=ziD (P:=l.prog) (w:=w) (base:=base) X G bn zaX zco h51;have zda:=zjW (P:=l.prog) (w:=w) (base:=base) X G bn zcA zcP zaK h52;have zcU:=zkT (P:=l.prog) (w:=w) (base:=base) X G bn zak h53;have ze6:=zk4 (P:=l.prog) (w:=w) (base:=base) X G bn zaK zcU zak ze1 zjF zbr h54;have zcp:=zhN (P:=l.prog) (w:=w) (base:=base) X G bn zak h55;have zg0:=znD (P:=l.prog) (w:=w) (base:=base) X G bn zcp zak h56;exact Jq X G bn zg0 zg8 ze6 zgZ zda zcO T
theorem walk {l:W.OpenLaw}{q:Program}{loose:List Str}{XP:(Str->Option Value)->Heap->Prop}{YP:World->Heap->Prop}{d:DefRec}{K:Params->W.Frag}(hn:l.most=some 63)(hdf:d.params.defaults=[])
  (hm:∀ns:List Int,ns.length<=63->Bp [.scr ns]=some (.val (.bl true)))
  (hY:∀(w:World) (h:Heap),YP w h->(K w.params).In h)
  (F : ∀ (w : World) (mg : Str -> Option Value) (fa : Addr) (h : Heap), (K w.params).In h -> h.Ns mainGlobals mg -> mg d.name = some (.ref fa) ->
   ∃fd:FuncData,(∀(s:Shared) (u:Value),BindsTo s fd ⟨[u],[]⟩ [("script",u)])/\∀base:Heap,(K w.params).In base->base.Ns mainGlobals mg->FnOk l.prog w (K w.params) mg base jF 9 fa fd ["script"] (aT (K w.params) 1 Bp)):
  W.WalkO q loose XP YP l.row.toRowW d [] (fun f vs=>PySem.call f vs):=
 L2.vD (n:=63) (k:=9) (x:="script") (CX:=fun _=>jF) (sp:=fun w=>aT (K w.params) 1 Bp) hn (by decide) hdf ⟨rfl,by decide,by decide,rfl⟩ hY F
  (fun w H a ns hl _ hS=>⟨H,[.scr ns],.val (.bl true),hm ns hl,rfl,Fz.refl H,.cons ⟨a,rfl,hS⟩ .nil,fun _ _ _ _ _ _ _ rr=>rr⟩) fun _ _ _ _ _ z=>z
end Prf
set_option exponentiation.threshold 5000
namespace Prf
open L2 M PySem
variable {n m j i c p size:Nat} {f g lo hi e r w G h L a b:Nat->Int} {t x:Int} {l:List Int} {F:Int->Int} {dr y:D} {met:List Nat} {s:Str} {ds:List D}
theorem Ca (n:Nat)(x:D):(List.replicate n [x]).flatten=wL n fun _=>x:=by
 induction n with
 |zero=>rfl
 |succ n ih=>rw[List.replicate_succ',List.flatten_append,ih,tL];rfl
theorem zrG (a b:Nat->Int)(hn:n<=1000):Ok (Jo [.tup (wI n a),.lst (wI n b)]) fun x=>x= .own (wI n fun p=>a p-b p):=by
 simp! only[↓Jo,↓Xt,↓zgy,zqW];refine⟨by lia,eS (fun ρ=>∃s s',ρ=[s,s']) (fun p=> .int (a p-b p)) ⟨_,_,rfl⟩ ?_ ?_⟩
 ·rintro i _ hi ⟨s,s',rfl⟩;simp! only[↓zgG];exact⟨_,_,rfl⟩
 ·rintro _ ⟨_,_,rfl⟩;simp! only[]
structure Span (f g:Nat->Int) (n m:Nat) (lo hi:Nat->Int):Prop where
 lm:∀j,j<m->∃p,p<n/\p%m=j/\f p=lo j
 lg:∀p,p<n->f p<=lo (p%m)
 hm:∀j,j<m->∃p,p<n/\p%m=j/\g p=hi j
 hg:∀p,p<n->hi (p%m)<=g p
def cT (m:Nat)(lo hi:Nat->Int):List D:=wL m fun j=> .tup [.int (lo j),.int (hi j)]
theorem zn8 (f g:Nat->Int){n m:Nat}(hm:0<m)(hn:m<=n):∃lo hi:Nat->Int,Span f g n m lo hi/\∀j,j<m->gL [.lst (gF (wI n f) (some (j:Int)) none (some (m:Int)))]=some (.int (lo j))/\jZ [.lst (gF (wI n g) (some (j:Int)) none (some (m:Int)))]=some (.int (hi j)):=by
 have h1:∀j,∃v,j<m->gL [.lst (gF (wI n f) (some (j:Int)) none (some (m:Int)))]=some (.int v)/\(∃p,p<n/\p%m=j/\f p=v)/\∀p,p<n->p%m=j->f p<=v:=fun j=>by
  by_cases hj:j<m
  ·obtain⟨v,h⟩:=pX f hm hj hn;exact⟨v,fun _=>h⟩
  ·exact⟨0,fun h=>absurd h hj⟩
 have h2:∀j,∃v,j<m->jZ [.lst (gF (wI n g) (some (j:Int)) none (some (m:Int)))]=some (.int v)/\(∃p,p<n/\p%m=j/\g p=v)/\∀p,p<n->p%m=j->v<=g p:=fun j=>by
  by_cases hj:j<m
  ·obtain⟨v,h⟩:=rF g hm hj hn;exact⟨v,fun _=>h⟩
  ·exact⟨0,fun h=>absurd h hj⟩
 refine⟨fun j=>(h1 j).choose,fun j=>(h2 j).choose,⟨fun j hj=>((h1 j).choose_spec hj).2.1,fun p hp=>((h1 (p%m)).choose_spec (gJ _ hm)).2.2 p hp rfl,fun j hj=>((h2 j).choose_spec hj).2.1,fun p hp=>((h2 (p%m)).choose_spec (gJ _ hm)).2.2 p hp rfl⟩,fun j hj=>⟨((h1 j).choose_spec hj).1,((h2 j).choose_spec hj).1⟩⟩
theorem Up {lo hi lo' hi':Nat->Int}(s:Span f g n m lo hi)(t:Span f g n m lo' hi')(hj:j<m):lo j=lo' j/\hi j=hi' j:=by
 obtain⟨p,h1,h2,h3⟩:=s.lm j hj;obtain⟨p',h1',h2',h3'⟩:=t.lm j hj;obtain⟨q,k1,k2,k3⟩:=s.hm j hj;obtain⟨q',k1',k2',k3'⟩:=t.hm j hj;have a1:=s.lg p' h1';have a2:=t.lg p h1;have a3:=s.hg q' k1';have a4:=t.hg q k1;rw[h2']at a1;rw[h2]at a2;rw[k2']at a3;rw[k2]at a4;lia
theorem zoZ (hm:0<m)(hn:m<=n)(h24:n<=1000)(sp:Span f g n m lo hi):Ok (He [.lst (wI n f),.lst (wI n g),.int m]) fun x=>x= .own (cT m lo hi):=by
 obtain⟨lo',hi',sp',e⟩:=zn8 f g hm hn;have el:cT m lo' hi'=cT m lo hi:=tM fun j hj=>by rw[(Up sp' sp hj).1,(Up sp' sp hj).2]
 rw[<-el];simp! only[↓He,↓Ys,↓zgH];refine⟨kL (by lia) (by lia),by lia,eS (fun ρ=>∃s,ρ=[.val (.lst (wI n f)),.val (.int m),.val (.lst (wI n g)),s]) (fun j=> .tup [.int (lo' j),.int (hi' j)]) ⟨_,rfl⟩ ?_ ?_⟩
 ·rintro j _ hj ⟨s,rfl⟩;have hk0:¬(some (m:Int)=some 0):=by intro h;have:=Option.some.inj h;lia
  obtain⟨e1,e2⟩:=e j hj;unfold gL at e1;unfold jZ at e2;simp! only[↓zgP,Px,hk0,e1,e2];exact⟨_,rfl⟩
 ·rintro _ ⟨s,rfl⟩;simp! only[]
  rfl
theorem zm1 (hm:0<m)(hmn:m<=n)(h24:n<=1000)(he:∀j,j<m->∃p,p<n/\p%m=j/\f p=e j):
  Ok (Ll [.lst (wI n f),.lst (wI m e)]) fun x=>∃pl:Nat->Nat,(∀j,j<m->pl j<n/\pl j%m=j/\f (pl j)=e j)/\x= .val (.tup (wI m fun j=>(pl j:Nat))):=by
 have h1:∀j,∃i:Nat,j<m->Rg (.lst (gF (wI n f) (some (j:Int)) none (some (m:Int)))) (.int (e j))=some (.int i)/\j+i*m<n/\f (j+i*m)=e j:=fun j=>by
  by_cases hj:j<m
  ·obtain⟨i,h⟩:=zpH f hm hj (he j hj);exact⟨i,fun _=>h⟩
  ·exact⟨0,fun h=>absurd h hj⟩
 have hk0:¬(some (m:Int)=some 0):=by intro h;have:=Option.some.inj h;lia
 simp! only[↓Ll,↓zea,↓zeM];refine⟨kL (by lia) (by lia),by lia,eS (fun ρ=>∃s,ρ=[.val (.int m),.val (.lst (wI n f)),.val (.lst (wI m e)),s]) (fun j=> .int ((j+(h1 j).choose*m:Nat):Int)) ⟨_,rfl⟩ ?_ ?_⟩
 ·rintro j _ hj ⟨s,rfl⟩;obtain⟨e1,-,-⟩:=(h1 j).choose_spec hj
  generalize (h1 j).choose=i at*
  have ee:(j:Int)+(m:Int)*(i:Int)=((j+i*m:Nat):Int):=by push_cast;rw[Int.mul_comm]
  simp! only[↓zeI,Px,hk0,e1,bI _ hj,ee];exact⟨lT (by lia),_,rfl⟩
 ·rintro _ ⟨s,rfl⟩;simp! only[];exact⟨_,fun j hj=>⟨((h1 j).choose_spec hj).2.1,by rw[Vk,jO hj],((h1 j).choose_spec hj).2.2⟩,rfl⟩
structure Room' (m:Nat) (lo hi:Nat->Int) (t:Int):Prop where
 le:∀j,j<m->lo j<=hi j
 low:aG m lo<=t
 high:t<=aG m hi
def oN (f g:Nat->Int)(n m:Nat)(t:Int)(d:D):Prop:=
 (∃a b:Nat,a<n/\b<n/\a%m=b%m/\f a>g b/\d= .tup [.str "clash",.int a,.int b])\/
 (∃pl:Nat->Nat,(∀j,j<m->pl j<n/\pl j%m=j)/\aG m (fun j=>f (pl j))>t/\d= .tup [.str "low",.tup (wI m fun j=>(pl j:Nat))])\/
 (∃pl:Nat->Nat,(∀j,j<m->pl j<n/\pl j%m=j)/\aG m (fun j=>g (pl j))<t/\d= .tup [.str "high",.tup (wI m fun j=>(pl j:Nat))])
theorem sM (hm:0<m)(hn:m<=n)(h24:n<=1000)(t:Int)(sp:Span f g n m lo hi):
  Ok (Nv [.lst (wI n f),.lst (wI n g),.int m,.int t]) fun x=>(Room' m lo hi t/\x= .val .non)\/(¬Room' m lo hi t/\∃d,oN f g n m t d/\x= .val d):=by
 simp! only[↓Nv,↓zfL];refine(zoZ hm hn h24 sp).mono ?_;rintro _ rfl;simp! only[↓zgf,cT];refine⟨by lia,eS (fun ρ=>∃s s',ρ=[s,s']) (fun j=> .int (lo j)) ⟨_,_,rfl⟩ ?_ ?_⟩
 ·rintro j _ hj ⟨s,s',rfl⟩;simp! only[↓zf3];exact⟨_,_,rfl⟩
 rintro _ ⟨_,_,rfl⟩;simp! only[↓zgj];refine⟨by lia,eS (fun ρ=>∃s s',ρ=[s,s']) (fun j=> .int (hi j)) ⟨_,_,rfl⟩ ?_ ?_⟩
 ·rintro j _ hj ⟨s,s',rfl⟩;simp! only[↓zga];exact⟨_,_,rfl⟩
 rintro _ ⟨_,_,rfl⟩;simp! only[];refine(zm1 hm hn h24 sp.lm).mono ?_;rintro _ ⟨pl,hpl,rfl⟩;simp! only[];refine(zm1 hm hn h24 sp.hm).mono ?_;rintro _ ⟨ph,hph,rfl⟩;simp! only[↓zfS];refine⟨kL (by lia) (by lia),gP (fun i ρ=>(∀j,j<i->lo j<=hi j)/\∃s,ρ=[.val (.lst (wI n f)),.val (.lst (wI n g)),.val (.int m),.val (.int t),.val (.lst (cT m lo hi)),.val (.lst (wI m lo)),.val (.lst (wI m hi)),.val (.tup (wI m fun j=>(pl j:Nat))),.val (.tup (wI m fun j=>(ph j:Nat))),s]) ⟨fun _ h=>by lia,_,rfl⟩ ?_ ?_⟩
 ·rintro j _ hj ⟨hb,s,rfl⟩;simp! only[↓zfZ,bI _ hj];refine⟨fun h=> .inr ⟨fun r=>by have:=r.le j hj;lia,_,.inl ⟨pl j,ph j,(hpl j hj).1,(hph j hj).1,by rw[(hpl j hj).2.1,(hph j hj).2.1],by rw[(hpl j hj).2.2,(hph j hj).2.2];exact h,rfl⟩,rfl⟩,fun h=>⟨fun j' hj'=>?_,_,rfl⟩⟩
  by_cases e:j'=j
  ·subst e;lia
  ·exact hb j' (by lia)
 rintro _ ⟨hb,s,rfl⟩;have el:aG m (fun j=>f (pl j))=aG m lo:=gU fun j hj=>(hpl j hj).2.2
 have eh:aG m (fun j=>g (ph j))=aG m hi:=gU fun j hj=>(hph j hj).2.2
 simp! only[iM,iO];refine⟨fun h=> .inr ⟨fun r=>by have:=r.low;lia,_,.inr (.inl ⟨pl,fun j hj=>⟨(hpl j hj).1,(hpl j hj).2.1⟩,by lia,rfl⟩),rfl⟩,fun h1=>?_⟩;simp! only[↓zf1,iM,iO];refine⟨fun h=> .inr ⟨fun r=>by have:=r.high;lia,_,.inr (.inr ⟨ph,fun j hj=>⟨(hph j hj).1,(hph j hj).2.1⟩,by lia,rfl⟩),rfl⟩,fun h2=>?_⟩;simp! only[↓zfU];exact .inl ⟨hb,by lia,by lia⟩
def left (lo hi:Nat->Int)(m:Nat)(t:Int):Nat->Int
 |0=>t
 |j+1=>left lo hi m t j-eA (lo j) (left lo hi m t j-(aG m hi-aG (j+1) hi))
def hd (lo hi:Nat->Int)(m:Nat)(t:Int)(j:Nat):Int:=eA (lo j) (left lo hi m t j-(aG m hi-aG (j+1) hi))
theorem zlc (lo hi:Nat->Int)(t:Int)(hm:m<=1000):Ok (Nr [.lst (cT m lo hi),.int t]) fun x=>x= .own (wI m (hd lo hi m t)):=by
 simp! only[↓Nr,↓zfF,↓zgn,cT];refine⟨by lia,eS (fun ρ=>∃s s',ρ=[s,s']) (fun j=> .int (hi j)) ⟨_,_,rfl⟩ ?_ ?_⟩
 ·rintro j _ hj ⟨s,s',rfl⟩;simp! only[↓zgo];exact⟨_,_,rfl⟩
 rintro _ ⟨_,_,rfl⟩;simp! only[iM,iO,↓zgb];refine gP (fun i ρ=>∃s5 s6 s7,ρ=[.val (.lst (cT m lo hi)),.val (.int t),.own (wI i (hd lo hi m t)),.val (.int (left lo hi m t i)),.val (.int (aG m hi-aG i hi)),s5,s6,s7]) ⟨_,_,_,by rw[show aG 0 hi=0 from rfl,Int.sub_zero];rfl⟩ ?_ ?_
 ·rintro j _ hj ⟨s5,s6,s7,rfl⟩;simp! only[↓zf7];have e:aG m hi-aG j hi-hi j=aG m hi-aG (j+1) hi:=by simp only[aG];lia
  rw[e];exact⟨by lia,_,_,_,by rw[show wI (j+1) (hd lo hi m t)=_ from tL _ _];rfl⟩
 ·rintro _ ⟨s5,s6,s7,rfl⟩;simp! only[]
theorem Vf (lo hi:Nat->Int)(m:Nat)(t:Int):∀j,left lo hi m t j=t-aG j (hd lo hi m t)
 |0=>by simp[left,aG]
 |j+1=>by rw[aG,left,Vf lo hi m t j,hd,Vf lo hi m t j];lia
theorem zoB (a b:Int):(eA a b=a\/eA a b=b)/\a<=eA a b/\b<=eA a b:=by unfold eA;split<;>lia
theorem zon (r:Room' m lo hi t):∀j,j<=m->aG m lo-aG j lo<=left lo hi m t j/\left lo hi m t j<=aG m hi-aG j hi
 |0,_=>by have:=r.low;have:=r.high;simp[left,aG];lia
 |j+1,h=>by
  have ih:=zon r j (by lia);have hj:=r.le j (by lia);obtain⟨c,c1,c2⟩:=zoB (lo j) (left lo hi m t j-(aG m hi-aG (j+1) hi));have e:left lo hi m t (j+1)=left lo hi m t j-eA (lo j) (left lo hi m t j-(aG m hi-aG (j+1) hi)):=rfl;rw[e];have key:aG m lo-aG (j+1) lo<=aG m hi-aG (j+1) hi:=by
   obtain⟨b,rfl⟩:∃b,m=j+1+b:=⟨m-(j+1),by lia⟩;rw[tW lo (j+1) b,tW hi (j+1) b];have:=tF (f:=fun i=>lo (j+1+i)) (g:=fun i=>hi (j+1+i)) (n:=b) fun i hi'=>r.le _ (by lia)
   lia
  simp only[aG]at*;rcases c with c|c<;>rw[c]at c1 c2 ⊢ <;>lia
theorem rL (r:Room' m lo hi t)(hj:j<m):lo j<=hd lo hi m t j/\hd lo hi m t j<=hi j:=by
 have h:=zon r j (by lia);have hjj:=r.le j hj;obtain⟨c,c1,c2⟩:=zoB (lo j) (left lo hi m t j-(aG m hi-aG (j+1) hi));unfold hd;simp only[aG]at*;rcases c with c|c<;>rw[c]at c1 c2 ⊢ <;>lia
theorem sR (r:Room' m lo hi t):aG m (hd lo hi m t)=t:=by
 have h:=zon r m (bU _);have e:=Vf lo hi m t m;lia
theorem zoY {lo hi h':Nat->Int}(hh:∀j,j<m->lo j<=h' j/\h' j<=hi j)(hs:aG m h'=t)(hj:j<m)(he:∀i,i<j->hd lo hi m t i=h' i):hd lo hi m t j<=h' j:=by
 have e:=Vf lo hi m t j;have e1:aG j (hd lo hi m t)=aG j h':=gU he;obtain⟨b,rfl⟩:∃b,m=j+1+b:=⟨m-(j+1),by lia⟩;have e2:=tW h' (j+1) b;have e3:=tW hi (j+1) b;have e4:=tF (f:=fun i=>h' (j+1+i)) (g:=fun i=>hi (j+1+i)) (n:=b) fun i hi'=>(hh _ (by lia)).2
 have h1:=(hh j hj).1;unfold hd;obtain⟨c,c1,c2⟩:=zoB (lo j) (left lo hi (j+1+b) t j-(aG (j+1+b) hi-aG (j+1) hi));simp only[aG]at*;rcases c with c|c<;>rw[c]<;>lia
theorem zkB (hm:0<m)(h24:n<=1000)(h mo:Nat->Int):Ok (Jh [.lst (wI m h),.lst (wI n mo)]) fun x=>x= .val (.tup (wI n fun p=>h (p%m)+mo p)):=by
 simp! only[↓Jh,↓ze5,↓zfw,zou];refine⟨by lia,eS (fun ρ=>∃s s',ρ=[.val (.lst (wI m h)),.val (.int m),s,s']) (fun p=> .int (h (p%m)+mo p)) ⟨_,_,rfl⟩ ?_ ?_⟩
 ·rintro p _ hp ⟨s,s',rfl⟩;have e:(p:Int)%(m:Int)=((p%m:Nat):Int):=by push_cast;rfl
  simp! only[↓zfm,e,bI _ (gJ p hm)];exact⟨by lia,_,_,rfl⟩
 ·rintro _ ⟨_,_,rfl⟩;simp! only[]
structure RDim (k n:Nat):Prop where
 k2:2<=k
 k5:k<=5
 kn:k<=n
 n24:n<=24
abbrev bK (k n:Nat)(S L G:Nat->Int):D:= .tup [.int k,.tup (wI n S),.tup (wI n L),.tup (wI n G)]
def ixp (k n p:Nat):Nat:=((List.range (n/Nat.gcd k n)).find? fun i=>(p%Nat.gcd k n+i*k)%n==p).getD 0
def chk (k n:Nat):Bool:=((List.range n).all fun p=>decide (ixp k n p<n/Nat.gcd k n)&&((p%Nat.gcd k n+ixp k n p*k)%n==p))&&(List.range (Nat.gcd k n)).all fun j=>((j+n/Nat.gcd k n*k)%n==j)&&(List.range (n/Nat.gcd k n)).all fun i=>((j+i*k)%n%Nat.gcd k n==j)&&(ixp k n ((j+i*k)%n)==i)
theorem uS:((List.range 6).all fun k=>(List.range 25).all fun n=>!(decide (2<=k)&&decide (k<=n))||chk k n)=true:=by decide+kernel
theorem rC (k:Nat)(hk:k<6)(n:Nat)(hn:n<25)(h2:2<=k)(hkn:k<=n):(∀p,p<n->ixp k n p<n/Nat.gcd k n/\(p%Nat.gcd k n+ixp k n p*k)%n=p)/\∀j,j<Nat.gcd k n->(j+n/Nat.gcd k n*k)%n=j/\∀i,i<n/Nat.gcd k n->(j+i*k)%n%Nat.gcd k n=j/\ixp k n ((j+i*k)%n)=i:=by
 have h:=qbU.mp (qbU.mp uS k (qah.mpr hk)) n (qah.mpr hn);rw[eG h2,eG hkn]at h;have h:chk k n=true:=by simpa using h
 unfold chk at h;rw[eO]at h;refine⟨fun p hp=>?_,fun j hj=>?_⟩
 ·have:=qbU.mp h.1 p (qah.mpr hp);simpa using this
 ·have:=qbU.mp h.2 j (qah.mpr hj);rw[eO]at this;refine⟨by simpa using this.1,fun i hi=>?_⟩;have:=qbU.mp this.2 i (qah.mpr hi);simpa using this
section
variable {k n:Nat}
abbrev pl (k n j i:Nat):Nat:=(j+i*k)%n
theorem Ur (k n j i:Nat):pl k n j (i+1)=(pl k n j i+k)%n:=by
 unfold pl;rw[Nat.add_mul,Kb,<-Nat.add_assoc,Nat.mod_add_mod]
def mw (k n:Nat)(S:Nat->Int)(j i:Nat):Int:=aG i fun t=>S ((pl k n j t+1)%n)-S (pl k n j t)
def rM (k n:Nat)(S:Nat->Int)(p:Nat):Int:=mw k n S (p%Nat.gcd k n) (ixp k n p)
theorem RDim.g1 (d:RDim k n):1<=Nat.gcd k n:=Nat.gcd_pos_of_pos_left _ (by have:=d.k2;lia)
theorem RDim.gk (d:RDim k n):Nat.gcd k n<=k:=Nat.gcd_le_left _ (by have:=d.k2;lia)
theorem RDim.walk (d:RDim k n):(∀p,p<n->ixp k n p<n/Nat.gcd k n/\pl k n (p%Nat.gcd k n) (ixp k n p)=p)/\∀j,j<Nat.gcd k n->pl k n j (n/Nat.gcd k n)=j/\∀i,i<n/Nat.gcd k n->pl k n j i%Nat.gcd k n=j/\ixp k n (pl k n j i)=i:=
 rC k (by have:=d.k5;lia) n (by have:=d.n24;lia) d.k2 d.kn
theorem kP (d:RDim k n)(S:Nat->Int)(hj:j<Nat.gcd k n)(hi:i<n/Nat.gcd k n):rM k n S (pl k n j i)=mw k n S j i:=by
 obtain⟨h1,h2⟩:=(d.walk.2 j hj).2 i hi;unfold rM;rw[h1,h2]
theorem Ju (h:l≠[]):∃v,gL [.lst (l.map D.int)]=some (.int v)/\v∈l/\∀x∈l,x<=v:=by
 have e:l.map D.int=wI l.length fun i=>l.getD i 0:=by
  apply lM;intro j
  by_cases h:j<l.length
  ·rw[bI _ h,fJ,cG h];simp[List.getD,h]
  ·rw[eE (by rw[eL];lia),eE (by rw[dQ];lia)]
 obtain⟨v,h1,⟨i,hi,h2⟩,h3⟩:=Mh (fun i=>l.getD i 0) (qbZ.mpr h);rw[<-e]at h1;refine⟨v,h1,?_,fun x hx=>?_⟩
 ·rw[<-h2];show l.getD i 0∈l;rw[Qa,cG hi];exact List.getElem_mem hi
 ·obtain⟨i,hi,rfl⟩:=List.getElem_of_mem hx;have:=h3 i hi;rw[Qa,cG hi]at this;exact this
theorem vM (d:RDim k n)(S L G:Nat->Int):Ok (hX [bK k n S L G]) fun x=>x= .val (.int (Nat.gcd k n:Nat)):=by
 have k2:=d.k2;have k5:=d.k5;have n24:=d.n24;have g1:=d.g1;have gk:=d.gk;have ek:((k:Int)+1-1).toNat=k:=by lia
 have en:(jQ 1 k).length=k:=by unfold jQ;simp
 simp! only[↓hX,↓zfy,↓zgp,ek,en];refine⟨⟨kL (by lia) (by lia),kL (by lia) (by lia)⟩,by lia,?_⟩;rw[Wv];refine zr6 (fun ρ=>∃z,ρ=[.val (.int k),.val (.int n),z]) (fun i=>if k%(1+i)=0/\n%(1+i)=0 then some (D.int ((1+i:Nat):Int))else none) ⟨_,rfl⟩ ?_ ?_
 ·rintro i _ hi ⟨z,rfl⟩;have e1:(1:Int)+(i:Nat)=((1+i:Nat):Int):=by push_cast;rfl
  have e2:(k:Int)%((1+i:Nat):Int)=((k%(1+i):Nat):Int):=by push_cast;rfl
  have e3:(n:Int)%((1+i:Nat):Int)=((n%(1+i):Nat):Int):=by push_cast;rfl
  simp! only[↓zgl,↓zgv,e1,e2,e3];refine⟨by lia,fun h1=>⟨by lia,fun h2=>⟨?_,_,rfl⟩,fun h2=>⟨?_,_,rfl⟩⟩,fun h1=>⟨?_,_,rfl⟩⟩
  ·rw[if_pos ⟨by lia,by lia⟩]
  ·rw[if_neg fun z=>h2 (by lia)]
  ·rw[if_neg fun z=>h1 (by lia)]
 ·rintro _ ⟨z,rfl⟩;have el:(List.range k).filterMap (fun i=>if k%(1+i)=0/\n%(1+i)=0 then some (D.int ((1+i:Nat):Int))else none)=((List.range k).filterMap (fun i=>if k%(1+i)=0/\n%(1+i)=0 then some ((1+i:Nat):Int)else none)).map D.int:=by
   rw[List.map_filterMap];congr 1
   funext i
   split<;>rfl
  have mem:∀v:Int,v∈(List.range k).filterMap (fun i=>if k%(1+i)=0/\n%(1+i)=0 then some ((1+i:Nat):Int)else none)↔∃m:Nat,v=m/\1<=m/\m<=k/\m∣k/\m∣n:=fun v=>by
   rw[qaI]
   constructor
   ·rintro⟨i,hi,h⟩;have hi:=qah.mp hi
    split at h
    ·rename_i q;cases h;exact⟨1+i,rfl,by lia,by lia,Nat.dvd_of_mod_eq_zero q.1,Nat.dvd_of_mod_eq_zero q.2⟩
    ·cases h
   ·rintro⟨m,rfl,h1,h2,h3,h4⟩;refine⟨m-1,qah.mpr (by lia),?_⟩;rw[show 1+(m-1)=m by lia,if_pos ⟨Nat.mod_eq_zero_of_dvd h3,Nat.mod_eq_zero_of_dvd h4⟩]
  have gm:=(mem (Nat.gcd k n:Nat)).mpr ⟨_,rfl,g1,gk,Nat.gcd_dvd_left _ _,Nat.gcd_dvd_right _ _⟩;rw[el]
  generalize (List.range k).filterMap (fun i=>if k%(1+i)=0/\n%(1+i)=0 then some ((1+i:Nat):Int)else none)=l at mem gm
  obtain⟨v,h1,h2,h3⟩:=Ju (l:=l) (fun z=>by rw[z]at gm;cases gm);unfold gL at h1;simp! only[h1];obtain⟨m,rfl,q1,q2,q3,q4⟩:=(mem v).mp h2;have a1:=h3 _ gm;have a2:m<=Nat.gcd k n:=Nat.le_of_dvd (by lia) (Nat.dvd_gcd q3 q4);have:m=Nat.gcd k n:=by lia
  rw[this]
end
theorem Am (h:i<=n)(f:Nat->D):(wL n f).take i=wL i f:=by
 apply lM;intro j
 by_cases hj:j<i
 ·rw[qaX (by lia),bI _ (by lia),bI _ hj]
 ·rw[eE (by simp[dQ];lia),eE (by rw[dQ];lia)]
theorem sN (n:Nat)(f:Nat->D):bS (wL (n+1) f) none (some (-1))=wL n f:=by
 unfold bS;have e:HT.sIx (wL (n+1) f).length (wL (n+1) f).length (some (-1))=n:=by
  rw[dQ];show(if(-1:Int)<0 then(-1+((n+1:Nat):Int)).toNat else min (-1:Int).toNat (n+1))=n;rw[if_pos (by decide)];lia
 rw[e,HT.Yh,Wc,Nat.sub_zero,Am (by lia)]
theorem fT {m:Nat}(h:m<=1000):iE (m:Int)=true:=kL (by lia) (by lia)
section
variable {k n:Nat}
theorem Ky (d:RDim k n)(hj:j<Nat.gcd k n):pl k n j 0=j:=by
 have:=d.gk;have:=d.kn;unfold pl;rw[Nat.zero_mul,Nt,jO (by lia)]
theorem On (d:RDim k n)(j i:Nat):pl k n j i<n:=gJ _ (by have:=d.k2;have:=d.kn;lia)
theorem Wa (S:Nat->Int)(j i:Nat):mw k n S j (i+1)=mw k n S j i+(S ((pl k n j i+1)%n)-S (pl k n j i)):=by
 show aG (i+1) _=_;rw[aG];rfl
abbrev Dr (k n:Nat)(S:Nat->Int)(j m:Nat):List D:=wL m fun i=> .tup [.int ((pl k n j i:Nat):Int),.int (mw k n S j i)]
theorem RDim.hn (d:RDim k n):n/Nat.gcd k n<=24:=gY (Ri _ _) d.n24
theorem zrB (d:RDim k n)(S L G:Nat->Int)(hj:j<Nat.gcd k n):Ok (Dt [bK k n S L G,.int j]) fun x=>x= .own (Dr k n S j (n/Nat.gcd k n+1)):=by
 have n0:0<n:=by have:=d.k2;have:=d.kn;lia
 have n24:=d.n24;have hn:=d.hn;have g1:=d.g1;have gk:=d.gk;have k5:=d.k5;have ed:(n:Int)/((Nat.gcd k n:Nat):Int)=((n/Nat.gcd k n:Nat):Int):=by push_cast;rfl
 simp! only[↓Dt,↓zgN,↓zgO];refine(vM d S L G).mono ?_;rintro _ rfl;simp! only[ed];refine⟨jC (by lia) (by lia),fT (by lia),gP (fun i ρ=>∃s7,ρ=[.val (bK k n S L G),.val (.int j),.val (.tup (wI n S)),.val (.int n),.own (Dr k n S j i),.val (.int ((pl k n j i:Nat):Int)),.val (.int (mw k n S j i)),s7]) ⟨_,by rw[Ky d hj];rfl⟩ ?_ ?_⟩
 ·rintro i _ hi ⟨s7,rfl⟩;have pn:=On d j i;have e1:((pl k n j i:Nat):Int)+1=((pl k n j i+1:Nat):Int):=by push_cast;rfl
  have e2:((pl k n j i+1:Nat):Int)%(n:Int)=(((pl k n j i+1)%n:Nat):Int):=by push_cast;rfl
  have e3:(((pl k n j i:Nat):Int)+(k:Int))%(n:Int)=((pl k n j (i+1):Nat):Int):=by rw[Ur];push_cast;rfl
  simp! only[↓zgS,e1,e2,e3,bI _ pn,bI _ (gJ (pl k n j i+1) n0)];have ew:Dr k n S j i++[.tup [.int ((pl k n j i:Nat):Int),.int (mw k n S j i)]]=Dr k n S j (i+1):=(tL _ _).symm;simp only[ew,<-Wa];exact⟨by lia,by lia,by lia,_,rfl⟩
 ·rintro _ ⟨s7,rfl⟩;simp! only[];refine⟨by lia,?_⟩;rw[show Dr k n S j (n/Nat.gcd k n+1)=_ from tL _ _]
theorem znw (d:RDim k n)(S L G:Nat->Int)(hj:j<Nat.gcd k n):Ok (Fk [bK k n S L G,.int j]) fun x=>x= .val (.bl (mw k n S j (n/Nat.gcd k n)==0)):=by
 simp! only[↓Fk,↓Zq];refine(zrB d S L G hj).mono ?_;rintro _ rfl;simp! only[Ic]
theorem Ou (d:RDim k n)(S L G:Nat->Int):Ok (lY [bK k n S L G]) fun x=>x= .own (wI n (rM k n S)):=by
 have n0:0<n:=by have:=d.k2;have:=d.kn;lia
 have n24:=d.n24;have hn:=d.hn;have g1:=d.g1;have gk:=d.gk;have k5:=d.k5;simp! only[↓lY,↓zhf,↓zgA,Uc,Ca];refine⟨⟨fT (by lia),by lia⟩,?_⟩;refine(vM d S L G).mono ?_;rintro _ rfl;simp! only[];refine⟨fT (by lia),gP (fun J ρ=>∃(f:Nat->Int) (s2 s3 s4:Sl),(∀p,p<n->p%Nat.gcd k n<J->f p=rM k n S p)/\ρ=[.val (bK k n S L G),.own (wI n f),s2,s3,s4]) ⟨fun _=>0,_,_,_,fun p _ h=>by lia,rfl⟩ ?_ ?_⟩
 ·rintro J _ hJ ⟨f,s2,s3,s4,hf,rfl⟩;have cw:bS (Dr k n S J (n/Nat.gcd k n+1)) none (some (-1))=Dr k n S J (n/Nat.gcd k n):=by
   exact sN _ _
  simp! only[↓zhh,↓zgQ];refine(zrB d S L G hJ).mono ?_;rintro _ rfl;simp! only[cw];refine gP (fun i ρ=>∃(f:Nat->Int) (s3 s4:Sl),(∀p,p<n->p%Nat.gcd k n<J->f p=rM k n S p)/\(∀t,t<i->f (pl k n J t)=mw k n S J t)/\ρ=[.val (bK k n S L G),.own (wI n f),.val (.int J),s3,s4]) ⟨f,_,_,hf,fun t h=>by lia,rfl⟩ ?_ ?_
  ·rintro i _ hi ⟨f,s3,s4,hf,hw,rfl⟩;have pn:=On d J i;simp! only[↓zgX,pn,lX _ _ pn];refine⟨_,_,_,fun p hp hpJ=>?_,fun t ht=>?_,rfl⟩
   ·have:p≠pl k n J i:=fun e=>by
     have:=((d.walk.2 J hJ).2 i hi).1;rw[<-e]at this;lia
    simp only[this,iK];exact hf p hp hpJ
   ·by_cases e:t=i
    ·subst e;simp only[if_true]
    ·have:pl k n J t≠pl k n J i:=fun e'=>by
      have h1:=((d.walk.2 J hJ).2 i hi).2;have h2:=((d.walk.2 J hJ).2 t (by lia)).2;rw[e']at h2;lia
     simp only[this,iK];exact hw t (by lia)
  ·rintro _ ⟨f,s3,s4,hf,hw,rfl⟩;simp! only[];refine⟨f,_,_,_,fun p hp hpJ=>?_,rfl⟩
   by_cases e:p%Nat.gcd k n<J
   ·exact hf p hp e
   ·have e':p%Nat.gcd k n=J:=by lia
    obtain⟨h1,h2⟩:=d.walk.1 p hp;rw[e']at h2;have:=hw _ h1;rw[h2]at this;rw[this];unfold rM;rw[e']
 ·rintro _ ⟨f,s2,s3,s4,hf,rfl⟩;simp! only[];congr 1;exact tM fun p hp=>by rw[hf p hp (gJ _ (by lia))]
end
section
variable {k n:Nat} {S L G:Nat->Int}
def rT (k n:Nat)(S:Nat->Int):Int:=S 0-aG k (rM k n S)
abbrev eT (k n:Nat):Nat:=k/Nat.gcd k n
def tT (k n:Nat)(S:Nat->Int):Int:=rT k n S/(eT k n:Int)
def rA (k n:Nat)(S B:Nat->Int)(p:Nat):Int:=B p-rM k n S p
theorem RDim.e1 (d:RDim k n):1<=eT k n:=(Jy d.g1).mpr (by rw[Kb];exact d.gk)
theorem RDim.e5 (d:RDim k n):eT k n<=5:=gY (Ri _ _) d.k5
theorem zoP (d:RDim k n)(S L G:Nat->Int):Ok (Ef [bK k n S L G]) fun x=>x= .val (.int (eT k n)):=by
 have g1:=d.g1;have gk:=d.gk;have k5:=d.k5;have ed:(k:Int)/((Nat.gcd k n:Nat):Int)=((eT k n:Nat):Int):=by push_cast;rfl
 simp! only[↓Ef,↓Yz];refine(vM d S L G).mono ?_;rintro _ rfl;simp! only[ed];exact jC (by lia) (by lia)
theorem Ke (d:RDim k n)(f:Nat->Int):bS (wI n f) none (some (k:Int))=wI k f:=by
 rw[zo4];exact Am d.kn _
theorem zri (d:RDim k n)(S L G:Nat->Int):Ok (Ia [bK k n S L G]) fun x=>x= .val (.int (rT k n S)):=by
 have n0:0<n:=by have:=d.k2;have:=d.kn;lia
 simp! only[↓Ia,↓zix,bI _ n0];refine(Ou d S L G).mono ?_;rintro _ rfl;simp! only[Ke d,iM,iO]
 rfl
theorem Na (d:RDim k n)(S L G:Nat->Int):Ok (mG [bK k n S L G]) fun x=>x= .val (.int (tT k n S)):=by
 have:=d.e1;have:=d.e5;simp! only[↓mG,↓zg2];refine(zri d S L G).mono ?_;rintro _ rfl;simp! only[];refine(zoP d S L G).mono ?_;rintro _ rfl;simp! only[];exact⟨jC (by lia) (by lia),rfl⟩
def lC (k n:Nat)(S:Nat->Int):Prop:=∀j,j<Nat.gcd k n->mw k n S j (n/Nat.gcd k n)=0
def SPap (k n:Nat)(S:Nat->Int)(x:Sl):Prop:=(∃j,j<Nat.gcd k n/\mw k n S j (n/Nat.gcd k n)≠0/\x= .val (.tup [.str "round",.int (j:Nat)]))\/(lC k n S/\rT k n S%(eT k n:Int)≠0/\x= .val (.tup [.str "part",.int (rT k n S%(eT k n:Int))]))\/(lC k n S/\rT k n S%(eT k n:Int)=0/\x= .val .non)
theorem zkE (d:RDim k n)(S L G:Nat->Int):Ok (tX [bK k n S L G]) (SPap k n S):=by
 have e1:=d.e1;have e5:=d.e5;have g1:=d.g1;have gk:=d.gk;have k5:=d.k5;simp! only[↓tX,↓zhg,↓zht];refine(vM d S L G).mono ?_;rintro _ rfl;simp! only[];refine⟨fT (by lia),gP (fun i ρ=>(∀j,j<i->mw k n S j (n/Nat.gcd k n)=0)/\∃s1 s2,ρ=[.val (bK k n S L G),s1,s2]) ⟨fun j h=>by lia,_,_,rfl⟩ ?_ ?_⟩
 ·rintro j _ hj ⟨hb,s1,s2,rfl⟩;simp! only[↓zhl];refine(znw d S L G hj).mono ?_;rintro _ rfl;simp! only[];refine⟨fun h=> .inl ⟨j,hj,by simpa using h,rfl⟩,fun h=>⟨fun j' hj'=>?_,_,_,rfl⟩⟩
  by_cases e:j'=j
  ·subst e;simpa using h
  ·exact hb j' (by lia)
 ·rintro _ ⟨hb,s1,s2,rfl⟩;simp! only[];refine(zri d S L G).mono ?_;rintro _ rfl;simp! only[];refine(zoP d S L G).mono ?_;rintro _ rfl;simp! only[];refine⟨by lia,fun h=> .inr (.inl ⟨hb,h,rfl⟩),fun h=>?_⟩;simp! only[↓zgU];exact .inr (.inr ⟨hb,h,rfl⟩)
theorem zoo (d:RDim k n)(S L G:Nat->Int):Ok (uL [bK k n S L G]) fun x=>x= .own (wI n (rA k n S L)):=by
 have n24:=d.n24;simp! only[↓uL,↓Zr];refine(Ou d S L G).mono ?_;rintro _ rfl;simp! only[];refine(zrG L (rM k n S) (by lia)).mono ?_;rintro _ rfl;simp! only[]
 rfl
theorem Zc (d:RDim k n)(S L G:Nat->Int):Ok (uJ [bK k n S L G]) fun x=>x= .own (wI n (rA k n S G)):=by
 have n24:=d.n24;simp! only[↓uJ,↓zgR];refine(Ou d S L G).mono ?_;rintro _ rfl;simp! only[];refine(zrG G (rM k n S) (by lia)).mono ?_;rintro _ rfl;simp! only[]
 rfl
abbrev gR (k n:Nat)(S L G lo hi:Nat->Int):Prop:=Span (rA k n S L) (rA k n S G) n (Nat.gcd k n) lo hi
theorem RDim.gn (d:RDim k n):Nat.gcd k n<=n:=gY d.gk d.kn
theorem Yu (d:RDim k n)(sp:gR k n S L G lo hi):Ok (yS [bK k n S L G]) fun x=>x= .own (cT (Nat.gcd k n) lo hi):=by
 have n24:=d.n24;simp! only[↓yS,↓zfC];refine(zoo d S L G).mono ?_;rintro _ rfl;simp! only[];refine(Zc d S L G).mono ?_;rintro _ rfl;simp! only[];refine(vM d S L G).mono ?_;rintro _ rfl;simp! only[];refine(zoZ d.g1 d.gn (by lia) sp).mono ?_;rintro _ rfl;simp! only[]
def rR (k n:Nat)(S lo hi:Nat->Int)(p:Nat):Int:=hd lo hi (Nat.gcd k n) (tT k n S) (p%Nat.gcd k n)+rM k n S p
def Ye (k n:Nat)(S L G lo hi:Nat->Int)(x:D):Prop:=
 (∃j,j<Nat.gcd k n/\mw k n S j (n/Nat.gcd k n)≠0/\x= .tup [.str "round",.int (j:Nat)])\/
 (lC k n S/\rT k n S%(eT k n:Int)≠0/\x= .tup [.str "part",.int (rT k n S%(eT k n:Int))])\/
 (lC k n S/\rT k n S%(eT k n:Int)=0/\¬Room' (Nat.gcd k n) lo hi (tT k n S)/\oN (rA k n S L) (rA k n S G) n (Nat.gcd k n) (tT k n S) x)\/
 (lC k n S/\rT k n S%(eT k n:Int)=0/\Room' (Nat.gcd k n) lo hi (tT k n S)/\x= .tup [.str "row",.tup (wI n (rR k n S lo hi))])
theorem zrW {pd:D}(h:oN f g n m t pd):sS pd=false:=by
 rcases h with⟨a,b,_,_,_,_,rfl⟩|⟨pl,_,_,rfl⟩|⟨pl,_,_,rfl⟩<;>rfl
theorem zrJ (d:RDim k n)(sp:gR k n S L G lo hi):Ok (Mn [bK k n S L G]) fun x=>∃y,x= .val y/\Ye k n S L G lo hi y:=by
 have n24:=d.n24;have gn:=d.gn;simp! only[↓Mn,↓zfJ];refine(zkE d S L G).mono ?_;rintro _ (⟨j,hj,hne,rfl⟩|⟨hc,hne,rfl⟩|⟨hc,h0,rfl⟩)
 ·simp! only[↓Nm];exact⟨_,rfl,.inl ⟨j,hj,hne,rfl⟩⟩
 ·simp! only[↓Nm];exact⟨_,rfl,.inr (.inl ⟨hc,hne,rfl⟩)⟩
 ·simp! only[];refine(zoo d S L G).mono ?_;rintro _ rfl;simp! only[];refine(Zc d S L G).mono ?_;rintro _ rfl;simp! only[];refine(vM d S L G).mono ?_;rintro _ rfl;simp! only[];refine(Na d S L G).mono ?_;rintro _ rfl;simp! only[];refine(sM d.g1 d.gn (by lia) (tT k n S) sp).mono ?_;rintro _ (⟨rm,rfl⟩|⟨rm,y,py,rfl⟩)
  ·simp! only[↓Nm,↓zf5];refine(Yu d sp).mono ?_;rintro _ rfl;simp! only[];refine(Na d S L G).mono ?_;rintro _ rfl;simp! only[];refine(zlc lo hi (tT k n S) (by lia)).mono ?_;rintro _ rfl;simp! only[];refine(Ou d S L G).mono ?_;rintro _ rfl;simp! only[];refine(zkB d.g1 (by lia) (hd lo hi (Nat.gcd k n) (tT k n S)) (rM k n S)).mono ?_;rintro _ rfl;simp! only[];exact⟨_,rfl,.inr (.inr (.inr ⟨hc,h0,rm,rfl⟩))⟩
  ·have e:=zrW py;simp! only[↓Nm,e];exact⟨_,rfl,.inr (.inr (.inl ⟨hc,h0,rm,py⟩))⟩
end
def dY:Nat->Nat->Nat
 |_,0=>1
 |0,_+1=>0
 |n+1,m+1=>dY n m+dY n (m+1)
theorem Ms (n:Nat):dY n 0=1:=by cases n<;>rfl
theorem Ha (n m:Nat):dY (n+1) (m+1)=dY n m+dY n (m+1):=rfl
theorem Ww:∀n s,dY (n+1) (s+1)*(s+1)=dY n s*(n+1)
 |0,0=>rfl
 |0,s+1=>by
  have h1:dY 1 (s+2)=0:=rfl;have h2:dY 0 (s+1)=0:=rfl;rw[h1,h2,Nat.zero_mul,Nat.zero_mul]
 |n+1,0=>by
  have h:=Ww n 0;rw[Ha (n+1) 0,Ms,lD,Sg,Kb];rw[Ms,lD,Sg,Kb]at h;lia
 |n+1,t+1=>by
  have h1:=Ww n (t+1);have h2:=Ww n t;rw[Ha (n+1) (t+1),Nat.add_mul,h1,show t+1+1=(t+1)+1 from rfl,Nat.mul_add (dY (n+1) (t+1)) (t+1) 1,h2,Sg,Nat.mul_add (dY (n+1) (t+1)) (n+1) 1,Sg];have h3:dY (n+1) (t+1)*(n+1)=dY n t*(n+1)+dY n (t+1)*(n+1):=by rw[Ha,Nat.add_mul]
  lia
theorem Zx:∀n m,dY n m<=(n+1)^m
 |n,0=>by rw[Ms];exact bU _
 |0,m+1=>lI _
 |n+1,m+1=>by
  have h1:=Zx n m;have h2:=Zx n (m+1);have h3:(n+1)^m<=(n+2)^m:=Nat.pow_le_pow_left (by lia) m;rw[Ha]
  calc dY n m+dY n (m+1)<=(n+1)^m+(n+1)^(m+1):=Nat.add_le_add h1 h2
   _=(n+1)^m*(n+2):=by
    have e:(n+1)^m*(n+2)=(n+1)^m*1+(n+1)^m*(n+1):=by rw[<-Nat.mul_add,show 1+(n+1)=n+2 by lia]
    rw[e,Nat.pow_succ,Sg]
   _<=(n+2)^m*(n+2):=Nat.mul_le_mul_right _ h3
   _=(n+1+1)^(m+1):=(Nat.pow_succ ..).symm
theorem wV {r i:Nat}(hr:r<2^250)(hi:i<=5):dY (r+i) i<2^4000:=by
 have h1:dY (r+i) i<=(2^251)^i:=gY (Zx _ _) (Nat.pow_le_pow_left (by lia) i);have h2:(2^251)^i<=(2^251)^5:=qcL (by decide) hi;have h3:(2^251)^5<2^4000:=by rw[<-Nat.pow_mul];exact Nat.pow_lt_pow_right (by decide) (by decide)
 lia
theorem zr8 {i j:Int}(h1:i.natAbs<2^4000)(h2:j.natAbs<2^4000):xM i j=true:=by
 unfold xM;rw[eG h1,eG h2];simp
theorem zno {r k:Nat}(hr:r<2^250)(k1:1<=k)(k5:k<=5):Ok (Od [.int r,.int k]) fun x=>x= .val (.int (dY (r+(k-1)) (k-1):Nat)):=by
 have e0:((k:Int)-1).toNat=k-1:=by lia
 simp! only[↓Od,↓ziE,↓zhT,e0,Wv];refine⟨⟨rfl,kL (by lia) (by lia)⟩,gP (fun i ρ=>∃s3,ρ=[.val (.int r),.val (.int k),.val (.int (dY (r+i) i:Nat)),s3]) ⟨_,by rw[Ms];rfl⟩ ?_ ?_⟩
 ·rintro i _ hi ⟨s3,rfl⟩;have hb:=wV hr (show i<=5 by lia);have e1:(dY (r+i) i:Int)*((r:Int)+(1+(i:Int)))/(1+(i:Int))=(dY (r+(i+1)) (i+1):Nat):=by
   have h:=Ww (r+i) i;have h':(dY (r+i) i:Int)*((r:Int)+(1+(i:Int)))=(dY (r+(i+1)) (i+1):Nat)*(1+(i:Int)):=by
    have:((dY (r+i) i*(r+i+1):Nat):Int)=((dY (r+i+1) (i+1)*(i+1):Nat):Int):=by rw[h]
    push_cast at this;rw[show r+(i+1)=r+i+1 by lia,show(r:Int)+(1+(i:Int))=(r:Int)+(i:Int)+1 by lia,this,show(1+(i:Int))=(i:Int)+1 by lia]
   rw[h',Int.mul_ediv_cancel _ (by lia)]
  simp! only[↓zie,e1];exact⟨zr8 (by simpa using hb) (by lia),jC (by lia) (by lia),_,rfl⟩
 ·rintro _ ⟨s3,rfl⟩;simp! only[]
def sub (w:Nat->Int)(c:Int->Int):Nat->Nat->Int->Int
 |0,_,t=>c t
 |m+1,j,t=>sub w c m (j+1) t-sub w c m (j+1) (t-w j)
theorem Ux {c:Int->Int}(hw:∀j,0<=w j)(hc:∀t,t<0->c t=0):∀m j t,t<0->sub w c m j t=0
 |0,_,t,h=>hc t h
 |m+1,j,t,h=>by
  show sub w c m (j+1) t-sub w c m (j+1) (t-w j)=0;rw[Ux hw hc m (j+1) t h,Ux hw hc m (j+1) (t-w j) (by have:=hw j;lia)]
  rfl
def dI (F:Int->Int):List (Int×Nat)->Int
 |[]=>0
 |p::ps=>p.1*F p.2+dI F ps
theorem zpj (F:Int->Int):∀a b:List (Int×Nat),dI F (a++b)=dI F a+dI F b
 |[],b=>(Int.zero_add _).symm
 |p::a,b=>by
  show p.1*F p.2+dI F (a++b)=p.1*F p.2+dI F a+dI F b;rw[zpj F a b];lia
def more (w:Nat)(ps:List (Int×Nat)):List (Int×Nat):=ps.filterMap fun p=>if w<=p.2 then some (-p.1,p.2-w)else none
theorem znT (w:Nat)(h0:∀t,t<0->F t=0):∀ps:List (Int×Nat),dI F ps+dI F (more w ps)=dI (fun t=>F t-F (t-w)) ps
 |[]=>rfl
 |p::ps=>by
  have ih:=znT w h0 ps;show p.1*F p.2+dI F ps+dI F (more w (p::ps))=p.1*(F p.2-F ((p.2:Int)-w))+dI (fun t=>F t-F (t-w)) ps;rw[Int.mul_sub]
  by_cases h:w<=p.2
  ·have e:more w (p::ps)=(-p.1,p.2-w)::more w ps:=by unfold more;rw[iS,if_pos h]
   have e2:dI F ((-p.1,p.2-w)::more w ps)= -p.1*F (((p.2-w:Nat)):Int)+dI F (more w ps):=rfl;rw[e,e2,show((p.2-w:Nat):Int)=(p.2:Int)-(w:Int) by lia,Int.neg_mul];lia
  ·have e:more w (p::ps)=more w ps:=by unfold more;rw[iS,if_neg h]
   rw[e,h0 ((p.2:Int)-w) (by lia),Int.mul_zero];lia
def ways (k:Nat)(t:Int):Int:=if 0<=t then(dY (t.toNat+(k-1)) (k-1):Nat)else 0
theorem Md (k:Nat)(t:Int)(h:t<0):ways k t=0:=if_neg (by lia)
theorem Vc (k r:Nat):ways k (r:Int)=(dY (r+(k-1)) (k-1):Nat):=by
 unfold ways;rw[if_pos (by lia),Uc]
abbrev tD (ps:List (Int×Nat)):List D:=ps.map fun p=> .tup [.int p.1,.int p.2]
abbrev lE (m:Nat)(lo hi:Nat->Int):List D:=wL m fun j=> .tup [.int (lo j),.int (hi j)]
theorem zoM (F:Int->Int):∀ps:List (Int×Nat),(ps.map fun p=>p.1*F p.2).sum=dI F ps
 |[]=>rfl
 |p::ps=>by
  rw[jW,List.sum_cons,zoM F ps];rfl
theorem pK (w:Nat)(ps:List (Int×Nat)):(more w ps).length<=ps.length:=List.length_filterMap_le _ _
theorem Ir {k:Nat}(k1:1<=k)(k5:k<=5)(le:∀j,j<k->lo j<=hi j){left:Nat}(hl:left<2^250)(a1 a3 a4 a5 a6:Sl):
  Ok (Yn [.val (.lst (lE k lo hi)),a1,.val (.int left),a3,a4,a5,a6]) fun x=>∃a,x=(.ret (.val (.int (sub (fun j=>if j<k then hi j-lo j+1 else 0) (ways k) k 0 left))),a):=by
 have hw:∀j,0<=(if j<k then hi j-lo j+1 else 0):=fun j=>by
  split
  ·rename_i h;have:=le j h;lia
  ·exact Jc _
 have hw':∀j,0<=(fun j=>if j<k then hi j-lo j+1 else 0) j:=hw;clear hw
 generalize hW:(fun j=>if j<k then hi j-lo j+1 else 0)=W at hw'
 simp! only[↓Yn,↓zhB];refine gP (fun j ρ=>∃ps s4 s5 s6,ps.length<=2^j/\(∀p∈ps,p.1.natAbs=1/\p.2<=left)/\dI (sub W (ways k) (k-j) j) ps=sub W (ways k) k 0 left/\ρ=[.val (.lst (lE k lo hi)),a1,.val (.int left),.val (.lst (tD ps)),s4,s5,s6]) ⟨[(1,left)],_,_,_,by simp,fun p hp=>by rw[qcg.mp hp];exact⟨rfl,bU _⟩,?_,rfl⟩ ?_ ?_
 ·show(1:Int)*sub W (ways k) (k-0) 0 left+0=_;rw[Int.one_mul,Int.add_zero];rfl
 ·rintro j _ hj ⟨ps,s4,s5,s6,hn,hs,ht,rfl⟩;have hp:2^j<=16:=qcL (n:=2) (by decide) (show j<=4 by lia);have hl:=le j hj;obtain⟨w,ew⟩:∃w:Nat,hi j-lo j+1=(w:Int):=⟨(hi j-lo j+1).toNat,by lia⟩;have eW:W j=(w:Int):=by rw[<-hW];simp only[hj,if_true];exact ew
  simp! only[↓zhn,ew,↓zhd];refine⟨by lia,zmx (enc:=fun p:Int×Nat=>D.tup [.int p.1,.int p.2]) (l:=ps) (fun ρ=>∃x y,ρ=[.val (.int w),x,y]) (fun p=>if w<=p.2 then some (.tup [.int (-p.1),.int ((p.2:Int)-w)])else none) ⟨_,_,rfl⟩ ?_ ?_⟩
  ·rintro⟨s,r⟩ _ _ ⟨x,y,rfl⟩;simp! only[↓zgM,↓zg7];refine⟨fun h=>?_,fun h=>?_⟩
   ·rw[if_pos (by lia)];exact⟨rfl,_,_,rfl⟩
   ·rw[if_neg (by lia)];exact⟨rfl,_,_,rfl⟩
  ·rintro _ ⟨x,y,rfl⟩;have e:(ps.filterMap fun p=>if w<=p.2 then some (D.tup [.int (-p.1),.int ((p.2:Int)-w)])else none)=tD (more w ps):=by
    unfold tD more;rw[List.map_filterMap];refine zgr _ fun p hp=>?_
    split
    ·rename_i h;rw[Hg,show((p.2-w:Nat):Int)=(p.2:Int)-(w:Int) by lia]
    ·rfl
   have e2:tD ps++tD (more w ps)=tD (ps++more w ps):=(Lg ..).symm;have hm:=pK w ps;simp! only[e,e2];refine⟨by lia,ps++more w ps,_,_,_,by rw[iC,Nat.pow_succ];lia,fun p hp=>?_,?_,rfl⟩
   ·rcases qan.mp hp with h|h
    ·exact hs p h
    ·obtain⟨q,hq,e⟩:=qaI.mp h;have:=hs q hq
     split at e
     ·cases e;exact⟨by rw[Int.natAbs_neg];exact this.1,by have:=this.2;show q.2-w<=left;lia⟩
     ·cases e
   ·rw[zpj,znT w (fun t h=>Ux hw' (Md k) _ _ t h),<-ht,show k-j=(k-(j+1))+1 by lia,<-eW]
    rfl
 ·rintro _ ⟨ps,s4,s5,s6,hn,hs,ht,rfl⟩;have hp:2^k<=32:=qcL (n:=2) (by decide) k5;simp! only[↓zhD];refine⟨by lia,zrS (enc:=fun p:Int×Nat=>D.tup [.int p.1,.int p.2]) (l:=ps) (fun ρ=>∃x y,ρ=[.val (.lst (lE k lo hi)),x,y]) (fun p=> .int (p.1*ways k p.2)) ⟨_,_,rfl⟩ ?_ ?_⟩
  ·rintro⟨s,r⟩ _ hm ⟨x,y,rfl⟩;have:=hs _ hm;simp! only[↓zhk];refine(zno (r:=r) (by have:=this.2;simp only at this;lia) k1 k5).mono ?_;rintro _ rfl;simp! only[Vc];exact⟨lT (by have:=this.1;simp only at this;lia),_,_,rfl⟩
  ·rintro _ ⟨x,y,rfl⟩;have e:(ps.map fun p=>D.int (p.1*ways k p.2))=(ps.map fun p=>p.1*ways k p.2).map D.int:=by rw[Ba];rfl
   simp! only[e,Kv,zoM];rw[Nat.sub_self]at ht;have:dI (ways k) ps=sub W (ways k) k 0 left:=ht;rw[this];exact⟨_,rfl⟩
def mP (k:Nat)(lo hi:Nat->Int):Nat->Int:=fun j=>if j<k then hi j-lo j+1 else 0
def Rb (k:Nat)(lo hi:Nat->Int)(T:Int):Int:=if(List.range k).all (fun j=>decide (lo j<=hi j))then sub (mP k lo hi) (ways k) k 0 (T-aG k lo)else 0
theorem all_le {k:Nat}:(List.range k).all (fun j=>decide (lo j<=hi j))=true↔∀j,j<k->lo j<=hi j:=by simp
theorem vU {k:Nat}(le:∀j,j<k->lo j<=hi j)(j:Nat):0<=mP k lo hi j:=by
 unfold mP
 split
 ·rename_i h;have:=le j h;lia
 ·exact Jc _
theorem zjA {k:Nat}(k1:1<=k)(k5:k<=5)(lo hi:Nat->Int)(T:Int)(far:T-aG k lo<2^250):Ok (Gh [.lst (lE k lo hi),.int T]) fun x=>x= .val (.int (Rb k lo hi T)):=by
 simp! only[↓Gh,↓zgF,↓zgI];refine⟨by lia,eS (fun ρ=>∃x y,ρ=[x,y]) (fun j=> .bl (decide (hi j<lo j))) ⟨_,_,rfl⟩ ?_ ?_⟩
 ·rintro j _ hj ⟨x,y,rfl⟩;simp! only[↓zhc];exact⟨_,_,rfl⟩
 ·rintro _ ⟨x,y,rfl⟩;simp! only[Im];refine⟨fun h=>?_,fun h=>?_⟩
  ·obtain⟨j,hj,e⟩:=(kT _ _).mp h;have:¬(List.range k).all (fun j=>decide (lo j<=hi j))=true:=fun z=>by
    have:=all_le.mp z j hj;have:=of_decide_eq_true e;lia
   unfold Rb;rw[if_neg this]
  ·have le:∀j,j<k->lo j<=hi j:=fun j hj=>by
    by_cases q:lo j<=hi j
    ·exact q
    ·have:=(kT k fun j=>decide (hi j<lo j)).mpr ⟨j,hj,eG (by lia)⟩;rw[h]at this;cases this
   have ec:Rb k lo hi T=sub (mP k lo hi) (ways k) k 0 (T-aG k lo):=if_pos (all_le.mpr le);simp! only[↓zhs,↓zhx];refine⟨by lia,eS (fun ρ=>∃x y,ρ=[x,y]) (fun j=> .int (lo j)) ⟨_,_,rfl⟩ ?_ ?_⟩
   ·rintro j _ hj ⟨x,y,rfl⟩;simp! only[↓zgJ];exact⟨_,_,rfl⟩
   ·rintro _ ⟨x,y,rfl⟩;simp! only[iM,iO];refine⟨fun h=>?_,fun h=>?_⟩
    ·rw[ec,Ux (vU le) (Md k) _ _ _ (by lia)]
    ·obtain⟨left,el⟩:∃left:Nat,T-aG k lo=(left:Int):=⟨(T-aG k lo).toNat,by lia⟩;rw[el]at ec far ⊢;refine(Ir k1 k5 le (left:=left) (by lia) _ _ _ _ _).mono ?_;rintro _ ⟨a,rfl⟩;simp! only[ec]
     rfl
def hc (lo hi:Nat->Int):Nat->Nat->Int->Int
 |0,_,t=>if t=0 then 1 else 0
 |m+1,j,t=>aG (hi j-lo j+1).toNat fun v=>hc lo hi m (j+1) (t-(lo j+(v:Nat)))
theorem sub_sub (w:Nat->Int)(F G:Int->Int):∀m j t,sub w (fun t=>F t-G t) m j t=sub w F m j t-sub w G m j t
 |0,_,_=>rfl
 |m+1,j,t=>by
  show sub w _ m (j+1) t-sub w _ m (j+1) (t-w j)=(sub w F m (j+1) t-sub w F m (j+1) (t-w j))-(sub w G m (j+1) t-sub w G m (j+1) (t-w j));rw[sub_sub w F G m,sub_sub w F G m];lia
theorem Vz (w:Nat->Int)(F:Int->Int)(a:Int):∀m j t,sub w (fun t=>F (t-a)) m j t=sub w F m j (t-a)
 |0,_,_=>rfl
 |m+1,j,t=>by
  show sub w _ m (j+1) t-sub w _ m (j+1) (t-w j)=sub w F m (j+1) (t-a)-sub w F m (j+1) (t-a-w j);rw[Vz w F a m,Vz w F a m,show t-w j-a=t-a-w j by lia]
theorem Xs (w:Nat->Int)(F:Nat->Int->Int)(n:Nat):∀m j t,sub w (fun t=>aG n fun v=>F v t) m j t=aG n fun v=>sub w (F v) m j t
 |0,_,_=>rfl
 |m+1,j,t=>by
  show sub w _ m (j+1) t-sub w _ m (j+1) (t-w j)=aG n fun v=>sub w (F v) m (j+1) t-sub w (F v) m (j+1) (t-w j)
  rw[Xs w F n m,Xs w F n m,zl5]
theorem zqH {F G:Int->Int}(h:∀t,F t=G t)(m j:Nat)(t:Int):sub w F m j t=sub w G m j t:=by
 rw[show F=G from funext h]
theorem zmF:∀n m,n<m->dY n m=0
 |0,m+1,_=>rfl
 |n+1,m+1,h=>by rw[Ha,zmF n m (by lia),zmF n (m+1) (by lia)]
theorem zlR:∀n,dY n n=1
 |0=>rfl
 |n+1=>by rw[Ha,zlR n,zmF n (n+1) (by lia)]
theorem zrA (hm:1<=m)(t:Int):ways (m+1) t-ways (m+1) (t-1)=ways m t:=by
 obtain⟨m,rfl⟩:∃q,m=q+1:=⟨m-1,by lia⟩
 by_cases h:t<0
 ·rw[Md _ _ h,Md _ _ (by lia),Md _ _ h];rfl
 ·obtain⟨r,rfl⟩:∃r:Nat,t=r:=⟨t.toNat,by lia⟩;rw[Vc,Vc];simp only[Nat.add_sub_cancel];cases r with
  |zero=>
   rw[Md _ _ (by lia),lD,lD,zlR,zlR];rfl
  |succ r=>
   rw[show((r+1:Nat):Int)-1=(r:Nat) by lia,Vc];simp only[Nat.add_sub_cancel];rw[show r+1+(m+1)=(r+(m+1))+1 by lia,Ha,show r+1+m=r+(m+1) by lia];push_cast;lia
theorem zoX (hm:1<=m)(t:Int):∀n:Nat,(aG n fun v=>ways m (t-(v:Nat)))=ways (m+1) t-ways (m+1) (t-n)
 |0=>by show(0:Int)=_;rw[show t-((0:Nat):Int)=t by lia];lia
 |n+1=>by
  show(aG n fun v=>ways m (t-(v:Nat)))+ways m (t-n)=_;rw[zoX hm t n,<-zrA hm (t-n),show t-(n:Int)-1=t-((n+1:Nat):Int) by lia];lia
theorem rG {k:Nat}(le:∀j,j<k->lo j<=hi j):∀(m j:Nat) (t:Int),j+(m+1)<=k->hc lo hi (m+1) j t=sub (mP k lo hi) (ways (m+1)) (m+1) j (t-aG (m+1) fun i=>lo (j+i))
 |0,j,t,h=>by
  have l:=le j (by lia);have ew:mP k lo hi j=hi j-lo j+1:=if_pos (by lia);show(aG (hi j-lo j+1).toNat fun v=>if t-(lo j+(v:Nat))=0 then 1 else 0)=ways 1 (t-(0+lo (j+0)))-ways 1 (t-(0+lo (j+0))-mP k lo hi j);rw[ew,Int.zero_add,Nt];have w1:∀x,ways 1 x=if 0<=x then 1 else 0:=fun x=>by
   unfold ways
   split
   ·rw[show 1-1=0 from rfl,Ms];rfl
   ·rfl
  have key:∀n:Nat,(aG n fun v=>if t-(lo j+(v:Nat))=0 then 1 else 0)=(if 0<=t-lo j then 1 else 0)-(if 0<=t-lo j-n then 1 else 0):=fun n=>by
   induction n with
   |zero=>show(0:Int)=_;rw[show t-lo j-((0:Nat):Int)=t-lo j by lia];lia
   |succ n ih=>
    show(aG n fun v=>if t-(lo j+(v:Nat))=0 then 1 else 0)+(if t-(lo j+(n:Nat))=0 then 1 else 0)=_;rw[ih];push_cast
    split<;>split<;>split<;>split<;>lia
  rw[key,w1,w1,show(((hi j-lo j+1).toNat:Nat):Int)=hi j-lo j+1 by lia]
 |m+1,j,t,h=>by
  have l:=le j (by lia);have ew:mP k lo hi j=hi j-lo j+1:=if_pos (by lia);have split:(aG (m+1+1) fun i=>lo (j+i))=lo j+aG (m+1) fun i=>lo (j+1+i):=by
   have:=tW (fun i=>lo (j+i)) 1 (m+1);rw[show 1+(m+1)=m+1+1 by lia]at this;rw[this];congr 1
   ·show(0:Int)+lo (j+0)=_;rw[Int.zero_add];rfl
   ·exact gU fun i _=>by rw[Nat.add_assoc]
  show(aG (hi j-lo j+1).toNat fun v=>hc lo hi (m+1) (j+1) (t-(lo j+(v:Nat))))=_;rw[gU fun v _=>rG le m (j+1) (t-(lo j+(v:Nat))) (by lia)]
  generalize hT:(t-aG (m+1+1) fun i=>lo (j+i))=T
  rw[gU (g:=fun v:Nat=>sub (mP k lo hi) (fun t=>ways (m+1) (t-(v:Nat))) (m+1) (j+1) T) fun v _=>by
   rw[Vz];congr 1;lia]
  rw[<-Xs,zqH (fun t=>zoX (show 1<=m+1 by lia) t _),sub_sub,Vz];show _=sub (mP k lo hi) (ways (m+1+1)) (m+1) (j+1) T-sub (mP k lo hi) (ways (m+1+1)) (m+1) (j+1) (T-mP k lo hi j);rw[ew,show(((hi j-lo j+1).toNat:Nat):Int)=hi j-lo j+1 by lia]
theorem zqz:∀(m j:Nat) (t:Int),(∃i,i<m/\hi (j+i)<lo (j+i))->hc lo hi m j t=0
 |0,_,_,⟨i,h,_⟩=>by lia
 |m+1,j,t,⟨i,h,l⟩=>by
  show(aG (hi j-lo j+1).toNat fun v=>hc lo hi m (j+1) (t-(lo j+(v:Nat))))=0
  match i,h,l with
  |0,_,l=>rw[Nt]at l;rw[show(hi j-lo j+1).toNat=0 by lia];rfl
  |i+1,h,l=>
   rw[gU (g:=fun _=>0) fun v _=>zqz m (j+1) _ ⟨i,by lia,by rw[show j+1+i=j+(i+1) by lia];exact l⟩,Uv]
theorem Da {k:Nat}(k1:1<=k)(lo hi:Nat->Int)(T:Int):hc lo hi k 0 T=Rb k lo hi T:=by
 unfold Rb
 by_cases c:(List.range k).all (fun j=>decide (lo j<=hi j))=true
 ·rw[if_pos c];obtain⟨m,rfl⟩:∃m,k=m+1:=⟨k-1,by lia⟩;rw[rG (all_le.mp c) m 0 T (by lia)];congr 2;exact gU fun i _=>by rw[lD]
 ·rw[if_neg c];refine zqz k 0 T ?_
  by_cases z:∃i,i<k/\hi (0+i)<lo (0+i)
  ·exact z
  ·refine absurd (all_le.mpr fun j hj=>?_) c
   by_cases y:lo j<=hi j
   ·exact y
   ·exact absurd ⟨j,hj,by rw[lD];lia⟩ z
def isInt (x:Sl):Prop:=∃v:Int,x= .val (.int v)
theorem sJ {f:Nat->Int}(h:∀i,i<n->0<=f i):0<=aG n f:=by
 have:=tF (f:=fun _=>0) (g:=f) h;rw[Uv]at this;exact this
theorem qF (lo hi:Nat->Int):∀(m j:Nat) (t:Int),0<=hc lo hi m j t
 |0,_,t=>by show 0<=if t=0 then(1:Int)else 0;split<;>decide
 |m+1,j,t=>sJ fun v _=>qF lo hi m (j+1) _
theorem zny (h0:∀i,0<=f i):∀{n:Nat},0<aG n f->∃i,i<n/\0<f i
 |0,h=>absurd (show(0:Int)<0 from h) (by decide)
 |n+1,h=>by
  have h:0<aG n f+f n:=h
  by_cases e:0<f n
  ·exact⟨n,by lia,e⟩
  ·obtain⟨i,hi,p⟩:=zny h0 (show 0<aG n f by have:=h0 n;lia);exact⟨i,by lia,p⟩
theorem zqf (f:Nat->Int)(m:Nat):aG (m+1) f=f 0+aG m fun i=>f (1+i):=by
 have:=tW f 1 m;rw[Ma 1 m]at this;rw[this];show(0+f 0)+_=_;lia
theorem zqn (h:Nat->Int)(m j:Nat):(aG (m+1) fun i=>h (j+i))=h j+aG m fun i=>h (j+1+i):=by
 rw[zqf];show h (j+0)+_=_;rw[Nt];congr 1;exact gU fun i _=>by rw[show j+(1+i)=j+1+i by lia]
section
variable {lo hi:Nat->Int}
def pt (lo:Nat->Int)(j:Nat)(v:Int)(i:Nat):Int:=if i=j then v else lo i
theorem Bz (f:Nat->Int)(j:Nat)(v:Int):pt f j v j=v:=if_pos rfl
theorem Av (f:Nat->Int)(v:Int)(h:i≠j):pt f j v i=f i:=if_neg h
theorem Bm:∀(m j:Nat) (t:Int),0<hc lo hi m j t->∃h:Nat->Int,(∀i,i<m->lo (j+i)<=h (j+i)/\h (j+i)<=hi (j+i))/\(aG m fun i=>h (j+i))=t
 |0,j,t,p=>by
  have p:0<if t=0 then(1:Int)else 0:=p
  by_cases e:t=0
  ·subst e;exact⟨fun _=>0,fun i h=>by lia,rfl⟩
  ·rw[if_neg e]at p;exact absurd p (by decide)
 |m+1,j,t,p=>by
  obtain⟨v,hv,q⟩:=zny (f:=fun v=>hc lo hi m (j+1) (t-(lo j+(v:Nat)))) (fun v=>qF lo hi m (j+1) _) p;obtain⟨h,h1,h2⟩:=Bm m (j+1) _ q;refine⟨pt h j (lo j+(v:Nat)),fun i hi'=>?_,?_⟩
  ·by_cases e:i=0
   ·subst e;rw[Nt,Bz];lia
   ·rw[Av _ _ (by lia)];have:=h1 (i-1) (by lia);rw[show j+1+(i-1)=j+i by lia]at this;exact this
  ·rw[zqn,Bz,gU (g:=fun i=>h (j+1+i)) fun i _=>Av _ _ (by lia),h2];lia
end
theorem Jl (a:D)(m:Nat)(f:Nat->D):[a]++wL m f=wL (m+1) fun i=>if i=0 then a else f (i-1):=by
 apply lM;intro i;cases i with
 |zero=>rw[bI _ (by lia)];rfl
 |succ i=>
  show(wL m f)[i]? =_
  by_cases h:i<m
  ·rw[bI _ h,bI _ (by lia),if_neg (by lia)];rfl
  ·rw[eE (by rw[dQ];lia),eE (by rw[dQ];lia)]
theorem zrr (f:Nat->D):(wL n f).drop i=wL (n-i) fun j=>f (i+j):=by
 apply lM;intro j;rw[qcz]
 by_cases hj:i+j<n
 ·rw[bI _ hj,bI _ (by lia)]
 ·rw[eE (by rw[dQ];lia),eE (by rw[dQ];lia)]
theorem zov (lo hi:Nat->Int)(m j:Nat)(f:Int):[D.tup [.int (lo j),.int (f-1)]]++cT m (fun i=>lo (j+1+i)) (fun i=>hi (j+1+i))=cT (m+1) (fun i=>lo (j+i)) (fun i=>if i=0 then f-1 else hi (j+i)):=by
 unfold cT;rw[Jl];refine tM fun i hi'=>?_
 by_cases h:i=0
 ·subst h;simp
 ·rw[if_neg h];dsimp only;rw[if_neg h,show j+1+(i-1)=j+i by lia]
section
variable {lo hi:Nat->Int} {m j:Nat} {t:Int}
theorem zij (m5:m+1<=5)(far:t-(aG (m+1) fun i=>lo (j+i))<2^250)(f:Int):Ok (Ho [.lst (cT (m+1) (fun i=>lo (j+i)) fun i=>hi (j+i)),.int t,.int f]) isInt:=by
 have c1:bS (cT (m+1) (fun i=>lo (j+i)) fun i=>hi (j+i)) (some 1) none=cT m (fun i=>lo (j+1+i)) fun i=>hi (j+1+i):=by
  rw[show(some (1:Int))=some ((1:Nat):Int)from rfl,zmw];unfold cT;rw[zrr];exact tM fun i _=>by dsimp only;rw[show j+(1+i)=j+1+i by lia]
 have g0:(cT (m+1) (fun i=>lo (j+i)) fun i=>hi (j+i))[0]? =some (.tup [.int (lo j),.int (hi j)]):=by
  unfold cT;rw[bI _ (by lia)];rfl
 have sl:(cT m (fun i=>lo (j+1+i)) fun i=>hi (j+1+i)).length=m:=dQ _ _;simp! only[↓Ho,↓zfI,c1,g0,sl];refine⟨by lia,?_⟩;have e:=zov lo hi m j f;simp only[Uo,List.nil_append]at e;rw[e];refine(zjA (by lia) m5 _ _ t far).mono ?_;rintro _ rfl;simp! only[];exact⟨_,rfl⟩
theorem zl0 (m5:m+1<=5)(far:t-(aG (m+1) fun i=>lo (j+i))<2^250)(wide:hi j-lo j<2^399)(number:Int):
  Ok (Os [.lst (cT (m+1) (fun i=>lo (j+i)) fun i=>hi (j+i)),.int t,.int number]) fun x=>∃h:Int,lo j<=h/\x= .val (.int h):=by
 have g0:(cT (m+1) (fun i=>lo (j+i)) fun i=>hi (j+i))[0]? =some (.tup [.int (lo j),.int (hi j)]):=by
  unfold cT;rw[bI _ (by lia)];rfl
 simp! only[↓Os,↓zg9,g0,↓zhp];refine We (fun q ρ=>∃(low high:Int) (z:Sl),lo j<=low/\high-low<2^q/\ρ=[.val (.lst (cT (m+1) (fun i=>lo (j+i)) fun i=>hi (j+i))),.val (.int t),.val (.int number),.val (.int low),.val (.int high),z]) ?_ 400 399 _ (by lia) ⟨lo j,hi j,_,by lia,wide,rfl⟩;rintro q _ ⟨low,high,z,b1,b4,rfl⟩;simp! only[↓zho];refine⟨fun c=>?_,fun c=>⟨low,b1,rfl⟩⟩;have c:low<high:=by simpa using c
 obtain⟨q,rfl⟩:∃q',q=q'+1:=⟨q-1,by
  cases q with
  |zero=>rw[Int.pow_zero]at b4;lia
  |succ q=>rfl⟩
 rw[Int.pow_succ]at b4;have d0:∀P:Int,high-low<P*2->(low+high+1)/2-1-low<P/\high-(low+high+1)/2<P:=fun P hP=>by lia
 obtain⟨d3,d4⟩:=d0 _ b4;clear d0;have d1:low<(low+high+1)/2:=by lia
 refine⟨q,rfl,?_⟩;simp! only[↓zgx];refine⟨by decide+kernel,?_⟩
 generalize (low+high+1)/2=mid at d1 d3 d4
 refine(zij m5 far mid).mono ?_;rintro _ ⟨v,rfl⟩;simp! only[];exact⟨fun c=>⟨low,mid-1,_,b1,d3,rfl⟩,fun c=>⟨mid,high,_,by lia,d4,rfl⟩⟩
end
section
variable {k:Nat} {lo hi:Nat->Int} {T:Int}
theorem Dm {k:Nat}{T:Int}(far:T-aG k lo<2^250)(hj:j<=k)(hh:∀i,i<j->lo i<=h i):(T-aG j h)-(aG (k-j) fun i=>lo (j+i))<2^250:=by
 have h1:=tW lo j (k-j);rw[show j+(k-j)=k by lia]at h1;have h2:=tF (f:=lo) (g:=h) hh;lia
theorem zrv (lo hi:Nat->Int)(k j:Nat):(cT k lo hi).drop j=cT (k-j) (fun i=>lo (j+i)) fun i=>hi (j+i):=by
 unfold cT;rw[zrr]
theorem znZ (k5:k<=5)(far:T-aG k lo<2^250)(wide:∀j,j<k->hi j-lo j<2^399)(number:Int):
  Ok (Tg [.lst (cT k lo hi),.int T,.int number]) fun x=>∃h:Nat->Int,x= .own (wI k h):=by
 have sl:(cT k lo hi).length=k:=dQ _ _;simp! only[↓Tg,↓zjP,↓zjB,sl];refine⟨kL (by lia) (by lia),gP (fun j ρ=>∃(h:Nat->Int) (ah:Int) (y z:Sl),(∀i,i<j->lo i<=h i)/\ρ=[.val (.lst (cT k lo hi)),.val (.int T),.val (.int number),.own (wI j h),.val (.int (T-aG j h)),.val (.int ah),y,z]) ⟨fun _=>0,number,_,_,fun i hi=>by lia,by rw[show aG 0 (fun _:Nat=>(0:Int))=0 from rfl,Int.sub_zero];rfl⟩ ?_ ?_⟩
 ·rintro j _ hj ⟨h,ah,y,z,hh,rfl⟩;obtain⟨m,em⟩:∃m,k-j=m+1:=⟨k-j-1,by lia⟩;have farj:=Dm far (show j<=k by lia) hh;rw[em]at farj;have cd:bS (cT k lo hi) (some (j:Int)) none=cT (m+1) (fun i=>lo (j+i)) fun i=>hi (j+i):=by
   rw[zmw,zrv,em]
  simp! only[↓zjv,cd];refine(zl0 (by lia) farj (wide j hj) ah).mono ?_;rintro _ ⟨v,v1,rfl⟩;simp! only[cd];refine(zij (by lia) farj v).mono ?_;rintro _ ⟨bv,rfl⟩
  let h':Nat->Int:=fun i=>if i<j then h i else v
  have e1:aG j h'=aG j h:=gU fun i hi=>if_pos hi
  have e2:h' j=v:=if_neg (by lia);have e5:wI j h++[D.int v]=wI (j+1) h':=by
   rw[Lx]
  have e6:T-aG (j+1) h'=T-aG j h-v:=by
   show T-(aG j h'+h' j)=_;rw[e1,e2];lia
  simp! only[e5];refine⟨by lia,h',ah-bv,.val (.int j),.val (.int v),fun i hi'=>?_,by rw[e6]⟩
  by_cases c:i<j
  ·rw[show h' i=h i from if_pos c];exact hh i c
  ·have:i=j:=by lia
   subst this;rw[e2];exact v1
 ·rintro _ ⟨h,ah,y,z,hh,rfl⟩;simp! only[];exact⟨h,rfl⟩
end
section
variable {k n:Nat} {S L G:Nat->Int}
def mK (k n:Nat)(S:Nat->Int):Prop:=lC k n S/\rT k n S%(eT k n:Int)=0
theorem zre (d:RDim k n)(S L G:Nat->Int):Ok (tX [bK k n S L G]) fun x=>(mK k n S/\x= .val .non)\/(¬mK k n S/\∃y,sS y=false/\x= .val y):=(zkE d S L G).mono fun x h=>by
 rcases h with⟨j,hj,hne,rfl⟩|⟨hc,hne,rfl⟩|⟨hc,h0,rfl⟩
 ·exact .inr ⟨fun q=>hne (q.1 j hj),_,rfl,rfl⟩
 ·exact .inr ⟨fun q=>hne q.2,_,rfl,rfl⟩
 ·exact .inl ⟨⟨hc,h0⟩,rfl⟩
theorem xN (d:RDim k n)(sp:gR k n S L G lo hi)(far:tT k n S-aG (Nat.gcd k n) lo<2^250):Ok (oS [bK k n S L G]) fun x=>∃v:Int,(0<v->mK k n S/\Room' (Nat.gcd k n) lo hi (tT k n S))/\x= .val (.int v):=by
 have g1:=d.g1;have gk:=d.gk;have k5:=d.k5;simp! only[↓oS,↓ziI];refine(zre d S L G).mono ?_;rintro _ (⟨ok,rfl⟩|⟨no,y,hy,rfl⟩)
 ·simp! only[↓zh8];refine(Yu d sp).mono ?_;rintro _ rfl;simp! only[];refine(Na d S L G).mono ?_;rintro _ rfl;simp! only[];refine(zjA g1 (by lia) lo hi (tT k n S) far).mono ?_;rintro _ rfl;simp! only[];refine⟨_,fun p=>⟨ok,?_⟩,rfl⟩;rw[<-Da g1]at p;obtain⟨h,h1,h2⟩:=Bm _ 0 _ p;have h1:∀i,i<Nat.gcd k n->lo i<=h i/\h i<=hi i:=fun i hi'=>by have:=h1 i hi';rw[lD]at this;exact this
  have h2:aG (Nat.gcd k n) h=tT k n S:=by rw[<-h2];exact gU fun i _=>by rw[lD]
  exact⟨fun j hj=>Int.le_trans (h1 j hj).1 (h1 j hj).2,by rw[<-h2];exact tF fun j hj=>(h1 j hj).1,by rw[<-h2];exact tF fun j hj=>(h1 j hj).2⟩
 ·simp! only[hy];exact⟨0,fun p=>absurd p (by decide),rfl⟩
theorem Oz (d:RDim k n)(sp:gR k n S L G lo hi)(far:tT k n S-aG (Nat.gcd k n) lo<2^250)(wide:∀j,j<Nat.gcd k n->hi j-lo j<2^399){v number:Int}(hv:Ok (oS [bK k n S L G]) fun x=>x= .val (.int v))(h0:0<=number)(h1:number<v):
  Ok (Np [bK k n S L G,.int number]) fun x=>∃r:Nat->Int,x= .val (.tup (wI n r)):=by
 have g1:=d.g1;have gk:=d.gk;have k5:=d.k5;have n24:=d.n24;simp! only[↓Np,↓zkL];refine⟨fun _=>?_,fun c=>absurd h0 (by lia)⟩;refine hv.mono ?_;rintro _ rfl;simp! only[h1,↓zjZ];refine(Yu d sp).mono ?_;rintro _ rfl;simp! only[];refine(Na d S L G).mono ?_;rintro _ rfl;simp! only[];refine(znZ (by lia) far wide number).mono ?_;rintro _ ⟨h,rfl⟩;simp! only[];refine(Ou d S L G).mono ?_;rintro _ rfl;simp! only[];refine(zkB d.g1 (by lia) h (rM k n S)).mono ?_;rintro _ rfl;simp! only[];exact⟨_,rfl⟩
end
section
variable {k n:Nat} {S L G:Nat->Int}
def cZ (k n:Nat)(r:Nat->Int)(a:Nat):Int:=aG k fun s=>r ((a+s)%n)
theorem zo3 {dd:D}{n k:Nat}(h:Sq dd n r)(n0:0<n)(n24:n<=24)(k5:k<=5):Ok (Kc [dd,.int k]) fun x=>x= .val (.tup (wI n (cZ k n r))):=by
 simp! only[↓Kc,↓zdy,h.ln,↓zd8];refine⟨fT (by lia),by lia,eS (fun ρ=>∃z,ρ=[.val (.int k),.val dd,.val (.int n),z]) (fun a=> .int (cZ k n r a)) ⟨_,rfl⟩ ?_ ?_⟩
 ·rintro a _ ha ⟨z,rfl⟩;simp! only[↓zef,↓zeA];refine⟨fT (by lia),by lia,eS (fun ρ=>∃z,ρ=[.val dd,.val (.int a),.val (.int n),z]) (fun s=> .int (r ((a+s)%n))) ⟨_,rfl⟩ ?_ ?_⟩
  ·rintro s _ hs ⟨z,rfl⟩;have e1:((a:Int)+(s:Int))%(n:Int)=(((a+s)%n:Nat):Int):=by push_cast;rfl
   simp! only[↓zes,e1,h.ix,bI _ (gJ (a+s) n0)];exact⟨by lia,_,rfl⟩
  ·rintro _ ⟨z,rfl⟩;simp! only[iM,iO];exact⟨rfl,_,rfl⟩
 ·rintro _ ⟨z,rfl⟩;simp! only[]
def eX (k n:Nat)(S L G r:Nat->Int):Prop:=(∀a,a<n->cZ k n r a=S a)/\∀p,p<n->L p<=r p/\r p<=G p
theorem Vu (g:Nat)(h:Nat->Int):∀e,aG (e*g) (fun i=>h (i%g))=(e:Int)*aG g h
 |0=>by simp[aG]
 |e+1=>by
  rw[Nat.add_mul,Kb,tW,Vu g h e];have:aG g (fun i=>h ((e*g+i)%g))=aG g h:=gU fun i hi=>by rw[Ma,Vk,jO hi]
  rw[this];push_cast;rw[Int.add_mul,Int.one_mul]
theorem zlo (F:Nat->Int):∀k,aG k (fun s=>F (s+1))=aG k F+F k-F 0
 |0=>by simp[aG]
 |k+1=>by
  have ih:=zlo F k;simp only[aG];lia
theorem Km (f g:Nat->Int):∀k,aG k (fun s=>f s+g s)=aG k f+aG k g
 |0=>by simp[aG]
 |k+1=>by
  have ih:=Km f g k;simp only[aG];lia
theorem zmS (k n:Nat)(r:Nat->Int)(a:Nat):cZ k n r (a+1)=cZ k n r a+r ((a+k)%n)-r (a%n):=by
 have:=zlo (fun s=>r ((a+s)%n)) k;have e:cZ k n r (a+1)=aG k fun s=>r ((a+(s+1))%n):=gU fun s _=>by rw[show a+1+s=a+(s+1) by lia]
 rw[e,this]
 rfl
theorem zmX (d:RDim k n)(h:Nat->Int):cZ k n (fun p=>h (p%Nat.gcd k n)+rM k n S p) 0=(eT k n:Int)*aG (Nat.gcd k n) h+aG k (rM k n S):=by
 have kn:=d.kn;have ek:eT k n*Nat.gcd k n=k:=Nat.div_mul_cancel (Nat.gcd_dvd_left k n);have e:cZ k n (fun p=>h (p%Nat.gcd k n)+rM k n S p) 0=aG k fun s=>h (s%Nat.gcd k n)+rM k n S s:=gU fun s hs=>by
  rw[lD,jO (show s<n by lia)]
 rw[e,Km,<-Vu,ek]
theorem yY (d:RDim k n)(hc:lC k n S)(hp:p<n):(p+k)%n%Nat.gcd k n=p%Nat.gcd k n/\rM k n S ((p+k)%n)=rM k n S p+(S ((p+1)%n)-S p):=by
 have hj:=gJ p d.g1;obtain⟨w1,w2⟩:=d.walk.1 p hp;obtain⟨w3,w4⟩:=d.walk.2 _ hj;have e1:(p+k)%n=pl k n (p%Nat.gcd k n) (ixp k n p+1):=by rw[Ur,w2]
 have e2:mw k n S (p%Nat.gcd k n) (ixp k n p+1)=rM k n S p+(S ((p+1)%n)-S p):=by rw[Wa,w2];rfl
 by_cases h:ixp k n p+1<n/Nat.gcd k n
 ·rw[e1];exact⟨(w4 _ h).1,by rw[kP d S hj h,e2]⟩
 ·have h':ixp k n p+1=n/Nat.gcd k n:=by lia
  rw[e1,h',w3];refine⟨jO hj,?_⟩;rw[<-e2,h',hc _ hj];have:=kP d S hj (show 0<n/Nat.gcd k n by lia);rw[Ky d hj]at this;rw[this];rfl
theorem zpn (d:RDim k n)(ok:mK k n S)(sp:gR k n S L G lo hi)(inn:∀j,j<Nat.gcd k n->lo j<=h j/\h j<=hi j)(hs:aG (Nat.gcd k n) h=tT k n S):eX k n S L G fun p=>h (p%Nat.gcd k n)+rM k n S p:=by
 have e1:=d.e1;have n0:0<n:=by have:=d.k2;have:=d.kn;lia
 refine⟨fun a=>?_,fun p hp=>?_⟩
 ·induction a with
  |zero=>
   intro _;rw[zmX (S:=S) d h,hs];have e2:(eT k n:Int)*tT k n S=rT k n S:=by
    unfold tT;exact Int.mul_ediv_cancel' (Int.dvd_of_emod_eq_zero ok.2)
   rw[e2];unfold rT;lia
  |succ a ih=>
   intro ha;have ih:=ih (by lia);obtain⟨q1,q2⟩:=yY d ok.1 (show a<n by lia);rw[zmS,ih,jO (show a<n by lia)];rw[q1,q2,jO ha];lia
 ·have hj:=gJ p d.g1;have b:=inn _ hj;have b1:=sp.lg p hp;have b2:=sp.hg p hp;unfold rA at b1 b2;show L p<=h (p%Nat.gcd k n)+rM k n S p/\h (p%Nat.gcd k n)+rM k n S p<=G p;lia
end
theorem zmD {d1 d2 d3:D}(h1:Sq d1 m r)(h2:Sq d2 n L)(h3:Sq d3 n G)(hn:n<=1000):
  Ok (Qn [d1,d2,d3]) fun x=>∃b,x= .val (.bl b)/\(b=true↔m=n/\∀p,p<n->L p<=r p/\r p<=G p):=by
 simp! only[↓Qn,↓Yd,h1.ln,h2.ln];refine⟨fun h=>⟨false,rfl,by simp;lia⟩,fun h=>?_⟩;have e:m=n:=by lia
 subst e;simp! only[↓zhj,↓zgK,h1.it,h2.it,h3.it];refine⟨by lia,eS (fun ρ=>∃a b c,ρ=[a,b,c]) (fun p=> .bl (decide (L p<=r p)&&decide (r p<=G p))) ⟨_,_,_,rfl⟩ ?_ ?_⟩
 ·rintro p _ hp ⟨a,b,c,rfl⟩;simp! only[↓zhC];refine⟨fun h=>⟨by simp[h],_,_,_,rfl⟩,fun h=>⟨?_,_,_,_,rfl⟩⟩;rw[iQ (by lia)];rfl
 ·rintro _ ⟨a,b,c,rfl⟩;simp! only[Im];refine⟨_,rfl,?_⟩;rw[Lj];simp
def Nu (k n:Nat)(r:Nat->Int)(i:Nat):Int:=aG k fun j=>(fun q=>if q<n then r q else r (q-n)) (i+j)
theorem uN (n:Nat)(r:Nat->Int):wI n r++wI n r=wI (n+n) fun q=>if q<n then r q else r (q-n):=by
 apply lM;intro j
 by_cases hj:j<n
 ·rw[jS (by rw[dQ];exact hj),bI _ hj,bI _ (by lia)]
  (try dsimp only);rw[if_pos hj]
 ·rw[qT (by rw[dQ];lia),dQ]
  by_cases hb:j<n+n
  ·rw[bI _ (by lia),bI _ hb]
   (try dsimp only);rw[if_neg hj]
  ·rw[eE (by rw[dQ];lia),eE (by rw[dQ];lia)]
theorem znJ {d:D}{n k:Nat}(h:Sq d n r)(kn:k<=n)(hn:n<=1000):Ok (Qq [d,.int k]) fun x=>x= .val (.tup (wI n (Nu k n r))):=by
 simp! only[↓Qq,↓ziM,h.tp,uN,h.ln,↓zhS];refine⟨by lia,kL (by lia) (by lia),by lia,eS (fun ρ=>∃z,ρ=[.val (.tup (wI (n+n) fun q=>if q<n then r q else r (q-n))),.val (.int k),z]) (fun i=> .int (Nu k n r i)) ⟨_,rfl⟩ ?_ ?_⟩
 ·rintro i _ hi ⟨z,rfl⟩;have hc:=Oy (n:=n+n) (a:=i) (b:=k) (fun j=> .int ((fun q=>if q<n then r q else r (q-n)) j)) (by lia);simp! only[↓zh9,hc,iM,iO];exact⟨rfl,_,rfl⟩
 ·rintro _ ⟨z,rfl⟩;simp! only[]
theorem zlP {k n m:Nat}(kn:k<=n)(n24:n<=24){S L G r:Nat->Int}(h:Sq dr m r):
  Ok (Hy [bK k n S L G,dr]) fun x=>∃b,x= .val (.bl b)/\(b=true↔m=n/\(∀p,p<n->L p<=r p/\r p<=G p)/\∀i,i<n->Nu k n r i=S i):=by
 simp! only[↓Hy,↓zgV];refine(zmD h (Sq.tup n L) (Sq.tup n G) (by lia)).mono ?_;rintro _ ⟨b,rfl,hb⟩;simp! only[];refine⟨fun hbt=>?_,fun hbf=>⟨false,rfl,?_⟩⟩
 ·obtain⟨e,hin⟩:=hb.mp hbt;subst e;refine(znJ h kn (by lia)).mono ?_;rintro _ rfl;simp! only[Iz];refine⟨_,rfl,?_⟩;rw[eqW_iff];exact⟨fun h=>⟨hin,h⟩,fun h=>h.2⟩
 ·constructor
  ·intro h;cases h
  ·rintro⟨e,f,-⟩;rw[hb.mpr ⟨e,f⟩]at hbf;exact absurd hbf (by decide)
theorem zrN {k n i:Nat}(hk:k<=n)(hi:i<n):(aG k fun j=>r ((i+j)%n))=Nu k n r i:=by
 unfold Nu;refine gU fun j hj=>?_
 (try dsimp only)
 by_cases h:i+j<n
 ·rw[if_pos h,jO h]
 ·rw[if_neg h,Nat.mod_eq_sub_mod (by lia),jO (by lia)]
section
variable {k n:Nat} {S L G:Nat->Int}
theorem oH (k n:Nat)(r:Nat->Int)(a:Nat):cZ k n r (a%n)=cZ k n r a:=by
 unfold cZ;refine gU fun s _=>?_
 rw[Nat.mod_add_mod]
theorem qA (d:RDim k n)(f:∀a,a<n->cZ k n r a=S a)(hp:p<n):r ((p+k)%n)=r p+(S ((p+1)%n)-S p):=by
 have n0:0<n:=by lia
 have h:=zmS k n r p;rw[jO hp,f p hp,<-oH,f _ (gJ _ n0)]at h;lia
theorem Yg (d:RDim k n)(f:∀a,a<n->cZ k n r a=S a)(hj:j<Nat.gcd k n):∀i,r (pl k n j i)=r j+mw k n S j i
 |0=>by rw[Ky d hj];show _=r j+0;lia
 |i+1=>by
  rw[Ur,qA d f (On d j i),Yg d f hj i,Wa];lia
theorem zlT (d:RDim k n)(sp:gR k n S L G lo hi)(f:eX k n S L G r):mK k n S/\(∀p,p<n->r p=r (p%Nat.gcd k n)+rM k n S p)/\(∀j,j<Nat.gcd k n->lo j<=r j/\r j<=hi j)/\aG (Nat.gcd k n) r=tT k n S:=by
 have e1:=d.e1;have kn:=d.kn;have n0:0<n:=by have:=d.k2;lia
 have eq:∀p,p<n->r p=r (p%Nat.gcd k n)+rM k n S p:=fun p hp=>by
  have h:=Yg d f.1 (gJ p d.g1) (ixp k n p);rw[(d.walk.1 p hp).2]at h;exact h
 have clo:lC k n S:=fun j hj=>by
  have h:=Yg d f.1 hj (n/Nat.gcd k n);rw[(d.walk.2 j hj).1]at h;lia
 have e0:cZ k n (fun p=>r (p%Nat.gcd k n)+rM k n S p) 0=S 0:=by
  rw[<-f.1 0 n0];unfold cZ;refine gU fun s _=>?_
  (try dsimp only)
  exact(eq _ (gJ _ n0)).symm
 rw[zmX (S:=S) d r]at e0;have er:rT k n S=(eT k n:Int)*aG (Nat.gcd k n) r:=by unfold rT;lia
 refine⟨⟨clo,by rw[er,Int.mul_emod_right]⟩,eq,fun j hj=>?_,?_⟩
 ·obtain⟨p,hp,p1,p2⟩:=sp.lm j hj;obtain⟨q,hq,q1,q2⟩:=sp.hm j hj;have a1:=f.2 p hp;have a2:=f.2 q hq;have b1:=eq p hp;have b2:=eq q hq;rw[p1]at b1;rw[q1]at b2;unfold rA at p2 q2;lia
 ·unfold tT;rw[er,Int.mul_ediv_cancel_left _ (by lia)]
end
section
variable {k n:Nat} {S L G:Nat->Int}
theorem Ov (d:RDim k n):Ok (vB [.int n,.int k]) fun x=>x= .val (.int (Nat.gcd k n:Nat)):=by
 have k5:=d.k5;simp! only[↓vB,↓zeY,↓zfl];refine We (fun m ρ=>∃a b:Nat,b<=m/\b<=1000/\Nat.gcd b a=Nat.gcd k n/\ρ=[.val (.int a),.val (.int b)]) ?_ 400 k _ (by lia) ⟨n,k,bU _,by lia,rfl,rfl⟩;rintro m _ ⟨a,b,hb,hb2,hg,rfl⟩;simp! only[↓zfv];refine⟨fun c=>?_,fun c=>?_⟩
 ·have c:(0:Int)<(b:Int):=by simpa using c
  have em:(a:Int)%(b:Int)=((a%b:Nat):Int):=by push_cast;rfl
  have hlt:=gJ a (show 0<b by lia);refine⟨m-1,by lia,?_⟩;simp! only[↓zfo,em];refine⟨by lia,b,a%b,by lia,by lia,?_,rfl⟩;rw[<-hg,Nat.gcd_rec b a]
 ·have c:b=0:=by
   have:¬((0:Int)<(b:Int)):=by simpa using c
   lia
  subst c;rw[Nat.gcd_zero_left]at hg;simp! only[hg]
theorem zp9 (f:Nat->Int)(p:Nat):∀met:List Nat,lR (met.map fun q:Nat=>(q:Int)) (met.map fun q:Nat=>D.int (f q)) (p:Int)=if p∈met then some (.int (f p))else none
 |[]=>rfl
 |q::met=>by
  rw[jW,jW,lR,zp9 f p met]
  by_cases e:q=p
  ·subst e;simp
  ·have e1:¬((q:Int)=(p:Int)):=by lia
   have e2:p≠q:=fun z=>e z.symm
   simp[e1,e2]
theorem Hi (f:Nat->Int){p:Nat}(h:p∉met):sT (met.map fun q:Nat=>(q:Int)) (met.map fun q:Nat=>D.int (f q)) (p:Int) (.int (f p))=((met++[p]).map fun q:Nat=>(q:Int),(met++[p]).map fun q:Nat=>D.int (f q)):=by
 unfold sT;have:(met.map fun q:Nat=>(q:Int)).contains (p:Int)=false:=by
  rw[Bool.eq_false_iff];intro c;rw[List.contains_iff_mem,qbV]at c;obtain⟨q,hq,e⟩:=c;have:q=p:=by lia
  subst this;exact h hq
 rw[this];simp
structure Met (k n J i:Nat) (met:List Nat):Prop where
 len:met.length<=24*J+i
 mem:∀p,p∈met↔p<n/\(p%Nat.gcd k n<J\/(p%Nat.gcd k n=J/\ixp k n p<i))
abbrev Rv (k n:Nat)(S:Nat->Int)(met:List Nat):Sl:= .tre (.dic (met.map fun q:Nat=>(q:Int)) (met.map fun q:Nat=>D.int (rM k n S q)))
theorem Pn (d:RDim k n)(S L G:Nat->Int):Ok (zP [bK k n S L G]) fun x=>x= .val (.tup [.lst (wI n (rM k n S)),.lst (wI (Nat.gcd k n) fun j=>mw k n S j (n/Nat.gcd k n))]):=by
 have n0:0<n:=by have:=d.k2;have:=d.kn;lia
 have n24:=d.n24;have hn:=d.hn;have g1:=d.g1;have gk:=d.gk;have gn:=d.gn;have k5:=d.k5;have h1:1<=n/Nat.gcd k n:=(Jy d.g1).mpr (by rw[Kb];exact d.gn);simp! only[↓zP,↓zc3];refine(Ov d).mono ?_;rintro _ rfl;simp! only[↓zdH];refine⟨fT (by lia),gP (fun J ρ=>∃(met:List Nat) (s9 s10 s11:Sl),Met k n J 0 met/\ρ=[.val (bK k n S L G),.val (.int k),.val (.tup (wI n S)),.val (.tup (wI n L)),.val (.tup (wI n G)),.val (.int n),.val (.int (Nat.gcd k n:Nat)),Rv k n S met,.own (wI J fun j=>mw k n S j (n/Nat.gcd k n)),s9,s10,s11]) ⟨[],_,_,_,⟨by simp,fun p=>by simp⟩,rfl⟩ ?_ ?_⟩
 ·rintro J _ hJ ⟨met,s9,s10,s11,hm,rfl⟩;simp! only[↓zdU,↓zdC];refine We (fun m ρ=>∃(i:Nat) (met:List Nat),i<=n/Nat.gcd k n/\m=n/Nat.gcd k n-i/\Met k n J i met/\ρ=[.val (bK k n S L G),.val (.int k),.val (.tup (wI n S)),.val (.tup (wI n L)),.val (.tup (wI n G)),.val (.int n),.val (.int (Nat.gcd k n:Nat)),Rv k n S met,.own (wI J fun j=>mw k n S j (n/Nat.gcd k n)),.val (.int J),.val (.int ((pl k n J i:Nat):Int)),.val (.int (mw k n S J i))]) ?_ 400 (n/Nat.gcd k n) _ (by lia) ⟨0,met,by lia,by lia,hm,by rw[Ky d hJ];rfl⟩;rintro m _ ⟨i,met,hi,rfl,hm,rfl⟩;have pn:=On d J i;simp! only[↓zdB,zp9]
  by_cases e:i=n/Nat.gcd k n
  ·have inm:pl k n J i∈met:=by
    rw[hm.mem,e,(d.walk.2 J hJ).1];refine⟨by lia,.inr ⟨jO hJ,?_⟩⟩;have:=((d.walk.2 J hJ).2 0 (by lia)).2;rw[Ky d hJ]at this;lia
   rw[if_pos inm];refine⟨fun c=>(by simp at c),fun _=>?_⟩;rw[e];have ew:(wI J fun j=>mw k n S j (n/Nat.gcd k n))++[D.int (mw k n S J (n/Nat.gcd k n))]=wI (J+1) fun j=>mw k n S j (n/Nat.gcd k n):=(tL _ _).symm
   rw[ew];refine⟨by lia,met,_,_,_,⟨by have:=hm.len;lia,fun p=>?_⟩,rfl⟩
   ·rw[hm.mem]
    constructor
    ·rintro⟨a,b|b⟩
     ·exact⟨a,.inl (by lia)⟩
     ·exact⟨a,.inl (by lia)⟩
    ·rintro⟨a,b|b⟩
     ·refine⟨a,?_⟩
      by_cases e':p%Nat.gcd k n<J
      ·exact .inl e'
      ·exact .inr ⟨by lia,by rw[e];exact(d.walk.1 p a).1⟩
     ·lia
  ·have hi':i<n/Nat.gcd k n:=by lia
   obtain⟨w1,w2⟩:=(d.walk.2 J hJ).2 i hi';have out:pl k n J i∉met:=by
    rw[hm.mem];rintro⟨a,b|b⟩<;>lia
   rw[if_neg out];refine⟨fun _=>⟨n/Nat.gcd k n-i-1,by lia,?_⟩,fun c=>(by simp at c)⟩;have e1:((pl k n J i:Nat):Int)+1=((pl k n J i+1:Nat):Int):=by push_cast;rfl
   have e2:((pl k n J i+1:Nat):Int)%(n:Int)=(((pl k n J i+1)%n:Nat):Int):=by push_cast;rfl
   have e3:(((pl k n J i:Nat):Int)+(k:Int))%(n:Int)=((pl k n J (i+1):Nat):Int):=by rw[Ur];push_cast;rfl
   have em:mw k n S J i=rM k n S (pl k n J i):=(kP d S hJ hi').symm;have len:=hm.len;simp! only[↓zdV,e1,e2,e3,bI _ pn,bI _ (gJ (pl k n J i+1) n0)];have ep:=Hi (rM k n S) out;rw[<-em]at ep;rw[ep];refine⟨by lia,by lia,by lia,i+1,met++[pl k n J i],by lia,by lia,⟨by rw[iC];simp;lia,fun p=>?_⟩,?_⟩
   ·rw[qan,hm.mem,qcg]
    constructor
    ·rintro(⟨a,b|b⟩|rfl)
     ·exact⟨a,.inl b⟩
     ·exact⟨a,.inr ⟨b.1,by lia⟩⟩
     ·exact⟨pn,.inr ⟨w1,by lia⟩⟩
    ·rintro⟨a,b|b⟩
     ·exact .inl ⟨a,.inl b⟩
     ·by_cases c:ixp k n p<i
      ·exact .inl ⟨a,.inr ⟨b.1,c⟩⟩
      ·refine .inr ?_;have:=(d.walk.1 p a).2;rw[b.1,show ixp k n p=i by lia]at this;exact this.symm
   ·rw[Wa,Int.add_sub_assoc]
 ·rintro _ ⟨met,s9,s10,s11,hm,rfl⟩;simp! only[↓zdD];refine⟨fT (by lia),by lia,eS (fun ρ=>∃y,ρ=[.val (.dic (met.map fun q:Nat=>(q:Int)) (met.map fun q:Nat=>D.int (rM k n S q))),y]) (fun p=> .int (rM k n S p)) ⟨_,rfl⟩ ?_ ?_⟩
  ·rintro p _ hp ⟨y,rfl⟩;have inm:p∈met:=(hm.mem p).mpr ⟨hp,.inl (gJ _ (by lia))⟩;simp! only[↓zdL,zp9,inm];exact⟨_,rfl⟩
  ·rintro _ ⟨y,rfl⟩;simp! only[]
end
theorem zn1 (lo st:Int)(n:Nat):Cs lo st n=wL n fun i=> .int (lo+(i:Int)*st):=rfl
section
variable {k n:Nat} {S L G:Nat->Int}
theorem zqo (d:RDim k n)(sp:gR k n S L G lo hi):Ok (Oe [bK k n S L G,.lst (wI n (rM k n S))]) fun x=>x= .own (cT (Nat.gcd k n) lo hi):=by
 have n24:=d.n24;have g1:=d.g1;have gk:=d.gk;have gn:=d.gn;have k5:=d.k5;obtain⟨lo',hi',sp',e⟩:=zn8 (rA k n S L) (rA k n S G) d.g1 d.gn;have el:cT (Nat.gcd k n) lo' hi'=cT (Nat.gcd k n) lo hi:=tM fun j hj=>by rw[(Up sp' sp hj).1,(Up sp' sp hj).2]
 rw[<-el];simp! only[↓Oe,↓zc1];refine(Ov d).mono ?_;rintro _ rfl;simp! only[↓zdQ]
 generalize hg:Nat.gcd k n=g at*
 refine⟨fT (by lia),gP (fun i ρ=>∃s4 s5 s6,ρ=[.val (bK k n S L G),.val (.lst (wI n (rM k n S))),.val (.int g),.own (cT i lo' hi'),s4,s5,s6]) ⟨_,_,_,rfl⟩ ?_ ?_⟩
 ·rintro j _ hj ⟨s4,s5,s6,rfl⟩;obtain⟨e1,e2⟩:=e j hj;rw[wI,Sz _ (show 0<g by lia) (show j<n by lia)]at e1;rw[wI,Sz _ (show 0<g by lia) (show j<n by lia)]at e2;have hc:cntS (j:Int) (n:Int) (g:Int)<=24:=by
   by_cases c:cntS (j:Int) (n:Int) (g:Int)<=24
   ·exact c
   ·have h1:=(kF (j:=j) (n:=n) (show 0<g by lia)).mp (show 24<cntS (j:Int) (n:Int) (g:Int) by lia);have:24*1<=24*g:=qcM 24 (by lia);lia
  unfold gL at e1;unfold jZ at e2;simp! only[↓zdK,↓zdY,zn1];refine⟨⟨⟨⟨fT (by lia),fT (by lia)⟩,by lia⟩,by lia⟩,by lia,eS (fun ρ=>∃z,ρ=[.val (bK k n S L G),.val (.lst (wI n (rM k n S))),z]) (fun i=> .int (rA k n S L (j+i*g))) ⟨_,rfl⟩ ?_ ?_⟩
  ·rintro i _ hi ⟨z,rfl⟩;have hlt:=(kF (show 0<g by lia)).mp hi;have e3:(j:Int)+(i:Int)*(g:Int)=((j+i*g:Nat):Int):=by push_cast;rfl
   simp! only[↓zd1,e3,bI _ hlt];exact⟨rfl,_,rfl⟩
  rintro _ ⟨z,rfl⟩;simp! only[↓zdM,zn1];refine⟨⟨⟨⟨fT (by lia),fT (by lia)⟩,by lia⟩,by lia⟩,by lia,eS (fun ρ=>∃z,ρ=[.val (bK k n S L G),.val (.lst (wI n (rM k n S))),z]) (fun i=> .int (rA k n S G (j+i*g))) ⟨_,rfl⟩ ?_ ?_⟩
  ·rintro i _ hi ⟨z,rfl⟩;have hlt:=(kF (show 0<g by lia)).mp hi;have e3:(j:Int)+(i:Int)*(g:Int)=((j+i*g:Nat):Int):=by push_cast;rfl
   simp! only[↓zd0,e3,bI _ hlt];exact⟨rfl,_,rfl⟩
  rintro _ ⟨z,rfl⟩;simp! only[e1,e2,cT];exact⟨by lia,_,_,_,by rw[tL]⟩
 ·rintro _ ⟨s4,s5,s6,rfl⟩;simp! only[]
theorem Ai (d:RDim k n)(S L G r:Nat->Int):Ok (Qp [bK k n S L G,.tup (wI n r)]) fun x=>∃b,x= .val (.bl b)/\(b=true↔eX k n S L G r):=by
 have n24:=d.n24;have k5:=d.k5;have n0:0<n:=by have:=d.k2;have:=d.kn;lia
 simp! only[↓Qp,↓zdr];refine(zo3 (Sq.tup n r) n0 n24 k5).mono ?_;rintro _ rfl;simp! only[Fx];refine⟨fun h=>⟨false,rfl,⟨fun z=>(by cases z),fun z=>?_⟩⟩,fun h=>?_⟩
 ·have:Lh n (cZ k n r) S=true:=eqW_iff.mpr z.1;rw[this]at h;cases h
 have hs:∀a,a<n->cZ k n r a=S a:=eqW_iff.mp (by revert h;cases Lh n (cZ k n r) S<;>simp)
 simp! only[↓zeE,↓zew];refine⟨fT (by lia),by lia,eS (fun ρ=>∃z,ρ=[.val (.tup (wI n L)),.val (.tup (wI n r)),.val (.tup (wI n G)),z]) (fun p=> .bl (decide (L p<=r p)&&decide (r p<=G p))) ⟨_,rfl⟩ ?_ ?_⟩
 ·rintro p _ hp ⟨z,rfl⟩;simp! only[↓zey,bI _ hp];refine⟨fun h=>⟨by simp[h],_,rfl⟩,fun h=>⟨?_,_,rfl⟩⟩;rw[iQ (by lia)];rfl
 ·rintro _ ⟨z,rfl⟩;simp! only[Im];refine⟨_,rfl,?_⟩;rw[Lj]
  constructor
  ·intro q;exact⟨hs,fun p hp=>by simpa using q p hp⟩
  ·intro q p hp;simpa using q.2 p hp
end
theorem Pr (n i:Nat)(f:Nat->D):(wL n f).drop i=wL (n-i) fun j=>f (i+j):=by
 apply lM;intro j;rw[qcz]
 by_cases hj:i+j<n
 ·rw[bI _ hj,bI _ (by lia)]
 ·rw[eE (by rw[dQ];lia),eE (by rw[dQ];lia)]
section
variable {k n:Nat} {S L G:Nat->Int}
def zK (k n:Nat)(S lo hi:Nat->Int):Prop:=lC k n S/\rT k n S%(eT k n:Int)=0/\Room' (Nat.gcd k n) lo hi (tT k n S)
def Ei (k n:Nat)(S lo hi:Nat->Int)(x:Sl):Prop:=(zK k n S lo hi/\x= .val (.tup (wI n (rR k n S lo hi))))\/(¬zK k n S lo hi/\x= .val .non)
theorem zry (d:RDim k n)(ok:mK k n S)(sp:gR k n S L G lo hi)(rm:Room' (Nat.gcd k n) lo hi (tT k n S)):eX k n S L G (rR k n S lo hi):=zpn d ok sp (fun j hj=>rL rm hj) (sR rm)
theorem zof (d:RDim k n)(sp:gR k n S L G lo hi)(f:eX k n S L G r):zK k n S lo hi:=by
 obtain⟨ok,-,b1,b2⟩:=zlT d sp f;exact⟨ok.1,ok.2,fun j hj=>Int.le_trans (b1 j hj).1 (b1 j hj).2,by rw[<-b2];exact tF fun j hj=>(b1 j hj).1,by rw[<-b2];exact tF fun j hj=>(b1 j hj).2⟩
theorem zqK (d:RDim k n){v w:Int}(hv:∀j,j<Nat.gcd k n->mw k n S j (n/Nat.gcd k n)<=v)(hw:∀j,j<Nat.gcd k n->w<=mw k n S j (n/Nat.gcd k n))(h1:v<=0)(h2:0<=w):lC k n S:=fun j hj=>by
 have:=hv j hj;have:=hw j hj;lia
theorem qI (d:RDim k n)(sp:gR k n S L G lo hi):Ok (Qx [bK k n S L G]) (Ei k n S lo hi):=by
 have n24:=d.n24;have g1:=d.g1;have gk:=d.gk;have gn:=d.gn;have k5:=d.k5;have e1:=d.e1;have e5:=d.e5;have n0:0<n:=by lia
 have ed:(k:Int)/((Nat.gcd k n:Nat):Int)=((eT k n:Nat):Int):=by push_cast;rfl
 have er:S 0-aG k (rM k n S)=rT k n S:=rfl;have et:rT k n S/((eT k n:Nat):Int)=tT k n S:=rfl;obtain⟨v,v1,⟨iv,hiv,ev⟩,v3⟩:=Mh (fun j=>mw k n S j (n/Nat.gcd k n)) g1;obtain⟨w,w1,⟨iw,hiw,ew⟩,w3⟩:=kR (fun j=>mw k n S j (n/Nat.gcd k n)) g1;unfold gL at v1;unfold jZ at w1;simp! only[↓Qx,↓zc0];refine(Pn d S L G).mono ?_;rintro _ rfl;simp! only[ed,bI _ n0,Ke d,iM,iO,er];refine⟨jC (by lia) (by lia),?_⟩;refine(zqo d sp).mono ?_;rintro _ rfl;simp! only[v1,w1,↓zdR,cT];refine⟨fun c=> .inr ⟨fun gd=>?_,rfl⟩,fun c1=>⟨fun c=> .inr ⟨fun gd=>?_,rfl⟩,fun c2=>⟨by lia,fun c=> .inr ⟨fun gd=>?_,rfl⟩,fun c3=>⟨by lia,?_⟩⟩⟩⟩
 ·have:=gd.1 iv hiv;lia
 ·have:=gd.1 iw hiw;lia
 ·have:=gd.2.1;lia
 refine eS (fun ρ=>∃y,ρ=[y]) (fun j=> .bl (decide (lo j<=hi j))) ⟨_,rfl⟩ ?_ ?_
 ·rintro j _ hj ⟨y,rfl⟩;simp! only[↓zdJ];exact⟨_,rfl⟩
 rintro _ ⟨y,rfl⟩;simp! only[Im];refine⟨fun c=> .inr ⟨fun gd=>?_,rfl⟩,fun c4=>?_⟩
 ·have:((List.range (Nat.gcd k n)).map fun i=>decide (lo i<=hi i)).all id=true:=(Lj _ _).mpr fun j hj=>eG (gd.2.2.le j hj)
  rw[this]at c;cases c
 have hall:∀j,j<Nat.gcd k n->lo j<=hi j:=by
  have:((List.range (Nat.gcd k n)).map fun i=>decide (lo i<=hi i)).all id=true:=by
   revert c4;cases((List.range (Nat.gcd k n)).map fun i=>decide (lo i<=hi i)).all id<;>simp
  intro j hj;have:=(Lj _ _).mp this j hj;simpa using this
 have clo:lC k n S:=zqK d v3 w3 (by lia) (by lia);have e0:rT k n S%(eT k n:Int)=0:=by
  have:=Le (rT k n S) (show((eT k n:Nat):Int)≠0 by lia);lia
 simp! only[↓zdE,↓zdZ,et];refine⟨jC (by lia) (by lia),fT (by lia),gP (fun i ρ=>∃s8,ρ=[.val (bK k n S L G),.val (.lst (wI n (rM k n S))),.val (.lst (wI (Nat.gcd k n) fun j=>mw k n S j (n/Nat.gcd k n))),.val (.int (eT k n)),.val (.int (rT k n S)),.val (.lst (cT (Nat.gcd k n) lo hi)),.val (.int (left lo hi (Nat.gcd k n) (tT k n S) i)),.own (wI i (hd lo hi (Nat.gcd k n) (tT k n S))),s8,.emp]) ⟨_,rfl⟩ ?_ ?_⟩
 ·rintro i _ hi' ⟨s8,rfl⟩;have cw:bS (cT (Nat.gcd k n) lo hi) (some ((i:Int)+1)) none=wL (Nat.gcd k n-(i+1)) fun j=> .tup [.int (lo (i+1+j)),.int (hi (i+1+j))]:=(zmw _ (i+1)).trans (Pr _ _ _)
  have es:aG (Nat.gcd k n-(i+1)) (fun j=>hi (i+1+j))=aG (Nat.gcd k n) hi-aG (i+1) hi:=by
   have:=tW hi (i+1) (Nat.gcd k n-(i+1));rw[show i+1+(Nat.gcd k n-(i+1))=Nat.gcd k n by lia]at this;lia
  have gs:(cT (Nat.gcd k n) lo hi)[i]? =some (.tup [.int (lo i),.int (hi i)]):=by unfold cT;rw[bI _ hi']
  simp! only[↓zdP,↓zdT,cw,gs];refine⟨by lia,eS (fun ρ=>∃y,ρ=[y]) (fun j=> .int (hi (i+1+j))) ⟨_,rfl⟩ ?_ ?_⟩
  ·rintro j _ hj ⟨y,rfl⟩;simp! only[↓zdS];exact⟨_,rfl⟩
  rintro _ ⟨y,rfl⟩;have ew':wI i (hd lo hi (Nat.gcd k n) (tT k n S))++[.int (hd lo hi (Nat.gcd k n) (tT k n S) i)]=wI (i+1) (hd lo hi (Nat.gcd k n) (tT k n S)):=(tL _ _).symm;have eh:eA (lo i) (left lo hi (Nat.gcd k n) (tT k n S) i-(aG (Nat.gcd k n) hi-aG (i+1) hi))=hd lo hi (Nat.gcd k n) (tT k n S) i:=rfl;simp! only[iM,iO,es,eh,ew',bI _ (show i<i+1 by lia)];exact⟨by lia,_,rfl⟩
 ·rintro _ ⟨s8,rfl⟩;simp! only[↓zdX];refine⟨fT (by lia),by lia,eS (fun ρ=>∃z,ρ=[.par (wI (Nat.gcd k n) (hd lo hi (Nat.gcd k n) (tT k n S))),.val (.lst (wI n (rM k n S))),z]) (fun p=> .int (rR k n S lo hi p)) ⟨_,rfl⟩ ?_ ?_⟩
  ·rintro p _ hp ⟨z,rfl⟩;have em:(p:Int)%((Nat.gcd k n:Nat):Int)=((p%Nat.gcd k n:Nat):Int):=by push_cast;rfl
   simp! only[↓zdN,em,bI _ (gJ p g1),bI _ hp];exact⟨by lia,rfl,_,rfl⟩
  rintro _ ⟨z,rfl⟩;simp! only[];refine(Ai d S L G (rR k n S lo hi)).mono ?_;rintro _ ⟨b,rfl,hb⟩;simp! only[];refine⟨fun ht=> .inl ⟨⟨clo,e0,(zof d sp (hb.mp ht)).2.2⟩,rfl⟩,fun hf=> .inr ⟨fun gd=>?_,rfl⟩⟩;have:=hb.mpr (zry d ⟨clo,e0⟩ sp gd.2.2);rw[this]at hf;cases hf
end
def eN (many g t:Nat)(r:Nat->Int)(p:Nat):Int:=r p+if p%many=t then 1 else if p%many=g then-1 else 0
theorem znE {n many g t:Nat}(h:Sq dr n r)(hn:n<=1000)(hm:many<=1000)(hg:g<t)(ht:t<many):
  Ok (Qk [dr,.int many,.int g,.int t]) fun x=>x= .val (.tup (wI n (eN many g t r))):=by
 simp! only[↓Qk,↓zeC,Ca,show g<many by lia,ht];rw[show(wL many fun _=>D.int 0)=wI many fun _=>0 from rfl,lX _ _ (show g<many by lia),lX _ _ ht];refine⟨⟨kL (by lia) (by lia),by lia⟩,?_⟩;simp! only[↓zeN,h.it,zou];refine⟨ht,by lia,Kr (fun i acc ρ=>acc=wI i (eN many g t r)/\∃s s',ρ=[.par (wI many fun j=>if j=t then(1:Int)else if j=g then-1 else 0),.val (.int many),s,s']) ⟨rfl,_,_,rfl⟩ ?_ ?_⟩
 ·rintro p _ _ hp ⟨rfl,s,s',rfl⟩;have e:(p:Int)%(many:Int)=((p%many:Nat):Int):=by push_cast;rfl
  simp! only[↓zeK,e,bI _ (gJ p (show 0<many by lia))];exact⟨by lia,by rw[show wI (p+1) (eN many g t r)=_ from tL _ _];rfl,_,_,rfl⟩
 ·rintro _ _ ⟨rfl,s,s',rfl⟩;simp! only[]
theorem zqc {n many:Nat}(h:Sq dr n r)(hn:n<=1000)(hm:many<=24):
  Ok (Pz [dr,.int many]) fun x=>∃(c:Nat) (g t:Nat->Nat),c<=1000/\(∀i,i<c->g i<t i/\t i<many)/\(∀a b,a<b->b<many->∃i,i<c/\g i=a/\t i=b)/\x= .own (wL c fun i=> .tup (wI n (eN many (g i) (t i) r))):=by
 simp! only[↓Pz,↓zfH,↓zf2];refine⟨kL (by lia) (by lia),gP (fun i ρ=>∃(c:Nat) (g t:Nat->Nat) (s3 s4:Sl),c<=24*i/\(∀i,i<c->g i<t i/\t i<many)/\(∀a b,a<i->a<b->b<many->∃q,q<c/\g q=a/\t q=b)/\ρ=[.val dr,.val (.int many),.own (wL c fun i=> .tup (wI n (eN many (g i) (t i) r))),s3,s4]) ⟨0,fun _=>0,fun _=>0,_,_,by lia,fun _ h=>by lia,fun _ _ h=>by lia,rfl⟩ ?_ ?_⟩
 ·rintro i _ hi ⟨c,g,t,s3,s4,hc,hgt,ha,rfl⟩;simp! only[↓zgm,↓zgd,Wv];rw[show((many:Int)-((i:Int)+1)).toNat=many-(i+1) by lia];refine⟨⟨kL (by lia) (by lia),kL (by lia) (by lia)⟩,gP (fun j ρ=>∃(c':Nat) (g t:Nat->Nat) (s4:Sl),c'=c+j/\(∀i,i<c'->g i<t i/\t i<many)/\(∀a b,(a<i\/(a=i/\b<=i+j))->a<b->b<many->∃q,q<c'/\g q=a/\t q=b)/\ρ=[.val dr,.val (.int many),.own (wL c' fun i=> .tup (wI n (eN many (g i) (t i) r))),.val (.int i),s4]) ⟨c,g,t,_,by lia,hgt,fun a b h1 h2 h3=>ha a b (by lia) h2 h3,rfl⟩ ?_ ?_⟩
  ·rintro j _ hj ⟨c',g,t,s4,rfl,hgt,ha,rfl⟩;have ej:(i:Int)+1+(j:Int)=((i+1+j:Nat):Int):=by lia
   simp! only[↓zfY,ej];refine(znE h hn (by lia) (show i<i+1+j by lia) (by lia)).mono ?_;rintro _ rfl;simp! only[zor];refine⟨by lia,c+j+1,fun x=>if x<c+j then g x else i,fun x=>if x<c+j then t x else i+1+j,.val (.int ((i+1+j:Nat):Int)),rfl,fun x hx=>?_,fun a b h1 h2 h3=>?_,?_⟩
   ·by_cases e:x<c+j
    ·simp only[e,if_true];exact hgt x e
    ·simp only[e,iK];lia
   ·by_cases e:a<i\/(a=i/\b<=i+j)
    ·obtain⟨q,hq,e1,e2⟩:=ha a b e h2 h3;exact⟨q,by lia,by simp only[hq,if_true];exact e1,by simp only[hq,if_true];exact e2⟩
    ·exact⟨c+j,by lia,by simp only[lV,iK];lia,by simp only[lV,iK];lia⟩
   ·congr 3;exact congrArg _ (tM fun x _=>by dsimp only;split<;>rfl)
  ·rintro _ ⟨c',g,t,s4,rfl,hgt,ha,rfl⟩;simp! only[];exact⟨_,g,t,_,_,by lia,hgt,fun a b h1 h2 h3=>ha a b (by lia) h2 h3,rfl⟩
 ·rintro _ ⟨c,g,t,s3,s4,hc,hgt,ha,rfl⟩;simp! only[];exact⟨c,g,t,by lia,hgt,fun a b h1 h2=>ha a b (by lia) h1 h2,rfl⟩
section
variable {k n:Nat} {S L G lo hi:Nat->Int}
theorem zX (d:RDim k n)(hj:j<Nat.gcd k n):rM k n S j=0:=by
 have hn:0<n/Nat.gcd k n:=(Jy d.g1).mpr (by rw[Kb];exact d.gn);have:=kP d S hj hn;rw[Ky d hj]at this;rw[this];rfl
theorem zmQ (d:RDim k n)(h:Sq dr m r):Ok (Hy [bK k n S L G,dr]) fun x=>∃b,x= .val (.bl b)/\(b=true↔m=n/\eX k n S L G r):=(zlP d.kn d.n24 h).mono fun x ⟨b,e,hb⟩=>⟨b,e,hb.trans
 ⟨fun⟨e,h1,h2⟩=>⟨e,fun a ha=>by rw[<-h2 a ha];exact zrN d.kn ha,h1⟩,fun⟨e,f⟩=>⟨e,f.2,fun i hi=>by rw[<-f.1 i hi];exact(zrN d.kn hi).symm⟩⟩⟩
theorem zjJ (n0:0<n){r s:Nat->Int}(e:∀p,p<n->r p=s p)(f:eX k n S L G r):eX k n S L G s:=⟨fun a ha=>by
 rw[<-f.1 a ha];exact(gU fun i _=>e _ (gJ _ n0)).symm,fun p hp=>by rw[<-e p hp];exact f.2 p hp⟩
theorem zqN (d:RDim k n)(sp:gR k n S L G lo hi){g t:Nat}(gt:g<t)(ht:t<Nat.gcd k n):¬eX k n S L G (eN (Nat.gcd k n) g t (rR k n S lo hi)):=fun f=>by
 obtain⟨-,-,h1,h2⟩:=zlT d sp f;have at':∀i,i<Nat.gcd k n->rR k n S lo hi i=hd lo hi (Nat.gcd k n) (tT k n S) i:=fun i hi'=>by
  unfold rR;rw[jO hi',zX d hi',Int.add_zero]
 have:=zoY h1 h2 (show g<Nat.gcd k n by lia) fun i hi'=>by
  unfold eN;rw[jO (by lia),if_neg (by lia),if_neg (by lia),at' i (by lia),Int.add_zero]
 unfold eN at this;rw[jO (by lia),if_neg (by lia),if_pos rfl,at' g (by lia)]at this;lia
theorem zlt:∀m,(∃j,j<m/\a j≠b j)->∃j,j<m/\(∀i,i<j->a i=b i)/\a j≠b j
 |0,⟨j,h,_⟩=>by lia
 |m+1,⟨j,h,hne⟩=>by
  by_cases c:∃j,j<m/\a j≠b j
  ·obtain⟨i,h1,h2⟩:=zlt m c;exact⟨i,by lia,h2⟩
  ·have e:∀i,i<m->a i=b i:=fun i hi=>by
    by_cases q:a i=b i
    ·exact q
    ·exact absurd ⟨i,hi,q⟩ c
   have:j=m:=by
    by_cases q:j<m
    ·exact absurd (e j q) hne
    ·lia
   subst this;exact⟨j,by lia,e,hne⟩
theorem nH (hj:0<f j):∀m,j<m->(∀i,i<m->0<=f i)->0<aG m f
 |0,h,_=>by lia
 |m+1,h,a=>by
  have hm:=a m (by lia);simp only[aG]
  by_cases c:j<m
  ·have:=nH hj m c fun i hi=>a i (by lia)
   lia
  ·have:j=m:=by lia
   subst this;have:aG j (fun _=>(0:Int))<=aG j f:=tF fun i hi=>a i (by lia)
   rw[Uv]at this;lia
theorem Gz {m g t:Nat}(gt:g<t)(ht:t<m)(r:Nat->Int):aG m (fun i=>r i+if i=t then 1 else if i=g then-1 else 0)=aG m r:=by
 have one:∀(c:Int) (j m:Nat),aG m (fun i=>if i=j then c else 0)=if j<m then c else 0:=fun c j m=>by
  induction m with
  |zero=>rfl
  |succ m ih=>
   simp only[aG,ih]
   by_cases a:j<m
   ·rw[if_pos a,if_neg (by lia),if_pos (by lia)];lia
   ·by_cases b:m=j
    ·rw[if_neg a,if_pos b,if_pos (by lia)];lia
    ·rw[if_neg a,if_neg b,if_neg (by lia)];rfl
 have e:aG m (fun i=>r i+if i=t then 1 else if i=g then-1 else 0)=aG m (fun i=>r i+((if i=t then 1 else 0)+if i=g then-1 else 0)):=gU fun i _=>by
  by_cases a:i=t
  ·rw[if_pos a,if_pos a,if_neg (by lia)];rfl
  ·rw[if_neg a,if_neg a];lia
 rw[e,Km,Km,one,one,if_pos ht,if_pos (by lia)];lia
theorem pW (d:RDim k n)(sp:gR k n S L G lo hi){r:Nat->Int}(f:eX k n S L G r)(no:∀a b,a<b->b<Nat.gcd k n->¬eX k n S L G (eN (Nat.gcd k n) a b r)):∀p,p<n->r p=rR k n S lo hi p:=by
 obtain⟨ok,eq,hb,hs⟩:=zlT d sp f;have n0:0<n:=by have:=d.k2;have:=d.kn;lia
 have gd:=zof d sp f;have same:∀j,j<Nat.gcd k n->hd lo hi (Nat.gcd k n) (tT k n S) j=r j:=by
  by_cases c:∃j,j<Nat.gcd k n/\hd lo hi (Nat.gcd k n) (tT k n S) j≠r j
  ·obtain⟨j,hj,he,hne⟩:=zlt _ c;have le:=zoY hb hs hj he
   by_cases c2:∃t,t<Nat.gcd k n/\j<t/\r t<hd lo hi (Nat.gcd k n) (tT k n S) t
   ·obtain⟨t,ht,jt,lt⟩:=c2;refine absurd (zjJ n0 (r:=fun p=>(fun i=>r i+if i=t then 1 else if i=j then-1 else 0) (p%Nat.gcd k n)+rM k n S p) (fun p hp=>?_) (zpn (h:=fun i=>r i+if i=t then 1 else if i=j then-1 else 0) d ok sp (fun i hi'=>?_) ?_)) (no j t jt ht)
    ·unfold eN;rw[eq p hp];dsimp only;lia
    ·have h1:=hb i hi';have h2:=(rL gd.2.2 hj).1;have h3:=(rL gd.2.2 ht).2
     by_cases a:i=t
     ·subst a;rw[if_pos rfl];lia
     ·rw[if_neg a]
      by_cases b:i=j
      ·subst b;rw[if_pos rfl];lia
      ·rw[if_neg b];lia
    ·rw[Gz jt ht];exact hs
   ·have all:∀i,i<Nat.gcd k n->0<=r i-hd lo hi (Nat.gcd k n) (tT k n S) i:=fun i hi'=>by
     by_cases a:i<j
     ·rw[he i a];lia
     ·by_cases b:i=j
      ·subst b;lia
      ·by_cases q:r i<hd lo hi (Nat.gcd k n) (tT k n S) i
       ·exact absurd ⟨i,hi',by lia,q⟩ c2
       ·lia
    have h1:=nH (f:=fun i=>r i-hd lo hi (Nat.gcd k n) (tT k n S) i) (j:=j) (by lia) _ hj all;rw[zl5,hs,sR gd.2.2]at h1;lia
  ·intro j hj
   by_cases q:hd lo hi (Nat.gcd k n) (tT k n S) j=r j
   ·exact q
   ·exact absurd ⟨j,hj,q⟩ c
 intro p hp;unfold rR;rw[same _ (gJ p d.g1)];exact eq p hp
def Il (k n:Nat)(S lo hi:Nat->Int)(m:Nat)(r:Nat->Int):Prop:=m=n/\zK k n S lo hi/\∀p,p<n->r p=rR k n S lo hi p
theorem zk3 (d:RDim k n)(sp:gR k n S L G lo hi)(h:Sq dr m r):Ok (Qf [bK k n S L G,dr]) fun x=>∃z,x= .val (.bl z)/\(z=true↔Il k n S lo hi m r):=by
 have n24:=d.n24;have k5:=d.k5;have gk:=d.gk;have n0:0<n:=by have:=d.k2;have:=d.kn;lia
 simp! only[↓Qf,↓zfB];refine(zmQ d h).mono ?_;rintro _ ⟨b,rfl,hb⟩;cases b with
 |false=>
  simp! only[];refine⟨false,rfl,fun z=>(by cases z),fun⟨e,gd,er⟩=>?_⟩;exact hb.mpr ⟨e,zjJ n0 (fun p hp=>(er p hp).symm) (zry d ⟨gd.1,gd.2.1⟩ sp gd.2.2)⟩
 |true=>
  obtain⟨rfl,f⟩:=hb.mp rfl;simp! only[↓zgg,↓zfV];refine(vM d S L G).mono ?_;rintro _ rfl;simp! only[];refine(zqc h (by lia) (show Nat.gcd k m<=24 by lia)).mono ?_;rintro _ ⟨c,g,t,hc,hgt,ha,rfl⟩;have dec:∀i,∃b:Bool,b=true↔eX k m S L G (eN (Nat.gcd k m) (g i) (t i) r):=fun i=>by
   by_cases q:eX k m S L G (eN (Nat.gcd k m) (g i) (t i) r)
   ·exact⟨true,fun _=>q,fun _=>rfl⟩
   ·exact⟨false,fun z=>(by cases z),fun z=>absurd z q⟩
  simp! only[];refine⟨by lia,eS (fun ρ=>∃s',ρ=[.val (bK k m S L G),s']) (fun i=> .bl (dec i).choose) ⟨_,rfl⟩ ?_ ?_⟩
  ·rintro i _ hi ⟨s',rfl⟩;simp! only[↓zfX];refine(zmQ d (Sq.tup m _)).mono ?_;rintro _ ⟨b,rfl,hb⟩;have e:b=(dec i).choose:=by
    have h1:=(dec i).choose_spec;have h2:b=true↔(dec i).choose=true:=hb.trans ⟨fun x=>h1.mpr x.2,fun x=>⟨rfl,h1.mp x⟩⟩;cases b<;>cases q:(dec i).choose<;>simp[q]at h2 ⊢
   subst e;simp! only[];exact⟨_,rfl⟩
  ·rintro _ ⟨s',rfl⟩;simp! only[Im];refine⟨_,rfl,?_⟩
   constructor
   ·intro z;have no:∀a b,a<b->b<Nat.gcd k m->¬eX k m S L G (eN (Nat.gcd k m) a b r):=fun a b h1 h2 q=>by
     obtain⟨i,hi,rfl,rfl⟩:=ha a b h1 h2;have:=(kT c fun i=>(dec i).choose).mpr ⟨i,hi,(dec i).choose_spec.mpr q⟩;rw[this]at z;cases z
    exact⟨rfl,zof d sp f,pW d sp f no⟩
   ·rintro⟨-,gd,er⟩;cases q:((List.range c).map fun i=>(dec i).choose).any id with
    |false=>rfl
    |true=>
     obtain⟨i,hi,e⟩:=(kT c fun i=>(dec i).choose).mp q;have f2:=(dec i).choose_spec.mp e;refine absurd (zjJ n0 (fun p hp=>?_) f2) (zqN d sp (hgt i hi).1 (hgt i hi).2);unfold eN;rw[er p hp]
end
theorem zrk (s t:Str)(a b:Int):bY (.tup [.str s,.int a]) (.tup [.str t,.int b])=some (.bl (s==t&&a==b)):=by
 have p:∀(s:Str) (a:Int),Pl 1 (.tup [.str s,.int a]):=fun s a=>zZ fun d hd=>by
  rcases qam.mp hd with rfl|hd
  ·exact⟨rfl,lI _⟩
  ·rw[qcg.mp hd];exact yP 0 a
 unfold bY;rw[(p s a).1,(p t b).1,eG (gY (p s a).2 (by decide:1<=50))];simp[fO,dS]
theorem Eu (m n:Nat)(a b:Nat->Int):bY (.tup (wI m a)) (.tup (wI n b))=some (.bl ((List.range m).map a==(List.range n).map b)):=by
 have p1:Pl 1 (.tup (wI m a)):=zZ (jR fun c=>yP 0 _);have p2:Pl 1 (.tup (wI n b)):=zZ (jR fun c=>yP 0 _);unfold bY;rw[p1.1,p2.1,eG (gY p1.2 (by decide:1<=50))];simp only[Zg,if_true,fO];rw[Li,Li,Ue]
theorem range_eq:((List.range m).map a==(List.range n).map b)=true↔m=n/\∀i,i<n->a i=b i:=by
 rw[qbG]
 constructor
 ·intro h;have e:m=n:=by have:=congrArg List.length h;simpa using this
  subst e;exact⟨rfl,fun i hi=>by have:=congrArg (fun l=>l[i]?) h;simpa[hi]using this⟩
 ·rintro⟨rfl,h⟩;exact Vn fun i hi=>h i (qah.mp hi)
def ClP (f g:Nat->Int)(n m:Nat)(a b:Int):Prop:=∃i j:Nat,a=i/\b=j/\i<n/\j<n/\i%m=j%m/\f i>g j
theorem ClP.of {a b:Int}(h:ClP f g n m a b):0<=a/\a<n/\0<=b/\b<n:=by
 obtain⟨i,j,rfl,rfl,h1,h2,-⟩:=h;lia
theorem nZ (f g:Nat->Int)(hm:0<m)(a b:Int):
  Ok (yD [.lst (wI n f),.lst (wI n g),.int m,.int a,.int b]) fun x=>∃z,x= .val (.bl z)/\(z=true↔ClP f g n m a b):=by
 have no:¬(0<=a/\a<(n:Int)/\0<=b/\b<(n:Int))->∃z,Sl.val (.bl false)= .val (.bl z)/\(z=true↔ClP f g n m a b):=fun h=>⟨false,rfl,fun z=>(by cases z),fun z=>absurd z.of h⟩
 by_cases a0:0<=a
 ·by_cases ha:a<(n:Int)
  ·by_cases b0:0<=b
   ·by_cases hb:b<(n:Int)
    ·obtain⟨i,rfl⟩:∃i:Nat,a=i:=⟨a.toNat,by lia⟩;obtain⟨j,rfl⟩:∃j:Nat,b=j:=⟨b.toNat,by lia⟩;have ea:(i:Int)%(m:Int)=((i%m:Nat):Int):=by push_cast;rfl
     have eb:(j:Int)%(m:Int)=((j%m:Nat):Int):=by push_cast;rfl
     simp! only[↓yD,↓Jn,ea,eb,a0,b0,ha,hb];refine⟨by lia,by lia,fun h3=>⟨false,rfl,fun z=>(by cases z),fun⟨i',j',e1,e2,_,_,e3,_⟩=>?_⟩,fun h3=>?_⟩
     ·rw[show i'=i by lia,show j'=j by lia]at e3;exact absurd e3 (by lia)
     ·simp! only[↓zgt,bI _ (show i<n by lia),bI _ (show j<n by lia)];refine⟨_,rfl,?_⟩;rw[kK]
      constructor
      ·intro h;exact⟨i,j,rfl,rfl,by lia,by lia,by lia,h⟩
      ·rintro⟨i',j',e1,e2,_,_,_,h⟩;rw[show i'=i by lia,show j'=j by lia]at h;exact h
    ·simp! only[↓yD,↓Jn,a0,b0,ha,hb];exact no (by lia)
   ·simp! only[↓yD,↓Jn,a0,b0,ha];exact no (by lia)
  ·simp! only[↓yD,↓Jn,a0,ha];exact no (by lia)
 ·simp! only[↓yD,↓Jn,a0];exact no (by lia)
def OneP (n m c:Nat)(pl:Nat->Int):Prop:=c=m/\∀j,j<m->0<=pl j/\pl j<(n:Int)/\pl j%(m:Int)=j
theorem OneP.nat {pl:Nat->Int}(h:OneP n m c pl):c=m/\wI c pl=wI m (fun j=>((pl j).toNat:Nat))/\∀j,j<m->(pl j).toNat<n:=by
 obtain⟨rfl,h⟩:=h;refine⟨rfl,tM fun j hj=>?_,fun j hj=>?_⟩
 ·have:=h j hj;show D.int (pl j)=D.int (((pl j).toNat:Nat):Int);congr 1;lia
 ·have:=h j hj;lia
theorem zhX (f:Nat->Int)(pl:Nat->Int)(hm:0<m)(hc:c<=1000):
  Ok (Di [.lst (wI n f),.int m,.tup (wI c pl)]) fun x=>∃z,x= .val (.bl z)/\(z=true↔OneP n m c pl):=by
 simp! only[↓Di,↓zfA];refine⟨fun h=>⟨false,rfl,fun z=>(by cases z),fun z=>absurd z.1 (by lia)⟩,fun h=>?_⟩;have e:c=m:=by lia
 subst e;simp! only[↓zge,↓zgi,zou];refine⟨by lia,eS (fun ρ=>∃s s',ρ=[.val (.lst (wI n f)),.val (.int c),s,s']) (fun j=> .bl (decide (0<=pl j)&&(decide (pl j<n)&&decide (pl j%(c:Int)=j)))) ⟨_,_,rfl⟩ ?_ ?_⟩
 ·rintro j _ hj ⟨s,s',rfl⟩;simp! only[↓zgs];refine⟨fun h0=>⟨fun h1=>⟨by lia,?_,_,_,rfl⟩,fun h1=>⟨?_,_,_,rfl⟩⟩,fun h0=>⟨?_,_,_,rfl⟩⟩
  ·rw[eG h0,eG h1,To,To];rfl
  ·rw[eG h0,iQ (by lia)];rfl
  ·rw[iQ (by lia)];rfl
 ·rintro _ ⟨s,s',rfl⟩;simp! only[Im];refine⟨_,rfl,?_⟩;rw[Lj];unfold OneP;simp
theorem zmR (f:Nat->Int)(pl:Nat->Nat)(hc:c<=1000)(hp:∀j,j<c->pl j<n):
  Ok (Ht [.lst (wI n f),.tup (wI c fun j=>(pl j:Nat))]) fun x=>x= .val (.int (aG c fun j=>f (pl j))):=by
 simp! only[↓Ht,↓zgC,↓zg3];refine⟨by lia,eS (fun ρ=>∃s,ρ=[.val (.lst (wI n f)),s]) (fun j=> .int (f (pl j))) ⟨_,rfl⟩ ?_ ?_⟩
 ·rintro j _ hj ⟨s,rfl⟩;simp! only[↓zgE,bI _ (hp j hj)];exact⟨_,rfl⟩
 ·rintro _ ⟨s,rfl⟩;simp! only[iM,iO]
def Fu (f:Nat->Int)(n m c:Nat)(pl:Nat->Int)(t:Int):Prop:=OneP n m c pl/\aG m (fun j=>f (pl j).toNat)>t
def qJ (f:Nat->Int)(n m c:Nat)(pl:Nat->Int)(t:Int):Prop:=OneP n m c pl/\aG m (fun j=>f (pl j).toNat)<t
theorem znf (f:Nat->Int)(pl:Nat->Int)(t:Int)(hm:0<m)(hc:c<=1000):
  Ok (Rr [.lst (wI n f),.int m,.int t,.tup (wI c pl)]) fun x=>∃z,x= .val (.bl z)/\(z=true↔Fu f n m c pl t):=by
 simp! only[↓Rr,↓ziG];refine(zhX f pl hm hc).mono ?_;rintro _ ⟨z,rfl,hz⟩;simp! only[];refine⟨fun h=>?_,fun h=>⟨false,rfl,fun z=>(by cases z),fun q=>?_⟩⟩
 ·have o:=hz.mp h;obtain⟨rfl,e,hl⟩:=o.nat;rw[e];refine(zmR f _ hc hl).mono ?_;rintro _ rfl;simp! only[];refine⟨_,rfl,?_⟩;rw[kK];exact⟨fun h=>⟨o,h⟩,fun h=>h.2⟩
 ·rw[hz.mpr q.1]at h;cases h
theorem zlQ (f:Nat->Int)(pl:Nat->Int)(t:Int)(hm:0<m)(hc:c<=1000):
  Ok (Og [.lst (wI n f),.int m,.int t,.tup (wI c pl)]) fun x=>∃z,x= .val (.bl z)/\(z=true↔qJ f n m c pl t):=by
 simp! only[↓Og,↓Zm];refine(zhX f pl hm hc).mono ?_;rintro _ ⟨z,rfl,hz⟩;simp! only[];refine⟨fun h=>?_,fun h=>⟨false,rfl,fun z=>(by cases z),fun q=>?_⟩⟩
 ·have o:=hz.mp h;obtain⟨rfl,e,hl⟩:=o.nat;rw[e];refine(zmR f _ hc hl).mono ?_;rintro _ rfl;simp! only[];refine⟨_,rfl,?_⟩;rw[kK];exact⟨fun h=>⟨o,h⟩,fun h=>h.2⟩
 ·rw[hz.mpr q.1]at h;cases h
def Bc (q n:Nat)(f:Nat->Int):Prop:=∀i,i<n-> -((q:Int)*10000000000000000000000000000000000000000000000000000000000)<=f i/\f i<=(q:Int)*10000000000000000000000000000000000000000000000000000000000
theorem Bc.mono {q q' n:Nat}(h:Bc q n f)(hq:q<=q'):Bc q' n f:=fun i hi=>by
 have:=h i hi;lia
theorem Bc.set {q n i:Nat}(h:Bc q n f)(hx: -((q:Int)*10000000000000000000000000000000000000000000000000000000000)<=x/\x<=(q:Int)*10000000000000000000000000000000000000000000000000000000000):Bc q n fun j=>if j=i then x else f j:=fun j hj=>by
 dsimp only
 split
 ·exact hx
 ·exact h j hj
def dR (ds:List D):Prop:=∃p:Int,ds=[.int p]
theorem eF (h:dR ds){m:Int}(h0:0<m)(h1:m<2^250):Ok (cV ds [.int m]) fun r=>∃(i:Nat) (ds':List D),(i:Int)<m/\dR ds'/\r=(.val (.int i),ds'):=by
 obtain⟨p,rfl⟩:=h;simp! only[↓cV,↓Xx];have m0:=Le p (Int.ne_of_gt h0);refine⟨h0,zrI h0 h1,(p%m).toNat,[.int (p/m)],?_,⟨_,rfl⟩,?_⟩
 ·have:=Ya p h0;lia
 ·rw[show(((p%m).toNat:Nat):Int)=p%m by lia]
theorem uX (c:Int):Ok (Qr [.int c]) fun r=>∃ds,dR ds/\r= .own ds:=by
 simp! only[↓Qr,↓zit];refine⟨fun _=>⟨by decide+kernel,by decide+kernel,_,⟨_,rfl⟩,rfl⟩,fun _=>?_⟩;simp! only[↓zik,↓zic];refine⟨rfl,gP (fun _ ρ=>∃(a b:Int) (s3 s4:Sl),0<=b/\b<4294967296/\ρ=[.val (.int c),.val (.int a),.val (.int b),s3,s4]) ⟨0,_,.emp,.emp,by lia,by lia,rfl⟩ ?_ ?_⟩
 ·rintro i _ hi ⟨a,b,s3,s4,b0,b1,rfl⟩;simp! only[↓zhP];have e1:0<=(b*48271+7919*(i:Int)+12345)%2147483647:=Le _ (by decide);have e2:(b*48271+7919*(i:Int)+12345)%2147483647<2147483647:=Ya _ (by decide);exact⟨lT (by lia),lT (by decide),lT (by lia),Aj (by decide),by decide+kernel,_,_,_,_,e1,by lia,rfl⟩
 ·rintro _ ⟨a,b,s3,s4,_,_,rfl⟩;simp! only[];exact⟨_,⟨_,rfl⟩,rfl⟩
theorem in34 (i:Int):∃b,mF (.int i) (.tup [.int 3,.int 4])=some (.bl b):=⟨_,rfl⟩
theorem Xk (a b:Int):∃v,gL [.tup [.int a,.int b]]=some (.int v)/\(v=a\/v=b)/\b<=v:=by
 obtain⟨v,h1,⟨i,hi,h2⟩,h3⟩:=Mh (fun i=>if i=0 then a else b) (c:=2) (by lia);refine⟨v,h1,?_,h3 1 (by lia)⟩;rw[<-h2]
 split
 ·exact .inl rfl
 ·exact .inr rfl
def Qh (a b:Int):Int:=(Xk a b).choose
theorem Nj (a b:Int):gL [.tup [.int a,.int b]]=some (.int (Qh a b)):=(Xk a b).choose_spec.1
theorem Ga (a b:Int):Qh a b=a\/Qh a b=b:=(Xk a b).choose_spec.2.1
theorem Ib (a b:Int):b<=Qh a b:=(Xk a b).choose_spec.2.2
def BB (n:Nat)(S L G:Nat->Int):Prop:=(Bc 128 n S/\Bc 128 n L/\Bc 128 n G)/\∀p,p<n->L p<=G p
abbrev Mo (more:Int):Prop:= -(4*10000000000000000000000000000000000000000000000000000000000)<=more/\more<=4*10000000000000000000000000000000000000000000000000000000000
def mE (ds:List D)(by':Int)(k n:Nat)(S L G:Nat->Int)(way at':Nat)(more:Int)(s11:Sl):R:=[.par ds,.emp,.val (.int by'),.val (.int k),.own (wI n S),.own (wI n L),.own (wI n G),.val (.int n),.val (.int way),.val (.int at'),.val (.int more),s11]
def BQ (k n:Nat)(ds:List D)(x:Fl×R):Prop:=∃(S L G:Nat->Int) (a:List Sl),BB n S L G/\x=(.ret (.val (bK k n S L G)),.par ds::a)
theorem yT (h:dR ds){k n:Nat}(d:RDim k n)(S L G:Nat->Int)(hS:Bc 96 n S)(hL:Bc 30 n L)(hG:Bc 30 n G)(hle:∀p,p<n->L p<=G p)(by':Int)(hby:by'=1\/by'=10000000000000000000000000000000000000000000000000000000000):Ok (Mq ds (.lst [.d (.int k),.l (wI n S),.l (wI n L),.l (wI n G)]) [.int by']) fun x=>∃(S L G:Nat->Int) (ds':List D),dR ds'/\BB n S L G/\x=(.val (bK k n S L G),ds'):=by
 have n24:=d.n24;have k5:=d.k5;have n0:0<n:=by have:=d.k2;have:=d.kn;lia
 have R6:∀(ds:List D) (way at':Nat) (more:Int) (S L G:Nat->Int) (s11:Sl),Mo more->Bc 128 n S->Bc 40 n L->Bc 40 n G->(∀p,p<n->L p<=G p)->Ok (Yb (mE ds by' k n S L G way at' more s11)) (BQ k n ds):=fun ds way at' more S L G s11 hmm hS hL hG hle=>by
  simp! only[mE,↓Yb,↓zep];refine⟨fun _=>⟨by lia,eS (fun ρ=>∃z,ρ=[.val (.int more),z]) (fun p=> .int (L p+more)) ⟨_,rfl⟩ ?_ ?_⟩,fun _=>?_⟩
  ·rintro p _ hp ⟨z,rfl⟩;simp! only[↓zel];exact⟨_,rfl⟩
  ·rintro _ ⟨z,rfl⟩;simp! only[↓zei,zqW];refine⟨by lia,eS (fun ρ=>∃z,ρ=[z]) (fun p=> .int (Qh (G p) (L p+more))) ⟨_,rfl⟩ ?_ ?_⟩
   ·rintro p _ hp ⟨z,rfl⟩;have e:=Nj (G p) (L p+more);unfold gL at e;simp! only[↓zem,e];exact⟨_,rfl⟩
   ·rintro _ ⟨z,rfl⟩;simp! only[↓zcx];refine⟨S,_,_,_,⟨⟨hS,fun p hp=>?_,fun p hp=>?_⟩,fun p hp=>Ib _ _⟩,rfl⟩
    ·have:=hL p hp
     (try dsimp only)
     lia
    ·have a1:=hL p hp;have a2:=hG p hp
     (try dsimp only)
     rcases Ga (G p) (L p+more)with e|e<;>rw[e]<;>lia
  ·simp! only[↓zcx];exact⟨S,L,G,_,⟨⟨hS,hL.mono (by lia),hG.mono (by lia)⟩,hle⟩,rfl⟩
 have R7:∀(ds:List D) (way at':Nat) (more:Int) (S L G:Nat->Int) (s11:Sl),at'<n->Mo more->Bc 128 n S->Bc 36 n L->Bc 36 n G->(∀p,p<n->L p<=G p)->Ok (Yr (mE ds by' k n S L G way at' more s11)) (BQ k n ds):=fun ds way at' more S L G s11 hat hmm hS hL hG hle=>by
  simp! only[mE,↓Yr,bI _ hat,hat,lX _ _ hat,if_true];have a1:=hL at' hat;have a2:=hG at' hat;refine⟨fun _=>R6 ds way at' more S _ _ s11 hmm hS ?_ ?_ (fun p hp=>by have:=hle p hp;(try dsimp only);by_cases e:p=at'<;>simp only[e,if_true,iK]<;>(try unfold nW)<;>(try split)<;>lia),fun _=>R6 ds way at' more S L G s11 hmm hS (hL.mono (by lia)) (hG.mono (by lia)) hle⟩
  ·exact(hL.mono (by lia)).set (by(try dsimp only);(try simp only[if_true]);unfold nW;split<;>lia)
  ·exact(hG.mono (by lia)).set (by lia)
 have R8:∀(ds:List D) (way at':Nat) (more:Int) (S L G:Nat->Int) (s11:Sl),at'<n->Mo more->Bc 128 n S->Bc 32 n L->Bc 32 n G->(∀p,p<n->L p<=G p)->Ok (zcC (mE ds by' k n S L G way at' more s11)) (BQ k n ds):=fun ds way at' more S L G s11 hat hmm hS hL hG hle=>by
  simp! only[mE,↓zcC,bI _ hat,hat,lX _ _ hat,if_true];have a1:=hL at' hat;have a2:=hG at' hat;refine⟨fun _=>R7 ds way at' more S _ _ s11 hat hmm hS ?_ ?_ (fun p hp=>by have:=hle p hp;(try dsimp only);by_cases e:p=at'<;>simp only[e,if_true,iK]<;>(try unfold eA)<;>(try split)<;>lia),fun _=>R7 ds way at' more S L G s11 hat hmm hS (hL.mono (by lia)) (hG.mono (by lia)) hle⟩
  ·exact(hL.mono (by lia)).set (by lia)
  ·exact(hG.mono (by lia)).set (by(try dsimp only);(try simp only[if_true]);unfold eA;split<;>lia)
 have R9:∀(ds:List D) (way at':Nat) (more:Int) (S L G:Nat->Int) (s11:Sl),at'<n->Mo more->Bc 104 n S->Bc 32 n L->Bc 32 n G->(∀p,p<n->L p<=G p)->Ok (zcz (mE ds by' k n S L G way at' more s11)) (BQ k n ds):=fun ds way at' more S L G s11 hat hmm hS hL hG hle=>by
  obtain⟨b,eb⟩:=in34 (way:Int);simp! only[mE,↓zcz,eb,↓zev];refine⟨fun _=>?_,fun _=>R8 ds way at' more S L G s11 hat hmm (hS.mono (by lia)) hL hG hle⟩;rw[show((at':Int)+(k:Int)-(at':Int)).toNat=k by lia,Wv];refine⟨⟨fT (by lia),kL (by lia) (by lia)⟩,gP (fun i ρ=>∃(S:Nat->Int) (s11:Sl),Bc (104+4*i) n S/\ρ=(mE ds by' k n S L G way at' more s11)) ⟨S,_,hS,rfl⟩ ?_ ?_⟩
  ·rintro i _ hi ⟨S,s11,hS,rfl⟩;have em:((at':Int)+((i:Nat):Int))%(n:Int)=(((at'+i)%n:Nat):Int):=by push_cast;rfl
   have hm:=gJ (at'+i) n0;simp! only[mE,↓zeD,em,bI _ hm,hm,lX _ _ hm,if_true];have a1:=hS _ hm;exact⟨by lia,by lia,_,_,(hS.mono (by lia)).set (by push_cast at a1 ⊢;lia),rfl⟩
  ·rintro _ ⟨S,s11,hS,rfl⟩;simp! only[];exact R8 ds way at' more S L G s11 hat hmm (hS.mono (by lia)) hL hG hle
 have R10:∀(ds:List D) (way at':Nat) (more:Int) (S L G:Nat->Int) (s11:Sl),at'<n->Mo more->Bc 100 n S->Bc 32 n L->Bc 32 n G->(∀p,p<n->L p<=G p)->Ok (Ua (mE ds by' k n S L G way at' more s11)) (BQ k n ds):=fun ds way at' more S L G s11 hat hmm hS hL hG hle=>by
  simp! only[mE,↓Ua,↓zee];refine⟨fun _=>⟨by lia,eS (fun ρ=>∃z,ρ=[.val (.int more),z]) (fun p=> .int (S p+more)) ⟨_,rfl⟩ ?_ ?_⟩,fun _=>R9 ds way at' more S L G s11 hat hmm (hS.mono (by lia)) hL hG hle⟩
  ·rintro p _ hp ⟨z,rfl⟩;simp! only[↓zeF];exact⟨_,rfl⟩
  ·rintro _ ⟨z,rfl⟩;simp! only[];refine R9 ds way at' more _ L G s11 hat hmm (fun p hp=>?_) hL hG hle;have:=hS p hp
   (try dsimp only)
   lia
 simp! only[↓Mq,↓zdx,Ch.sl];refine(eF h (m:=8) (by lia) (by lia)).mono ?_;rintro _ ⟨way,d1,hw,h1,rfl⟩;simp! only[];refine(eF h1 (m:=(n:Int)) (by lia) (by lia)).mono ?_;rintro _ ⟨at',d2,hat,h2,rfl⟩;have hat:at'<n:=by lia
 simp! only[];refine(eF h2 (m:=9) (by lia) (by lia)).mono ?_;rintro _ ⟨t,d3,ht,h3,rfl⟩;simp! only[];refine(eF h3 (m:=2) (by lia) (by lia)).mono ?_;rintro _ ⟨u,d4,hu,h4,rfl⟩;have hu':∃z:Int,(z=1\/z=10000000000000000000000000000000000000000000000000000000000)/\[D.int 1,D.int by'][u]? =some (.int z):=by
  have:u=0\/u=1:=by lia
  rcases this with rfl|rfl
  ·exact⟨_,.inl rfl,rfl⟩
  ·exact⟨_,hby,rfl⟩
 obtain⟨z,hz,ez⟩:=hu';have hmm: -(4*10000000000000000000000000000000000000000000000000000000000)<=((t:Int)-4)*z/\((t:Int)-4)*z<=4*10000000000000000000000000000000000000000000000000000000000:=by rcases hz with rfl|rfl<;>lia
 simp! only[ez,bI _ hat,hat,lX _ _ hat,if_true];have fin:∀(S:Nat->Int),Bc 100 n S->Ok (Ua [.par d4,.emp,.val (.int by'),.val (.int k),.own (wI n S),.own (wI n L),.own (wI n G),.val (.int n),.val (.int way),.val (.int at'),.val (.int (((t:Int)-4)*z)),.emp]) fun a=>Ok (match a.1,(a.2[0]?:Option Sl)with
   |Fl.ret r,some (Sl.par out)=>some (r,out)
   |Fl.next,some (Sl.par out)=>some (.val .non,out)
   |_,_=>none) fun x=>∃(S L G:Nat->Int) (ds':List D),dR ds'/\BB n S L G/\x=(.val (bK k n S L G),ds'):=fun S hS=>by
  refine(R10 d4 way at' _ S L G .emp hat hmm hS (hL.mono (by lia)) (hG.mono (by lia)) hle).mono ?_;rintro _ ⟨S',L',G',a,bb,rfl⟩;simp! only[];exact⟨S',L',G',d4,h4,bb,rfl⟩
 have a1:=hS at' hat;exact⟨lT (by lia),fun _=>fin _ ((hS.mono (by lia)).set (by lia)),fun _=>fin S (hS.mono (by lia))⟩
theorem Bc.snoc {q i:Nat}(h:Bc q i f)(hx: -((q:Int)*10000000000000000000000000000000000000000000000000000000000)<=x/\x<=(q:Int)*10000000000000000000000000000000000000000000000000000000000):Bc q (i+1) fun j=>if j<i then f j else x:=fun j hj=>by
 dsimp only
 split
 ·rename_i l;exact h j l
 ·exact hx
theorem zoV {P:Nat->Int->Prop}{q:Nat->Int}(h:∀c,c<j->P c (q c))(hx:P j x):∀c,c<j+1->P c ((fun c=>if c<j then q c else x) c):=fun c hc=>by
 (try dsimp only)
 by_cases e:c<j
 ·rw[if_pos e];exact h c e
 ·rw[if_neg e,show c=j by lia];exact hx
theorem Po {q:Nat}:∀k,(∀s,s<k-> -((q:Int)*10000000000000000000000000000000000000000000000000000000000)<=f s/\f s<=(q:Int)*10000000000000000000000000000000000000000000000000000000000)-> -((k:Int)*((q:Int)*10000000000000000000000000000000000000000000000000000000000))<=aG k f/\aG k f<=(k:Int)*((q:Int)*10000000000000000000000000000000000000000000000000000000000)
 |0,_=>by simp[aG]
 |k+1,h=>by
  have ih:=Po k fun s hs=>h s (by lia)
  have:=h k (by lia);simp only[aG];push_cast;rw[Int.add_mul,Int.one_mul];lia
theorem yZ (h:dR ds):Ok (Rm ds [.int 24]) fun x=>∃(k n:Nat) (S L G:Nat->Int) (ds':List D),RDim k n/\dR ds'/\BB n S L G/\x=(.val (bK k n S L G),ds'):=by
 have R4:∀{ds:List D} (k n:Nat) (s4:Sl),dR ds->RDim k n->Ok (Ug [.par ds,.val (.int 24),.val (.int k),.val (.int n),s4,.emp,.emp,.emp,.emp,.emp,.emp,.emp]) fun x=>∃(S L G:Nat->Int) (ds':List D) (a:List Sl),dR ds'/\BB n S L G/\x=(.ret (.val (bK k n S L G)),.par ds'::a):=by
  intro ds k n s4 h d;have n24:=d.n24;have k5:=d.k5;have n0:0<n:=by have:=d.k2;have:=d.kn;lia
  simp! only[↓Ug];refine(eF h (m:=4) (by lia) (by lia)).mono ?_;rintro _ ⟨a,d1,ha,h1,rfl⟩;have ha':∃z:Int,(z=1\/z=10000000000000000000000000000000000000000000000000000000000)/\[D.int 1,D.int 1,D.int 1,D.int 10000000000000000000000000000000000000000000000000000000000][a]? =some (.int z):=by
   have:a=0\/a=1\/a=2\/a=3:=by lia
   rcases this with rfl|rfl|rfl|rfl
   ·exact⟨_,.inl rfl,rfl⟩
   ·exact⟨_,.inl rfl,rfl⟩
   ·exact⟨_,.inl rfl,rfl⟩
   ·exact⟨_,.inr rfl,rfl⟩
  obtain⟨by',hby,eby⟩:=ha';simp! only[eby];refine(eF h1 (m:=4) (by lia) (by lia)).mono ?_;rintro _ ⟨b,d2,hb,h2,rfl⟩;have hb':∃z:Int,0<z/\z<=9/\[D.int 1,D.int 2,D.int 4,D.int 9][b]? =some (.int z):=by
   have:b=0\/b=1\/b=2\/b=3:=by lia
   rcases this with rfl|rfl|rfl|rfl<;>exact⟨_,by decide,by decide,rfl⟩
  obtain⟨wide,w0,w9,ew⟩:=hb';simp! only[ew];refine(eF h2 (m:=4) (by lia) (by lia)).mono ?_;rintro _ ⟨c,d3,hc,h3,rfl⟩;have hc':∃z:Int,(z=0\/z=100000000000000000000000000000000000000000000000000000000000)/\[D.int 0,D.int 0,D.int 0,D.int 100000000000000000000000000000000000000000000000000000000000][c]? =some (.int z):=by
   have:c=0\/c=1\/c=2\/c=3:=by lia
   rcases this with rfl|rfl|rfl|rfl
   ·exact⟨_,.inl rfl,rfl⟩
   ·exact⟨_,.inl rfl,rfl⟩
   ·exact⟨_,.inl rfl,rfl⟩
   ·exact⟨_,.inr rfl,rfl⟩
  obtain⟨far,hfar,ef⟩:=hc';simp! only[ef,↓zh2];refine⟨fT (by lia),by lia,Kr (fun i acc ρ=>∃(f:Nat->Int) (ds':List D) (s:Sl),dR ds'/\Bc 16 i f/\acc=wI i f/\ρ=[.par ds',.val (.int by'),.val (.int far),s]) ⟨fun _=>0,d3,.emp,h3,fun _ h=>by lia,rfl,rfl⟩ ?_ ?_⟩
  ·rintro i _ _ hi ⟨f,d4,s,h4,hf,rfl,rfl⟩;simp! only[↓zh3];refine(eF h4 (m:=13) (by lia) (by lia)).mono ?_;rintro _ ⟨t,d5,ht,h5,rfl⟩;simp! only[];refine⟨lT (by lia),?_⟩;exact⟨_,d5,_,h5,hf.snoc (by rcases hby with rfl|rfl<;>rcases hfar with rfl|rfl<;>lia),Lx i f _,rfl⟩
  rintro _ _ ⟨r,d4,s,h4,hr,rfl,rfl⟩;simp! only[↓zig];refine⟨by lia,Kr (fun i acc ρ=>∃(f:Nat->Int) (ds':List D) (s:Sl),dR ds'/\(Bc 30 i f/\∀j,j<i->f j<=r j)/\acc=wI i f/\ρ=[.par ds',.val (.int wide),.val (.int by'),s]) ⟨fun _=>0,d4,.emp,h4,⟨fun _ h=>by lia,fun _ h=>by lia⟩,rfl,rfl⟩ ?_ ?_⟩
  ·rintro i _ _ hi ⟨f,d4,s,h4,hf,rfl,rfl⟩;simp! only[↓zim];refine(eF h4 (m:=wide) (by lia) (by lia)).mono ?_;rintro _ ⟨t,d5,ht,h5,rfl⟩;simp! only[];refine⟨lT (by lia),?_⟩;have br:=hr i hi;have bt:0<=(t:Int)*by'/\(t:Int)*by'<=9*10000000000000000000000000000000000000000000000000000000000:=by rcases hby with rfl|rfl<;>lia
   exact⟨_,d5,_,h5,⟨hf.1.snoc (by lia),zoV (P:=fun j x=>x<=r j) hf.2 (by lia)⟩,Lx i f _,rfl⟩
  rintro _ _ ⟨L,d5,s,h5,⟨hL,lL⟩,rfl,rfl⟩;simp! only[↓zin];refine⟨by lia,Kr (fun i acc ρ=>∃(f:Nat->Int) (ds':List D) (s:Sl),dR ds'/\(Bc 30 i f/\∀j,j<i->r j<=f j)/\acc=wI i f/\ρ=[.par ds',.val (.int wide),.val (.int by'),s]) ⟨fun _=>0,d5,.emp,h5,⟨fun _ h=>by lia,fun _ h=>by lia⟩,rfl,rfl⟩ ?_ ?_⟩
  ·rintro i _ _ hi ⟨f,d4,s,h4,hf,rfl,rfl⟩;simp! only[↓zii];refine(eF h4 (m:=wide) (by lia) (by lia)).mono ?_;rintro _ ⟨t,d5,ht,h5,rfl⟩;simp! only[];refine⟨lT (by lia),?_⟩;have br:=hr i hi;have bt:0<=(t:Int)*by'/\(t:Int)*by'<=9*10000000000000000000000000000000000000000000000000000000000:=by rcases hby with rfl|rfl<;>lia
   exact⟨_,d5,_,h5,⟨hf.1.snoc (by lia),zoV (P:=fun j x=>r j<=x) hf.2 (by lia)⟩,Lx i f _,rfl⟩
  rintro _ _ ⟨G,d6,s,h6,⟨hG,lG⟩,rfl,rfl⟩;simp! only[];refine(zo3 (Sq.lst n r) n0 n24 k5).mono ?_;rintro _ rfl;simp! only[];have hS:Bc 96 n (cZ k n r):=fun a _=>by
   have:=Po (q:=16) (f:=fun s=>r ((a+s)%n)) k fun s _=>hr _ (gJ _ n0)
   show _<=aG k (fun s=>r ((a+s)%n))/\aG k (fun s=>r ((a+s)%n))<=_;have k5':((k:Nat):Int)<=5:=by lia
   lia
  refine(yT h6 d _ L G hS hL hG (fun p hp=>Int.le_trans (lL p hp) (lG p hp)) by' hby).mono ?_;rintro _ ⟨S',L',G',d7,h7,bb,rfl⟩;simp! only[];exact⟨S',L',G',d7,_,h7,bb,rfl⟩
 have fin:∀{ds:List D} (k n:Nat) (s4:Sl),dR ds->RDim k n->Ok (Ug [.par ds,.val (.int 24),.val (.int k),.val (.int n),s4,.emp,.emp,.emp,.emp,.emp,.emp,.emp]) fun a=>Ok (match a.1,(a.2[0]?:Option Sl)with
   |Fl.ret r,some (Sl.par out)=>some (r,out)
   |Fl.next,some (Sl.par out)=>some (.val .non,out)
   |_,_=>none) fun x=>∃(k n:Nat) (S L G:Nat->Int) (ds':List D),RDim k n/\dR ds'/\BB n S L G/\x=(.val (bK k n S L G),ds'):=by
  intro ds k n s4 h d;refine(R4 k n s4 h d).mono ?_;rintro _ ⟨S,L,G,ds',a,h',bb,rfl⟩;simp! only[];exact⟨k,n,S,L,G,ds',d,h',bb,rfl⟩
 simp! only[↓Rm,↓ziw];refine(eF h (m:=4) (by lia) (by lia)).mono ?_;rintro _ ⟨a,d1,ha,h1,rfl⟩;simp! only[show(2:Int)+(a:Int)=((2+a:Nat):Int) by lia]
 generalize hk:2+a=k
 refine(eF h1 (m:=24-(k:Int)+1) (by lia) (by lia)).mono ?_;rintro _ ⟨b,d2,hb,h2,rfl⟩;simp! only[show(k:Int)+(b:Int)=((k+b:Nat):Int) by lia];refine(eF h2 (m:=4) (by lia) (by lia)).mono ?_;rintro _ ⟨shape,d3,hs,h3,rfl⟩;have ed:(24:Int)/(k:Int)=((24/k:Nat):Int):=by push_cast;rfl
 have rest:∀m:Nat,k<=m->m<=24->Ok (ze3 [.par d3,.val (.int 24),.val (.int k),.val (.int m),.val (.int shape),.emp,.emp,.emp,.emp,.emp,.emp,.emp]) fun a=>Ok (match a.1,(a.2[0]?:Option Sl)with
   |Fl.ret r,some (Sl.par out)=>some (r,out)
   |Fl.next,some (Sl.par out)=>some (.val .non,out)
   |_,_=>none) fun x=>∃(k n:Nat) (S L G:Nat->Int) (ds':List D),RDim k n/\dR ds'/\BB n S L G/\x=(.val (bK k n S L G),ds'):=fun m h1 h24=>by
  simp! only[↓ze3,ed];refine⟨fun _=>⟨jC (by lia) (by lia),?_⟩,fun _=>fin k m _ h3 ⟨by lia,by lia,h1,h24⟩⟩;have q1:1<=24/k:=(Jy (by lia)).mpr (by lia);have q2:24/k<=24:=Ri _ _;refine(eF h3 (m:=((24/k:Nat):Int)) (by lia) (by lia)).mono ?_;rintro _ ⟨t,d4,ht,h4,rfl⟩;have e1:(k:Int)*(1+(t:Int))=((k*(1+t):Nat):Int):=by push_cast;rfl
  simp! only[e1];have l1:k*(1+t)<=24:=by
   have:(1+t)*k<=24/k*k:=Nat.mul_le_mul_right k (by lia);have:=Nat.div_mul_le_self 24 k;rw[Mv];lia
  have l2:k*1<=k*(1+t):=qcM k (by lia);exact⟨lT (by lia),fin k (k*(1+t)) _ h4 ⟨by lia,by lia,by lia,l1⟩⟩
 simp! only[];exact⟨fun _=>rest k (bU _) (by lia),fun _=>rest (k+b) (by lia) (by lia)⟩
section
variable {k n:Nat} {S L G:Nat->Int}
theorem Bb (d:RDim k n)(hS:Bc 160 n S):Bc 7680 n (rM k n S):=fun p hp=>by
 have n0:0<n:=by lia
 obtain⟨h1,-⟩:=d.walk.1 p hp;have hn:=d.hn;have b:=Po (q:=320) (f:=fun t=>S ((pl k n (p%Nat.gcd k n) t+1)%n)-S (pl k n (p%Nat.gcd k n) t)) (ixp k n p) fun t _=>by
  have a1:=hS _ (gJ (pl k n (p%Nat.gcd k n) t+1) n0);have a2:=hS _ (On d (p%Nat.gcd k n) t);lia
 have e:rM k n S p=aG (ixp k n p) fun t=>S ((pl k n (p%Nat.gcd k n) t+1)%n)-S (pl k n (p%Nat.gcd k n) t):=rfl
 rw[<-e]at b;have:((ixp k n p:Nat):Int)<=24:=by lia
 lia
theorem Ci (d:RDim k n)(hS:Bc 160 n S)(hL:Bc 160 n L)(hG:Bc 160 n G)(sp:gR k n S L G lo hi):Bc 7840 (Nat.gcd k n) lo/\Bc 7840 (Nat.gcd k n) hi:=by
 have bm:=Bb d hS;refine⟨fun j hj=>?_,fun j hj=>?_⟩
 ·obtain⟨p,hp,-,e⟩:=sp.lm j hj;have a1:=bm p hp;have a2:=hL p hp;unfold rA at e;lia
 ·obtain⟨p,hp,-,e⟩:=sp.hm j hj;have a1:=bm p hp;have a2:=hG p hp;unfold rA at e;lia
theorem Hq (d:RDim k n)(hS:Bc 160 n S)(hL:Bc 160 n L)(hG:Bc 160 n G)(sp:gR k n S L G lo hi):tT k n S-aG (Nat.gcd k n) lo<2^250:=by
 have k5:=d.k5;have kn:=d.kn;have gk:=d.gk;have e1:=d.e1;have n0:0<n:=by have:=d.k2;lia
 have bm:=Bb d hS;have b0:=hS 0 n0;have b1:=Po (q:=7680) (f:=rM k n S) k fun s hs=>bm s (by lia)
 have b2:=Po (q:=7840) (f:=lo) (Nat.gcd k n) fun s hs=>(Ci d hS hL hG sp).1 s hs
 have k5':((k:Nat):Int)<=5:=by lia
 have g5':((Nat.gcd k n:Nat):Int)<=5:=by lia
 have br:rT k n S<=38560*10000000000000000000000000000000000000000000000000000000000:=by
  unfold rT;lia
 have bt:tT k n S<=38560*10000000000000000000000000000000000000000000000000000000000:=by
  unfold tT;have:=Int.ediv_mul_le (rT k n S) (show((eT k n:Nat):Int)≠0 by lia)
  by_cases c:rT k n S/((eT k n:Nat):Int)<=0
  ·lia
  ·have:rT k n S/((eT k n:Nat):Int)*1<=rT k n S/((eT k n:Nat):Int)*((eT k n:Nat):Int):=Int.mul_le_mul_of_nonneg_left (by lia) (by lia);lia
 lia
theorem wR (d:RDim k n)(hS:Bc 160 n S)(hL:Bc 160 n L)(hG:Bc 160 n G)(sp:gR k n S L G lo hi):∀j,j<Nat.gcd k n->hi j-lo j<2^399:=fun j hj=>by
 obtain⟨a,b⟩:=Ci d hS hL hG sp;have:=a j hj;have:=b j hj;lia
end
def Jg (P:Prop)(x:Sl):Prop:=∃z:Bool,x= .val (.bl z)/\(z=true↔P)
theorem Jg.no {P:Prop}(h:¬P):Jg P (.val (.bl false)):=⟨false,rfl,fun z=>(by cases z),fun p=>absurd p h⟩
theorem Jg.dec {P Q:Prop}[Decidable Q](h:P↔Q):Jg P (.val (.bl (decide Q))):=⟨_,rfl,decide_eq_true_iff.trans h.symm⟩
section
variable {k n:Nat} {S L G lo hi:Nat->Int}
theorem Dn (s:Str)(i:Int):bY .non (.tup [.str s,.int i])=some (.bl false):=by
 have p:Pl 1 (.tup [.str s,.int i]):=zZ fun d hd=>by
  rcases qam.mp hd with rfl|hd
  ·exact⟨rfl,lI _⟩
  ·rw[qcg.mp hd];exact yP 0 i
 unfold bY;rw[p.1]
 rfl
def mW (k n:Nat)(S:Nat->Int)(i:Int):Prop:=∃j:Nat,i=j/\j<Nat.gcd k n/\mw k n S j (n/Nat.gcd k n)≠0
def Cc (k n:Nat)(S:Nat->Int)(i:Int):Prop:=lC k n S/\rT k n S%(eT k n:Int)≠0/\i=rT k n S%(eT k n:Int)
theorem zkP (d:RDim k n)(sp:gR k n S L G lo hi)(h:Sq dr m r):Ok (iV [bK k n S L G,.tup [.str "row",dr]]) (Jg (Il k n S lo hi m r)):=by
 simp! only[↓iV,↓Lr,gM];refine(zk3 d sp h).mono ?_;rintro _ ⟨z,rfl,hz⟩;simp! only[];exact⟨z,rfl,hz⟩
theorem zn4 (d:RDim k n)(i:Int):Ok (iV [bK k n S L G,.tup [.str "round",.int i]]) (Jg (mW k n S i)):=by
 simp! only[↓iV,↓Lr,show(("round":Str)=="row")=false by decide+kernel,↓Wg,gM,↓Ub,↓Xn];refine⟨fun i0=>?_,fun i0=>Jg.no fun⟨j,e,_⟩=>by lia⟩;refine(vM d S L G).mono ?_;rintro _ rfl;simp! only[];refine⟨fun hi'=>?_,fun hi'=>Jg.no fun⟨j,e,h,_⟩=>by lia⟩;obtain⟨j,rfl⟩:∃j:Nat,i=j:=⟨i.toNat,by lia⟩;refine(znw d S L G (show j<Nat.gcd k n by lia)).mono ?_;rintro _ rfl;simp! only[];refine⟨_,rfl,?_⟩;rw[Bool.not_eq_true',qab]
 constructor
 ·intro h;exact⟨j,rfl,by lia,h⟩
 ·rintro⟨j',e,_,h⟩;rw[show j'=j by lia]at h;exact h
theorem zpM (d:RDim k n)(i:Int):Ok (iV [bK k n S L G,.tup [.str "part",.int i]]) (Jg (Cc k n S i)):=by
 simp! only[↓iV,↓Lr,show(("part":Str)=="row")=false by decide+kernel,show(("part":Str)=="round")=false by decide+kernel,↓Wg,↓Zn];refine(zkE d S L G).mono ?_;rintro _ (⟨j,hj,ne',rfl⟩|⟨clo,ne,rfl⟩|⟨clo,z,rfl⟩)
 ·simp! only[gM,zrk,show(("round":Str)=="part")=false by decide+kernel,Bool.false_and];exact Jg.no fun p=>ne' (p.1 j hj)
 ·simp! only[gM,zrk];refine⟨_,rfl,?_⟩;rw[qbG];exact⟨fun e=>⟨clo,ne,e.symm⟩,fun p=>p.2.2.symm⟩
 ·simp! only[gM,Dn];exact Jg.no fun p=>p.2.1 z
theorem ziB (d:RDim k n){w:Str}{l:List D}{P:Prop}(w1:(w=="row")=false)(w2:(w=="round")=false)(w3:(w=="part")=false)
  (h:Ok (Jv [.lst (wI n (rA k n S L)),.lst (wI n (rA k n S G)),.int (Nat.gcd k n:Nat),.int (tT k n S),.tup (.str w::l)]) (Jg P)):Ok (iV [bK k n S L G,.tup (.str w::l)]) (Jg (mK k n S/\P)):=by
 simp! only[↓iV,↓Lr,w1,w2,w3,↓Wg,↓Zn];refine(zre d S L G).mono ?_;rintro _ (⟨ok,rfl⟩|⟨no,y,hy,rfl⟩)
 ·simp! only[w3,↓zeu,↓zhm];refine(zoo d S L G).mono ?_;rintro _ rfl;simp! only[];refine(Zc d S L G).mono ?_;rintro _ rfl;simp! only[];refine(vM d S L G).mono ?_;rintro _ rfl;simp! only[];refine(Na d S L G).mono ?_;rintro _ rfl;simp! only[];refine h.mono ?_;rintro _ ⟨z,rfl,hz⟩;simp! only[];exact⟨z,rfl,hz.trans ⟨fun p=>⟨ok,p⟩,fun p=>p.2⟩⟩
 ·simp! only[w3,↓zeu,hy];exact Jg.no fun p=>no p.1
theorem zow (d:RDim k n)(a b:Int):Ok (iV [bK k n S L G,.tup [.str "clash",.int a,.int b]]) (Jg (mK k n S/\ClP (rA k n S L) (rA k n S G) n (Nat.gcd k n) a b)):=by
 refine ziB d (by decide+kernel) (by decide+kernel) (by decide+kernel) ?_;simp! only[↓Jv,↓Pc,gM];refine(nZ _ _ d.g1 a b).mono ?_;rintro _ ⟨z,rfl,hz⟩;simp! only[];exact⟨z,rfl,hz⟩
theorem zr0 (d:RDim k n)(hc:c<=1000)(pl:Nat->Int):Ok (iV [bK k n S L G,.tup [.str "low",.tup (wI c pl)]]) (Jg (mK k n S/\Fu (rA k n S L) n (Nat.gcd k n) c pl (tT k n S))):=by
 refine ziB d (by decide+kernel) (by decide+kernel) (by decide+kernel) ?_;simp! only[↓Jv,↓Pc,show(("low":Str)=="clash")=false by decide+kernel,↓zds,gM];refine(znf _ pl _ d.g1 hc).mono ?_;rintro _ ⟨z,rfl,hz⟩;simp! only[];exact⟨z,rfl,hz⟩
theorem zpT (d:RDim k n)(hc:c<=1000)(pl:Nat->Int):Ok (iV [bK k n S L G,.tup [.str "high",.tup (wI c pl)]]) (Jg (mK k n S/\qJ (rA k n S G) n (Nat.gcd k n) c pl (tT k n S))):=by
 refine ziB d (by decide+kernel) (by decide+kernel) (by decide+kernel) ?_;simp! only[↓Jv,↓Pc,show(("high":Str)=="clash")=false by decide+kernel,show(("high":Str)=="low")=false by decide+kernel,↓zds,↓zgh,gM];refine(zlQ _ pl _ d.g1 hc).mono ?_;rintro _ ⟨z,rfl,hz⟩;simp! only[];exact⟨z,rfl,hz⟩
end
theorem Kt (a b c:D):bS [a,b,c] (some 1) none=[b,c]:=rfl
theorem Ig (m:Nat)(a:Nat->Int):bY (.tup (wI m a)) .non=some (.bl false):=by
 have p1:Pl 1 (.tup (wI m a)):=zZ (jR fun c=>yP 0 _);unfold bY;rw[p1.1,eG (gY p1.2 (by decide:1<=50))]
 rfl
theorem znK (pl:Nat->Int)(m0:0<m)(hm:m<=1000):Ok (Mx [.tup (wI c pl),.int m,.int n]) (Jg (OneP n m c pl)):=by
 simp! only[↓Mx,↓zcs];refine⟨fun h=>Jg.no fun z=>absurd z.1 (by lia),fun h=>?_⟩;have e:c=m:=by lia
 subst e;simp! only[↓zcY,↓zcZ];refine⟨fT hm,by lia,eS (fun ρ=>∃y,ρ=[.val (.tup (wI c pl)),.val (.int n),.val (.int c),y]) (fun j=> .bl (decide (0<=pl j)&&(decide (pl j<n)&&decide (pl j%(c:Int)=j)))) ⟨_,rfl⟩ ?_ ?_⟩
 ·rintro j _ hj ⟨y,rfl⟩;simp! only[↓zcX,bI _ hj];refine⟨fun h0=>⟨fun h1=>⟨by lia,?_,_,rfl⟩,fun h1=>⟨?_,_,rfl⟩⟩,fun h0=>⟨?_,_,rfl⟩⟩
  ·rw[eG h0,eG h1,To,To];rfl
  ·rw[eG h0,iQ (by lia)];rfl
  ·rw[iQ (by lia)];rfl
 ·rintro _ ⟨y,rfl⟩;simp! only[Im];refine⟨_,rfl,?_⟩;rw[Lj];unfold OneP;simp
section
variable {k n:Nat} {S L G:Nat->Int}
theorem zrO (d:RDim k n)(a b:Int):Ok (tR [bK k n S L G,.lst (wI n (rM k n S)),.tup [.str "clash",.int a,.int b]]) (Jg (ClP (rA k n S L) (rA k n S G) n (Nat.gcd k n) a b)):=by
 have n24:=d.n24;have g1:=d.g1;have gk:=d.gk;have gn:=d.gn;have k5:=d.k5;have e1:=d.e1;have e5:=d.e5;have n0:0<n:=by lia
 have ed:(k:Int)/((Nat.gcd k n:Nat):Int)=((eT k n:Nat):Int):=by push_cast;rfl
 have er:S 0-aG k (rM k n S)=rT k n S:=rfl;have no:¬(0<=a/\a<(n:Int)/\0<=b/\b<(n:Int))->Jg (ClP (rA k n S L) (rA k n S G) n (Nat.gcd k n) a b) (.val (.bl false)):=fun h=>Jg.no fun z=>absurd z.of h
 simp! only[↓tR,↓Sw];refine(Ov d).mono ?_;rintro _ rfl
 by_cases a0:0<=a
 ·by_cases ha:a<(n:Int)
  ·by_cases b0:0<=b
   ·by_cases hb:b<(n:Int)
    ·obtain⟨i,rfl⟩:∃i:Nat,a=i:=⟨a.toNat,by lia⟩;obtain⟨j,rfl⟩:∃j:Nat,b=j:=⟨b.toNat,by lia⟩;have m1:(i:Int)%((Nat.gcd k n:Nat):Int)=((i%Nat.gcd k n:Nat):Int):=by push_cast;rfl
     have m2':(j:Int)%((Nat.gcd k n:Nat):Int)=((j%Nat.gcd k n:Nat):Int):=by push_cast;rfl
     simp! only[gM,Kt,m1,m2',a0,ha,b0,hb];refine⟨by lia,by lia,fun h3=>Jg.no fun⟨i',j',e1,e2,_,_,e3,_⟩=>?_,fun h3=>?_⟩
     ·rw[show i'=i by lia,show j'=j by lia]at e3;exact absurd e3 (by lia)
     ·simp! only[↓zdk,bI _ (show i<n by lia),bI _ (show j<n by lia)];refine Jg.dec ⟨?_,?_⟩
      ·rintro⟨i',j',e1,e2,_,_,_,h⟩;rw[show i'=i by lia,show j'=j by lia]at h;exact h
      ·intro h;exact⟨i,j,rfl,rfl,by lia,by lia,by lia,h⟩
    ·simp! only[gM,Kt,a0,ha,b0,hb];exact no (by lia)
   ·simp! only[gM,Kt,a0,ha,b0];exact no (by lia)
  ·simp! only[gM,Kt,a0,ha];exact no (by lia)
 ·simp! only[gM,Kt,a0];exact no (by lia)
theorem zV (d:RDim k n)(hc:c<=1000)(pl:Nat->Int):Ok (tR [bK k n S L G,.lst (wI n (rM k n S)),.tup [.str "low",.tup (wI c pl)]]) (Jg (Fu (rA k n S L) n (Nat.gcd k n) c pl (tT k n S))):=by
 have n24:=d.n24;have g1:=d.g1;have gk:=d.gk;have gn:=d.gn;have k5:=d.k5;have e1:=d.e1;have e5:=d.e5;have n0:0<n:=by lia
 have ed:(k:Int)/((Nat.gcd k n:Nat):Int)=((eT k n:Nat):Int):=by push_cast;rfl
 have er:S 0-aG k (rM k n S)=rT k n S:=rfl;have et:rT k n S/((eT k n:Nat):Int)=tT k n S:=rfl;simp! only[↓tR,↓Sw];refine(Ov d).mono ?_;rintro _ rfl;simp! only[show(("low":Str)=="clash")=false by decide+kernel,↓zb8];refine(znK pl g1 (by lia)).mono ?_;rintro _ ⟨z,rfl,hz⟩;simp! only[];refine⟨fun h=>Jg.no fun q=>?_,fun h=>?_⟩
 ·rw[hz.mpr q.1]at h;cases h
 ·have o:=hz.mp (by simpa using h);obtain⟨rfl,e,hl⟩:=o.nat;rw[e];simp! only[↓zcg,bI _ n0,Ke d,iM,iO,er,ed,et,gM,↓zdf];refine⟨jC (by lia) (by lia),jC (by lia) (by lia),by lia,eS (fun ρ=>∃z,ρ=[.val (bK k n S L G),.val (.lst (wI n (rM k n S))),z]) (fun j=> .int (rA k n S L (pl j).toNat)) ⟨_,rfl⟩ ?_ ?_⟩
  ·rintro j _ hj ⟨z,rfl⟩;simp! only[↓zdo,bI _ (hl j hj)];exact⟨rfl,_,rfl⟩
  ·rintro _ ⟨z,rfl⟩;simp! only[iM,iO];exact Jg.dec ⟨fun h=>h.2,fun h=>⟨o,h⟩⟩
theorem nG (d:RDim k n)(hc:c<=1000)(pl:Nat->Int):Ok (tR [bK k n S L G,.lst (wI n (rM k n S)),.tup [.str "high",.tup (wI c pl)]]) (Jg (qJ (rA k n S G) n (Nat.gcd k n) c pl (tT k n S))):=by
 have n24:=d.n24;have g1:=d.g1;have gk:=d.gk;have gn:=d.gn;have k5:=d.k5;have e1:=d.e1;have e5:=d.e5;have n0:0<n:=by lia
 have ed:(k:Int)/((Nat.gcd k n:Nat):Int)=((eT k n:Nat):Int):=by push_cast;rfl
 have er:S 0-aG k (rM k n S)=rT k n S:=rfl;have et:rT k n S/((eT k n:Nat):Int)=tT k n S:=rfl;simp! only[↓tR,↓Sw];refine(Ov d).mono ?_;rintro _ rfl;simp! only[show(("high":Str)=="clash")=false by decide+kernel,↓zb8];refine(znK pl g1 (by lia)).mono ?_;rintro _ ⟨z,rfl,hz⟩;simp! only[];refine⟨fun h=>Jg.no fun q=>?_,fun h=>?_⟩
 ·rw[hz.mpr q.1]at h;cases h
 ·have o:=hz.mp (by simpa using h);obtain⟨rfl,e,hl⟩:=o.nat;rw[e];simp! only[↓zcg,bI _ n0,Ke d,iM,iO,er,ed,et,show(("high":Str)=="low")=false by decide+kernel,↓zdm,↓zdp];refine⟨jC (by lia) (by lia),jC (by lia) (by lia),by lia,eS (fun ρ=>∃z,ρ=[.val (bK k n S L G),.val (.lst (wI n (rM k n S))),z]) (fun j=> .int (rA k n S G (pl j).toNat)) ⟨_,rfl⟩ ?_ ?_⟩
  ·rintro j _ hj ⟨z,rfl⟩;simp! only[↓zdj,bI _ (hl j hj)];exact⟨rfl,_,rfl⟩
  ·rintro _ ⟨z,rfl⟩;simp! only[iM,iO];exact Jg.dec ⟨fun h=>h.2,fun h=>⟨o,h⟩⟩
theorem qY (d:RDim k n)(sp:gR k n S L G lo hi)(r:Nat->Int):Ok (mL [bK k n S L G,.tup [.str "row",.tup (wI m r)]]) (Jg (Il k n S lo hi m r)):=by
 simp! only[↓mL,↓Ki,gM];refine(qI d sp).mono ?_;rintro _ (⟨gd,rfl⟩|⟨ng,rfl⟩)
 ·simp! only[Eu];exact⟨_,rfl,range_eq.trans ⟨fun h=>⟨h.1,gd,h.2⟩,fun h=>⟨h.1,h.2.2⟩⟩⟩
 ·simp! only[Ig];exact Jg.no fun p=>ng p.2.1
theorem zpB (d:RDim k n)(i:Int):Ok (mL [bK k n S L G,.tup [.str "round",.int i]]) (Jg (mW k n S i)):=by
 simp! only[↓mL,↓Ki,show(("round":Str)=="row")=false by decide+kernel,↓Vt];refine(Pn d S L G).mono ?_;rintro _ rfl;simp! only[gM];refine⟨fun i0=>⟨fun hi'=>?_,fun hi'=>Jg.no fun⟨j,e,h,_⟩=>by lia⟩,fun i0=>Jg.no fun⟨j,e,_⟩=>by lia⟩;obtain⟨j,rfl⟩:∃j:Nat,i=j:=⟨i.toNat,by lia⟩;simp! only[bI _ (show j<Nat.gcd k n by lia)];refine⟨_,rfl,?_⟩;rw[Mt]
 constructor
 ·intro h;exact⟨j,rfl,by lia,h⟩
 ·rintro⟨j',e,_,h⟩;rw[show j'=j by lia]at h;exact h
theorem zrm (d:RDim k n)(i:Int):Ok (mL [bK k n S L G,.tup [.str "part",.int i]]) (Jg (Cc k n S i)):=by
 have n24:=d.n24;have g1:=d.g1;have gk:=d.gk;have gn:=d.gn;have k5:=d.k5;have e1:=d.e1;have e5:=d.e5;have n0:0<n:=by lia
 have ed:(k:Int)/((Nat.gcd k n:Nat):Int)=((eT k n:Nat):Int):=by push_cast;rfl
 have er:S 0-aG k (rM k n S)=rT k n S:=rfl;have pos:=Le (rT k n S) (show((eT k n:Nat):Int)≠0 by lia);obtain⟨v,v1,⟨iv,hiv,ev⟩,v3⟩:=Mh (fun j=>mw k n S j (n/Nat.gcd k n)) g1;obtain⟨w,w1,⟨iw,hiw,ew⟩,w3⟩:=kR (fun j=>mw k n S j (n/Nat.gcd k n)) g1;unfold gL at v1;unfold jZ at w1;simp! only[↓mL,↓Ki,show(("part":Str)=="row")=false by decide+kernel,↓Vt];refine(Pn d S L G).mono ?_;rintro _ rfl;simp! only[show(("part":Str)=="round")=false by decide+kernel,↓Zt,v1,w1,bI _ n0,Ke d,iM,iO,er,ed];refine⟨jC (by lia) (by lia),by lia,fun h=>Jg.no fun p=>?_,fun h1=>⟨fun h=>Jg.no fun p=>?_,fun h2=>?_⟩⟩
 ·have:=p.1 iv hiv;lia
 ·have:=p.1 iw hiw;lia
 have clo:lC k n S:=zqK d v3 w3 (by lia) (by lia);simp! only[↓zcw,gM];refine⟨fun h=>?_,fun h=>Jg.no fun p=>p.2.1 (by lia)⟩;refine⟨_,rfl,?_⟩;rw[qbG];exact⟨fun e=>⟨clo,by lia,e⟩,fun p=>p.2.2⟩
theorem zjE (d:RDim k n){l:List D}{P:Prop}(s1:(s=="row")=false)(s2:(s=="round")=false)(s3:(s=="part")=false)
  (h:Ok (tR [bK k n S L G,.lst (wI n (rM k n S)),.tup (.str s::l)]) (Jg P)):Ok (mL [bK k n S L G,.tup (.str s::l)]) (Jg (mK k n S/\P)):=by
 have n24:=d.n24;have g1:=d.g1;have gk:=d.gk;have gn:=d.gn;have k5:=d.k5;have e1:=d.e1;have e5:=d.e5;have n0:0<n:=by lia
 have ed:(k:Int)/((Nat.gcd k n:Nat):Int)=((eT k n:Nat):Int):=by push_cast;rfl
 have er:S 0-aG k (rM k n S)=rT k n S:=rfl;have pos:=Le (rT k n S) (show((eT k n:Nat):Int)≠0 by lia);obtain⟨v,v1,⟨iv,hiv,ev⟩,v3⟩:=Mh (fun j=>mw k n S j (n/Nat.gcd k n)) g1;obtain⟨w,w1,⟨iw,hiw,ew⟩,w3⟩:=kR (fun j=>mw k n S j (n/Nat.gcd k n)) g1;unfold gL at v1;unfold jZ at w1;simp! only[↓mL,↓Ki,s1,↓Vt];refine(Pn d S L G).mono ?_;rintro _ rfl;simp! only[s2,↓Zt,v1,w1,bI _ n0,Ke d,iM,iO,er,ed];refine⟨jC (by lia) (by lia),by lia,fun h=>Jg.no fun p=>?_,fun h1=>⟨fun h=>Jg.no fun p=>?_,fun h2=>?_⟩⟩
 ·have:=p.1.1 iv hiv;lia
 ·have:=p.1.1 iw hiw;lia
 have clo:lC k n S:=zqK d v3 w3 (by lia) (by lia);simp! only[↓zcw,s3,↓zeq];refine⟨fun z=>?_,fun z=>Jg.no fun p=>z p.1.2⟩;refine h.mono ?_;rintro _ ⟨b,rfl,hb⟩;simp! only[];exact⟨b,rfl,hb.trans ⟨fun p=>⟨⟨clo,z⟩,p⟩,fun p=>p.2⟩⟩
theorem same {F F':Option Sl}{P:Prop}(h:Ok F (Jg P))(h':Ok F' (Jg P)):∃z:Bool,Ok F (fun x=>x= .val (.bl z))/\Ok F' fun x=>x= .val (.bl z):=by
 obtain⟨_,e,z,rfl,hz⟩:=h;obtain⟨_,e',z',rfl,hz'⟩:=h';have:z'=z:=by
  have:=hz'.trans hz.symm;cases z<;>cases z'<;>simp at this ⊢
 subst this;exact⟨z',⟨_,e,rfl⟩,⟨_,e',rfl⟩⟩
def Pap (y:D):Prop:=(∃(s:Str) (m:Nat) (f:Nat->Int),(s="row"\/s="low"\/s="high")/\m<=24/\y= .tup [.str s,.tup (wI m f)])\/(∃a b:Int,y= .tup [.str "clash",.int a,.int b])\/(∃(s:Str) (i:Int),(s="round"\/s="part")/\y= .tup [.str s,.int i])
def lO (y:D):Prop:=(∃(s:Str) (m:Nat) (f:Nat->Int),(s="row"\/s="low"\/s="high")/\m<=25/\y= .tup [.str s,.tup (wI m f)])\/(∃a b:Int,y= .tup [.str "clash",.int a,.int b])\/(∃(s:Str) (i:Int),(s="round"\/s="part")/\y= .tup [.str s,.int i])
theorem Dv (d:RDim k n)(sp:gR k n S L G lo hi)(h:lO y):∃z:Bool,Ok (iV [bK k n S L G,y]) (fun x=>x= .val (.bl z))/\Ok (mL [bK k n S L G,y]) fun x=>x= .val (.bl z):=by
 rcases h with⟨s,m,f,rfl|rfl|rfl,hm,rfl⟩|⟨a,b,rfl⟩|⟨s,i,rfl|rfl,rfl⟩
 ·exact same (zkP d sp (Sq.tup m f)) (qY d sp f)
 ·exact same (zr0 d (by lia) f) (zjE d (by decide+kernel) (by decide+kernel) (by decide+kernel) (zV d (by lia) f))
 ·exact same (zpT d (by lia) f) (zjE d (by decide+kernel) (by decide+kernel) (by decide+kernel) (nG d (by lia) f))
 ·exact same (zow d a b) (zjE d (by decide+kernel) (by decide+kernel) (by decide+kernel) (zrO d a b))
 ·exact same (zn4 d i) (zpB d i)
 ·exact same (zpM d i) (zrm d i)
end
theorem zrH (c1:1<=c)(a b:Nat->Int):∃i,i<c/\Of [.lst (wL c fun i=> .tup [.int (a i),.int (b i)])]=some (.tup [.int (a i),.int (b i)]):=by
 have e:∀l:List Nat,Ij (l.map fun i=>D.tup [.int (a i),.int (b i)])=some (l.map fun i=>[a i,b i]):=fun l=>by
  induction l with
  |nil=>rfl
  |cons x l ih=>
   show(some [a x,b x]).bind (fun ns=>(Ij (l.map fun i=>D.tup [.int (a i),.int (b i)])).map fun nss=>ns::nss)=_;rw[ih];rfl
 have hb:Kz ((List.range c).map fun i=>[a i,b i])<c:=by
  have:=ziF (fun i j=>HT.jV (((List.range c).map fun i=>[a i,b i]).getD i []) (((List.range c).map fun i=>[a i,b i]).getD j [])) (((List.range c).map fun i=>[a i,b i]).length-1);unfold Kz;rw[eL,Sj]at this ⊢;lia
 refine⟨_,hb,?_⟩;show(Ij (wL c fun i=>D.tup [.int (a i),.int (b i)])).bind (fun nss=>if nss.isEmpty then none else(wL c fun i=>D.tup [.int (a i),.int (b i)])[Kz nss]?)=_;rw[show Ij (wL c fun i=>D.tup [.int (a i),.int (b i)])=some ((List.range c).map fun i=>[a i,b i])from e _];show(if((List.range c).map fun i=>[a i,b i]).isEmpty then none else _)=_;rw[if_neg (by cases c with|zero=>lia|succ c=>simp),bI _ hb]
theorem Wm (h:i<l.length):∃z:Int,(l.map D.int)[i]? =some (.int z):=⟨l[i],by rw[fJ,cG h];rfl⟩
theorem zlu (h:dR ds){n g:Nat}(n24:n<=24)(g1:1<=g)(g5:g<=5)(r:Nat->Int):Ok (Lc ds [.tup (wI n r),.int g]) fun x=>∃(r:Nat->Int) (ds':List D),dR ds'/\x=(.val (.tup (wI n r)),ds'):=by
 simp! only[↓Lc,↓zeR];refine(eF h (m:=(g:Int)) (by lia) (by lia)).mono ?_;rintro _ ⟨one,d1,h1,hp1,rfl⟩;simp! only[];refine(eF hp1 (m:=(g:Int)) (by lia) (by lia)).mono ?_;rintro _ ⟨other,d2,h2,hp2,rfl⟩;simp! only[];refine(eF hp2 (m:=4) (by lia) (by lia)).mono ?_;rintro _ ⟨w,d3,h3,hp3,rfl⟩;obtain⟨by',eb⟩:∃z:Int,[D.int 1,D.int 1,D.int 2,D.int 10000000000000000000000000000000000000000000000000000000000][w]? =some (.int z):=Wm (l:=[1,1,2,10000000000000000000000000000000000000000000000000000000000]) (by show w<4;lia);simp! only[eb,↓zfp];refine⟨fT (by lia),gP (fun i ρ=>∃(r':Nat->Int) (s:Sl),ρ=[.par d3,.val (.tup (wI n r)),.val (.int g),.val (.int one),.val (.int other),.val (.int by'),.own (wI n r'),s]) ⟨r,_,rfl⟩ ?_ ?_⟩
 ·rintro i _ hi ⟨r',s,rfl⟩;have e:(i:Int)%(g:Int)=((i%g:Nat):Int):=by push_cast;rfl
  simp! only[↓zfb,e,bI _ hi,hi,lX _ _ hi,if_true];refine⟨by lia,fun _=>?_,fun _=>?_⟩
  ·simp! only[↓zc5,e,bI _ hi,hi,lX _ _ hi,if_true];exact⟨by lia,fun _=>⟨_,_,rfl⟩,fun _=>⟨_,_,rfl⟩⟩
  ·simp! only[↓zc5,e,bI _ hi,hi,lX _ _ hi,if_true];exact⟨by lia,fun _=>⟨_,_,rfl⟩,fun _=>⟨_,_,rfl⟩⟩
 ·rintro _ ⟨r',s,rfl⟩;simp! only[];exact⟨r',d3,hp3,rfl⟩
theorem zrU (l:List Int):l.map D.int=wI l.length fun i=>l.getD i 0:=by
 apply lM;intro j
 by_cases h:j<l.length
 ·rw[bI _ h,fJ,cG h];simp[List.getD,h]
 ·rw[eE (by rw[eL];lia),eE (by rw[dQ];lia)]
theorem zrb (n:Nat)(r:Nat->Int):wI n r=((List.range n).map r).map D.int:=by
 unfold wI wL;rw[Ba];rfl
def pB (x:Fl×R):Prop:=Ok (match x.1,(x.2[0]?:Option Sl)with
   |Fl.ret r,some (Sl.par out)=>some (r,out)
   |Fl.next,some (Sl.par out)=>some (.val .non,out)
   |_,_=>none) fun x=>∃(m:Nat) (r:Nat->Int) (ds':List D),dR ds'/\m<=25/\x=(.val (.tup (wI m r)),ds')
section
variable {q at' way:Nat} {r:Nat->Int} {ds:List D} {s1 s2:Sl} {more:Int}
theorem bn1 (h:dR ds)(q25:q<=25):Ok (zb1 [.par ds,s1,s2,.own (wI q r),.val (.int way),.val (.int at'),.val (.int more)]) pB:=by
 simp! only[↓zb1,pB];exact⟨q,r,ds,h,q25,rfl⟩
theorem bn2 (h:dR ds)(q25:q<=25):Ok (zb0 [.par ds,s1,s2,.own (wI q r),.val (.int way),.val (.int at'),.val (.int more)]) pB:=by
 have e:(at':Int)+1=((at'+1:Nat):Int):=by push_cast;rfl
 simp! only[↓zb0,e];refine⟨fun _=>⟨fun c=>?_,fun c=>bn1 h q25⟩,fun _=>bn1 h q25⟩;have a1:at'+1<q:=by lia
 have a0:at'<q:=by lia
 simp! only[bI _ a1,bI _ a0,↓Rz,a1,a0,lX _ _ a0,lX _ _ a1,if_true,e];exact bn1 h q25
theorem bn3 (h:dR ds)(q25:q<=25):Ok (Zu [.par ds,s1,s2,.own (wI q r),.val (.int way),.val (.int at'),.val (.int more)]) pB:=by
 simp! only[↓Zu];refine⟨fun _=>⟨fun c=>?_,fun c=>bn2 h q25⟩,fun _=>bn2 h q25⟩;have a0:at'<q:=by lia
 simp! only[bI _ a0];refine⟨by lia,?_⟩;rw[List.eraseIdx_eq_take_drop_succ,zrb q r,<-List.map_take,<-List.map_drop,<-Lg,zrU];exact bn2 h (by rw[iC,Cv,La,eL,Sj];lia)
theorem Yo (h:dR ds)(q24:q<=24)(ha:at'<=q)(z1:1<=size)(z24:size<=24):Ok (Xq [.par ds,s1,.val (.int size),.own (wI q r),.val (.int way),.val (.int at'),.val (.int more)]) pB:=by
 simp! only[↓Xq];refine⟨fun _=>?_,fun _=>bn3 h (by lia)⟩;refine(eF h (m:=(size:Int)) (by lia) (by lia)).mono ?_;rintro _ ⟨v,d1,h1,hp1,rfl⟩;simp! only[];refine⟨by lia,?_⟩;rw[zrb q r,<-List.map_take,<-List.map_drop,show ∀a b:List Int,a.map D.int++D.int (v:Nat)::b.map D.int=(a++(v:Int)::b).map D.int from fun a b=>by rw[Lg];rfl,zrU];exact bn3 hp1 (by rw[iC,eU,Cv,La,eL,Sj];lia)
end
theorem xF (h:dR ds){m:Nat}(m24:m<=24)(f:Nat->Int)(z1:1<=size)(z24:size<=24):Ok (Rf ds [.tup (wI m f),.int size]) fun x=>∃(m:Nat) (r:Nat->Int) (ds':List D),dR ds'/\m<=25/\x=(.val (.tup (wI m r)),ds'):=by
 simp! only[↓Rf,↓Yi];refine(eF h (m:=7) (by lia) (by lia)).mono ?_;rintro _ ⟨way,d1,h1,hp1,rfl⟩;simp! only[];refine(eF hp1 (m:=(m:Int)+1) (by lia) (by lia)).mono ?_;rintro _ ⟨at',d2,h2,hp2,rfl⟩;simp! only[];refine(eF hp2 (m:=6) (by lia) (by lia)).mono ?_;rintro _ ⟨w,d3,h3,hp3,rfl⟩;obtain⟨more,em⟩:∃z:Int,[D.int 1,D.int (-1),D.int (0-(size:Int)),D.int (size:Int),D.int 100000000000000000000000000000000000000000000000000000000000,D.int (-100000000000000000000000000000000000000000000000000000000000)][w]? =some (.int z):=Wm (l:=[1,-1,0-(size:Int),(size:Int),100000000000000000000000000000000000000000000000000000000000,-100000000000000000000000000000000000000000000000000000000000]) (by show w<6;lia);simp! only[em];refine⟨fun _=>⟨fun c=>?_,fun c=>Yo hp3 m24 (by lia) z1 z24⟩,fun _=>Yo hp3 m24 (by lia) z1 z24⟩;have a0:at'<m:=by lia
 simp! only[bI _ a0,a0,lX _ _ a0,if_true];exact Yo hp3 m24 (by lia) z1 z24
theorem Kd:mF (.str "row") (.tup [.str "row",.str "low",.str "high"])=some (.bl true):=rfl
theorem Hd:mF (.str "low") (.tup [.str "row",.str "low",.str "high"])=some (.bl true):=rfl
theorem xC:mF (.str "high") (.tup [.str "row",.str "low",.str "high"])=some (.bl true):=rfl
theorem rW:mF (.str "round") (.tup [.str "row",.str "low",.str "high"])=some (.bl false):=rfl
theorem xK:mF (.str "part") (.tup [.str "row",.str "low",.str "high"])=some (.bl false):=rfl
theorem nY:mF (.str "clash") (.tup [.str "row",.str "low",.str "high"])=some (.bl false):=rfl
def oA (x:Sl×List D):Prop:=∃(y:D) (ds':List D),dR ds'/\lO y/\x=(.val y,ds')
theorem pP (h:dR ds)(p:Pap y)(z1:1<=size)(z24:size<=24):Ok (uO ds [y,.int size]) oA:=by
 have A:∀{s:Str} {m:Nat} {f:Nat->Int},(s="row"\/s="low"\/s="high")->m<=24->mF (.str s) (.tup [.str "row",.str "low",.str "high"])=some (.bl true)->Ok (uO ds [.tup [.str s,.tup (wI m f)],.int size]) oA:=fun{s m f} hs hm es=>by
  simp! only[↓uO,↓Sk,es];refine(eF h (m:=6) (by lia) (by lia)).mono ?_;rintro _ ⟨w,d1,h1,hp1,rfl⟩;obtain⟨t,ht,et⟩:∃t:Str,(t="row"\/t="low"\/t="high")/\[D.str s,D.str s,D.str s,D.str "low",D.str "high",D.str "row"][w]? =some (.str t):=by
   have:w=0\/w=1\/w=2\/w=3\/w=4\/w=5:=by lia
   rcases this with rfl|rfl|rfl|rfl|rfl|rfl
   ·exact⟨s,hs,rfl⟩
   ·exact⟨s,hs,rfl⟩
   ·exact⟨s,hs,rfl⟩
   ·exact⟨_,.inr (.inl rfl),rfl⟩
   ·exact⟨_,.inr (.inr rfl),rfl⟩
   ·exact⟨_,.inl rfl,rfl⟩
  simp! only[et];refine(xF hp1 hm f z1 z24).mono ?_;rintro _ ⟨m',r,d2,hp2,m25,rfl⟩;simp! only[];exact⟨_,d2,hp2,.inl ⟨t,m',r,ht,m25,rfl⟩,rfl⟩
 have B:∀{s:Str} {i:Int},(s=="clash")=false->mF (.str s) (.tup [.str "row",.str "low",.str "high"])=some (.bl false)->Ok (uO ds [.tup [.str s,.int i],.int size]) oA:=fun{s i} hs es=>by
  simp! only[↓uO,↓Sk,es,↓zeP,hs,↓zih];refine(eF h (m:=5) (by lia) (by lia)).mono ?_;rintro _ ⟨w,d1,h1,hp1,rfl⟩;obtain⟨more,em⟩:∃z:Int,[D.int 0,D.int 1,D.int (-1),D.int (0-(size:Int)),D.int 100000000000000000000000000000000000000000000000000000000000][w]? =some (.int z):=Wm (l:=[0,1,-1,0-(size:Int),100000000000000000000000000000000000000000000000000000000000]) (by show w<5;lia);simp! only[em];refine(eF hp1 (m:=2) (by lia) (by lia)).mono ?_;rintro _ ⟨u,d2,h2,hp2,rfl⟩;obtain⟨t,ht,et⟩:∃t:Str,(t="round"\/t="part")/\[D.str "round",D.str "part"][u]? =some (.str t):=by
   have:u=0\/u=1:=by lia
   rcases this with rfl|rfl
   ·exact⟨_,.inl rfl,rfl⟩
   ·exact⟨_,.inr rfl,rfl⟩
  simp! only[et];exact⟨_,d2,hp2,.inr (.inr ⟨t,_,ht,rfl⟩),rfl⟩
 rcases p with⟨s,m,f,rfl|rfl|rfl,hm,rfl⟩|⟨a,b,rfl⟩|⟨s,i,rfl|rfl,rfl⟩
 ·exact A (.inl rfl) hm Kd
 ·exact A (.inr (.inl rfl)) hm Hd
 ·exact A (.inr (.inr rfl)) hm xC
 ·simp! only[↓uO,↓Sk,nY,↓zeP,gM,Kt];refine(eF h (m:=5) (by lia) (by lia)).mono ?_;rintro _ ⟨w,d1,h1,hp1,rfl⟩;obtain⟨more,em⟩:∃z:Int,[D.int 1,D.int (-1),D.int (0-(size:Int)),D.int (size:Int),D.int 100000000000000000000000000000000000000000000000000000000000][w]? =some (.int z):=Wm (l:=[1,-1,0-(size:Int),(size:Int),100000000000000000000000000000000000000000000000000000000000]) (by show w<5;lia);simp! only[em];refine(eF hp1 (m:=4) (by lia) (by lia)).mono ?_;rintro _ ⟨u,d2,h2,hp2,rfl⟩;obtain⟨a',b',et⟩:∃a' b':Int,[D.tup [.str "clash",.int (a+more),.int b],D.tup [.str "clash",.int a,.int (b+more)],D.tup [.str "clash",.int b,.int a],D.tup [.str "clash",.int a,.int a]][u]? =some (.tup [.str "clash",.int a',.int b']):=by
   have:u=0\/u=1\/u=2\/u=3:=by lia
   rcases this with rfl|rfl|rfl|rfl<;>exact⟨_,_,rfl⟩
  simp! only[et];exact⟨_,d2,hp2,.inr (.inl ⟨_,_,rfl⟩),rfl⟩
 ·exact B (by decide+kernel) rW
 ·exact B (by decide+kernel) xK
def PL (y0:D)(c:Nat)(pl:List D):Prop:=∃rest:List D,pl=y0::rest/\(∀y∈rest,Pap y)/\rest.length<=c
theorem PL.add {y0 y:D}{pl:List D}(h:PL y0 c pl)(p:Pap y):PL y0 (c+1) (pl++[y]):=by
 obtain⟨rest,rfl,h1,h2⟩:=h;exact⟨rest++[y],rfl,fun z hz=>by
  rcases qan.mp hz with a|a
  ·exact h1 z a
  ·rw[qcg.mp a];exact p,by rw[iC,Pp];lia⟩
theorem PL.len {y0:D}{pl:List D}(h:PL y0 c pl):pl.length<=c+1:=by
 obtain⟨rest,rfl,h1,h2⟩:=h;rw[eU];lia
section
variable {k n:Nat} {S L G:Nat->Int}
theorem uY (d:RDim k n)(h:dR ds){y0:D}{pl:List D}(p:PL y0 c pl)(hc:c<=20){w:Str}(hw:w="low"\/w="high")(B:Nat->Int){sg:Int}(hg:sg=1\/sg= -1)(s3 s10 s11 s12 s13 s14 s15:Sl):
  Ok (zdw [.par ds,.val (bK k n S L G),.val (.lst (wI n (rM k n S))),s3,.val (.int (Nat.gcd k n:Nat)),.val (.int n),.own pl,.val (.str w),.val (.tup (wI n B)),.val (.int sg),s10,s11,s12,s13,s14,s15])
   fun x=>∃(ds' pl':List D) (s10 s11 s12:Sl),dR ds'/\PL y0 (c+2) pl'/\x=(.next,[.par ds',.val (bK k n S L G),.val (.lst (wI n (rM k n S))),s3,.val (.int (Nat.gcd k n:Nat)),.val (.int n),.own pl',.val (.str w),.val (.tup (wI n B)),.val (.int sg),s10,s11,s12,s13,s14,s15]):=by
 have n24:=d.n24;have g1:=d.g1;have gk:=d.gk;have gn:=d.gn;have k5:=d.k5;have pl1:=p.len
 generalize hgg:Nat.gcd k n=g at*
 simp! only[↓zdw,↓zf8];refine⟨fT (by lia),gP (fun j ρ=>∃(f:Nat->Int) (s11 s12:Sl),ρ=[.par ds,.val (bK k n S L G),.val (.lst (wI n (rM k n S))),s3,.val (.int g),.val (.int n),.own pl,.val (.str w),.val (.tup (wI n B)),.val (.int sg),.own (wI j f),s11,s12,s13,s14,s15]) ⟨fun _=>0,_,_,rfl⟩ ?_ ?_⟩
 ·rintro j _ hj ⟨f,s11,s12,rfl⟩;have c24:cntS (j:Int) (n:Int) (g:Int)<=24:=by
   by_cases c:cntS (j:Int) (n:Int) (g:Int)<=24
   ·exact c
   ·have h1:=(kF (j:=j) (n:=n) (show 0<g by lia)).mp (show 24<cntS (j:Int) (n:Int) (g:Int) by lia);have:24*1<=24*g:=qcM 24 (by lia);lia
  have c1:1<=cntS (j:Int) (n:Int) (g:Int):=(kF (j:=j) (n:=n) (show 0<g by lia)).mpr (by lia);simp! only[↓zf9,↓zfT,zn1];refine⟨⟨⟨⟨fT (by lia),fT (by lia)⟩,by lia⟩,by lia⟩,by lia,eS (fun ρ=>∃z,ρ=[.val (.int sg),.val (.tup (wI n B)),.val (.lst (wI n (rM k n S))),z]) (fun i=> .tup [.int (sg*(B (j+i*g)-rM k n S (j+i*g))),.int ((j+i*g:Nat):Int)]) ⟨_,rfl⟩ ?_ ?_⟩
  ·rintro i _ hi ⟨z,rfl⟩;have hlt:=(kF (show 0<g by lia)).mp hi;have e3:(j:Int)+(i:Int)*(g:Int)=((j+i*g:Nat):Int):=by push_cast;rfl
   simp! only[↓zgq,e3,bI _ hlt];exact⟨lT (by lia),_,rfl⟩
  rintro _ ⟨z,rfl⟩;obtain⟨i,hi,em⟩:=zrH c1 (fun i=>sg*(B (j+i*g)-rM k n S (j+i*g))) fun i=>((j+i*g:Nat):Int)
  simp! only[em,Lx];exact⟨by lia,_,_,_,rfl⟩
 rintro _ ⟨f,s11,s12,rfl⟩;simp! only[];refine⟨by lia,?_⟩;have p1:PL y0 (c+1) (pl++[.tup [.str w,.tup (wI g f)]]):=p.add (.inl ⟨w,g,f,.inr hw,by lia,rfl⟩);simp! only[↓zfR];have eq:(n:Int)/(g:Int)=((n/g:Nat):Int):=by push_cast;rfl
 have q1:1<=n/g:=(Jy (by lia)).mpr (by lia);have q2:n/g<=n:=Ri _ _;refine⟨fT (by lia),by lia,Kr (fun i acc ρ=>∃(f:Nat->Int) (ds':List D) (s:Sl),dR ds'/\acc=wI i f/\ρ=[.val (.int g),.par ds',.val (.int n),s]) ⟨fun _=>0,ds,.emp,h,rfl,rfl⟩ ?_ ?_⟩
 ·rintro i _ _ hi ⟨f',d4,s,h4,rfl,rfl⟩;simp! only[↓zf6,eq];refine⟨jC (by lia) (by lia),?_⟩;refine(eF h4 (m:=((n/g:Nat):Int)) (by lia) (by lia)).mono ?_;rintro _ ⟨t,d5,ht,h5,rfl⟩;simp! only[];exact⟨lT (by lia),_,d5,_,h5,Lx i f' _,rfl⟩
 rintro _ _ ⟨f',d4,s,h4,rfl,rfl⟩;simp! only[];exact⟨by lia,d4,_,_,_,_,h4,p1.add (y:= .tup [.str w,.tup (wI g f')]) (.inl ⟨w,g,f',.inr hw,by lia,rfl⟩),rfl⟩
end
section
variable {k n:Nat} {S L G lo hi:Nat->Int}
theorem zsc (d:RDim k n)(f:Ye k n S L G lo hi y):Pap y:=by
 have n24:=d.n24;have gn:=d.gn;rcases f with⟨j,_,_,rfl⟩|⟨_,_,rfl⟩|⟨_,_,_,⟨a,b,_,_,_,_,rfl⟩|⟨pl,_,_,rfl⟩|⟨pl,_,_,rfl⟩⟩|⟨_,_,_,rfl⟩
 ·exact .inr (.inr ⟨_,_,.inl rfl,rfl⟩)
 ·exact .inr (.inr ⟨_,_,.inr rfl,rfl⟩)
 ·exact .inr (.inl ⟨_,_,rfl⟩)
 ·exact .inl ⟨_,_,_,.inr (.inl rfl),by lia,rfl⟩
 ·exact .inl ⟨_,_,_,.inr (.inr rfl),by lia,rfl⟩
 ·exact .inl ⟨_,_,_,.inl rfl,by lia,rfl⟩
theorem uH (f:Ye k n S L G lo hi y)(ok:mK k n S)(rm:Room' (Nat.gcd k n) lo hi (tT k n S)):y= .tup [.str "row",.tup (wI n (rR k n S lo hi))]:=by
 rcases f with⟨j,hj,ne,rfl⟩|⟨_,ne,rfl⟩|⟨_,_,nr,_⟩|⟨_,_,_,rfl⟩
 ·exact absurd (ok.1 j hj) ne
 ·exact absurd ok.2 ne
 ·exact absurd rm nr
 ·rfl
theorem PL.all {y0:D}{pl:List D}(h:PL y0 c pl)(p:Pap y0):∀y∈pl,Pap y:=by
 obtain⟨rest,rfl,h1,h2⟩:=h;intro y hy;rcases qam.mp hy with rfl|a
 ·exact p
 ·exact h1 y a
theorem uM (a:D)(l:List D):atI (l++[a]) (-1)=some a:=by
 unfold atI hZ;rw[if_neg (by lia),if_pos (by rw[iC,Pp];lia)];show(l++[a])[(-1+((l++[a]).length:Int)).toNat]? =_;rw[show(-1+((l++[a]).length:Int)).toNat=l.length by rw[iC,Pp];lia,qT (bU _),Nat.sub_self]
 rfl
theorem PL.hd {y0:D}{pl:List D}(h:PL y0 c pl)(l:List D):(pl++l)[0]? =some y0:=by
 obtain⟨rest,rfl,-,-⟩:=h
 rfl
def Xu (x:Sl×List D):Prop:=∃pl ds':List D,dR ds'/\(∀y∈pl,Pap y)/\pl.length<=20/\x=(.own pl,ds')
theorem zsa (d:RDim k n)(sp:gR k n S L G lo hi)(b:Bc 160 n S/\Bc 160 n L/\Bc 160 n G)(h:dR ds):Ok (Nc ds [bK k n S L G]) Xu:=by
 have n24:=d.n24;have g1:=d.g1;have gk:=d.gk;have gn:=d.gn;have k5:=d.k5;have e1:=d.e1;have e5:=d.e5;have n0:0<n:=by lia
 have ed:(k:Int)/((Nat.gcd k n:Nat):Int)=((eT k n:Nat):Int):=by push_cast;rfl
 have er:S 0-aG k (rM k n S)=rT k n S:=rfl;have far:=Hq d b.1 b.2.1 b.2.2 sp;obtain⟨_,em,v,hv,rfl⟩:=xN d sp far;have em:Ok (oS [bK k n S L G]) fun x=>x= .val (.int v):=Ok.of em rfl
 simp! only[↓Nc,↓zfx];refine(Pn d S L G).mono ?_;rintro _ rfl;simp! only[];refine(zrJ d sp).mono ?_;rintro _ ⟨y0,rfl,fy⟩;simp! only[];refine(eF h (m:=((Nat.gcd k n:Nat):Int)) (by lia) (by lia)).mono ?_;rintro _ ⟨i1,d1,hi1,h1,rfl⟩;simp! only[];refine(eF h1 (m:=5) (by lia) (by lia)).mono ?_;rintro _ ⟨i2,d2,hi2,h2,rfl⟩;simp! only[bI _ n0,Ke d,iM,iO,er,ed];refine⟨jC (by lia) (by lia),by lia,?_⟩;have p3:PL y0 3 [y0,.tup [.str "round",.int (i1:Nat)],.tup [.str "part",.int (1+(i2:Nat))],.tup [.str "part",.int (rT k n S%(eT k n:Int))]]:=⟨_,rfl,fun y hy=>by
  rcases qam.mp hy with rfl|hy
  ·exact .inr (.inr ⟨_,_,.inl rfl,rfl⟩)
  ·rcases qam.mp hy with rfl|hy
   ·exact .inr (.inr ⟨_,_,.inr rfl,rfl⟩)
   ·rw[qcg.mp hy];exact .inr (.inr ⟨_,_,.inr rfl,rfl⟩),bU _⟩
 generalize [y0,D.tup [.str "round",.int (i1:Nat)],.tup [.str "part",.int (1+(i2:Nat))],.tup [.str "part",.int (rT k n S%(eT k n:Int))]]=pl at p3
 simp! only[↓zgk];have ew:[D.tup [.str "low",.tup (wI n L),.int 1],D.tup [.str "high",.tup (wI n G),.int (-1)]]=wL 2 fun i=> .tup [.str (if i=0 then "low" else "high"),.tup (wI n (if i=0 then L else G)),.int (if i=0 then 1 else-1)]:=rfl
 rw[ew];refine gP (fun i ρ=>∃(ds' pl':List D) (s7 s8 s9 s10 s11 s12:Sl),dR ds'/\PL y0 (3+2*i) pl'/\ρ=[.par ds',.val (bK k n S L G),.val (.lst (wI n (rM k n S))),.val (.lst (wI (Nat.gcd k n) fun j=>mw k n S j (n/Nat.gcd k n))),.val (.int (Nat.gcd k n:Nat)),.val (.int n),.own pl',s7,s8,s9,s10,s11,s12,.emp,.emp,.emp]) ⟨d2,pl,_,_,_,_,_,_,h2,p3,rfl⟩ ?_ ?_
 ·rintro i _ hi' ⟨ds',pl',s7,s8,s9,s10,s11,s12,h',p',rfl⟩;have hw:(if i=0 then("low":Str)else "high")="low"\/(if i=0 then("low":Str)else "high")="high":=by split<;>simp
  have hg:(if i=0 then(1:Int)else-1)=1\/(if i=0 then(1:Int)else-1)= -1:=by split<;>simp
  generalize (if i=0 then("low":Str)else "high")=w at hw ⊢
  generalize (if i=0 then(1:Int)else-1)=sg at hg ⊢
  generalize (if i=0 then L else G)=B
  simp! only[];refine(uY d h' p' (by lia) hw B hg _ _ _ _ _ _ _).mono ?_;rintro _ ⟨ds2,pl2,t10,t11,t12,q1,q2,rfl⟩;simp! only[];exact⟨ds2,pl2,_,_,_,_,_,_,q1,q2,rfl⟩
 rintro _ ⟨d3,pl,s7,s8,s9,s10,s11,s12,h3,p7,rfl⟩;simp! only[↓zf0];have eq:(n:Int)/((Nat.gcd k n:Nat):Int)=((n/Nat.gcd k n:Nat):Int):=by push_cast;rfl
 have q1:1<=n/Nat.gcd k n:=(Jy (by lia)).mpr (by lia);have q2:n/Nat.gcd k n<=n:=Ri _ _;refine⟨rfl,gP (fun i ρ=>∃(ds' pl':List D) (s13 s14:Sl),dR ds'/\PL y0 (7+i) pl'/\ρ=[.par ds',.val (bK k n S L G),.val (.lst (wI n (rM k n S))),.val (.lst (wI (Nat.gcd k n) fun j=>mw k n S j (n/Nat.gcd k n))),.val (.int (Nat.gcd k n:Nat)),.val (.int n),.own pl',s7,s8,s9,s10,s11,s12,s13,s14,.emp]) ⟨d3,pl,_,_,h3,p7,rfl⟩ ?_ ?_⟩
 ·rintro i _ hi' ⟨ds',pl',s13,s14,h',p',rfl⟩;have pl1:=p'.len;simp! only[↓zgc];refine(eF h' (m:=(n:Int)) (by lia) (by lia)).mono ?_;rintro _ ⟨a,d5,ha,h5,rfl⟩;simp! only[eq];refine⟨jC (by lia) (by lia),?_⟩;refine(eF h5 (m:=((n/Nat.gcd k n:Nat):Int)) (by lia) (by lia)).mono ?_;rintro _ ⟨t,d6,ht,h6,rfl⟩;simp! only[];exact⟨lT (by lia),by lia,by lia,d6,_,_,_,h6,p'.add (.inr (.inl ⟨_,_,rfl⟩)),rfl⟩
 rintro _ ⟨d4,pl,s13,s14,h4,p10,rfl⟩;have pl1:=p10.len;simp! only[];refine em.mono ?_;rintro _ rfl;simp! only[];refine⟨fun v0=>?_,fun _=>?_⟩
 ·obtain⟨ok,rm⟩:=hv v0;have ey:=uH fy ok rm;subst ey;refine(eF h4 (m:=1000000000000000000) (by lia) (by lia)).mono ?_;rintro _ ⟨t,d5,ht,h5,rfl⟩;simp! only[];refine⟨v0,?_⟩;refine(Oz d sp far (wR d b.1 b.2.1 b.2.2 sp) em (Le _ (by lia)) (Ya _ v0)).mono ?_;rintro _ ⟨r,rfl⟩;have p11:=p10.add (y:= .tup [.str "row",.tup (wI n r)]) (.inl ⟨_,_,_,.inl rfl,by lia,rfl⟩);have pl2:=p11.len;simp! only[uM];refine⟨by lia,?_⟩;refine(zlu h5 n24 g1 (by lia) r).mono ?_;rintro _ ⟨r2,d6,h6,rfl⟩
  generalize pl++[D.tup [.str "row",.tup (wI n r)]]=pl at p11 pl2 ⊢
  have p12:=p11.add (y:= .tup [.str "row",.tup (wI n r2)]) (.inl ⟨_,_,_,.inl rfl,by lia,rfl⟩);have pl3:=p12.len;simp! only[p11.hd];refine⟨by lia,?_⟩;refine(zlu h6 n24 g1 (by lia) _).mono ?_;rintro _ ⟨r3,d7,h7,rfl⟩
  generalize pl++[D.tup [.str "row",.tup (wI n r2)]]=pl at p12 pl3 ⊢
  have p13:=p12.add (y:= .tup [.str "row",.tup (wI n r3)]) (.inl ⟨_,_,_,.inl rfl,by lia,rfl⟩);have pl4:=p13.len;simp! only[↓Xp];exact⟨by lia,_,d7,h7,p13.all (zsc d fy),by lia,rfl⟩
 ·simp! only[↓Xp];exact⟨_,d4,h4,p10.all (zsc d fy),by lia,rfl⟩
end
theorem Yk (a:Bool):fU (.bl a) (.bl a)=some (.bl false):=by
 unfold fU;rw[show bQ (.bl a)=true from rfl,show depth (.bl a)=0 from rfl];cases a<;>rfl
theorem qQ (l:List D):l=wL l.length fun i=>l.getD i .non:=by
 apply lM;intro j
 by_cases h:j<l.length
 ·rw[bI _ h,cG h];simp[List.getD,h]
 ·rw[eE (by lia),eE (by rw[dQ];lia)]
theorem Pap.up (h:Pap y):lO y:=by
 rcases h with⟨s,m,f,hs,hm,rfl⟩|h|h
 ·exact .inl ⟨s,m,f,hs,by lia,rfl⟩
 ·exact .inr (.inl h)
 ·exact .inr (.inr h)
section
variable {k n:Nat} {S L G lo hi:Nat->Int}
theorem wZ (d:RDim k n)(sp:gR k n S L G lo hi)(hp:lO y)(s0 s1 s2 s4 s6:Sl):Ok (zlS [s0,s1,s2,.val (bK k n S L G),s4,.val y,s6]) fun x=>∃s6,x=(.next,[s0,s1,s2,.val (bK k n S L G),s4,.val y,s6]):=by
 obtain⟨z,h1,h2⟩:=Dv d sp hp;have go:∀{s:Str} {l:List D},y= .tup (.str s::l)->(s=="row")=false->Ok (Pu [s0,s1,s2,.val (bK k n S L G),s4,.val y,.val (.bl z)]) fun x=>∃s6,x=(.next,[s0,s1,s2,.val (bK k n S L G),s4,.val y,s6]):=fun{s l} e hs=>by
  subst e;simp! only[↓Pu,hs];exact⟨_,rfl⟩
 have last:Ok (Pu [s0,s1,s2,.val (bK k n S L G),s4,.val y,.val (.bl z)]) fun x=>∃s6,x=(.next,[s0,s1,s2,.val (bK k n S L G),s4,.val y,s6]):=by
  rcases id hp with⟨s,m,f,rfl|rfl|rfl,hm,rfl⟩|⟨a,b,rfl⟩|⟨s,i,rfl|rfl,rfl⟩
  ·obtain⟨z',h3,h4⟩:=same (zkP d sp (Sq.tup m f)) (zkP d sp (Sq.lst m f));have e:z'=z:=by
    obtain⟨_,e1,rfl⟩:=h1;obtain⟨_,e2,e3⟩:=h3;rw[e1]at e2;cases e2;cases e3
    rfl
   subst e;simp! only[↓Pu,gM];refine h4.mono ?_;rintro _ rfl;simp! only[Yk];exact⟨_,rfl⟩
  ·exact go rfl (by decide+kernel)
  ·exact go rfl (by decide+kernel)
  ·exact go rfl (by decide+kernel)
  ·exact go rfl (by decide+kernel)
  ·exact go rfl (by decide+kernel)
 simp! only[↓zlS];refine h1.mono ?_;rintro _ rfl;simp! only[];refine⟨by decide,fun h=>absurd h (by decide),fun _=>?_⟩;refine h2.mono ?_;rintro _ rfl;simp! only[Yk,↓zoT];refine h1.mono ?_;rintro _ rfl;simp! only[Yk];exact last
end
theorem math (ns:List Int)(hl:ns.length<=63):Bp [.scr ns]=some (.val (.bl true)):=by
 have:Ok (Bp [.scr ns]) fun r=>r= .val (.bl true):=by
  have ct:bS ns none (some 5)=ns.take 5:=zo4 ns 5;have len:(ns.take 5).length<=5:=by rw[Cv];lia
  simp! only[↓Bp,↓rY,↓zpa,ct];refine⟨by lia,?_⟩;rw[show(ns.take 5).map D.int++[D.int 0]=(ns.take 5++[0]).map D.int by simp];refine rJ (enc:=D.int) (l:=ns.take 5++[0]) (fun _ ρ=>∃s1 s2 s3 s4 s5 s6,ρ=[.val (.scr ns),s1,s2,s3,s4,s5,s6]) ⟨_,_,_,_,_,_,rfl⟩ ?_ ?_
  ·rintro i c _ _ ⟨s1,s2,s3,s4,s5,s6,rfl⟩;simp! only[↓zo2];refine(uX c).mono ?_;rintro _ ⟨d1,h1,rfl⟩;simp! only[];refine(yZ h1).mono ?_;rintro _ ⟨k,n,S,L,G,d2,d,h2,bb,rfl⟩;have n24:=d.n24;have n0:0<n:=by have:=d.k2;have:=d.kn;lia
   obtain⟨lo,hi,sp,-⟩:=zn8 (rA k n S L) (rA k n S G) d.g1 d.gn;simp! only[];refine(zsa d sp ⟨bb.1.1.mono (by lia),bb.1.2.1.mono (by lia),bb.1.2.2.mono (by lia)⟩ h2).mono ?_;rintro _ ⟨pl,d3,h3,hp,hn,rfl⟩;obtain⟨m,e,he,hm,rfl⟩:∃(m:Nat) (e:Nat->D),(∀i,i<m->Pap (e i))/\m<=20/\pl=wL m e:=⟨pl.length,fun i=>pl.getD i .non,fun i hi'=>hp _ (by simp[List.getD,hi']),hn,qQ pl⟩;simp! only[↓zoS,↓zph];refine⟨by lia,Kr (fun i acc ρ=>∃(f:Nat->D) (ds':List D) (s:Sl),dR ds'/\(∀j,j<i->lO (f j))/\acc=wL i f/\ρ=[.par ds',.val (bK k n S L G),s]) ⟨e,d3,.emp,h3,fun _ h=>by lia,rfl,rfl⟩ ?_ ?_⟩
   ·rintro i _ _ hi' ⟨f,d4,s,h4,hf,rfl,rfl⟩;simp! only[↓zo1];refine(pP h4 (he i hi') (show 1<=n by lia) n24).mono ?_;rintro _ ⟨y,d5,h5,hy,rfl⟩;simp! only[];refine⟨fun j=>if j<i then f j else y,d5,_,h5,fun j hj=>?_,zor _ _ _,rfl⟩
    by_cases c:j<i
    ·simp only[c,if_true];exact hf j c
    ·simp only[c,iK];exact hy
   rintro _ _ ⟨f,d4,s,h4,hf,rfl,rfl⟩;have all:∀y∈wL m e++wL m f,lO y:=fun y hy=>by
    rcases qan.mp hy with a|a
    ·obtain⟨i,hi',rfl⟩:=qbV.mp a;exact(he i (qah.mp hi')).up
    ·obtain⟨i,hi',rfl⟩:=qbV.mp a;exact hf i (qah.mp hi')
   simp! only[];refine⟨by lia,?_⟩
   generalize wL m e++wL m f=X at all ⊢
   rw[qQ X];refine gP (fun _ ρ=>∃s1 s2 s4 s5 s6,ρ=[.val (.scr ns),s1,s2,.val (bK k n S L G),s4,s5,s6]) ⟨_,_,_,_,_,rfl⟩ ?_ ?_
   ·rintro i _ hi' ⟨s1,s2,s4,s5,s6,rfl⟩;simp! only[];refine(wZ d sp (all (X.getD i .non) (by simp[List.getD,hi'])) _ _ _ _ _).mono ?_;rintro _ ⟨s6,rfl⟩;simp! only[];exact⟨_,_,_,_,_,rfl⟩
   ·rintro _ ⟨s1,s2,s4,s5,s6,rfl⟩;simp! only[];exact⟨_,_,_,_,_,_,rfl⟩
  ·rintro _ ⟨s1,s2,s3,s4,s5,s6,rfl⟩;simp! only[]
 obtain⟨_,e,rfl⟩:=this.ex;exact e
end Prf
def PySem.W.Fast.tw17365079004004507550:Nat:=0
def PySem.W.Fast.tw8718194632608415143:Nat:=0
def PySem.W.Fast.tw9910181268104052344:Nat:=0
def PySem.W.Fast.tw5398124915744997319:Nat:=0
def PySem.W.Fast.tw5359870623705875561:Nat:=0
def PySem.W.Fast.tw16091584307418079335:Nat:=0
def PySem.W.Fast.tw4374624149317715488:Nat:=0
def PySem.W.Fast.tw646625477886698137:Nat:=0
def PySem.W.Fast.tw11200264459197682366:Nat:=0
def PySem.W.Fast.tw11807760048297943286:Nat:=0
def PySem.W.Fast.tw4203860062347623434:Nat:=0
def PySem.W.Fast.tw10262703264855322481:Nat:=0
def PySem.W.Fast.tw10045728630639972335:Nat:=0
def PySem.W.Fast.tw12882844674026125431:Nat:=0
def PySem.W.Fast.tw4839128447962931883:Nat:=0
def PySem.W.Fast.tw17295455748671887275:Nat:=0
def PySem.W.Fast.tw11400541593328136883:Nat:=0
def PySem.W.Fast.tw3757018565404582680:Nat:=0
def PySem.W.Fast.tw978943546829376525:Nat:=0
def PySem.W.Fast.tw6929707784882775533:Nat:=0
def PySem.W.Fast.tw14201350697174946449:Nat:=0
def PySem.W.Fast.tw6611045148160447735:Nat:=0
def PySem.W.Fast.tw18311804198141515335:Nat:=0
def PySem.W.Fast.tw1037937605871763447:Nat:=0
def PySem.W.Fast.tw15674653609275905307:Nat:=0
def PySem.W.Fast.tw5960814608738308291:Nat:=0
def PySem.W.Fast.tw1041888940698583107:Nat:=0
def PySem.W.Fast.tw1444661873828560111:Nat:=0
def PySem.W.Fast.tw10463911021205271383:Nat:=0
def PySem.W.Fast.tw3518124614827325346:Nat:=0
def PySem.W.Fast.tw14727906096175222889:Nat:=0
def PySem.W.Fast.tw9748991211275681271:Nat:=0
def PySem.W.Fast.tw6430101125107948499:Nat:=0
def PySem.W.Fast.tw9875252878963140238:Nat:=0
def PySem.W.Fast.tw2486063310421188043:Nat:=0
def PySem.W.Fast.tw6969956166443148320:Nat:=0
def PySem.W.Fast.tw9736659017176294159:Nat:=0
def PySem.W.Fast.tw16676957347818677936:Nat:=0
def PySem.W.Fast.tw15939441821681485590:Nat:=0
def PySem.W.Fast.tw3661706564083948479:Nat:=0
def PySem.W.Fast.tw8346770534722766884:Nat:=0
def PySem.W.Fast.tw11321281598112127548:Nat:=0
def PySem.W.Fast.tw1218248530163080837:Nat:=0
def PySem.W.Fast.tw1479464078818540443:Nat:=0
def PySem.W.Fast.tw15002188899961506410:Nat:=0
def PySem.W.Fast.tw14986791887258884414:Nat:=0
def PySem.W.Fast.tw1605727772296735217:Nat:=0
def PySem.W.Fast.tw12140931541954246349:Nat:=0
def PySem.W.Fast.tw9143585078295253176:Nat:=0
def PySem.W.Fast.tw6774514974195559762:Nat:=0
def PySem.W.Fast.tw11470670385656352564:Nat:=0
def PySem.W.Fast.tw15762666389329782734:Nat:=0
def PySem.W.Fast.tw16560023110908598112:Nat:=0
def PySem.W.Fast.tw6338156959987665282:Nat:=0
def PySem.W.Fast.tw8532914977610184700:Nat:=0
def PySem.W.Fast.tw10992660216885123402:Nat:=0
def PySem.W.Fast.tw14723460086885869557:Nat:=0
def PySem.W.Fast.tw3678489651352713526:Nat:=0
def PySem.W.Fast.tw3171297274551618269:Nat:=0
def PySem.W.Fast.tw10780242788008955808:Nat:=0
def PySem.W.Fast.tw13544803721135629022:Nat:=0
def PySem.W.Fast.tw9120344961779688081:Nat:=0
def PySem.W.Fast.tw6300816354784557997:Nat:=0
def PySem.W.Fast.tw5397840178178925558:Nat:=0
def PySem.W.Fast.tw13742794308609152220:Nat:=0
def PySem.W.Fast.tw17439429922947937026:Nat:=0
def PySem.W.Fast.tw9631989845484959138:Nat:=0
def PySem.W.Fast.tw7117978217533828986:Nat:=0
def PySem.W.Fast.tw319407545202984417:Nat:=0
def PySem.W.Fast.tw11645525313628148664:Nat:=0
def PySem.W.Fast.tw7773498614303329675:Nat:=0
def PySem.W.Fast.tw10016506474156544260:Nat:=0
def PySem.W.Fast.tw16951613219269365443:Nat:=0
def PySem.W.Fast.tw8371589249574061354:Nat:=0
def PySem.W.Fast.tw11659997783889939921:Nat:=0
def PySem.W.Fast.tw10396368463173433527:Nat:=0
def PySem.W.Fast.tw14770889214953289652:Nat:=0
def PySem.W.Fast.tw13659102171968171925:Nat:=0
def PySem.W.Fast.tw12676886025155592578:Nat:=0
def PySem.W.Fast.tw10594687162098566743:Nat:=0
def PySem.W.Fast.tw16606396808854699528:Nat:=0
def PySem.W.Fast.tw12103934021737569330:Nat:=0
def PySem.W.Fast.tw15170923197747651998:Nat:=0
def PySem.W.Fast.tw6795822154765523731:Nat:=0
def PySem.W.Fast.tw3185923416801757213:Nat:=0
def PySem.W.Fast.tw13465797578503603533:Nat:=0
def PySem.W.Fast.tw7062061636632752324:Nat:=0
def PySem.W.Fast.tw12457402628983862191:Nat:=0
def PySem.W.Fast.tw8025091173577572548:Nat:=0
def PySem.W.Fast.tw11248539833800086315:Nat:=0
def PySem.W.Fast.tw3617087589410766940:Nat:=0
def PySem.W.Fast.tw2059888621817579417:Nat:=0
def PySem.W.Fast.tw14440611058808345430:Nat:=0
def PySem.W.Fast.tw5231836010975506061:Nat:=0
def PySem.W.Fast.tw3511102407631172976:Nat:=0
def PySem.W.Fast.tw12893327063352649655:Nat:=0
def PySem.W.Fast.tw2995395942815325616:Nat:=0
def PySem.W.Fast.tw14733633275234711559:Nat:=0
def PySem.W.Fast.tw14178476411786553518:Nat:=0
def PySem.W.Fast.tw17669621073367459141:Nat:=0
def PySem.W.Fast.tw17756811546267744610:Nat:=0
def PySem.W.Fast.tw8089561475301222810:Nat:=0
def PySem.W.Fast.tw14411758795659244537:Nat:=0
def PySem.W.Fast.tw6813007523500158381:Nat:=0
def PySem.W.Fast.tw16599846280156551746:Nat:=0
def PySem.W.Fast.tw17850562139308712847:Nat:=0
def PySem.W.Fast.tw6730372036991285982:Nat:=0
def PySem.W.Fast.tw9903010817338182396:Nat:=0
def PySem.W.Fast.tw8425396651234083633:Nat:=0
def PySem.W.Fast.tw12245957762052132731:Nat:=0
def PySem.W.Fast.tw8312425667711811557:Nat:=0
def PySem.W.Fast.tw5126689798624526033:Nat:=0
def PySem.W.Fast.tw15768253928814206390:Nat:=0
def PySem.W.Fast.tw7535660674382203460:Nat:=0
def PySem.W.Fast.tw7795239198650293789:Nat:=0
def PySem.W.Fast.tw17433373925068621247:Nat:=0
def PySem.W.Fast.tw7926501250304715528:Nat:=0
def PySem.W.Fast.tw10552929426956725059:Nat:=0
def PySem.W.Fast.tw12438782442785521494:Nat:=0
def PySem.W.Fast.tw7753492136416028326:Nat:=0
def PySem.W.Fast.tw14047386820533110623:Nat:=0
def PySem.W.Fast.tw6575025458897275496:Nat:=0
def PySem.W.Fast.tw12386024018671428339:Nat:=0
def PySem.W.Fast.tw9454969091135220323:Nat:=0
def PySem.W.Fast.tw2130000566042615191:Nat:=0
def PySem.W.Fast.tw14008242511040600072:Nat:=0
def PySem.W.Fast.tw13510300994560328204:Nat:=0
def PySem.W.Fast.tw6577415793665869658:Nat:=0
def PySem.W.Fast.tw9478905158621852649:Nat:=0
def PySem.W.Fast.tw11183924058553484034:Nat:=0
def PySem.W.Fast.tw11882081003833414666:Nat:=0
def PySem.W.Fast.tw17114708618306426440:Nat:=0
def PySem.W.Fast.tw15117093343956945729:Nat:=0
def PySem.W.Fast.tw16711951469305983606:Nat:=0
def PySem.W.Fast.tw12255144085179124064:Nat:=0
def PySem.W.Fast.tw12803880807048783295:Nat:=0
def PySem.W.Fast.tw388667993711367180:Nat:=0
def PySem.W.Fast.tw6752344367711528116:Nat:=0
def PySem.W.Fast.tw12633861998295449545:Nat:=0
def PySem.W.Fast.tw3801774369119131010:Nat:=0
def PySem.W.Fast.tw6734830156774256348:Nat:=0
def PySem.W.Fast.tw2524681566794152308:Nat:=0
def PySem.W.Fast.tw7901895811414219966:Nat:=0
def PySem.W.Fast.tw10400974283875962379:Nat:=0
def PySem.W.Fast.tw6198784430037416857:Nat:=0
def PySem.W.Fast.tw15081056197844385285:Nat:=0
def PySem.W.Fast.tw6288061182209695572:Nat:=0
def PySem.W.Fast.tw1331044956929449878:Nat:=0
def PySem.W.Fast.tw15731339046655566869:Nat:=0
def PySem.W.Fast.tw6168909746745767719:Nat:=0
def PySem.W.Fast.tw7045232332545456596:Nat:=0
def PySem.W.Fast.tw10794337886912134754:Nat:=0
def PySem.W.Fast.tw16396890475951804694:Nat:=0
def PySem.W.Fast.tw7378259074316909726:Nat:=0
def PySem.W.Fast.tw8759546234579089394:Nat:=0
def PySem.W.Fast.tw4006446306401684456:Nat:=0
def PySem.W.Fast.tw14318665068245447838:Nat:=0
def PySem.W.Fast.tw14362384890604514795:Nat:=0
def PySem.W.Fast.tw7495559073363798338:Nat:=0
def PySem.W.Fast.tw7617703495349099836:Nat:=0
def PySem.W.Fast.tw15550617136883275473:Nat:=0
def PySem.W.Fast.tw17135805187864220852:Nat:=0
def PySem.W.Fast.tw13389777936772251390:Nat:=0
def PySem.W.Fast.tw1741661275541590910:Nat:=0
def PySem.W.Fast.tw16849783336122778681:Nat:=0
def PySem.W.Fast.tw347655713589688385:Nat:=0
def PySem.W.Fast.tw364294130240203078:Nat:=0
def PySem.W.Fast.tw3264840888400844692:Nat:=0
def PySem.W.Fast.tw13427780049463847830:Nat:=0
def PySem.W.Fast.tw11357112426995515378:Nat:=0
def PySem.W.Fast.tw12149886866410014366:Nat:=0
def PySem.W.Fast.tw9681189414851986112:Nat:=0
def PySem.W.Fast.tw9379593447796448063:Nat:=0
def PySem.W.Fast.tw4817123320473388941:Nat:=0
def PySem.W.Fast.tw1551929400091801209:Nat:=0
def PySem.W.Fast.tw2308071535059772290:Nat:=0
def PySem.W.Fast.tw15483501759300349039:Nat:=0
def PySem.W.Fast.tw12705186522325589987:Nat:=0
def PySem.W.Fast.tw18262305970342202260:Nat:=0
def PySem.W.Fast.tw12489539874726192415:Nat:=0
def PySem.W.Fast.tw3236723542177594687:Nat:=0
def PySem.W.Fast.tw15275445248123846232:Nat:=0
def PySem.W.Fast.tw16019213030381993674:Nat:=0
def PySem.W.Fast.tw14299833438970726088:Nat:=0
def PySem.W.Fast.tw4958899528295446565:Nat:=0
def PySem.W.Fast.tw3694522279794630800:Nat:=0
def PySem.W.Fast.tw4223547538391508417:Nat:=0
def PySem.W.Fast.tw8303541440206109076:Nat:=0
def PySem.W.Fast.tw8900326647965295367:Nat:=0
def PySem.W.Fast.tw13162352691238038070:Nat:=0
def PySem.W.Fast.tw3415411374553405614:Nat:=0
def PySem.W.Fast.tw17179381811666426338:Nat:=0
def PySem.W.Fast.tw13266286809475647021:Nat:=0
def PySem.W.Fast.tw9526903470751322081:Nat:=0
def PySem.W.Fast.tw13881147597461781229:Nat:=0
def PySem.W.Fast.tw1610681872112935784:Nat:=0
def PySem.W.Fast.tw16567038560630883590:Nat:=0
def PySem.W.Fast.tw1108414358806428351:Nat:=0
def PySem.W.Fast.tw16769751212858744540:Nat:=0
def PySem.W.Fast.tw16433879673970140903:Nat:=0
def PySem.W.Fast.tw17535203214730175693:Nat:=0
def PySem.W.Fast.tw5096193787965488457:Nat:=0
def PySem.W.Fast.tw7896355443750124127:Nat:=0
def PySem.W.Fast.tw13411555507454563164:Nat:=0
def PySem.W.Fast.tw12080209731787577992:Nat:=0
def PySem.W.Fast.tw15911188116466251033:Nat:=0
def PySem.W.Fast.tw16382859751382605301:Nat:=0
def PySem.W.Fast.tw16508122141734036790:Nat:=0
def PySem.W.Fast.tw8026373065890197923:Nat:=0
def PySem.W.Fast.tw10259194452681937335:Nat:=0
def PySem.W.Fast.tw1865633454750914095:Nat:=0
def PySem.W.Fast.tw625751501164883325:Nat:=0
def PySem.W.Fast.tw16043039097489322037:Nat:=0
def PySem.W.Fast.tw14522907803826889864:Nat:=0
def PySem.W.Fast.tw10364899835956401384:Nat:=0
def PySem.W.Fast.tw6230847742640112628:Nat:=0
def PySem.W.Fast.tw14068081364604285592:Nat:=0
def PySem.W.Fast.tw15669893076876051296:Nat:=0
open PyProof.Rows PySem PySem.W
set_option maxRecDepth 100000 in
set_option maxHeartbeats 0 in
theorem PySem.Challenge.cw_tellsum_k34_rings_judged_holds : PySem.Challenge.rw_tellsum_k34_rings_judged.Holds := by
  w_on; o_law; k_head; (case hw => w_witness2)
  k_fill
  refine Prf.walk (l := PySem.Challenge.rw_tellsum_k34_rings_judged) rfl rfl Prf.math (fun w h Y => W.kIn_of Y) ?F
  case F =>
    intro w mg fa h KX G hmg
    refine' Prf.Jw KX G hmg ?h1 ?h2 ?h3 ?h4 ?h5 ?h6 ?h7 ?h8 ?h9 ?h10 ?h11 ?h12 ?h13 ?h14 ?h15 ?h16 ?h17 ?h18 ?h19 ?h20 ?h21 ?h22 ?h23 ?h24 ?h25 ?h26 ?h27 ?h28 ?h29 ?h30 ?h31 ?h32 ?h33 ?h34 ?h35 ?h36 ?h37 ?h38 ?h39 ?h40 ?h41 ?h42 ?h43 ?h44 ?h45 ?h46 ?h47 ?h48 ?h49 ?h50 ?h51 ?h52 ?h53 ?h54 ?h55 ?h56 ?h57 ?z0 ?z1 ?z2 ?z3 ?z4 ?z5 ?z6 ?z7 ?z8 ?z9 ?z10 ?z11 ?z12 ?zhI ?zly ?hsp ?htk ?zio ?zir ?ziL ?ziQ ?ziA ?ziy ?ziv ?ziJ ?zkS ?zkK ?zd9
    (case h1 | h2 | h3 | h4 | h5 | h6 | h7 | h8 | h9 | h10 | h11 | h12 | h13 | h14 | h15 | h16 | h17 | h18 | h19 | h20 | h21 | h22 | h23 | h24 | h25 | h26 | h27 | h28 | h29 | h30 | h31 | h32 | h33 | h34 | h35 | h36 | h37 | h38 | h39 | h40 | h41 | h42 | h43 | h44 | h45 | h46 | h47 | h48 | h49 | h50 | h51 | h52 | h53 | h54 | h55 | h56 | h57 =>
      refine' M.FnAt.mk ?a ?l ?c ?k
      (case a => k_is)
      (case l => k_is)
      (case c => k_is)
      (case k => k_is))
    (case z0 | z1 | z2 | z3 | z4 | z5 | z6 | z7 | z8 | z9 | z10 | z11 | z12 | zhI | zly | hsp | htk | zio | zir | ziL | ziA | ziy | ziv | zkS | zkK | zd9 => k_is)
    (case ziQ | ziJ => rfl)
end
