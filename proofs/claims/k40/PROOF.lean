import PyProof.Rows.All
import Wide.All
import OpenK.AllK
import Wide.FinOn
import Lean
import PyProof.EqAt
import PyProof.EqKinds
import PyProof.TupleCall
import PyProof.Rows.Range3
import PyProof.ZipIter
import PyProof.Draws
import PyProof.EnumMake
import PyProof.Rows.FactsTup
import PyProof.LayNew
import PyProof.Rows.SeqMore2
import PyProof.Rows.RuleIs
import KE.KRevIter
import PyProof.P3In
import KE.KSortTup
import PyProof.Rows.SortWalk
import PySem.Challenge.RW_tellsum_k40_whole_numbers_or_a_tour
set_option Elab.async false
set_option linter.all false
set_option bootstrap.genMatcherCode false
set_option compiler.extract_closed false
set_option maxRecDepth 100000
theorem zu0(h:True:=by first|exact .inl rfl|exact .inr rfl|assumption):True:=trivial
theorem zu1(h:True:=by decide):True:=trivial
theorem zu2(h:True:=by rfl):True:=trivial
theorem zu3(h:True:=by intro _;rfl):True:=trivial
theorem zu4(h:True:=by intros;rfl):True:=trivial
theorem zu5(h:True:=by with_unfolding_all rfl):True:=trivial
theorem zu6(h:True:=by first|exact Or.inl rfl|exact Or.inr (Or.inl rfl)|exact Or.inr (Or.inr rfl)):True:=trivial
theorem zu7(h:True:=by exact fun _ _=>rfl):True:=trivial
theorem zu8(h:True:=by decide+kernel):True:=trivial
theorem zu9(h:True:=by exact fun _=>rfl):True:=trivial
theorem zu10(h:True:=by first|exact Or.inl rfl|exact Or.inr rfl):True:=trivial
theorem zu11(h:True:=by kernel_rfl):True:=trivial
noncomputable section
namespace L2
open PyProof.Rows PySem PySem.Spec
variable {xs vs:List V} {us its:List Value} {x qual:Str} {u cd:Value} {H:Hp} {a b it:Addr} {o:Obj} {w:World} {h base:Heap} {g':Array GenState} {t' i j k n:Nat} {d':Drawn} {ch fp:List Addr} {e c tg:Expr} {pins' pins pl:List (Addr×Obj)} {N ps:List Str} {A:Around} {E:Value->Shared->Prop} {v:V} {Q:Unit->Shared->Prop} {X:Cx} {t:TSet} {s s':Shared} {pos pos':Pos} {σ:St} {K:W.Frag} {f:Value->Value->Sem Value} {tc:TT} {es:List Expr} {te:TE} {g:Int->Int->Int} {op op':CmpOp} {tget:V->V->Hp->VK->Prop} {body:List Stmt} {tb:TS} {p:Addr×Obj} {r:V->Hp->VK->Prop} {C:Int->Int->Prop} {fd:FuncData} {kindOf:Str->Option NameKind} {sc scope:Scope} {CX:CXT} {mg:Str->Option Value} {outer:List Env} {params:Arguments}
noncomputable abbrev Key:=Sum Int Str
noncomputable def zmn:Key->Value->Bool
 | .inl k,v=>Value.isInt k v
 | .inr x,v=>Value.isStrOf x v
noncomputable def keyH (w:World):Key->Int
 | .inl k=>hashInt k
 | .inr x=>hashStr w x
theorem zbn:∀{k:Key} {v:Value},zmn k v=true->(∃i t,k=Sum.inl i/\v=Value.int i t)\/(∃x t,k=Sum.inr x/\v=Value.str x t)
 | .inl i,v,h=>by
  obtain⟨t,e⟩:=Value.isInt_shape (k:=i) (v:=v) h
  exact .inl ⟨i,t,rfl,e⟩
 | .inr x,v,h=>by
  obtain⟨t,e⟩:=Value.isStrOf_shape (x:=x) (v:=v) h
  exact .inr ⟨x,t,rfl,e⟩
theorem zm5 (i:Int)(t:Tok):zmn (.inl i) (.int i t)=true:=by simp[zmn,Value.isInt]
theorem zm2 (x:Str)(t:Tok):zmn (.inr x) (.str x t)=true:=by simp[zmn,Value.isStrOf]
theorem key_ll (a b:Int):decide ((Sum.inl a:Key)=Sum.inl b)=(a==b):=by
 by_cases e:a=b
 ·subst e;simp
 ·have h:¬(Sum.inl a:Key)=Sum.inl b:=fun q=>e (Sum.inl.inj q)
  rw[decide_eq_false h]
  exact(beq_eq_false_iff_ne.mpr e).symm
theorem key_rr (a b:Str):decide ((Sum.inr a:Key)=Sum.inr b)=decide (a=b):=by
 by_cases e:a=b
 ·subst e;simp
 ·have h:¬(Sum.inr a:Key)=Sum.inr b:=fun q=>e (Sum.inr.inj q)
  rw[decide_eq_false h,decide_eq_false e]
theorem key_lr (a:Int)(b:Str):decide ((Sum.inl a:Key)=Sum.inr b)=false:=decide_eq_false (fun q=>nomatch q)
theorem key_rl (a:Str)(b:Int):decide ((Sum.inr a:Key)=Sum.inl b)=false:=decide_eq_false (fun q=>nomatch q)
noncomputable def zbU (prog:Program)(w:World):PySem.KeyKind prog w Key where
 is:=zmn
 hash:=keyH w
 inj:=fun v a b ha hb=>by
  rcases zbn ha with⟨i,t,rfl,rfl⟩|⟨x,t,rfl,rfl⟩
  ·rcases zbn hb with⟨j,u,rfl,e⟩|⟨y,u,rfl,e⟩
   ·injection e with e1 _;rw[e1]
   ·exact nomatch e
  ·rcases zbn hb with⟨j,u,rfl,e⟩|⟨y,u,rfl,e⟩
   ·exact nomatch e
   ·injection e with e1 _;rw[e1]
 byValue:=fun k v h=>by
  rcases zbn h with⟨i,t,rfl,rfl⟩|⟨x,t,rfl,rfl⟩<;>rfl
 pyHash:=fun hv h=>by
  rcases zbn hv with⟨i,t,rfl,rfl⟩|⟨x,t,rfl,rfl⟩
  ·exact wpAny_pyHash_int h
  ·exact wpAny_pyHash_str h
 eqBool:=fun hu hv h=>by
  rcases zbn hu with⟨i,t,rfl,rfl⟩|⟨x,t,rfl,rfl⟩
  ·rcases zbn hv with⟨j,u,rfl,rfl⟩|⟨y,u,rfl,rfl⟩
   ·rw[key_ll]at h;exact wpAny_eqBool_int h
   ·rw[key_lr]at h;exact SeqAt.EqAt.int_str i t y u _ _ _ _ h
  ·rcases zbn hv with⟨j,u,rfl,rfl⟩|⟨y,u,rfl,rfl⟩
   ·rw[key_rl]at h;exact SeqAt.EqAt.str_int x t j u _ _ _ _ h
   ·rw[key_rr]at h;exact wpAny_eqBool_str h
 «strs»:=fun k x t v h=>by
  rcases zbn h with⟨i,u,rfl,e⟩|⟨y,u,rfl,e⟩
  ·exact nomatch e
  ·injection e with e1 _
   subst e1
   cases v<;>rfl
theorem zkZ (prog:Program)(w:World)(i:Int)(t:Tok):(zbU prog w).is (.inl i) (.int i t)=true:=zm5 i t
theorem zkP (prog:Program)(w:World)(x:Str)(t:Tok):(zbU prog w).is (.inr x) (.str x t)=true:=zm2 x t
inductive V where
 |non|bl (b:Bool)|int (i:Int)|str (x:Str)|byt (b:Array UInt8)|flt (b:UInt64)|ref (a:Addr)|ty (n:String)
 deriving DecidableEq
noncomputable def RelV:V->Value->Prop
 | .non,u=>u=Value.none
 | .bl b,u=>u=Value.bool b
 | .int i,u=>∃t,u=Value.int i t
 | .str x,u=>∃t,u=Value.str x t
 | .byt b,u=>∃t,u=Value.bytes b t
 | .flt b,u=>∃t,u=Value.float b t
 | .ref a,u=>u=Value.ref a
 | .ty n,u=>u=Value.type n
noncomputable abbrev Vals:List V->List Value->Prop:=Paired RelV
theorem Vals.length (r:Vals xs us):xs.length=us.length:=Paired.length r
theorem Vals.get:∀{xs:List V} {us:List Value} {i:Nat} {x:V},Vals xs us->xs[i]? =some x->∃u,us[i]? =some u/\RelV x u
 |_,_,_,_,.nil,e=>by simp at e
 |_,_,0,_,.cons r _,e=>by simp at e;subst e;exact⟨_,rfl,r⟩
 |_,_,i+1,x,.cons _ t,e=>by
  obtain⟨u,h1,h2⟩:=Vals.get (i:=i) (x:=x) t (by simpa using e)
  exact⟨u,by simpa using h1,h2⟩
theorem Vals.set {x:V}(r:RelV x u):∀{xs:List V} {us:List Value} (i:Nat),Vals xs us->Vals (xs.set i x) (us.set i u)
 |_,_,_,.nil=> .nil
 |_,_,0,.cons _ t=> .cons r t
 |_,_,i+1,.cons q t=> .cons q (Vals.set r i t)
theorem Vals.append:∀{xs ys:List V} {us ws:List Value},Vals xs us->Vals ys ws->Vals (xs++ys) (us++ws)
 |_,_,_,_,.nil,s=>s
 |_,_,_,_,.cons r t,s=> .cons r (Vals.append t s)
theorem Vals.take:∀{xs:List V} {us:List Value} (n:Nat),Vals xs us->Vals (xs.take n) (us.take n)
 |_,_,0,_=> .nil
 |_,_,_+1,.nil=> .nil
 |_,_,n+1,.cons r t=> .cons r (Vals.take n t)
theorem Vals.drop:∀{xs:List V} {us:List Value} (n:Nat),Vals xs us->Vals (xs.drop n) (us.drop n)
 |_,_,0,r=>r
 |_,_,_+1,.nil=> .nil
 |_,_,n+1,.cons _ t=>Vals.drop n t
theorem Vals.none_of:∀{xs:List V} {us:List Value} {i:Nat},Vals xs us->xs[i]? =none->us[i]? =none:=fun{xs us i} r e=>by
 have h1:=r.length
 have h2:xs.length<=i:=List.getElem?_eq_none_iff.mp e
 exact List.getElem?_eq_none_iff.mpr (by lia)
noncomputable def RelO:Option V->Option Value->Prop
 |some v,some u=>RelV v u
 |none,none=>True
 |_,_=>False
noncomputable def KV {κ:Type}:List (κ×V)->List (κ×Value)->Prop:=Paired fun(p:κ×V) (q:κ×Value)=>p.1=q.1/\RelV p.2 q.2
noncomputable def kV:Key->V
 | .inl i=> .int i
 | .inr x=> .str x
inductive HO where
 /-- a list -/
 |lst (xs:List V)
 /-- a tuple (never changes) -/
 |tup (xs:List V)
 /-- a dict whose keys are ints and texts; one whose keys are tuples of ints and texts (the empty one is both) -/
 |dK (kvs:List (Key×V))|dT (kvs:List (List Key×V))
 /-- a set of ints: its members, its size -/
 |set (S:Int->Bool) (n:Nat)
 /-- an instance of the class at C, its dict at dx, its attributes -/
 |ins (C dx:Addr) (fs:List (Str×V))
 /-- the dict of the instance at x -/
 |own (x:Addr)
 /-- the dict of an exception -/
 |xd (fs:List (Str×V))
 /-- a bound method, f of x -/
 |met (f x:Addr)
 /-- a range object lo, lo + 1, .. below hi -/
 |rng (lo hi:Int)
 /-- a thing that is known to the object (the script; a dict while a loop walks it): read, never written while it is so -/
 |frz (o:Obj) (u:HO)
 /-- a code object's table -/
 |tbl (ps:Array Value)
 /-- any other thing, by what is true of its one object (a def of one's own: SetO a S n := HO.ext fun h => ..) -/
 |ext (φ:Heap->Prop)
noncomputable abbrev Hp:=Addr->Option HO
noncomputable def upd (H:Hp)(a:Addr)(o:HO):Hp:=fun b=>if b=a then some o else H b
theorem zat {o:HO}:upd H a o a=some o:=by unfold upd;rw[if_pos rfl]
theorem zaq {o:HO}(h:b≠a):upd H a o b=H b:=by unfold upd;rw[if_neg h]
theorem zaE {o:HO}(h:H a=some o)(h':H b=none):a≠b:=by
 intro e;subst e;rw[h]at h';cases h'
section
variable (P:Program) (w:World)
noncomputable def ObjOk (H:Hp)(h:Heap)(a:Addr):HO->Prop
 | .lst xs=>xs.length<=sizeLine/\∃(its:List Value) (n:Nat),Vals xs its/\h.get? a=some {cls:= .type "list",data:= .seq its.toArray n}
 | .tup xs=>xs.length<=sizeLine/\∃its:List Value,Vals xs its/\IsTup h a its.toArray
 | .dK kvs=>kvs.length<=sizeLine/\(a==sysModules)=false/\∃vs,KV kvs vs/\h.DictOf (zbU P w) a vs
 | .dT kvs=>kvs.length<=sizeLine/\(a==sysModules)=false/\∃xs:List (List Key×Addr×Value),
   Paired (fun(p:List Key×V) (q:List Key×Addr×Value)=>p.1=q.1/\H q.2.1=some (.tup (p.1.map kV))/\RelV p.2 q.2.2) kvs xs/\
   ∃o es ep,h.get? a=some o/\o.ExactDict/\o.data= .dict es ep/\es.toList=xs.map (entryOfKey (tupleKind (zbU P w)))/\(xs.map (·.1)).Nodup
 | .set S n=>h.SetOf (intKind P w) a S n
 | .ins C dx fs=>H dx=some (.own a)/\fs.length<=1000/\dx≠a/\h.get? a=some (W.instObj C dx)/\
   ∃mA,h.Ns1 dx mA/\(∀f,RelO (fs.lookup f) (mA f))/\PySem.Within mA (fs.map (·.1))
 | .own _=>∃o,h.get? a=some o
 | .xd fs=>∃mA,h.Ns1 a mA/\∀f,RelO (fs.lookup f) (mA f)
 | .rng lo hi=>∃t u v,h.get? a=some {cls:= .type "range",data:= .fields #[.int lo t,.int hi u,.int 1 v]}
 | .frz o u=>h.get? a=some o/\ObjOk H h a u
 | .tbl ps=>h.get? a=some {cls:= .none,data:= .fields ps}
 | .met f x=>h.get? a=some (W.methodObj (.ref f) (.ref x))
 | .ext φ=>φ h/\(∃o,h.get? a=some o)/\∀h1 h2:Heap,φ h1->(∀o,h1.get? a=some o->h2.get? a=some o)->φ h2
noncomputable def HOk (H:Hp)(h:Heap):Prop:=∀a o,H a=some o->ObjOk P w H h a o
end
section
variable {P:Program} {w:World} {H H':Hp} {h h':Heap} {a:Addr} {o:HO}
theorem ObjOk.lt (x:ObjOk P w H h a o):a<h.objs.size:=by
 cases o with
 |lst xs=>obtain⟨_,_,_,_,e⟩:=x;exact Heap.lt_size e
 |tup xs=>obtain⟨_,_,_,p⟩:=x;exact p.lt
 |dK kvs=>obtain⟨_,_,_,_,o,_,_,e,_⟩:=x;exact Heap.lt_size e
 |dT kvs=>obtain⟨_,_,_,_,o,_,_,e,_⟩:=x;exact Heap.lt_size e
 |set S n=>obtain⟨o,_,_,_,e,_⟩:=x;exact Heap.lt_size e
 |ins C dx fs=>obtain⟨_,_,_,e,_⟩:=x;exact Heap.lt_size e
 |own y=>obtain⟨_,e⟩:=x;exact Heap.lt_size e
 |xd fs=>obtain⟨_,⟨_,_,_,e,_⟩,_⟩:=x;exact Heap.lt_size e
 |rng lo hi=>obtain⟨_,_,_,e⟩:=x;exact Heap.lt_size e
 |frz ob u=>obtain⟨e,_⟩:=x;exact Heap.lt_size e
 |tbl ps=>exact Heap.lt_size (show h.get? a=some _ from x)
 |met f y=>exact Heap.lt_size (show h.get? a=some _ from x)
 |ext φ=>obtain⟨_,⟨_,e⟩,_⟩:=x;exact Heap.lt_size e
theorem Paired.mapP {α β:Type}{F G:α->β->Prop}:∀{l₁:List α} {l₂:List β},Paired F l₁ l₂->(∀a b,F a b->G a b)->Paired G l₁ l₂
 |_,_,.nil,_=> .nil
 |_,_,.cons r t,f=> .cons (f _ _ r) (Paired.mapP t f)
theorem ObjOk.stay (x:ObjOk P w H h a o)(k:∀b u,(b=a\/H b=some (.own a))->h.get? b=some u->h'.get? b=some u)
  (ho:∀b,H b=some (.own a)->H' b=some (.own a)) (ht:∀b xs,H b=some (.tup xs)->H' b=some (.tup xs)):ObjOk P w H' h' a o:=by
 induction o with
 |lst xs=>obtain⟨z,its,n,r,e⟩:=x;exact⟨z,its,n,r,k _ _ (.inl rfl) e⟩
 |tup xs=>obtain⟨z,its,r,ob,e,c⟩:=x;exact⟨z,its,r,ob,k _ _ (.inl rfl) e,c⟩
 |dK kvs=>obtain⟨z,y,vs,r,ob,es,ep,e,c⟩:=x;exact⟨z,y,vs,r,ob,es,ep,k _ _ (.inl rfl) e,c⟩
 |dT kvs=>
  obtain⟨z,y,xs,r,ob,es,ep,e,c⟩:=x
  exact⟨z,y,xs,Paired.mapP r fun p q z=>⟨z.1,ht _ _ z.2.1,z.2.2⟩,ob,es,ep,k _ _ (.inl rfl) e,c⟩
 |set S n=>obtain⟨ob,es,ep,t,e,c⟩:=x;exact⟨ob,es,ep,t,k _ _ (.inl rfl) e,c⟩
 |ins C dx fs=>
  obtain⟨d,z,ne,e,mA,⟨od,es,ep,e2,c⟩,r⟩:=x
  exact⟨ho _ d,z,ne,k _ _ (.inl rfl) e,mA,⟨od,es,ep,k _ _ (.inr d) e2,c⟩,r⟩
 |own y=>obtain⟨ob,e⟩:=x;exact⟨ob,k _ _ (.inl rfl) e⟩
 |xd fs=>obtain⟨mA,⟨od,es,ep,e,c⟩,r⟩:=x;exact⟨mA,⟨od,es,ep,k _ _ (.inl rfl) e,c⟩,r⟩
 |rng lo hi=>obtain⟨t,u,v,e⟩:=x;exact⟨t,u,v,k _ _ (.inl rfl) e⟩
 |frz ob u ih=>obtain⟨e,q⟩:=x;exact⟨k _ _ (.inl rfl) e,ih q⟩
 |tbl ps=>
  have e:h.get? a=some {cls:= .none,data:= .fields ps}:=x
  show h'.get? a=some {cls:= .none,data:= .fields ps}
  exact k a _ (.inl rfl) e
 |met f y=>
  have e:h.get? a=some (W.methodObj (.ref f) (.ref y)):=x
  show h'.get? a=some (W.methodObj (.ref f) (.ref y))
  exact k a _ (.inl rfl) e
 |ext φ=>obtain⟨p,⟨o,e⟩,st⟩:=x;exact⟨st _ _ p fun o q=>k _ _ (.inl rfl) q,⟨o,k _ _ (.inl rfl) e⟩,st⟩
theorem HOk.lt (x:HOk P w H h)(e:H a=some o):a<h.objs.size:=(x a o e).lt
theorem HOk.fresh (x:HOk P w H h)(e:h.objs.size<=a):H a=none:=by
 cases q:H a with
 |none=>rfl
 |some u=>exact absurd (Nat.lt_of_lt_of_le (x.lt q) e) (Nat.lt_irrefl _)
theorem HOk.kept (x:HOk P w H h)(k:∀b u,h.get? b=some u->h'.get? b=some u):HOk P w H h':=fun a o e=>
 (x a o e).stay (fun b u _ q=>k b u q) (fun _ q=>q) fun _ _ q=>q
theorem HOk.laid (x:HOk P w H h)(k:∀b u,h.get? b=some u->h'.get? b=some u)(hp:h.objs.size<=a)(new:ObjOk P w (upd H a o) h' a o):HOk P w (upd H a o) h':=fun b u e=>by
 have hn:=x.fresh hp
 by_cases hb:b=a
 ·subst hb;rw[zat]at e;cases e;exact new
 ·rw[zaq hb]at e
  exact(x b u e).stay (fun c v _ q=>k c v q) (fun c q=>by rw[zaq (zaE q hn)];exact q) fun c xs q=>by rw[zaq (zaE q hn)];exact q
end
noncomputable def Rd (H:Hp)(a:Addr)(u:HO):Prop:=H a=some u\/∃o,H a=some (.frz o u)
theorem Rd.ok {P:Program}{u:HO}(r:Rd H a u)(x:HOk P w H h):ObjOk P w H h a u:=by
 rcases r with r|⟨o,r⟩
 ·exact x a u r
 ·obtain⟨_,q⟩:=x a _ r
  exact q
noncomputable def Mut:Option HO->Prop
 |some (.lst _)=>True
 |some (.dK _)=>True
 |some (.dT _)=>True
 |some (.set _ _)=>True
 |some (.ins _ _ _)=>True
 |some (.ext _)=>True
 |_=>False
section
variable {P:Program} {w:World} {H:Hp} {h h':Heap} {x e:Addr} {o':HO}
theorem HOk.write (ok:HOk P w H h)(mu:Mut (H x))(he:e=x\/H e=some (.own x))(k:∀b u,b≠e->h.get? b=some u->h'.get? b=some u)(heo:∃u,h'.get? e=some u)
  (new:ObjOk P w (upd H x o') h' x o'):HOk P w (upd H x o') h':=fun b u q=>by
 have nown:∀c y,H c=some (.own y)->c≠x:=fun c y r z=>by subst z;rw[r]at mu;exact mu
 have ntup:∀c xs,H c=some (.tup xs)->c≠x:=fun c xs r z=>by subst z;rw[r]at mu;exact mu
 by_cases hb:b=x
 ·subst hb;rw[zat]at q;cases q;exact new
 ·rw[zaq hb]at q
  by_cases hbe:b=e
  ·have q':H b=some (.own x):=by
    rcases he with z|z
    ·exact absurd (hbe.trans z) hb
    ·rw[hbe];exact z
   rw[q]at q';cases q'
   obtain⟨v,hv⟩:=heo
   exact⟨v,by rw[hbe];exact hv⟩
  ·refine(ok b u q).stay (fun c v hc r=>k c v ?_ r) (fun c r=>by rw[zaq (nown c b r)];exact r) fun c xs r=>by rw[zaq (ntup c xs r)];exact r
   rcases hc with rfl|hc
   ·exact hbe
   ·rintro rfl
    rcases he with z|z
    ·exact nown c b hc z
    ·rw[hc]at z;cases z;exact hb rfl
end
structure Un (fs ex:List Addr) (H H':Hp) (h h':Heap):Prop where
 keep:∀b o,h.get? b=some o->H b=none->b∉fs->b∉ex->h'.get? b=some o
 slot:∀b o,h.get? b=some o->H b=none->b∈fs->b∉ex->∃sl,h'.get? b=some {o with slots:=sl}
 free:∀b o,h.get? b=some o->H b=none->b∉ex->H' b=none
 there:∀b o,h.get? b=some o->b∉ex->∃o',h'.get? b=some o'
 tups:∀b xs,H b=some (.tup xs)->H' b=some (.tup xs)
 frzs:∀b o u,H b=some (.frz o u)->H' b=some (.frz o u)
 tbls:∀b ps,H b=some (.tbl ps)->∃more,H' b=some (.tbl (ps++more))
section
variable {fs fs' ex ex':List Addr} {H H1 H2:Hp} {h h1 h2 h':Heap} {a x e:Addr} {o:HO}
theorem Un.any (u:Un fs ex H H1 h h1){ob:Obj}(q:h.get? b=some ob)(n:H b=none)(hx:b∉ex):∃sl,h1.get? b=some {ob with slots:=sl}:=by
 by_cases hb:b∈fs
 ·exact u.slot b ob q n hb hx
 ·exact⟨ob.slots,u.keep b ob q n hb hx⟩
theorem Un.kept (k:∀b u,h.get? b=some u->h'.get? b=some u):Un fs ex H H h h':=
 ⟨fun b ob q _ _ _=>k b ob q,fun b ob q _ _ _=>⟨ob.slots,k b ob q⟩,fun _ _ _ n _=>n,fun b ob q _=>⟨ob,k b ob q⟩,fun _ _ q=>q,fun _ _ _ q=>q,fun _ ps q=>⟨#[],by rw[q];simp⟩⟩
theorem Un.refl:Un fs ex H H h h:=Un.kept fun _ _ q=>q
theorem Un.laid (k:∀b u,h.get? b=some u->h'.get? b=some u)(hp:h.objs.size<=a)(hn:H a=none):Un fs ex H (upd H a o) h h' where
 keep:=fun b u q _ _ _=>k b u q
 slot:=fun b u q _ _ _=>⟨u.slots,k b u q⟩
 free:=fun b u q n _=>by rw[zaq (Nat.ne_of_lt (Nat.lt_of_lt_of_le (Heap.lt_size q) hp))];exact n
 there:=fun b u q _=>⟨u,k b u q⟩
 tups:=fun b xs q=>by rw[zaq (zaE q hn)];exact q
 frzs:=fun b u xs q=>by rw[zaq (zaE q hn)];exact q
 tbls:=fun b ps q=>⟨#[],by rw[zaq (zaE q hn),q];simp⟩
theorem Un.write (mu:Mut (H x))(he:e=x\/H e=some (.own x))(k:∀b u,b≠e->h.get? b=some u->h'.get? b=some u)(heo:∃u,h'.get? e=some u):Un fs ex H (upd H x o) h h':=by
 have hx:∀b,H b=none->b≠x:=fun b n z=>by subst z;rw[n]at mu;exact mu
 have hb:∀b,H b=none->b≠e:=fun b n z=>by
  subst z
  rcases he with r|r
  ·exact hx b n r
  ·rw[n]at r;cases r
 have hm:∀b u,H b=some u->¬Mut (some u)->b≠x:=fun b u q nm z=>by subst z;rw[q]at mu;exact nm mu
 refine⟨fun b u q n _ _=>k b u (hb b n) q,fun b u q n _ _=>⟨u.slots,k b u (hb b n) q⟩,fun b u q n _=>by rw[zaq (hx b n)];exact n,fun b u q _=>?_,
  fun b xs q=>by rw[zaq (hm b _ q fun z=>z)];exact q,fun b u xs q=>by rw[zaq (hm b _ q fun z=>z)];exact q,fun b ps q=>⟨#[],by rw[zaq (hm b _ q fun z=>z),q];simp⟩⟩
 by_cases hbe:b=e
 ·subst hbe;exact heo
 ·exact⟨u,k b u hbe q⟩
end
noncomputable def trk (h:Heap)(H:Hp):List Addr:=(List.range h.objs.size).filter fun a=>(H a).isSome
noncomputable def hidT (h:Heap)(H:Hp):Heap:=W.hideAll h (trk h H)
theorem zm1 (h:Heap)(H:Hp):(hidT h H).objs.size=h.objs.size:=W.hideAll_size _ _
theorem hidT_get (e:h.get? b=some o)(n:H b=none):(hidT h H).get? b=some o:=
 W.hideAll_get _ e fun hm=>by
  have q:(H b).isSome=true:=(List.mem_filter.mp hm).2
  rw[n]at q;simp at q
theorem of_hidT (e:(hidT h H).get? b=some o):h.get? b=some o/\H b=none:=by
 have e':h.get? b=some o:=W.of_hideAll (trk h H) e
 refine⟨e',?_⟩
 cases q:H b with
 |none=>rfl
 |some x=>
  have hm:b∈trk h H:=List.mem_filter.mpr ⟨List.mem_range.mpr (Heap.lt_size e'),by simp[q]⟩
  have z:(hidT h H).get? b=none:=W.hideAll_none (trk h H) hm
  rw[z]at e;cases e
noncomputable def allNews (g h:Heap)(L:Addr):List (Addr×Obj):=(List.range h.objs.size).filterMap fun a=>if a=L\/(g.get? a).isSome=true then none else(h.get? a).map fun o=>(a,o)
noncomputable def rest (g h:Heap)(L d:Addr):List (Addr×Obj):=(allNews g h L).filter fun p=>decide (p.1≠d)
structure Mod (K:W.Frag) (mg:Str->Option Value) (base:Heap):Prop where
 kin:K.In base
 glob:base.Ns mainGlobals mg
 blt:∃mb,base.Ns builtinsNs mb/\∀x:Str,x≠"__name__"->mb x=bootBuiltins x
 nolimit:base.NoLimit
structure Cx where
 prog:Program
 w:World
 K:W.Frag
 mg:Str->Option Value
 base:Heap
 A:Around
 N:List Str
 s₀:Shared
 H₀:Hp
 env:Env
 outer:List Env
 stack:List Env
 ex:List Addr
 fn:Str->Bool
 calm:Bool
 pn:List (Addr×Obj)
 xe:Value->Shared->Prop
noncomputable def frs (l:List Env):List Addr:=l.filterMap (·.frame)
noncomputable abbrev Cx.fs (X:Cx):List Addr:=frs X.outer
noncomputable def Vis (sc:Scope)(x:Str):Prop:=sc.names.lookup x=some .local\/sc.names.lookup x=some .cell\/sc.names.lookup x=some .free
noncomputable def Loc (sc:Scope)(x:Str):Prop:=sc.names.lookup x=some .local\/sc.names.lookup x=some .cell
noncomputable def Look (env:Env)(h:Heap)(m:Str->Option Value)(x:Str)(u:Value):Prop:=
 (env.kindOf x=some .local/\m x=some u)\/((env.kindOf x=some .cell\/env.kindOf x=some .free)/\∃c,env.cells.lookup x=some c/\h.IsCell c (some u))
structure Cx.Ok (X:Cx):Prop where
 mod:Mod X.K X.mg X.base
 kind:X.env.scope.kind= .function
 glob:X.env.globals=mainGlobals
 blt:X.env.builtins=builtinsNs
 above:X.s₀.heap.objs.size<=X.env.locals
 inj:∀x y c,X.env.cells.lookup x=some c->X.env.cells.lookup y=some c->x=y
 has:∀x,(X.env.kindOf x=some .cell\/X.env.kindOf x=some .free)->∃c,X.env.cells.lookup x=some c
 cab:∀x c,X.fn x=true->X.env.cells.lookup x=some c->X.s₀.heap.objs.size<=c
 hd:X.calm=true->X.A.handled=none
 frames:X.A.frames=some X.stack
 stk:X.stack=X.outer\/(X.stack=X.env::X.outer/\X.env.frame=some X.env.locals)
 exf:∀b∈X.ex,b≠X.env.locals/\∀x c,X.env.cells.lookup x=some c->c≠b
 bs:∀b o,X.base.get? b=some o->X.s₀.heap.get? b=some o/\X.H₀ b=none
 bsz:X.base.objs.size<=X.s₀.heap.objs.size
 noex:∀b o,X.base.get? b=some o->b∉X.ex
 exfs:∀b∈X.ex,b∉X.fs
 funs:X.s₀.heap.FunFrames X.base X.outer
 frf:∀b∈X.fs,X.H₀ b=none
structure Inv (X:Cx) (pins:List (Addr×Obj)) (σ:List (Option V)) (H:Hp) (s:Shared):Prop where
 ok:X.Ok
 os:s.os=X.s₀.os
 bare:AllBare s.gens
 base:Un X.fs X.ex X.H₀ H X.s₀.heap s.heap
 loc:∃m,s.heap.Ns X.env.locals m/\∀(i:Nat) (x:Str) (v:V),X.N[i]? =some x->σ[i]? =some (some v)->Vis X.env.scope x->∃u,RelV v u/\Look X.env s.heap m x u
 cell:∀x c,X.env.cells.lookup x=some c->∃v,s.heap.IsCell c v
 free:H X.env.locals=none
 freeC:∀x c,X.env.cells.lookup x=some c->H c=none
 pin:∀p∈X.pn++pins,s.heap.get? p.1=some p.2/\H p.1=none/\p.1≠X.env.locals/\p.1∉X.fs/\∀v,p.2.data≠ .cell v
 hok:HOk X.prog X.w H s.heap
 len:σ.length=X.N.length
section
variable {X:Cx} {pins:List (Addr×Obj)} {σ:List (Option V)} {H H':Hp} {s:Shared} {h':Heap}
theorem Cx.Ok.nofr (ok:X.Ok)(e:X.base.get? b=some o):b∉X.fs:=fun hb=>by
 have:=(ok.funs.mem hb).1
 rw[e]at this;cases this
theorem Inv.bs (I:Inv X pins σ H s):∀b o,X.base.get? b=some o->s.heap.get? b=some o/\H b=none:=fun b o e=>
 ⟨I.base.keep b o (I.ok.bs b o e).1 (I.ok.bs b o e).2 (I.ok.nofr e) (I.ok.noex b o e),I.base.free b o (I.ok.bs b o e).1 (I.ok.bs b o e).2 (I.ok.noex b o e)⟩
theorem Inv.bk (I:Inv X pins σ H s):∀b o,X.base.get? b=some o->s.heap.get? b=some o:=fun b o e=>(I.bs b o e).1
theorem Inv.mod (I:Inv X pins σ H s):Mod X.K X.mg X.base:=I.ok.mod
theorem Inv.kIn (I:Inv X pins σ H s):X.K.In s.heap:=I.ok.mod.kin.keeps I.bk
theorem Inv.lt (I:Inv X pins σ H s):X.env.locals<s.heap.objs.size:=let⟨_,hn,_⟩:=I.loc;hn.lt
theorem Inv.sz (I:Inv X pins σ H s):X.s₀.heap.objs.size<=s.heap.objs.size:=Nat.le_trans I.ok.above (Nat.le_of_lt I.lt)
theorem Inv.nofs (I:Inv X pins σ H s)(h:s.heap.objs.size<=a):a∉X.fs:=fun hb=>by
 obtain⟨_,o,ho,_⟩:=I.ok.funs.mem hb
 exact absurd (Nat.lt_of_lt_of_le (Heap.lt_size ho) (Nat.le_trans I.sz h)) (Nat.lt_irrefl _)
theorem Inv.cne (I:Inv X pins σ H s):∀x c,X.env.cells.lookup x=some c->c≠X.env.locals:=fun x c e z=>by
 obtain⟨v,o,ho,hd⟩:=I.cell x c e
 obtain⟨m,⟨o',es,ep,ho',hd',_⟩,_⟩:=I.loc
 rw[z,ho']at ho;cases ho;rw[hd']at hd;cases hd
theorem Inv.funs (I:Inv X pins σ H s):s.heap.FunFrames X.base X.outer:=by
 have all:∀(l:List Env),(∀b∈frs l,b∈X.fs)->X.s₀.heap.FunFrames X.base l->s.heap.FunFrames X.base l:=by
  intro l
  induction l with
  |nil=>intro _ _;trivial
  |cons env r ih=>
   intro hs hl
   obtain⟨hk,⟨L,o,hf,hn,ho,hd⟩,hr⟩:=hl
   have hL:L∈X.fs:=hs L (by unfold frs;rw[List.filterMap_cons,hf];exact List.mem_cons_self)
   obtain⟨sl,e⟩:=I.base.slot L o ho (I.ok.frf L hL) hL fun z=>I.ok.exfs L z hL
   exact⟨hk,⟨L,_,hf,hn,e,hd⟩,ih (fun b hb=>hs b (by unfold frs;rw[List.filterMap_cons,hf];exact List.mem_cons_of_mem _ hb)) hr⟩
 exact all X.outer (fun _ hb=>hb) I.ok.funs
theorem Inv.stack (I:Inv X pins σ H s):s.heap.FunFrames X.base X.stack:=by
 rcases I.ok.stk with e|⟨e,hf⟩
 ·rw[e];exact I.funs
 ·rw[e]
  obtain⟨m,hn,_⟩:=I.loc
  refine .cons (by rw[I.ok.kind];decide) hf hn ?_ I.funs
  exact Heap.get?_none_of_le (Nat.le_trans I.ok.bsz I.ok.above)
theorem Inv.stkSub (I:Inv X pins σ H s):∀b∈frs X.stack,b∈X.env.locals::X.fs:=fun b hb=>by
 rcases I.ok.stk with e|⟨e,hf⟩
 ·rw[e]at hb;exact List.mem_cons_of_mem _ hb
 ·rw[e]at hb
  unfold frs at hb
  rw[List.filterMap_cons,hf]at hb
  exact hb
theorem Inv.stkFree (I:Inv X pins σ H s):∀b∈frs X.stack,H b=none:=fun b hb=>by
 rcases List.mem_cons.mp (I.stkSub b hb)with e|hb
 ·rw[e];exact I.free
 ·obtain⟨_,o,ho,_⟩:=I.ok.funs.mem hb
  exact I.base.free b o ho (I.ok.frf b hb) fun z=>I.ok.exfs b z hb
theorem Inv.step (I:Inv X pins σ H s)
  (hch:∀b∈ch,(b∈X.ex\/X.s₀.heap.objs.size<=b)/\b≠X.env.locals/\(∀x c,X.env.cells.lookup x=some c->c≠b)/\∀p∈X.pn++pins,p.1≠b)
  (keep:∀b o,b≠X.env.locals->b∉X.fs->b∉ch->s.heap.get? b=some o->H b=none->h'.get? b=some o)
  (slot:∀b o,b≠X.env.locals->b∈X.fs->b∉ch->s.heap.get? b=some o->H b=none->∃sl,h'.get? b=some {o with slots:=sl}) (free:∀b o,b∉ch->s.heap.get? b=some o->H b=none->H' b=none)
  (there:∀b o,b∉ch->s.heap.get? b=some o->∃o',h'.get? b=some o')
  (tups:∀b xs,H b=some (.tup xs)->H' b=some (.tup xs)) (frzs:∀b o u,H b=some (.frz o u)->H' b=some (.frz o u)) (tbls:∀b ps,H b=some (.tbl ps)->∃more,H' b=some (.tbl (ps++more)))
  (ns:∀m,s.heap.Ns X.env.locals m->h'.Ns X.env.locals m) (hok:HOk X.prog X.w H' h') (hg:AllBare g'):
  Inv X pins σ H' {s with heap:=h',gens:=g',drawn:=d',toks:=t'}:=by
 have neL:∀b o,X.s₀.heap.get? b=some o->b≠X.env.locals:=fun b o e=>Nat.ne_of_lt (Nat.lt_of_lt_of_le (Heap.lt_size e) I.ok.above)
 have neC:∀b o,X.s₀.heap.get? b=some o->b∉X.ex->b∉ch:=fun b o e hx hb=>by
  rcases(hch b hb).1 with z|z
  ·exact hx z
  ·exact absurd (Nat.lt_of_lt_of_le (Heap.lt_size e) z) (Nat.lt_irrefl _)
 have cellK:∀x c,X.env.cells.lookup x=some c->∀v,s.heap.IsCell c v->h'.IsCell c v:=fun x c e v ⟨o,ho,hd⟩=>by
  have nch:c∉ch:=fun z=>(hch c z).2.2.1 x c e rfl
  by_cases hc:c∈X.fs
  ·obtain⟨sl,q⟩:=slot c o (I.cne x c e) hc nch ho (I.freeC x c e)
   exact⟨_,q,hd⟩
  ·exact⟨o,keep c o (I.cne x c e) hc nch ho (I.freeC x c e),hd⟩
 refine⟨I.ok,I.os,hg,⟨fun b o e n hb hx=>?_,fun b o e n hb hx=>?_,fun b o e n hx=>?_,fun b o e hx=>?_,fun b xs e=>tups b xs (I.base.tups b xs e),fun b o xs e=>frzs b o xs (I.base.frzs b o xs e),fun b ps e=>?_⟩,?_,fun x c e=>?_,?_,fun x c e=>?_,fun p hp=>?_,hok,I.len⟩
 ·exact keep b o (neL b o e) hb (neC b o e hx) (I.base.keep b o e n hb hx) (I.base.free b o e n hx)
 ·obtain⟨sl,e1⟩:=I.base.slot b o e n hb hx
  obtain⟨sl',e2⟩:=slot b _ (neL b o e) hb (neC b o e hx) e1 (I.base.free b o e n hx)
  exact⟨sl',e2⟩
 ·obtain⟨o',e1⟩:=I.base.there b o e hx
  exact free b o' (neC b o e hx) e1 (I.base.free b o e n hx)
 ·obtain⟨o',e1⟩:=I.base.there b o e hx
  exact there b o' (neC b o e hx) e1
 ·obtain⟨m1,e1⟩:=I.base.tbls b ps e
  obtain⟨m2,e2⟩:=tbls b _ e1
  exact⟨m1++m2,by rw[e2,Array.append_assoc]⟩
 ·obtain⟨m,hn,hl⟩:=I.loc
  refine⟨m,ns m hn,fun i x v e1 e2 e3=>?_⟩
  obtain⟨u,r,l⟩:=hl i x v e1 e2 e3
  refine⟨u,r,?_⟩
  rcases l with l|⟨k,c,e,z⟩
  ·exact .inl l
  ·exact .inr ⟨k,c,e,cellK x c e _ z⟩
 ·obtain⟨v,z⟩:=I.cell x c e
  exact⟨v,cellK x c e v z⟩
 ·obtain⟨m,⟨o,_,_,ho,_⟩,_⟩:=I.loc
  exact free _ o (fun z=>(hch _ z).2.1 rfl) ho I.free
 ·obtain⟨v,o,ho,hd⟩:=I.cell x c e
  exact free c o (fun z=>(hch c z).2.2.1 x c e rfl) ho (I.freeC x c e)
 ·obtain⟨e,n,ne,nf,d⟩:=I.pin p hp
  have nch:p.1∉ch:=fun z=>(hch p.1 z).2.2.2 p hp rfl
  exact⟨keep p.1 p.2 ne nf nch e n,free p.1 p.2 nch e n,ne,nf,d⟩
theorem Inv.un (I:Inv X pins σ H s)(u:Un X.fs [] H H' s.heap h')(hok:HOk X.prog X.w H' h'):Inv X pins σ H' {s with heap:=h',toks:=t'}:=by
  obtain⟨m,⟨o,es,ep,ho,r⟩,_⟩:=id I.loc
  obtain⟨sl,hL⟩:=u.any ho I.free (by simp)
  exact I.step (g':=s.gens) (d':=s.drawn) (ch:=[]) (fun _ z=>nomatch z) (fun b o _ hb _ e n=>u.keep b o e n hb (by simp)) (fun b o _ hb _ e n=>u.slot b o e n hb (by simp)) (fun b o _ e n=>u.free b o e n (by simp)) (fun b o _ e=>u.there b o e (by simp)) u.tups u.frzs u.tbls (fun m' hm=>by
    obtain⟨o',es',ep',ho',r'⟩:=hm
    rw[ho]at ho';cases ho'
    exact⟨_,es',ep',hL,r'⟩) hok I.bare
theorem Inv.call {ch:List Addr}(I:Inv X pins σ H s)(u:Un (frs X.stack) ch H H' s.heap h')(hok:HOk X.prog X.w H' h')(hg:AllBare g')
  (hch:∀b∈ch,(b∈X.ex\/X.s₀.heap.objs.size<=b)/\b≠X.env.locals/\(∀x c,X.env.cells.lookup x=some c->c≠b)/\∀p∈X.pn++pins,p.1≠b):
  Inv X pins σ H' {s with heap:=h',gens:=g',drawn:=d',toks:=t'}:=by
 obtain⟨m,⟨o,es,ep,ho,r⟩,_⟩:=id I.loc
 obtain⟨sl,hL⟩:=u.any ho I.free fun z=>(hch _ z).2.1 rfl
 exact I.step (ch:=ch) hch (fun b o hL hb hc e n=>u.keep b o e n (fun z=>(List.mem_cons.mp (I.stkSub b z)).elim hL hb) hc) (fun b o _ _ hc e n=>u.any e n hc) (fun b o hc e n=>u.free b o e n hc) (fun b o hc e=>u.there b o e hc) u.tups u.frzs u.tbls (fun m' hm=>by
  obtain⟨o',es',ep',ho',r'⟩:=hm
  rw[ho]at ho';cases ho'
  exact⟨_,es',ep',hL,r'⟩) hok hg
theorem Inv.turned (I:Inv X pins σ H s)(k:∀b o,b≠it->s.heap.get? b=some o->h'.get? b=some o)(hn:H it=none)(hL:it≠X.env.locals)
  (h1:it∈X.ex\/X.s₀.heap.objs.size<=it) (h2:∀x c,X.env.cells.lookup x=some c->c≠it) (h3:∀p∈X.pn++pins,p.1≠it):Inv X pins σ H {s with heap:=h',toks:=t'}:=by
 have nit:∀b u,H b=some u->b≠it:=fun b u e z=>by rw[z,hn]at e;cases e
 refine I.step (g':=s.gens) (d':=s.drawn) (ch:=[it]) (fun b hb=>?_) (fun b o _ _ hc e _=>k b o (fun z=>hc (by simp[z])) e) (fun b o _ _ hc e _=>⟨o.slots,k b o (fun z=>hc (by simp[z])) e⟩) (fun _ _ _ _ n=>n)
  (fun b o hc e=>⟨o,k b o (fun z=>hc (by simp[z])) e⟩) (fun _ _ e=>e) (fun _ _ _ e=>e) (fun b ps e=>⟨#[],by rw[e];simp⟩) (fun m hm=>?_) (fun b u e=>?_) I.bare
 ·have e:b=it:=by simpa using hb
  subst e
  exact⟨h1,hL,h2,h3⟩
 ·obtain⟨o,es,ep,ho,r⟩:=hm
  exact⟨o,es,ep,k _ o (Ne.symm hL) ho,r⟩
 ·refine(I.hok b u e).stay (fun c v hc q=>k c v ?_ q) (fun _ q=>q) fun _ _ q=>q
  rcases hc with z|z
  ·rw[z];exact nit b u e
  ·exact nit c _ z
theorem Inv.tok (I:Inv X pins σ H s)(t:Nat):Inv X pins σ H {s with toks:=t}:=I.un (h':=s.heap) (t':=t) Un.refl I.hok
theorem Inv.kept (I:Inv X pins σ H s)(k:∀b u,s.heap.get? b=some u->h'.get? b=some u):Inv X pins σ H {s with heap:=h',toks:=t'}:=I.un (Un.kept k) (I.hok.kept k)
theorem Inv.laid {o:HO}(I:Inv X pins σ H s)(k:∀b u,s.heap.get? b=some u->h'.get? b=some u)(hp:s.heap.objs.size<=a)(new:ObjOk X.prog X.w (upd H a o) h' a o):
  Inv X pins σ (upd H a o) {s with heap:=h',toks:=t'}:=I.un (Un.laid k hp (I.hok.fresh hp)) (I.hok.laid k hp new)
theorem Inv.write {x e:Addr}{o:HO}(I:Inv X pins σ H s)(mu:Mut (H x))(he:e=x\/H e=some (.own x))(k:∀b u,b≠e->s.heap.get? b=some u->h'.get? b=some u)(heo:∃u,h'.get? e=some u)
  (new:ObjOk X.prog X.w (upd H x o) h' x o):Inv X pins σ (upd H x o) {s with heap:=h',toks:=t'}:=I.un (Un.write mu he k heo) (I.hok.write mu he k heo new)
theorem Inv.pins_of (I:Inv X pins σ H s)(h:∀p∈pins',s.heap.get? p.1=some p.2/\H p.1=none/\p.1≠X.env.locals/\p.1∉X.fs/\∀v,p.2.data≠ .cell v):Inv X pins' σ H s:=
 ⟨I.ok,I.os,I.bare,I.base,I.loc,I.cell,I.free,I.freeC,fun p hp=>(List.mem_append.mp hp).elim (fun z=>I.pin p (List.mem_append_left _ z)) (h p),I.hok,I.len⟩
theorem zl7 (hN:N.Nodup)(a:N[i]? =some x)(b:N[j]? =some x):i=j:=by
 obtain⟨h1,e1⟩:=List.getElem?_eq_some_iff.mp a
 obtain⟨h2,e2⟩:=List.getElem?_eq_some_iff.mp b
 exact(List.getElem_inj hN).mp (e1.trans e2.symm)
theorem zog {M:Model}(I:Inv X pins σ H s)(hN:X.N.Nodup)(hi:X.N[i]? =some x)(hx:Loc X.env.scope x)(r:RelV v u)
    (h:∀s',Inv X pins (σ.set i (some v)) H s'->(∃a,Heap.SameBut a s.heap s'.heap/\(a=X.env.locals\/X.env.cells.lookup x=some a))->Q () s') (hf:autoParam (X.fn x=true\/X.env.scope.names.lookup x=some .local) zu0._auto_1):wpAny M A (storeName X.env x u) Q E s:=by
  obtain⟨m,hn,hl⟩:=id I.loc
  have hcls:(X.env.scope.kind== .class||(X.env.scope.kind== .module&&X.env.locals !=X.env.globals))=false:=by rw[I.ok.kind];rfl
  have hiσ:i<σ.length:=by rw[I.len];exact(List.getElem?_eq_some_iff.mp hi).1
  have cne:=I.cne
  have tracked:∀{a:Addr} {h':Heap},(∃o,s.heap.get? a=some o/\H a=none)->Heap.SameBut a s.heap h'->HOk X.prog X.w H h':=fun{a h'} ha hs b ob e=>by
    obtain⟨_,_,hfree⟩:=ha
    refine(I.hok b ob e).stay (fun c w' hc q=>(hs.2 c ?_).trans q) (fun _ q=>q) fun _ _ q=>q
    rintro rfl
    rcases hc with rfl|hc
    . rw[hfree]at e;cases e
    . rw[hfree]at hc;cases hc
  rcases hx with hk|hk
  . refine wpAny_storeName_local hk hn (fun h' hn' hs=>?_) hcls
    obtain⟨oL,_,_,hoL,_⟩:=id hn
    refine h _ ⟨I.ok,I.os,I.bare,⟨fun b o e n hb hx=>?_,fun b o e n hb hx=>?_,I.base.free,fun b o e hx=>?_,I.base.tups,I.base.frzs,I.base.tbls⟩,⟨_,hn',fun j y v' e1 e2 e3=>?_⟩,fun y c e=>?_,I.free,I.freeC,fun p hp=>?_,tracked ⟨oL,hoL,I.free⟩ hs,by simpa using I.len⟩ ⟨_,hs,.inl rfl⟩
    . exact(hs.2 b (Nat.ne_of_lt (Nat.lt_of_lt_of_le (Heap.lt_size e) I.ok.above))).trans (I.base.keep b o e n hb hx)
    . obtain⟨sl,e1⟩:=I.base.slot b o e n hb hx
      exact⟨sl,(hs.2 b (Nat.ne_of_lt (Nat.lt_of_lt_of_le (Heap.lt_size e) I.ok.above))).trans e1⟩
    . obtain⟨o',e1⟩:=I.base.there b o e hx
      exact⟨o',(hs.2 b (Nat.ne_of_lt (Nat.lt_of_lt_of_le (Heap.lt_size e) I.ok.above))).trans e1⟩
    . by_cases hj:j=i
      . subst hj
        rw[hi]at e1;cases e1
        rw[List.getElem?_set_self hiσ]at e2
        cases e2
        exact⟨u,r,.inl ⟨hk,by simp⟩⟩
      . rw[List.getElem?_set_ne (Ne.symm hj)]at e2
        obtain⟨u',r',q⟩:=hl j y v' e1 e2 e3
        refine⟨u',r',?_⟩
        rcases q with⟨k,e⟩|⟨k,c,e,z⟩
        . refine .inl ⟨k,?_⟩
          have:y≠x:=fun e=>hj (zl7 hN e1 (e ▸ hi))
          simp[this,e]
        . exact .inr ⟨k,c,e,z.sameBut hs (cne y c e)⟩
    . obtain⟨w',z⟩:=I.cell y c e
      exact⟨w',z.sameBut hs (cne y c e)⟩
    . obtain⟨e,n,ne,nf,d⟩:=I.pin p hp
      exact⟨(hs.2 p.1 ne).trans e,n,ne,nf,d⟩
  . have hfn:X.fn x=true:=by
      rcases hf with z|z
      . exact z
      . rw[z]at hk;cases hk
    obtain⟨c,hc⟩:=I.ok.has x (.inl hk)
    obtain⟨w',z⟩:=I.cell x c hc
    refine wpAny_storeName_cell I.ok.kind hk hc z (fun h' hc' hs=>?_)
    obtain⟨oc,hoc,hocd⟩:=id z
    refine h {s with heap:=h'} ⟨I.ok,I.os,I.bare,⟨fun b o e n hb hx=>?_,fun b o e n hb hx=>?_,I.base.free,fun b o e hx=>?_,I.base.tups,I.base.frzs,I.base.tbls⟩,⟨m,hn.sameBut hs (Ne.symm (cne x c hc)),fun j y v' e1 e2 e3=>?_⟩,fun y c' e=>?_,I.free,I.freeC,fun p hp=>?_,tracked ⟨oc,hoc,I.freeC x c hc⟩ hs,by simpa using I.len⟩ ⟨c,hs,.inr hc⟩
    . exact(hs.2 b (Nat.ne_of_lt (Nat.lt_of_lt_of_le (Heap.lt_size e) (I.ok.cab x c hfn hc)))).trans (I.base.keep b o e n hb hx)
    . obtain⟨sl,e1⟩:=I.base.slot b o e n hb hx
      exact⟨sl,(hs.2 b (Nat.ne_of_lt (Nat.lt_of_lt_of_le (Heap.lt_size e) (I.ok.cab x c hfn hc)))).trans e1⟩
    . obtain⟨o',e1⟩:=I.base.there b o e hx
      exact⟨o',(hs.2 b (Nat.ne_of_lt (Nat.lt_of_lt_of_le (Heap.lt_size e) (I.ok.cab x c hfn hc)))).trans e1⟩
    . by_cases hj:j=i
      . subst hj
        rw[hi]at e1;cases e1
        rw[List.getElem?_set_self hiσ]at e2
        cases e2
        exact⟨u,r,.inr ⟨.inl hk,c,hc,hc'⟩⟩
      . rw[List.getElem?_set_ne (Ne.symm hj)]at e2
        obtain⟨u',r',q⟩:=hl j y v' e1 e2 e3
        refine⟨u',r',?_⟩
        rcases q with q|⟨k,c',e,z'⟩
        . exact .inl q
        . refine .inr ⟨k,c',e,z'.sameBut hs ?_⟩
          rintro rfl
          exact hj (zl7 hN e1 (I.ok.inj _ _ _ e hc ▸ hi))
    . by_cases hcc:c'=c
      . subst hcc;exact⟨_,hc'⟩
      . obtain⟨w2,z2⟩:=I.cell y c' e
        exact⟨w2,z2.sameBut hs hcc⟩
    . obtain⟨e,n,ne,nf,d⟩:=I.pin p hp
      refine⟨(hs.2 p.1 ?_).trans e,n,ne,nf,d⟩
      intro q
      rw[q,hoc]at e
      have q':oc=p.2:=Option.some.inj e
      exact d w' (by rw[<-q'];exact hocd)
theorem zjx {M:Model}(I:Inv X pins σ H s)(hN:X.N.Nodup)(hi:X.N[i]? =some x)(hx:Loc X.env.scope x)(r:RelV v u)
  (h:∀s',Inv X pins (σ.set i (some v)) H s'->Q () s') (hf:autoParam (X.fn x=true\/X.env.scope.names.lookup x=some .local) zu0._auto_1):wpAny M A (storeName X.env x u) Q E s:=
 zog I hN hi hx r (fun s' I' _=>h s' I') hf
end
noncomputable abbrev XK:=Value->Option Addr->Hp->Prop
noncomputable abbrev St:=List (Option V)
noncomputable abbrev VK:=V->Hp->Prop
noncomputable abbrev TE:=St->Hp->VK->Prop
noncomputable abbrev TT:=St->Hp->(Bool->Hp->Prop)->Prop
noncomputable abbrev TA:=St->Hp->(List V->Hp->Prop)->Prop
structure Ends where
 nx:St->Hp->Prop
 rt:VK
 bk:St->Hp->Prop:=fun _ _=>False
 ct:St->Hp->Prop:=fun _ _=>False
noncomputable abbrev TS:=Ends->St->Hp->Prop
noncomputable def EP (X:Cx)(pins:List (Addr×Obj))(σ:St)(Q:VK)(u:Value)(s':Shared):Prop:=∃v H',Inv X pins σ H' s'/\RelV v u/\Q v H'
noncomputable def TP (X:Cx)(pins:List (Addr×Obj))(σ:St)(Q:Bool->Hp->Prop)(b:Bool)(s':Shared):Prop:=∃H',Inv X pins σ H' s'/\Q b H'
noncomputable def AP (X:Cx)(pins:List (Addr×Obj))(σ:St)(Q:List V->Hp->Prop)(us:List Value)(s':Shared):Prop:=∃vs H',Inv X pins σ H' s'/\Vals vs us/\Q vs H'
noncomputable def SP (X:Cx)(pins:List (Addr×Obj))(D:Ends)(f:Flow)(s':Shared):Prop:=
 match f with
 | .next=>∃σ' H',Inv X pins σ' H' s'/\D.nx σ' H'
 | .brk=>∃σ' H',Inv X pins σ' H' s'/\D.bk σ' H'
 | .cont=>∃σ' H',Inv X pins σ' H' s'/\D.ct σ' H'
 | .ret u=>∃v σ' H',Inv X pins σ' H' s'/\RelV v u/\D.rt v H'
noncomputable def PE (X:Cx)(e:Expr)(t:TE):Prop:=
 ∀(pins:List (Addr×Obj)) (s:Shared) (σ:St) (H:Hp) (Q:VK),Inv X pins σ H s->t σ H Q->wpAny (model X.prog X.w) X.A (eval e X.env) (EP X pins σ Q) X.xe s
noncomputable def PT (X:Cx)(e:Expr)(t:TT):Prop:=
 ∀(pins:List (Addr×Obj)) (s:Shared) (σ:St) (H:Hp) (Q:Bool->Hp->Prop),Inv X pins σ H s->t σ H Q->wpAny (model X.prog X.w) X.A (isTrue e X.env (eval e X.env)) (TP X pins σ Q) X.xe s
noncomputable def PW (X:Cx)(e:Expr)(t:TT):Prop:=
 ∀(whole:Sem Value) (pins:List (Addr×Obj)) (s:Shared) (σ:St) (H:Hp) (Q:Bool->Hp->Prop),Inv X pins σ H s->t σ H Q->wpAny (model X.prog X.w) X.A (isTrue e X.env whole) (TP X pins σ Q) X.xe s
theorem PW.pt {t:TT}(h:PW X e t):PT X e t:=h _
noncomputable def PA (X:Cx)(es:List Expr)(t:TA):Prop:=
 ∀(pos:Pos) (pins:List (Addr×Obj)) (s:Shared) (σ:St) (H:Hp) (Q:List V->Hp->Prop),Inv X pins σ H s->t σ H Q->wpAny (model X.prog X.w) X.A (spliced (backTo pos (starEach es X.env))) (AP X pins σ Q) X.xe s
noncomputable def PS (X:Cx)(st:Stmt)(t:TS):Prop:=
 ∀(pins:List (Addr×Obj)) (s:Shared) (σ:St) (H:Hp) (D:Ends),Inv X pins σ H s->t D σ H->wpAny (model X.prog X.w) X.A (exec st X.env) (SP X pins D) X.xe s
noncomputable def PSs (X:Cx)(st:List Stmt)(t:TS):Prop:=
 ∀(pins:List (Addr×Obj)) (s:Shared) (σ:St) (H:Hp) (D:Ends),Inv X pins σ H s->t D σ H->wpAny (model X.prog X.w) X.A (execs st X.env) (SP X pins D) X.xe s
theorem thn {α:Type}{t:Sem α}{Q Q':α->Shared->Prop}{M:Model}(h:wpAny M A t Q E s)(hQ:∀a s,Q a s->Q' a s):wpAny M A t Q' E s:=wpAny_mono h hQ fun _ _ x=>x
section
variable {X:Cx}
noncomputable def tVar (i:Nat):TE:=fun σ H Q=>∃v,σ[i]? =some (some v)/\Q v H
noncomputable def tC (v:V):TE:=fun _ H Q=>Q v H
theorem za6 (hN:X.N[i]? =some x)(hv:Vis X.env.scope x)(hd:autoParam ((x==("__debug__":Str))=false) zu1._auto_1)(hcd:autoParam ((x==("__classdict__":Str))=false) zu1._auto_1):PE X (.Name x pos) (tVar i):=by
 intro pins s σ H Q I h
 obtain⟨v,e,h⟩:=h
 obtain⟨m,hn,hl⟩:=I.loc
 obtain⟨u,r,l⟩:=hl i x v hN e hv
 have fin:EP X pins σ Q u s:=⟨v,H,I,r,h⟩
 rcases l with⟨hk,hm⟩|⟨hk,c,hc,hcell⟩
 ·exact wpAny_Name (wpAny_loadName_local I.ok.kind hk hn hm fin) hd
 ·rcases hk with hk|hk
  ·exact wpAny_Name (wpAny_loadName_cell I.ok.kind hk hc hcell fin) hd
  ·exact wpAny_Name (wpAny_loadName_free I.ok.kind hk hc hcell fin hcd) hd
theorem zox {i j pos}:PE X (.Constant (.int i) j pos) (tC (.int i)):=fun _ _ _ H _ I h=>wpAny_Constant_int ⟨.int i,H,I.tok _,⟨_,rfl⟩,h⟩
theorem pe_bl {b j pos}:PE X (.Constant (.bool b) j pos) (tC (.bl b)):=fun _ _ _ H _ I h=>Constant_bool ⟨.bl b,H,I,rfl,h⟩
theorem pe_non {j pos}:PE X (.Constant .none j pos) (tC .non):=fun _ _ _ H _ I h=>Constant_none ⟨.non,H,I,rfl,h⟩
theorem pe_str {x j pos}:PE X (.Constant (.str x) j pos) (tC (.str x)):=fun _ _ _ H _ I h=>Calls.Constant_str ⟨.str x,H,I.tok _,⟨_,rfl⟩,h⟩
noncomputable def Gl (X:Cx)(x:Str):Prop:=X.env.kindOf x=some .globalImplicit
theorem ld_glob {Q:Value->Shared->Prop}(I:Inv X pins σ H s)(hg:Gl X x)(hm:X.mg x=some u)(h:Q u s)
  (hd:autoParam ((x==("__debug__":Str))=false) zu1._auto_1):wpAny (model X.prog X.w) X.A (eval (.Name x pos) X.env) Q E s:=
 Calls.Name_function_global I.ok.kind hg (Calls.loadGlobal_global (by rw[I.ok.glob];exact I.mod.glob.keeps I.bk) hm h) hd
theorem ziK {Q:Value->Shared->Prop}(I:Inv X pins σ H s)(hg:Gl X x)(hm:X.mg x=none)(hv:bootBuiltins x=some u)(h:Q u s)
  (hn:autoParam (x≠"__name__") zu1._auto_1) (hd:autoParam ((x==("__debug__":Str))=false) zu1._auto_1):wpAny (model X.prog X.w) X.A (eval (.Name x pos) X.env) Q E s:=by
 obtain⟨mb,h1,h2⟩:=I.mod.blt
 exact Calls.Name_function_global I.ok.kind hg (Calls.loadGlobal_builtin (by rw[I.ok.glob];exact I.mod.glob.keeps I.bk) hm (by rw[I.ok.blt];exact h1.keeps I.bk) ((h2 x hn).trans hv) h) hd
variable {a b:Expr} {ta tb:TE} {pos:Pos}
variable {tA tB':TT} {rest:List Expr}
noncomputable def tAnd (t u:TT):TT:=fun σ H Q=>t σ H fun c H1=>if c=true then u σ H1 Q else Q false H1
noncomputable def tOr (t u:TT):TT:=fun σ H Q=>t σ H fun c H1=>if c=true then Q true H1 else u σ H1 Q
noncomputable def tNot (t:TT):TT:=fun σ H Q=>t σ H fun c H1=>Q (!c) H1
theorem pw_and1 (ha:PT X a tA):PW X (.BoolOp .And [a] pos) tA:=by
 intro wh pins s σ H Q I h
 refine isTrue_and (thn (ha pins s σ H Q I h) fun c s1 e=>?_)
 cases c with
 |true=>exact isTrue_and_nil e
 |false=>exact e
theorem pw_or1 (ha:PT X a tA):PW X (.BoolOp .Or [a] pos) tA:=by
 intro wh pins s σ H Q I h
 refine isTrue_or (thn (ha pins s σ H Q I h) fun c s1 e=>?_)
 cases c with
 |false=>exact isTrue_or_nil e
 |true=>exact e
theorem pw_and (ha:PT X a tA)(hb:PW X (.BoolOp .And (b::rest) pos) tB'):PW X (.BoolOp .And (a::b::rest) pos) (tAnd tA tB'):=by
 intro wh pins s σ H Q I h
 refine isTrue_and (thn (ha pins s σ H _ I h) fun c s1 ⟨H1,I1,q1⟩=>?_)
 cases c with
 |true=>exact hb wh pins s1 σ H1 Q I1 q1
 |false=>exact⟨H1,I1,q1⟩
theorem pw_or (ha:PT X a tA)(hb:PW X (.BoolOp .Or (b::rest) pos) tB'):PW X (.BoolOp .Or (a::b::rest) pos) (tOr tA tB'):=by
 intro wh pins s σ H Q I h
 refine isTrue_or (thn (ha pins s σ H _ I h) fun c s1 ⟨H1,I1,q1⟩=>?_)
 cases c with
 |true=>exact⟨H1,I1,q1⟩
 |false=>exact hb wh pins s1 σ H1 Q I1 q1
theorem pt_not (ha:PT X a tA):PT X (.UnaryOp .Not a pos) (tNot tA):=by
 intro pins s σ H Q I h
 exact isTrue_not (ha pins s σ H (fun c H1=>Q (!c) H1) I h)
noncomputable def tAndV (ta tb:TE):TE:=fun σ H Q=>ta σ H fun x H1=>∃c,x= .bl c/\if c=true then tb σ H1 Q else Q (.bl false) H1
theorem pe_one {op}{t:TE}(h:PE X a t):PE X (.BoolOp op [a] pos) t:=fun pins s σ H Q I hw=>BoolOp_one (h pins s σ H Q I hw)
theorem pe_and (ha:PE X a ta)(hb:PE X (.BoolOp .And (b::rest) pos) tb):PE X (.BoolOp .And (a::b::rest) pos) (tAndV ta tb):=by
 intro pins s σ H Q I h
 refine BoolOp_and (thn (ha pins s σ H _ I h) fun v s1 ⟨x,H1,I1,r1,q1⟩=>?_)
 obtain⟨c,rfl,q1⟩:=q1
 cases r1
 refine wpAny_truthy_bool ?_
 cases c with
 |true=>exact hb pins s1 σ H1 Q I1 q1
 |false=>exact⟨.bl false,H1,I1,rfl,q1⟩
noncomputable def tIf (t:TT)(ta tb:TE):TE:=fun σ H Q=>t σ H fun c H1=>if c=true then ta σ H1 Q else tb σ H1 Q
theorem pe_ifExp (hc:PT X c tA)(ha:PE X a ta)(hb:PE X b tb):PE X (.IfExp c a b pos) (tIf tA ta tb):=by
 intro pins s σ H Q I h
 refine wpAny_IfExp (thn (hc pins s σ H _ I h) fun d s1 ⟨H1,I1,q1⟩=>?_)
 cases d with
 |true=>exact ha pins s1 σ H1 Q I1 q1
 |false=>exact hb pins s1 σ H1 Q I1 q1
end
noncomputable def SqL (K:W.Frag)(H:Hp)(a:Addr)(xs:List V):Prop:=
 Rd H a (.lst xs)\/
  ∃(o:Obj) (its:Array Value) (n:Nat),K.lookup a=some o/\o.cls= .type "list"/\o.dict=none/\o.data= .seq its n/\its.size<=sizeLine/\Vals xs its.toList
noncomputable def SqT (K:W.Frag)(H:Hp)(a:Addr)(xs:List V):Prop:=
 Rd H a (.tup xs)\/
  ∃(o:Obj) (its:Array Value) (n:Nat),K.lookup a=some o/\o.cls= .type "tuple"/\o.data= .seq its n/\its.size<=sizeLine/\Vals xs its.toList
noncomputable def absV:Value->Option V
 | .none=>some .non
 | .bool b=>some (.bl b)
 | .int i _=>some (.int i)
 | .str x _=>some (.str x)
 | .bytes b _=>some (.byt b)
 | .float b _=>some (.flt b)
 | .ref a=>some (.ref a)
 | .type n=>some (.ty n)
 |_=>none
theorem RelV.abs {x:V}(r:RelV x u):absV u=some x:=by
 cases x with
 |non=>cases r;rfl
 |bl _=>cases r;rfl
 |int _=>obtain⟨t,rfl⟩:=r;rfl
 |str _=>obtain⟨t,rfl⟩:=r;rfl
 |byt _=>obtain⟨t,rfl⟩:=r;rfl
 |flt _=>obtain⟨t,rfl⟩:=r;rfl
 |ref _=>cases r;rfl
 |ty _=>cases r;rfl
theorem RelV.inj {x y:V}(r:RelV x u)(q:RelV y u):x=y:=Option.some.inj (r.abs.symm.trans q.abs)
theorem Vals.inj:∀{xs ys:List V} {us:List Value},Vals xs us->Vals ys us->xs=ys
 |_,_,_,.nil,.nil=>rfl
 |_,_,_,.cons r t,.cons r' t'=>by rw[r.inj r',Vals.inj t t']
section
variable {X:Cx} {pins:List (Addr×Obj)} {σ:St} {H:Hp} {s:Shared} {a:Addr} {xs ys:List V}
theorem SqL.of (h:H a=some (.lst xs)):SqL K H a xs:= .inl (.inl h)
theorem SqT.of (h:H a=some (.tup xs)):SqT K H a xs:= .inl (.inl h)
theorem Inv.list (I:Inv X pins σ H s)(h:SqL X.K H a xs):∃its:List Value,Vals xs its/\PlainL s.heap a its.toArray/\xs.length<=sizeLine:=by
 rcases h with h|⟨o,its,n,hk,hc,hd,hs,hz,r⟩
 ·obtain⟨z,its,n,r,e⟩:=h.ok I.hok
  exact⟨its,r,⟨_,n,e,rfl,rfl,rfl⟩,z⟩
 ·refine⟨its.toList,r,⟨o,n,I.kIn a o hk,hc,hd,by simpa using hs⟩,?_⟩
  have e:=r.length
  simp only[Array.length_toList]at e
  lia
theorem Inv.tuple (I:Inv X pins σ H s)(h:SqT X.K H a xs):∃its:List Value,Vals xs its/\IsTup s.heap a its.toArray/\xs.length<=sizeLine:=by
 rcases h with h|⟨o,its,n,hk,hc,hs,hz,r⟩
 ·obtain⟨z,its,r,p⟩:=h.ok I.hok
  exact⟨its,r,p,z⟩
 ·refine⟨its.toList,r,⟨o,I.kIn a o hk,hc,n,by simpa using hs⟩,?_⟩
  have e:=r.length
  simp only[Array.length_toList]at e
  lia
theorem Inv.list_inj (I:Inv X pins σ H s)(h:SqL X.K H a xs)(h':SqL X.K H a ys):xs=ys:=by
 obtain⟨its,r,⟨o,n,e,_,_,d⟩,_⟩:=I.list h
 obtain⟨its',r',⟨o',n',e',_,_,d'⟩,_⟩:=I.list h'
 rw[e]at e';cases e'
 rw[d]at d'
 injection d' with d1 _
 have:its=its':=by simpa using congrArg Array.toList d1
 subst this
 exact r.inj r'
theorem Inv.tuple_inj (I:Inv X pins σ H s)(h:SqT X.K H a xs)(h':SqT X.K H a ys):xs=ys:=by
 obtain⟨its,r,⟨o,e,_,n,d⟩,_⟩:=I.tuple h
 obtain⟨its',r',⟨o',e',_,n',d'⟩,_⟩:=I.tuple h'
 rw[e]at e';cases e'
 rw[d]at d'
 injection d' with d1 _
 have:its=its':=by simpa using congrArg Array.toList d1
 subst this
 exact r.inj r'
end
noncomputable abbrev Cx.wish (X:Cx)(E:Value->Shared->Prop):Cx:={X with xe:=E}
noncomputable abbrev Cx.nox (X:Cx):Cx:=X.wish fun _ _=>False
theorem Cx.Ok.wish (ok:X.Ok)(E:Value->Shared->Prop):(X.wish E).Ok:=
 ⟨ok.mod,ok.kind,ok.glob,ok.blt,ok.above,ok.inj,ok.has,ok.cab,ok.hd,ok.frames,ok.stk,ok.exf,ok.bs,ok.bsz,ok.noex,ok.exfs,ok.funs,ok.frf⟩
theorem Cx.Ok.unwish (ok:(X.wish E).Ok):X.Ok:=
 ⟨ok.mod,ok.kind,ok.glob,ok.blt,ok.above,ok.inj,ok.has,ok.cab,ok.hd,ok.frames,ok.stk,ok.exf,ok.bs,ok.bsz,ok.noex,ok.exfs,ok.funs,ok.frf⟩
section
variable {X:Cx} {pins:List (Addr×Obj)} {σ:St} {H:Hp} {s:Shared} {E:Value->Shared->Prop}
theorem Inv.wish (I:Inv X pins σ H s)(E:Value->Shared->Prop):Inv (X.wish E) pins σ H s:=⟨I.ok.wish E,I.os,I.bare,I.base,I.loc,I.cell,I.free,I.freeC,I.pin,I.hok,I.len⟩
theorem Inv.unwish (I:Inv (X.wish E) pins σ H s):Inv X pins σ H s:=⟨I.ok.unwish,I.os,I.bare,I.base,I.loc,I.cell,I.free,I.freeC,I.pin,I.hok,I.len⟩
theorem SP.unwish {D:Ends}{f:Flow}(h:SP (X.wish E) pins D f s'):SP X pins D f s':=by
 cases f with
 |next=>obtain⟨σ',H',I,q⟩:=h;exact⟨σ',H',I.unwish,q⟩
 |brk=>obtain⟨σ',H',I,q⟩:=h;exact⟨σ',H',I.unwish,q⟩
 |cont=>obtain⟨σ',H',I,q⟩:=h;exact⟨σ',H',I.unwish,q⟩
 |ret u=>obtain⟨v,σ',H',I,r,q⟩:=h;exact⟨v,σ',H',I.unwish,r,q⟩
theorem PSs.nox {st:List Stmt}{t:TS}(h:PSs X.nox st t):PSs X st t:=fun pins s σ H D I hw=>
 wpAny_mono (h pins s σ H D (I.wish _) hw) (fun _ _ q=>q.unwish) fun _ _ z=>False.elim z
end
section
variable {X:Cx} {st:Stmt} {rest:List Stmt} {t u:TS} {e:Expr} {te:TE} {pos:Pos}
noncomputable def tNext:TS:=fun D σ H=>D.nx σ H
noncomputable def tSeq (t u:TS):TS:=fun D σ H=>t {D with nx:=u D} σ H
theorem pss_nil:PSs X [] tNext:=fun _ _ σ H _ I h=>wpAny_execs_nil ⟨σ,H,I,h⟩
theorem pss_cons (h1:PS X st t)(h2:PSs X rest u):PSs X (st::rest) (tSeq t u):=by
 intro pins s σ H D I h
 refine wpAny_execs_cons (thn (h1 pins s σ H {D with nx:=u D} I h) fun f s1 q=>?_)
 cases f with
 |next=>
  obtain⟨σ',H',I',q⟩:=q
  exact h2 pins s1 σ' H' D I' q
 |ret v=>exact q
 |brk=>exact q
 |cont=>exact q
theorem pss_one (h1:PS X st t):PSs X [st] t:=by
 intro pins s σ H D I h
 refine wpAny_execs_cons (thn (h1 pins s σ H D I h) fun f s1 q=>?_)
 cases f with
 |next=>exact wpAny_execs_nil q
 |ret v=>exact q
 |brk=>exact q
 |cont=>exact q
theorem Inv.quiet (I:Inv X pins σ H s):interactive X.env=false:=by simp[interactive,I.ok.kind]
noncomputable def tDrop (te:TE):TS:=fun D σ H=>te σ H fun _ H1=>D.nx σ H1
theorem zkM (he:PE X e te)(hs:autoParam (swapsWith e none pos.line X.env=pure false) zu2._auto_1):PS X (.Expr e pos) (tDrop te):=by
 intro pins s σ H D I h
 exact wpAny_Expr_any (thn (he pins s σ H _ I h) fun v s1 ⟨x,H1,I1,r1,q1⟩=>⟨σ,H1,I1,q1⟩) I.quiet hs
noncomputable def tRet (te:TE):TS:=fun D σ H=>te σ H D.rt
theorem zlC (he:PE X e te):PS X (.Return (some e) pos) (tRet te):=by
 intro pins s σ H D I h
 exact wpAny_Return_some (thn (he pins s σ H _ I h) fun v s1 ⟨x,H1,I1,r1,q1⟩=>⟨x,σ,H1,I1,r1,q1⟩)
noncomputable def tIfS (c:TT)(t u:TS):TS:=fun D σ H=>c σ H fun b H1=>if b=true then t D σ H1 else u D σ H1
theorem ps_if {a b:List Stmt}(hc:PT X c tc)(ha:PSs X a t)(hb:PSs X b u):PS X (.If c a b pos) (tIfS tc t u):=by
 intro pins s σ H D I h
 refine wpAny_If (thn (hc pins s σ H _ I h) fun d s1 ⟨H1,I1,q1⟩=>?_)
 cases d with
 |true=>exact ha pins s1 σ H1 D I1 q1
 |false=>exact hb pins s1 σ H1 D I1 q1
noncomputable def tNever:TS:=fun _ _ _=>False
theorem ps_never:PS X st tNever:=fun _ _ _ _ _ _ h=>h.elim
end
noncomputable abbrev TG:=V->St->Hp->(St->Hp->Prop)->Prop
noncomputable abbrev TGs:=List V->St->Hp->(St->Hp->Prop)->Prop
noncomputable def PG (X:Cx)(target:Expr)(t:TG):Prop:=
 ∀(pins:List (Addr×Obj)) (s:Shared) (σ:St) (H:Hp) (v:V) (u:Value) (Q:St->Hp->Prop),Inv X pins σ H s->RelV v u->t v σ H Q->
  wpAny (model X.prog X.w) X.A (assign target X.env u) (fun _ s'=>∃σ' H',Inv X pins σ' H' s'/\Q σ' H') X.xe s
noncomputable def PGs (X:Cx)(ts:List Expr)(t:TGs):Prop:=
 ∀(pins:List (Addr×Obj)) (s:Shared) (σ:St) (H:Hp) (vs:List V) (us:List Value) (Q:St->Hp->Prop),Inv X pins σ H s->Vals vs us->t vs σ H Q->
  wpAny (model X.prog X.w) X.A (assignInOrder ((assignEach ts X.env).map (·.2)) us) (fun _ s'=>∃σ' H',Inv X pins σ' H' s'/\Q σ' H') X.xe s
noncomputable abbrev TSet:=V->V->V->Hp->(Hp->Prop)->Prop
noncomputable def PSet (X:Cx)(t:TSet):Prop:=
 ∀(pins:List (Addr×Obj)) (s:Shared) (σ:St) (H:Hp) (o i v:V) (ov iv u:Value) (Q:Hp->Prop),Inv X pins σ H s->RelV o ov->RelV i iv->RelV v u->t o i v H Q->
  wpAny (model X.prog X.w) X.A (setItem ov iv u) (fun _ s'=>∃H',Inv X pins σ H' s'/\Q H') X.xe s
noncomputable abbrev TIp:=V->V->Hp->VK->Prop
noncomputable def PIp (X:Cx)(op:Operator)(t:TIp):Prop:=
 ∀(pins:List (Addr×Obj)) (s:Shared) (σ:St) (H:Hp) (x y:V) (v u:Value) (Q:VK),Inv X pins σ H s->RelV x v->RelV y u->t x y H Q->
  wpAny (model X.prog X.w) X.A (inplaceOp op v u) (EP X pins σ Q) X.xe s
section
variable {X:Cx} {pos:Pos}
noncomputable def gName (i:Nat):TG:=fun v σ H Q=>Q (σ.set i (some v)) H
theorem zkS (hN:X.N.Nodup)(hi:X.N[i]? =some x)(hx:Loc X.env.scope x)(hf:autoParam (X.fn x=true\/X.env.scope.names.lookup x=some .local) zu0._auto_1):PG X (.Name x pos) (gName i):=by
  intro pins s σ H v u Q I r h
  exact wpAny_assign_Name (zjx I hN hi hx r (fun s' I'=>⟨_,H,I',h⟩) hf)
noncomputable def gNil:TGs:=fun vs σ H Q=>vs=[]/\Q σ H
noncomputable def gCons (t:TG)(u:TGs):TGs:=fun vs σ H Q=>∃v r,vs=v::r/\t v σ H fun σ' H'=>u r σ' H' Q
theorem zod:PGs X [] gNil:=by
 intro pins s σ H vs us Q I r h
 obtain⟨e,h⟩:=h
 subst e
 cases r
 exact assignInOrder_nil ⟨σ,H,I,h⟩
theorem zlj {t:TG}{u:TGs}(h1:PG X e t)(h2:PGs X es u)
  (hs:autoParam ((assignEach (e::es) X.env).map (·.2)=assign e X.env::(assignEach es X.env).map (·.2)) zu2._auto_1):PGs X (e::es) (gCons t u):=by
 intro pins s σ H vs us Q I r h
 obtain⟨v,vr,e1,h⟩:=h
 subst e1
 cases r with
 |cons r rr=>
  rw[hs]
  refine assignInOrder_cons (thn (h1 pins s σ H _ _ _ I r h) fun _ s1 ⟨σ1,H1,I1,q1⟩=>?_)
  exact h2 pins s1 σ1 H1 _ _ Q I1 rr q1
noncomputable def gTup (K:W.Frag)(n:Nat)(t:TGs):TG:=fun v σ H Q=>∃a xs,v= .ref a/\SqT K H a xs/\xs.length=n/\t xs σ H Q
theorem pg_tup {t:TGs}(hc:X.calm=true)(h:PGs X es t)
  (hn:autoParam ((assignEach es X.env).length=n) zu2._auto_1) (hst:autoParam ((assignEach es X.env).findIdx? (·.1)=none) zu2._auto_1):PG X (.Tuple es k pos) (gTup X.K n t):=by
 intro pins s σ H v u Q I r hw
 obtain⟨a,xs,e1,hq,hl,hw⟩:=hw
 subst e1
 cases r
 obtain⟨its,rv,ht,hz⟩:=I.tuple hq
 refine assign_Tuple_tuple (I.ok.hd hc) ht (by simp[hn,<-hl,rv.length]) hst fun h' hx=>?_
 have I1:Inv X pins σ H {s with heap:=h'}:=I.kept (t':=s.toks) fun b o e=>hx b o (Nat.ne_of_lt (Heap.lt_size e)) e
 exact h pins _ σ H xs _ Q I1 (by simpa using rv) hw
noncomputable def gSub (to ti:TE)(t:TSet):TG:=fun v σ H Q=>to σ H fun o H1=>ti σ H1 fun i H2=>t o i v H2 fun H3=>Q σ H3
theorem pg_sub {o i:Expr}{to ti:TE}(ho:PE X o to)(hi:PE X i ti)(hs:PSet X t)
    (ha :autoParam (∀ v, assign (.Subscript o i pos) X.env v = (do
      let ov<-holding [v] (eval o X.env)
      let iv<-holding [v,ov] (eval i X.env)
      standAt pos
      holding [v,ov,iv] (setItem ov iv v)
      release [v,ov,iv] [])) zu3._auto_1):PG X (.Subscript o i pos) (gSub to ti t):=by
  intro pins s σ H v u Q I r h
  rw[ha]
  refine wpAny_bind (wpAny_holding (thn (ho pins s σ H _ I h) fun ov s1 ⟨x,H1,I1,r1,q1⟩=>?_))
  refine wpAny_bind (wpAny_holding (thn (hi pins s1 σ H1 _ I1 q1) fun iv s2 ⟨y,H2,I2,r2,q2⟩=>?_))
  refine wpAny_bind (wpAny_standAt (wpAny_bind (wpAny_holding (thn (hs pins s2 σ H2 x y v ov iv u _ I2 r1 r2 r q2) fun _ s3 ⟨H3,I3,q3⟩=>?_))))
  exact wpAny_release ⟨σ,H3,I3,q3⟩
noncomputable def tAsg (te:TE)(g:TG):TS:=fun D σ H=>te σ H fun x H1=>g x σ H1 D.nx
theorem zmc {g:TG}(he:PE X e te)(hg:PG X tg g)(hs:autoParam (swapsWithSole [tg] e pos.line X.env=pure false) zu2._auto_1)(hw:autoParam (swappedStores [tg] e X.env=pure none) zu2._auto_1)
  (h1:autoParam ((assignEach [tg] X.env).map (·.2)=[assign tg X.env]) zu2._auto_1):PS X (.Assign [tg] e pos) (tAsg te g):=by
 intro pins s σ H D I h
 refine wpAny_Assign_stores (thn (he pins s σ H _ I h) fun v s1 ⟨x,H1,I1,r1,q1⟩=>?_) hs hw
 rw[h1]
 exact thn (hg pins s1 σ H1 x v _ I1 r1 q1) fun _ s2 q=>q
theorem zlw (hN:X.N.Nodup)(hi:X.N[i]? =some x)(hx:Loc X.env.scope x)(he:PE X e te)(hs:autoParam (swapsWith e (some (.Name x pos')) pos.line X.env=pure false) zu2._auto_1)(hf:autoParam (X.fn x=true\/X.env.scope.names.lookup x=some .local) zu0._auto_1):
  PS X (.Assign [.Name x pos'] e pos) (tAsg te (gName i)):=by
 intro pins s σ H D I h
 refine wpAny_Assign_Name (thn (he pins s σ H _ I h) fun v s1 ⟨y,H1,I1,r1,q1⟩=>?_) hs
 exact zjx I1 hN hi hx r1 (fun s2 I2=>⟨_,H1,I2,q1⟩) hf
noncomputable def tAug (i:Nat)(te:TE)(ti:TIp):TS:=fun D σ H=>∃x,σ[i]? =some (some x)/\te σ H fun y H1=>ti x y H1 fun z H2=>D.nx (σ.set i (some z)) H2
theorem ps_aug {op:Operator}{ti:TIp}(hN:X.N.Nodup)(hi:X.N[i]? =some x)(hx:Loc X.env.scope x)(he:PE X e te)(ho:PIp X op ti)(hf:autoParam (X.fn x=true\/X.env.scope.names.lookup x=some .local) zu0._auto_1):
  PS X (.AugAssign (.Name x pos') op e pos) (tAug i te ti):=by
 intro pins s σ H D I h
 obtain⟨v,e1,h⟩:=h
 obtain⟨m,hn,hl⟩:=I.loc
 have vis:Vis X.env.scope x:=by rcases hx with k|k;exact .inl k;exact .inr (.inl k)
 obtain⟨u,r,l⟩:=hl i x v hi e1 vis
 refine wpAny_AugAssign_Name ?_
 have go:wpAny (model X.prog X.w) X.A (eval e X.env) (fun w s₂=>wpAny (model X.prog X.w) X.A (inplaceOp op u w) (fun r s₃=>wpAny (model X.prog X.w) X.A (storeName X.env x r) (fun _=>SP X pins D .next) X.xe s₃) X.xe s₂) X.xe s:=by
  refine thn (he pins s σ H _ I h) fun w s1 ⟨y,H1,I1,r1,q1⟩=>?_
  refine thn (ho pins s1 σ H1 v y u w _ I1 r r1 q1) fun z s2 ⟨zv,H2,I2,r2,q2⟩=>?_
  exact zjx I2 hN hi hx r2 (fun s3 I3=>⟨_,H2,I3,q2⟩) hf
 rcases l with⟨hk,hm⟩|⟨hk,c,hc,hcell⟩
 ·exact wpAny_loadName_local I.ok.kind hk hn hm go
 ·rcases hk with hk|hk
  ·exact wpAny_loadName_cell I.ok.kind hk hc hcell go
  ·rcases hx with k|k
   ·have:X.env.scope.names.lookup x=some .free:=hk
    rw[k]at this;cases this
   ·have:X.env.scope.names.lookup x=some .free:=hk
    rw[k]at this;cases this
noncomputable def tAugS (to ti te:TE)(tget:V->V->Hp->VK->Prop)(tip:TIp)(tset:TSet):TS:=fun D σ H=>to σ H fun o H1=>ti σ H1 fun i H2=>tget o i H2 fun x H3=>te σ H3 fun y H4=>tip x y H4 fun z H5=>tset o i z H5 fun H6=>D.nx σ H6
noncomputable def PGet (X:Cx)(t:V->V->Hp->VK->Prop):Prop:=
 ∀(pins:List (Addr×Obj)) (s:Shared) (σ:St) (H:Hp) (o i:V) (ov iv:Value) (Q:VK),Inv X pins σ H s->RelV o ov->RelV i iv->t o i H Q->
  wpAny (model X.prog X.w) X.A (getItem ov iv) (EP X pins σ Q) X.xe s
theorem znj {o i e:Expr}{to ti te:TE}{tip:TIp}{tset:TSet}{op:Operator}{tpos:Pos}(ho:PE X o to)(hi:PE X i ti)(hg:PGet X tget)(he:PE X e te)(hp:PIp X op tip)(hs:PSet X tset)
  (ha:autoParam (∀ov iv new,augStore i ov iv new=(do holding [new,ov,iv] (setItem ov iv new);release [new,ov,iv] [];pure .next)) zu4._auto_1):PS X (.AugAssign (.Subscript o i tpos) op e pos) (tAugS to ti te tget tip tset):=by
 intro pins s σ H D I h
 refine wpAny_AugAssign_SubscriptAny (thn (ho pins s σ H _ I h) fun ov s1 ⟨x1,H1,I1,r1,q1⟩=>?_) ha
 refine thn (hi pins s1 σ H1 _ I1 q1) fun iv s2 ⟨x2,H2,I2,r2,q2⟩=>?_
 refine thn (hg pins s2 σ H2 x1 x2 ov iv _ I2 r1 r2 q2) fun old s3 ⟨x3,H3,I3,r3,q3⟩=>?_
 refine thn (he pins s3 σ H3 _ I3 q3) fun v s4 ⟨x4,H4,I4,r4,q4⟩=>?_
 refine thn (hp pins s4 σ H4 x3 x4 old v _ I4 r3 r4 q4) fun new s5 ⟨x5,H5,I5,r5,q5⟩=>?_
 exact thn (hs pins s5 σ H5 x1 x2 x5 ov iv new _ I5 r1 r2 r5 q5) fun _ s6 ⟨H6,I6,q6⟩=>⟨σ,H6,I6,q6⟩
noncomputable def ipI (f:Int->Int->Int):TIp:=fun x y H Q=>∃i j,x= .int i/\y= .int j/\Q (.int (f i j)) H
theorem znb:PIp X .Add (ipI fun i j=>i+j):=by
 intro pins s σ H x y v u Q I r1 r2 h
 obtain⟨i,j,e1,e2,q⟩:=h
 subst e1;subst e2
 obtain⟨t,rfl⟩:=r1
 obtain⟨t',rfl⟩:=r2
 exact iadd_int ⟨.int _,H,I.tok _,⟨_,rfl⟩,q⟩
end
section
variable {X:Cx} {pos:Pos}
noncomputable def tWhile (c:TT)(tb:TS):TS:=fun D σ H=>∃W:Nat->St->Hp->Prop,(∃m,W m σ H)/\∀m σ H,W m σ H->
 c σ H fun b H1=>if b=true then ∃N:St->Hp->Prop,(∀σ' H',N σ' H'->∃m',m'<m/\W m' σ' H')/\tb {D with nx:=N,ct:=N,bk:=D.nx} σ H1 else D.nx σ H1
theorem ps_while (hp:PassesOwn (model X.prog X.w) X.A X.env X.xe)(hc:PT X c tc)(hb:PSs X body tb):PS X (.While c body [] pos) (tWhile tc tb):=by
 intro pins s σ H D I h
 obtain⟨W,⟨m0,w0⟩,turn⟩:=h
 refine wpAny_While (codeAny_whileLoop (fun n s'=>∃σ' H',Inv X pins σ' H' s'/\W n σ' H') ?_ m0 ⟨σ,H,I,w0⟩)
 rintro n s1 ⟨σ1,H1,I1,w1⟩
 refine wpAny_passesOwn hp (thn (hc pins s1 σ1 H1 _ I1 (turn n σ1 H1 w1)) fun b s2 ⟨H2,I2,q2⟩=>?_)
 cases b with
 |true=>
  obtain⟨N,hN,q2⟩:=q2
  rw[if_pos rfl]
  refine wpAny_passesOwn hp (thn (hb pins s2 σ1 H2 _ I2 q2) fun f s3 q3=>?_)
  cases f with
  |next=>
   obtain⟨σ3,H3,I3,n3⟩:=q3
   obtain⟨m',hm,w3⟩:=hN σ3 H3 n3
   exact⟨m',hm,σ3,H3,I3,w3⟩
  |cont=>
   obtain⟨σ3,H3,I3,n3⟩:=q3
   obtain⟨m',hm,w3⟩:=hN σ3 H3 n3
   exact⟨m',hm,σ3,H3,I3,w3⟩
  |brk=>exact q3
  |ret v=>exact q3
 |false=>
  rw[if_neg Bool.false_ne_true]
  exact wpAny_execs_nil ⟨σ1,H2,I2,q2⟩
end
structure It where
 go:Nat->Hp->Prop
 yld:Nat->Hp->V->Hp->Prop
 stop:Nat->Hp->Prop
noncomputable def FpOk (X:Cx)(pins:List (Addr×Obj))(H:Hp)(b:Addr):Prop:=
 H b=none/\b≠X.env.locals/\b∉X.fs/\(b∈X.ex\/X.s₀.heap.objs.size<=b)/\(∀x c,X.env.cells.lookup x=some c->c≠b)/\∀p∈X.pn++pins,p.1≠b
theorem Inv.fpOk {H H':Hp}(I:Inv X pins σ H s)(hb:s.heap.objs.size<=b)(hn:H' b=none):FpOk X pins H' b:=by
 refine⟨hn,Nat.ne_of_gt (Nat.lt_of_lt_of_le I.lt hb),I.nofs hb,.inr (Nat.le_trans I.sz hb),fun x c e z=>?_,fun p hp z=>?_⟩
 ·obtain⟨v,q⟩:=I.cell x c e
  exact absurd (Nat.lt_of_lt_of_le q.lt (by rw[z];exact hb)) (Nat.lt_irrefl _)
 ·exact absurd (Nat.lt_of_lt_of_le (Heap.lt_size (I.pin p hp).1) (by rw[z];exact hb)) (Nat.lt_irrefl _)
structure Turn (P:Program) (w:World) (K:W.Frag) (tg:Expr) (J:It) (fp:List Addr) (it:Addr) (tn:Nat->Heap->Prop):Prop where
 mem:it∈fp
 obj:∀i h,tn i h->∀b∈fp,∃o,h.get? b=some o/\∀v,o.data≠ .cell v
 keep:∀i h h',tn i h->(∀b∈fp,∀o,h.get? b=some o->h'.get? b=some o)->tn i h'
 item:∀(X:Cx),X.prog=P->X.w=w->X.K=K->X.calm=true->∀(i:Nat) (pins:List (Addr×Obj)) (s:Shared) (σ:St) (H:Hp) (E:Value->Shared->Prop),Inv X pins σ H s->(∀b∈fp,FpOk X pins H b)->tn i s.heap->J.go i H->
  wpAny (model P w) X.A (pyNext (.ref it)) (fun r s1=>∃u,r=some u/\
   wpAny (model P w) X.A (letOwnedTupleGo tg (.ref it) u) (fun _ s2=>∃x H',Inv X pins σ H' s2/\RelV x u/\J.yld i H x H'/\tn (i+1) s2.heap/\∀b∈fp,H' b=none) E s1) E s
 done:∀(X:Cx),X.prog=P->X.w=w->X.K=K->X.calm=true->∀(i:Nat) (pins:List (Addr×Obj)) (s:Shared) (σ:St) (H:Hp) (E:Value->Shared->Prop),Inv X pins σ H s->(∀b∈fp,FpOk X pins H b)->tn i s.heap->J.stop i H->
  wpAny (model P w) X.A (pyNext (.ref it)) (fun r s1=>r=none/\Inv X pins σ H s1) E s
 self:∀(A:Around) (i:Nat) (s:Shared) (Q:Value->Shared->Prop) (E:Value->Shared->Prop),tn i s.heap->Q (.ref it) s->wpAny (model P w) A (pyIter (.ref it)) Q E s
noncomputable abbrev TI:=St->Hp->(It->Hp->Prop)->Prop
noncomputable def PIE (X:Cx)(pins:List (Addr×Obj))(σ:St)(tg:Expr)(R:It->Hp->Prop)(itv:Value)(s2:Shared):Prop:=
 ∃(it:Addr) (fp:List Addr) (tn:Nat->Heap->Prop) (J:It) (H':Hp),itv= .ref it/\Inv X pins σ H' s2/\Turn X.prog X.w X.K tg J fp it tn/\tn 0 s2.heap/\(∀b∈fp,FpOk X pins H' b)/\R J H'
noncomputable def PI (X:Cx)(tg iter:Expr)(wi:TI):Prop:=
 ∀(pins:List (Addr×Obj)) (s:Shared) (σ:St) (H:Hp) (R:It->Hp->Prop),Inv X pins σ H s->wi σ H R->
  wpAny (model X.prog X.w) X.A (eval iter X.env) (fun v s1=>wpAny (model X.prog X.w) X.A (pyIter v) (PIE X pins σ tg R) X.xe s1) X.xe s
theorem go_of {M:Model}{n:String}{vs:Array Value}(ho:s.heap.get? it=some o)(hc:o.cls= .type n)(hd:o.data= .fields vs)
    (hn:["enumerate","zip","dict_itemiterator","dict_reverseitemiterator","odict_iterator","itertools.zip_longest","itertools.pairwise"].contains n=false) (hQ:Q () s):wpAny M A (letOwnedTupleGo tg (.ref it) u) Q E s:=by
  unfold letOwnedTupleGo
  cases tg<;>first
    |exact wpAny_pure hQ
    | (cases u <;> first
        |exact wpAny_pure hQ
        | (refine wpAny_bind (wpAny_load ho ?_)
           rw[hc,hd]
           show wpAny M A (if(["enumerate","zip","dict_itemiterator","dict_reverseitemiterator","odict_iterator","itertools.zip_longest","itertools.pairwise"].contains n&&vs[0]? ==some (rawInt _))=true then _ else _) Q E s
           rw[if_neg (by intro h;rw[hn,Bool.false_and]at h;cases h)]
           exact wpAny_pure hQ))
noncomputable def Itl (K:W.Frag)(a:Addr):It:=
 ⟨fun i H=>∃xs x,SqL K H a xs/\xs[i]? =some x,fun i H x H'=>H'=H/\∀xs,SqL K H a xs->xs[i]? =some x,fun i H=>∃xs,SqL K H a xs/\xs.length<=i⟩
noncomputable def Itt (K:W.Frag)(a:Addr):It:=
 ⟨fun i H=>∃xs x,SqT K H a xs/\xs[i]? =some x,fun i H x H'=>H'=H/\∀xs,SqT K H a xs->xs[i]? =some x,fun i H=>∃xs,SqT K H a xs/\xs.length<=i⟩
noncomputable def Itr (lo:Int)(n:Nat):It:=⟨fun i _=>i<n,fun i H x H'=>H'=H/\x= .int (lo+i),fun i _=>n<=i⟩
theorem znV {P:Program}(a it:Addr):Turn P w K tg (Itl K a) [it] it (fun i h=>h.IsListIter it a i) where
 mem:=by simp
 obj:=fun i h st b hb=>by
  have e:b=it:=by simpa using hb
  subst e
  obtain⟨o,e,c,d⟩:=st
  exact⟨o,e,fun v z=>by rw[d]at z;cases z⟩
 keep:=fun i h h' st k=>st.at fun o e=>k it (by simp) o e
 item:=by
  intro X hP hw hK hc i pins s σ H E I hf st hg
  subst hP hw hK
  obtain⟨xs,x,hq,hx⟩:=hg
  obtain⟨its,rv,p,hz⟩:=I.list hq
  obtain⟨u,hu,ru⟩:=rv.get hx
  obtain⟨f0,f1,f2,f3,f4,f5⟩:=hf it (by simp)
  refine wpAny_pyNext_list_item st p.isList (x:=u) (by simpa using hu) fun h' st' sb=>?_
  have I1:Inv X pins σ H {s with heap:=h'}:=I.turned (t':=s.toks) (fun b o hb e=>(sb.2 b hb).trans e) f0 f1 f3 f4 f5
  obtain⟨o,e,c,d⟩:=id st'
  exact⟨u,rfl,go_of (s:={s with heap:=h'}) e c d (by decide) ⟨x,H,I1,ru,⟨rfl,fun ys hy=>by rw[I.list_inj hy hq];exact hx⟩,st',fun b hb=>(hf b hb).1⟩⟩
 done:=by
  intro X hP hw hK hc i pins s σ H E I hf st hg
  subst hP hw hK
  obtain⟨xs,hq,hx⟩:=hg
  obtain⟨its,rv,p,hz⟩:=I.list hq
  obtain⟨f0,f1,f2,f3,f4,f5⟩:=hf it (by simp)
  have hl:=rv.length
  exact wpAny_pyNext_list_end (I.ok.hd hc) st p.isList (by simp;lia) fun h' eb=>⟨rfl,I.turned (t':=s.toks) (fun b o hb e=>eb b o hb e) f0 f1 f3 f4 f5⟩
 self:=fun _ _ _ _ _ st h=>wpAny_pyIter_listiter st h
theorem zmp {P:Program}(a it:Addr):Turn P w K tg (Itt K a) [it] it (fun i h=>h.IsTupleIter it a i) where
 mem:=by simp
 obj:=fun i h st b hb=>by
  have e:b=it:=by simpa using hb
  subst e
  obtain⟨o,e,c,d⟩:=st
  exact⟨o,e,fun v z=>by rw[d]at z;cases z⟩
 keep:=fun i h h' st k=>st.at fun o e=>k it (by simp) o e
 item:=by
  intro X hP hw hK hc i pins s σ H E I hf st hg
  subst hP hw hK
  obtain⟨xs,x,hq,hx⟩:=hg
  obtain⟨its,rv,p,hz⟩:=I.tuple hq
  obtain⟨u,hu,ru⟩:=rv.get hx
  obtain⟨f0,f1,f2,f3,f4,f5⟩:=hf it (by simp)
  refine wpAny_pyNext_tuple_item st (show s.heap.IsTuple a its.toArray from p) (x:=u) (by simpa using hu) fun h' st' sb=>?_
  have I1:Inv X pins σ H {s with heap:=h'}:=I.turned (t':=s.toks) (fun b o hb e=>(sb.2 b hb).trans e) f0 f1 f3 f4 f5
  obtain⟨o,e,c,d⟩:=id st'
  exact⟨u,rfl,go_of (s:={s with heap:=h'}) e c d (by decide) ⟨x,H,I1,ru,⟨rfl,fun ys hy=>by rw[I.tuple_inj hy hq];exact hx⟩,st',fun b hb=>(hf b hb).1⟩⟩
 done:=by
  intro X hP hw hK hc i pins s σ H E I hf st hg
  subst hP hw hK
  obtain⟨xs,hq,hx⟩:=hg
  obtain⟨its,rv,p,hz⟩:=I.tuple hq
  obtain⟨f0,f1,f2,f3,f4,f5⟩:=hf it (by simp)
  have hl:=rv.length
  exact wpAny_pyNext_tuple_end (I.ok.hd hc) st (show s.heap.IsTuple a its.toArray from p) (by simp;lia) fun h' eb=>⟨rfl,I.turned (t':=s.toks) (fun b o hb e=>eb b o hb e) f0 f1 f3 f4 f5⟩
 self:=fun _ _ _ _ _ st h=>wpAny_pyIter_tupleiter st h
theorem zmQ {P:Program}{w:World}(it:Addr)(lo:Int)(n:Nat):Turn P w K tg (Itr lo n) [it] it (fun i h=>IsRangeIter h it (lo+(i:Nat)*1) ((n:Int)-(i:Nat)) 1) where
 mem:=by simp
 obj:=fun i h st b hb=>by
  have e:b=it:=by simpa using hb
  subst e
  exact⟨_,st,fun v z=>by
   have z':Data.fields _=Data.cell v:=z
   cases z'⟩
 keep:=fun i h h' st k=>k it (by simp) _ st
 item:=by
  intro X hP hw hK hc i pins s σ H E I hf st hg
  subst hP hw hK
  obtain⟨f0,f1,f2,f3,f4,f5⟩:=hf it (by simp)
  have W:=Walks.range (prog:=X.prog) (w:=X.w) (I.ok.hd hc) it lo 1 n
  refine W.item i s _ _ hg st fun v h' tk hv st' kk=>?_
  obtain⟨t,rfl⟩:=hv
  have I1:Inv X pins σ H {s with heap:=h',toks:=tk}:=I.turned (fun b o hb e=>kk b o (by simpa using hb) e) f0 f1 f3 f4 f5
  refine⟨_,rfl,go_of (s:={s with heap:=h',toks:=tk}) (n:="range_iterator") st' rfl rfl (by decide) ⟨.int (lo+i),H,I1,⟨t,?_⟩,⟨rfl,rfl⟩,st',fun b hb=>(hf b hb).1⟩⟩
  rw[Int.mul_one]
 done:=by
  intro X hP hw hK hc i pins s σ H E I hf st hg
  subst hP hw hK
  obtain⟨f0,f1,f2,f3,f4,f5⟩:=hf it (by simp)
  exact wpAny_pyNext_range_end (I.ok.hd hc) st (by have:n<=i:=hg;lia) fun h' eb=>⟨rfl,I.turned (t':=s.toks) (fun b o hb e=>eb b o hb e) f0 f1 f3 f4 f5⟩
 self:=fun _ _ _ _ _ st h=>wpAny_pyIter_rangeiter st h
section
variable {X:Cx} {tg:Expr}
theorem range_it {R:It->Hp->Prop}{lo hi:Int}{t u v:Tok}{tk:Nat}(I:Inv X pins σ H s)(h1: -(2^62)<=lo)(h2:lo<2^62)(h3: -(2^62)<=hi)(h4:hi<2^62)
  (q:R (Itr lo (hi-lo).toNat) H):wpAny (model X.prog X.w) X.A (pyIter (.ref s.heap.objs.size)) (PIE X pins σ tg R) E {s with heap:=s.heap.push {cls:= .type "range",data:= .fields #[.int lo t,.int hi u,.int 1 v]},toks:=tk}:=by
 refine wpAny_pyIter_range (IsRange.new ..) (small_one h1 h2 h3 h4) ?_
 have I1:Inv X pins σ H {s with heap:=s.heap.push {cls:= .type "range",data:= .fields #[.int lo t,.int hi u,.int 1 v]},toks:=tk}:=I.kept fun b o e=>Heap.get?_push_of_some _ e
 refine⟨(s.heap.push {cls:= .type "range",data:= .fields #[.int lo t,.int hi u,.int 1 v]}).objs.size,[(s.heap.push {cls:= .type "range",data:= .fields #[.int lo t,.int hi u,.int 1 v]}).objs.size],_,_,H,rfl,
  I1.kept (t':=tk) fun b o e=>Heap.get?_push_of_some _ e,zmQ _ lo (hi-lo).toNat,?_,fun b hb=>?_,q⟩
 ·have e1:lo+((0:Nat):Int)*1=lo:=by simp
  have e2:(((hi-lo).toNat:Nat):Int)-((0:Nat):Int)=Builtin.Range.rangeSize lo hi 1:=by rw[rangeSize_one];split<;>lia
  show IsRangeIter _ _ (lo+((0:Nat):Int)*1) ((((hi-lo).toNat:Nat):Int)-((0:Nat):Int)) 1
  rw[e1,e2]
  exact Heap.get?_push_size _ rfl
 ·have e:b=(s.heap.push {cls:= .type "range",data:= .fields #[.int lo t,.int hi u,.int 1 v]}).objs.size:=by simpa using hb
  subst e
  exact I1.fpOk (Nat.le_refl _) (I1.hok.fresh (Nat.le_refl _))
noncomputable def iRng1 (ta:TA):TI:=fun σ H R=>ta σ H fun vs H1=>∃j:Int,vs=[.int j]/\ -(2^62)<=j/\j<2^62/\R (Itr 0 j.toNat) H1
theorem zoC {a:Expr}{ta:TA}{p pos:Pos}(hg:Gl X "range")(hm:X.mg "range"=none)(ha:PA X [a] ta)(hs:autoParam (starEach [a] X.env=[(false,eval a X.env)]) zu2._auto_1):PI X tg (.Call (.Name "range" p) [a] [] pos) (iRng1 ta):=by
 intro pins s σ H R I h
 refine Call_ (ziK I hg hm boot_range (PyProof.Rows.callWith_type1 (thn (ha pos pins s σ H _ I h) fun us s1 ⟨vs,H1,I1,r1,q1⟩=>?_) hs rfl))
 obtain⟨j,e,q1,q2,q⟩:=q1
 subst e
 cases r1 with
 |cons r rr=>
  cases rr
  obtain⟨t,rfl⟩:=r
  exact call_range_1 (range_it I1 (by lia) (by lia) q1 q2 (by simpa using q))
noncomputable def tFor (wi:TI)(g:TG)(tb:TS):TS:=fun D σ H=>wi σ H fun J H1=>∃W:Nat->Nat->St->Hp->Prop,(∃m,W 0 m σ H1)/\∀i m σ H,W i m σ H->
 (J.stop i H/\D.nx σ H)\/(J.go i H/\∃N:St->Hp->Prop,(∀σ' H',N σ' H'->∃m',m'<m/\W (i+1) m' σ' H')/\∀x H',J.yld i H x H'->g x σ H' fun σ2 H2=>tb {D with nx:=N,ct:=N,bk:=D.nx} σ2 H2)
noncomputable def zjW (fp:List Addr)(h:Heap):List (Addr×Obj):=fp.filterMap fun b=>(h.get? b).map fun o=>(b,o)
theorem zfV (hb:b∈fp)(e:h.get? b=some o):(b,o)∈zjW fp h:=List.mem_filterMap.mpr ⟨b,hb,by rw[e];rfl⟩
theorem zoH (hp:p∈zjW fp h):p.1∈fp/\h.get? p.1=some p.2:=by
 obtain⟨b,hb,e⟩:=List.mem_filterMap.mp hp
 cases q:h.get? b with
 |none=>rw[q]at e;cases e
 |some o=>
  rw[q]at e
  have e':(b,o)=p:=Option.some.inj e
  subst e'
  exact⟨hb,q⟩
theorem Inv.pinned (I:Inv X pins σ H s)(hf:∀b∈fp,FpOk X pins H b)(ho:∀b∈fp,∃o,s.heap.get? b=some o/\∀v,o.data≠ .cell v):Inv X (pins++zjW fp s.heap) σ H s:=
 I.pins_of fun p hp=>(List.mem_append.mp hp).elim (fun z=>I.pin p (List.mem_append_right _ z)) fun z=>by
  obtain⟨hb,e⟩:=zoH z
  obtain⟨f0,f1,f2,_⟩:=hf p.1 hb
  obtain⟨o,e',d⟩:=ho p.1 hb
  rw[e]at e';cases e'
  exact⟨e,f0,f1,f2,d⟩
theorem Inv.unpinned (I:Inv X (pins++pl) σ H s):Inv X pins σ H s:=I.pins_of fun p hp=>I.pin p (List.mem_append_right _ (List.mem_append_left _ hp))
theorem ps_for {iter:Expr}{wi:TI}{g:TG}(hp:PassesOwn (model X.prog X.w) X.A X.env X.xe)(hc:X.calm=true)(hi:PI X tg iter wi)(hg:PG X tg g)(hb:PSs X body tb)
    (hs:autoParam (∀x,foldedSetIterable iter X.env x=pure x) zu3._auto_1):PS X (.For tg iter body [] pos) (tFor wi g tb):=by
  intro pins s σ H D I h
  refine wpAny_For (thn (hi pins s σ H _ I h) fun v s1 h1=>thn h1 fun itv s2 h2=>?_) hs
  obtain⟨it,fp,tn,J,H2,e,I2,T,st2,f2,W,⟨m0,w0⟩,turn⟩:=h2
  subst e
  have stat:∀{H':Hp},(∀b∈fp,H' b=none)->∀b∈fp,FpOk X pins H' b:=fun hn b hb=>⟨hn b hb,(f2 b hb).2⟩
  refine codeAny_forLoop_any (fun n s'=>∃i σ' H',Inv X pins σ' H' s'/\tn i s'.heap/\(∀b∈fp,H' b=none)/\W i n σ' H') ?_ m0 ⟨0,σ,H2,I2,st2,fun b hb=>(f2 b hb).1,w0⟩
  rintro n s3 ⟨i,σ3,H3,I3,st3,fr3,w3⟩
  rcases turn i n σ3 H3 w3 with⟨stop,qn⟩|⟨go,N,hN,step⟩
  . refine wpAny_passesOwn hp (thn (T.done X rfl rfl rfl hc i pins s3 σ3 H3 X.xe I3 (stat fr3) st3 stop) fun r s4 ⟨hr,I4⟩=>?_)
    subst hr
    exact wpAny_execs_nil ⟨σ3,H3,I4,qn⟩
  . refine wpAny_passesOwn hp (thn (T.item X rfl rfl rfl hc i pins s3 σ3 H3 X.xe I3 (stat fr3) st3 go) fun r s4 ⟨u,hr,h4⟩=>?_)
    subst hr
    refine wpAny_passesOwn hp (thn h4 fun _ s5 ⟨x,H5,I5,r5,y5,st5,fr5⟩=>?_)
    have I5':=I5.pinned (stat fr5) (T.obj _ _ st5)
    refine wpAny_passesOwn hp (thn (hg _ s5 σ3 H5 x u _ I5' r5 (step x H5 y5)) fun _ s6 ⟨σ6,H6,I6,q6⟩=>?_)
    refine wpAny_passesOwn hp (thn (hb _ s6 σ6 H6 _ I6 q6) fun f s7 q7=>?_)
    have again:∀{σ7:St} {H7:Hp},Inv X (pins++zjW fp s5.heap) σ7 H7 s7->N σ7 H7->∃m,m<n/\∃i σ' H',Inv X pins σ' H' s7/\tn i s7.heap/\(∀b∈fp,H' b=none)/\W i m σ' H':=fun{σ7 H7} I7 n7=>by
      obtain⟨m',hm,w7⟩:=hN σ7 H7 n7
      refine⟨m',hm,i+1,σ7,H7,I7.unpinned,T.keep _ _ _ st5 fun b hb o e=>(I7.pin (b,o) (List.mem_append_right _ (List.mem_append_right _ (zfV hb e)))).1,fun b hb=>?_,w7⟩
      obtain⟨o,e,d⟩:=T.obj _ _ st5 b hb
      exact(I7.pin (b,o) (List.mem_append_right _ (List.mem_append_right _ (zfV hb e)))).2.1
    cases f with
    |next=>obtain⟨σ7,H7,I7,n7⟩:=q7;exact again I7 n7
    |cont=>obtain⟨σ7,H7,I7,n7⟩:=q7;exact again I7 n7
    |brk=>obtain⟨σ7,H7,I7,q7⟩:=q7;exact⟨σ7,H7,I7.unpinned,q7⟩
    |ret v=>obtain⟨x7,σ7,H7,I7,r7,q7⟩:=q7;exact⟨x7,σ7,H7,I7.unpinned,r7,q7⟩
end
noncomputable abbrev R2:=V->V->Hp->VK->Prop
noncomputable def OpR (X:Cx)(f:Value->Value->Sem Value)(r:R2):Prop:=
 ∀(pins:List (Addr×Obj)) (s:Shared) (σ:St) (H:Hp) (x y:V) (v u:Value) (Q:VK),Inv X pins σ H s->RelV x v->RelV y u->r x y H Q->
  wpAny (model X.prog X.w) X.A (f v u) (EP X pins σ Q) X.xe s
noncomputable def UnR (X:Cx)(f:Value->Sem Value)(r:V->Hp->VK->Prop):Prop:=
 ∀(pins:List (Addr×Obj)) (s:Shared) (σ:St) (H:Hp) (x:V) (v:Value) (Q:VK),Inv X pins σ H s->RelV x v->r x H Q->
  wpAny (model X.prog X.w) X.A (f v) (EP X pins σ Q) X.xe s
noncomputable def zhn (X:Cx)(f:Value)(r:List V->Hp->VK->Prop):Prop:=
 ∀(pins:List (Addr×Obj)) (s:Shared) (σ:St) (H:Hp) (xs:List V) (us:List Value) (Q:VK),Inv X pins σ H s->Vals xs us->r xs H Q->
  wpAny (model X.prog X.w) X.A (call f us) (EP X pins σ Q) X.xe s
noncomputable def TruR (X:Cx)(r:V->Hp->(Bool->Hp->Prop)->Prop):Prop:=
 ∀(pins:List (Addr×Obj)) (s:Shared) (σ:St) (H:Hp) (x:V) (v:Value) (Q:Bool->Hp->Prop),Inv X pins σ H s->RelV x v->r x H Q->
  wpAny (model X.prog X.w) X.A (truthy v) (TP X pins σ Q) X.xe s
noncomputable def tOp (r:R2)(ta tb:TE):TE:=fun σ H Q=>ta σ H fun x H1=>tb σ H1 fun y H2=>r x y H2 Q
noncomputable def tUn (r:V->Hp->VK->Prop)(ta:TE):TE:=fun σ H Q=>ta σ H fun x H1=>r x H1 Q
noncomputable def rI (C:Int->Int->Prop)(g:Int->Int->V):R2:=fun x y H Q=>∃i j,x= .int i/\y= .int j/\C i j/\Q (g i j) H
noncomputable def rI0 (g:Int->Int->V):R2:=fun x y H Q=>∃i j,x= .int i/\y= .int j/\Q (g i j) H
noncomputable def rU (g:Int->V):V->Hp->VK->Prop:=fun x H Q=>∃i,x= .int i/\Q (g i) H
section
variable {X:Cx} {a b c:Expr} {ta tb tc:TE} {pos:Pos}
theorem binT (ha:PE X a ta)(hb:PE X b tb){R:V->V->Hp->Prop}(I:Inv X pins σ H s)
  (h:ta σ H fun x H1=>tb σ H1 fun y H2=>R x y H2) {Q:Value->Shared->Prop} {f:Value->Value->Sem Value}
  (hf:∀v u s2 x y H2,Inv X pins σ H2 s2->RelV x v->RelV y u->R x y H2->wpAny (model X.prog X.w) X.A (f v u) Q X.xe s2):
  wpAny (model X.prog X.w) X.A (eval a X.env) (fun v s₁=>wpAny (model X.prog X.w) X.A (eval b X.env) (fun u s₂=>wpAny (model X.prog X.w) X.A (f v u) Q X.xe s₂) X.xe s₁) X.xe s:=by
 refine thn (ha pins s σ H _ I h) fun v s1 ⟨x,H1,I1,r1,q1⟩=>?_
 refine thn (hb pins s1 σ H1 _ I1 q1) fun u s2 ⟨y,H2,I2,r2,q2⟩=>?_
 exact hf v u s2 x y H2 I2 r1 r2 q2
theorem pe_op {op:Operator}{r:R2}(ho:OpR X (binaryOp op) r)(ha:PE X a ta)(hb:PE X b tb):PE X (.BinOp a op b pos) (tOp r ta tb):=by
 intro pins s σ H Q I h
 exact wpAny_BinOp (binT ha hb I h fun v u s2 x y H2 I2 rx ry q=>ho pins s2 σ H2 x y v u Q I2 rx ry q)
theorem pe_un {op:UnaryOp}(ho:UnR X (unaryOp op) r)(ha:PE X a ta):PE X (.UnaryOp op a pos) (tUn r ta):=by
 intro pins s σ H Q I h
 exact UnaryOp_ (thn (ha pins s σ H _ I h) fun v s1 ⟨x,H1,I1,r1,q1⟩=>ho pins s1 σ H1 x v Q I1 r1 q1)
theorem opI
  (rule:∀(i j:Int) (t u:Tok) (s:Shared) (Q:Value->Shared->Prop) (E:Value->Shared->Prop),C i j->Q (.int (g i j) s.toks) {s with toks:=s.toks+1}->wpAny (model X.prog X.w) X.A (f (.int i t) (.int j u)) Q E s):
  OpR X f (rI C fun i j=> .int (g i j)):=by
 intro pins s σ H x y v u Q I rx ry h
 obtain⟨i,j,rfl,rfl,hc,q⟩:=h
 obtain⟨t,rfl⟩:=rx
 obtain⟨t',rfl⟩:=ry
 exact rule i j t t' s _ _ hc ⟨.int (g i j),H,I.tok _,⟨_,rfl⟩,q⟩
theorem opI0
  (rule:∀(i j:Int) (t u:Tok) (s:Shared) (Q:Value->Shared->Prop) (E:Value->Shared->Prop),Q (.int (g i j) s.toks) {s with toks:=s.toks+1}->wpAny (model X.prog X.w) X.A (f (.int i t) (.int j u)) Q E s):
  OpR X f (rI0 fun i j=> .int (g i j)):=by
 intro pins s σ H x y v u Q I rx ry h
 obtain⟨i,j,rfl,rfl,q⟩:=h
 obtain⟨t,rfl⟩:=rx
 obtain⟨t',rfl⟩:=ry
 exact rule i j t t' s _ _ ⟨.int (g i j),H,I.tok _,⟨_,rfl⟩,q⟩
theorem opB0 {g:Int->Int->Bool}
  (rule:∀(i j:Int) (t u:Tok) (s:Shared) (Q:Value->Shared->Prop) (E:Value->Shared->Prop),Q (.bool (g i j)) s->wpAny (model X.prog X.w) X.A (f (.int i t) (.int j u)) Q E s):
  OpR X f (rI0 fun i j=> .bl (g i j)):=by
 intro pins s σ H x y v u Q I rx ry h
 obtain⟨i,j,rfl,rfl,q⟩:=h
 obtain⟨t,rfl⟩:=rx
 obtain⟨t',rfl⟩:=ry
 exact rule i j t t' s _ _ ⟨.bl (g i j),H,I,rfl,q⟩
noncomputable def CPow (i j:Int):Prop:=0<=j/\j<=1000000/\i.natAbs<2^64
theorem op_add:OpR X (binaryOp .Add) (rI0 fun i j=> .int (i+j)):=opI0 fun _ _ _ _ _ _ _ q=>add_int q
theorem op_sub:OpR X (binaryOp .Sub) (rI0 fun i j=> .int (i-j)):=opI0 fun _ _ _ _ _ _ _ q=>sub_int q
theorem op_mod:OpR X (binaryOp .Mod) (rI (fun _ j=>0<j) fun i j=> .int (i%j)):=opI fun i j _ _ _ _ _ hc q=>by
 have h1:(0:Int)<j:=hc
 exact mod_int' (by lia) (by rw[Int.fmod_eq_emod_of_nonneg i (by lia)];exact q)
theorem op_pow:OpR X (binaryOp .Pow) (rI CPow fun i j=> .int (i^j.toNat)):=opI fun _ _ _ _ _ _ _ hc q=>pow_int_small hc.1 hc.2.1 hc.2.2 q
theorem unI {f:Value->Sem Value}{g:Int->Int}
  (rule:∀(i:Int) (t:Tok) (s:Shared) (Q:Value->Shared->Prop) (E:Value->Shared->Prop),Q (.int (g i) s.toks) {s with toks:=s.toks+1}->wpAny (model X.prog X.w) X.A (f (.int i t)) Q E s):
  UnR X f (rU fun i=> .int (g i)):=by
 intro pins s σ H x v Q I rx h
 obtain⟨i,rfl,q⟩:=h
 obtain⟨t,rfl⟩:=rx
 exact rule i t s _ _ ⟨.int (g i),H,I.tok _,⟨_,rfl⟩,q⟩
theorem un_neg:UnR X (unaryOp .USub) (rU fun i=> .int (-i)):=unI fun _ _ _ _ _ q=>neg_int q
end
section
variable {X:Cx} {a b c:Expr} {ta tb tc:TE} {pos:Pos}
theorem zoB {Q:VK}{k k':Bool}(I:Inv X pins σ H s)(q:Q (.bl k) H)(e:k=k'):EP X pins σ Q (.bool k') s:=by
 subst e
 exact⟨.bl k,H,I,rfl,q⟩
theorem op_lt:OpR X (compareOp .Lt) (rI0 fun i j=> .bl (decide (i<j))):=opB0 fun _ _ _ _ _ _ _ q=>lt_int q
theorem zi3:OpR X (compareOp .LtE) (rI0 fun i j=> .bl (decide (i<=j))):=opB0 fun _ _ _ _ _ _ _ q=>le_int q
theorem op_gt:OpR X (compareOp .Gt) (rI0 fun i j=> .bl (decide (j<i))):=opB0 fun _ _ _ _ _ _ _ q=>gt_int q
theorem op_ge:OpR X (compareOp .GtE) (rI0 fun i j=> .bl (decide (j<=i))):=opB0 fun _ _ _ _ _ _ _ q=>ge_int q
theorem op_isN:OpR X (compareOp .Is) (fun x y H Q=>y= .non/\Q (.bl (decide (x= .non))) H):=by
 intro pins s σ H x y v u Q I rx ry h
 obtain⟨rfl,q⟩:=h
 cases ry
 refine is_none_gen (zoB I q ?_)
 cases x<;>first
  |(cases rx;rfl)
  |(obtain⟨t,rfl⟩:=rx;rfl)
theorem op_notN:OpR X (compareOp .IsNot) (fun x y H Q=>y= .non/\Q (.bl (!decide (x= .non))) H):=by
 intro pins s σ H x y v u Q I rx ry h
 obtain⟨rfl,q⟩:=h
 cases ry
 refine isnot_none_gen (zoB I q ?_)
 cases x<;>first
  |(cases rx;rfl)
  |(obtain⟨t,rfl⟩:=rx;rfl)
theorem OpR.or {r r':R2}(h:OpR X f r)(h':OpR X f r'):OpR X f (fun x y H Q=>r x y H Q\/r' x y H Q):=by
 intro pins s σ H x y v u Q I rx ry q
 rcases q with q|q
 ·exact h pins s σ H x y v u Q I rx ry q
 ·exact h' pins s σ H x y v u Q I rx ry q
theorem zgU (b:Expr)(h:autoParam (op≠ .In) zu1._auto_1)(h2:autoParam (op≠ .NotIn) zu1._auto_1):behindInMarks op b=false:=by
 have e1:(op==CmpOp.In)=false:=by cases op<;>first|rfl|exact absurd rfl h
 have e2:(op==CmpOp.NotIn)=false:=by cases op<;>first|rfl|exact absurd rfl h2
 cases b<;>simp[behindInMarks,e1,e2]
theorem pe_cmpR {r:R2}(ho:OpR X (compareOp op) r)(ha:PE X a ta)(hb:PE X b tb)(hm:behindInMarks op b=false):PE X (.Compare a [op] [b] pos) (tOp r ta tb):=by
 intro pins s σ H Q I h
 exact wpAny_Compare1 (binT ha hb I h fun v u s2 x y H2 I2 rx ry q=>ho pins s2 σ H2 x y v u Q I2 rx ry q) hm
noncomputable def tTest (t:TE):TT:=fun σ H Q=>t σ H fun x H'=>∃k,x= .bl k/\Q k H'
theorem pt_cmpR {r:R2}(ho:OpR X (compareOp op) r)(ha:PE X a ta)(hb:PE X b tb)(hm:behindInMarks op b=false):PT X (.Compare a [op] [b] pos) (tTest (tOp r ta tb)):=by
 intro pins s σ H Q I h
 refine wpAny_isTrue_Compare1 (thn (ha pins s σ H _ I h) fun v s1 ⟨x,H1,I1,r1,q1⟩=>thn (hb pins s1 σ H1 _ I1 q1) fun u s2 ⟨y,H2,I2,r2,q2⟩=>
  thn (ho pins s2 σ H2 x y v u _ I2 r1 r2 q2) fun c s3 ⟨z,H3,I3,r3,k,e,q3⟩=>?_) hm
 subst e
 cases r3
 exact wpAny_truthy_bool ⟨H3,I3,q3⟩
noncomputable def zoP (r r':R2)(ta tb tc:TE):TE:=fun σ H Q=>ta σ H fun x H1=>tb σ H1 fun y H2=>r x y H2 fun z H3=>∃k,z= .bl k/\
 (if k=true then tc σ H3 fun w' H4=>r' y w' H4 Q else Q (.bl false) H3)
theorem pe_chain {r r':R2}(ho:OpR X (compareOp op) r)(ho':OpR X (compareOp op') r')(ha:PE X a ta)(hb:PE X b tb)(hc:PE X c tc)
  (hm:autoParam (lastMarks [op,op'] [b,c]=false) zu5._auto_1):PE X (.Compare a [op,op'] [b,c] pos) (zoP r r' ta tb tc):=by
 intro pins s σ H Q I h
 refine Compare_chain (thn (ha pins s σ H _ I h) fun v s1 ⟨x,H1,I1,r1,q1⟩=>chain_link (thn (hb pins s1 σ H1 _ I1 q1) fun u s2 ⟨y,H2,I2,r2,q2⟩=>
  thn (ho pins s2 σ H2 x y v u _ I2 r1 r2 q2) fun d s3 ⟨z,H3,I3,r3,k,e,q3⟩=>?_)) hm
 subst e
 cases r3
 refine wpAny_truthy_bool ?_
 cases k with
 |false=>exact ite_ff ⟨.bl false,H3,I3,rfl,q3⟩
 |true=>exact ite_tt (chain_last (thn (hc pins s3 σ H3 _ I3 q3) fun w' s4 ⟨z',H4,I4,r4,q4⟩=>ho' pins s4 σ H4 y z' u w' Q I4 r2 r4 q4))
theorem pt_chain {r r':R2}(ho:OpR X (compareOp op) r)(ho':OpR X (compareOp op') r')(ha:PE X a ta)(hb:PE X b tb)(hc:PE X c tc)
  (hm:autoParam (lastMarks [op,op'] [b,c]=false) zu5._auto_1):PT X (.Compare a [op,op'] [b,c] pos) (tTest (zoP r r' ta tb tc)):=by
 intro pins s σ H Q I h
 refine isTrue_chain (thn (ha pins s σ H _ I h) fun v s1 ⟨x,H1,I1,r1,q1⟩=>test_link (thn (hb pins s1 σ H1 _ I1 q1) fun u s2 ⟨y,H2,I2,r2,q2⟩=>
  thn (ho pins s2 σ H2 x y v u _ I2 r1 r2 q2) fun d s3 ⟨z,H3,I3,r3,k,e,q3⟩=>?_)) hm
 subst e
 cases r3
 refine wpAny_truthy_bool ?_
 cases k with
 |false=>
  obtain⟨k',e',q'⟩:=q3
  cases e'
  exact ite_ff ⟨H3,I3,q'⟩
 |true=>
  refine ite_tt (test_last (thn (hc pins s3 σ H3 _ I3 q3) fun w' s4 ⟨z',H4,I4,r4,q4⟩=>thn (ho' pins s4 σ H4 y z' u w' _ I4 r2 r4 q4) fun d' s5 ⟨z2,H5,I5,r5,k2,e2,q5⟩=>?_))
  subst e2
  cases r5
  exact wpAny_truthy_bool ⟨H5,I5,q5⟩
noncomputable def TruV (K:W.Frag)(x:V)(H:Hp)(k:Bool):Prop:=
 match x with
 | .non=>k=false
 | .bl b=>k=b
 | .int i=>k=(i !=0)
 | .str y=>y.length<=sizeLine/\k=((y.length:Int) !=0)
 | .byt y=>y.size<=sizeLine/\k=((y.size:Int) !=0)
 | .ref p=>(∃xs,SqL K H p xs/\k=!xs.isEmpty)\/(∃xs,SqT K H p xs/\k=!xs.isEmpty)\/∃kvs,H p=some (.dK kvs)/\k=!kvs.isEmpty
 |_=>False
theorem zmG {κ:Type}{kvs:List (κ×V)}{vs:List (κ×Value)}(r:KV kvs vs):(!vs.isEmpty)=!kvs.isEmpty:=by
 cases r<;>rfl
theorem ziE (r:Vals xs its):(!its.toArray.isEmpty)=!xs.isEmpty:=by
 cases r<;>simp
theorem zhV:(sizeLine:Nat)<2^63:=by rw[sizeLine_eq];decide
theorem tru_ok:TruR X (fun x H Q=>∃k,TruV X.K x H k/\Q k H):=by
 intro pins s σ H x v Q I rx h
 obtain⟨k,e,q⟩:=h
 have hl:=zhV
 have hs:sizeLine=16777216:=sizeLine_eq
 cases x with
 |non=>
  cases rx
  have e':k=false:=e
  subst e'
  exact truthy_none ⟨H,I,q⟩
 |bl b=>
  cases rx
  have e':k=b:=e
  subst e'
  exact wpAny_truthy_bool ⟨H,I,q⟩
 |int i=>
  obtain⟨t,rfl⟩:=rx
  have e':k=(i !=0):=e
  subst e'
  exact PySem.P.truthy_int ⟨H,I,q⟩
 |str y=>
  obtain⟨t,rfl⟩:=rx
  obtain⟨hy,e'⟩:y.length<=sizeLine/\k=((y.length:Int) !=0):=e
  subst e'
  exact PySem.P.truthy_str (by lia) ⟨H,I.tok _,q⟩
 |byt y=>
  obtain⟨t,rfl⟩:=rx
  obtain⟨hy,e'⟩:y.size<=sizeLine/\k=((y.size:Int) !=0):=e
  subst e'
  exact W.truthy_bytes (by lia) ⟨H,I.tok _,q⟩
 |ref p=>
  cases rx
  have e':(∃xs,SqL X.K H p xs/\k=!xs.isEmpty)\/(∃xs,SqT X.K H p xs/\k=!xs.isEmpty)\/∃kvs,H p=some (.dK kvs)/\k=!kvs.isEmpty:=e
  rcases e' with⟨xs,hx,e'⟩|⟨xs,hx,e'⟩|⟨kvs,hx,e'⟩
  ·subst e'
   obtain⟨its,r,pl,hz⟩:=I.list hx
   have hlen:=r.length
   exact wpAny_truthy_list pl.isList (by simp only[List.size_toArray];lia) ⟨H,I.tok _,by rw[ziE r];exact q⟩
  ·subst e'
   obtain⟨its,r,pl,hz⟩:=I.tuple hx
   have hlen:=r.length
   exact truthy_tuple pl (by simp only[List.size_toArray];lia) ⟨H,I.tok _,by rw[ziE r];exact q⟩
  ·subst e'
   obtain⟨hz,hS,vs,r,m⟩:kvs.length<=sizeLine/\(p==sysModules)=false/\∃vs,KV kvs vs/\s.heap.DictOf (zbU X.prog X.w) p vs:=I.hok p _ hx
   have hlen:kvs.length=vs.length:=Paired.length r
   exact wpAny_truthy_dict hS m (by lia) ⟨H,I.tok _,by rw[zmG r];exact q⟩
 |_=>exact(show False from e).elim
theorem pt_truth (ha:PE X a ta)(he:∀whole,isTrue a X.env whole=(do let v<-whole;standAt a.pos;holding [v] (truthy v))):
  PT X a (fun σ H Q=>ta σ H fun x H'=>∃k,TruV X.K x H' k/\Q k H'):=by
 intro pins s σ H Q I h
 exact isTrue_plain (thn (ha pins s σ H _ I h) fun v s1 ⟨x,H1,I1,r1,q1⟩=>tru_ok pins s1 σ H1 x v Q I1 r1 q1) (he _)
theorem zmB:OpR X (binaryOp .Add) (fun x y H Q=>∃i j,x= .str i/\y= .str j/\i.length+j.length<=sizeLine/\Q (.str (i++j)) H):=by
 intro pins s σ H x y v u Q I rx ry h
 obtain⟨i,j,rfl,rfl,hz,q⟩:=h
 obtain⟨t,rfl⟩:=rx
 obtain⟨t',rfl⟩:=ry
 exact add_str (fun t' tk=>⟨.str (i++j),H,I.tok _,⟨_,rfl⟩,q⟩) hz
theorem zla {x:V}(r:Vals [x] us):∃u,us=[u]/\RelV x u:=by
 cases r with
 |cons r1 r2=>cases r2;exact⟨_,rfl,r1⟩
theorem vals2 {x y:V}(r:Vals [x,y] us):∃u w',us=[u,w']/\RelV x u/\RelV y w':=by
 cases r with
 |cons r1 r2=>
  cases r2 with
  |cons r3 r4=>cases r4;exact⟨_,_,rfl,r1,r3⟩
theorem znI (hc:X.calm=true):zhn X (.builtin "max") (fun xs H Q=>∃i j,xs=[.int i,.int j]/\Q (.int (if j>i then j else i)) H):=by
 intro pins s σ H xs us Q I r h
 obtain⟨i,j,rfl,q⟩:=h
 obtain⟨u,w',rfl,⟨t,rfl⟩,⟨t',rfl⟩⟩:=vals2 r
 refine max_two_ints (I.ok.hd hc) fun h' tk k=>⟨_,H,I.kept k,?_,q⟩
 by_cases hj:j>i
 ·rw[if_pos hj,if_pos hj];exact⟨_,rfl⟩
 ·rw[if_neg hj,if_neg hj];exact⟨_,rfl⟩
theorem zoe (hc:X.calm=true):zhn X (.builtin "min") (fun xs H Q=>∃i j,xs=[.int i,.int j]/\Q (.int (if j<i then j else i)) H):=by
 intro pins s σ H xs us Q I r h
 obtain⟨i,j,rfl,q⟩:=h
 obtain⟨u,w',rfl,⟨t,rfl⟩,⟨t',rfl⟩⟩:=vals2 r
 refine min_two_ints (I.ok.hd hc) fun h' tk k=>⟨_,H,I.kept k,?_,q⟩
 by_cases hj:j<i
 ·rw[if_pos hj,if_pos hj];exact⟨_,rfl⟩
 ·rw[if_neg hj,if_neg hj];exact⟨_,rfl⟩
end
theorem RelO.some_of {o:Option Value}(r:RelO (some v) o):∃u,o=some u/\RelV v u:=by
 cases o with
 |none=>exact(show False from r).elim
 |some u=>exact⟨u,rfl,r⟩
structure Room (k:Nat) (A:Around):Prop where
 hd:A.handled=none
 dp:A.depth+3*k+5<recursionLimit
 un:A.units+16*k+200<cLine
 gd:A.guards=some []
theorem Room.mono (r:Room k A)(h:j<=k):Room j A:=⟨r.hd,by have:=r.dp;lia,by have:=r.un;lia,r.gd⟩
theorem Room.deeper (r:Room (k+1) A)(env:Env):Room k (A.deeper env):=
 ⟨r.hd,by have:=r.dp;show A.depth+1+3*k+5<_;lia,by have:=r.un;show A.units+3+16*k+200<_;lia,r.gd⟩
theorem Room.depth (r:Room k A):A.depth<recursionLimit:=by have:=r.dp;lia
theorem Room.units (r:Room k A):A.units+64<cLine:=by have:=r.un;lia
noncomputable def tNil:TA:=fun _ H Q=>Q [] H
noncomputable def tCons (ta:TE)(tr:TA):TA:=fun σ H Q=>ta σ H fun x H1=>tr σ H1 fun xs H2=>Q (x::xs) H2
section
variable {X:Cx} {e:Expr} {es:List Expr} {te:TE} {t:TA} {pos:Pos}
theorem zf4:PA X [] tNil:=fun _ _ _ _ H Q I h=>Calls.spliced_nil ⟨[],H,I,.nil,h⟩
theorem zcn (ha:PE X e te)(hr:PA X es t)(hs:autoParam (starEach (e::es) X.env=(false,eval e X.env)::starEach es X.env) zu2._auto_1):PA X (e::es) (tCons te t):=by
 intro pos pins s σ H Q I h
 rw[hs]
 show wpAny _ _ (spliced ((false,eval e X.env)::backTo pos (starEach es X.env))) _ _ s
 refine Calls.spliced_cons (thn (ha pins s σ H _ I h) fun u s1 ⟨x,H1,I1,r1,q1⟩=>?_)
 exact thn (hr pos pins s1 σ H1 _ I1 q1) fun us s2 ⟨xs,H2,I2,r2,q2⟩=>⟨x::xs,H2,I2,.cons r1 r2,q2⟩
noncomputable def tTup (t:TA):TE:=fun σ H Q=>t σ H fun xs H1=>xs.length<=sizeLine/\∀p,H1 p=none->Q (.ref p) (upd H1 p (.tup xs))
noncomputable def tLst (t:TA):TE:=fun σ H Q=>t σ H fun xs H1=>xs.length<=sizeLine/\∀p,H1 p=none->Q (.ref p) (upd H1 p (.lst xs))
theorem pe_tup {x1}(h:PA X es t):PE X (.Tuple es x1 pos) (tTup t):=by
 intro pins s σ H Q I hq
 refine wpAny_Tuple_spliced (thn (h pos pins s σ H _ I hq) fun us s1 ⟨xs,H1,I1,r,z,q⟩=>⟨by rw[<-r.length];exact z,?_⟩)
 have hf:H1 s1.heap.objs.size=none:=I1.hok.fresh (Nat.le_refl _)
 refine⟨.ref s1.heap.objs.size,upd H1 s1.heap.objs.size (.tup xs),I1.laid (t':=s1.toks) (fun b u e=>Heap.get?_push_of_some _ e) (Nat.le_refl _) ?_,rfl,q _ hf⟩
 exact⟨z,us,r,⟨_,Heap.get?_push_size _ rfl,rfl,_,rfl⟩⟩
theorem zoc (h:PA X es t):PE X (.List es pos) (tLst t):=by
 intro pins s σ H Q I hq
 refine wpAny_List_spliced (thn (h pos pins s σ H _ I hq) fun us s1 ⟨xs,H1,I1,r,z,q⟩=>⟨by rw[<-r.length];exact z,?_⟩)
 have hf:H1 s1.heap.objs.size=none:=I1.hok.fresh (Nat.le_refl _)
 refine⟨.ref s1.heap.objs.size,upd H1 s1.heap.objs.size (.lst xs),I1.laid (t':=s1.toks) (fun b u e=>Heap.get?_push_of_some _ e) (Nat.le_refl _) ?_,rfl,q _ hf⟩
 exact⟨z,us,0,r,Heap.get?_push_size _ rfl⟩
end
noncomputable abbrev Sp:=List V->Hp->VK->XK->Prop
noncomputable abbrev CXT:=List Env->Hp->Shared->XK->Value->Shared->Prop
structure Env0 (P:Program) (w:World) (K:W.Frag) (mg:Str->Option Value) (base:Heap) (A:Around) (outer:List Env) (s:Shared) (H:Hp):Prop where
 frames:A.frames=some outer
 mod:Mod K mg base
 bs:∀b o,base.get? b=some o->s.heap.get? b=some o/\H b=none
 bsz:base.objs.size<=s.heap.objs.size
 funs:s.heap.FunFrames base outer
 frf:∀b∈frs outer,H b=none
 hok:HOk P w H s.heap
 bare:AllBare s.gens
noncomputable def CE (outer:List Env)(P:Program)(w:World)(H:Hp)(s:Shared)(Q:VK)(u:Value)(s':Shared):Prop:=
 ∃v H',s'.os=s.os/\AllBare s'.gens/\Un (frs outer) [] H H' s.heap s'.heap/\HOk P w H' s'.heap/\RelV v u/\Q v H'
noncomputable def CR (CX:CXT)(outer:List Env)(P:Program)(w:World)(H:Hp)(s:Shared)(Q:VK)(E:XK)(r:Result)(s':Shared):Prop:=
 match r with
 | .ok (.ret u)=>CE outer P w H s Q u s'
 | .ok _=>False
 | .error e=>CX outer H s E e s'
structure FnOk (P:Program) (w:World) (K:W.Frag) (mg:Str->Option Value) (base:Heap) (CX:CXT) (k:Nat) (f:Addr) (fd:FuncData) (ps:List Str) (sp:Sp):Prop where
 len:∀vs H Q E,sp vs H Q E->vs.length=ps.length
 run:∀(A:Around) (outer:List Env) (s:Shared) (H:Hp) (args:Args) (us:List Value) (vs:List V) (Q:VK) (E:XK),Room k A->Env0 P w K mg base A outer s H->BindsTo s fd args (ps.zip us)->Vals vs us->sp vs H Q E->
  codeAny (model P w) A (.call (.ref f) args) (CR CX outer P w H s Q E) s
section
variable {X:Cx} {pins:List (Addr×Obj)} {σ:St} {H:Hp} {s s':Shared}
theorem Inv.env0 (I:Inv X pins σ H s):Env0 X.prog X.w X.K X.mg X.base X.A X.stack s H:=
 ⟨I.ok.frames,I.ok.mod,I.bs,Nat.le_trans I.ok.bsz I.sz,I.stack,I.stkFree,I.hok,I.bare⟩
theorem Inv.after {Q:VK}(I:Inv X pins σ H s)(h:CE X.stack X.prog X.w H s Q u s'):EP X pins σ Q u s':=by
 obtain⟨v,H',os,bare,un,hok,r,q⟩:=h
 obtain⟨hh,g,d,t,os'⟩:=s'
 obtain rfl:os'=s.os:=os
 exact⟨v,H',I.call (h':=hh) (g':=g) (d':=d) (t':=t) (ch:=[]) un hok bare (fun b z=>absurd z (by simp)),r,q⟩
end
noncomputable def tCall (sp:Sp)(dvs:List V)(E:XK)(t:TA):TE:=fun σ H Q=>t σ H fun vs H1=>sp (vs++dvs) H1 Q E
noncomputable def Binds (K:W.Frag)(fd:FuncData)(ps:List Str)(ds:List Value):Prop:=
 ∀(s:Shared) (us:List Value),K.In s.heap->(us++ds).length=ps.length->BindsTo s fd ⟨us,[]⟩ (ps.zip (us++ds))
theorem Binds.all (h:∀us:List Value,us.length=ps.length->bindArgs fd ⟨us,[]⟩=pure (ps.zip us)):Binds K fd ps []:=fun s us _ hl=>by
 rw[List.append_nil]at hl ⊢
 exact .of_eq (h us hl)
noncomputable def znx (CX:CXT)(X:Cx)(E:XK):Prop:=∀(pins:List (Addr×Obj)) (σ:St) (H:Hp) (s:Shared) (e:Value) (s':Shared),Inv X pins σ H s->CX X.stack H s E e s'->X.xe e s'
section
variable {X:Cx} {CX:CXT} {k:Nat} {f C:Addr} {fd:FuncData} {ps:List Str} {sp:Sp} {dvs:List V} {ds:List Value} {E:XK} {x m:Str} {p pos apos:Pos} {e o:Expr} {es:List Expr} {ta:TE} {t:TA}
theorem run_fn {Q:VK}(F:FnOk X.prog X.w X.K X.mg X.base CX k f fd ps sp)(hr:Room k X.A)(hb:Binds X.K fd ps ds)(hd:Vals dvs ds)(hx:znx CX X E)
  (I:Inv X pins σ H s) (r:Vals vs us) (h:sp (vs++dvs) H Q E):wpAny (model X.prog X.w) X.A (call (.ref f) us) (EP X pins σ Q) X.xe s:=by
 have r2:Vals (vs++dvs) (us++ds):=r.append hd
 have hl:(us++ds).length=ps.length:=by rw[<-r2.length];exact F.len _ _ _ _ h
 refine wpAny_call (codeAny_mono (F.run X.A X.stack s H ⟨us,[]⟩ (us++ds) (vs++dvs) Q E hr I.env0 (hb s us I.kIn hl) r2 h) fun r s' hq=>?_)
 cases r with
 |error e=>exact hx pins σ H s e s' I hq
 |ok fl=>
  cases fl with
  |ret u=>exact I.after hq
  |next=>exact False.elim hq
  |brk=>exact False.elim hq
  |cont=>exact False.elim hq
theorem ziq (F:FnOk X.prog X.w X.K X.mg X.base CX k f fd ps sp)(hr:Room k X.A)(hg:Gl X x)(hm:X.mg x=some (.ref f))(hk:W.keepIn X.K (.ref f)=true)(hb:Binds X.K fd ps ds)(hd:Vals dvs ds)(hx:znx CX X E)
  (ha:PA X (e::es) t) (hdb:autoParam ((x==("__debug__":Str))=false) zu1._auto_1) (he:autoParam (starEach (e::es) X.env=(false,eval e X.env)::starEach es X.env) zu2._auto_1) (hpl:autoParam ((backTo pos (starEach es X.env)).any (·.1)=false) zu2._auto_1):
  PE X (.Call (.Name x p) (e::es) [] pos) (tCall sp dvs E t):=by
 intro pins s σ H Q I h
 refine wpAny_Call_Name_kw (ld_glob I hg hm ?_ hdb)
 refine W.callWith_K (h₀:=X.base) I.ok.mod.kin hk (thn (ha pos pins s σ H _ I h) fun us s1 ⟨vs,H1,I1,r,q⟩=>⟨I1.kIn,?_⟩) he hpl
 exact run_fn F hr hb hd hx I1 r q
end
structure FnScope (N P:List Str) (sc:Scope):Prop where
 kind:sc.kind= .function
 co:sc.isCoroutine=false
 gen:sc.isGenerator=false
 nd:N.Nodup
 pre:N.take P.length=P
 par:∀x∈P,sc.names.lookup x=some .local\/sc.names.lookup x=some .cell
 nofree:∀y∈sc.names,y.2≠ .free
theorem zkn:∀{binds:List (Str×Value)} {m:Str->Option Value},(∀v,(x,v)∉binds)->bindL kindOf binds m x=m x
 |[],_,_=>rfl
 |(n,v)::r,m,h=>by
  unfold bindL
  rw[zkn fun w hw=>h w (List.mem_cons_of_mem _ hw)]
  split
  ·have:x≠n:=by rintro rfl;exact h v List.mem_cons_self
   simp[this]
  ·rfl
theorem zkq:∀{binds:List (Str×Value)} {m:Str->Option Value},(∀v,(x,v)∉binds)->bindC kindOf binds m x=m x
 |[],_,_=>rfl
 |(n,v)::r,m,h=>by
  unfold bindC
  rw[zkq fun w hw=>h w (List.mem_cons_of_mem _ hw)]
  split
  ·rfl
  ·have:x≠n:=by rintro rfl;exact h v List.mem_cons_self
   simp[this]
theorem zks {v:Value}:∀{P:List Str} {vs:List Value} {i:Nat} {m:Str->Option Value},P.Nodup->P[i]? =some x->vs[i]? =some v->kindOf x=some .local->
  bindL kindOf (P.zip vs) m x=some v
 |[],_,_,_,_,h,_,_=>by simp at h
 |_::_,[],_,_,_,_,h,_=>by simp at h
 |p::P,w::vs,0,m,nd,h1,h2,hk=>by
  simp at h1 h2;subst h1;subst h2
  show bindL kindOf ((p,w)::P.zip vs) m p=_
  unfold bindL
  rw[zkn fun v hv=>(List.nodup_cons.mp nd).1 (List.of_mem_zip hv).1,if_pos hk]
  simp
 |p::P,w::vs,i+1,m,nd,h1,h2,hk=>by
  show bindL kindOf ((p,w)::P.zip vs) m x=_
  unfold bindL
  exact zks (i:=i) (List.nodup_cons.mp nd).2 (by simpa using h1) (by simpa using h2) hk
theorem zkl {v:Value}:∀{P:List Str} {vs:List Value} {i:Nat} {m:Str->Option Value},P.Nodup->P[i]? =some x->vs[i]? =some v->kindOf x≠some .local->
  bindC kindOf (P.zip vs) m x=some v
 |[],_,_,_,_,h,_,_=>by simp at h
 |_::_,[],_,_,_,_,h,_=>by simp at h
 |p::P,w::vs,0,m,nd,h1,h2,hk=>by
  simp at h1 h2;subst h1;subst h2
  show bindC kindOf ((p,w)::P.zip vs) m p=_
  unfold bindC
  rw[zkq fun v hv=>(List.nodup_cons.mp nd).1 (List.of_mem_zip hv).1,if_neg hk]
  simp
 |p::P,w::vs,i+1,m,nd,h1,h2,hk=>by
  show bindC kindOf ((p,w)::P.zip vs) m x=_
  unfold bindC
  exact zkl (i:=i) (List.nodup_cons.mp nd).2 (by simpa using h1) (by simpa using h2) hk
noncomputable def start (N:List Str)(vs:List V):St:=vs.map some++List.replicate (N.length-vs.length) none
noncomputable def cxOf (CX:CXT)(P:Program)(w:World)(K:W.Frag)(mg:Str->Option Value)(base:Heap)(N:List Str)(qual:Str)(scope:Scope)(f:Addr)(cd:Value)(A:Around)(outer:List Env)(s:Shared)(H:Hp)(E:XK):Cx where
 prog:=P
 w:=w
 K:=K
 mg:=mg
 base:=base
 A:=A.deeper (envOfC qual scope s.heap.objs.size f cd)
 N:=N
 s₀:=s
 H₀:=H
 env:=envOfC qual scope s.heap.objs.size f cd
 outer:=outer
 stack:=envOfC qual scope s.heap.objs.size f cd::outer
 ex:=[]
 calm:=true
 fn:=fun _=>true
 pn:=[]
 xe:=fun e s'=>wpAny (model P w) (A.deeper (envOfC qual scope s.heap.objs.size f cd)) (leaving (envOfC qual scope s.heap.objs.size f cd) e) (fun _ s''=>CX outer H s E e s'') (fun e' s''=>CX outer H s E e' s'') s'
theorem zlx (h:sc.names.lookup x=some .cell):∃c,(cellsFrom n sc.names []).lookup x=some c:=by
 have q:=W.cellsFrom_some sc.names n [] (.inl h)
 exact Option.isSome_iff_exists.mp q
theorem zmY {P:Program}{f:Addr}{s s1:Shared}{E:XK}
  (S:FnScope N ps scope) (hd:A.handled=none) (e0:Env0 P w K mg base A outer s H) (hl:vs.length=ps.length) (r:Vals vs us)
  (x:InCallC s s.heap.objs.size (bindL (envOfC qual scope s.heap.objs.size f cd).kindOf (ps.zip us) fun _=>none) (cellsFrom (s.heap.objs.size+1) scope.names []) (bindC (envOfC qual scope s.heap.objs.size f cd).kindOf (ps.zip us) fun _=>none) s1):
  Inv (cxOf CX P w K mg base N qual scope f cd A outer s H E) [] (start N vs) H s1:=by
 have hpl:ps.length<=N.length:=by have:=congrArg List.length S.pre;rw[List.length_take]at this;lia
 obtain⟨h1,tk,rfl,hk⟩:=x.done
 have noA:∀b:Addr,b∉(cxOf CX P w K mg base N qual scope f cd A outer s H E).ex:=fun b z=>absurd (show b∈([]:List Addr)from z) (by simp)
 refine⟨⟨e0.mod,S.kind,rfl,rfl,Nat.le_refl _,fun y z c h1 h2=>?_,fun y hy=>?_,fun y c _ h=>?_,fun _=>hd,Around.frames_deeper e0.frames,.inr ⟨rfl,rfl⟩,fun b z=>absurd z (noA b),e0.bs,e0.bsz,fun b _ _=>noA b,fun b z=>absurd z (noA b),e0.funs,e0.frf⟩,
  rfl,e0.bare,Un.kept hk,⟨_,x.toInCall.ns,fun i y v h1 h2 h3=>?_⟩,fun y c h=>⟨_,x.cell y c h⟩,e0.hok.fresh (Nat.le_refl _),fun y c h=>?_,fun p hp=>absurd (show p∈([]:List (Addr×Obj))from hp) (by simp),e0.hok.kept hk,?_⟩
 ·exact name_of_addr x.apart (PySem.mem_of_lookup h1) (PySem.mem_of_lookup h2)
 ·have hy:scope.names.lookup y=some .cell\/scope.names.lookup y=some .free:=hy
  rcases hy with hy|hy
  ·exact zlx hy
  ·exact absurd rfl (S.nofree _ (PySem.mem_of_lookup hy))
 ·exact Nat.le_of_lt (x.above y c (PySem.mem_of_lookup h))
 ·have hi:i<vs.length:=by
   unfold start at h2
   by_cases hi:i<vs.length
   ·exact hi
   ·rw[List.getElem?_append_right (by simpa using hi)]at h2
    rw[List.getElem?_replicate]at h2
    split at h2<;>cases h2
  have ha:vs[i]? =some v:=by
   unfold start at h2
   rw[List.getElem?_append_left (by simpa using hi),List.getElem?_map]at h2
   cases e:vs[i]? with
   |none=>rw[e]at h2;cases h2
   |some a=>rw[e]at h2;cases h2;rfl
  obtain⟨u,hu,rv⟩:=r.get ha
  have hp:ps[i]? =some y:=by
   rw[<-S.pre,List.getElem?_take_of_lt (by lia)];exact h1
  have ndP:ps.Nodup:=by rw[<-S.pre];exact S.nd.sublist (List.take_sublist _ _)
  refine⟨u,rv,?_⟩
  rcases S.par y (List.mem_of_getElem? hp)with k|k
  ·exact .inl ⟨k,zks ndP hp hu k⟩
  ·obtain⟨c,e⟩:=zlx (n:=s.heap.objs.size+1) k
   refine .inr ⟨.inl k,c,e,?_⟩
   have q:=x.cell y c e
   rw[zkl ndP hp hu (by show scope.names.lookup y≠_;rw[k];decide)]at q
   exact q
 ·exact e0.hok.fresh (Nat.le_of_lt (x.above y c (PySem.mem_of_lookup h)))
 ·unfold start
  show _=N.length
  rw[List.length_append,List.length_map,List.length_replicate]
  lia
theorem fn_of {P:Program}{f:Addr}{name qual:Str}{dV kV doc pm cdv ct oc:Value}{an od:Option Addr}
  {osl:Array (Option Value)} {N ps:List Str} {sp:Sp} (lk:K.lookup f=some ⟨oc,od,.func (W.fnOf name qual params body scope dV kV doc pm an cdv ct),osl⟩) (hcd:W.codeIn K cdv qual=true) (S:FnScope N ps scope)
  (len:∀vs H Q E,sp vs H Q E->vs.length=ps.length)
  (hbody : ∀ (A : Around) (outer : List Env) (s : Shared) (H : Hp) (vs : List V) (Q : VK) (E : XK), Room k (A.deeper (envOfC qual scope s.heap.objs.size f cdv)) -> sp vs H Q E ->
   ∃t,PSs (cxOf CX P w K mg base N qual scope f cdv A outer s H E) body t/\t {nx:=fun _ H'=>Q .non H',rt:=Q} (start N vs) H):
  FnOk P w K mg base CX (k+1) f (W.fnOf name qual params body scope dV kV doc pm an cdv ct) ps sp:=by
 refine⟨len,fun A outer s H args us vs Q E hr e0 hb r hsp=>?_⟩
 have hl:=len _ _ _ _ hsp
 have KX:K.In s.heap:=e0.mod.kin.keeps fun b o e=>(e0.bs b o e).1
 have lim:s.heap.NoLimit:=e0.mod.nolimit.keeps fun b o e=>(e0.bs b o e).1
 have hkind:∀y∈ps.zip us,scope.names.lookup y.1=some .local\/(scope.names.lookup y.1=some .cell/\((cellsFrom (s.heap.objs.size+1) scope.names []).lookup y.1).isSome=true):=fun⟨n,v⟩ hy=>by
  rcases S.par n (List.of_mem_zip hy).1 with q|q
  ·exact .inl q
  ·exact .inr ⟨q,W.cellsFrom_some _ _ _ (.inl q)⟩
 refine codeAny_call_function hr.depth (KX _ _ lk) rfl S.co S.gen rfl (W.codeRec_of KX hcd) (hb _ _ _ _ ?_)
 refine wpAny_newFunctionEnv_cells S.kind hkind fun env he s1 x=>?_
 subst he
 refine⟨lim.keeps x.toInCall.keep,codeAny_func ?_⟩
 obtain⟨t,ht,hq⟩:=hbody A outer s H vs Q E (hr.deeper _) hsp
 have I:Inv (cxOf CX P w K mg base N qual scope f cdv A outer s H E) [] (start N vs) H s1:=zmY S hr.hd e0 hl r x
 refine wpAny_mono (ht [] s1 (start N vs) H _ I hq) (fun fl s' hs=>?_) fun e s' hs=>hs
 have fin:∀{σ':St} {H':Hp} {v:V} {u:Value},Inv (cxOf CX P w K mg base N qual scope f cdv A outer s H E) [] σ' H' s'->RelV v u->Q v H'->CE outer P w H s Q u s':=
  fun{σ' H' v u} J rv q=>⟨v,H',J.os,J.bare,J.base,J.hok,rv,q⟩
 cases fl with
 |ret u=>
  obtain⟨v,σ',H',J,rv,q⟩:=hs
  exact fin J rv q
 |next=>
  obtain⟨σ',H',J,q⟩:=hs
  exact fin (v:=V.non) (u:=Value.none) J rfl q
 |brk=>
  obtain⟨_,_,_,q⟩:=hs
  exact False.elim q
 |cont=>
  obtain⟨_,_,_,q⟩:=hs
  exact False.elim q
section
variable {X:Cx} {x:Str} {p pos:Pos} {e:Expr} {es:List Expr} {t:TA} {id T:String} {r:List V->Hp->VK->Prop}
noncomputable def tCB (r:List V->Hp->VK->Prop)(t:TA):TE:=fun σ H Q=>t σ H fun vs H1=>r vs H1 Q
theorem zgL (hc:zhn X (.builtin id) r)(hg:Gl X x)(hm:X.mg x=none)(hv:bootBuiltins x=some (.builtin id))(ha:PA X (e::es) t)(hn:autoParam (x≠"__name__") zu1._auto_1)(hdb:autoParam ((x==("__debug__":Str))=false) zu1._auto_1)
  (he:autoParam (starEach (e::es) X.env=(false,eval e X.env)::starEach es X.env) zu2._auto_1) (hpl:autoParam ((backTo pos (starEach es X.env)).any (·.1)=false) zu2._auto_1):PE X (.Call (.Name x p) (e::es) [] pos) (tCB r t):=by
 intro pins s σ H Q I h
 refine wpAny_Call_Name_kw (ziK I hg hm hv ?_ hn hdb)
 exact PyProof.Rows.callWith_builtin1 (thn (ha pos pins s σ H _ I h) fun us s1 ⟨vs,H1,I1,r1,q1⟩=>hc pins s1 σ H1 vs us Q I1 r1 q1) he hpl
theorem zkc (hc:zhn X (.type T) r)(hg:Gl X x)(hm:X.mg x=none)(hv:bootBuiltins x=some (.type T))(ha:PA X (e::es) t)(hn:autoParam (x≠"__name__") zu1._auto_1)(hdb:autoParam ((x==("__debug__":Str))=false) zu1._auto_1)
  (he:autoParam (starEach (e::es) X.env=(false,eval e X.env)::starEach es X.env) zu2._auto_1) (hpl:autoParam ((backTo pos (starEach es X.env)).any (·.1)=false) zu2._auto_1):PE X (.Call (.Name x p) (e::es) [] pos) (tCB r t):=by
 intro pins s σ H Q I h
 refine wpAny_Call_Name_kw (ziK I hg hm hv ?_ hn hdb)
 exact PyProof.Rows.callWith_type1 (thn (ha pos pins s σ H _ I h) fun us s1 ⟨vs,H1,I1,r1,q1⟩=>hc pins s1 σ H1 vs us Q I1 r1 q1) he hpl
end
end L2
namespace HT
open PyProof.Rows PySem
noncomputable def ziw:List Int->List Int->Bool
 |[],[]=>false
 |[],_::_=>true
 |_::_,[]=>false
 |x::xs,y::ys=>if x=y then ziw xs ys else decide (x<y)
theorem zhp (x y:Int)(xs ys:List Int):ziw (x::xs) (y::ys)=if x=y then ziw xs ys else decide (x<y):=rfl
section
variable {prog:Program} {w:World} {A:Around} {E:Value->Shared->Prop} {s:Shared}
theorem cat_tup {t b:Addr}{vs ws:List Value}{Q:Value->Shared->Prop}(ht:IsTup s.heap t vs.toArray)(hb:IsTup s.heap b ws.toArray)(hv:vs≠[])
  (h1:ws=[]->Q (.ref t) s) (h2:ws≠[]->Q (.ref s.heap.objs.size) {s with heap:=s.heap.push {cls:= .type "tuple",data:= .seq (vs++ws).toArray}})
  (hsz:vs.length+ws.length<=sizeLine):wpAny (model prog w) A (binaryOp .Add (.ref t) (.ref b)) Q E s:=by
 obtain⟨⟨cls,dd,data,sl⟩,ho,hc,n,hd⟩:=id ht
 obtain⟨⟨cls2,dd2,data2,sl2⟩,ho2,hc2,n2,hd2⟩:=id hb
 simp only at hc hd hc2 hd2
 subst hc hd hc2 hd2
 have e:vs.toArray++ws.toArray=(vs++ws).toArray:=by simp
 by_cases hw:ws=[]
 ·exact concat_meets ⟨_,ho,rfl⟩ ⟨_,ho2,rfl⟩ noFill_tuple_add seq_tuple_add PySem.F.slot_tuple_add PySem.F.entry_tuple_add (PySem.F.args_tuple_add_2 _ _)
   (tuple_addW1 t b vs.toArray ws.toArray n n2 dd dd2 sl sl2 (by simpa using hv) (by simp[hw])) ⟨ho,ho2,h1 hw⟩
 ·refine concat_meets ⟨_,ho,rfl⟩ ⟨_,ho2,rfl⟩ noFill_tuple_add seq_tuple_add PySem.F.slot_tuple_add PySem.F.entry_tuple_add (PySem.F.args_tuple_add_2 _ _)
   (tuple_addW2 t b vs.toArray ws.toArray n n2 dd dd2 sl sl2 (by simpa using hv) (by simpa using hw) (by rw[List.size_toArray,List.size_toArray];exact hsz)) ⟨ho,ho2,?_⟩
  rw[e]
  exact h2 hw
noncomputable def sIx (n d:Nat):Option Int->Nat
 |none=>d
 |some v=>if v<0 then(v+(n:Int)).toNat else min v.toNat n
theorem zmi (n d:Nat):sIx n d none=d:=rfl
theorem zjl (n d k:Nat):sIx n d (some (k:Int))=min k n:=by
 show(if(k:Int)<0 then((k:Int)+(n:Int)).toNat else min (k:Int).toNat n)=min k n
 rw[if_neg (by lia),Int.toNat_natCast]
theorem sIx_le (n d:Nat)(hd:d<=n)(o:Option Int):sIx n d o<=n:=by
 cases o with
 |none=>exact hd
 |some v=>
  show(if v<0 then(v+(n:Int)).toNat else min v.toNat n)<=n
  by_cases hv:v<0
  ·rw[if_pos hv];lia
  ·rw[if_neg hv];exact Nat.min_le_right _ _
theorem zno (v:Int)(n d:Nat):(if v<0 then max (v+(n:Int)) 0 else min v (n:Int))=((sIx n d (some v):Nat):Int):=by
 show(if v<0 then max (v+(n:Int)) 0 else min v (n:Int))=(((if v<0 then(v+(n:Int)).toNat else min v.toNat n):Nat):Int)
 by_cases hv:v<0
 ·simp only[if_pos hv];lia
 ·simp only[if_neg hv];lia
theorem zmI (lo hi:Option Int)(n:Nat):Builtin.Slice.sliceAdjust lo hi 1 (n:Int)=(((sIx n 0 lo:Nat):Int),((sIx n n hi:Nat):Int)):=by
 have h1:¬((1:Int)<0):=by lia
 unfold Builtin.Slice.sliceAdjust
 simp only[h1,if_false]
 refine Prod.ext ?_ ?_
 ·cases lo with
  |none=>rfl
  |some v=>exact zno v n 0
 ·cases hi with
  |none=>rfl
  |some v=>exact zno v n n
theorem zmu (i j:Nat):Builtin.Slice.slicePlaces (i:Int) (j:Int) 1=j-i:=by
 unfold Builtin.Slice.slicePlaces
 have h1:(1:Int)>0:=by lia
 simp only[h1,if_true,Int.ediv_one]
 split<;>lia
theorem ziF {v:Value}{o:Option Int}{Q:Option Int->Shared->Prop}(p:IsPart v o)(h:Q o s):wpAny (model prog w) A (Builtin.Slice.slicePartIndex v) Q E s:=by
 cases p with
 |none=>exact slicePart_none h
 |int i t=>exact slicePart_int h
theorem zeC {sl:Addr}{vl vu:Value}{lo hi:Option Int}{n:Nat}{Q:Int×Int×Nat->Shared->Prop}(hs:s.heap.IsSliceOf sl vl vu .none)(pl:IsPart vl lo)(pu:IsPart vu hi)
  (h:Q (((sIx n 0 lo:Nat):Int),1,sIx n n hi-sIx n 0 lo) s):wpAny (model prog w) A (Builtin.Slice.sliceApplied (.ref sl) (pure (n:Int))) Q E s:=by
 obtain⟨os,hos,hcs,hds⟩:=id hs
 unfold Builtin.Slice.sliceApplied Builtin.Slice.sliceFields
 refine wpAny_bind (wpAny_bind (wpAny_field hos hds (x:=vl) rfl (wpAny_bind (wpAny_field hos hds (x:=vu) rfl (wpAny_bind (wpAny_field hos hds (x:= .none) rfl (wpAny_pure ?_)))))))
 refine wpAny_bind (slicePart_none ?_)
 show wpAny _ _ (if((1:Int)==0)=true then _ else _) _ _ s
 rw[if_neg (by decide)]
 refine wpAny_bind (ziF pl (wpAny_bind (ziF pu (wpAny_bind (wpAny_pure ?_)))))
 show wpAny _ _ (match Builtin.Slice.sliceAdjust lo hi 1 (n:Int)with|(lo,hi)=>pure (lo,(1:Int),Builtin.Slice.slicePlaces lo hi 1)) _ _ s
 rw[zmI lo hi n]
 show wpAny _ _ (pure (((sIx n 0 lo:Nat):Int),(1:Int),Builtin.Slice.slicePlaces ((sIx n 0 lo:Nat):Int) ((sIx n n hi:Nat):Int) 1)) _ _ s
 rw[zmu]
 exact wpAny_pure h
theorem pick_gen (xs:Array Value)(i k:Nat):((List.range k).filterMap fun(m:Nat)=>xs[((i:Int)+(m:Int)*1).toNat]?).toArray=((xs.toList.drop i).take k).toArray:=by
 have e:(fun(m:Nat)=>xs[((i:Int)+(m:Int)*1).toNat]?)=fun m=>xs[i+m]?:=by
  funext m
  have:((i:Int)+(m:Int)*1).toNat=i+m:=by lia
  rw[this]
 rw[e]
 have:=pick_run xs i k
 rw[List.filterMap_map]at this
 have e2:((fun x=>xs[x]?) ∘ fun x=>i+x)=fun m=>xs[i+m]?:=rfl
 rw[e2]at this
 rw[this]
theorem zhh {t sl:Addr}{items:Array Value}{vl vu:Value}{lo hi:Option Int}{Q:Value->Shared->Prop}(ht:IsTup s.heap t items)(hs:s.heap.IsSliceOf sl vl vu .none)(pl:IsPart vl lo)(pu:IsPart vu hi)
  (hw:¬(sIx items.size 0 lo=0/\sIx items.size items.size hi=items.size))
  (h:Q (.ref s.heap.objs.size) {s with heap:=s.heap.push {cls:= .type "tuple",data:= .seq ((items.toList.drop (sIx items.size 0 lo)).take (sIx items.size items.size hi-sIx items.size 0 lo)).toArray}})
  (hsz:items.size<=sizeLine):wpAny (model prog w) A (getItem (.ref t) (.ref sl)) Q E s:=by
 have htake:sizeOk (.seq ((items.toList.drop (sIx items.size 0 lo)).take (sIx items.size items.size hi-sIx items.size 0 lo)).toArray):=by
  show((items.toList.drop (sIx items.size 0 lo)).take (sIx items.size items.size hi-sIx items.size 0 lo)).toArray.size<=sizeLine
  rw[List.size_toArray,List.length_take,List.length_drop,Array.length_toList]
  lia
 have hj:sIx items.size items.size hi<=items.size:=sIx_le _ _ (Nat.le_refl _) hi
 obtain⟨os,hos,hcs,hds⟩:=id hs
 have hTs:s.TypeIs (.ref sl) "slice":=⟨os,hos,hcs⟩
 unfold getItem
 try with_reducible refine wpAny_holding ?_
 first|refine wpAny_bind (wpAny_pure ?_)|skip
 refine wpAny_bind (wpAny_sequenceKey ht.typeIs (by decide) ?_)
 refine wpAny_bind (wpAny_callSpecial?_slot (name:=Str.ofString "__getitem__") ht.typeIs PyProof.Rows.slot_tuple_getitem
  (wpAny_call_entry PyProof.Rows.slot_tuple_getitem ht.typeIs entry_tuple_getitem ?_ (args_tuple_getitem _ _)))
 show wpAny _ _ (Builtin.Tuple.tupleItemsOf (.ref t)>>=_) _ _ s
 refine wpAny_bind (tupleItemsOf_ ht ?_)
 refine wpAny_bind (wpAny_typeOf hTs ?_)
 rw[if_pos (by decide)]
 refine wpAny_bind (zeC hs pl pu ?_)
 have hno:¬((((sIx items.size 0 lo:Nat):Int)==0&&(1:Int)==1&&(sIx items.size items.size hi-sIx items.size 0 lo)==items.size)=true):=by
  intro q
  rw[Bool.and_eq_true,Bool.and_eq_true]at q
  have q1:((sIx items.size 0 lo:Nat):Int)=0:=eq_of_beq q.1.1
  have q2:sIx items.size items.size hi-sIx items.size 0 lo=items.size:=eq_of_beq q.2
  exact hw ⟨by lia,by lia⟩
 show wpAny _ _ (if(((sIx items.size 0 lo:Nat):Int)==0&&(1:Int)==1&&(sIx items.size items.size hi-sIx items.size 0 lo)==items.size)=true then _ else _) _ _ s
 rw[if_neg hno,pick_gen]
 first
  |exact wpAny_bind (m:=Builtin.Tuple.tupleExact _) (wpAny_newObj_type (wpAny_pure ⟨_,rfl,wpAny_pure h⟩) htake)
  |exact wpAny_bind (m:=Builtin.Tuple.tupleExact _) (wpAny_newObj_type (wpAny_bind (wpAny_pure (wpAny_pure ⟨_,rfl,wpAny_pure h⟩))) htake)
  |exact wpAny_bind (wpAny_bind (m:=Builtin.Tuple.tupleExact _) (wpAny_newObj_type (wpAny_pure (wpAny_pure ⟨_,rfl,wpAny_pure h⟩)) htake))
  |exact wpAny_bind (wpAny_bind (m:=Builtin.Tuple.tupleExact _) (wpAny_newObj_type (wpAny_pure ⟨_,rfl,wpAny_pure h⟩) htake))
end
end HT
namespace L2
open PyProof.Rows PySem PySem.Spec
variable {ns:List Int} {r r':V->Option Int->Option Int->Hp->VK->Prop} {xs:List V} {us its its':List Value} {n j t':Nat} {i:Int} {pins:List (Addr×Obj)} {σ:St} {H:Hp} {s:Shared} {p:Addr} {f:Array Value->Array Value} {A:Around} {y x:V} {u v:Value}
noncomputable abbrev TO:=St->Hp->(Option Int->Hp->Prop)->Prop
noncomputable def PO (X:Cx)(e:Option Expr)(t:TO):Prop:=
 ∀(pins:List (Addr×Obj)) (s:Shared) (σ:St) (H:Hp) (Q:Option Int->Hp->Prop),Inv X pins σ H s->t σ H Q->
  wpAny (model X.prog X.w) X.A (evalPart e X.env) (fun u s'=>∃o H',Inv X pins σ H' s'/\IsPart u o/\Q o H') X.xe s
noncomputable def tNoPart:TO:=fun _ H Q=>Q none H
noncomputable def tPart (t:TE):TO:=fun σ H Q=>t σ H fun x H1=>∃i,x= .int i/\Q (some i) H1
theorem zmC:∀{us:List Value},Vals (ns.map V.int) us->IntsAre us ns:=by
 induction ns with
 |nil=>intro us r;rw[List.map_nil]at r;cases r;exact .nil
 |cons n ns ih=>
  intro us r
  rw[List.map_cons]at r
  cases r with
  |cons r1 r2=>
   obtain⟨t,e⟩:=r1
   subst e
   exact .cons n t (ih r2)
section
variable {X:Cx} {e:Expr} {te:TE} {lo hi:Option Expr} {tl th:TO} {pos p2:Pos}
theorem po_none:PO X none tNoPart:=by
 intro pins s σ H Q I h
 rw[evalPart_none]
 exact wpAny_pure ⟨none,H,I,.none,h⟩
theorem po_some (h:PE X e te):PO X (some e) (tPart te):=by
 intro pins s σ H Q I hw
 rw[evalPart_some]
 refine thn (h pins s σ H _ I hw) fun u s1 ⟨x,H1,I1,r1,q1⟩=>?_
 obtain⟨i,rfl,q⟩:=q1
 obtain⟨t,rfl⟩:=r1
 exact⟨some i,H1,I1,.int i t,q⟩
noncomputable def SlR (X:Cx)(r:V->Option Int->Option Int->Hp->VK->Prop):Prop:=
 ∀(pins:List (Addr×Obj)) (s:Shared) (σ:St) (H:Hp) (x:V) (v vl vu:Value) (lo hi:Option Int) (sl:Addr) (Q:VK),Inv X pins σ H s->RelV x v->s.heap.IsSliceOf sl vl vu .none->IsPart vl lo->IsPart vu hi->r x lo hi H Q->
  ∃T id,typeLookup (.type T) "__getitem__"=pure (some (.builtin id))/\s.TypeIs v T/\wpAny (model X.prog X.w) X.A (getItem v (.ref sl)) (EP X pins σ Q) X.xe s
theorem SlR.or (h:SlR X r)(h':SlR X r'):SlR X (fun x lo hi H Q=>r x lo hi H Q\/r' x lo hi H Q):=by
 intro pins s σ H x v vl vu lo hi sl Q I rx hs pl pu q
 rcases q with q|q
 ·exact h pins s σ H x v vl vu lo hi sl Q I rx hs pl pu q
 ·exact h' pins s σ H x v vl vu lo hi sl Q I rx hs pl pu q
noncomputable def tSl (r:V->Option Int->Option Int->Hp->VK->Prop)(te:TE)(tl th:TO):TE:=fun σ H Q=>te σ H fun x H1=>tl σ H1 fun l H2=>th σ H2 fun u H3=>r x l u H3 Q
theorem pe_slice (hr:SlR X r)(he:PE X e te)(hl:PO X lo tl)(hu:PO X hi th):PE X (.Subscript e (.Slice lo hi none p2) pos) (tSl r te tl th):=by
 intro pins s σ H Q I h
 refine Subscript_ (thn (he pins s σ H _ I h) fun v s1 ⟨x,H1,I1,r1,q1⟩=>?_)
 refine wpAny_Slice (thn (hl pins s1 σ H1 _ I1 q1) fun vl s2 ⟨l,H2,I2,pl,q2⟩=>thn (hu pins s2 σ H2 _ I2 q2) fun vu s3 ⟨u,H3,I3,pu,q3⟩=>?_)
 rw[evalPart_none]
 refine wpAny_pure ?_
 have I4:Inv X pins σ H3 {s3 with heap:=s3.heap.push {cls:= .type "slice",data:= .fields #[vl,vu,.none]}}:=I3.kept (t':=s3.toks) fun b ob q=>Heap.get?_push_of_some _ q
 obtain⟨T,id,hT,ht,hg⟩:=hr pins {s3 with heap:=s3.heap.push {cls:= .type "slice",data:= .fields #[vl,vu,.none]}} σ H3 x v vl vu l u s3.heap.objs.size Q I4 r1 (Heap.IsSliceOf.new ..) pl pu q3
 show wpAny (model X.prog X.w) X.A (subscriptTail e (.Slice lo hi none p2) v (.ref s3.heap.objs.size)) (EP X pins σ Q) X.xe {s3 with heap:=s3.heap.push {cls:= .type "slice",data:= .fields #[vl,vu,.none]}}
 exact tail_any (ops:=[.ref s3.heap.objs.size,v]) ht hT hg (by with_unfolding_all rfl)
noncomputable def cutV (xs:List V)(lo hi:Option Int):List V:=(xs.drop (HT.sIx xs.length 0 lo)).take (HT.sIx xs.length xs.length hi-HT.sIx xs.length 0 lo)
theorem zit (xs:List V)(lo hi:Option Int):(cutV xs lo hi).length<=xs.length:=by
 unfold cutV
 rw[List.length_take,List.length_drop]
 lia
noncomputable def rSlT (K:W.Frag):V->Option Int->Option Int->Hp->VK->Prop:=fun x lo hi H Q=>∃a xs,x= .ref a/\SqT K H a xs/\
 ¬(HT.sIx xs.length 0 lo=0/\HT.sIx xs.length xs.length hi=xs.length)/\∀p,H p=none->Q (.ref p) (upd H p (.tup (cutV xs lo hi)))
theorem sl_tup:SlR X (rSlT X.K):=by
 intro pins s σ H x v vl vu lo hi sl Q I rx hs pl pu h
 obtain⟨a,xs,rfl,hx,hw,q⟩:=h
 cases rx
 obtain⟨its,r,ht,hz⟩:=I.tuple hx
 have hlen:its.toArray.size=xs.length:=by rw[List.size_toArray];exact r.length.symm
 refine⟨"tuple",_,PyProof.Rows.slot_tuple_getitem.lookup,ht.typeIs,?_⟩
 refine HT.zhh ht hs pl pu (by rw[hlen];exact hw) ?_ (by rw[hlen];exact hz)
 rw[hlen]
 refine⟨.ref s.heap.objs.size,_,I.laid (t':=s.toks) (o:= .tup (cutV xs lo hi)) (fun b ob q=>Heap.get?_push_of_some _ q) (Nat.le_refl _) ?_,rfl,q _ (I.hok.fresh (Nat.le_refl _))⟩
 exact⟨Nat.le_trans (zit xs lo hi) hz,_,(r.drop (HT.sIx xs.length 0 lo)).take (HT.sIx xs.length xs.length hi-HT.sIx xs.length 0 lo),IsTup.new _ _⟩
noncomputable def rCatT (K:W.Frag):R2:=fun x y H Q=>∃a b xs ys,x= .ref a/\y= .ref b/\SqT K H a xs/\SqT K H b ys/\xs≠[]/\xs.length+ys.length<=sizeLine/\
 (ys=[]->Q (.ref a) H)/\(ys≠[]->∀p,H p=none->Q (.ref p) (upd H p (.tup (xs++ys))))
theorem Vals.nil_iff (r:Vals xs us):us=[]↔xs=[]:=by
 cases r with
 |nil=>simp
 |cons _ _=>simp
theorem op_catT:OpR X (binaryOp .Add) (rCatT X.K):=by
 intro pins s σ H x y v u Q I rx ry h
 obtain⟨a,b,xs,ys,rfl,rfl,ha,hb,hx,hz,q1,q2⟩:=h
 cases rx
 cases ry
 obtain⟨its,r1,p1,_⟩:=I.tuple ha
 obtain⟨its2,r2,p2,_⟩:=I.tuple hb
 refine HT.cat_tup p1 p2 (fun z=>hx (r1.nil_iff.mp z)) (fun z=>⟨.ref a,H,I,rfl,q1 (r2.nil_iff.mp z)⟩) (fun z=>?_) (by rw[<-r1.length,<-r2.length];exact hz)
 refine⟨.ref s.heap.objs.size,_,I.laid (t':=s.toks) (o:= .tup (xs++ys)) (fun b ob q=>Heap.get?_push_of_some _ q) (Nat.le_refl _) ?_,rfl,q2 (fun w=>z (r2.nil_iff.mpr w)) _ (I.hok.fresh (Nat.le_refl _))⟩
 exact⟨by rw[List.length_append];exact hz,_,r1.append r2,IsTup.new _ _⟩
end
noncomputable def ixN (n:Nat)(i:Int):Option Nat:=if 0<=i then(if i<n then some i.toNat else none)else if-(n:Int)<=i then some (i+n).toNat else none
noncomputable def atI {α:Type}(xs:List α)(i:Int):Option α:=(ixN xs.length i).bind fun j=>xs[j]?
theorem zoA {n:Nat}(h:ixN n i=some j):seqIndex? i n=some j/\j<n/\ -(n:Int)<=i/\i<n:=by
 unfold ixN at h
 by_cases h0:0<=i
 ·rw[if_pos h0]at h
  by_cases h1:i<n
  ·rw[if_pos h1]at h
   have e:i.toNat=j:=Option.some.inj h
   exact⟨by rw[seqIndex_of h0 h1,e],by lia,by lia,h1⟩
  ·rw[if_neg h1]at h;cases h
 ·rw[if_neg h0]at h
  by_cases h1: -(n:Int)<=i
  ·rw[if_pos h1]at h
   have e:(i+n).toNat=j:=Option.some.inj h
   exact⟨by rw[seqIndex_neg (by lia) h1,e],by lia,h1,by lia⟩
  ·rw[if_neg h1]at h;cases h
theorem zjO {α:Type}{xs:List α}{v:α}(h:atI xs i=some v):∃j,seqIndex? i xs.length=some j/\xs[j]? =some v/\j<xs.length/\ -(xs.length:Int)<=i/\i<xs.length:=by
 unfold atI at h
 cases e:ixN xs.length i with
 |none=>rw[e]at h;cases h
 |some j=>
  rw[e]at h
  obtain⟨h1,h2,h3,h4⟩:=zoA e
  exact⟨j,h1,h,h2,h3,h4⟩
theorem zlL {α:Type}(xs:List α)(v:α):atI (xs++[v]) (-1)=some v:=by
 have hl:(xs++[v]).length=xs.length+1:=by simp
 have e:ixN (xs++[v]).length (-1)=some xs.length:=by
  unfold ixN
  rw[hl,if_neg (by decide),if_pos (by lia)]
  congr 1
  lia
 unfold atI
 rw[e]
 show(xs++[v])[xs.length]? =some v
 simp
noncomputable def zdH (b:Expr):Prop:=∀o i,subscripted b false o i=operate [o,i] (getItem o i)
noncomputable def IxR (X:Cx)(r:R2):Prop:=
 ∀(value slice:Expr) (pins:List (Addr×Obj)) (s:Shared) (σ:St) (H:Hp) (x y:V) (v u:Value) (Q:VK),Inv X pins σ H s->RelV x v->RelV y u->r x y H Q->
  subscripted slice false v u=operate [v,u] (getItem v u)->wpAny (model X.prog X.w) X.A (subscriptTail value slice v u) (EP X pins σ Q) X.xe s
noncomputable def MtR (X:Cx)(id:String)(r:V->List V->Hp->VK->Prop):Prop:=
 ∀(pins:List (Addr×Obj)) (s:Shared) (σ:St) (H:Hp) (x:V) (xs:List V) (v:Value) (us:List Value) (Q:VK),Inv X pins σ H s->RelV x v->Vals xs us->r x xs H Q->
  wpAny (model X.prog X.w) X.A (call (.builtin id) (v::us)) (EP X pins σ Q) X.xe s
section
variable {X:Cx} {a b:Expr} {ta tb:TE} {pos:Pos}
theorem IxR.or {r r':R2}(h:IxR X r)(h':IxR X r'):IxR X (fun x y H Q=>r x y H Q\/r' x y H Q):=by
 intro value slice pins s σ H x y v u Q I rx ry q hs
 rcases q with q|q
 ·exact h value slice pins s σ H x y v u Q I rx ry q hs
 ·exact h' value slice pins s σ H x y v u Q I rx ry q hs
theorem zj8 {r:R2}(hr:IxR X r)(ha:PE X a ta)(hb:PE X b tb)(hs:zdH b):PE X (.Subscript a b pos) (tOp r ta tb):=by
 intro pins s σ H Q I h
 exact Subscript_ (binT ha hb I h fun v u s2 x y H2 I2 rx ry q=>hr a b pins s2 σ H2 x y v u Q I2 rx ry q (hs _ _))
noncomputable def rIxL (K:W.Frag):R2:=fun x y H Q=>∃p xs i v,x= .ref p/\y= .int i/\SqL K H p xs/\atI xs i=some v/\Q v H
noncomputable def rIxT (K:W.Frag):R2:=fun x y H Q=>∃p xs i v,x= .ref p/\y= .int i/\SqT K H p xs/\atI xs i=some v/\Q v H
noncomputable def rIxS:R2:=fun x y H Q=>∃z i c,x= .str z/\y= .int i/\z.length<=sizeLine/\atI z.cps.toList i=some c/\Q (.str ⟨#[c]⟩) H
theorem ix_list:IxR X (rIxL X.K):=by
 intro value slice pins s σ H x y v u Q I rx ry h hs
 obtain⟨p,xs,i,z,rfl,rfl,hq,he,q⟩:=h
 cases rx
 obtain⟨t,rfl⟩:=ry
 obtain⟨its,r,pl,hz⟩:=I.list hq
 obtain⟨j,h1,h2,h3,h4,h5⟩:=zjO he
 obtain⟨w,ew,rw'⟩:=r.get h2
 have hl:=r.length
 have hn:=zhV
 have fin:EP X pins σ Q w s:=⟨z,H,I,rw',q⟩
 by_cases h0:0<=i
 ·have hj:i.toNat=j:=by
   rw[seqIndex_of h0 h5]at h1
   exact Option.some.inj h1
  exact item_listR pl.isList h0 (by lia) (by rw[hj];simpa using ew) fin hs
 ·have hj:(i+(its.toArray.size:Int)).toNat=j:=by
   rw[seqIndex_neg (by lia) h4]at h1
   rw[List.size_toArray,<-hl]
   exact Option.some.inj h1
  exact subscriptTail_builtinR (x:=w) pl.isList.typeIs slot_list_getitem.lookup
   (wpAny_getItem_list_neg (Q:=fun r s'=>r=w/\EP X pins σ Q r s') pl.isList (by lia) (by rw[List.size_toArray]<;>lia) (by lia) (by rw[hj];simpa using ew) ⟨rfl,fin⟩) hs
theorem ix_tup:IxR X (rIxT X.K):=by
 intro value slice pins s σ H x y v u Q I rx ry h hs
 obtain⟨p,xs,i,z,rfl,rfl,hq,he,q⟩:=h
 cases rx
 obtain⟨t,rfl⟩:=ry
 obtain⟨its,r,pl,hz⟩:=I.tuple hq
 obtain⟨j,h1,h2,h3,h4,h5⟩:=zjO he
 obtain⟨w,ew,rw'⟩:=r.get h2
 have hl:=r.length
 have hn:=zhV
 have fin:EP X pins σ Q w s:=⟨z,H,I,rw',q⟩
 exact subscriptTail_builtinR (x:=w) pl.typeIs slot_tuple_getitem.lookup
  (getItem_tuple (j:=j) (Q:=fun r s'=>r=w/\EP X pins σ Q r s') pl (by lia) (by lia) (by rw[List.size_toArray,<-hl];exact h1) (by simpa using ew) ⟨rfl,fin⟩) hs
theorem ix_str:IxR X rIxS:=by
 intro value slice pins s σ H x y v u Q I rx ry h hs
 obtain⟨z,i,c,rfl,rfl,hz,he,q⟩:=h
 obtain⟨t,rfl⟩:=rx
 obtain⟨t',rfl⟩:=ry
 obtain⟨j,h1,h2,h3,h4,h5⟩:=zjO he
 have hl:z.cps.toList.length=z.length:=by simp[Str.length]
 rw[hl]at h1 h4 h5
 have hn:=zhV
 exact tail_any (typeIs_str s z t) slot_str_getitem.lookup (getItem_str (c:=c) (by
  have e1:decide (i< -(2^63:Int))=false:=decide_eq_false (by lia)
  have e2:decide (i>=2^63)=false:=decide_eq_false (by lia)
  rw[e1,e2,Bool.or_false]) (by rw[h1];simpa using h2) ⟨.str ⟨#[c]⟩,H,I.tok _,⟨_,rfl⟩,q⟩) hs
noncomputable def rIx (K:W.Frag):R2:=fun x y H Q=>rIxL K x y H Q\/rIxT K x y H Q\/rIxS x y H Q
theorem ix_seq:IxR X (rIx X.K):=ix_list.or (ix_tup.or ix_str)
theorem zmo (its:List Value)(n j:Nat)(u:Value):Obj.mapSeq (·.setIfInBounds j u) {cls:= .type "list",data:= .seq its.toArray n}={cls:= .type "list",data:= .seq (its.set j u).toArray n}:=by
 simp[Obj.mapSeq]
theorem Inv.lst (I:Inv X pins σ H s)(h:H p=some (.lst xs)):
  ∃(its:List Value) (n:Nat),Vals xs its/\s.heap.get? p=some {cls:= .type "list",data:= .seq its.toArray n}/\xs.length<=sizeLine:=by
 obtain⟨z,its,n,r,e⟩:=I.hok p _ h
 exact⟨its,n,r,e,z⟩
theorem Inv.lstUpd {xs ys:List V}{n n':Nat}{f:Obj->Obj}(I:Inv X pins σ H s)(h:H p=some (.lst xs))
  (ho:s.heap.get? p=some {cls:= .type "list",data:= .seq its.toArray n}) (hf:f {cls:= .type "list",data:= .seq its.toArray n}={cls:= .type "list",data:= .seq its'.toArray n'}) (r:Vals ys its') (hz:ys.length<=sizeLine) (t:Nat):
  Inv X pins σ (upd H p (.lst ys)) {s with heap:=s.heap.update p f,toks:=t}:=by
 have e:(s.heap.update p f).get? p=some {cls:= .type "list",data:= .seq its'.toArray n'}:=by
  rw[Heap.get?_update_self f ho (by rw[hf]<;>rfl),hf]
 refine I.write (x:=p) (e:=p) (by rw[h];trivial) (.inl rfl) (fun b u hb q=>(Heap.get?_update_other _ _ (Ne.symm hb)).trans q) ⟨_,e⟩ ?_
 exact⟨hz,its',n',r,e⟩
noncomputable def rSetL:V->V->V->Hp->(Hp->Prop)->Prop:=fun o i v H Q=>∃p xs k j,o= .ref p/\i= .int k/\H p=some (.lst xs)/\ixN xs.length k=some j/\Q (upd H p (.lst (xs.set j v)))
theorem zhL:PSet X rSetL:=by
 intro pins s σ H o i v ov iv u Q I ro ri rv h
 obtain⟨p,xs,k,j,rfl,rfl,hp,hj,q⟩:=h
 cases ro
 obtain⟨t,rfl⟩:=ri
 obtain⟨its,n,r,ho,hz⟩:=I.lst hp
 obtain⟨h1,h2,h3,h4⟩:=zoA hj
 have hl:=r.length
 have hn:=zhV
 have I':Inv X pins σ (upd H p (.lst (xs.set j v))) {s with heap:=s.heap.update p (Obj.mapSeq (·.setIfInBounds j u))}:=
  I.lstUpd hp ho (zmo its n j u) (r.set rv j) (by rw[List.length_set];exact hz) s.toks
 by_cases h0:0<=k
 ·have hk:k.toNat=j:=by
   rw[seqIndex_of h0 h4]at h1
   exact Option.some.inj h1
  exact W.ki_setAt ho h0 (by lia) (by rw[List.size_toArray,<-hl];exact h4) (by rw[hk];exact⟨_,I',q⟩)
 ·have hk:(k+(its.toArray.size:Int)).toNat=j:=by
   rw[seqIndex_neg (by lia) h3]at h1
   rw[List.size_toArray,<-hl]
   exact Option.some.inj h1
  exact W.ki_setBack ho (by lia) (by rw[List.size_toArray,<-hl];exact h3) (by lia) (by rw[hk];exact⟨_,I',q⟩)
theorem zj4 (lo hi:Option Int)(n:Nat):(sliceBounds lo hi none n).1=((HT.sIx n 0 lo:Nat):Int)/\(sliceBounds lo hi none n).2.1=((HT.sIx n n hi:Nat):Int)/\(sliceBounds lo hi none n).2.2=1:=by
 refine⟨?_,?_,rfl⟩
 ·cases lo with
  |none=>simp[sliceBounds,HT.sIx]
  |some i=>
   simp only[sliceBounds,HT.sIx,Option.getD_none,show(1:Int)>0 by decide,if_true]
   by_cases h:i<0
   ·simp only[h,if_true]<;>lia
   ·simp only[h,if_false]<;>lia
 ·cases hi with
  |none=>simp[sliceBounds,HT.sIx]
  |some i=>
   simp only[sliceBounds,HT.sIx,Option.getD_none,show(1:Int)>0 by decide,if_true]
   by_cases h:i<0
   ·simp only[h,if_true]<;>lia
   ·simp only[h,if_false]<;>lia
theorem zjK (its:List Value)(lo hi:Option Int):slicePick its.toArray lo hi none=((its.drop (HT.sIx its.length 0 lo)).take (HT.sIx its.length its.length hi-HT.sIx its.length 0 lo)).toArray:=by
 obtain⟨h1,h2,h3⟩:=zj4 lo hi its.toArray.size
 unfold slicePick
 rw[h1,h2,h3]
 simp only[sliceRange_one,pick_run,List.size_toArray]<;>rfl
noncomputable def rSlL (K:W.Frag):V->Option Int->Option Int->Hp->VK->Prop:=fun x lo hi H Q=>∃a xs,x= .ref a/\SqL K H a xs/\∀p,H p=none->Q (.ref p) (upd H p (.lst (cutV xs lo hi)))
theorem sl_list:SlR X (rSlL X.K):=by
 intro pins s σ H x v vl vu lo hi sl Q I rx hs pl pu h
 obtain⟨a,xs,rfl,hx,q⟩:=h
 cases rx
 obtain⟨its,r,ht,hz⟩:=I.list hx
 have hlen:=r.length
 refine⟨"list",_,slot_list_getitem.lookup,ht.isList.typeIs,?_⟩
 refine wpAny_getItem_list_slice ht.isList hs pl pu .none (by simp) ?_ (by rw[List.size_toArray]<;>lia)
 rw[zjK,<-hlen]
 refine⟨.ref s.heap.objs.size,_,I.laid (t':=s.toks) (o:= .lst (cutV xs lo hi)) (fun b ob q=>Heap.get?_push_of_some _ q) (Nat.le_refl _) ?_,rfl,q _ (I.hok.fresh (Nat.le_refl _))⟩
 exact⟨Nat.le_trans (zit xs lo hi) hz,_,0,(r.drop (HT.sIx xs.length 0 lo)).take (HT.sIx xs.length xs.length hi-HT.sIx xs.length 0 lo),Heap.get?_push_size _ rfl⟩
noncomputable def ziB:V->Bool
 | .non=>true
 | .bl _=>true
 | .int _=>true
 | .str _=>true
 |_=>false
noncomputable def eqV:V->V->Bool
 | .non,.non=>true
 | .bl a,.bl b=>a==b
 | .bl a,.int b=>(if a then 1 else 0)==b
 | .int a,.bl b=>a==(if b then 1 else 0)
 | .int a,.int b=>a==b
 | .str a,.str b=>a==b
 |_,_=>false
theorem eqAt_V (ry:RelV y u)(rx:RelV x v)(fy:ziB y=true)(fx:ziB x=true):SeqAt.EqAt A s u v (eqV y x):=by
 cases y with
 |non=>
  cases ry
  cases x with
  |non=>cases rx;exact SeqAt.EqAt.same _
  |bl b=>cases rx;exact SeqAt.EqAt.none_bool b
  |int b=>obtain⟨t,rfl⟩:=rx;exact SeqAt.EqAt.none_int b t
  |str b=>obtain⟨t,rfl⟩:=rx;exact SeqAt.EqAt.none_str b t
  |_=>exact absurd (show false=true from fx) Bool.false_ne_true
 |bl a=>
  cases ry
  cases x with
  |non=>cases rx;exact SeqAt.EqAt.bool_none a
  |bl b=>cases rx;exact SeqAt.EqAt.bool_bool a b
  |int b=>obtain⟨t,rfl⟩:=rx;exact SeqAt.EqAt.bool_int a b t
  |str b=>obtain⟨t,rfl⟩:=rx;exact SeqAt.EqAt.bool_str a b t
  |_=>exact absurd (show false=true from fx) Bool.false_ne_true
 |int a=>
  obtain⟨t',rfl⟩:=ry
  cases x with
  |non=>cases rx;exact SeqAt.EqAt.int_none a t'
  |bl b=>cases rx;exact SeqAt.EqAt.int_bool a t' b
  |int b=>obtain⟨t,rfl⟩:=rx;exact SeqAt.EqAt.int_int a t' b t
  |str b=>obtain⟨t,rfl⟩:=rx;exact SeqAt.EqAt.int_str a t' b t
  |_=>exact absurd (show false=true from fx) Bool.false_ne_true
 |str a=>
  obtain⟨t',rfl⟩:=ry
  cases x with
  |non=>cases rx;exact SeqAt.EqAt.str_none a t'
  |bl b=>cases rx;exact SeqAt.EqAt.str_bool a t' b
  |int b=>obtain⟨t,rfl⟩:=rx;exact SeqAt.EqAt.str_int a t' b t
  |str b=>obtain⟨t,rfl⟩:=rx;exact SeqAt.EqAt.str_str a t' b t
  |_=>exact absurd (show false=true from fx) Bool.false_ne_true
 |_=>exact absurd (show false=true from fy) Bool.false_ne_true
noncomputable def eqU (x:V)(u:Value):Bool:=match u with
 | .none=>eqV .non x
 | .bool b=>eqV (.bl b) x
 | .int i _=>eqV (.int i) x
 | .str z _=>eqV (.str z) x
 |_=>false
theorem eqU_of (r:RelV y u)(f:ziB y=true):eqU x u=eqV y x:=by
 cases y with
 |non=>cases r;rfl
 |bl b=>cases r;rfl
 |int i=>obtain⟨t,rfl⟩:=r;rfl
 |str z=>obtain⟨t,rfl⟩:=r;rfl
 |_=>exact absurd (show false=true from f) Bool.false_ne_true
theorem zh2:∀{xs:List V} {us:List Value},Vals xs us->xs.all ziB=true->us.any (eqU x)=xs.any fun y=>eqV y x
 |_,_,.nil,_=>rfl
 |y::xs,u::us,.cons r t,f=>by
  rw[List.all_cons,Bool.and_eq_true]at f
  rw[List.any_cons,List.any_cons,eqU_of r f.1,zh2 t f.2]
theorem zgM (rx:RelV x v)(fx:ziB x=true):∀{xs:List V} {us:List Value},Vals xs us->xs.all ziB=true->∀u∈us,SeqAt.EqAt A s u v (eqU x u)
 |_,_,.nil,_=>fun u hu=>by cases hu
 |y::xs,u::us,.cons r t,f=>fun u' hu=>by
  rw[List.all_cons,Bool.and_eq_true]at f
  rcases List.mem_cons.mp hu with rfl|hu
  ·rw[eqU_of r f.1];exact eqAt_V r rx f.1 fx
  ·exact zgM rx fx t f.2 u' hu
noncomputable def inV (x:V)(xs:List V):Bool:=xs.any fun y=>eqV y x
noncomputable def rIn (K:W.Frag)(neg:Bool):R2:=fun x y H Q=>∃p xs,y= .ref p/\(SqL K H p xs\/SqT K H p xs)/\ziB x=true/\xs.all ziB=true/\Q (.bl (if neg then !inV x xs else inV x xs)) H
theorem znP:OpR X (compareOp .In) (rIn X.K false):=by
 intro pins s σ H x y v u Q I rx ry h
 obtain⟨p,xs,rfl,hq,fx,fs,q⟩:=h
 cases ry
 rcases hq with hq|hq
 ·obtain⟨its,r,pl,hz⟩:=I.list hq
  refine SeqAt.in_listAt (eqU x) pl.isList (fun w hw=>zgM rx fx r fs w (by simpa using hw)) ⟨.bl _,H,I,rfl,?_⟩
  rw[show its.toArray.any (eqU x)=its.any (eqU x) by simp,zh2 r fs]
  exact q
 ·obtain⟨its,r,pl,hz⟩:=I.tuple hq
  refine SeqAt.in_tupleAt (eqU x) pl (fun w hw=>zgM rx fx r fs w (by simpa using hw)) ⟨.bl _,H,I,rfl,?_⟩
  rw[show its.toArray.any (eqU x)=its.any (eqU x) by simp,zh2 r fs]
  exact q
theorem zkI:OpR X (compareOp .NotIn) (rIn X.K true):=by
 intro pins s σ H x y v u Q I rx ry h
 obtain⟨p,xs,rfl,hq,fx,fs,q⟩:=h
 cases ry
 rcases hq with hq|hq
 ·obtain⟨its,r,pl,hz⟩:=I.list hq
  refine SeqAt.notIn_listAt (eqU x) pl.isList (fun w hw=>zgM rx fx r fs w (by simpa using hw)) ⟨.bl _,H,I,rfl,?_⟩
  rw[show its.toArray.any (eqU x)=its.any (eqU x) by simp,zh2 r fs]
  exact q
 ·obtain⟨its,r,pl,hz⟩:=I.tuple hq
  refine SeqAt.notIn_tupleAt (eqU x) pl (fun w hw=>zgM rx fx r fs w (by simpa using hw)) ⟨.bl _,H,I,rfl,?_⟩
  rw[show its.toArray.any (eqU x)=its.any (eqU x) by simp,zh2 r fs]
  exact q
theorem zdu:zhn X (.builtin "len") (fun xs H Q=>∃p ys,xs=[.ref p]/\(SqL X.K H p ys\/SqT X.K H p ys)/\Q (.int ys.length) H):=by
 intro pins s σ H xs us Q I r h
 obtain⟨p,ys,rfl,hq,q⟩:=h
 obtain⟨u,rfl,rx⟩:=zla r
 cases rx
 have hn:=zhV
 rcases hq with hq|hq
 ·obtain⟨its,r',pl,hz⟩:=I.list hq
  have hlen:=r'.length
  exact Calls.call_len_list pl.isList (by simp only[List.size_toArray]<;>lia) ⟨.int ys.length,H,I.tok _,⟨s.toks+1,by rw[List.size_toArray,hlen]⟩,q⟩
 ·obtain⟨its,r',pl,hz⟩:=I.tuple hq
  have hlen:=r'.length
  exact len_tuple pl (by simp only[List.size_toArray]<;>lia) ⟨.int ys.length,H,I.tok _,⟨s.toks+1,by rw[List.size_toArray,hlen]⟩,q⟩
theorem zku:zhn X (.type "list") (fun xs H Q=>∃p ys,xs=[.ref p]/\(SqL X.K H p ys\/SqT X.K H p ys)/\∀l,H l=none->Q (.ref l) (upd H l (.lst ys))):=by
 intro pins s σ H xs us Q I r h
 obtain⟨p,ys,rfl,hq,q⟩:=h
 obtain⟨u,rfl,rx⟩:=zla r
 cases rx
 have fin:∀(its:List Value),Vals ys its->ys.length<=sizeLine->∀(h':Heap) (c':Nat),(∀b o',s.heap.get? b=some o'->h'.get? b=some o')->
   h'.get? s.heap.objs.size=some {cls:= .type "list",dict:=none,data:= .seq its.toArray c',slots:= #[]}->EP X pins σ Q (.ref s.heap.objs.size) {s with heap:=h'}:=fun its r' hz h' c' kp e=>
  ⟨.ref s.heap.objs.size,_,I.laid (t':=s.toks) kp (Nat.le_refl _) (show ObjOk X.prog X.w _ h' _ (.lst ys)from⟨hz,its,c',r',e⟩),rfl,q _ (I.hok.fresh (Nat.le_refl _))⟩
 rcases hq with hq|hq
 ·obtain⟨its,r',pl,hz⟩:=I.list hq
  have hlen:=r'.length
  obtain⟨o,ho,hc,n,hd⟩:=pl.isList
  exact call_list_seq p (.inl rfl) ho hc hd (fun h' c' kp e=>fin its r' hz h' c' kp e) (by simp only[List.size_toArray]<;>lia)
 ·obtain⟨its,r',pl,hz⟩:=I.tuple hq
  have hlen:=r'.length
  obtain⟨o,ho,hc,n,hd⟩:=pl
  exact call_list_seq p (.inr rfl) ho hc hd (fun h' c' kp e=>fin its r' hz h' c' kp e) (by simp only[List.size_toArray]<;>lia)
theorem zjF:zhn X (.type "tuple") (fun xs H Q=>∃p ys,xs=[.ref p]/\((SqL X.K H p ys/\∀l,H l=none->Q (.ref l) (upd H l (.tup ys)))\/(SqT X.K H p ys/\Q (.ref p) H))):=by
 intro pins s σ H xs us Q I r h
 obtain⟨p,ys,rfl,h⟩:=h
 obtain⟨u,rfl,rx⟩:=zla r
 cases rx
 rcases h with⟨hq,q⟩|⟨hq,q⟩
 ·obtain⟨its,r',pl,hz⟩:=I.list hq
  have hlen:=r'.length
  refine call_tuple_list pl.isList (fun h' kp=>?_) (by simp only[List.size_toArray]<;>lia)
  have I1:Inv X pins σ H {s with heap:=h'}:=I.kept (t':=s.toks) kp
  have I2:Inv X pins σ (upd H h'.objs.size (.tup ys)) {s with heap:=h'.push {cls:= .type "tuple",data:= .seq its.toArray}}:=
   I1.laid (t':=s.toks) (fun b o e=>Heap.get?_push_of_some _ e) (Nat.le_refl _) (show ObjOk X.prog X.w _ _ _ (.tup ys)from⟨hz,its,r',IsTup.new _ _⟩)
  exact⟨.ref h'.objs.size,_,I2,rfl,q _ (I1.hok.fresh (Nat.le_refl _))⟩
 ·obtain⟨its,r',pl,hz⟩:=I.tuple hq
  exact call_tuple_same pl ⟨.ref p,H,I,rfl,q⟩
noncomputable def tyV (K:W.Frag)(T:String)(x:V)(H:Hp):Prop:=match x with
 | .str _=>T="str"
 | .int _=>T="int"
 | .ref p=>(T="list"/\∃xs,SqL K H p xs)\/(T="tuple"/\∃o,K.lookup p=some o/\o.cls= .type "tuple"/\o.dict=none)\/
   (T="dict"/\((∃kvs,H p=some (.dK kvs))\/∃kvs,H p=some (.dT kvs)))\/(T="set"/\∃S n,H p=some (.set S n))
 |_=>False
theorem tyV_is {T:String}(I:Inv X pins σ H s)(r:RelV x v)(ty:tyV X.K T x H):
  s.TypeIs v T/\∀a,v= .ref a->∃ob,s.heap.get? a=some ob/\ob.dict=none:=by
 cases x with
 |str z=>
  obtain⟨t,rfl⟩:=r
  cases(show T="str" from ty)
  exact⟨typeIs_str s z t,fun _ e=>nomatch e⟩
 |int i=>
  obtain⟨t,rfl⟩:=r
  cases(show T="int" from ty)
  exact⟨typeIs_int s i t,fun _ e=>nomatch e⟩
 |ref p=>
  cases r
  rcases ty with⟨rfl,xs,hq⟩|⟨rfl,o,hk,hc,hd⟩|⟨rfl,hk⟩|⟨rfl,S,n,hk⟩
  ·obtain⟨its,_,pl,_⟩:=I.list hq
   refine⟨pl.isList.typeIs,fun a e=>?_⟩
   cases e
   obtain⟨o,n,e,c,hd,_⟩:=pl
   exact⟨o,e,hd⟩
  ·refine⟨⟨o,I.kIn p o hk,hc⟩,fun a e=>?_⟩
   cases e
   exact⟨o,I.kIn _ o hk,hd⟩
  ·have z:∃o,s.heap.get? p=some o/\o.ExactDict:=by
    rcases hk with⟨kvs,hk⟩|⟨kvs,hk⟩
    ·obtain⟨_,_,_,_,o,_,_,e,ex,_⟩:=I.hok p _ hk
     exact⟨o,e,ex⟩
    ·obtain⟨_,_,_,_,o,_,_,e,ex,_⟩:=I.hok p _ hk
     exact⟨o,e,ex⟩
   obtain⟨o,e,ex⟩:=z
   refine⟨⟨o,e,ex.1⟩,fun a e2=>?_⟩
   cases e2
   exact⟨o,e,ex.2.1⟩
  ·obtain⟨o,_,_,_,e,ex,_⟩:=I.hok p _ hk
   refine⟨⟨o,e,ex.1⟩,fun a e2=>?_⟩
   cases e2
   exact⟨o,e,ex.2.1⟩
 |_=>exact False.elim ty
noncomputable def tBM (K:W.Frag)(T:String)(r:V->List V->Hp->VK->Prop)(to:TE)(t:TA):TE:=fun σ H Q=>to σ H fun x H1=>tyV K T x H1/\t σ H1 fun xs H2=>r x xs H2 Q
variable {o e:Expr} {es:List Expr} {to:TE} {t:TA} {name:Str} {apos cpos:Pos} {T id:String} {r:V->List V->Hp->VK->Prop}
theorem pe_bm (pa:PlainAttrs T)(slot:Slot T name id)(hty:typeOf (.builtin id)=pure (.type "method_descriptor"))(hm:MtR X id r)(ho:PE X o to)(ha:PA X (e::es) t)
  (hbase:autoParam (attributeBase o name X.env (eval o X.env)=eval o X.env) zu2._auto_1)
  (hfew :autoParam (((backTo cpos (starEach (e :: es) X.env)).all (fun x => !x.1) && (backToKw cpos (keywordEach [] X.env)).all (fun x => x.1.isSome)
   &&decide ((e::es).length+([]:List Keyword).length+(if([]:List Keyword).isEmpty then 0 else 1)<30))=true) zu2._auto_1)
  (hline:autoParam ((apos.endLine==cpos.line)=true) zu2._auto_1) (hs:autoParam (starEach (e::es) X.env=(false,eval e X.env)::starEach es X.env) zu2._auto_1) (hplain:autoParam ((backTo cpos (starEach es X.env)).any (·.1)=false) zu2._auto_1):
  PE X (.Call (.Attribute o name apos) (e::es) [] cpos) (tBM X.K T r to t):=by
 intro pins s σ H Q I h
 refine wpAny_Call_method_late hbase hfew hline rfl (thn (ho pins s σ H _ I h) fun v s1 ⟨x,H1,I1,r1,ty,q1⟩=>?_)
 obtain⟨h1,h2⟩:=tyV_is I1 r1 ty
 refine⟨T,id,pa,slot,hty,h1,h2,?_⟩
 have hA:=ha cpos pins s1 σ H1 _ I1 q1
 rw[hs]at hA ⊢
 refine Calls.callWith_builtin (by show(false||(backTo cpos (starEach es X.env)).any (·.1))=false;rw[hplain]<;>rfl) (Calls.evalArgs_plain ?_)
 exact thn hA fun us s2 ⟨vs,H2,I2,r2,q2⟩=>hm pins s2 σ H2 x vs v us Q I2 r1 r2 q2
end
noncomputable def MtM (X:Cx)(id:String)(r:V->List V->Hp->VK->Prop):Prop:=
 ∀(pins:List (Addr×Obj)) (s:Shared) (σ:St) (H:Hp) (x:V) (xs:List V) (v:Value) (us:List Value) (Q:VK),Inv X pins σ H s->RelV x v->Vals xs us->r x xs H Q->
  wpAny (model X.prog X.w) X.A (call (.builtin id) (v::us)) (EP X pins σ Q) X.xe s
theorem Vals.one:∀{x:V} {us:List Value},Vals [x] us->∃u,us=[u]/\RelV x u
 |_,_,.cons r .nil=>⟨_,rfl,r⟩
theorem Vals.rep (h:Vals xs us):∀k:Nat,Vals (List.replicate k xs).flatten (List.replicate k us).flatten
 |0=> .nil
 |k+1=>by
  rw[List.replicate_succ,List.replicate_succ,List.flatten_cons,List.flatten_cons]
  exact Vals.append h (Vals.rep h k)
theorem zkG (its:List Value):∀(k:Nat) (acc:List Value),
  List.foldl (fun x1 x2=>x1++x2) acc.toArray (List.replicate k its.toArray)=(acc++(List.replicate k its).flatten).toArray
 |0,acc=>by simp
 |k+1,acc=>by
  have e:acc.toArray++its.toArray=(acc++its).toArray:=by simp
  have e2:(acc++its)++(List.replicate k its).flatten=acc++(List.replicate (k+1) its).flatten:=by
   rw[List.replicate_succ,List.flatten_cons,List.append_assoc]
  rw[<-e2,<-zkG its k (acc++its),<-e,List.replicate_succ,List.foldl_cons]
section
variable {X:Cx} {pins:List (Addr×Obj)} {σ:St} {H:Hp} {s:Shared} {l b:Addr} {xs ys zs:List V}
theorem Inv.lset (I:Inv X pins σ H s)(hH:H l=some (.lst xs))
  (e:s.heap.get? l=some {cls:= .type "list",data:= .seq its.toArray n}) (hf:f its.toArray=its'.toArray) (hv:Vals ys its') (hz:ys.length<=sizeLine):
  Inv X pins σ (upd H l (.lst ys)) {s with heap:=s.heap.update l (Obj.mapSeq f),toks:=t'}:=by
 have q:=PySem.IsL.update e f
 rw[hf]at q
 refine I.write (x:=l) (e:=l) (by rw[hH];exact trivial) (.inl rfl) (fun b' u hb hu=>(Heap.get?_update_other s.heap (Obj.mapSeq f) (Ne.symm hb)).trans hu) ⟨_,q⟩ ?_
 exact⟨hz,its',_,hv,q⟩
theorem Inv.lnew (I:Inv X pins σ H s)(hv:Vals ys its)(hz:ys.length<=sizeLine):
  Inv X pins σ (upd H s.heap.objs.size (.lst ys)) {s with heap:=s.heap.push {cls:= .type "list",data:= .seq its.toArray},toks:=t'}:=
 I.laid (fun _ _ q=>Heap.get?_push_of_some _ q) (Nat.le_refl _) ⟨hz,its,0,hv,Heap.get?_push_size _ rfl⟩
theorem Inv.fresh (I:Inv X pins σ H s):H s.heap.objs.size=none:=I.hok.fresh (Nat.le_refl _)
theorem Inv.lstM (I:Inv X pins σ H s)(hH:H l=some (.lst xs)):xs.length<=sizeLine/\∃(its:List Value) (n:Nat),Vals xs its/\xs.length=its.length/\s.heap.get? l=some {cls:= .type "list",data:= .seq its.toArray n}:=by
 obtain⟨z,its,n,r,e⟩:=I.hok l _ hH
 exact⟨z,its,n,r,r.length,e⟩
theorem zlE (h:n<=sizeLine):Builtin.List.listTooLong n=false:=by
 unfold Builtin.List.listTooLong
 exact decide_eq_false (by lia)
end
section
variable {X:Cx}
noncomputable def rAppend:V->List V->Hp->VK->Prop:=fun x vs H Q=>∃l xs y,x= .ref l/\vs=[y]/\H l=some (.lst xs)/\xs.length<sizeLine/\Q .non (upd H l (.lst (xs++[y])))
theorem zie:MtM X "list.append" rAppend:=by
 intro pins s σ H x vs v us Q I rx rv h
 obtain⟨l,xs,y,rfl,rfl,hH,hz,q⟩:=h
 cases rx
 obtain⟨u,rfl,ru⟩:=rv.one
 obtain⟨z,its,n,r,hl,e⟩:=I.lstM hH
 refine call_meets F.slot_list_append ⟨_,e,rfl⟩ F.entry_list_append (F.args_list_append_2 _ _) (PySem.list_append l its.toArray n u (by rw[List.size_toArray];lia)) ⟨e,?_⟩
 refine⟨.non,_,I.lset (its':=its++[u]) hH e (by simp) (r.append (.cons ru .nil)) ?_,rfl,q⟩
 rw[List.length_append,List.length_singleton]
 lia
noncomputable def rExtend:V->List V->Hp->VK->Prop:=fun x vs H Q=>∃l b xs zs,x= .ref l/\vs=[.ref b]/\H l=some (.lst xs)/\H b=some (.lst zs)/\xs.length+zs.length<=sizeLine/\Q .non (upd H l (.lst (xs++zs)))
theorem znU:MtM X "list.extend" rExtend:=by
 intro pins s σ H x vs v us Q I rx rv h
 obtain⟨l,b,xs,zs,rfl,rfl,hH,hB,hz,q⟩:=h
 cases rx
 obtain⟨u,rfl,ru⟩:=rv.one
 cases ru
 obtain⟨z,its,n,r,hl,e⟩:=I.lstM hH
 obtain⟨z2,its2,n2,r2,hl2,e2⟩:=I.lstM hB
 have hsz:its.toArray.size+its2.toArray.size<=sizeLine:=by rw[List.size_toArray,List.size_toArray];lia
 have hlong:¬(!its.toArray.isEmpty&&Builtin.List.listTooLong (its.toArray.size+its2.toArray.size))=true:=by
  rw[zlE hsz,Bool.and_false]
  exact Bool.false_ne_true
 refine call_meets F.slot_list_extend ⟨_,e,rfl⟩ F.entry_list_extend (F.args_list_extend_2 _ _)
  (AutoSeq1.list_extend_list_list_0 l its.toArray n b its2.toArray n2 hlong (by rw[List.size_toArray];lia) (by lia)) ⟨e,e2,?_⟩
 refine⟨.non,_,I.lset (its':=its++its2) hH e (by simp) (r.append r2) ?_,rfl,q⟩
 rw[List.length_append]
 lia
noncomputable def rCat:R2:=fun x y H Q=>∃l b xs zs,x= .ref l/\y= .ref b/\H l=some (.lst xs)/\H b=some (.lst zs)/\xs.length+zs.length<=sizeLine/\∀p,H p=none->Q (.ref p) (upd H p (.lst (xs++zs)))
theorem op_cat:OpR X (binaryOp .Add) rCat:=by
 intro pins s σ H x y v u Q I rx ry h
 obtain⟨l,b,xs,zs,rfl,rfl,hH,hB,hz,q⟩:=h
 cases rx
 cases ry
 obtain⟨z,its,n,r,hl,e⟩:=I.lstM hH
 obtain⟨z2,its2,n2,r2,hl2,e2⟩:=I.lstM hB
 refine PySem.P.add_list e e2 ?_ (by rw[List.size_toArray,List.size_toArray];lia)
 have ea:its.toArray++its2.toArray=(its++its2).toArray:=by simp
 rw[ea]
 exact⟨.ref _,_,I.lnew (t':=s.toks) (r.append r2) (by rw[List.length_append];lia),rfl,q _ I.fresh⟩
noncomputable def rRep:R2:=fun x y H Q=>∃l k xs,x= .ref l/\y= .int k/\H l=some (.lst xs)/\ -(2^63)<=k/\k<2^63/\xs.length*k.toNat<=sizeLine/\
 ∀p,H p=none->Q (.ref p) (upd H p (.lst (List.replicate k.toNat xs).flatten))
theorem len_rep {α:Type}(xs:List α)(k:Nat):(List.replicate k xs).flatten.length=k*xs.length:=by
 induction k with
 |zero=>simp
 |succ k ih=>rw[List.replicate_succ,List.flatten_cons,List.length_append,ih,Nat.succ_mul,Nat.add_comm]
theorem op_rep:OpR X (binaryOp .Mult) rRep:=by
 intro pins s σ H x y v u Q I rx ry h
 obtain⟨l,k,xs,rfl,rfl,hH,h1,h2,hz,q⟩:=h
 cases rx
 obtain⟨t,rfl⟩:=ry
 obtain⟨z,its,n,r,hl,e⟩:=I.lstM hH
 have hlen:its.toArray.size*k.toNat<=sizeLine:=by rw[List.size_toArray,<-hl];exact hz
 have hcap:¬its.toArray.size*k.toNat>(2^63-1)/8:=by
  have:(sizeLine:Nat)<=(2^63-1)/8:=by decide
  lia
 have hfit:¬(!Builtin.List.listFitsIndex k)=true:=by
  rw[fitsIndex_both h1 h2]
  exact Bool.false_ne_true
 have hlong:¬Builtin.List.listTooLong (its.toArray.size*k.toNat)=true:=by
  rw[zlE hlen]
  exact Bool.false_ne_true
 have hnew:List.foldl (fun x1 x2=>x1++x2) #[] (List.replicate (if its.toArray.isEmpty=true then 0 else k.toNat) its.toArray)=(List.replicate k.toNat its).flatten.toArray:=by
  have f0:∀m:Nat,List.foldl (fun x1 x2=>x1++x2) #[] (List.replicate m its.toArray)=(List.replicate m its).flatten.toArray:=fun m=>by
   have:=zkG its m []
   rw[List.nil_append]at this
   exact this
  rw[f0]
  cases its with
  |nil=>simp
  |cons a r'=>rw[if_neg (by simp)]
 refine wpAny_binaryOp_repeat_ref (T:="list") (U:="int") (by decide) ⟨_,e,rfl⟩ (fun s'=>typeIs_int s' k t) noFill_list_mul F.fills_int_mul F.slot_int_rmul repeat_list F.slot_int_index.lookup
  (call_meets F.slot_int_rmul (typeIs_int s k t) F.entry_int_rmul (F.args_int_rmul_2 _ _) (int___rmul___int_list k t l its.toArray n)
   ⟨e,rfl,⟨_,e,rfl⟩,call_meets F.slot_list_mul ⟨_,e,rfl⟩ F.entry_list_mul (F.args_list_mul_2 _ _) (AutoListH.list___mul___list_int_3 l its.toArray n k t hfit hcap hlong) ⟨e,?_⟩⟩)
 rw[hnew]
 exact⟨.ref _,_,I.lnew (t':=s.toks) (r.rep k.toNat) (by rw[len_rep,Nat.mul_comm];exact hz),rfl,q _ I.fresh⟩
end
end L2
namespace Att
open PyProof.Rows PySem PySem.Calls PySem.W
theorem zim {P:Params}{h:Heap}:∀(ns:List Int) (vs:List Value),WellAll P h vs (ns.map WData.int)->IntsAre vs ns:=by
 intro ns
 induction ns with
 |nil=>
  intro vs w
  rw[List.map_nil]at w
  cases w
  exact .nil
 |cons n ns ih=>
  intro vs w
  rw[List.map_cons]at w
  cases w with
  |cons a b=>
   cases a
   exact .cons _ _ (ih _ b)
theorem zow {l:OpenLaw}{n:Nat}(hn:l.most=some n){P:Params}{h:Heap}{args:List WData}{vals:List Value}
  (hpre:l.row.toRowW.claim.pre args=true) (hwl:WellAll P h vals args):
  ∃a vs ns,vals=[Value.ref a]/\args=[WData.list (ns.map WData.int)]/\h.get? a=some {cls:= .type "list",data:= .seq vs.toArray}/\IntsAre vs ns/\ns.length<=n:=by
 have hsh:WShape.hasAll [] args [.list .int]=true:=(pre_splitW hpre).1
 have hc:l.pre.holds [] {args:=args}=true:=(pre_splitW hpre).2
 obtain⟨d,r,rfl,h1,h2⟩:=hasAllW_cons hsh
 obtain rfl:=hasAllW_nil h2
 obtain⟨xs,rfl,h3⟩:=hasW_list h1
 obtain⟨ns,rfl⟩:=items_int h3
 have hlen:ns.length<=n:=by
  unfold OpenLaw.pre at hc
  have h4:(WTm.not (.lt (.lit (.int (n:Int))) (.len (.arg 0)))).holds [] {args:=[.list (ns.map .int)]}=true:=by
   have h4:=(holds_andW hc).1
   rw[hn]at h4
   exact h4
  have h5:=condW_of h4 (w_not (w_lt w_lit (w_len_list (w_arg rfl))))
  rw[List.length_map]at h5
  refine Nat.le_of_not_lt fun q=>?_
  have q':(n:Int)<((ns.length:Nat):Int):=by lia
  first
   |(rw[decide_eq_true q']at h5;exact absurd h5 (by decide))
   |(simp at h5;lia)
 cases hwl with
 |cons w1 w2=>
  cases w2
  cases w1 with
  |list ho hall=>exact⟨_,_,ns,rfl,rfl,ho,zim ns _ hall,hlen⟩
theorem znt (l:OpenLaw)(args:List WData):l.row.toRowW.claim.post args (.bool true) args=true:=
 postW_of (r:=l.row.toRowW) (X:=(true==true))
  (show WShape.has [] (.bool true) .bool=true by first|rfl|decide|simp[WShape.has,WShape.arms,WShape.armsAll])
  (show(WTm.eq .res (.lit (.bool true))).value [] {args:=args,res:=some (.bool true),after:=args}=some (.bool (true==true))from w_eq_bool (w_res rfl) w_lit) rfl
theorem attach_call {l:OpenLaw}{n:Nat}{q:Program}{loose:List Str}{XP:(Str->Option Value)->Heap->Prop}{YP:World->Heap->Prop}{d:DefRec}
  (hn:l.most=some n) (hdf:d.params.defaults=[])
  (call : ∀ (w : World) (s₀ s₁ : Shared) (mg mb : Str -> Option Value) (fa : Addr) (o : Obj) (pm cd doc : Value) (a : Addr) (vs : List Value) (ns : List Int),
   Ground q loose [] XP w s₀ mg mb s₁.heap->YP w s₁.heap->
   s₁.heap.get? fa=some o->o.data= .func (docDef d.name d.params d.body d.scope pm cd doc)->s₁.heap.CodeRec cd d.name->mg d.name=some (.ref fa)->
   s₁.heap.get? a=some {cls:= .type "list",data:= .seq vs.toArray}->IntsAre vs ns->ns.length<=n->s₁.gens= #[]->
   codeAny (model l.prog w) callerA (.call (.ref fa) ⟨[.ref a],[]⟩) (fun r s'=>r= .ok (.ret (.bool true))/\OldK s₁.heap s'.heap/\s'.os=s₁.os/\AllBare s'.gens) s₁):
  WalkO q loose XP YP l.row.toRowW d [] (fun f vs=>PySem.call f vs):=by
 intro w s₀ s₁ mg mb G Y fa o pm cd doc dV kV ho hd hcd hD hmg hg args vals as hpre hlay hrd hwl hlo
 obtain rfl:dV= .none:=Dflts.none hD hdf
 obtain rfl:kV= .none:=Dflts.noKw hD
 obtain⟨a,vs,ns,rfl,rfl,hobj,hints,hlen⟩:=zow hn hpre hwl
 refine enter_call (codeAny_mono (call w s₀ s₁ mg mb fa o pm cd doc a vs ns G Y ho (fd_plain hd) hcd hmg hobj hints hlen hg) fun r s' hq=>?_)
 obtain⟨rfl,h2,h3,h4⟩:=hq
 exact⟨.inl ⟨.bool true,.bool true,[],rfl,fun _=>rfl,.bool true,znt l _,fun _=>⟨List.Pairwise.nil,fun _ hm=>(nomatch hm)⟩⟩,h2,h3,h4⟩
end Att
namespace L2
open PyProof.Rows PySem PySem.Spec
variable {w:World} {K:W.Frag} {mg mb:Str->Option Value} {CX:World->CXT} {k:Nat} {a f b:Addr} {fd:FuncData} {x qual:Str} {sp:Sp} {vs:List Value} {ns:List Int} {l:W.OpenLaw} {q prog:Program} {loose ps:List Str} {XP:(Str->Option Value)->Heap->Prop} {YP:World->Heap->Prop} {d:DefRec} {oc d':Value} {osl:Array (Option Value)} {pos:Pos} {H:Hp} {xs:List (List Key×Addr×Value)} {o:Option V} {u:Option Value} {kvs:List (List Key×V)} {y:V} {ks:List Key} {h':Heap} {A:Around} {E Q:Value->Shared->Prop} {s:Shared}
theorem zjV:∀{vs:List Value} {ns:List Int},IntsAre vs ns->Vals (ns.map V.int) vs
 |_,_,.nil=> .nil
 |_,_,.cons n t h=> .cons ⟨t,rfl⟩ (zjV h)
noncomputable def Only (H:Hp):Prop:=∀b,H b=none\/∃o xs,H b=some (.frz o (.lst xs))
theorem law_call {P:Program}{CX:CXT}{fa a:Addr}{s₁:Shared}
  (KX:K.In s₁.heap) (hns:s₁.heap.Ns mainGlobals mg) (hb:s₁.heap.Ns builtinsNs mb) (hbb:∀x:Str,x≠"__name__"->mb x=bootBuiltins x) (hlim:s₁.heap.NoLimit) (hg:s₁.gens= #[])
  (ha:s₁.heap.get? a=some {cls:= .type "list",data:= .seq vs.toArray}) (hi:IntsAre vs ns) (hl:ns.length<=sizeLine) (hr:Room k callerA)
  (F:∀base:Heap,K.In base->base.Ns mainGlobals mg->FnOk P w K mg base CX k fa fd [x] sp) (hbind:∀(s:Shared) (u:Value),BindsTo s fd ⟨[u],[]⟩ [(x,u)])
  (hsp:∀H:Hp,Only H->SqL K H a (ns.map V.int)->sp [.ref a] H (fun v _=>v= .bl true) fun _ _ _=>False)
  (hCX:∀H e s',CX [] H s₁ (fun _ _ _=>False) e s'->False):
  codeAny (model P w) callerA (.call (.ref fa) ⟨[.ref a],[]⟩) (fun r s'=>r= .ok (.ret (.bool true))/\OldK s₁.heap s'.heap/\s'.os=s₁.os/\AllBare s'.gens) s₁:=by
 have rv:=zjV hi
 have lenV:=hi.length
 have core:∀H:Hp,Only H->SqL K H a (ns.map V.int)->HOk P w H s₁.heap->(∀b,H b≠none->b=a)->(H a≠none->K.lookup a=none)->
   codeAny (model P w) callerA (.call (.ref fa) ⟨[.ref a],[]⟩) (fun r s'=>r= .ok (.ret (.bool true))/\OldK s₁.heap s'.heap/\s'.os=s₁.os/\AllBare s'.gens) s₁:=by
  intro H hO hS hok hA hK
  have base_of:∀{b:Addr} {o:Obj},s₁.heap.get? b=some o->H b=none->(hidT s₁.heap H).get? b=some o:=fun e n=>hidT_get e n
  have noA:∀{b:Addr} {o:Obj} {es:Array DictEntry} {ep:Nat},s₁.heap.get? b=some o->o.data= .dict es ep->H b=none:=fun{b o es ep} e d=>by
   cases q:H b with
   |none=>rfl
   |some u=>
    have e':b=a:=hA b (by rw[q];simp)
    subst e'
    rw[ha]at e;cases e
    have d':Data.seq vs.toArray _=Data.dict es ep:=d
    cases d'
  have nsK:∀{b:Addr} {m:Str->Option Value},s₁.heap.Ns b m->(hidT s₁.heap H).Ns b m:=fun{b m} ⟨o,es,ep,e,d,r⟩=>⟨o,es,ep,base_of e (noA e d),d,r⟩
  have hKb:K.In (hidT s₁.heap H):=fun b o e=>base_of (KX b o e) (by
   cases q:H b with
   |none=>rfl
   |some u=>
    have e':b=a:=hA b (by rw[q];simp)
    subst e'
    rw[hK (by rw[q];simp)]at e;cases e)
  have hM:Mod K mg (hidT s₁.heap H):=⟨hKb,nsK hns,⟨mb,nsK hb,hbb⟩,let⟨mc,h1,h2⟩:=hlim;⟨mc,nsK h1,h2⟩⟩
  have e0:Env0 P w K mg (hidT s₁.heap H) callerA [] s₁ H:=⟨rfl,hM,fun b o e=>of_hidT e,Nat.le_of_eq (zm1 _ _),trivial,fun b hb=>absurd (show b∈([]:List Addr)from hb) (by simp),hok,.of_eq hg⟩
  refine codeAny_mono ((F _ hKb (nsK hns)).run callerA [] s₁ H ⟨[.ref a],[]⟩ [.ref a] [.ref a] _ _ hr e0 (hbind s₁ (.ref a)) (.cons rfl .nil) (hsp H hO hS)) fun r s' h=>?_
  cases r with
  |error e=>exact(hCX H e s' h).elim
  |ok fl=>
   cases fl with
   |next=>exact False.elim h
   |brk=>exact False.elim h
   |cont=>exact False.elim h
   |ret u=>
    obtain⟨v,H',os,bare,un,hok',r',q⟩:=h
    have q':v= .bl true:=q
    subst q'
    obtain rfl:u=Value.bool true:=r'
    refine⟨rfl,OldK.of_keep fun b o e=>?_,os,bare⟩
    cases q:H b with
    |none=>exact un.keep b o e q (by intro z;exact absurd (show b∈([]:List Addr)from z) (by simp)) (by simp)
    |some u=>
     rcases hO b with z|⟨ob,xs,z⟩
     ·rw[q]at z;cases z
     ·have z2:=un.frzs b ob _ z
      obtain⟨e1,_⟩:=hok b _ z
      obtain⟨e2,_⟩:=hok' b _ z2
      rw[e]at e1;cases e1
      exact e2
 cases hk:K.lookup a with
 |some o=>
  have e:=KX a o hk
  rw[ha]at e
  cases e
  refine core (fun _=>none) (fun _=> .inl rfl) (.inr ⟨_,vs.toArray,_,hk,rfl,rfl,rfl,by rw[List.size_toArray,lenV];exact hl,by simpa using rv⟩) (fun b u z=>by have z':(none:Option HO)=some u:=z;cases z') (fun b z=>absurd rfl z) fun z=>absurd rfl z
 |none=>
  refine core (fun b=>if b=a then some (.frz {cls:= .type "list",data:= .seq vs.toArray} (.lst (ns.map V.int)))else none) (fun b=>?_) (.inl (.inr ⟨{cls:= .type "list",data:= .seq vs.toArray},if_pos rfl⟩)) (fun b u z=>?_) (fun b z=>?_) fun _=>hk
  ·by_cases hb:b=a
   ·exact .inr ⟨_,_,if_pos hb⟩
   ·exact .inl (if_neg hb)
  ·by_cases hb:b=a
   ·have z':=(if_pos hb).symm.trans z
    cases z'
    subst hb
    exact⟨ha,by rw[List.length_map];exact hl,vs,_,rv,ha⟩
   ·have z':=(if_neg hb).symm.trans z
    cases z'
  ·by_cases hb:b=a
   ·exact hb
   ·exact absurd (if_neg hb) z
theorem walk_of {n k:Nat}{K:Params->W.Frag}{sp:World->Sp}
  (hn:l.most=some n) (hn2:n<=sizeLine) (hdf:d.params.defaults=[]) (hr:Room k callerA)
  (hY:∀(w:World) (h:Heap),YP w h->(K w.params).In h)
  (F : ∀ (w : World) (mg : Str -> Option Value) (fa : Addr) (h : Heap), (K w.params).In h -> h.Ns mainGlobals mg -> mg d.name = some (.ref fa) ->
   ∃fd:FuncData,(∀(s:Shared) (u:Value),BindsTo s fd ⟨[u],[]⟩ [(x,u)])/\
    ∀base:Heap,(K w.params).In base->base.Ns mainGlobals mg->FnOk l.prog w (K w.params) mg base (CX w) k fa fd [x] (sp w))
  (hsp:∀(w:World) (H:Hp) (a:Addr) (ns:List Int),ns.length<=n->Only H->SqL (K w.params) H a (ns.map V.int)->sp w [.ref a] H (fun v _=>v= .bl true) fun _ _ _=>False)
  (hCX:∀(w:World) (H:Hp) (s:Shared) (e:Value) (s':Shared),CX w [] H s (fun _ _ _=>False) e s'->False):
  W.WalkO q loose XP YP l.row.toRowW d [] (fun f vs=>PySem.call f vs):=by
 refine Att.attach_call hn hdf fun w s₀ s₁ mg mb fa o pm cd doc a vs ns G Y ho hd hcd hmg hobj hints hlen hg=>?_
 have KX:=hY w _ Y
 obtain⟨fd,hb,hF⟩:=F w mg fa _ KX G.T.g hmg
 exact law_call KX G.T.g G.T.b G.T.builtins G.T.nolimit hg hobj hints (Nat.le_trans hlen hn2) hr hF hb (fun H hO hS=>hsp w H a ns hlen hO hS) fun H e s'=>hCX w H s₁ e s'
noncomputable def ze3 (s:Stmt):Arguments:=match s with
 | .FunctionDef _ a _ _ _ _ _ _ _ _=>a
 |_=>{posonlyargs:=[],args:=[],vararg:=none,kwonlyargs:=[],kw_defaults:=[],kwarg:=none,defaults:=[]}
noncomputable def zcl (s:Stmt):List Stmt:=match s with
 | .FunctionDef _ _ b _ _ _ _ _ _ _=>b
 |_=>[]
noncomputable def zaG (s:Stmt):Scope:=match s with
 | .FunctionDef _ _ _ _ _ _ sc _ _ _=>sc
 |_=>{kind:= .function,names:=[],isGenerator:=false,isCoroutine:=false}
noncomputable abbrev CX0:CXT:=fun _ _ _ _ _ _=>False
noncomputable abbrev E0:XK:=fun _ _ _=>False
theorem zn1 {X:Cx}:znx CX0 X E0:=fun _ _ _ _ _ _ _ h=>h.elim
structure Fun (K:W.Frag) (x qual:Str) (st:Stmt) (f:Addr) (fd:FuncData):Prop where
 ex:∃(oc:Value) (od:Option Addr) (kV doc pm:Value) (an:Option Addr) (cdv ct:Value) (osl:Array (Option Value)),
  fd=W.fnOf x qual (ze3 st) (zcl st) (zaG st) .none kV doc pm an cdv ct/\K.lookup f=some ⟨oc,od,.func fd,osl⟩/\W.codeIn K cdv qual=true
 kp:W.keepIn K (.ref f)=true
section
variable {P:Program} {w:World} {K:W.Frag} {mg:Str->Option Value} {base:Heap}
theorem Fun.ok {st:Stmt}{N ps:List Str}(F:Fun K x qual st f fd)(S:FnScope N ps (zaG st))(len:∀vs H Q E,sp vs H Q E->vs.length=ps.length)
  (hbody : ∀ (cdv : Value) (A : Around) (outer : List Env) (s : Shared) (H : Hp) (vs : List V) (Q : VK) (E : XK), Room k (A.deeper (envOfC qual (zaG st) s.heap.objs.size f cdv)) -> sp vs H Q E ->
   ∃t,PSs (cxOf CX0 P w K mg base N qual (zaG st) f cdv A outer s H E).nox (zcl st) t/\t {nx:=fun _ H'=>Q .non H',rt:=Q} (start N vs) H):FnOk P w K mg base CX0 (k+1) f fd ps sp:=by
 obtain⟨oc,od,kV,doc,pm,an,cdv,ct,osl,rfl,lk,hcd⟩:=F.ex
 refine fn_of lk hcd S len fun A outer s H vs Q E hr hsp=>?_
 obtain⟨t,h,q⟩:=hbody cdv A outer s H vs Q E hr hsp
 exact⟨t,h.nox,q⟩
theorem Fun.binds {st:Stmt}(F:Fun K x qual st f fd)
  (h:∀(kV doc pm:Value) (an:Option Addr) (cdv ct:Value) (us:List Value),us.length=ps.length->bindArgs (W.fnOf x qual (ze3 st) (zcl st) (zaG st) .none kV doc pm an cdv ct) ⟨us,[]⟩=pure (ps.zip us)):Binds K fd ps []:=by
 obtain⟨oc,od,kV,doc,pm,an,cdv,ct,osl,rfl,lk,hcd⟩:=F.ex
 exact .all (h kV doc pm an cdv ct)
theorem fun_mk {st:Stmt}{od an:Option Addr}{kV doc pm cdv ct:Value}(l:K.lookup f=some ⟨oc,od,.func (W.fnOf x qual (ze3 st) (zcl st) (zaG st) .none kV doc pm an cdv ct),osl⟩)
  (c:W.codeIn K cdv qual=true) (k:W.keepIn K (.ref f)=true):Fun K x qual st f (W.fnOf x qual (ze3 st) (zcl st) (zaG st) .none kV doc pm an cdv ct):=⟨⟨oc,od,kV,doc,pm,an,cdv,ct,osl,rfl,l,c⟩,k⟩
end
section
variable {X:Cx}
theorem pv (i:Nat)(hN:autoParam (X.N[i]? =some x) zu2._auto_1)(hv:autoParam (Vis X.env.scope x) zu6._auto_1)(hd:autoParam ((x==("__debug__":Str))=false) zu1._auto_1)
  (hcd:autoParam ((x==("__classdict__":Str))=false) zu1._auto_1):PE X (.Name x pos) (tVar i):=za6 hN hv hd hcd
end
noncomputable def Same (H H':Hp):Prop:=∀b o,H b=some o->H' b=some o
theorem Same.seq {H H':Hp}{xs:List V}(e:Same H H')(h:SqL K H a xs):SqL K H' a xs:=by
 rcases h with(h|⟨o,h⟩)|h
 ·exact .inl (.inl (e _ _ h))
 ·exact .inl (.inr ⟨o,e _ _ h⟩)
 ·exact .inr h
section
variable {κ:Type} [DecidableEq κ]
noncomputable def valV (kvs:List (κ×V))(k:κ):Option V:=(kvs.find? fun kv=>decide (kv.1=k)).map (·.2)
noncomputable def putK (kvs:List (κ×V))(k:κ)(v:V):List (κ×V):=
 if(kvs.any fun kv=>decide (kv.1=k))=true then kvs.map (fun kv=>if kv.1=k then(kv.1,v)else kv)else kvs++[(k,v)]
theorem zjC {p:κ×V}{r:List (κ×V)}{k:κ}(e:p.1=k):valV (p::r) k=some p.2:=by simp[valV,List.find?_cons,e]
theorem zhO {p:κ×V}{r:List (κ×V)}{k:κ}(e:¬p.1=k):valV (p::r) k=valV r k:=by simp[valV,List.find?_cons,e]
theorem zl3 (k:κ):∀kvs:List (κ×V),(kvs.any fun kv=>decide (kv.1=k))=(valV kvs k).isSome
 |[]=>rfl
 |p::r=>by
  rw[List.any_cons]
  by_cases e:p.1=k
  ·simp only[zjC e,decide_eq_true e,Bool.true_or,Option.isSome_some]
  ·rw[zhO e,decide_eq_false e,Bool.false_or];exact zl3 k r
theorem zkV (kvs:List (κ×V))(k:κ)(v:V):(putK kvs k v).length<=kvs.length+1:=by
 unfold putK
 split
 ·rw[List.length_map];lia
 ·rw[List.length_append,List.length_cons,List.length_nil];lia
theorem RelO.isSome_eq (r:RelO o u):o.isSome=u.isSome:=by
 cases o with
 |none=>cases u with
  |none=>rfl
  |some _=>exact(show False from r).elim
 |some _=>cases u with
  |none=>exact(show False from r).elim
  |some _=>rfl
theorem RelO.getD {d:V}(r:RelO o u)(rd:RelV d d'):RelV (o.getD d) (u.getD d'):=by
 cases o with
 |none=>cases u with
  |none=>exact rd
  |some _=>exact(show False from r).elim
 |some _=>cases u with
  |none=>exact(show False from r).elim
  |some _=>exact r
end
theorem kV_is {P:Program}{k:Key}{u:Value}(r:RelV (kV k) u):(zbU P w).is k u=true:=by
 cases k with
 |inl i=>obtain⟨t,e⟩:=(show ∃t,u=Value.int i t from r);subst e;exact zkZ P w i t
 |inr x=>obtain⟨t,e⟩:=(show ∃t,u=Value.str x t from r);subst e;exact zkP P w x t
theorem zj5 {P:Program}:∀{ks:List Key} {us:List Value},Vals (ks.map kV) us->ItemsAre (zbU P w) ks us
 |[],_,r=>by rw[List.map_nil]at r;cases r;exact .nil
 |k::ks,_,r=>by
  rw[List.map_cons]at r
  cases r with
  |cons h t=>exact .cons (kV_is h) (zj5 t)
noncomputable abbrev KT (H:Hp):List (List Key×V)->List (List Key×Addr×Value)->Prop:=Paired fun p q=>p.1=q.1/\H q.2.1=some (.tup (p.1.map kV))/\RelV p.2 q.2.2
theorem KT.val (r:KT H kvs xs)(k:List Key):RelO (valV kvs k) ((atKey xs k).map (·.2)):=by
 induction r with
 |nil=>exact True.intro
 | @cons p q ps qs h t ih=>
  obtain⟨h1,_,h2⟩:=h
  by_cases e:p.1=k
  ·have e':q.1=k:=h1.symm.trans e
   have b:atKey (q::qs) k=some q.2:=by simp[atKey,List.find?_cons,e']
   rw[zjC e,b];exact h2
  ·have e':¬q.1=k:=fun z=>e (h1.trans z)
   have b:atKey (q::qs) k=atKey qs k:=by simp[atKey,List.find?_cons,e']
   rw[zhO e,b];exact ih
theorem KT.repl (r:KT H kvs xs)(k:List Key){u:Value}(ry:RelV y u):
  KT H (kvs.map fun kv=>if kv.1=k then(kv.1,y)else kv) (xs.map (putAt k u)):=by
 induction r with
 |nil=>exact .nil
 | @cons p q ps qs h t ih=>
  rw[List.map_cons,List.map_cons]
  refine .cons ?_ ih
  obtain⟨h1,h2,h3⟩:=h
  unfold putAt
  by_cases e:p.1=k
  ·rw[if_pos e,if_pos (h1.symm.trans e)];exact⟨h1,h2,ry⟩
  ·rw[if_neg e,if_neg (fun z=>e (h1.trans z))];exact⟨h1,h2,h3⟩
theorem KT.put (r:KT H kvs xs)(k:List Key){u:Value}(hb:H b=some (.tup (k.map kV)))(ry:RelV y u):
  KT H (putK kvs k y) (storedH xs k b u):=by
 have e:(kvs.any fun kv=>decide (kv.1=k))=(atKey xs k).isSome:=by
  rw[zl3,(r.val k).isSome_eq,Option.isSome_map]
 unfold putK storedH
 rw[e]
 by_cases q:(atKey xs k).isSome=true
 ·rw[if_pos q,if_pos q];exact r.repl k ry
 ·rw[if_neg q,if_neg q];exact Paired.snoc r ⟨rfl,hb,ry⟩
section
variable {P:Program} {w:World} {H:Hp} {h:Heap} {a:Addr}
theorem zlV (ok:HOk P w H h)(e:H a=some (.tup (ks.map kV))):(tupleKind (zbU P w)).is h ks a:=by
 obtain⟨_,its,r,o,h1,h2,n,h3⟩:=(show ObjOk P w H h a (.tup (ks.map kV))from ok a _ e)
 exact⟨o,its.toArray,n,h1,h2,h3,by simpa using zj5 r⟩
end
section
variable {X:Cx} {pins:List (Addr×Obj)} {σ:St} {H:Hp} {s:Shared} {a:Addr} {y v:V} {u r:Value} {o:Option V} {A:Around} {E:Value->Shared->Prop}
theorem Inv.big (I:Inv X pins σ H s):sysModules<s.heap.objs.size:=by
 have h:mainGlobals<s.heap.objs.size:=(I.mod.glob.keeps I.bk).lt
 exact Nat.lt_trans (by decide) h
theorem d_write {t':Nat}{ob:HO}(I:Inv X pins σ H s)(mu:Mut (H a))(hs:Heap.SameBut a s.heap h')(he:∃q,h'.get? a=some q)(new:ObjOk X.prog X.w (upd H a ob) h' a ob):
  Inv X pins σ (upd H a ob) {s with heap:=h',toks:=t'}:=
 I.write (x:=a) (e:=a) mu (.inl rfl) (fun b q hb z=>(hs.2 b hb).trans z) he new
end
noncomputable def NoSl (i:Expr):Prop:=∀ov iv,subscripted i false ov iv=operate [ov,iv] (getItem ov iv)
theorem subD_of {env:Env}{value slice:Expr}{T id:String}
  (hl:typeLookup (.type T) "__getitem__"=pure (some (.builtin id))) (hs:NoSl slice)
  (h:wpAny (model prog w) A (eval value env) (fun o s₁=>wpAny (model prog w) A (eval slice env) (fun i s₂=>s₂.TypeIs o T/\wpAny (model prog w) A (getItem o i) Q E s₂) E s₁) E s):
  wpAny (model prog w) A (eval (.Subscript value slice pos) env) Q E s:=by
 refine Subscript_ (wpAny_mono h (fun o s₁ h₁=>wpAny_mono h₁ (fun i s₂ h₂=>?_) fun _ _ x=>x) fun _ _ x=>x)
 obtain⟨hT,h₂⟩:=h₂
 unfold subscriptTail
 refine wpAny_bind ?_
 rw[getitemInPython_of_ne hT.not_modules]
 refine wpAny_bind (wpAny_specialOf hT hl ?_)
 have fin:wpAny (model prog w) A (subscripted slice false o i) (fun r s₃=>wpAny (model prog w) A (letTemporaryGo value o r>>=fun _=>pure r) Q E s₃) E s₂:=by
  rw[hs o i]
  exact wpAny_operating (wpAny_mono h₂ (fun r s₃ h₃=>wpAny_bind (wpAny_letTemporaryGo (wpAny_pure h₃))) fun _ _ x=>x)
 first
  |exact wpAny_pure (wpAny_bind fin)
  |exact wpAny_bind (wpAny_pure (wpAny_bind fin))
  |exact wpAny_bind fin
structure M2 (X:Cx) (o:Expr) (m:Str) (apos:Pos) (e f:Expr) (cpos:Pos):Prop where
 base:attributeBase o m X.env (eval o X.env)=eval o X.env
 few:((backTo cpos (starEach [e,f] X.env)).all (fun x=>!x.1)&&(backToKw cpos (keywordEach [] X.env)).all (fun x=>x.1.isSome)
  &&decide (([e,f]:List Expr).length+([]:List Keyword).length+(if([]:List Keyword).isEmpty then 0 else 1)<30))=true
 line:(apos.endLine==cpos.line)=true
 trees:backTo cpos (starEach [e,f] X.env)=[(false,eval e X.env),(false,eval f X.env)]
end L2
namespace M
open L2 PySem
variable {G G' H:Hp} {a p l:Addr} {o:Obj} {xs ys:List V} {ks:List (List Int)} {A A':List Addr} {K:W.Frag} {x v:V} {d:D} {ds es:List D} {i:Nat} {c:Ch} {t:T} {ov:Option (Option V)} {s:Sl} {ρ ρ':R} {e:Expr} {b:Bool} {f:D->D->Option D} {ma:ME} {op:Operator} {r:V->Hp->VK->Prop} {g:D->Option D}
inductive D where
 |non|bl (b:Bool)|int (i:Int)|str (x:Str)|lst (ds:List D)|tup (ds:List D)|scr (ns:List Int)|exc (c:Str)|dic (ks:List Int) (ds:List D)|dit (ks:List (List Int)) (ds:List D)
noncomputable def ExcIs (a C:Addr)(h:Heap):Prop:=∃o,h.get? a=some o/\o.cls= .ref C
noncomputable def kI (n:Int):Key:=Sum.inl n
noncomputable def kn (a:Addr)(o:Obj):HO:= .ext (fun h=>h.get? a=some o)
noncomputable def hI:Key->Int
 | .inl k=>hashInt k
 | .inr _=>0
noncomputable def DtN (o:Obj)(xs:List (List Key×Addr×Value)):Prop:=o.ExactDict/\(∃es ep,o.data= .dict es ep/\es.toList=xs.map fun x=>⟨reduceHash (Builtin.Tuple.tupleHashOf (x.1.map hI)),.ref x.2.1,x.2.2⟩)/\(xs.map (·.1)).Nodup
structure DtI (G:Hp) (a:Addr) (o:Obj) (xs:List (List Key×Addr×Value)) (ks:List (List Int)) (ys:List (List Key×V)):Prop where
 sys:(a==sysModules)=false
 dn:DtN o xs
 len:ys.length<=sizeLine
 key:ys.map (·.1)=ks.map (·.map kI)
 kt:Paired (fun(p:List Key×V) (q:List Key×Addr×Value)=>p.1=q.1/\G q.2.1=some (.tup (p.1.map kV))/\RelV p.2 q.2.2) ys xs
mutual
noncomputable def RepD (K:W.Frag)(G:Hp)(v:V):D->Prop
 | .non=>v= .non
 | .bl b=>v= .bl b
 | .int i=>v= .int i
 | .str x=>v= .str x
 | .lst ds=>∃a xs,v= .ref a/\G a=some (.lst xs)/\RepL K G xs ds
 | .tup ds=>∃a xs,v= .ref a/\G a=some (.tup xs)/\RepL K G xs ds
 | .scr ns=>∃a,v= .ref a/\SqL K G a (ns.map V.int)
 | .exc c=>∃a C,v= .ref a/\W.nsIn K mainGlobals c=some (some (.ref C))/\G a=some (.ext (ExcIs a C))
 | .dic ks ds=>∃a ys,v= .ref a/\Rd G a (.dK ys)/\ys.map (·.1)=ks.map kI/\RepL K G (ys.map (·.2)) ds
 | .dit ks ds=>∃a ys o xs,v= .ref a/\G a=some (kn a o)/\DtI G a o xs ks ys/\RepL K G (ys.map (·.2)) ds
noncomputable def RepL (K:W.Frag)(G:Hp)(xs:List V):List D->Prop
 |[]=>xs=[]
 |d::ds=>∃x ys,xs=x::ys/\RepD K G x d/\RepL K G ys ds
end
noncomputable def Fz (G H:Hp):Prop:=∀a o,G a=some o->H a=some o
theorem DtI.mono {xs:List (List Key×Addr×Value)}{ys:List (List Key×V)}(d:DtI G a o xs ks ys)(h:Fz G G'):DtI G' a o xs ks ys:={d with kt:=Paired.mapP d.kt fun _ _ z=>⟨z.1,h _ _ z.2.1,z.2.2⟩}
theorem Fz.refl (G:Hp):Fz G G:=fun _ _ h=>h
theorem Fz.trans {A B C:Hp}(h:Fz A B)(k:Fz B C):Fz A C:=fun a o e=>k a o (h a o e)
theorem Fz.free (h:Fz G H)(e:H p=none):G p=none:=by
 cases q:G p with
 |none=>rfl
 |some o=>rw[h p o q]at e;cases e
theorem Fz.new (e:G p=none)(o:HO):Fz G (upd G p o):=fun a u q=>by
 rw[zaq (zaE q e)];exact q
theorem Fz.upd2 (h:Fz G H)(p:Addr)(o:HO):Fz (upd G p o) (upd H p o):=fun a u q=>by
 by_cases e:a=p
 ·subst e;rw[zat]at q ⊢;exact q
 ·rw[zaq e]at q ⊢;exact h a u q
theorem Fz.right (h:Fz G H)(e:G p=none)(o:HO):Fz G (upd H p o):=fun a u q=>by
 rw[zaq (zaE q e)];exact h a u q
theorem Fz.sql {G H:Hp}(h:Fz G H)(q:SqL K G a xs):SqL K H a xs:=Same.seq (H:=G) (H':=H) h q
mutual
theorem RepD.mono (h:Fz G G'):∀{v:V} {d:D},RepD K G v d->RepD K G' v d
 |_,.non,e=>e
 |_,.bl _,e=>e
 |_,.int _,e=>e
 |_,.str _,e=>e
 |_,.lst _,⟨a,xs,e,q,r⟩=>⟨a,xs,e,h a _ q,RepL.mono h r⟩
 |_,.tup _,⟨a,xs,e,q,r⟩=>⟨a,xs,e,h a _ q,RepL.mono h r⟩
 |_,.scr _,⟨a,e,q⟩=>⟨a,e,h.sql q⟩
 |_,.exc _,⟨a,C,e,n,q⟩=>⟨a,C,e,n,h a _ q⟩
 |_,.dic _ _,⟨a,ys,e,q,f,r⟩=>⟨a,ys,e,q.imp (h a _) fun⟨o,z⟩=>⟨o,h a _ z⟩,f,RepL.mono h r⟩
 |_,.dit _ _,⟨a,ys,o,xs,e,q,f,r⟩=>⟨a,ys,o,xs,e,h a _ q,f.mono h,RepL.mono h r⟩
theorem RepL.mono (h:Fz G G'):∀{xs:List V} {ds:List D},RepL K G xs ds->RepL K G' xs ds
 |_,[],e=>e
 |_,_::_,⟨x,ys,e,q,r⟩=>⟨x,ys,e,RepD.mono h q,RepL.mono h r⟩
end
section
variable {K:W.Frag} {G:Hp}
theorem RepL.nil:RepL K G [] []:=rfl
theorem RepL.cons {x:V}{d:D}(h:RepD K G x d)(t:RepL K G xs ds):RepL K G (x::xs) (d::ds):=⟨x,xs,rfl,h,t⟩
theorem RepL.length:∀{xs:List V} {ds:List D},RepL K G xs ds->xs.length=ds.length
 |_,[],e=>by cases e;rfl
 |_,_::_,⟨x,ys,e,_,r⟩=>by subst e;rw[List.length_cons,List.length_cons,RepL.length r]
theorem RepL.get:∀{xs:List V} {ds:List D} {i:Nat} {d:D},RepL K G xs ds->ds[i]? =some d->∃x,xs[i]? =some x/\RepD K G x d
 |_,[],_,_,_,h=>by simp at h
 |_,_::_,0,_,⟨x,ys,e,q,r⟩,h=>by subst e;simp at h;subst h;exact⟨x,rfl,q⟩
 |_,_::_,i+1,_,⟨x,ys,e,q,r⟩,h=>by
  subst e
  obtain⟨y,h1,h2⟩:=RepL.get (i:=i) r (by simpa using h)
  exact⟨y,by simpa using h1,h2⟩
theorem RepL.append:∀{xs ys:List V} {ds es:List D},RepL K G xs ds->RepL K G ys es->RepL K G (xs++ys) (ds++es)
 |_,_,[],_,e,r=>by cases e;exact r
 |_,_,_::_,_,⟨x,zs,e,q,r⟩,s=>by subst e;exact⟨x,zs++_,rfl,q,RepL.append r s⟩
theorem RepL.snoc (h:RepL K G xs ds)(q:RepD K G x d):RepL K G (xs++[x]) (ds++[d]):=h.append (.cons q .nil)
theorem RepL.take:∀{xs:List V} {ds:List D} (n:Nat),RepL K G xs ds->RepL K G (xs.take n) (ds.take n)
 |_,_,0,_=>by simp;exact .nil
 |_,[],n+1,e=>by cases e;exact .nil
 |_,_::_,n+1,⟨x,zs,e,q,r⟩=>by subst e;exact⟨x,zs.take n,rfl,q,RepL.take n r⟩
theorem RepL.drop:∀{xs:List V} {ds:List D} (n:Nat),RepL K G xs ds->RepL K G (xs.drop n) (ds.drop n)
 |_,_,0,r=>by simpa using r
 |_,[],n+1,e=>by cases e;exact .nil
 |_,_::_,n+1,⟨x,zs,e,q,r⟩=>by subst e;exact RepL.drop n r
theorem RepL.set:∀{xs:List V} {ds:List D} (i:Nat) {x:V} {d:D},RepL K G xs ds->RepD K G x d->RepL K G (xs.set i x) (ds.set i d)
 |_,[],_,_,_,e,_=>by cases e;exact .nil
 |_,_::_,0,_,_,⟨x,zs,e,q,r⟩,h=>by subst e;exact⟨_,zs,rfl,h,r⟩
 |_,_::_,i+1,_,_,⟨x,zs,e,q,r⟩,h=>by subst e;exact⟨x,_,rfl,q,RepL.set i r h⟩
theorem RepL.rep (h:RepL K G xs ds):∀k:Nat,RepL K G (List.replicate k xs).flatten (List.replicate k ds).flatten
 |0=> .nil
 |k+1=>by rw[List.replicate_succ,List.replicate_succ,List.flatten_cons,List.flatten_cons];exact h.append (RepL.rep h k)
theorem RepL.ints:∀(ns:List Int),RepL K G (ns.map V.int) (ns.map D.int)
 |[]=> .nil
 |n::ns=>⟨.int n,ns.map V.int,rfl,rfl,RepL.ints ns⟩
theorem RepL.ints_eq:∀{ns:List Int} {xs:List V},RepL K G xs (ns.map D.int)->xs=ns.map V.int
 |[],_,e=>e
 |n::ns,_,⟨x,ys,e,q,r⟩=>by subst e;cases(show x=V.int n from q);rw[RepL.ints_eq r];rfl
theorem RepL.at {i:Int}(h:RepL K G xs ds)(e:atI ds i=some d):∃x,atI xs i=some x/\RepD K G x d:=by
 unfold atI at e ⊢
 rw[h.length]
 cases q:ixN ds.length i with
 |none=>rw[q]at e;cases e
 |some j=>rw[q]at e;exact h.get e
end
inductive Ch where
 |d (x:D)|l (xs:List D)|t (xss:List (List D))
inductive T where
 |lst (cs:List Ch)|tup (cs:List Ch)|ins (c:Str) (fs:List (Str×Ch))|dic (ks:List Int) (ds:List D)|dit (ks:List (List Int)) (ds:List D)
inductive Sl where
 |emp|val (d:D)|own (ds:List D)|par (ds:List D)|two (ds es:List D)|tre (t:T)|ptr (t:T)
noncomputable abbrev R:=List Sl
noncomputable def Sl.items:Sl->Option (List D)
 | .own ds=>some ds
 | .par ds=>some ds
 |_=>none
structure Bs where
 G:Hp
 H:Hp
 O:List (Nat×Addr)
noncomputable def RepTb (K:W.Frag)(G H:Hp):List V->List (List D)->List Addr->Prop
 |[],[],A=>A=[]
 |x::xs,ds::dss,A=>∃r ys A2,x= .ref r/\H r=some (.lst ys)/\RepL K G ys ds/\RepTb K G H xs dss A2/\A=r::A2
 |_,_,_=>False
noncomputable def RepC (K:W.Frag)(G H:Hp)(x:V):Ch->List Addr->Prop
 | .d y,A=>RepD K G x y/\A=[]
 | .l ds,A=>∃l xs,x= .ref l/\H l=some (.lst xs)/\RepL K G xs ds/\A=[l]
 | .t xss,A=>∃p xs A',x= .ref p/\H p=some (.lst xs)/\RepTb K G H xs xss A'/\A=p::A'
noncomputable def RepCs (K:W.Frag)(G H:Hp):List V->List Ch->List Addr->Prop
 |[],[],A=>A=[]
 |x::xs,c::cs,A=>∃A1 A2,RepC K G H x c A1/\RepCs K G H xs cs A2/\A=A1++A2
 |_,_,_=>False
noncomputable def RepT (K:W.Frag)(G H:Hp)(v:V):T->List Addr->Prop
 | .lst cs,A=>∃p xs A',v= .ref p/\H p=some (.lst xs)/\RepCs K G H xs cs A'/\A=p::A'
 | .tup cs,A=>∃p xs A',v= .ref p/\H p=some (.tup xs)/\RepCs K G H xs cs A'/\A=p::A'
 | .ins c fs,A=>∃p C dx vs A',v= .ref p/\W.nsIn K mainGlobals c=some (some (.ref C))/\H p=some (.ins C dx vs)/\H dx=some (.own p)/\vs.map (·.1)=fs.map (·.1)/\RepCs K G H (vs.map (·.2)) (fs.map (·.2)) A'/\A=p::dx::A'
 | .dic ks ds,A=>∃p ys,v= .ref p/\H p=some (.dK ys)/\ys.map (·.1)=ks.map kI/\RepL K G (ys.map (·.2)) ds/\A=[p]
 | .dit ks ds,A=>∃p ys o xs,v= .ref p/\H p=some (kn p o)/\DtI G p o xs ks ys/\RepL K G (ys.map (·.2)) ds/\A=[p]
section
variable {K:W.Frag} {G G' H H':Hp}
theorem RepTb.move:∀{xs:List V} {dss:List (List D)} {A:List Addr},RepTb K G H xs dss A->Fz G G'->(∀a∈A,H' a=H a)->RepTb K G' H' xs dss A
 |[],[],_,h,_,_=>h
 |x::xs,ds::dss,A,⟨r,ys,A2,e1,e2,e3,e4,e5⟩,hg,hh=>⟨r,ys,A2,e1,by rw[hh r (by rw[e5];simp)];exact e2,e3.mono hg,e4.move hg fun a m=>hh a (by rw[e5];simp[m]),e5⟩
 |[],_::_,_,h,_,_=>h.elim
 |_::_,[],_,h,_,_=>h.elim
theorem RepTb.det:∀{xs:List V} {dss:List (List D)} {A A':List Addr},RepTb K G H xs dss A->RepTb K G' H' xs dss A'->A=A'
 |[],[],_,_,h,h'=>by rw[show _=[]from h,show _=[]from h']
 |x::xs,ds::dss,_,_,⟨r,ys,A2,e1,_,_,e4,e5⟩,⟨r',ys',A2',e1',_,_,e4',e5'⟩=>by
  rw[e1]at e1';cases e1'
  rw[e5,e5',e4.det e4']
 |[],_::_,_,_,h,_=>h.elim
 |_::_,[],_,_,h,_=>h.elim
theorem RepTb.here:∀{xs:List V} {dss:List (List D)} {A:List Addr},RepTb K G H xs dss A->∀{a:Addr},a∈A->∃xs,H a=some (.lst xs)
 |[],[],_,h,a,m=>by rw[show _=[]from h]at m;cases m
 |x::xs,ds::dss,_,⟨r,ys,A2,e1,e2,_,e4,e5⟩,a,m=>by
  rw[e5]at m
  rcases List.mem_cons.mp m with rfl|m
  ·exact⟨ys,e2⟩
  ·exact e4.here m
 |[],_::_,_,h,_,_=>h.elim
 |_::_,[],_,h,_,_=>h.elim
theorem RepC.move (h:RepC K G H x c A)(hg:Fz G G')(hh:∀a∈A,H' a=H a):RepC K G' H' x c A:=by
 cases c with
 |d y=>exact⟨h.1.mono hg,h.2⟩
 |l ds=>obtain⟨l,xs,e,q,r,rfl⟩:=h;exact⟨l,xs,e,by rw[hh l (by simp)];exact q,r.mono hg,rfl⟩
 |t xss=>obtain⟨p,xs,A',e,q,r,rfl⟩:=h;exact⟨p,xs,A',e,by rw[hh p (by simp)];exact q,r.move hg fun a m=>hh a (by simp[m]),rfl⟩
theorem RepCs.move:∀{xs:List V} {cs:List Ch} {A:List Addr},RepCs K G H xs cs A->Fz G G'->(∀a∈A,H' a=H a)->RepCs K G' H' xs cs A
 |[],[],_,h,_,_=>h
 |x::xs,c::cs,A,⟨A1,A2,h1,h2,e⟩,hg,hh=>⟨A1,A2,h1.move hg fun a m=>hh a (by rw[e];exact List.mem_append_left _ m),h2.move hg fun a m=>hh a (by rw[e];exact List.mem_append_right _ m),e⟩
 |[],_::_,_,h,_,_=>h.elim
 |_::_,[],_,h,_,_=>h.elim
theorem RepT.move (h:RepT K G H v t A)(hg:Fz G G')(hh:∀a∈A,H' a=H a):RepT K G' H' v t A:=by
 cases t with
 |lst cs=>obtain⟨p,xs,A',e,q,r,rfl⟩:=h;exact⟨p,xs,A',e,by rw[hh p (by simp)];exact q,r.move hg fun a m=>hh a (by simp[m]),rfl⟩
 |tup cs=>obtain⟨p,xs,A',e,q,r,rfl⟩:=h;exact⟨p,xs,A',e,by rw[hh p (by simp)];exact q,r.move hg fun a m=>hh a (by simp[m]),rfl⟩
 |ins c fs=>obtain⟨p,C,dx,vs,A',e,n,q,q2,f,r,rfl⟩:=h;exact⟨p,C,dx,vs,A',e,n,by rw[hh p (by simp)];exact q,by rw[hh dx (by simp)];exact q2,f,r.move hg fun a m=>hh a (by simp[m]),rfl⟩
 |dic ks ds=>obtain⟨p,ys,e,q,f,r,rfl⟩:=h;exact⟨p,ys,e,by rw[hh p (by simp)];exact q,f,r.mono hg,rfl⟩
 |dit ks ds=>obtain⟨p,ys,o,xs,e,q,f,r,rfl⟩:=h;exact⟨p,ys,o,xs,e,by rw[hh p (by simp)];exact q,f.mono hg,r.mono hg,rfl⟩
theorem RepC.det (h:RepC K G H x c A)(h':RepC K G' H' x c A')(hh:∀a∈A,H' a=H a):A=A':=by
 cases c with
 |d y=>rw[h.2,h'.2]
 |l ds=>obtain⟨l,xs,e,_,_,rfl⟩:=h;obtain⟨l',xs',e',_,_,rfl⟩:=h';rw[e]at e';cases e';rfl
 |t xss=>
  obtain⟨p,xs,B,e,q,r,rfl⟩:=h;obtain⟨p',xs',B',e',q',r',rfl⟩:=h'
  rw[e]at e';cases e'
  rw[hh p (by simp),q]at q';cases q'
  rw[r.det r']
theorem RepCs.det:∀{xs:List V} {cs:List Ch} {A A':List Addr},RepCs K G H xs cs A->RepCs K G' H' xs cs A'->(∀a∈A,H' a=H a)->A=A'
 |[],[],_,_,h,h',_=>by rw[show _=[]from h,show _=[]from h']
 |x::xs,c::cs,_,_,⟨A1,A2,h1,h2,e⟩,⟨B1,B2,k1,k2,e'⟩,hh=>by rw[e,e',h1.det k1 fun a m=>hh a (by rw[e];exact List.mem_append_left _ m),h2.det k2 fun a m=>hh a (by rw[e];exact List.mem_append_right _ m)]
 |[],_::_,_,_,h,_,_=>h.elim
 |_::_,[],_,_,h,_,_=>h.elim
theorem RepT.det (h:RepT K G H v t A)(h':RepT K G' H' v t A')(hh:∀a∈A,H' a=H a):A=A':=by
 cases t with
 |lst cs=>
  obtain⟨p,xs,B,e,q,r,rfl⟩:=h;obtain⟨p',xs',B',e',q',r',rfl⟩:=h'
  rw[e]at e';cases e'
  rw[hh p (by simp),q]at q';cases q'
  rw[r.det r' fun a m=>hh a (by simp[m])]
 |tup cs=>
  obtain⟨p,xs,B,e,q,r,rfl⟩:=h;obtain⟨p',xs',B',e',q',r',rfl⟩:=h'
  rw[e]at e';cases e'
  rw[hh p (by simp),q]at q';cases q'
  rw[r.det r' fun a m=>hh a (by simp[m])]
 |ins c fs=>
  obtain⟨p,C,dx,vs,B,e,n,q,q2,f,r,rfl⟩:=h;obtain⟨p',C',dx',vs',B',e',n',q',q2',f',r',rfl⟩:=h'
  rw[e]at e';cases e'
  rw[hh p (by simp),q]at q';cases q'
  rw[r.det r' fun a m=>hh a (by simp[m])]
 |dic ks ds=>obtain⟨p,ys,e,q,f,r,rfl⟩:=h;obtain⟨p',ys',e',q',f',r',rfl⟩:=h';rw[e]at e';cases e';rfl
 |dit ks ds=>obtain⟨p,ys,o,xs,e,q,f,r,rfl⟩:=h;obtain⟨p',ys',o',xs',e',q',f',r',rfl⟩:=h';rw[e]at e';cases e';rfl
theorem RepC.here (h:RepC K G H x c A)(m:a∈A):∃xs,H a=some (.lst xs):=by
 cases c with
 |d y=>rw[h.2]at m;cases m
 |l ds=>obtain⟨l,xs,_,q,_,rfl⟩:=h;simp at m;subst m;exact⟨xs,q⟩
 |t xss=>
  obtain⟨p,xs,A',_,q,r,rfl⟩:=h
  rcases List.mem_cons.mp m with rfl|m
  ·exact⟨xs,q⟩
  ·exact r.here m
theorem RepCs.here:∀{xs:List V} {cs:List Ch} {A:List Addr},RepCs K G H xs cs A->∀{a:Addr},a∈A->∃xs,H a=some (.lst xs)
 |[],[],_,h,a,m=>by rw[show _=[]from h]at m;cases m
 |x::xs,c::cs,_,⟨A1,A2,h1,h2,e⟩,a,m=>by
  rw[e]at m
  rcases List.mem_append.mp m with m|m
  ·exact h1.here m
  ·exact h2.here m
 |[],_::_,_,h,_,_=>h.elim
 |_::_,[],_,h,_,_=>h.elim
theorem RepT.here (h:RepT K G H v t A)(m:a∈A):H a≠none:=by
 cases t with
 |lst cs=>
  obtain⟨p,xs,B,e,q,r,rfl⟩:=h
  rcases List.mem_cons.mp m with rfl|m
  ·rw[q];simp
  ·obtain⟨ys,z⟩:=r.here m;rw[z];simp
 |tup cs=>
  obtain⟨p,xs,B,e,q,r,rfl⟩:=h
  rcases List.mem_cons.mp m with rfl|m
  ·rw[q];simp
  ·obtain⟨ys,z⟩:=r.here m;rw[z];simp
 |ins c fs=>
  obtain⟨p,C,dx,vs,B,e,n,q,q2,f,r,rfl⟩:=h
  rcases List.mem_cons.mp m with rfl|m
  ·rw[q];simp
  rcases List.mem_cons.mp m with rfl|m
  ·rw[q2];simp
  ·obtain⟨ys,z⟩:=r.here m;rw[z];simp
 |dic ks ds=>obtain⟨p,ys,e,q,f,r,rfl⟩:=h;simp at m;subst m;rw[q];simp
 |dit ks ds=>obtain⟨p,ys,o,xs,e,q,f,r,rfl⟩:=h;simp at m;subst m;rw[q];simp
end
noncomputable def SlotOk (K:W.Frag)(B:Bs)(G H:Hp)(i:Nat)(ov:Option (Option V)):Sl->Prop
 | .emp=>True
 | .two _ _=>True
 | .val d=>∃v,ov=some (some v)/\RepD K G v d
 | .own ds=>∃l xs,ov=some (some (.ref l))/\G l=none/\H l=some (.lst xs)/\RepL K G xs ds/\B.H l=none
 | .par ds=>∃l xs,ov=some (some (.ref l))/\G l=none/\H l=some (.lst xs)/\RepL K G xs ds/\(i,l)∈B.O
 | .tre t=>∃v A,ov=some (some v)/\RepT K G H v t A/\A.Nodup/\∀a∈A,G a=none/\B.H a=none
 | .ptr t=>∃v A,ov=some (some v)/\RepT K G H v t A/\A.Nodup/\∀a∈A,G a=none/\(B.H a=none\/(i,a)∈B.O)
noncomputable def Wr (ρ:R)(i:Nat):Prop:=∃s ds,ρ[i]? =some s/\s.items=some ds
noncomputable def OwS (K:W.Frag)(G H:Hp)(ov:Option (Option V))(a:Addr):Sl->Prop
 | .own _=>ov=some (some (.ref a))
 | .par _=>ov=some (some (.ref a))
 | .tre t=>∃v A,ov=some (some v)/\RepT K G H v t A/\a∈A
 | .ptr t=>∃v A,ov=some (some v)/\RepT K G H v t A/\a∈A
 |_=>False
noncomputable def Nw (K:W.Frag)(G H:Hp)(σ:St)(ρ:R)(a:Addr):Prop:=∀(i:Nat) (s:Sl),ρ[i]? =some s->¬OwS K G H σ[i]? a s
structure SI (K:W.Frag) (B:Bs) (G H:Hp) (σ:St) (ρ:R):Prop where
 fz:Fz G H
 g0:Fz B.G G
 new:∀b o,G b=some o->B.G b≠none\/B.H b=none
 keep:∀b o,B.H b=some o->(∀i,(i,b)∉B.O)->H b=some o
 there:∀b,H b=none->B.H b=none
 len:σ.length=ρ.length
 ob:∀i b,(i,b)∈B.O->B.H b≠none
 slot:∀i s,ρ[i]? =some s->SlotOk K B G H i σ[i]? s
 dis:∀(i j:Nat) (s t:Sl) (a:Addr),i≠j->ρ[i]? =some s->ρ[j]? =some t->OwS K G H σ[i]? a s->¬OwS K G H σ[j]? a t
section
variable {K:W.Frag} {B:Bs} {G G' H H':Hp} {σ:St} {ρ:R}
theorem SlotOk.own (h:SlotOk K B G H i ov s)(w:OwS K G H ov a s):G a=none/\H a≠none/\(B.H a=none\/(i,a)∈B.O):=by
 cases s with
 |emp=>exact w.elim
 |two _ _=>exact w.elim
 |val d=>exact w.elim
 |own ds=>obtain⟨l,xs,e,g,k,r,n⟩:=h;rw[show ov=_ from w]at e;cases e;exact⟨g,by rw[k];simp,.inl n⟩
 |par ds=>obtain⟨l,xs,e,g,k,r,n⟩:=h;rw[show ov=_ from w]at e;cases e;exact⟨g,by rw[k];simp,.inr n⟩
 |tre t=>
  obtain⟨v,A,e,r,nd,f⟩:=h
  obtain⟨v',A',e',r',m⟩:=w
  rw[e]at e';cases e'
  rw[<-r.det r' fun _ _=>rfl]at m
  exact⟨(f a m).1,r.here m,.inl (f a m).2⟩
 |ptr t=>
  obtain⟨v,A,e,r,nd,f⟩:=h
  obtain⟨v',A',e',r',m⟩:=w
  rw[e]at e';cases e'
  rw[<-r.det r' fun _ _=>rfl]at m
  exact⟨(f a m).1,r.here m,(f a m).2⟩
theorem SlotOk.mono (h:SlotOk K B G H i ov s)(hg:Fz G G')(hw:∀a,OwS K G H ov a s->G a=none->H a≠none->G' a=none/\H' a=H a):SlotOk K B G' H' i ov s:=by
 have ow:=fun a (w:OwS K G H ov a s)=>h.own w
 cases s with
 |emp=>trivial
 |two _ _=>trivial
 |val d=>obtain⟨v,e,r⟩:=h;exact⟨v,e,r.mono hg⟩
 |own ds=>
  obtain⟨l,xs,e,g,k,r,n⟩:=h
  obtain⟨h1,h2⟩:=hw l e g (by rw[k];simp)
  exact⟨l,xs,e,h1,h2.trans k,r.mono hg,n⟩
 |par ds=>
  obtain⟨l,xs,e,g,k,r,n⟩:=h
  obtain⟨h1,h2⟩:=hw l e g (by rw[k];simp)
  exact⟨l,xs,e,h1,h2.trans k,r.mono hg,n⟩
 |tre t=>
  obtain⟨v,A,e,r,nd,f⟩:=h
  have w:=fun a m=>hw a ⟨v,A,e,r,m⟩ (f a m).1 (r.here m)
  exact⟨v,A,e,r.move hg fun a m=>(w a m).2,nd,fun a m=>⟨(w a m).1,(f a m).2⟩⟩
 |ptr t=>
  obtain⟨v,A,e,r,nd,f⟩:=h
  have w:=fun a m=>hw a ⟨v,A,e,r,m⟩ (f a m).1 (r.here m)
  exact⟨v,A,e,r.move hg fun a m=>(w a m).2,nd,fun a m=>⟨(w a m).1,(f a m).2⟩⟩
theorem SlotOk.back (h:SlotOk K B G H i ov s)(hw:∀a,OwS K G H ov a s->G a=none->H a≠none->G' a=none/\H' a=H a)(w:OwS K G' H' ov a s):OwS K G H ov a s:=by
 cases s with
 |emp=>exact w
 |two _ _=>exact w
 |val d=>exact w
 |own ds=>exact w
 |par ds=>exact w
 |tre t=>
  obtain⟨v,A,e,r,nd,f⟩:=h
  obtain⟨v',A',e',r',m⟩:=w
  rw[e]at e';cases e'
  have q:=r.det r' fun a m=>(hw a ⟨v,A,e,r,m⟩ (f a m).1 (r.here m)).2
  subst q
  exact⟨v,A,e,r,m⟩
 |ptr t=>
  obtain⟨v,A,e,r,nd,f⟩:=h
  obtain⟨v',A',e',r',m⟩:=w
  rw[e]at e';cases e'
  have q:=r.det r' fun a m=>(hw a ⟨v,A,e,r,m⟩ (f a m).1 (r.here m)).2
  subst q
  exact⟨v,A,e,r,m⟩
theorem SI.move (I:SI K B G H σ ρ)(fz:Fz G' H')(fg:Fz G G')(new:∀b o,G' b=some o->B.G b≠none\/B.H b=none)(keep:∀b o,B.H b=some o->(∀i,(i,b)∉B.O)->H' b=some o)(there:∀b,H' b=none->B.H b=none)
  (ow:∀(i:Nat) (s:Sl) (a:Addr),ρ[i]? =some s->OwS K G H σ[i]? a s->G a=none->H a≠none->G' a=none/\H' a=H a):SI K B G' H' σ ρ where
 fz:=fz
 g0:=I.g0.trans fg
 new:=new
 keep:=keep
 there:=there
 len:=I.len
 ob:=I.ob
 slot:=fun i s e=>(I.slot i s e).mono fg fun a w g h=>ow i s a e w g h
 dis:=fun i j s t a n e1 e2 w1 w2=>I.dis i j s t a n e1 e2 ((I.slot i s e1).back (fun a w g h=>ow i s a e1 w g h) w1) ((I.slot j t e2).back (fun a w g h=>ow j t a e2 w g h) w2)
theorem SI.chg (I:SI K B G H σ ρ){ov:Option V}{s':Sl}(fz:Fz G' H')(fg:Fz G G')(new:∀b o,G' b=some o->B.G b≠none\/B.H b=none)(keep:∀b o,B.H b=some o->(∀i,(i,b)∉B.O)->H' b=some o)(there:∀b,H' b=none->B.H b=none)
  (ow:∀(j:Nat) (s:Sl) (a:Addr),j≠i->ρ[j]? =some s->OwS K G H σ[j]? a s->G a=none->H a≠none->G' a=none/\H' a=H a/\¬OwS K G' H' (some ov) a s') (sl:SlotOk K B G' H' i (some ov) s'):SI K B G' H' (σ.set i ov) (ρ.set i s'):=by
 have atI:∀{s},(ρ.set i s')[i]? =some s->s=s'/\(σ.set i ov)[i]? =some ov:=fun{s} e=>by
  rw[List.getElem?_set,if_pos rfl]at e ⊢
  split at e
  ·rename_i h;cases e;rw[if_pos (by rw[I.len];exact h)];exact⟨rfl,rfl⟩
  ·cases e
 have atJ:∀{j s},j≠i->(ρ.set i s')[j]? =some s->ρ[j]? =some s/\(σ.set i ov)[j]? =σ[j]?:=fun{j s} n e=>by
  rw[List.getElem?_set_ne (Ne.symm n)]at e ⊢
  exact⟨e,rfl⟩
 refine⟨fz,I.g0.trans fg,new,keep,there,by rw[List.length_set,List.length_set];exact I.len,I.ob,fun j s e=>?_,fun j k s t a n e1 e2 w1 w2=>?_⟩
 ·by_cases z:j=i
  ·subst z;obtain⟨rfl,q⟩:=atI e;rw[q];exact sl
  ·obtain⟨e1,q⟩:=atJ z e
   rw[q]
   exact(I.slot j s e1).mono fg fun a w g h=>⟨(ow j s a z e1 w g h).1,(ow j s a z e1 w g h).2.1⟩
 ·have one:∀j s,j≠i->(ρ.set i s')[j]? =some s->OwS K G' H' (σ.set i ov)[j]? a s->ρ[j]? =some s/\OwS K G H σ[j]? a s:=fun j s z e w=>by
   obtain⟨e1,q⟩:=atJ z e
   rw[q]at w
   exact⟨e1,(I.slot j s e1).back (fun a w g h=>⟨(ow j s a z e1 w g h).1,(ow j s a z e1 w g h).2.1⟩) w⟩
  by_cases z1:j=i
  ·subst z1
   obtain⟨rfl,q1⟩:=atI e1
   obtain⟨f2,w2⟩:=one k t (Ne.symm n) e2 w2
   obtain⟨o1,o2,_⟩:=(I.slot k t f2).own w2
   rw[q1]at w1
   exact(ow k t a (Ne.symm n) f2 w2 o1 o2).2.2 w1
  ·have p1:=one j s z1 e1 w1
   by_cases z2:k=i
   ·subst z2
    obtain⟨rfl,q2⟩:=atI e2
    obtain⟨o1,o2,_⟩:=(I.slot j s p1.1).own p1.2
    rw[q2]at w2
    exact(ow j s a z1 p1.1 p1.2 o1 o2).2.2 w2
   ·have p2:=one k t z2 e2 w2
    exact I.dis j k s t a n p1.1 p2.1 p1.2 p2.2
theorem SI.nw (I:SI K B G H σ ρ)(hp:H p=none):Nw K G H σ ρ p:=fun i s e w=>((I.slot i s e).own w).2.1 hp
theorem SI.nw_move (I:SI K B G H σ ρ)(n:Nw K G H σ ρ p)(ow:∀(i:Nat) (s:Sl) (a:Addr),ρ[i]? =some s->OwS K G H σ[i]? a s->G a=none->H a≠none->G' a=none/\H' a=H a):Nw K G' H' σ ρ p:=
 fun i s e w=>n i s e ((I.slot i s e).back (fun a w g h=>ow i s a e w g h) w)
theorem SI.allocF (I:SI K B G H σ ρ)(hp:H p=none)(o:HO):SI K B (upd G p o) (upd H p o) σ ρ:=
 I.move (I.fz.upd2 p o) (Fz.new (I.fz.free hp) o) (fun b u e=>by
  by_cases q:b=p
  ·subst q;exact .inr (I.there b hp)
  ·rw[zaq q]at e;exact I.new b u e) (fun b u e n=>by
  have q:=I.keep b u e n
  rw[zaq (zaE q hp)];exact q) (fun b e=>by
  by_cases q:b=p
  ·subst q;rw[zat]at e;cases e
  ·rw[zaq q]at e;exact I.there b e) (fun i s a _ _ g h=>by
  have q:a≠p:=fun z=>h (by rw[z];exact hp)
  rw[zaq q,zaq q];exact⟨g,rfl⟩)
theorem SI.allocO (I:SI K B G H σ ρ)(hp:H p=none)(o:HO):SI K B G (upd H p o) σ ρ:=
 I.move (I.fz.right (I.fz.free hp) o) (Fz.refl G) I.new (fun b u e n=>by
  have q:=I.keep b u e n
  rw[zaq (zaE q hp)];exact q) (fun b e=>by
  by_cases q:b=p
  ·subst q;rw[zat]at e;cases e
  ·rw[zaq q]at e;exact I.there b e) (fun i s a _ _ g h=>by
  have q:a≠p:=fun z=>h (by rw[z];exact hp)
  rw[zaq q];exact⟨g,rfl⟩)
theorem SI.frz (I:SI K B G H σ ρ){o:HO}(hl:H l=some o)(hB:B.H l=none)(hn:Nw K G H σ ρ l)(hg:G l=none):SI K B (upd G l o) H σ ρ:=
 I.move (fun a u q=>by
  by_cases e:a=l
  ·subst e;rw[zat]at q;cases q;exact hl
  ·rw[zaq e]at q;exact I.fz a u q) (Fz.new hg o) (fun b u e=>by
  by_cases q:b=l
  ·subst q;exact .inr hB
  ·rw[zaq q]at e;exact I.new b u e) I.keep I.there (fun i s a e w g _=>by
  refine⟨?_,rfl⟩
  rw[zaq (fun z=>?_)]
  ·exact g
  ·subst z;exact hn i s e w)
theorem SI.set (I:SI K B G H σ ρ)(h:RepD K G v d):SI K B G H (σ.set i (some v)) (ρ.set i (.val d)):=
 I.chg I.fz (Fz.refl G) I.new I.keep I.there (fun _ _ _ _ _ _ g _=>⟨g,rfl,id⟩) ⟨v,rfl,h⟩
theorem SI.setO (I:SI K B G H σ ρ)(hg:G l=none)(hl:H l=some (.lst xs))(h:RepL K G xs ds)(hB:B.H l=none)(hn:Nw K G H σ ρ l):
  SI K B G H (σ.set i (some (.ref l))) (ρ.set i (.own ds)):=
 I.chg I.fz (Fz.refl G) I.new I.keep I.there (fun j s a _ e w g _=>⟨g,rfl,fun z=>by cases(show some (some (V.ref l))=some (some (.ref a))from z);exact hn j s e w⟩) ⟨l,xs,rfl,hg,hl,h,hB⟩
theorem SI.wr (I:SI K B G H σ ρ)(e:ρ[i]? =some s)(q:s.items=some ds):∃l xs,σ[i]? =some (some (.ref l))/\G l=none/\H l=some (.lst xs)/\RepL K G xs ds:=by
 have h:=I.slot i s e
 cases s with
 |emp=>cases q
 |two _ _=>cases q
 |val d=>cases q
 |tre _=>cases q
 |ptr _=>cases q
 |own es=>cases q;obtain⟨l,xs,h1,h2,h3,h4,_⟩:=h;exact⟨l,xs,h1,h2,h3,h4⟩
 |par es=>cases q;obtain⟨l,xs,h1,h2,h3,h4,_⟩:=h;exact⟨l,xs,h1,h2,h3,h4⟩
noncomputable def Sl.put (s:Sl)(ds:List D):Sl:=match s with
 | .own _=> .own ds
 | .par _=> .par ds
 |s=>s
theorem zbs (q:s.items=some ds):OwS K G H ov a s↔ov=some (some (.ref a)):=by
 cases s with
 |own _=>exact Iff.rfl
 |par _=>exact Iff.rfl
 |_=>cases q
theorem zg1 (q:s.items=some ds)(es:List D):(s.put es).items=some es:=by
 cases s with
 |own _=>rfl
 |par _=>rfl
 |_=>cases q
theorem zgv {α:Type}{l:List α}{x:α}(e:l[i]? =some x):l.set i x=l:=by
 obtain⟨h,rfl⟩:=List.getElem?_eq_some_iff.mp e
 exact List.set_getElem_self h
theorem SI.chgW (I:SI K B G H σ ρ){i:Nat}(e:ρ[i]? =some s)(q:s.items=some ds)(hl:σ[i]? =some (some (.ref l)))(fz:Fz G' H')(fg:Fz G G')(nw:∀b o,G' b=some o->G b≠none\/H b=none)
  (kp:∀b o,b≠l->H b=some o->H' b=some o) (gl:G' l=none) (hl':H' l=some (.lst ys)) (r:RepL K G' ys es):SI K B G' H' σ (ρ.set i (s.put es)):=by
 obtain⟨l',xs,e1,e2,e3,e4⟩:=I.wr e q
 rw[hl]at e1;cases e1
 have sl:=I.slot i s e
 have nb:∀b o,B.H b=some o->(∀i,(i,b)∉B.O)->b≠l:=fun b o h1 h2 z=>by
  subst z
  rcases(sl.own ((zbs q).mpr hl)).2.2 with z|z
  ·rw[h1]at z;cases z
  ·exact h2 i z
 have h:=I.chg (i:=i) (ov:=some (.ref l)) (s':=s.put es) (G':=G') (H':=H') fz fg (fun b o k=>?_) (fun b o k1 k2=>kp b o (nb b o k1 k2) (I.keep b o k1 k2)) (fun b k=>?_) (fun j t a z ej w g ha=>?_) ?_
 ·rwa[zgv hl]at h
 ·rcases nw b o k with h|h
  ·cases q2:G b with
   |none=>exact absurd q2 h
   |some u=>exact I.new b u q2
  ·exact .inr (I.there b h)
 ·refine I.there b ?_
  cases q2:H b with
  |none=>rfl
  |some u=>
   by_cases z:b=l
   ·subst z;rw[hl']at k;cases k
   ·rw[kp b u z q2]at k;cases k
 ·have na:a≠l:=fun w'=>by subst w';exact I.dis j i t s a z ej e w ((zbs q).mpr hl)
  obtain⟨u,hu⟩:=Option.ne_none_iff_exists'.mp ha
  refine⟨?_,(kp a u na hu).trans hu.symm,fun z=>na ?_⟩
  ·cases q2:G' a with
   |none=>rfl
   |some u=>
    rcases nw a u q2 with z|z
    ·exact absurd g z
    ·exact absurd z ha
  ·cases(zbs (zg1 q es)).mp z;rfl
 ·cases s with
  |own es'=>obtain⟨l',xs',k1,k2,k3,k4,k5⟩:=sl;rw[hl]at k1;cases k1;exact⟨_,ys,rfl,gl,hl',r,k5⟩
  |par es'=>obtain⟨l',xs',k1,k2,k3,k4,k5⟩:=sl;rw[hl]at k1;cases k1;exact⟨_,ys,rfl,gl,hl',r,k5⟩
  |_=>cases q
theorem SI.write (I:SI K B G H σ ρ)(e:ρ[i]? =some s)(q:s.items=some ds)(hl:σ[i]? =some (some (.ref l)))(h:RepL K G ys es):
  SI K B G (upd H l (.lst ys)) σ (ρ.set i (s.put es)):=by
 obtain⟨l',xs,e1,e2,e3,e4⟩:=I.wr e q
 rw[hl]at e1;cases e1
 exact I.chgW e q hl (I.fz.right e2 _) (Fz.refl G) (fun b o k=> .inl (by rw[k];simp)) (fun b o z k=>by rw[zaq z];exact k) e2 zat h
theorem SI.freeze (I:SI K B G H σ ρ){i:Nat}(e:ρ[i]? =some (.own ds)):∃l xs,σ[i]? =some (some (.ref l))/\Fz G (upd G l (.lst xs))/\RepD K (upd G l (.lst xs)) (.ref l) (.lst ds)/\
  SI K B (upd G l (.lst xs)) H σ (ρ.set i (.val (.lst ds))):=by
 obtain⟨l,xs,h1,h2,h3,h4,h5⟩:=I.slot i _ e
 have fz:=Fz.new h2 (.lst xs)
 have rep:RepD K (upd G l (.lst xs)) (.ref l) (.lst ds):=⟨l,xs,rfl,zat,h4.mono fz⟩
 refine⟨l,xs,h1,fz,rep,?_⟩
 have h:=I.chg (i:=i) (ov:=some (.ref l)) (s':= .val (.lst ds)) (G':=upd G l (.lst xs)) (H':=H) (fun a u q=>?_) fz (fun b u q=>?_) I.keep I.there (fun j t a z ej w g _=>⟨?_,rfl,id⟩) ⟨.ref l,rfl,rep⟩
 ·rwa[zgv h1]at h
 ·by_cases z:a=l
  ·subst z;rw[zat]at q;cases q;exact h3
  ·rw[zaq z]at q;exact I.fz a u q
 ·by_cases z:b=l
  ·subst z;exact .inr h5
  ·rw[zaq z]at q;exact I.new b u q
 ·rw[zaq (fun q=>by subst q;exact I.dis j i t _ a z ej e w h1)];exact g
end
noncomputable abbrev ME:=R->Option (D×R)
noncomputable abbrev MO:=R->Option (List D×R)
noncomputable abbrev MT:=R->Option (Bool×R)
noncomputable abbrev MA:=R->Option (List D×R)
noncomputable def SE (X:Cx)(e:Expr)(m:ME):Prop:=
 ∃t,PE X e t/\∀B G H σ ρ d ρ' (Q:VK),SI X.K B G H σ ρ->m ρ=some (d,ρ')->(∀G' H' v,SI X.K B G' H' σ ρ'->Fz G G'->RepD X.K G' v d->Q v H')->t σ H Q
noncomputable def SO (X:Cx)(e:Expr)(m:MO):Prop:=
 ∃t,PE X e t/\∀B G H σ ρ ds ρ' (Q:VK),SI X.K B G H σ ρ->m ρ=some (ds,ρ')->
  (∀G' H' l xs,SI X.K B G' H' σ ρ'->Fz G G'->G' l=none->H' l=some (.lst xs)->RepL X.K G' xs ds->B.H l=none->Nw X.K G' H' σ ρ' l->Q (.ref l) H')->t σ H Q
noncomputable def STt (X:Cx)(e:Expr)(m:MT):Prop:=
 ∃t,PT X e t/\∀B G H σ ρ d ρ' (Q:Bool->Hp->Prop),SI X.K B G H σ ρ->m ρ=some (d,ρ')->(∀G' H',SI X.K B G' H' σ ρ'->Fz G G'->Q d H')->t σ H Q
noncomputable def SA (X:Cx)(es:List Expr)(m:MA):Prop:=
 ∃t,PA X es t/\∀B G H σ ρ ds ρ' (Q:List V->Hp->Prop),SI X.K B G H σ ρ->m ρ=some (ds,ρ')->(∀G' H' vs,SI X.K B G' H' σ ρ'->Fz G G'->RepL X.K G' vs ds->Q vs H')->t σ H Q
theorem zkH {B:Bs}{σ:St}(I:SI K B G H σ ρ)(hg:G l=none)(hl:H l=some (.lst xs))(h:RepL K G xs ds)(hB:B.H l=none)(hn:Nw K G H σ ρ l):
  SI K B (upd G l (.lst xs)) H σ ρ/\Fz G (upd G l (.lst xs))/\RepD K (upd G l (.lst xs)) (.ref l) (.lst ds):=
 ⟨I.frz hl hB hn hg,Fz.new hg _,⟨l,xs,rfl,zat,h.mono (Fz.new hg _)⟩⟩
noncomputable def eFz (m:MO):ME:=fun ρ=>(m ρ).map fun p=>(.lst p.1,p.2)
theorem SO.se {X:Cx}{m:MO}(h:SO X e m):SE X e (eFz m):=by
 obtain⟨t,p,s⟩:=h
 refine⟨t,p,fun B G H σ ρ d ρ' Q I hm k=>?_⟩
 unfold eFz at hm
 cases q:m ρ with
 |none=>rw[q]at hm;cases hm
 |some r=>
  obtain⟨ds,ρ1⟩:=r
  rw[q]at hm
  cases hm
  refine s B G H σ ρ ds _ Q I q fun G' H' l xs I' fz hg hl hr hB hn=>?_
  obtain⟨I2,f2,r2⟩:=zkH I' hg hl hr hB hn
  exact k _ _ _ I2 (fz.trans f2) r2
noncomputable def eC (d:D):ME:=fun ρ=>some (d,ρ)
noncomputable def eVar (i:Nat):ME:=fun ρ=>match ρ[i]? with
 |some (.val d)=>some (d,ρ)
 |some (.own ds)=>some (.lst ds,ρ.set i (.val (.lst ds)))
 |_=>none
section
variable {X:Cx} {pos:Pos}
theorem zab (i:Nat){x:Str}(hN:autoParam (X.N[i]? =some x) zu2._auto_1)(hv:autoParam (Vis X.env.scope x) zu6._auto_1)(hd:autoParam ((x==("__debug__":Str))=false) zu1._auto_1)
  (hcd:autoParam ((x==("__classdict__":Str))=false) zu1._auto_1):SE X (.Name x pos) (eVar i):=by
 refine⟨_,za6 hN hv hd hcd,fun B G H σ ρ d ρ' Q I hm k=>?_⟩
 unfold eVar at hm
 cases e:ρ[i]? with
 |none=>rw[e]at hm;cases hm
 |some s=>
  rw[e]at hm
  cases s with
  |emp=>cases hm
  |two _ _=>cases hm
  |tre _=>cases hm
  |ptr _=>cases hm
  |par ds=>cases hm
  |val d'=>
   cases hm
   obtain⟨v,h1,h2⟩:=I.slot i _ e
   exact⟨v,h1,k G H v I (Fz.refl G) h2⟩
  |own ds=>
   cases hm
   obtain⟨l,xs,h1,f,r,I'⟩:=I.freeze e
   exact⟨.ref l,h1,k _ H _ I' f r⟩
theorem zah {i:Int}{j}:SE X (.Constant (.int i) j pos) (eC (.int i)):=⟨_,zox,fun B G H σ ρ d ρ' Q I hm k=>by cases hm;exact k G H _ I (Fz.refl G) rfl⟩
theorem zfC {j}:SE X (.Constant (.bool b) j pos) (eC (.bl b)):=⟨_,pe_bl,fun B G H σ ρ d ρ' Q I hm k=>by cases hm;exact k G H _ I (Fz.refl G) rfl⟩
theorem zhW {j}:SE X (.Constant .none j pos) (eC .non):=⟨_,pe_non,fun B G H σ ρ d ρ' Q I hm k=>by cases hm;exact k G H _ I (Fz.refl G) rfl⟩
theorem zh9 {x:Str}{j}:SE X (.Constant (.str x) j pos) (eC (.str x)):=⟨_,pe_str,fun B G H σ ρ d ρ' Q I hm k=>by cases hm;exact k G H _ I (Fz.refl G) rfl⟩
end
noncomputable def aNil:MA:=fun ρ=>some ([],ρ)
noncomputable def zaf (m:ME)(r:MA):MA:=fun ρ=>(m ρ).bind fun p=>(r p.2).map fun q=>(p.1::q.1,q.2)
section
variable {X:Cx} {e:Expr} {es:List Expr} {m:ME} {r:MA}
theorem zag:SA X [] aNil:=⟨_,zf4,fun B G H σ ρ ds ρ' Q I hm k=>by cases hm;exact k G H [] I (Fz.refl G) .nil⟩
theorem zaa (h:SE X e m)(hr:SA X es r)(hs:autoParam (starEach (e::es) X.env=(false,eval e X.env)::starEach es X.env) zu2._auto_1):SA X (e::es) (zaf m r):=by
 obtain⟨t,p,s⟩:=h
 obtain⟨u,q,z⟩:=hr
 refine⟨_,zcn p q hs,fun B G H σ ρ ds ρ' Q I hm k=>?_⟩
 unfold zaf at hm
 cases e1:m ρ with
 |none=>rw[e1]at hm;cases hm
 |some a=>
  obtain⟨d,ρ1⟩:=a
  rw[e1]at hm
  cases e2:r ρ1 with
  |none=>simp[e2]at hm
  |some b=>
   obtain⟨es',ρ2⟩:=b
   simp only[Option.bind_some,e2,Option.map_some,Option.some.injEq,Prod.mk.injEq]at hm
   obtain⟨rfl,rfl⟩:=hm
   exact s B G H σ ρ d ρ1 _ I e1 fun G1 H1 v I1 f1 r1=>z B G1 H1 σ ρ1 es' ρ2 _ I1 e2 fun G2 H2 vs I2 f2 r2=>k G2 H2 (v::vs) I2 (f1.trans f2) (.cons (r1.mono f2) r2)
end
noncomputable def V2 (X:Cx)(r:R2)(f:D->D->Option D):Prop:=∀B G H σ ρ x y a b d (Q:VK),SI X.K B G H σ ρ->RepD X.K G x a->RepD X.K G y b->f a b=some d->(∀G' H' v,SI X.K B G' H' σ ρ->Fz G G'->RepD X.K G' v d->Q v H')->r x y H Q
noncomputable def V1 (X:Cx)(r:V->Hp->VK->Prop)(f:D->Option D):Prop:=∀B G H σ ρ x a d (Q:VK),SI X.K B G H σ ρ->RepD X.K G x a->f a=some d->(∀G' H' v,SI X.K B G' H' σ ρ->Fz G G'->RepD X.K G' v d->Q v H')->r x H Q
noncomputable def VC (X:Cx)(r:List V->Hp->VK->Prop)(f:List D->Option D):Prop:=∀B G H σ ρ xs ds d (Q:VK),SI X.K B G H σ ρ->RepL X.K G xs ds->f ds=some d->(∀G' H' v,SI X.K B G' H' σ ρ->Fz G G'->RepD X.K G' v d->Q v H')->r xs H Q
noncomputable def m2 (f:D->D->Option D)(ma mb:ME):ME:=fun ρ=>(ma ρ).bind fun p=>(mb p.2).bind fun q=>(f p.1 q.1).map fun d=>(d,q.2)
noncomputable def m1 (f:D->Option D)(ma:ME):ME:=fun ρ=>(ma ρ).bind fun p=>(f p.1).map fun d=>(d,p.2)
noncomputable def mC (f:List D->Option D)(ma:MA):ME:=fun ρ=>(ma ρ).bind fun p=>(f p.1).map fun d=>(d,p.2)
theorem m2_inv {ma mb:ME}(h:m2 f ma mb ρ=some (d,ρ')):∃a ρ1 b,ma ρ=some (a,ρ1)/\mb ρ1=some (b,ρ')/\f a b=some d:=by
 unfold m2 at h
 cases e1:ma ρ with
 |none=>rw[e1]at h;cases h
 |some p=>
  obtain⟨a,ρ1⟩:=p
  rw[e1]at h
  cases e2:mb ρ1 with
  |none=>simp[e2]at h
  |some q=>
   obtain⟨b,ρ2⟩:=q
   simp only[Option.bind_some,e2]at h
   cases e3:f a b with
   |none=>rw[e3]at h;cases h
   |some c=>rw[e3]at h;cases h;exact⟨a,ρ1,b,rfl,e2,e3⟩
theorem m1_inv {f:D->Option D}(h:m1 f ma ρ=some (d,ρ')):∃a,ma ρ=some (a,ρ')/\f a=some d:=by
 unfold m1 at h
 cases e1:ma ρ with
 |none=>rw[e1]at h;cases h
 |some p=>
  obtain⟨a,ρ1⟩:=p
  rw[e1]at h
  simp only[Option.bind_some]at h
  cases e3:f a with
  |none=>rw[e3]at h;cases h
  |some c=>rw[e3]at h;cases h;exact⟨a,rfl,e3⟩
theorem mC_inv {f:List D->Option D}{ma:MA}(h:mC f ma ρ=some (d,ρ')):∃a,ma ρ=some (a,ρ')/\f a=some d:=by
 unfold mC at h
 cases e1:ma ρ with
 |none=>rw[e1]at h;cases h
 |some p=>
  obtain⟨a,ρ1⟩:=p
  rw[e1]at h
  simp only[Option.bind_some]at h
  cases e3:f a with
  |none=>rw[e3]at h;cases h
  |some c=>rw[e3]at h;cases h;exact⟨a,rfl,e3⟩
section
variable {X:Cx} {a b:Expr} {ma mb:ME} {pos:Pos} {f:D->D->Option D}
theorem zlF {r:R2}{ta tb:TE}(hv:V2 X r f)
  (sa:∀B G H σ ρ d ρ' (Q:VK),SI X.K B G H σ ρ->ma ρ=some (d,ρ')->(∀G' H' v,SI X.K B G' H' σ ρ'->Fz G G'->RepD X.K G' v d->Q v H')->ta σ H Q)
  (sb:∀B G H σ ρ d ρ' (Q:VK),SI X.K B G H σ ρ->mb ρ=some (d,ρ')->(∀G' H' v,SI X.K B G' H' σ ρ'->Fz G G'->RepD X.K G' v d->Q v H')->tb σ H Q):
  ∀B G H σ ρ d ρ' (Q:VK),SI X.K B G H σ ρ->m2 f ma mb ρ=some (d,ρ')->(∀G' H' v,SI X.K B G' H' σ ρ'->Fz G G'->RepD X.K G' v d->Q v H')->tOp r ta tb σ H Q:=by
 intro B G H σ ρ d ρ' Q I hm k
 obtain⟨x,ρ1,y,e1,e2,e3⟩:=m2_inv hm
 exact sa B G H σ ρ x ρ1 _ I e1 fun G1 H1 v I1 f1 r1=>sb B G1 H1 σ ρ1 y ρ' _ I1 e2 fun G2 H2 u I2 f2 r2=>
  hv B G2 H2 σ ρ' v u x y d Q I2 (r1.mono f2) r2 e3 fun G3 H3 z I3 f3 r3=>k G3 H3 z I3 (f1.trans (f2.trans f3)) r3
theorem zmL {r:R2}(ho:OpR X (binaryOp op) r)(hv:V2 X r f)(ha:SE X a ma)(hb:SE X b mb):SE X (.BinOp a op b pos) (m2 f ma mb):=by
 obtain⟨ta,pa,sa⟩:=ha
 obtain⟨tb,pb,sb⟩:=hb
 exact⟨_,pe_op ho pa pb,zlF hv sa sb⟩
theorem zoa {op:CmpOp}{r:R2}(ho:OpR X (compareOp op) r)(hv:V2 X r f)(ha:SE X a ma)(hb:SE X b mb)(hm:behindInMarks op b=false):SE X (.Compare a [op] [b] pos) (m2 f ma mb):=by
 obtain⟨ta,pa,sa⟩:=ha
 obtain⟨tb,pb,sb⟩:=hb
 exact⟨_,pe_cmpR ho pa pb hm,zlF hv sa sb⟩
theorem se_un {op:UnaryOp}(ho:UnR X (unaryOp op) r)(hv:V1 X r g)(ha:SE X a ma):SE X (.UnaryOp op a pos) (m1 g ma):=by
 obtain⟨ta,pa,sa⟩:=ha
 refine⟨_,pe_un ho pa,fun B G H σ ρ d ρ' Q I hm k=>?_⟩
 obtain⟨x,e1,e2⟩:=m1_inv hm
 exact sa B G H σ ρ x ρ' _ I e1 fun G1 H1 v I1 f1 r1=>hv B G1 H1 σ ρ' v x d Q I1 r1 e2 fun G2 H2 z I2 f2 r2=>k G2 H2 z I2 (f1.trans f2) r2
theorem se_ix {r:R2}(hr:IxR X r)(hv:V2 X r f)(ha:SE X a ma)(hb:SE X b mb)(hs:zdH b):SE X (.Subscript a b pos) (m2 f ma mb):=by
 obtain⟨ta,pa,sa⟩:=ha
 obtain⟨tb,pb,sb⟩:=hb
 exact⟨_,zj8 hr pa pb hs,zlF hv sa sb⟩
end
section
variable {X:Cx} {x:Str} {p pos:Pos} {e:Expr} {es:List Expr} {ma:MA} {id T:String} {r:List V->Hp->VK->Prop} {f:List D->Option D}
theorem soundC {t:TA}(hv:VC X r f)(sa:∀B G H σ ρ ds ρ' (Q:List V->Hp->Prop),SI X.K B G H σ ρ->ma ρ=some (ds,ρ')->(∀G' H' vs,SI X.K B G' H' σ ρ'->Fz G G'->RepL X.K G' vs ds->Q vs H')->t σ H Q):
  ∀B G H σ ρ d ρ' (Q:VK),SI X.K B G H σ ρ->mC f ma ρ=some (d,ρ')->(∀G' H' v,SI X.K B G' H' σ ρ'->Fz G G'->RepD X.K G' v d->Q v H')->tCB r t σ H Q:=by
 intro B G H σ ρ d ρ' Q I hm k
 obtain⟨ds,e1,e2⟩:=mC_inv hm
 exact sa B G H σ ρ ds ρ' _ I e1 fun G1 H1 vs I1 f1 r1=>hv B G1 H1 σ ρ' vs ds d Q I1 r1 e2 fun G2 H2 z I2 f2 r2=>k G2 H2 z I2 (f1.trans f2) r2
theorem zfW (hc:zhn X (.builtin id) r)(hv:VC X r f)(hb:bootBuiltins x=some (.builtin id))(hm:X.mg x=none)(ha:SA X (e::es) ma)(hg:autoParam (Gl X x) zu2._auto_1)(hn:autoParam (x≠"__name__") zu1._auto_1)(hdb:autoParam ((x==("__debug__":Str))=false) zu1._auto_1)
  (he:autoParam (starEach (e::es) X.env=(false,eval e X.env)::starEach es X.env) zu2._auto_1) (hpl:autoParam ((backTo pos (starEach es X.env)).any (·.1)=false) zu2._auto_1):SE X (.Call (.Name x p) (e::es) [] pos) (mC f ma):=by
 obtain⟨t,pa,sa⟩:=ha
 exact⟨_,zgL hc hg hm hb pa hn hdb he hpl,soundC hv sa⟩
theorem zoj (hc:zhn X (.type T) r)(hv:VC X r f)(hb:bootBuiltins x=some (.type T))(hm:X.mg x=none)(ha:SA X (e::es) ma)(hg:autoParam (Gl X x) zu2._auto_1)(hn:autoParam (x≠"__name__") zu1._auto_1)(hdb:autoParam ((x==("__debug__":Str))=false) zu1._auto_1)
  (he:autoParam (starEach (e::es) X.env=(false,eval e X.env)::starEach es X.env) zu2._auto_1) (hpl:autoParam ((backTo pos (starEach es X.env)).any (·.1)=false) zu2._auto_1):SE X (.Call (.Name x p) (e::es) [] pos) (mC f ma):=by
 obtain⟨t,pa,sa⟩:=ha
 exact⟨_,zkc hc hg hm hb pa hn hdb he hpl,soundC hv sa⟩
end
end M
namespace M
open L2 PySem PySem.Spec
open PyProof.Rows hiding St
variable {v:V} {ds cs out:List D} {p c l:Addr} {xs vs ys:List V} {X:Cx} {C:Int->Int->Prop} {g:D->R->Option R} {a b e:Expr} {ma:MA} {pos pos':Pos} {k i j n t:Nat} {mb:ME} {K:W.Frag} {G H H' G':Hp} {us its:List Value} {u:Value} {d:D} {B:Bs} {σ σc:St} {ρ ρ':R} {s:Sl} {x qual:Str} {Q E:Value->Shared->Prop} {f:D->D->Option D} {op op':CmpOp} {m mc:MT} {es ifs:List Expr} {h:List D->R->Option R} {body:List Stmt} {N ps:List Str} {fd:FuncData} {env:Env} {scope:Scope} {A:Around} {cl:List (Str×Addr)} {h':Heap} {prog:Program} {w:World} {use:Option (Value->Sem Unit)} {ov:Option (Option V)} {cap:List Nat} {wi:TI} {tg':Addr->Shared->Hp->List Addr->TG} {tt:Addr->Shared->Hp->List Addr->TT} {te:Addr->Shared->Hp->List Addr->TE} {ns:List Int}
section
variable {X:Cx} {K:W.Frag} {B:Bs} {G H:Hp} {σ:St} {ρ:R}
theorem SI.lst (I:SI K B G H σ ρ)(h:RepD K G v (.lst ds)):∃a xs,v= .ref a/\H a=some (.lst xs)/\RepL K G xs ds:=by
 obtain⟨a,xs,e,q,r⟩:=h
 exact⟨a,xs,e,I.fz a _ q,r⟩
theorem SI.tup (I:SI K B G H σ ρ)(h:RepD K G v (.tup ds)):∃a xs,v= .ref a/\H a=some (.tup xs)/\RepL K G xs ds:=by
 obtain⟨a,xs,e,q,r⟩:=h
 exact⟨a,xs,e,I.fz a _ q,r⟩
theorem SI.newT (I:SI K B G H σ ρ)(hp:H p=none)(h:RepL K G xs ds):SI K B (upd G p (.tup xs)) (upd H p (.tup xs)) σ ρ/\Fz G (upd G p (.tup xs))/\RepD K (upd G p (.tup xs)) (.ref p) (.tup ds):=
 ⟨I.allocF hp _,Fz.new (I.fz.free hp) _,⟨p,xs,rfl,zat,h.mono (Fz.new (I.fz.free hp) _)⟩⟩
theorem SI.newL (I:SI K B G H σ ρ)(hp:H p=none)(h:RepL K G xs ds):SI K B (upd G p (.lst xs)) (upd H p (.lst xs)) σ ρ/\Fz G (upd G p (.lst xs))/\RepD K (upd G p (.lst xs)) (.ref p) (.lst ds):=
 ⟨I.allocF hp _,Fz.new (I.fz.free hp) _,⟨p,xs,rfl,zat,h.mono (Fz.new (I.fz.free hp) _)⟩⟩
end
noncomputable def dI2 (c:Int->Int->Bool)(g:Int->Int->D):D->D->Option D
 | .int i,.int j=>if c i j then some (g i j)else none
 |_,_=>none
theorem zoh {c:Int->Int->Bool}{g:Int->Int->Int}(hc:∀i j,c i j=true->C i j):V2 X (rI C fun i j=> .int (g i j)) (dI2 c fun i j=> .int (g i j)):=by
 intro B G H σ ρ x y a b d Q I ra rb hf k
 cases a<;>cases b<;>simp only[dI2]at hf<;>try cases hf
 rename_i i j
 split at hf
 ·rename_i h
  cases hf
  exact⟨i,j,ra,rb,hc i j h,k G H _ I (Fz.refl G) rfl⟩
 ·cases hf
theorem v2_int0 {g:Int->Int->Int}:V2 X (rI0 fun i j=> .int (g i j)) (dI2 (fun _ _=>true) fun i j=> .int (g i j)):=by
 intro B G H σ ρ x y a b d Q I ra rb hf k
 cases a<;>cases b<;>simp only[dI2]at hf<;>try cases hf
 rename_i i j
 exact⟨i,j,ra,rb,k G H _ I (Fz.refl G) rfl⟩
theorem zdb {g:Int->Int->Bool}:V2 X (rI0 fun i j=> .bl (g i j)) (dI2 (fun _ _=>true) fun i j=> .bl (g i j)):=by
 intro B G H σ ρ x y a b d Q I ra rb hf k
 cases a<;>cases b<;>simp only[dI2]at hf<;>try cases hf
 rename_i i j
 exact⟨i,j,ra,rb,k G H _ I (Fz.refl G) rfl⟩
noncomputable def dSub:D->D->Option D:=dI2 (fun _ _=>true) fun i j=> .int (i-j)
noncomputable def divOk (j:Int):Bool:=decide (0<j)&&decide (j.natAbs.log2<9000)
theorem op_fdivW:OpR X (binaryOp .FloorDiv) (rI (fun _ j=>0<j/\j.natAbs.log2<9000) fun i j=> .int (i/j)):=opI fun i j _ _ _ _ _ hc q=>by
 have h1:(0:Int)<j:=hc.1
 exact PyProof.Rows.floordiv_int (by lia) (by rw[Int.fdiv_eq_ediv_of_nonneg i (by lia)];exact q) (.inl (PyProof.noPylong_of_log2 hc.2))
noncomputable def dDiv:D->D->Option D:=dI2 (fun _ j=>divOk j) fun i j=> .int (i/j)
noncomputable def dMod:D->D->Option D:=dI2 (fun _ j=>decide (0<j)) fun i j=> .int (i%j)
noncomputable def dPow:D->D->Option D:=dI2 (fun i j=>decide (0<=j)&&decide (j<=1000000)&&decide (i.natAbs<2^64)) fun i j=> .int (i^j.toNat)
noncomputable def dLt:D->D->Option D:=dI2 (fun _ _=>true) fun i j=> .bl (decide (i<j))
noncomputable def dLe:D->D->Option D:=dI2 (fun _ _=>true) fun i j=> .bl (decide (i<=j))
noncomputable def dGt:D->D->Option D:=dI2 (fun _ _=>true) fun i j=> .bl (decide (j<i))
noncomputable def dGe:D->D->Option D:=dI2 (fun _ _=>true) fun i j=> .bl (decide (j<=i))
section
variable {X:Cx} {a b:Expr} {ma mb:ME} {pos:Pos}
theorem zaX (ha:SE X a ma)(hb:SE X b mb):SE X (.BinOp a .Sub b pos) (m2 dSub ma mb):=zmL op_sub v2_int0 ha hb
theorem se_div (ha:SE X a ma)(hb:SE X b mb):SE X (.BinOp a .FloorDiv b pos) (m2 dDiv ma mb):=zmL op_fdivW (zoh fun i j h=>by simpa[divOk]using h) ha hb
theorem zev (ha:SE X a ma)(hb:SE X b mb):SE X (.BinOp a .Mod b pos) (m2 dMod ma mb):=zmL op_mod (zoh fun i j h=>by simpa using h) ha hb
theorem ziV (ha:SE X a ma)(hb:SE X b mb):SE X (.BinOp a .Pow b pos) (m2 dPow ma mb):=zmL op_pow (zoh fun i j h=>by simp only[Bool.and_eq_true,decide_eq_true_eq]at h;exact⟨h.1.1,h.1.2,h.2⟩) ha hb
theorem se_gt (ha:SE X a ma)(hb:SE X b mb):SE X (.Compare a [.Gt] [b] pos) (m2 dGt ma mb):=zoa op_gt zdb ha hb (zgU _)
end
noncomputable def dNeg:D->Option D
 | .int i=>some (.int (-i))
 |_=>none
theorem zeI {ma:ME}(ha:SE X a ma):SE X (.UnaryOp .USub a pos) (m1 dNeg ma):=
 se_un un_neg (fun B G H σ ρ x a d Q I ra hf k=>by
  cases a<;>simp only[dNeg]at hf<;>try cases hf
  exact⟨_,ra,k G H _ I (Fz.refl G) rfl⟩) ha
noncomputable def zjN (i j:Int):Bool:=(decide (i.natAbs<2^64)||decide (j.natAbs<2^64))||(decide (i.natAbs<2^4000)&&decide (j.natAbs<2^4000))
noncomputable def dMul:D->D->Option D
 | .int i,.int j=>if zjN i j then some (.int (i*j))else none
 | .lst ds,.int k=>if decide (-1000000<=k)&&decide (k<=1000000)&&decide (ds.length*k.toNat<=1000000)then some (.lst (List.replicate k.toNat ds).flatten)else none
 |_,_=>none
theorem ziN {k:Int}(h:k.natAbs<2^4000):Builtin.Int.intBits k<=4000:=by
 unfold Builtin.Int.intBits
 split
 ·exact Nat.zero_le _
 ·have:k.natAbs.log2<4000:=by
   rcases Nat.eq_zero_or_pos k.natAbs with h0|hp
   ·rw[h0];decide
   ·exact(Nat.log2_lt (Nat.ne_of_gt hp)).mpr h
  lia
theorem mulOk_ok {i j:Int}(h:zjN i j=true):IntMulOk i j:=by
 unfold zjN at h
 simp only[Bool.or_eq_true,Bool.and_eq_true,decide_eq_true_eq]at h
 rcases h with(h|h)|⟨h1,h2⟩
 ·exact .of_left (intBits_le_64 (by lia) (by lia))
 ·exact .of_right (intBits_le_64 (by lia) (by lia))
 ·have b1:=ziN h1
  have b2:=ziN h2
  unfold IntMulOk
  intro z
  simp only[Bool.and_eq_true]at z
  have z2:=z.2
  unfold Builtin.Int.intTooBig at z2
  revert z2
  generalize Builtin.Int.intBits i=p at*
  generalize Builtin.Int.intBits j=q at*
  intro z2
  have z3:=of_decide_eq_true z2
  have hb:=bitsLine_eq
  lia
theorem op_mulG:OpR X (binaryOp .Mult) (rI IntMulOk fun i j=> .int (i*j)):=opI fun _ _ _ _ _ _ _ hc q=>mul_int q hc
theorem za9 {ma mb:ME}(ha:SE X a ma)(hb:SE X b mb):SE X (.BinOp a .Mult b pos) (m2 dMul ma mb):=by
 refine zmL (op_mulG.or op_rep) (fun B G H σ ρ x y a b d Q I ra rb hf k=>?_) ha hb
 cases a<;>cases b<;>simp only[dMul]at hf<;>try cases hf
 ·rename_i i j
  split at hf
  ·rename_i h
   cases hf
   exact .inl ⟨i,j,ra,rb,mulOk_ok h,k G H _ I (Fz.refl G) rfl⟩
  ·cases hf
 ·rename_i ds j
  split at hf
  ·rename_i h
   cases hf
   simp only[Bool.and_eq_true,decide_eq_true_eq]at h
   obtain⟨a,xs,rfl,ha,r⟩:=I.lst ra
   have hl:=r.length
   refine .inr ⟨a,j,xs,rfl,rb,ha,by lia,by lia,by rw[hl,sizeLine_eq];lia,fun p hp=>?_⟩
   obtain⟨I2,f2,r2⟩:=I.newL hp (r.rep j.toNat)
   exact k _ _ _ I2 f2 r2
  ·cases hf
noncomputable def dAdd:D->D->Option D
 | .int i,.int j=>some (.int (i+j))
 | .tup a,.tup b=>if a.length+b.length<=16777216 then some (.tup (a++b))else none
 | .lst a,.lst b=>if a.length+b.length<=16777216 then some (.lst (a++b))else none
 | .str a,.str b=>if a.length+b.length<=16777216 then some (.str (a++b))else none
 |_,_=>none
theorem op_catT0:OpR X (binaryOp .Add) (fun x y H Q=>∃a b ys,x= .ref a/\y= .ref b/\SqT X.K H a []/\SqT X.K H b ys/\Q (.ref b) H):=by
 intro pins s σ H x y v u Q I rx ry h
 obtain⟨a,b,ys,rfl,rfl,ha,hb,q⟩:=h
 cases rx
 cases ry
 obtain⟨its,r1,p1,_⟩:=I.tuple ha
 obtain⟨its2,r2,p2,_⟩:=I.tuple hb
 obtain rfl:its=[]:=by cases r1;rfl
 obtain⟨⟨cls,dd,data,sl⟩,ho,hc,n,hd⟩:=id p1
 obtain⟨⟨cls2,dd2,data2,sl2⟩,ho2,hc2,n2,hd2⟩:=id p2
 simp only at hc hd hc2 hd2
 subst hc hd hc2 hd2
 exact concat_meets ⟨_,ho,rfl⟩ ⟨_,ho2,rfl⟩ noFill_tuple_add seq_tuple_add PySem.F.slot_tuple_add PySem.F.entry_tuple_add (PySem.F.args_tuple_add_2 _ _)
   (tuple_addW0 a b _ _ n n2 dd dd2 sl sl2 (by simp)) ⟨ho,ho2,⟨.ref b,H,I,rfl,q⟩⟩
theorem zaD {ma mb:ME}(ha:SE X a ma)(hb:SE X b mb):SE X (.BinOp a .Add b pos) (m2 dAdd ma mb):=by
 refine zmL (op_add.or (op_catT.or (op_catT0.or (op_cat.or zmB)))) (fun B G H σ ρ x y a b d Q I ra rb hf k=>?_) ha hb
 cases a<;>cases b<;>simp only[dAdd]at hf<;>try cases hf
 ·exact .inl ⟨_,_,ra,rb,k G H _ I (Fz.refl G) rfl⟩
 ·rename_i i j
  split at hf
  ·rename_i h
   cases hf
   exact .inr (.inr (.inr (.inr ⟨i,j,ra,rb,by rw[sizeLine_eq];exact h,k G H _ I (Fz.refl G) rfl⟩)))
  ·cases hf
 ·rename_i as bs
  split at hf
  ·rename_i h
   cases hf
   obtain⟨a,xs,rfl,ha,r⟩:=I.lst ra
   obtain⟨b,ys,rfl,hb,r2⟩:=I.lst rb
   refine .inr (.inr (.inr (.inl ⟨a,b,xs,ys,rfl,rfl,ha,hb,by rw[r.length,r2.length,sizeLine_eq];exact h,fun p hp=>?_⟩)))
   obtain⟨I2,f2,r2⟩:=I.newL hp (r.append r2)
   exact k _ _ _ I2 f2 r2
  ·cases hf
 ·rename_i as bs
  split at hf
  ·rename_i h
   cases hf
   obtain⟨a,xs,rfl,ha,r⟩:=I.tup ra
   obtain⟨b,ys,rfl,hb,r2⟩:=I.tup rb
   by_cases z:xs=[]
   ·subst z
    have z':as=[]:=List.eq_nil_of_length_eq_zero r.length.symm
    subst z'
    exact .inr (.inr (.inl ⟨a,b,ys,rfl,rfl,SqT.of ha,SqT.of hb,k G H _ I (Fz.refl G) rb⟩))
   ·refine .inr (.inl ⟨a,b,xs,ys,rfl,rfl,SqT.of ha,SqT.of hb,z,by rw[r.length,r2.length,sizeLine_eq];exact h,fun w=>?_,fun w p hp=>?_⟩)
    ·subst w
     have w':bs=[]:=List.eq_nil_of_length_eq_zero r2.length.symm
     subst w'
     rw[List.append_nil]at k
     exact k G H _ I (Fz.refl G) ra
    ·obtain⟨I2,f2,r2⟩:=I.newT hp (r.append r2)
     exact k _ _ _ I2 f2 r2
  ·cases hf
mutual
noncomputable def noS:D->Bool
 | .scr _=>false
 | .exc _=>false
 | .dic _ _=>false
 | .dit _ _=>false
 | .lst ds=>noSL ds
 | .tup ds=>noSL ds
 |_=>true
noncomputable def noSL:List D->Bool
 |[]=>true
 |d::ds=>noS d&&noSL ds
end
mutual
noncomputable def eqB:D->D->Bool
 | .non,.non=>true
 | .bl a,.bl b=>a==b
 | .int a,.int b=>a==b
 | .str a,.str b=>a==b
 | .bl a,.int b=>(if a then 1 else 0)==b
 | .int a,.bl b=>a==(if b then 1 else 0)
 | .lst a,.lst b=>eqBL a b
 | .tup a,.tup b=>eqBL a b
 |_,_=>false
noncomputable def eqBL:List D->List D->Bool
 |[],[]=>true
 |a::as,b::bs=>eqB a b&&eqBL as bs
 |_,_=>false
end
theorem zgT:∀{as bs:List D},as.length≠bs.length->eqBL as bs=false
 |[],[],h=>absurd rfl h
 |[],_::_,_=>rfl
 |_::_,[],_=>rfl
 |a::as,b::bs,h=>by
  have:=zgT (as:=as) (bs:=bs) (fun e=>h (by simp[e]))
  simp[eqBL,this]
mutual
theorem zjS:∀d,noS d=true->eqB d d=true
 | .non,_=>rfl
 | .bl b,_=>by simp[eqB]
 | .int b,_=>by simp[eqB]
 | .str b,_=>by simp[eqB]
 | .lst ds,h=>by simp only[noS]at h;simp only[eqB];exact zio ds h
 | .tup ds,h=>by simp only[noS]at h;simp only[eqB];exact zio ds h
 | .scr _,h=>by simp[noS]at h
 | .exc _,h=>by simp[noS]at h
 |(.dic _ _),h=>by simp[noS]at h
 |(.dit _ _),h=>by simp[noS]at h
theorem zio:∀ds,noSL ds=true->eqBL ds ds=true
 |[],_=>rfl
 |d::ds,h=>by
  simp only[noSL,Bool.and_eq_true]at h
  simp only[eqBL,Bool.and_eq_true]
  exact⟨zjS d h.1,zio ds h.2⟩
end
mutual
noncomputable def depth:D->Nat
 | .lst ds=>zdP ds+1
 | .tup ds=>zdP ds+1
 |_=>0
noncomputable def zdP:List D->Nat
 |[]=>0
 |d::ds=>max (depth d) (zdP ds)
end
theorem zhd:∀{l:List D} {i:Nat} {d:D},l[i]? =some d->depth d<=zdP l
 |[],_,_,h=>by simp at h
 |c::l,0,d,h=>by simp at h;subst h;simp only[zdP];lia
 |c::l,i+1,d,h=>by
  have:=zhd (l:=l) (i:=i) (d:=d) (by simpa using h)
  simp only[zdP];lia
theorem zgF:∀{l:List D} {i:Nat} {d:D},l[i]? =some d->noSL l=true->noS d=true
 |[],_,_,h,_=>by simp at h
 |c::l,0,d,h,z=>by simp at h;subst h;simp only[noSL,Bool.and_eq_true]at z;exact z.1
 |c::l,i+1,d,h,z=>by simp only[noSL,Bool.and_eq_true]at z;exact zgF (l:=l) (i:=i) (by simpa using h) z.2
mutual
theorem RepD.inj:∀{a b:D} {x:V},noS a=true->noS b=true->RepD K G x a->RepD K G x b->a=b
 | .non,b,x,_,nb,ra,rb=>by
  cases(show x=V.non from ra)
  cases b<;>simp_all [RepD,noS]
 | .bl c,b,x,_,nb,ra,rb=>by
  cases(show x=V.bl c from ra)
  cases b<;>simp_all [RepD,noS]
 | .int c,b,x,_,nb,ra,rb=>by
  cases(show x=V.int c from ra)
  cases b<;>simp_all [RepD,noS]
 | .str c,b,x,_,nb,ra,rb=>by
  cases(show x=V.str c from ra)
  cases b<;>simp_all [RepD,noS]
 | .lst ds,b,x,na,nb,ra,rb=>by
  obtain⟨p,xs,rfl,q,r⟩:=ra
  cases b with
  |lst es=>
   obtain⟨p2,ys,e,q2,r2⟩:=rb
   cases e
   rw[q]at q2
   cases q2
   simp only[noS]at na nb
   rw[RepL.inj na nb r r2]
  |tup es=>
   obtain⟨p2,ys,e,q2,r2⟩:=rb
   cases e
   rw[q]at q2
   cases q2
  |scr _=>simp[noS]at nb
  |exc _=>simp[noS]at nb
  |dic _ _=>simp[noS]at nb
  |dit _ _=>simp[noS]at nb
  |non=>simp[RepD]at rb
  |bl _=>simp[RepD]at rb
  |int _=>simp[RepD]at rb
  |str _=>simp[RepD]at rb
 | .tup ds,b,x,na,nb,ra,rb=>by
  obtain⟨p,xs,rfl,q,r⟩:=ra
  cases b with
  |tup es=>
   obtain⟨p2,ys,e,q2,r2⟩:=rb
   cases e
   rw[q]at q2
   cases q2
   simp only[noS]at na nb
   rw[RepL.inj na nb r r2]
  |lst es=>
   obtain⟨p2,ys,e,q2,r2⟩:=rb
   cases e
   rw[q]at q2
   cases q2
  |scr _=>simp[noS]at nb
  |exc _=>simp[noS]at nb
  |dic _ _=>simp[noS]at nb
  |dit _ _=>simp[noS]at nb
  |non=>simp[RepD]at rb
  |bl _=>simp[RepD]at rb
  |int _=>simp[RepD]at rb
  |str _=>simp[RepD]at rb
 | .scr _,_,_,na,_,_,_=>by simp[noS]at na
 | .exc _,_,_,na,_,_,_=>by simp[noS]at na
 |(.dic _ _),_,_,na,_,_,_=>by simp[noS]at na
 |(.dit _ _),_,_,na,_,_,_=>by simp[noS]at na
theorem RepL.inj:∀{as bs:List D} {xs:List V},noSL as=true->noSL bs=true->RepL K G xs as->RepL K G xs bs->as=bs
 |[],[],_,_,_,_,_=>rfl
 |[],_::_,xs,_,_,e,h=>by
  obtain⟨_,_,e2,_⟩:=h
  cases(show xs=[]from e)
  cases e2
 |_::_,[],xs,_,_,h,e=>by
  obtain⟨_,_,e2,_⟩:=h
  cases(show xs=[]from e)
  cases e2
 |a::as,b::bs,xs,na,nb,h,h2=>by
  obtain⟨x,ys,e,q,r⟩:=h
  obtain⟨x2,ys2,e2,q2,r2⟩:=h2
  subst e
  cases e2
  simp only[noSL,Bool.and_eq_true]at na nb
  rw[RepD.inj na.1 nb.1 q q2,RepL.inj na.2 nb.2 r r2]
end
noncomputable def eqJ (ds es:List D)(j:Nat):Bool:=match ds[j]?,es[j]? with
 |some a,some b=>eqB a b
 |_,_=>false
theorem zd4:∀(as bs:List D),as.length=bs.length->(List.range as.length).all (eqJ as bs)=eqBL as bs
 |[],[],_=>by simp[eqBL]
 |a::as,b::bs,h=>by
  have ih:=zd4 as bs (by simpa using h)
  rw[List.length_cons,List.range_succ_eq_map,List.all_cons,List.all_map]
  simp only[eqBL,<-ih]
  congr 1
 |[],_::_,h=>by simp at h
 |_::_,[],h=>by simp at h
section
variable {X:Cx} {pins:List (Addr×Obj)} {σ:St} {H G:Hp} {s:Shared}
theorem zjf (r:Vals xs us)(h:RepL X.K G xs ds)(e:us[j]? =some u):∃x d,ds[j]? =some d/\RelV x u/\RepD X.K G x d:=by
 have hl:=r.length
 have hl2:=h.length
 have hj:j<us.length:=(List.getElem?_eq_some_iff.mp e).1
 have ej:ds[j]? =some ds[j]:=List.getElem?_eq_getElem (by lia)
 obtain⟨x,q1,q2⟩:=h.get ej
 obtain⟨u',h1,h2⟩:=r.get q1
 have:u'=u:=by rw[h1]at e;exact Option.some.inj e
 subst this
 exact⟨x,_,ej,h2,q2⟩
theorem eqAt_D (I:Inv X pins σ H s)(fz:Fz G H):∀(n:Nat) (A:Around) (a b:D) (x y:V) (u v:Value),depth a<=n->noS a=true->noS b=true->A.units+n+1<cLine->RepD X.K G x a->RepD X.K G y b->RelV x u->RelV y v->
  SeqAt.EqAt A s u v (eqB a b)/\SeqAt.RcAt A s u v (eqB a b):=by
 intro n
 induction n with
 |zero=>
  intro A a b x y u v hd na nb hu ra rb rx ry
  have hu':A.units<cLine:=by lia
  cases a with
  |non=>
   cases(show x=V.non from ra);cases(show u=Value.none from rx)
   cases b with
   |non=>cases(show y=V.non from rb);cases(show v=Value.none from ry);exact⟨.same _,.none_none⟩
   |bl c=>cases(show y=V.bl c from rb);cases(show v=Value.bool c from ry);exact⟨.none_bool _,.none_bool _⟩
   |int c=>cases(show y=V.int c from rb);obtain⟨t,rfl⟩:=ry;exact⟨.none_int _ _,.none_int _ _⟩
   |str c=>cases(show y=V.str c from rb);obtain⟨t,rfl⟩:=ry;exact⟨.none_str _ _,.none_str _ _⟩
   |lst ds=>
    obtain⟨p,xs,rfl,q,r⟩:=rb
    cases(show v=Value.ref p from ry)
    obtain⟨its,rv,pl,hz⟩:=I.list (SqL.of (fz _ _ q))
    exact⟨.none_list pl.isList hu',.none_list pl.isList hu'⟩
   |tup ds=>
    obtain⟨p,xs,rfl,q,r⟩:=rb
    cases(show v=Value.ref p from ry)
    obtain⟨its,rv,pl,hz⟩:=I.tuple (SqT.of (fz _ _ q))
    exact⟨.none_tuple pl hu',.none_tuple pl hu'⟩
   |scr _=>simp[noS]at nb
   |exc _=>simp[noS]at nb
   |dic _ _=>simp[noS]at nb
   |dit _ _=>simp[noS]at nb
  |bl c0=>
   cases(show x=V.bl c0 from ra);cases(show u=Value.bool c0 from rx)
   cases b with
   |non=>cases(show y=V.non from rb);cases(show v=Value.none from ry);exact⟨.bool_none _,.bool_none _⟩
   |bl c=>cases(show y=V.bl c from rb);cases(show v=Value.bool c from ry);exact⟨.bool_bool _ _,.bool_bool _ _⟩
   |int c=>cases(show y=V.int c from rb);obtain⟨t,rfl⟩:=ry;exact⟨.bool_int _ _ _,.bool_int _ _ _⟩
   |str c=>cases(show y=V.str c from rb);obtain⟨t,rfl⟩:=ry;exact⟨.bool_str _ _ _,.bool_str _ _ _⟩
   |lst ds=>
    obtain⟨p,xs,rfl,q,r⟩:=rb
    cases(show v=Value.ref p from ry)
    obtain⟨its,rv,pl,hz⟩:=I.list (SqL.of (fz _ _ q))
    exact⟨.bool_list _ pl.isList hu',.bool_list _ pl.isList hu'⟩
   |tup ds=>
    obtain⟨p,xs,rfl,q,r⟩:=rb
    cases(show v=Value.ref p from ry)
    obtain⟨its,rv,pl,hz⟩:=I.tuple (SqT.of (fz _ _ q))
    exact⟨.bool_tuple _ pl hu',.bool_tuple _ pl hu'⟩
   |scr _=>simp[noS]at nb
   |exc _=>simp[noS]at nb
   |dic _ _=>simp[noS]at nb
   |dit _ _=>simp[noS]at nb
  |int c0=>
   cases(show x=V.int c0 from ra);obtain⟨t0,rfl⟩:=rx
   cases b with
   |non=>cases(show y=V.non from rb);cases(show v=Value.none from ry);exact⟨.int_none _ _,.int_none _ _⟩
   |bl c=>cases(show y=V.bl c from rb);cases(show v=Value.bool c from ry);exact⟨.int_bool _ _ _,.int_bool _ _ _⟩
   |int c=>cases(show y=V.int c from rb);obtain⟨t,rfl⟩:=ry;exact⟨.int_int _ _ _ _,.int_int _ _ _ _⟩
   |str c=>cases(show y=V.str c from rb);obtain⟨t,rfl⟩:=ry;exact⟨.int_str _ _ _ _,.int_str _ _ _ _⟩
   |lst ds=>
    obtain⟨p,xs,rfl,q,r⟩:=rb
    cases(show v=Value.ref p from ry)
    obtain⟨its,rv,pl,hz⟩:=I.list (SqL.of (fz _ _ q))
    exact⟨.int_list _ _ pl.isList hu',.int_list _ _ pl.isList hu'⟩
   |tup ds=>
    obtain⟨p,xs,rfl,q,r⟩:=rb
    cases(show v=Value.ref p from ry)
    obtain⟨its,rv,pl,hz⟩:=I.tuple (SqT.of (fz _ _ q))
    exact⟨.int_tuple _ _ pl hu',.int_tuple _ _ pl hu'⟩
   |scr _=>simp[noS]at nb
   |exc _=>simp[noS]at nb
   |dic _ _=>simp[noS]at nb
   |dit _ _=>simp[noS]at nb
  |str c0=>
   cases(show x=V.str c0 from ra);obtain⟨t0,rfl⟩:=rx
   cases b with
   |non=>cases(show y=V.non from rb);cases(show v=Value.none from ry);exact⟨.str_none _ _,.str_none _ _⟩
   |bl c=>cases(show y=V.bl c from rb);cases(show v=Value.bool c from ry);exact⟨.str_bool _ _ _,.str_bool _ _ _⟩
   |int c=>cases(show y=V.int c from rb);obtain⟨t,rfl⟩:=ry;exact⟨.str_int _ _ _ _,.str_int _ _ _ _⟩
   |str c=>cases(show y=V.str c from rb);obtain⟨t,rfl⟩:=ry;exact⟨.str_str _ _ _ _,.str_str _ _ _ _⟩
   |lst ds=>
    obtain⟨p,xs,rfl,q,r⟩:=rb
    cases(show v=Value.ref p from ry)
    obtain⟨its,rv,pl,hz⟩:=I.list (SqL.of (fz _ _ q))
    exact⟨.str_list _ _ pl.isList hu',.str_list _ _ pl.isList hu'⟩
   |tup ds=>
    obtain⟨p,xs,rfl,q,r⟩:=rb
    cases(show v=Value.ref p from ry)
    obtain⟨its,rv,pl,hz⟩:=I.tuple (SqT.of (fz _ _ q))
    exact⟨.str_tuple _ _ pl hu',.str_tuple _ _ pl hu'⟩
   |scr _=>simp[noS]at nb
   |exc _=>simp[noS]at nb
   |dic _ _=>simp[noS]at nb
   |dit _ _=>simp[noS]at nb
  |lst ds=>simp[depth]at hd
  |tup ds=>simp[depth]at hd
  |scr _=>simp[noS]at na
  |exc _=>simp[noS]at na
  |dic _ _=>simp[noS]at na
  |dit _ _=>simp[noS]at na
 |succ n ih=>
  intro A a b x y u v hd na nb hu ra rb rx ry
  have hu':A.units<cLine:=by lia
  have items:∀(ds es:List D) (xs ys:List V) (its its2:List Value),zdP ds<=n->noSL ds=true->noSL es=true->RepL X.K G xs ds->RepL X.K G ys es->Vals xs its->Vals ys its2->
    ∀j (h1:j<its.toArray.size) (h2:j<its2.toArray.size),SeqAt.EqAt A.in1 s its.toArray[j] its2.toArray[j] (eqJ ds es j):=by
   intro ds es xs ys its its2 hd nd ne r r2 rv rv2 j h1 h2
   simp only[List.size_toArray]at h1 h2
   obtain⟨x1,d1,e1,k1,m1⟩:=zjf rv r (j:=j) (u:=its[j]) (List.getElem?_eq_getElem h1)
   obtain⟨x2,d2,e2,k2,m2⟩:=zjf rv2 r2 (j:=j) (u:=its2[j]) (List.getElem?_eq_getElem h2)
   have e:eqJ ds es j=eqB d1 d2:=by unfold eqJ;rw[e1,e2]
   rw[e]
   have:=zhd e1
   simpa using(ih A.in1 d1 d2 x1 x2 _ _ (by lia) (zgF e1 nd) (zgF e2 ne) (by show A.units+1+n+1<cLine;lia) m1 m2 k1 k2).1
  cases a with
  |scr _=>simp[noS]at na
  |exc _=>simp[noS]at na
  |dic _ _=>simp[noS]at na
  |dit _ _=>simp[noS]at na
  |non=>exact ih A .non b x y u v (Nat.zero_le _) na nb (by lia) ra rb rx ry
  |bl c=>exact ih A (.bl c) b x y u v (Nat.zero_le _) na nb (by lia) ra rb rx ry
  |int c=>exact ih A (.int c) b x y u v (Nat.zero_le _) na nb (by lia) ra rb rx ry
  |str c=>exact ih A (.str c) b x y u v (Nat.zero_le _) na nb (by lia) ra rb rx ry
  |lst ds=>
   have ra0:=ra
   obtain⟨p,xs,rfl,q,r⟩:=ra
   cases(show u=Value.ref p from rx)
   obtain⟨its,rv,pl,hz⟩:=I.list (SqL.of (fz _ _ q))
   cases b with
   |non=>cases(show y=V.non from rb);cases(show v=Value.none from ry);exact⟨.list_none pl.isList hu',.list_none pl.isList hu'⟩
   |bl c=>cases(show y=V.bl c from rb);cases(show v=Value.bool c from ry);exact⟨.list_bool _ pl.isList hu',.list_bool _ pl.isList hu'⟩
   |int c=>cases(show y=V.int c from rb);obtain⟨t,rfl⟩:=ry;exact⟨.list_int _ _ pl.isList hu',.list_int _ _ pl.isList hu'⟩
   |str c=>cases(show y=V.str c from rb);obtain⟨t,rfl⟩:=ry;exact⟨.list_str _ _ pl.isList hu',.list_str _ _ pl.isList hu'⟩
   |scr _=>simp[noS]at nb
   |exc _=>simp[noS]at nb
   |dic _ _=>simp[noS]at nb
   |dit _ _=>simp[noS]at nb
   |tup es=>
    obtain⟨p2,ys,rfl,q2,r2⟩:=rb
    cases(show v=Value.ref p2 from ry)
    obtain⟨its2,rv2,pl2,hz2⟩:=I.tuple (SqT.of (fz _ _ q2))
    exact⟨.list_tuple pl.isList pl2 hu',.list_tuple pl.isList pl2 hu'⟩
   |lst es=>
    have rb0:=rb
    obtain⟨p2,ys,rfl,q2,r2⟩:=rb
    cases(show v=Value.ref p2 from ry)
    obtain⟨its2,rv2,pl2,hz2⟩:=I.list (SqL.of (fz _ _ q2))
    simp only[depth]at hd
    have l1:=rv.length;have l2:=r.length;have l3:=rv2.length;have l4:=r2.length
    have rc:SeqAt.RcAt A s (.ref p) (.ref p2) (eqBL ds es):=by
     by_cases hl:ds.length=es.length
     ·have z:=SeqAt.RcAt.lists (A:=A) (s:=s) (e:=eqJ ds es) pl.isList pl2.isList (by simp only[List.size_toArray];lia) hu' (items ds es xs ys its its2 (by lia) (by simpa only[noS]using na) (by simpa only[noS]using nb) r r2 rv rv2)
      rw[List.size_toArray,<-l1,l2,zd4 ds es hl]at z
      exact z
     ·rw[zgT hl]
      refine .lists_lengths pl.isList pl2.isList ?_ hu'
      simp only[List.size_toArray,bne_iff_ne,ne_eq]
      lia
    refine⟨?_,by simp only[eqB];exact rc⟩
    by_cases hp:p=p2
    ·subst hp
     have e:=RepD.inj na nb ra0 rb0
     cases e
     rw[zjS _ na]
     exact .same _
    ·simp only[eqB]
     exact .of_refs hp rc
  |tup ds=>
   have ra0:=ra
   obtain⟨p,xs,rfl,q,r⟩:=ra
   cases(show u=Value.ref p from rx)
   obtain⟨its,rv,pl,hz⟩:=I.tuple (SqT.of (fz _ _ q))
   cases b with
   |non=>cases(show y=V.non from rb);cases(show v=Value.none from ry);exact⟨.tuple_none pl hu',.tuple_none pl hu'⟩
   |bl c=>cases(show y=V.bl c from rb);cases(show v=Value.bool c from ry);exact⟨.tuple_bool _ pl hu',.tuple_bool _ pl hu'⟩
   |int c=>cases(show y=V.int c from rb);obtain⟨t,rfl⟩:=ry;exact⟨.tuple_int _ _ pl hu',.tuple_int _ _ pl hu'⟩
   |str c=>cases(show y=V.str c from rb);obtain⟨t,rfl⟩:=ry;exact⟨.tuple_str _ _ pl hu',.tuple_str _ _ pl hu'⟩
   |scr _=>simp[noS]at nb
   |exc _=>simp[noS]at nb
   |dic _ _=>simp[noS]at nb
   |dit _ _=>simp[noS]at nb
   |lst es=>
    obtain⟨p2,ys,rfl,q2,r2⟩:=rb
    cases(show v=Value.ref p2 from ry)
    obtain⟨its2,rv2,pl2,hz2⟩:=I.list (SqL.of (fz _ _ q2))
    exact⟨.tuple_list pl pl2.isList hu',.tuple_list pl pl2.isList hu'⟩
   |tup es=>
    have rb0:=rb
    obtain⟨p2,ys,rfl,q2,r2⟩:=rb
    cases(show v=Value.ref p2 from ry)
    obtain⟨its2,rv2,pl2,hz2⟩:=I.tuple (SqT.of (fz _ _ q2))
    simp only[depth]at hd
    have l1:=rv.length;have l2:=r.length;have l3:=rv2.length;have l4:=r2.length
    have rc:SeqAt.RcAt A s (.ref p) (.ref p2) (eqBL ds es):=by
     have z:=SeqAt.RcAt.tuples (A:=A) (s:=s) (e:=eqJ ds es) pl pl2 hu' (items ds es xs ys its its2 (by lia) (by simpa only[noS]using na) (by simpa only[noS]using nb) r r2 rv rv2)
     simp only[List.size_toArray]at z
     by_cases hl:ds.length=es.length
     ·have e1:min its.length its2.length=ds.length:=by lia
      have e2:(its.length==its2.length)=true:=by simp;lia
      rw[e1,e2,Bool.and_true,zd4 ds es hl]at z
      exact z
     ·have e2:(its.length==its2.length)=false:=by simp;lia
      rw[e2,Bool.and_false]at z
      rw[zgT hl]
      exact z
    refine⟨?_,by simp only[eqB];exact rc⟩
    by_cases hp:p=p2
    ·subst hp
     have e:=RepD.inj na nb ra0 rb0
     cases e
     rw[zjS _ na]
     exact .same _
    ·simp only[eqB]
     exact .of_refs hp rc
end
noncomputable def dEq (a b:D):Option D:=if noS a&&noS b&&decide (depth a<=50)then some (.bl (eqB a b))else none
noncomputable def dNe (a b:D):Option D:=if noS a&&noS b&&decide (depth a<=50)then some (.bl (!eqB a b))else none
noncomputable def rEqD (K:W.Frag)(c:Bool->Bool):R2:=fun x y H Q=>∃G a b,Fz G H/\RepD K G x a/\RepD K G y b/\noS a=true/\noS b=true/\depth a<=50/\Q (.bl (c (eqB a b))) H
theorem op_eqD (hu:X.A.units+64<cLine):OpR X (compareOp .Eq) (rEqD X.K id):=by
 intro pins s σ H x y v u Q I rx ry h
 obtain⟨G,a,b,fz,ra,rb,na,nb,hd,q⟩:=h
 exact(eqAt_D I fz 50 X.A a b x y v u hd na nb (by lia) ra rb rx ry).2 _ _ _ _ ⟨.bl _,H,I,rfl,q⟩
theorem se_eq {ma mb:ME}(hu:X.A.units+64<cLine)(ha:SE X a ma)(hb:SE X b mb):SE X (.Compare a [.Eq] [b] pos) (m2 dEq ma mb):=by
 refine zoa (op_eqD hu) (fun B G H σ ρ x y a b d Q I ra rb hf k=>?_) ha hb (zgU _)
 unfold dEq at hf
 split at hf
 ·rename_i h
  simp only[Bool.and_eq_true,decide_eq_true_eq]at h
  cases hf
  exact⟨G,a,b,I.fz,ra,rb,h.1.1,h.1.2,h.2,k G H _ I (Fz.refl G) rfl⟩
 ·cases hf
section
variable {X:Cx} {pins:List (Addr×Obj)} {σ:St} {H G:Hp} {s:Shared}
theorem neAt_D (I:Inv X pins σ H s)(fz:Fz G H)(A:Around)(a b:D)(x y:V)(u v:Value)(hd:depth a<=50)(na:noS a=true)(nb:noS b=true)(hu:A.units+64<cLine)(ra:RepD X.K G x a)(rb:RepD X.K G y b)(rx:RelV x u)(ry:RelV y v):
  SeqAt.RcNeAt A s u v (!eqB a b):=by
 have hu':A.units<cLine:=by lia
 have items:∀(ds es:List D) (xs ys:List V) (its its2:List Value),zdP ds<=49->noSL ds=true->noSL es=true->RepL X.K G xs ds->RepL X.K G ys es->Vals xs its->Vals ys its2->
   ∀j (h1:j<its.toArray.size) (h2:j<its2.toArray.size),SeqAt.EqAt A.in1 s its.toArray[j] its2.toArray[j] (eqJ ds es j):=by
  intro ds es xs ys its its2 hd nd ne r r2 rv rv2 j h1 h2
  simp only[List.size_toArray]at h1 h2
  obtain⟨x1,d1,e1,k1,m1⟩:=zjf rv r (j:=j) (u:=its[j]) (List.getElem?_eq_getElem h1)
  obtain⟨x2,d2,e2,k2,m2⟩:=zjf rv2 r2 (j:=j) (u:=its2[j]) (List.getElem?_eq_getElem h2)
  have e:eqJ ds es j=eqB d1 d2:=by unfold eqJ;rw[e1,e2]
  rw[e]
  have:=zhd e1
  simpa using(eqAt_D I fz 49 A.in1 d1 d2 x1 x2 _ _ (by lia) (zgF e1 nd) (zgF e2 ne) (by show A.units+1+49+1<cLine;lia) m1 m2 k1 k2).1
 cases a with
 |scr _=>simp[noS]at na
 |exc _=>simp[noS]at na
 |dic _ _=>simp[noS]at na
 |dit _ _=>simp[noS]at na
 |non=>
  cases(show x=V.non from ra);cases(show u=Value.none from rx)
  cases b with
  |non=>cases(show y=V.non from rb);cases(show v=Value.none from ry);exact .none_none
  |bl c=>cases(show y=V.bl c from rb);cases(show v=Value.bool c from ry);exact .none_bool _
  |int c=>cases(show y=V.int c from rb);obtain⟨t,rfl⟩:=ry;exact .none_int _ _
  |str c=>cases(show y=V.str c from rb);obtain⟨t,rfl⟩:=ry;exact .none_str _ _
  |lst ds=>
   obtain⟨p,xs,rfl,q,r⟩:=rb
   cases(show v=Value.ref p from ry)
   obtain⟨its,rv,pl,hz⟩:=I.list (SqL.of (fz _ _ q))
   exact .none_list pl.isList hu'
  |tup ds=>
   obtain⟨p,xs,rfl,q,r⟩:=rb
   cases(show v=Value.ref p from ry)
   obtain⟨its,rv,pl,hz⟩:=I.tuple (SqT.of (fz _ _ q))
   exact .none_tuple pl hu'
  |scr _=>simp[noS]at nb
  |exc _=>simp[noS]at nb
  |dic _ _=>simp[noS]at nb
  |dit _ _=>simp[noS]at nb
 |bl c0=>
  cases(show x=V.bl c0 from ra);cases(show u=Value.bool c0 from rx)
  cases b with
  |non=>cases(show y=V.non from rb);cases(show v=Value.none from ry);exact .bool_none _
  |bl c=>cases(show y=V.bl c from rb);cases(show v=Value.bool c from ry);exact .bool_bool _ _
  |int c=>cases(show y=V.int c from rb);obtain⟨t,rfl⟩:=ry;exact .bool_int _ _ _
  |str c=>cases(show y=V.str c from rb);obtain⟨t,rfl⟩:=ry;exact .bool_str _ _ _
  |lst ds=>
   obtain⟨p,xs,rfl,q,r⟩:=rb
   cases(show v=Value.ref p from ry)
   obtain⟨its,rv,pl,hz⟩:=I.list (SqL.of (fz _ _ q))
   exact .bool_list _ pl.isList hu'
  |tup ds=>
   obtain⟨p,xs,rfl,q,r⟩:=rb
   cases(show v=Value.ref p from ry)
   obtain⟨its,rv,pl,hz⟩:=I.tuple (SqT.of (fz _ _ q))
   exact .bool_tuple _ pl hu'
  |scr _=>simp[noS]at nb
  |exc _=>simp[noS]at nb
  |dic _ _=>simp[noS]at nb
  |dit _ _=>simp[noS]at nb
 |int c0=>
  cases(show x=V.int c0 from ra);obtain⟨t0,rfl⟩:=rx
  cases b with
  |non=>cases(show y=V.non from rb);cases(show v=Value.none from ry);exact .int_none _ _
  |bl c=>cases(show y=V.bl c from rb);cases(show v=Value.bool c from ry);exact .int_bool _ _ _
  |int c=>cases(show y=V.int c from rb);obtain⟨t,rfl⟩:=ry;exact .int_int _ _ _ _
  |str c=>cases(show y=V.str c from rb);obtain⟨t,rfl⟩:=ry;exact .int_str _ _ _ _
  |lst ds=>
   obtain⟨p,xs,rfl,q,r⟩:=rb
   cases(show v=Value.ref p from ry)
   obtain⟨its,rv,pl,hz⟩:=I.list (SqL.of (fz _ _ q))
   exact .int_list _ _ pl.isList hu'
  |tup ds=>
   obtain⟨p,xs,rfl,q,r⟩:=rb
   cases(show v=Value.ref p from ry)
   obtain⟨its,rv,pl,hz⟩:=I.tuple (SqT.of (fz _ _ q))
   exact .int_tuple _ _ pl hu'
  |scr _=>simp[noS]at nb
  |exc _=>simp[noS]at nb
  |dic _ _=>simp[noS]at nb
  |dit _ _=>simp[noS]at nb
 |str c0=>
  cases(show x=V.str c0 from ra);obtain⟨t0,rfl⟩:=rx
  cases b with
  |non=>cases(show y=V.non from rb);cases(show v=Value.none from ry);exact .str_none _ _
  |bl c=>cases(show y=V.bl c from rb);cases(show v=Value.bool c from ry);exact .str_bool _ _ _
  |int c=>cases(show y=V.int c from rb);obtain⟨t,rfl⟩:=ry;exact .str_int _ _ _ _
  |str c=>cases(show y=V.str c from rb);obtain⟨t,rfl⟩:=ry;exact .str_str _ _ _ _
  |lst ds=>
   obtain⟨p,xs,rfl,q,r⟩:=rb
   cases(show v=Value.ref p from ry)
   obtain⟨its,rv,pl,hz⟩:=I.list (SqL.of (fz _ _ q))
   exact .str_list _ _ pl.isList hu'
  |tup ds=>
   obtain⟨p,xs,rfl,q,r⟩:=rb
   cases(show v=Value.ref p from ry)
   obtain⟨its,rv,pl,hz⟩:=I.tuple (SqT.of (fz _ _ q))
   exact .str_tuple _ _ pl hu'
  |scr _=>simp[noS]at nb
  |exc _=>simp[noS]at nb
  |dic _ _=>simp[noS]at nb
  |dit _ _=>simp[noS]at nb
 |lst ds=>
  obtain⟨p,xs,rfl,q,r⟩:=ra
  cases(show u=Value.ref p from rx)
  obtain⟨its,rv,pl,hz⟩:=I.list (SqL.of (fz _ _ q))
  cases b with
  |non=>cases(show y=V.non from rb);cases(show v=Value.none from ry);exact .list_none pl.isList hu'
  |bl c=>cases(show y=V.bl c from rb);cases(show v=Value.bool c from ry);exact .list_bool _ pl.isList hu'
  |int c=>cases(show y=V.int c from rb);obtain⟨t,rfl⟩:=ry;exact .list_int _ _ pl.isList hu'
  |str c=>cases(show y=V.str c from rb);obtain⟨t,rfl⟩:=ry;exact .list_str _ _ pl.isList hu'
  |scr _=>simp[noS]at nb
  |exc _=>simp[noS]at nb
  |dic _ _=>simp[noS]at nb
  |dit _ _=>simp[noS]at nb
  |tup es=>
   obtain⟨p2,ys,rfl,q2,r2⟩:=rb
   cases(show v=Value.ref p2 from ry)
   obtain⟨its2,rv2,pl2,hz2⟩:=I.tuple (SqT.of (fz _ _ q2))
   exact .list_tuple pl.isList pl2 hu'
  |lst es=>
   obtain⟨p2,ys,rfl,q2,r2⟩:=rb
   cases(show v=Value.ref p2 from ry)
   obtain⟨its2,rv2,pl2,hz2⟩:=I.list (SqL.of (fz _ _ q2))
   simp only[depth]at hd
   have l1:=rv.length;have l2:=r.length;have l3:=rv2.length;have l4:=r2.length
   simp only[eqB]
   by_cases hl:ds.length=es.length
   ·have z:=SeqAt.RcNeAt.lists (A:=A) (s:=s) (e:=eqJ ds es) pl.isList pl2.isList (by simp only[List.size_toArray];lia) hu' (items ds es xs ys its its2 (by lia) (by simpa only[noS]using na) (by simpa only[noS]using nb) r r2 rv rv2)
    rw[List.size_toArray,<-l1,l2,zd4 ds es hl]at z
    exact z
   ·rw[zgT hl]
    refine .lists_lengths pl.isList pl2.isList ?_ hu'
    simp only[List.size_toArray,bne_iff_ne,ne_eq]
    lia
 |tup ds=>
  obtain⟨p,xs,rfl,q,r⟩:=ra
  cases(show u=Value.ref p from rx)
  obtain⟨its,rv,pl,hz⟩:=I.tuple (SqT.of (fz _ _ q))
  cases b with
  |non=>cases(show y=V.non from rb);cases(show v=Value.none from ry);exact .tuple_none pl hu'
  |bl c=>cases(show y=V.bl c from rb);cases(show v=Value.bool c from ry);exact .tuple_bool _ pl hu'
  |int c=>cases(show y=V.int c from rb);obtain⟨t,rfl⟩:=ry;exact .tuple_int _ _ pl hu'
  |str c=>cases(show y=V.str c from rb);obtain⟨t,rfl⟩:=ry;exact .tuple_str _ _ pl hu'
  |scr _=>simp[noS]at nb
  |exc _=>simp[noS]at nb
  |dic _ _=>simp[noS]at nb
  |dit _ _=>simp[noS]at nb
  |lst es=>
   obtain⟨p2,ys,rfl,q2,r2⟩:=rb
   cases(show v=Value.ref p2 from ry)
   obtain⟨its2,rv2,pl2,hz2⟩:=I.list (SqL.of (fz _ _ q2))
   exact .tuple_list pl pl2.isList hu'
  |tup es=>
   obtain⟨p2,ys,rfl,q2,r2⟩:=rb
   cases(show v=Value.ref p2 from ry)
   obtain⟨its2,rv2,pl2,hz2⟩:=I.tuple (SqT.of (fz _ _ q2))
   simp only[depth]at hd
   have l1:=rv.length;have l2:=r.length;have l3:=rv2.length;have l4:=r2.length
   have z:=SeqAt.RcNeAt.tuples (A:=A) (s:=s) (e:=eqJ ds es) pl pl2 hu' (items ds es xs ys its its2 (by lia) (by simpa only[noS]using na) (by simpa only[noS]using nb) r r2 rv rv2)
   simp only[List.size_toArray]at z
   simp only[eqB]
   by_cases hl:ds.length=es.length
   ·have e1:min its.length its2.length=ds.length:=by lia
    have e2:(its.length==its2.length)=true:=by simp;lia
    rw[e1,e2,Bool.and_true,zd4 ds es hl]at z
    exact z
   ·have e2:(its.length==its2.length)=false:=by simp;lia
    rw[e2,Bool.and_false]at z
    rw[zgT hl]
    exact z
end
theorem op_neD (hu:X.A.units+64<cLine):OpR X (compareOp .NotEq) (rEqD X.K not):=by
 intro pins s σ H x y v u Q I rx ry h
 obtain⟨G,a,b,fz,ra,rb,na,nb,hd,q⟩:=h
 exact neAt_D I fz X.A a b x y v u hd na nb hu ra rb rx ry _ _ _ _ ⟨.bl _,H,I,rfl,q⟩
theorem v2_ne:V2 X (rEqD X.K not) dNe:=by
 intro B G H σ ρ x y a b d Q I ra rb hf k
 unfold dNe at hf
 split at hf
 ·rename_i h
  simp only[Bool.and_eq_true,decide_eq_true_eq]at h
  cases hf
  exact⟨G,a,b,I.fz,ra,rb,h.1.1,h.1.2,h.2,k G H _ I (Fz.refl G) rfl⟩
 ·cases hf
theorem v2_eq:V2 X (rEqD X.K id) dEq:=by
 intro B G H σ ρ x y a b d Q I ra rb hf k
 unfold dEq at hf
 split at hf
 ·rename_i h
  simp only[Bool.and_eq_true,decide_eq_true_eq]at h
  cases hf
  exact⟨G,a,b,I.fz,ra,rb,h.1.1,h.1.2,h.2,k G H _ I (Fz.refl G) rfl⟩
 ·cases hf
theorem se_ne {ma mb:ME}(hu:X.A.units+64<cLine)(ha:SE X a ma)(hb:SE X b mb):SE X (.Compare a [.NotEq] [b] pos) (m2 dNe ma mb):=
 zoa (op_neD hu) v2_ne ha hb (zgU _)
noncomputable def dIx:D->D->Option D
 | .lst ds,.int i=>atI ds i
 | .tup ds,.int i=>atI ds i
 | .scr ns,.int i=>(atI ns i).map .int
 |_,_=>none
theorem atI_map {α β:Type}(f:α->β){xs:List α}{i:Int}{v:α}(h:atI xs i=some v):atI (xs.map f) i=some (f v):=by
 unfold atI at h ⊢
 rw[List.length_map]
 cases q:ixN xs.length i with
 |none=>rw[q]at h;cases h
 |some j=>
  rw[q]at h
  show(xs.map f)[j]? =_
  rw[List.getElem?_map,show xs[j]? =some v from h]
  rfl
noncomputable def ReadD (K:W.Frag)(G H:Hp)(v:V):D->Prop
 | .lst ds=>∃a xs,v= .ref a/\H a=some (.lst xs)/\RepL K G xs ds
 |d=>RepD K G v d
theorem ReadD.of (fz:Fz G H)(h:RepD K G v d):ReadD K G H v d:=by
 cases d with
 |lst ds=>obtain⟨a,xs,e,q,r⟩:=h;exact⟨a,xs,e,fz a _ q,r⟩
 |_=>exact h
noncomputable def Sl.read:Sl->Option D
 | .emp=>none
 | .two _ _=>none
 | .tre _=>none
 | .ptr _=>none
 | .val d=>some d
 | .own ds=>some (.lst ds)
 | .par ds=>some (.lst ds)
noncomputable def hasV (ρ:R)(j:Nat):Bool:=match ρ[j]? with
 |some (.val _)=>true
 |some (.own _)=>true
 |some (.par _)=>true
 |_=>false
theorem SI.has (I:SI K B G H σ ρ)(h:hasV ρ j=true):∃v,σ[j]? =some (some v):=by
 unfold hasV at h
 cases e:ρ[j]? with
 |none=>rw[e]at h;cases h
 |some s=>
  rw[e]at h
  have q:=I.slot j s e
  cases s with
  |emp=>cases h
  |two _ _=>cases h
  |tre _=>cases h
  |ptr _=>cases h
  |val d=>obtain⟨v,e,_⟩:=q;exact⟨v,e⟩
  |own d=>obtain⟨l,_,e,_⟩:=q;exact⟨_,e⟩
  |par d=>obtain⟨l,_,e,_⟩:=q;exact⟨_,e⟩
theorem SI.read (I:SI K B G H σ ρ)(hv:σ[j]? =some (some v))(e:ρ[j]? =some s)(q:s.read=some d):ReadD K G H v d:=by
 have h:=I.slot j s e
 cases s with
 |emp=>cases q
 |two _ _=>cases q
 |tre _=>cases q
 |ptr _=>cases q
 |val d'=>
  cases q
  obtain⟨w,e1,r⟩:=h
  rw[hv]at e1;cases e1
  exact .of I.fz r
 |own ds=>
  cases q
  obtain⟨l,xs,e1,_,h3,h4,_⟩:=h
  rw[hv]at e1;cases e1
  exact⟨l,xs,rfl,h3,h4⟩
 |par ds=>
  cases q
  obtain⟨l,xs,e1,_,h3,h4,_⟩:=h
  rw[hv]at e1;cases e1
  exact⟨l,xs,rfl,h3,h4⟩
theorem znJ {x y:V}{a b d:D}{Q:VK}(I:SI K B G H σ ρ)(ra:ReadD K G H x a)(rb:RepD K G y b)(hf:dIx a b=some d)(k:∀v,RepD K G v d->Q v H):rIx K x y H Q:=by
 cases a<;>cases b<;>simp only[dIx]at hf<;>try cases hf
 ·rename_i ds i
  obtain⟨p,xs,rfl,hp,r⟩:=ra
  obtain⟨v,e,q⟩:=r.at hf
  exact .inl ⟨p,xs,i,v,rfl,rb,SqL.of hp,e,k _ q⟩
 ·rename_i ds i
  obtain⟨p,xs,rfl,hp,r⟩:=I.tup ra
  obtain⟨v,e,q⟩:=r.at hf
  exact .inr (.inl ⟨p,xs,i,v,rfl,rb,SqT.of hp,e,k _ q⟩)
 ·rename_i ns i
  obtain⟨p,rfl,hp⟩:=ra
  cases e:atI ns i with
  |none=>rw[e]at hf;cases hf
  |some n=>
   rw[e]at hf
   cases hf
   exact .inl ⟨p,_,i,.int n,rfl,rb,I.fz.sql hp,atI_map V.int e,k _ rfl⟩
theorem v2_ix:V2 X (rIx X.K) dIx:=fun B G H σ ρ x y a b d Q I ra rb hf k=>znJ I (.of I.fz ra) rb hf fun v q=>k G H v I (Fz.refl G) q
theorem zaZ {ma mb:ME}(ha:SE X a ma)(hb:SE X b mb)(hs:autoParam (zdH b) zu7._auto_1):SE X (.Subscript a b pos) (m2 dIx ma mb):=se_ix ix_seq v2_ix ha hb hs
noncomputable def eIxV (j:Nat)(mi:ME):ME:=fun ρ=>if hasV ρ j then(mi ρ).bind fun p=>(p.2[j]?.bind Sl.read).bind fun d=>(dIx d p.1).map fun e=>(e,p.2)else none
theorem zai (j:Nat)(hb:SE X b mb)(hN:autoParam (X.N[j]? =some x) zu2._auto_1)(hv:autoParam (Vis X.env.scope x) zu6._auto_1)(hd:autoParam ((x==("__debug__":Str))=false) zu1._auto_1)
    (hcd:autoParam ((x==("__classdict__":Str))=false) zu1._auto_1) (hs:autoParam (zdH b) zu7._auto_1):SE X (.Subscript (.Name x pos') b pos) (eIxV j mb):=by
  obtain⟨tb,pb,sb⟩:=hb
  refine⟨_,zj8 ix_seq (za6 hN hv hd hcd) pb hs,fun B G H σ ρ d ρ' Q I hm k=>?_⟩
  unfold eIxV at hm
  split at hm
  . rename_i hh
    obtain⟨v,ev⟩:=I.has hh
    cases e1:mb ρ with
    |none=>rw[e1]at hm;cases hm
    |some q=>
      obtain⟨i,ρ1⟩:=q
      rw[e1]at hm
      simp only[Option.bind_some]at hm
      cases e2:ρ1[j]? with
      |none=>rw[e2]at hm;cases hm
      |some s=>
        rw[e2]at hm
        simp only[Option.bind_some]at hm
        cases e3:s.read with
        |none=>rw[e3]at hm;cases hm
        |some a=>
          rw[e3]at hm
          simp only[Option.bind_some]at hm
          cases e4:dIx a i with
          |none=>rw[e4]at hm;cases hm
          |some c=>
            rw[e4]at hm
            cases hm
            exact⟨v,ev,sb B G H σ ρ i ρ' _ I e1 fun G1 H1 y I1 f1 r1=>znJ I1 (I1.read ev e2 e3) r1 e4 fun w q=>k G1 H1 w I1 f1 q⟩
  . cases hm
noncomputable def dLen:List D->Option D
 |[.lst ds]=>some (.int ds.length)
 |[.tup ds]=>some (.int ds.length)
 |[.scr ns]=>some (.int ns.length)
 |_=>none
theorem zl4 {x:V}{a d:D}{Q:VK}(I:SI K B G H σ ρ)(ra:ReadD K G H x a)(hf:dLen [a]=some d)(k:∀v,RepD K G v d->Q v H):
  ∃p ys,[x]=[V.ref p]/\(SqL K H p ys\/SqT K H p ys)/\Q (.int ys.length) H:=by
 cases a<;>simp only[dLen]at hf<;>try cases hf
 ·obtain⟨p,xs,rfl,hp,r⟩:=ra
  exact⟨p,xs,rfl,.inl (SqL.of hp),by rw[r.length];exact k _ rfl⟩
 ·obtain⟨p,xs,rfl,hp,r⟩:=I.tup ra
  exact⟨p,xs,rfl,.inr (SqT.of hp),by rw[r.length];exact k _ rfl⟩
 ·obtain⟨p,rfl,hp⟩:=ra
  exact⟨p,_,rfl,.inl (I.fz.sql hp),by rw[List.length_map];exact k _ rfl⟩
theorem RepL.one (h:RepL K G xs [d]):∃x,xs=[x]/\RepD K G x d:=by
 obtain⟨x,ys,e,q,r⟩:=h
 cases(show ys=[]from r)
 exact⟨x,e,q⟩
theorem RepL.two {a b:D}(h:RepL K G xs [a,b]):∃x y,xs=[x,y]/\RepD K G x a/\RepD K G y b:=by
 obtain⟨x,ys,e,q,r⟩:=h
 obtain⟨y,e2,q2⟩:=r.one
 subst e2
 exact⟨x,y,e,q,q2⟩
theorem dLen_one (h:dLen ds=some d):∃a,ds=[a]:=by
 match ds,h with
 |[a],_=>exact⟨a,rfl⟩
 |[],h=>cases h
 |_::_::_,h=>simp[dLen]at h
theorem vc_len:VC X (fun xs H Q=>∃p ys,xs=[.ref p]/\(SqL X.K H p ys\/SqT X.K H p ys)/\Q (.int ys.length) H) dLen:=by
 intro B G H σ ρ xs ds d Q I r hf k
 obtain⟨a,rfl⟩:=dLen_one hf
 obtain⟨x,rfl,ra⟩:=r.one
 exact zl4 I (.of I.fz ra) hf fun v q=>k G H v I (Fz.refl G) q
theorem zfr {p pos:Pos}(ml:X.mg "len"=none)(ha:SA X [e] ma)(hg:autoParam (Gl X "len") zu2._auto_1)(he:autoParam (starEach [e] X.env=(false,eval e X.env)::starEach [] X.env) zu2._auto_1):SE X (.Call (.Name "len" p) [e] [] pos) (mC dLen ma):=
 zfW zdu vc_len PySem.boot_len ml ha hg (by decide) (by decide) he rfl
noncomputable def zdm (j:Nat):ME:=fun ρ=>(ρ[j]?.bind Sl.read).bind fun d=>(dLen [d]).map fun e=>(e,ρ)
theorem zbm {p pos pos':Pos}(j:Nat)(ml:X.mg "len"=none)(hN:autoParam (X.N[j]? =some x) zu2._auto_1)(hv:autoParam (Vis X.env.scope x) zu6._auto_1)(hd:autoParam ((x==("__debug__":Str))=false) zu1._auto_1)
  (hcd:autoParam ((x==("__classdict__":Str))=false) zu1._auto_1) (hg:autoParam (Gl X "len") zu2._auto_1) (he:autoParam (starEach [.Name x pos'] X.env=(false,eval (.Name x pos') X.env)::starEach [] X.env) zu2._auto_1):SE X (.Call (.Name "len" p) [.Name x pos'] [] pos) (zdm j):=by
 refine⟨_,zgL zdu hg ml PySem.boot_len (zcn (za6 hN hv hd hcd) zf4 he) (by decide) (by decide) he rfl,fun B G H σ ρ d ρ' Q I hm k=>?_⟩
 unfold zdm at hm
 cases e2:ρ[j]? with
 |none=>rw[e2]at hm;cases hm
 |some s=>
  rw[e2]at hm
  simp only[Option.bind_some]at hm
  cases e3:s.read with
  |none=>rw[e3]at hm;cases hm
  |some a=>
   rw[e3]at hm
   simp only[Option.bind_some]at hm
   cases e4:dLen [a]with
   |none=>rw[e4]at hm;cases hm
   |some c=>
    rw[e4]at hm
    cases hm
    have hh:hasV ρ j=true:=by
     unfold hasV
     rw[e2]
     cases s<;>first|rfl|cases e3
    obtain⟨v,ev⟩:=I.has hh
    exact⟨v,ev,zl4 I (I.read ev e2 e3) e4 fun w q=>k G H w I (Fz.refl G) q⟩
noncomputable def zch:List D->Option D
 |[.lst ds]=>some (.tup ds)
 |[.tup ds]=>some (.tup ds)
 |[.scr ns]=>some (.tup (ns.map .int))
 |_=>none
theorem vc_tuple:VC X (fun xs H Q=>∃p ys,xs=[.ref p]/\((SqL X.K H p ys/\∀l,H l=none->Q (.ref l) (upd H l (.tup ys)))\/(SqT X.K H p ys/\Q (.ref p) H))) zch:=by
 intro B G H σ ρ xs ds d Q I r hf k
 match ds,hf with
 |[a],hf=>
  obtain⟨x,rfl,ra⟩:=r.one
  cases a<;>simp only[zch]at hf<;>try cases hf
  ·obtain⟨p,ys,rfl,hp,q⟩:=I.lst ra
   refine⟨p,ys,rfl,.inl ⟨SqL.of hp,fun l hl=>?_⟩⟩
   obtain⟨I2,f2,r2⟩:=I.newT hl q
   exact k _ _ _ I2 f2 r2
  ·obtain⟨p,ys,e,hp,q⟩:=I.tup ra
   subst e
   exact⟨p,ys,rfl,.inr ⟨SqT.of hp,k G H _ I (Fz.refl G) ra⟩⟩
  ·obtain⟨p,rfl,hp⟩:=ra
   refine⟨p,_,rfl,.inl ⟨I.fz.sql hp,fun l hl=>?_⟩⟩
   obtain⟨I2,f2,r2⟩:=I.newT hl (RepL.ints _)
   exact k _ _ _ I2 f2 r2
 |[],hf=>cases hf
 |_::_::_,hf=>simp[zch]at hf
theorem zb3 {p pos:Pos}(ml:X.mg "tuple"=none)(ha:SA X [e] ma)(hg:autoParam (Gl X "tuple") zu2._auto_1)(he:autoParam (starEach [e] X.env=(false,eval e X.env)::starEach [] X.env) zu2._auto_1)(hb:autoParam (bootBuiltins "tuple"=some (.type "tuple")) zu8._auto_1):
  SE X (.Call (.Name "tuple" p) [e] [] pos) (mC zch ma):=
 zoj zjF vc_tuple hb ml ha hg (by decide) (by decide) he rfl
noncomputable def zaL:List D->Option (List D)
 |[.lst ds]=>some ds
 |[.tup ds]=>some ds
 |[.scr ns]=>some (ns.map .int)
 |_=>none
noncomputable def oC (f:List D->Option (List D))(ma:MA):MO:=fun ρ=>(ma ρ).bind fun p=>(f p.1).map fun d=>(d,p.2)
theorem oC_inv {f:List D->Option (List D)}{d:List D}(h:oC f ma ρ=some (d,ρ')):∃a,ma ρ=some (a,ρ')/\f a=some d:=by
 unfold oC at h
 cases e1:ma ρ with
 |none=>rw[e1]at h;cases h
 |some p=>
  obtain⟨a,ρ1⟩:=p
  rw[e1]at h
  simp only[Option.bind_some]at h
  cases e3:f a with
  |none=>rw[e3]at h;cases h
  |some c=>rw[e3]at h;cases h;exact⟨a,rfl,e3⟩
theorem SI.newO (I:SI K B G H σ ρ)(hp:H p=none)(xs:List V):SI K B G (upd H p (.lst xs)) σ ρ/\G p=none/\(upd H p (.lst xs)) p=some (.lst xs)/\B.H p=none/\Nw K G (upd H p (.lst xs)) σ ρ p:=
 ⟨I.allocO hp _,I.fz.free hp,zat,I.there p hp,I.nw_move (I.nw hp) fun i s a _ _ g h=>⟨g,zaq fun z=>h (by rw[z];exact hp)⟩⟩
theorem zkX {p pos:Pos}(ml:X.mg "list"=none)(ha:SA X [e] ma)(hg:autoParam (Gl X "list") zu2._auto_1)(he:autoParam (starEach [e] X.env=(false,eval e X.env)::starEach [] X.env) zu2._auto_1)(hb:autoParam (bootBuiltins "list"=some (.type "list")) zu8._auto_1):
  SO X (.Call (.Name "list" p) [e] [] pos) (oC zaL ma):=by
 obtain⟨t,pa,sa⟩:=ha
 refine⟨_,zkc zku hg ml hb pa (by decide) (by decide) he rfl,fun B G H σ ρ ds ρ' Q I hm k=>?_⟩
 obtain⟨as,e1,e2⟩:=oC_inv hm
 refine sa B G H σ ρ as ρ' _ I e1 fun G1 H1 vs I1 f1 r1=>?_
 match as,e2 with
 |[a],e2=>
  obtain⟨x,rfl,ra⟩:=r1.one
  have fin:∀(q:Addr) (ys:List V) (sq:SqL X.K H1 q ys\/SqT X.K H1 q ys),x= .ref q->RepL X.K G1 ys ds->∃p ys,[x]=[V.ref p]/\(SqL X.K H1 p ys\/SqT X.K H1 p ys)/\∀l,H1 l=none->Q (.ref l) (upd H1 l (.lst ys)):=fun q ys sq ex r=>by
   refine⟨q,ys,by rw[ex],sq,fun l hl=>?_⟩
   obtain⟨I2,g2,h2,b2,n2⟩:=I1.newO hl ys
   exact k G1 _ l ys I2 f1 g2 h2 r b2 n2
  cases a<;>simp only[zaL]at e2<;>try cases e2
  ·obtain⟨p,ys,ex,hp,q⟩:=I1.lst ra
   exact fin p ys (.inl (SqL.of hp)) ex q
  ·obtain⟨p,ys,ex,hp,q⟩:=I1.tup ra
   exact fin p ys (.inr (SqT.of hp)) ex q
  ·obtain⟨p,ex,hp⟩:=ra
   exact fin p _ (.inl (I1.fz.sql hp)) ex (RepL.ints _)
 |[],e2=>cases e2
 |_::_::_,e2=>simp[zaL]at e2
section
variable {X:Cx} {es:List Expr} {ma:MA} {pos:Pos}
noncomputable def eTup (ma:MA):ME:=fun ρ=>(ma ρ).bind fun p=>if p.1.length<=16777216 then some (.tup p.1,p.2)else none
theorem zbH {x1}(h:SA X es ma):SE X (.Tuple es x1 pos) (eTup ma):=by
 obtain⟨t,pa,sa⟩:=h
 refine⟨_,pe_tup pa,fun B G H σ ρ d ρ' Q I hm k=>?_⟩
 unfold eTup at hm
 cases e1:ma ρ with
 |none=>rw[e1]at hm;cases hm
 |some q=>
  obtain⟨ds,ρ1⟩:=q
  rw[e1]at hm
  simp only[Option.bind_some]at hm
  split at hm
  ·rename_i hl
   cases hm
   refine sa B G H σ ρ ds ρ' _ I e1 fun G1 H1 vs I1 f1 r1=>⟨by rw[r1.length,sizeLine_eq];exact hl,fun p hp=>?_⟩
   obtain⟨I2,f2,r2⟩:=I1.newT hp r1
   exact k _ _ _ I2 (f1.trans f2) r2
  ·cases hm
noncomputable def oLst (ma:MA):MO:=fun ρ=>(ma ρ).bind fun p=>if p.1.length<=16777216 then some (p.1,p.2)else none
theorem zbh (h:SA X es ma):SO X (.List es pos) (oLst ma):=by
 obtain⟨t,pa,sa⟩:=h
 refine⟨_,zoc pa,fun B G H σ ρ d ρ' Q I hm k=>?_⟩
 unfold oLst at hm
 cases e1:ma ρ with
 |none=>rw[e1]at hm;cases hm
 |some q=>
  obtain⟨ds,ρ1⟩:=q
  rw[e1]at hm
  simp only[Option.bind_some]at hm
  split at hm
  ·rename_i hl
   cases hm
   refine sa B G H σ ρ _ ρ' _ I e1 fun G1 H1 vs I1 f1 r1=>⟨by rw[r1.length,sizeLine_eq];exact hl,fun p hp=>?_⟩
   obtain⟨I2,g2,h2,b2,n2⟩:=I1.newO hp vs
   exact k G1 _ p vs I2 f1 g2 h2 r1 b2 n2
  ·cases hm
end
theorem zad {α β:Type}{o:Option α}{f:α->Option β}{b:β}(h:o.bind f=some b):∃a,o=some a/\f a=some b:=by
 cases o with
 |none=>cases h
 |some a=>exact⟨a,rfl,h⟩
theorem zau {α β:Type}{o:Option α}{f:α->β}{b:β}(h:o.map f=some b):∃a,o=some a/\f a=b:=by
 cases o with
 |none=>cases h
 |some a=>cases h;exact⟨a,rfl,rfl⟩
noncomputable def dTru:D->Option Bool
 | .bl b=>some b
 | .int i=>some (i !=0)
 | .non=>some false
 | .lst ds=>some (!ds.isEmpty)
 | .tup ds=>some (!ds.isEmpty)
 |_=>none
noncomputable def tTru (ma:ME):MT:=fun ρ=>(ma ρ).bind fun p=>(dTru p.1).map fun b=>(b,p.2)
section
variable {X:Cx} {a b c:Expr} {ma mb mc:ME} {pos:Pos}
theorem znr (h:RepL K G xs ds):(!xs.isEmpty)=!ds.isEmpty:=by
 have:=h.length
 cases xs<;>cases ds<;>simp_all
theorem zjq (ha:SE X a ma)(he:autoParam (∀whole,isTrue a X.env whole=(do let v<-whole;standAt a.pos;holding [v] (truthy v))) zu9._auto_1):STt X a (tTru ma):=by
  obtain⟨ta,pa,sa⟩:=ha
  refine⟨_,pt_truth pa he,fun B G H σ ρ d ρ' Q I hm k=>?_⟩
  obtain⟨⟨x,ρ1⟩,e1,e2⟩:=zad hm
  obtain⟨t,e3,e4⟩:=zau e2
  obtain⟨rfl,rfl⟩:=Prod.mk.inj e4
  refine sa B G H σ ρ x ρ1 _ I e1 fun G1 H1 v I1 f1 r1=>⟨t,?_,k G1 H1 I1 f1⟩
  cases x<;>simp only[dTru]at e3<;>try cases e3
  . cases r1;exact rfl
  . cases r1;exact rfl
  . cases r1;exact rfl
  . obtain⟨p,xs,rfl,hp,r⟩:=I1.lst r1
    exact .inl ⟨xs,SqL.of hp,(znr r).symm⟩
  . obtain⟨p,xs,rfl,hp,r⟩:=I1.tup r1
    exact .inr (.inl ⟨xs,SqT.of hp,(znr r).symm⟩)
theorem zet {r:R2}(ho:OpR X (compareOp op) r)(hv:V2 X r f)(hB:∀x y d,f x y=some d->∃t,d= .bl t)(ha:SE X a ma)(hb:SE X b mb)(hm:behindInMarks op b=false):STt X (.Compare a [op] [b] pos) (tTru (m2 f ma mb)):=by
 obtain⟨ta,pa,sa⟩:=ha
 obtain⟨tb,pb,sb⟩:=hb
 refine⟨_,pt_cmpR ho pa pb hm,fun B G H σ ρ d ρ' Q I hm k=>?_⟩
 obtain⟨⟨x,ρ1⟩,e1,e2⟩:=zad hm
 obtain⟨t,e3,e4⟩:=zau e2
 obtain⟨rfl,rfl⟩:=Prod.mk.inj e4
 obtain⟨_,_,_,_,_,e5⟩:=m2_inv e1
 obtain⟨t',rfl⟩:=hB _ _ _ e5
 obtain rfl:t'=t:=Option.some.inj e3
 refine zlF hv sa sb B G H σ ρ (.bl t') ρ1 _ I e1 fun G1 H1 v I1 f1 r1=>?_
 cases(show v=V.bl t' from r1)
 exact⟨t',rfl,k G1 H1 I1 f1⟩
theorem ziP {g:Int->Int->Bool}(x y d:D)(h:dI2 (fun _ _=>true) (fun i j=> .bl (g i j)) x y=some d):∃t,d= .bl t:=by
 cases x<;>cases y<;>simp only[dI2]at h<;>try cases h
 exact⟨_,rfl⟩
theorem bl_eq (x y d:D)(h:dEq x y=some d):∃t,d= .bl t:=by
 unfold dEq at h
 split at h
 ·cases h;exact⟨_,rfl⟩
 ·cases h
theorem bl_ne (x y d:D)(h:dNe x y=some d):∃t,d= .bl t:=by
 unfold dNe at h
 split at h
 ·cases h;exact⟨_,rfl⟩
 ·cases h
theorem st_lt (ha:SE X a ma)(hb:SE X b mb):STt X (.Compare a [.Lt] [b] pos) (tTru (m2 dLt ma mb)):=zet op_lt zdb ziP ha hb (zgU _)
theorem st_le (ha:SE X a ma)(hb:SE X b mb):STt X (.Compare a [.LtE] [b] pos) (tTru (m2 dLe ma mb)):=zet zi3 zdb ziP ha hb (zgU _)
theorem st_gt (ha:SE X a ma)(hb:SE X b mb):STt X (.Compare a [.Gt] [b] pos) (tTru (m2 dGt ma mb)):=zet op_gt zdb ziP ha hb (zgU _)
theorem st_ge (ha:SE X a ma)(hb:SE X b mb):STt X (.Compare a [.GtE] [b] pos) (tTru (m2 dGe ma mb)):=zet op_ge zdb ziP ha hb (zgU _)
theorem zjo (hu:X.A.units+64<cLine)(ha:SE X a ma)(hb:SE X b mb):STt X (.Compare a [.Eq] [b] pos) (tTru (m2 dEq ma mb)):=zet (op_eqD hu) v2_eq bl_eq ha hb (zgU _)
theorem zjh (hu:X.A.units+64<cLine)(ha:SE X a ma)(hb:SE X b mb):STt X (.Compare a [.NotEq] [b] pos) (tTru (m2 dNe ma mb)):=zet (op_neD hu) v2_ne bl_ne ha hb (zgU _)
end
noncomputable def STw (X:Cx)(e:Expr)(m:MT):Prop:=
 ∃t,PW X e t/\∀B G H σ ρ d ρ' (Q:Bool->Hp->Prop),SI X.K B G H σ ρ->m ρ=some (d,ρ')->(∀G' H',SI X.K B G' H' σ ρ'->Fz G G'->Q d H')->t σ H Q
theorem STw.st (h:STw X e m):STt X e m:=let⟨t,p,s⟩:=h;⟨t,p.pt,s⟩
noncomputable def tAndM (a b:MT):MT:=fun ρ=>(a ρ).bind fun p=>if p.1 then b p.2 else some (false,p.2)
noncomputable def tOrM (a b:MT):MT:=fun ρ=>(a ρ).bind fun p=>if p.1 then some (true,p.2)else b p.2
noncomputable def zkR (a:MT):MT:=fun ρ=>(a ρ).map fun p=>(!p.1,p.2)
section
variable {X:Cx} {a b c:Expr} {ma mb:MT} {pos:Pos} {rest:List Expr}
theorem sw_and1 (h:STt X a ma):STw X (.BoolOp .And [a] pos) ma:=let⟨t,p,s⟩:=h;⟨t,pw_and1 p,s⟩
theorem zln (h:STt X a ma):STw X (.BoolOp .Or [a] pos) ma:=let⟨t,p,s⟩:=h;⟨t,pw_or1 p,s⟩
theorem sw_and (ha:STt X a ma)(hb:STw X (.BoolOp .And (b::rest) pos) mb):STw X (.BoolOp .And (a::b::rest) pos) (tAndM ma mb):=by
 obtain⟨ta,pa,sa⟩:=ha
 obtain⟨tb,pb,sb⟩:=hb
 refine⟨_,pw_and pa pb,fun B G H σ ρ d ρ' Q I hm k=>?_⟩
 obtain⟨⟨x,ρ1⟩,e1,e2⟩:=zad hm
 refine sa B G H σ ρ x ρ1 _ I e1 fun G1 H1 I1 f1=>?_
 cases x with
 |true=>exact sb B G1 H1 σ ρ1 d ρ' Q I1 e2 fun G2 H2 I2 f2=>k G2 H2 I2 (f1.trans f2)
 |false=>cases e2;exact k G1 H1 I1 f1
theorem sw_or (ha:STt X a ma)(hb:STw X (.BoolOp .Or (b::rest) pos) mb):STw X (.BoolOp .Or (a::b::rest) pos) (tOrM ma mb):=by
 obtain⟨ta,pa,sa⟩:=ha
 obtain⟨tb,pb,sb⟩:=hb
 refine⟨_,pw_or pa pb,fun B G H σ ρ d ρ' Q I hm k=>?_⟩
 obtain⟨⟨x,ρ1⟩,e1,e2⟩:=zad hm
 refine sa B G H σ ρ x ρ1 _ I e1 fun G1 H1 I1 f1=>?_
 cases x with
 |false=>exact sb B G1 H1 σ ρ1 d ρ' Q I1 e2 fun G2 H2 I2 f2=>k G2 H2 I2 (f1.trans f2)
 |true=>cases e2;exact k G1 H1 I1 f1
theorem zjY (ha:STt X a ma):STt X (.UnaryOp .Not a pos) (zkR ma):=by
 obtain⟨ta,pa,sa⟩:=ha
 refine⟨_,pt_not pa,fun B G H σ ρ d ρ' Q I hm k=>?_⟩
 obtain⟨⟨x,ρ1⟩,e1,e2⟩:=zau hm
 cases e2
 exact sa B G H σ ρ x ρ1 _ I e1 fun G1 H1 I1 f1=>k G1 H1 I1 f1
end
noncomputable def eAnd (a b:ME):ME:=fun ρ=>(a ρ).bind fun p=>match p.1 with
 | .bl true=>b p.2
 | .bl false=>some (.bl false,p.2)
 |_=>none
noncomputable def eOr (a b:ME):ME:=fun ρ=>(a ρ).bind fun p=>match p.1 with
 | .bl true=>some (.bl true,p.2)
 | .bl false=>b p.2
 |_=>none
section
variable {X:Cx} {a b c:Expr} {ma mb:ME} {pos:Pos} {rest:List Expr} {op:BoolOp}
theorem ziR (h:SE X a ma):SE X (.BoolOp op [a] pos) ma:=let⟨t,p,s⟩:=h;⟨t,pe_one p,s⟩
theorem ziY (ha:SE X a ma)(hb:SE X (.BoolOp .And (b::rest) pos) mb):SE X (.BoolOp .And (a::b::rest) pos) (eAnd ma mb):=by
 obtain⟨ta,pa,sa⟩:=ha
 obtain⟨tb,pb,sb⟩:=hb
 refine⟨_,pe_and pa pb,fun B G H σ ρ d ρ' Q I hm k=>?_⟩
 obtain⟨⟨x,ρ1⟩,e1,e2⟩:=zad hm
 refine sa B G H σ ρ x ρ1 _ I e1 fun G1 H1 v I1 f1 r1=>?_
 cases x<;>try cases e2
 rename_i y
 refine⟨y,r1,?_⟩
 cases y with
 |true=>exact sb B G1 H1 σ ρ1 d ρ' Q I1 e2 fun G2 H2 v I2 f2 r2=>k G2 H2 v I2 (f1.trans f2) r2
 |false=>cases e2;exact k G1 H1 _ I1 f1 rfl
noncomputable def eIf (c:MT)(a b:ME):ME:=fun ρ=>(c ρ).bind fun p=>if p.1 then a p.2 else b p.2
theorem zl6 (hc:STt X c mc)(ha:SE X a ma)(hb:SE X b mb):SE X (.IfExp c a b pos) (eIf mc ma mb):=by
 obtain⟨tc,pc,sc⟩:=hc
 obtain⟨ta,pa,sa⟩:=ha
 obtain⟨tb,pb,sb⟩:=hb
 refine⟨_,pe_ifExp pc pa pb,fun B G H σ ρ d ρ' Q I hm k=>?_⟩
 obtain⟨⟨x,ρ1⟩,e1,e2⟩:=zad hm
 refine sc B G H σ ρ x ρ1 _ I e1 fun G1 H1 I1 f1=>?_
 cases x with
 |true=>exact sa B G1 H1 σ ρ1 d ρ' Q I1 e2 fun G2 H2 v I2 f2 r2=>k G2 H2 v I2 (f1.trans f2) r2
 |false=>exact sb B G1 H1 σ ρ1 d ρ' Q I1 e2 fun G2 H2 v I2 f2 r2=>k G2 H2 v I2 (f1.trans f2) r2
end
noncomputable def zgc (f g:D->D->Option D)(a b c:ME):ME:=fun ρ=>(a ρ).bind fun p=>(b p.2).bind fun q=>(f p.1 q.1).bind fun t=>match t with
 | .bl true=>(c q.2).bind fun r=>(g q.1 r.1).map fun d=>(d,r.2)
 | .bl false=>some (.bl false,q.2)
 |_=>none
section
variable {X:Cx} {a b c:Expr} {ma mb mc:ME} {pos:Pos}
theorem zif {r r':R2}{f g:D->D->Option D}{ta tb tc:TE}(hv:V2 X r f)(hw:V2 X r' g)
  (sa:∀B G H σ ρ d ρ' (Q:VK),SI X.K B G H σ ρ->ma ρ=some (d,ρ')->(∀G' H' v,SI X.K B G' H' σ ρ'->Fz G G'->RepD X.K G' v d->Q v H')->ta σ H Q)
  (sb:∀B G H σ ρ d ρ' (Q:VK),SI X.K B G H σ ρ->mb ρ=some (d,ρ')->(∀G' H' v,SI X.K B G' H' σ ρ'->Fz G G'->RepD X.K G' v d->Q v H')->tb σ H Q)
  (sc:∀B G H σ ρ d ρ' (Q:VK),SI X.K B G H σ ρ->mc ρ=some (d,ρ')->(∀G' H' v,SI X.K B G' H' σ ρ'->Fz G G'->RepD X.K G' v d->Q v H')->tc σ H Q):
  ∀B G H σ ρ d ρ' (Q:VK),SI X.K B G H σ ρ->zgc f g ma mb mc ρ=some (d,ρ')->(∀G' H' v,SI X.K B G' H' σ ρ'->Fz G G'->RepD X.K G' v d->Q v H')->zoP r r' ta tb tc σ H Q:=by
 intro B G H σ ρ d ρ' Q I hm k
 obtain⟨⟨x,ρ1⟩,e1,h1⟩:=zad hm
 obtain⟨⟨y,ρ2⟩,e2,h2⟩:=zad h1
 obtain⟨t,e3,h3⟩:=zad h2
 refine sa B G H σ ρ x ρ1 _ I e1 fun G1 H1 v I1 f1 r1=>sb B G1 H1 σ ρ1 y ρ2 _ I1 e2 fun G2 H2 u I2 f2 r2=>hv B G2 H2 σ ρ2 v u x y t _ I2 (r1.mono f2) r2 e3 fun G3 H3 z I3 f3 r3=>?_
 cases t<;>try cases h3
 rename_i t
 refine⟨t,r3,?_⟩
 cases t with
 |true=>
  obtain⟨⟨w,ρ3⟩,e4,h4⟩:=zad h3
  obtain⟨d',e5,e6⟩:=zau h4
  cases e6
  exact sc B G3 H3 σ ρ2 w ρ3 _ I3 e4 fun G4 H4 s I4 f4 r4=>hw B G4 H4 σ ρ3 u s y w d Q I4 (r2.mono (f3.trans f4)) r4 e5 fun G5 H5 z5 I5 f5 r5=>k G5 H5 z5 I5 (f1.trans (f2.trans (f3.trans (f4.trans f5)))) r5
 |false=>cases h3;exact k G3 H3 _ I3 (f1.trans (f2.trans f3)) rfl
theorem zjd {r r':R2}{f g:D->D->Option D}(ho:OpR X (compareOp op) r)(ho':OpR X (compareOp op') r')(hv:V2 X r f)(hw:V2 X r' g)(ha:SE X a ma)(hb:SE X b mb)(hc:SE X c mc)
  (hm:autoParam (lastMarks [op,op'] [b,c]=false) zu5._auto_1):SE X (.Compare a [op,op'] [b,c] pos) (zgc f g ma mb mc):=by
 obtain⟨ta,pa,sa⟩:=ha
 obtain⟨tb,pb,sb⟩:=hb
 obtain⟨tc,pc,sc⟩:=hc
 exact⟨_,pe_chain ho ho' pa pb pc hm,zif hv hw sa sb sc⟩
theorem zlq {r r':R2}{f g:D->D->Option D}(ho:OpR X (compareOp op) r)(ho':OpR X (compareOp op') r')(hv:V2 X r f)(hw:V2 X r' g)(hB:∀x y d,g x y=some d->∃t,d= .bl t)(ha:SE X a ma)(hb:SE X b mb)(hc:SE X c mc)
  (hm:autoParam (lastMarks [op,op'] [b,c]=false) zu5._auto_1):STt X (.Compare a [op,op'] [b,c] pos) (tTru (zgc f g ma mb mc)):=by
 obtain⟨ta,pa,sa⟩:=ha
 obtain⟨tb,pb,sb⟩:=hb
 obtain⟨tc,pc,sc⟩:=hc
 refine⟨_,pt_chain ho ho' pa pb pc hm,fun B G H σ ρ d ρ' Q I hm k=>?_⟩
 obtain⟨⟨x,ρ1⟩,e1,e2⟩:=zad hm
 obtain⟨t,e3,e4⟩:=zau e2
 obtain⟨rfl,rfl⟩:=Prod.mk.inj e4
 have hx:∃t',x= .bl t':=by
  obtain⟨⟨x',ρ1'⟩,_,h1⟩:=zad e1
  obtain⟨⟨y',ρ2'⟩,_,h2⟩:=zad h1
  obtain⟨t',et',h3⟩:=zad h2
  clear et'
  cases t'<;>try cases h3
  rename_i t'
  cases t' with
  |true=>
   obtain⟨⟨w,ρ3⟩,e4,h4⟩:=zad h3
   obtain⟨d',e5,e6⟩:=zau h4
   cases e6
   exact hB _ _ _ e5
  |false=>cases h3;exact⟨_,rfl⟩
 obtain⟨t',rfl⟩:=hx
 obtain rfl:t'=t:=Option.some.inj e3
 refine zif hv hw sa sb sc B G H σ ρ (.bl t') ρ1 _ I e1 fun G1 H1 v I1 f1 r1=>?_
 cases(show v=V.bl t' from r1)
 exact⟨t',rfl,k G1 H1 I1 f1⟩
end
inductive Fl where
 |next|brk|cont|ret (r:Sl)
noncomputable abbrev MS:=R->Option (Fl×R)
noncomputable def ResOk (K:W.Frag)(B:Bs)(G H:Hp)(v:V):Sl->Prop
 | .val d=>RepD K G v d
 | .own ds=>∃l xs,v= .ref l/\G l=none/\H l=some (.lst xs)/\RepL K G xs ds/\B.H l=none
 | .tre t=>∃A,RepT K G H v t A/\A.Nodup/\∀a∈A,G a=none/\B.H a=none
 | .two ds es=>∃t l xs m ys,v= .ref t/\H t=some (.tup [.ref l,.ref m])/\l≠m/\G l=none/\H l=some (.lst xs)/\RepL K G xs ds/\B.H l=none/\G m=none/\H m=some (.lst ys)/\RepL K G ys es/\B.H m=none
 |_=>False
noncomputable def Post (K:W.Frag)(B:Bs)(G:Hp)(E:Ends)(fl:Fl)(ρ':R):Prop:=match fl with
 | .next=>∀G' H' σ',SI K B G' H' σ' ρ'->Fz G G'->E.nx σ' H'
 | .brk=>∀G' H' σ',SI K B G' H' σ' ρ'->Fz G G'->E.bk σ' H'
 | .cont=>∀G' H' σ',SI K B G' H' σ' ρ'->Fz G G'->E.ct σ' H'
 | .ret r=>∀G' H' σ' v,SI K B G' H' σ' ρ'->Fz G G'->ResOk K B G' H' v r->E.rt v H'
theorem Post.mono {G G1:Hp}{E:Ends}{fl:Fl}(h:Post K B G E fl ρ')(f:Fz G G1):Post K B G1 E fl ρ':=by
 cases fl with
 |next=>exact fun G' H' σ' I g=>h G' H' σ' I (f.trans g)
 |brk=>exact fun G' H' σ' I g=>h G' H' σ' I (f.trans g)
 |cont=>exact fun G' H' σ' I g=>h G' H' σ' I (f.trans g)
 |ret r=>exact fun G' H' σ' v I g=>h G' H' σ' v I (f.trans g)
noncomputable def SS (X:Cx)(st:Stmt)(m:MS):Prop:=∃t,PS X st t/\∀B G H σ ρ fl ρ' (E:Ends),SI X.K B G H σ ρ->m ρ=some (fl,ρ')->Post X.K B G E fl ρ'->t E σ H
noncomputable def SSs (X:Cx)(st:List Stmt)(m:MS):Prop:=∃t,PSs X st t/\∀B G H σ ρ fl ρ' (E:Ends),SI X.K B G H σ ρ->m ρ=some (fl,ρ')->Post X.K B G E fl ρ'->t E σ H
noncomputable def zcs:MS:=fun ρ=>some (.next,ρ)
noncomputable def sSeq (a b:MS):MS:=fun ρ=>(a ρ).bind fun p=>match p.1 with
 | .next=>b p.2
 |f=>some (f,p.2)
section
variable {X:Cx} {st:Stmt} {rest:List Stmt} {m n:MS} {e:Expr} {me:ME} {pos:Pos}
theorem zaO:SSs X [] zcs:=⟨_,pss_nil,fun B G H σ ρ fl ρ' E I hm k=>by cases hm;exact k G H σ I (Fz.refl G)⟩
theorem zak (h:SS X st m):SSs X [st] m:=let⟨t,p,s⟩:=h;⟨t,pss_one p,s⟩
theorem zae (h:SS X st m)(hr:SSs X rest n):SSs X (st::rest) (sSeq m n):=by
 obtain⟨t,p,s⟩:=h
 obtain⟨u,q,z⟩:=hr
 refine⟨_,pss_cons p q,fun B G H σ ρ fl ρ' E I hm k=>?_⟩
 obtain⟨⟨f,ρ1⟩,e1,e2⟩:=zad hm
 refine s B G H σ ρ f ρ1 _ I e1 ?_
 cases f with
 |next=>exact fun G1 H1 σ1 I1 f1=>z B G1 H1 σ1 ρ1 fl ρ' E I1 e2 (k.mono f1)
 |brk=>cases e2;exact k
 |cont=>cases e2;exact k
 |ret r=>cases e2;exact k
noncomputable def sRet (m:ME):MS:=fun ρ=>(m ρ).map fun p=>(.ret (.val p.1),p.2)
theorem zay (h:SE X e me):SS X (.Return (some e) pos) (sRet me):=by
 obtain⟨t,p,s⟩:=h
 refine⟨_,zlC p,fun B G H σ ρ fl ρ' E I hm k=>?_⟩
 obtain⟨⟨d,ρ1⟩,e1,e2⟩:=zau hm
 cases e2
 exact s B G H σ ρ d ρ1 _ I e1 fun G1 H1 v I1 f1 r1=>k G1 H1 σ v I1 f1 r1
noncomputable def zkt (m:MO):MS:=fun ρ=>(m ρ).map fun p=>(.ret (.own p.1),p.2)
theorem zhj {mo:MO}(h:SO X e mo):SS X (.Return (some e) pos) (zkt mo):=by
 obtain⟨t,p,s⟩:=h
 refine⟨_,zlC p,fun B G H σ ρ fl ρ' E I hm k=>?_⟩
 obtain⟨⟨d,ρ1⟩,e1,e2⟩:=zau hm
 cases e2
 exact s B G H σ ρ d ρ1 _ I e1 fun G1 H1 l xs I1 f1 g1 h1 r1 b1 _=>k G1 H1 σ _ I1 f1 ⟨l,xs,rfl,g1,h1,r1,b1⟩
theorem SI.emp (I:SI K B G H σ ρ)(i:Nat):SI K B G H σ (ρ.set i .emp):=by
 by_cases hi:i<ρ.length
 ·have hs:σ[i]? =some (σ[i]'(by rw[I.len];exact hi)):=List.getElem?_eq_getElem _
  have h:=I.chg (i:=i) (ov:=σ[i]'(by rw[I.len];exact hi)) (s':= .emp) I.fz (Fz.refl G) I.new I.keep I.there (fun _ _ _ _ _ _ g _=>⟨g,rfl,id⟩) trivial
  rwa[zgv hs]at h
 ·rw[List.set_eq_of_length_le (by lia)];exact I
noncomputable def zg5 (i:Nat):MS:=fun ρ=>match ρ[i]? with
 |some (.val d)=>some (.ret (.val d),ρ)
 |some (.own ds)=>some (.ret (.own ds),ρ.set i .emp)
 |_=>none
theorem zdj (i:Nat)(hN:autoParam (X.N[i]? =some x) zu2._auto_1)(hv:autoParam (Vis X.env.scope x) zu6._auto_1)(hd:autoParam ((x==("__debug__":Str))=false) zu1._auto_1)
  (hcd:autoParam ((x==("__classdict__":Str))=false) zu1._auto_1):SS X (.Return (some (.Name x pos')) pos) (zg5 i):=by
 refine⟨_,zlC (za6 hN hv hd hcd),fun B G H σ ρ fl ρ' E I hm k=>?_⟩
 unfold zg5 at hm
 cases e:ρ[i]? with
 |none=>rw[e]at hm;cases hm
 |some s=>
  rw[e]at hm
  have h:=I.slot i s e
  cases s with
  |emp=>cases hm
  |two _ _=>cases hm
  |tre _=>cases hm
  |ptr _=>cases hm
  |par ds=>cases hm
  |val d=>cases hm;obtain⟨v,h1,h2⟩:=h;exact⟨v,h1,k G H σ v I (Fz.refl G) h2⟩
  |own ds=>
   cases hm
   obtain⟨l,xs,h1,h2,h3,h4,h5⟩:=h
   exact⟨.ref l,h1,k G H σ _ (I.emp i) (Fz.refl G) ⟨l,xs,rfl,h2,h3,h4,h5⟩⟩
noncomputable def sIf (c:MT)(a b:MS):MS:=fun ρ=>(c ρ).bind fun p=>if p.1 then a p.2 else b p.2
theorem zcy {c:Expr}{a b:List Stmt}{ma mb:MS}(hc:STt X c mc)(ha:SSs X a ma)(hb:SSs X b mb):SS X (.If c a b pos) (sIf mc ma mb):=by
 obtain⟨tc,pc,sc⟩:=hc
 obtain⟨ta,pa,sa⟩:=ha
 obtain⟨tb,pb,sb⟩:=hb
 refine⟨_,ps_if pc pa pb,fun B G H σ ρ fl ρ' E I hm k=>?_⟩
 obtain⟨⟨x,ρ1⟩,e1,e2⟩:=zad hm
 refine sc B G H σ ρ x ρ1 _ I e1 fun G1 H1 I1 f1=>?_
 cases x with
 |true=>exact sa B G1 H1 σ ρ1 fl ρ' E I1 e2 (k.mono f1)
 |false=>exact sb B G1 H1 σ ρ1 fl ρ' E I1 e2 (k.mono f1)
end
noncomputable def SG (X:Cx)(tg:Expr)(g:D->R->Option R):Prop:=∃t,PG X tg t/\∀B G H σ ρ v d ρ' (Q:St->Hp->Prop),SI X.K B G H σ ρ->RepD X.K G v d->g d ρ=some ρ'->(∀G' H' σ',SI X.K B G' H' σ' ρ'->Fz G G'->Q σ' H')->t v σ H Q
noncomputable def SGs (X:Cx)(tgs:List Expr)(g:List D->R->Option R):Prop:=∃t,PGs X tgs t/\∀B G H σ ρ vs ds ρ' (Q:St->Hp->Prop),SI X.K B G H σ ρ->RepL X.K G vs ds->g ds ρ=some ρ'->(∀G' H' σ',SI X.K B G' H' σ' ρ'->Fz G G'->Q σ' H')->t vs σ H Q
noncomputable def gN (i:Nat):D->R->Option R:=fun d ρ=>some (ρ.set i (.val d))
noncomputable def zc2:List D->R->Option R:=fun ds ρ=>match ds with
 |[]=>some ρ
 |_=>none
noncomputable def zav (g:D->R->Option R)(h:List D->R->Option R):List D->R->Option R:=fun ds ρ=>match ds with
 |d::ds=>(g d ρ).bind fun ρ1=>h ds ρ1
 |[]=>none
noncomputable def gT (n:Nat)(g:List D->R->Option R):D->R->Option R:=fun d ρ=>match d with
 | .tup ds=>if ds.length=n then g ds ρ else none
 |_=>none
section
variable {X:Cx} {pos:Pos}
theorem zal (i:Nat)(hN:X.N.Nodup)(hi:autoParam (X.N[i]? =some x) zu2._auto_1)(hx:autoParam (Loc X.env.scope x) zu10._auto_1)(hf:autoParam (X.fn x=true\/X.env.scope.names.lookup x=some .local) zu10._auto_1):SG X (.Name x pos) (gN i):=
 ⟨_,zkS hN hi hx hf,fun B G H σ ρ v d ρ' Q I r hm k=>by cases hm;exact k G H _ (I.set r) (Fz.refl G)⟩
theorem zaY:SGs X [] zc2:=⟨_,zod,fun B G H σ ρ vs ds ρ' Q I r hm k=>by
 cases ds with
 |nil=>cases hm;exact⟨r,k G H σ I (Fz.refl G)⟩
 |cons=>cases hm⟩
theorem zan {e:Expr}(h1:SG X e g)(h2:SGs X es h)(hs:autoParam ((assignEach (e::es) X.env).map (·.2)=assign e X.env::(assignEach es X.env).map (·.2)) zu2._auto_1):SGs X (e::es) (zav g h):=by
 obtain⟨t,p,s⟩:=h1
 obtain⟨u,q,z⟩:=h2
 refine⟨_,zlj p q hs,fun B G H σ ρ vs ds ρ' Q I r hm k=>?_⟩
 cases ds with
 |nil=>cases hm
 |cons d ds=>
  obtain⟨x,ys,rfl,rx,ry⟩:=r
  obtain⟨ρ1,e1,e2⟩:=zad hm
  exact⟨x,ys,rfl,s B G H σ ρ x d ρ1 _ I rx e1 fun G1 H1 σ1 I1 f1=>z B G1 H1 σ1 ρ1 ys ds ρ' Q I1 (ry.mono f1) e2 fun G2 H2 σ2 I2 f2=>k G2 H2 σ2 I2 (f1.trans f2)⟩
theorem zbG {g:List D->R->Option R}(hc:X.calm=true)(h:SGs X es g)(hn:autoParam ((assignEach es X.env).length=n) zu2._auto_1)(hst:autoParam ((assignEach es X.env).findIdx? (·.1)=none) zu2._auto_1):SG X (.Tuple es k pos) (gT n g):=by
 obtain⟨t,p,s⟩:=h
 refine⟨_,pg_tup hc p hn hst,fun B G H σ ρ v d ρ' Q I r hm k=>?_⟩
 cases d<;>try cases hm
 rename_i ds
 simp only[gT]at hm
 split at hm
 ·rename_i hl
  obtain⟨a,xs,e,ha,rx⟩:=I.tup r
  exact⟨a,xs,e,SqT.of ha,by rw[rx.length];exact hl,s B G H σ ρ xs ds ρ' Q I rx hm k⟩
 ·cases hm
variable {e tg:Expr} {me:ME} {mo:MO}
noncomputable def sAsg (m:ME)(g:D->R->Option R):MS:=fun ρ=>(m ρ).bind fun p=>(g p.1 p.2).map fun ρ'=>(.next,ρ')
theorem zl5 (he:SE X e me)(hg:SG X tg g)(hs:autoParam (swapsWithSole [tg] e pos.line X.env=pure false) zu2._auto_1)(hw:autoParam (swappedStores [tg] e X.env=pure none) zu2._auto_1)
  (h1:autoParam ((assignEach [tg] X.env).map (·.2)=[assign tg X.env]) zu2._auto_1):SS X (.Assign [tg] e pos) (sAsg me g):=by
 obtain⟨t,p,s⟩:=he
 obtain⟨u,q,z⟩:=hg
 refine⟨_,zmc p q hs hw h1,fun B G H σ ρ fl ρ' E I hm k=>?_⟩
 obtain⟨⟨d,ρ1⟩,e1,h2⟩:=zad hm
 obtain⟨ρ2,e2,e3⟩:=zau h2
 obtain⟨rfl,rfl⟩:=Prod.mk.inj e3
 exact s B G H σ ρ d ρ1 _ I e1 fun G1 H1 v I1 f1 r1=>z B G1 H1 σ ρ1 v d ρ2 _ I1 r1 e2 fun G2 H2 σ2 I2 f2=>k G2 H2 σ2 I2 (f1.trans f2)
noncomputable def sSet (i:Nat)(m:ME):MS:=fun ρ=>(m ρ).map fun p=>(.next,p.2.set i (.val p.1))
theorem zas (i:Nat)(he:SE X e me)(hN:X.N.Nodup)(hi:autoParam (X.N[i]? =some x) zu2._auto_1)(hx:autoParam (Loc X.env.scope x) zu10._auto_1)(hs:autoParam (swapsWith e (some (.Name x pos')) pos.line X.env=pure false) zu2._auto_1)
    (hf:autoParam (X.fn x=true\/X.env.scope.names.lookup x=some .local) zu10._auto_1):SS X (.Assign [.Name x pos'] e pos) (sSet i me):=by
  obtain⟨t,p,s⟩:=he
  refine⟨_,zlw hN hi hx p hs hf,fun B G H σ ρ fl ρ' E I hm k=>?_⟩
  obtain⟨⟨d,ρ1⟩,e1,e3⟩:=zau hm
  cases e3
  exact s B G H σ ρ d ρ1 _ I e1 fun G1 H1 v I1 f1 r1=>k G1 H1 _ (I1.set r1) f1
noncomputable def zfi (i:Nat)(m:MO):MS:=fun ρ=>(m ρ).map fun p=>(.next,p.2.set i (.own p.1))
theorem zbX (i:Nat)(he:SO X e mo)(hN:X.N.Nodup)(hi:autoParam (X.N[i]? =some x) zu2._auto_1)(hx:autoParam (Loc X.env.scope x) zu10._auto_1)(hs:autoParam (swapsWith e (some (.Name x pos')) pos.line X.env=pure false) zu2._auto_1)
    (hf:autoParam (X.fn x=true\/X.env.scope.names.lookup x=some .local) zu10._auto_1):SS X (.Assign [.Name x pos'] e pos) (zfi i mo):=by
  obtain⟨t,p,s⟩:=he
  refine⟨_,zlw hN hi hx p hs hf,fun B G H σ ρ fl ρ' E I hm k=>?_⟩
  obtain⟨⟨d,ρ1⟩,e1,e3⟩:=zau hm
  cases e3
  exact s B G H σ ρ d ρ1 _ I e1 fun G1 H1 l xs I1 f1 g1 h1 r1 b1 n1=>k G1 H1 _ (I1.setO g1 h1 r1 b1 n1) f1
noncomputable def sApp (i:Nat)(m:ME):MS:=fun ρ=>if(ρ[i]?.bind Sl.items).isSome then(m ρ).bind fun p=>p.2[i]?.bind fun s=>s.items.bind fun ds=>if ds.length<16777216 then some (.next,p.2.set i (s.put (ds++[p.1])))else none else none
theorem ze4 (i:Nat){pos' apos cpos:Pos}(he:SE X e me)(hN:autoParam (X.N[i]? =some x) zu2._auto_1)(hv:autoParam (Vis X.env.scope x) zu6._auto_1)(hd:autoParam ((x==("__debug__":Str))=false) zu1._auto_1)
  (hcd:autoParam ((x==("__classdict__":Str))=false) zu1._auto_1)
  (hbase:autoParam (attributeBase (.Name x pos') "append" X.env (eval (.Name x pos') X.env)=eval (.Name x pos') X.env) zu2._auto_1)
  (hfew :autoParam (((backTo cpos (starEach [e] X.env)).all (fun x => !x.1) && (backToKw cpos (keywordEach [] X.env)).all (fun x => x.1.isSome)
   &&decide ([e].length+([]:List Keyword).length+(if([]:List Keyword).isEmpty then 0 else 1)<30))=true) zu2._auto_1)
  (hline:autoParam ((apos.endLine==cpos.line)=true) zu2._auto_1) (hs:autoParam (starEach [e] X.env=(false,eval e X.env)::starEach [] X.env) zu2._auto_1):SS X (.Expr (.Call (.Attribute (.Name x pos') "append" apos) [e] [] cpos) pos) (sApp i me):=by
 obtain⟨t,p,s⟩:=he
 refine⟨_,zkM (pe_bm PySem.F.plainAttrs_list PySem.F.slot_list_append PySem.F.type_list_append zie (za6 hN hv hd hcd) (zcn p zf4 hs) hbase hfew hline hs rfl) (by rfl),fun B G H σ ρ fl ρ' E I hm k=>?_⟩
 unfold sApp at hm
 split at hm
 ·rename_i hso
  obtain⟨ds0,hso⟩:=Option.isSome_iff_exists.mp hso
  obtain⟨s0,e0,q0⟩:=zad hso
  obtain⟨l,xs0,h1,h2,h3,h4⟩:=I.wr e0 q0
  obtain⟨⟨d,ρ1⟩,e1,hm⟩:=zad hm
  obtain⟨s1,e2,hm⟩:=zad hm
  obtain⟨ds,e3,hm⟩:=zad hm
  split at hm
  ·rename_i hl
   cases hm
   refine⟨.ref l,h1,.inl ⟨rfl,_,SqL.of h3⟩,s B G H σ ρ d ρ1 _ I e1 fun G1 H1 v I1 f1 r1=>?_⟩
   obtain⟨l',xs,k1,k2,k3,k4⟩:=I1.wr e2 e3
   rw[h1]at k1;cases k1
   refine⟨l,xs,v,rfl,rfl,k3,by rw[k4.length,sizeLine_eq];exact hl,?_⟩
   exact k G1 _ σ (I1.write e2 e3 h1 (k4.snoc r1)) f1
  ·cases hm
 ·cases hm
noncomputable def sPut (j:Nat)(mi me:ME):MS:=fun ρ=>(me ρ).bind fun p=>if hasV p.2 j then(mi p.2).bind fun q=>match q.1 with
 | .int k=>q.2[j]?.bind fun s=>s.items.bind fun ds=>(ixN ds.length k).bind fun n=>some (.next,q.2.set j (s.put (ds.set n p.1)))
 |_=>none else none
theorem zkf (j:Nat){i:Expr}{mi:ME}{pos' tpos:Pos}(he:SE X e me)(hi:SE X i mi)(hN:autoParam (X.N[j]? =some x) zu2._auto_1)(hv:autoParam (Vis X.env.scope x) zu6._auto_1)(hd:autoParam ((x==("__debug__":Str))=false) zu1._auto_1)
  (hcd:autoParam ((x==("__classdict__":Str))=false) zu1._auto_1)
  (ha :autoParam (∀ v, assign (.Subscript (.Name x pos') i tpos) X.env v = (do
   let ov<-holding [v] (eval (.Name x pos') X.env)
   let iv<-holding [v,ov] (eval i X.env)
   standAt tpos
   holding [v,ov,iv] (setItem ov iv v)
   release [v,ov,iv] [])) zu9._auto_1)
  (hs:autoParam (swapsWithSole [.Subscript (.Name x pos') i tpos] e pos.line X.env=pure false) zu2._auto_1) (hw:autoParam (swappedStores [.Subscript (.Name x pos') i tpos] e X.env=pure none) zu2._auto_1)
  (h1:autoParam ((assignEach [.Subscript (.Name x pos') i tpos] X.env).map (·.2)=[assign (.Subscript (.Name x pos') i tpos) X.env]) zu2._auto_1):SS X (.Assign [.Subscript (.Name x pos') i tpos] e pos) (sPut j mi me):=by
 obtain⟨t,p,s⟩:=he
 obtain⟨u,q,z⟩:=hi
 refine⟨_,zmc p (pg_sub (za6 hN hv hd hcd) q zhL ha) hs hw h1,fun B G H σ ρ fl ρ' E I hm k=>?_⟩
 obtain⟨⟨d,ρ1⟩,e1,hm⟩:=zad hm
 refine s B G H σ ρ d ρ1 _ I e1 fun G1 H1 v I1 f1 r1=>?_
 split at hm
 ·rename_i hh
  obtain⟨w,ew⟩:=I1.has hh
  obtain⟨⟨kd,ρ2⟩,e2,hm⟩:=zad hm
  cases kd<;>try cases hm
  rename_i kk
  obtain⟨s2,e3,hm⟩:=zad hm
  obtain⟨ds,e4,hm⟩:=zad hm
  obtain⟨n,e5,hm⟩:=zad hm
  cases hm
  refine⟨w,ew,z B G1 H1 σ ρ1 (.int kk) ρ2 _ I1 e2 fun G2 H2 y I2 f2 r2=>?_⟩
  obtain⟨l,xs,k1,k2,k3,k4⟩:=I2.wr e3 e4
  rw[ew]at k1;cases k1
  refine⟨l,xs,kk,n,rfl,r2,k3,by rw[k4.length];exact e5,?_⟩
  exact k G2 _ σ (I2.write e3 e4 ew (k4.set n (r1.mono f2))) (f1.trans f2)
 ·cases hm
end
structure Itm (K:W.Frag) (J:It) (G:Hp) (items:List D):Prop where
 go:∀H i,Fz G H->i<items.length->J.go i H
 yld:∀H i x H',Fz G H->J.yld i H x H'->∀d,items[i]? =some d->(H'=H/\RepD K G x d)\/∃p xs ds,H p=none/\H'=upd H p (.tup xs)/\x= .ref p/\d= .tup ds/\RepL K G xs ds
 stop:∀H i,Fz G H->items.length<=i->J.stop i H
noncomputable def SIt (X:Cx)(tg it:Expr)(m:MA):Prop:=∃wi,PI X tg it wi/\∀B G H σ ρ ds ρ' (Q:It->Hp->Prop),SI X.K B G H σ ρ->m ρ=some (ds,ρ')->(∀J G' H',SI X.K B G' H' σ ρ'->Fz G G'->Itm X.K J G' ds->Q J H')->wi σ H Q
noncomputable def forM (f:D->R->Option (Fl×R)):List D->R->Option (Fl×R)
 |[],ρ=>some (.next,ρ)
 |d::ds,ρ=>(f d ρ).bind fun p=>match p.1 with
  | .next=>forM f ds p.2
  | .cont=>forM f ds p.2
  | .brk=>some (.next,p.2)
  | .ret r=>some (.ret r,p.2)
noncomputable def sFor (mi:MA)(g:D->R->Option R)(mb:MS):MS:=fun ρ=>(mi ρ).bind fun p=>forM (fun d ρ=>(g d ρ).bind fun ρ'=>mb ρ') p.1 p.2
theorem SI.yld {x:V}(I:SI K B G H σ ρ)
  (h:(H'=H/\RepD K G x d)\/∃p xs ds,H p=none/\H'=upd H p (.tup xs)/\x= .ref p/\d= .tup ds/\RepL K G xs ds):∃G',SI K B G' H' σ ρ/\Fz G G'/\RepD K G' x d:=by
 rcases h with⟨rfl,r⟩|⟨p,xs,ds,hp,rfl,rfl,rfl,r⟩
 ·exact⟨G,I,Fz.refl G,r⟩
 ·obtain⟨I2,f2,r2⟩:=I.newT hp r
  exact⟨_,I2,f2,r2⟩
theorem zbI {tg it:Expr}{mi:MA}{mb:MS}(hp:PassesOwn (model X.prog X.w) X.A X.env X.xe)(hc:X.calm=true)(hi:SIt X tg it mi)(hg:SG X tg g)(hb:SSs X body mb)
    (hs:autoParam (∀x,foldedSetIterable it X.env x=pure x) zu9._auto_1):SS X (.For tg it body [] pos) (sFor mi g mb):=by
  obtain⟨wi,pi,si⟩:=hi
  obtain⟨tg',pg,sg⟩:=hg
  obtain⟨tb,pb,sb⟩:=hb
  refine⟨_,ps_for hp hc pi pg pb hs,fun B G H σ ρ fl ρ' E I hm k=>?_⟩
  obtain⟨⟨ds,ρ1⟩,e1,hm⟩:=zad hm
  refine si B G H σ ρ ds ρ1 _ I e1 fun J G1 H1 I1 f1 IT=>?_
  refine⟨fun i m σ H=>m=ds.length-i/\i<=ds.length/\∃G2 ρ2,SI X.K B G2 H σ ρ2/\Fz G1 G2/\forM (fun d ρ=>(g d ρ).bind fun ρ'=>mb ρ') (ds.drop i) ρ2=some (fl,ρ'),⟨ds.length,by simp,Nat.zero_le _,G1,ρ1,I1,Fz.refl _,by simpa using hm⟩,?_⟩
  rintro i m σ2 H2 ⟨rfl,hi,G2,ρ2,I2,f2,e2⟩
  by_cases hlt:i<ds.length
  . rw[List.drop_eq_getElem_cons hlt]at e2
    simp only[forM]at e2
    obtain⟨⟨f,ρ3⟩,e3,e4⟩:=zad e2
    obtain⟨ρ2',e5,e6⟩:=zad e3
    have fz2:Fz G1 H2:=f2.trans I2.fz
    refine .inr ⟨IT.go H2 i fz2 hlt,fun σ' H'=>(∃G3,SI X.K B G3 H' σ' ρ3/\Fz G1 G3)/\(f= .next\/f= .cont),?_,fun x H' y=>?_⟩
    . rintro σ' H' ⟨⟨G3,I3,f3⟩,hf⟩
      refine⟨ds.length-(i+1),by lia,rfl,hlt,G3,ρ3,I3,f3,?_⟩
      rcases hf with rfl|rfl<;>exact e4
    . have yy:=IT.yld H2 i x H' fz2 y ds[i] (List.getElem?_eq_getElem hlt)
      have yy2:(H'=H2/\RepD X.K G2 x ds[i])\/∃p xs es,H2 p=none/\H'=upd H2 p (.tup xs)/\x= .ref p/\ds[i]= .tup es/\RepL X.K G2 xs es:=by
        rcases yy with⟨a,b⟩|⟨p,xs,es,a,b,c,d,e⟩
        . exact .inl ⟨a,b.mono f2⟩
        . exact .inr ⟨p,xs,es,a,b,c,d,e.mono f2⟩
      obtain⟨G3,I3,f3,r3⟩:=I2.yld yy2
      refine sg B G3 H' σ2 ρ2 x ds[i] ρ2' _ I3 r3 e5 fun G4 H4 σ4 I4 f4=>sb B G4 H4 σ4 ρ2' f ρ3 _ I4 e6 ?_
      have ff:Fz G1 G4:=f2.trans (f3.trans f4)
      cases f with
      |next=>exact fun G5 H5 σ5 I5 f5=>⟨⟨G5,I5,ff.trans f5⟩,.inl rfl⟩
      |cont=>exact fun G5 H5 σ5 I5 f5=>⟨⟨G5,I5,ff.trans f5⟩,.inr rfl⟩
      |brk=>cases e4;exact fun G5 H5 σ5 I5 f5=>k G5 H5 σ5 I5 (f1.trans (ff.trans f5))
      |ret r=>cases e4;exact fun G5 H5 σ5 v I5 f5=>k G5 H5 σ5 v I5 (f1.trans (ff.trans f5))
  . have e:i=ds.length:=by lia
    subst e
    rw[List.drop_length]at e2
    cases e2
    exact .inl ⟨IT.stop H2 _ (f2.trans I2.fz) (Nat.le_refl _),k G2 H2 σ2 I2 (f1.trans f2)⟩
section
variable {X:Cx} {tg it:Expr} {me:ME}
noncomputable def iSeq (m:ME):MA:=fun ρ=>(m ρ).bind fun p=>(zaL [p.1]).map fun ds=>(ds,p.2)
theorem pi_or {l:Expr}{tl:TE}(hl:PE X l tl):PI X tg l (fun σ H R=>tl σ H fun x H1=>∃a,x= .ref a/\(((∃xs,SqL X.K H1 a xs)/\R (Itl X.K a) H1)\/((∃xs,SqT X.K H1 a xs)/\R (Itt X.K a) H1))):=by
 intro pins s σ H R I h
 refine thn (hl pins s σ H _ I h) fun v s1 ⟨x,H1,I1,r1,q1⟩=>?_
 obtain⟨a,e,q⟩:=q1
 subst e
 cases r1
 rcases q with⟨⟨xs,hq⟩,q⟩|⟨⟨xs,hq⟩,q⟩
 ·obtain⟨its,rv,p,hz⟩:=I1.list hq
  refine wpAny_pyIter_list p.isList ?_
  refine⟨s1.heap.objs.size,[s1.heap.objs.size],_,_,H1,rfl,I1.kept (t':=s1.toks) fun b o e=>Heap.get?_push_of_some _ e,znV a _,⟨_,Heap.get?_push_size _ rfl,rfl,rfl⟩,fun b hb=>?_,q⟩
  have e:b=s1.heap.objs.size:=by simpa using hb
  subst e
  exact I1.fpOk (Nat.le_refl _) (I1.hok.fresh (Nat.le_refl _))
 ·obtain⟨its,rv,p,hz⟩:=I1.tuple hq
  refine wpAny_pyIter_tuple (show s1.heap.IsTuple a its.toArray from p) ?_
  refine⟨s1.heap.objs.size,[s1.heap.objs.size],_,_,H1,rfl,I1.kept (t':=s1.toks) fun b o e=>Heap.get?_push_of_some _ e,zmp a _,⟨_,Heap.get?_push_size _ rfl,rfl,rfl⟩,fun b hb=>?_,q⟩
  have e:b=s1.heap.objs.size:=by simpa using hb
  subst e
  exact I1.fpOk (Nat.le_refl _) (I1.hok.fresh (Nat.le_refl _))
theorem zlT {a:Addr}(hg:SqL K G a xs)(r:RepL K G xs ds):Itm K (Itl K a) G ds where
 go:=fun H i f hi=>by
  have hl:=r.length
  exact⟨xs,xs[i],f.sql hg,List.getElem?_eq_getElem (by lia)⟩
 yld:=fun H i x H' f y d e=>by
  obtain⟨rfl,y⟩:=y
  have hx:=y xs (f.sql hg)
  obtain⟨x',h1,h2⟩:=r.get e
  rw[hx]at h1;cases h1
  exact .inl ⟨rfl,h2⟩
 stop:=fun H i f hi=>⟨xs,f.sql hg,by rw[r.length];exact hi⟩
theorem itm_tup {a:Addr}(hg:G a=some (.tup xs))(r:RepL K G xs ds):Itm K (Itt K a) G ds where
 go:=fun H i f hi=>by
  have hl:=r.length
  exact⟨xs,xs[i],SqT.of (f _ _ hg),List.getElem?_eq_getElem (by lia)⟩
 yld:=fun H i x H' f y d e=>by
  obtain⟨rfl,y⟩:=y
  have hx:=y xs (SqT.of (f _ _ hg))
  obtain⟨x',h1,h2⟩:=r.get e
  rw[hx]at h1;cases h1
  exact .inl ⟨rfl,h2⟩
 stop:=fun H i f hi=>⟨xs,SqT.of (f _ _ hg),by rw[r.length];exact hi⟩
theorem zbr (h:SE X it me):SIt X tg it (iSeq me):=by
 obtain⟨t,p,s⟩:=h
 refine⟨_,pi_or p,fun B G H σ ρ ds ρ' Q I hm k=>?_⟩
 obtain⟨⟨d,ρ1⟩,e1,hm⟩:=zad hm
 obtain⟨es,e2,e3⟩:=zau hm
 cases e3
 refine s B G H σ ρ d ρ1 _ I e1 fun G1 H1 v I1 f1 r1=>?_
 cases d<;>simp only[zaL]at e2<;>try cases e2
 ·obtain⟨a,xs,rfl,ha,r⟩:=r1
  exact⟨a,rfl,.inl ⟨⟨xs,SqL.of (I1.fz _ _ ha)⟩,k _ G1 H1 I1 f1 (zlT (SqL.of ha) r)⟩⟩
 ·obtain⟨a,xs,rfl,ha,r⟩:=r1
  exact⟨a,rfl,.inr ⟨⟨xs,SqT.of (I1.fz _ _ ha)⟩,k _ G1 H1 I1 f1 (itm_tup ha r)⟩⟩
 ·obtain⟨a,rfl,ha⟩:=r1
  exact⟨a,rfl,.inl ⟨⟨_,I1.fz.sql ha⟩,k _ G1 H1 I1 f1 (zlT ha (RepL.ints _))⟩⟩
end
noncomputable def zgf (lo:Int)(n:Nat):List D:=(List.range n).map fun(i:Nat)=>D.int (lo+(i:Int))
theorem znY (lo:Int)(n:Nat):Itm K (Itr lo n) G (zgf lo n) where
 go:=fun H i f hi=>by show i<n;simpa[zgf]using hi
 yld:=fun H i x H' f y d e=>by
  obtain⟨rfl,rfl⟩:=y
  unfold zgf at e
  rw[List.getElem?_map]at e
  cases q:(List.range n)[i]? with
  |none=>rw[q]at e;cases e
  |some j=>
   rw[q]at e
   have hj:j=i:=by
    have:=List.getElem?_eq_some_iff.mp q
    obtain⟨h1,h2⟩:=this
    simpa using h2.symm
   subst hj
   cases e
   exact .inl ⟨rfl,rfl⟩
 stop:=fun H i f hi=>by show n<=i;simpa[zgf]using hi
noncomputable def zf6 (j:Int):Bool:=decide (-1000000000000<=j)&&decide (j<=1000000000000)
theorem zhY {j:Int}(h:zf6 j=true): -(2^62)<=j/\j<2^62:=by
 unfold zf6 at h
 simp only[Bool.and_eq_true,decide_eq_true_eq]at h
 lia
noncomputable def iR1 (ma:MA):MA:=fun ρ=>(ma ρ).bind fun p=>match p.1 with
 |[.int j]=>if zf6 j then some (zgf 0 j.toNat,p.2)else none
 |_=>none
section
variable {X:Cx} {tg a b:Expr} {ma:MA} {p pos:Pos}
theorem zaW (hm:X.mg "range"=none)(ha:SA X [a] ma)(hg:autoParam (Gl X "range") zu2._auto_1)(hs:autoParam (starEach [a] X.env=[(false,eval a X.env)]) zu2._auto_1):SIt X tg (.Call (.Name "range" p) [a] [] pos) (iR1 ma):=by
 obtain⟨t,pa,sa⟩:=ha
 refine⟨_,zoC hg hm pa hs,fun B G H σ ρ ds ρ' Q I hm k=>?_⟩
 obtain⟨⟨es,ρ1⟩,e1,h2⟩:=zad hm
 dsimp only at h2
 refine sa B G H σ ρ es ρ1 _ I e1 fun G1 H1 vs I1 f1 r1=>?_
 split at h2
 ·rename_i j
  split at h2
  ·rename_i hj
   cases h2
   obtain⟨x,rfl,rx⟩:=r1.one
   cases(show x=V.int j from rx)
   exact⟨j,rfl,(zhY hj).1,(zhY hj).2,k _ G1 H1 I1 f1 (znY 0 _)⟩
  ·cases h2
 ·cases h2
end
noncomputable def ResF (K:W.Frag)(G' H' H:Hp)(v:V):Sl->Prop
 | .val d=>RepD K G' v d
 | .own ds=>∃l xs,v= .ref l/\G' l=none/\H' l=some (.lst xs)/\RepL K G' xs ds/\H l=none
 | .tre t=>∃A,RepT K G' H' v t A/\A.Nodup/\∀a∈A,G' a=none/\H a=none
 | .two ds es=>∃t l xs m ys,v= .ref t/\H' t=some (.tup [.ref l,.ref m])/\l≠m/\G' l=none/\H' l=some (.lst xs)/\RepL K G' xs ds/\H l=none/\G' m=none/\H' m=some (.lst ys)/\RepL K G' ys es/\H m=none
 |_=>False
noncomputable def spP (K:W.Frag)(n:Nat)(F:List D->Option Sl):Sp:=fun vs H Q _=>∃G ds r,F ds=some r/\ds.length=n/\Fz G H/\RepL K G vs ds/\
 ∀G' H' v,Fz G G'->Fz G' H'->(∀b o,G' b=some o->G b≠none\/H b=none)->Fz H H'->ResF K G' H' H v r->Q v H'
noncomputable def spM (K:W.Frag)(n:Nat)(F:List D->List D->Option (Sl×List D)):Sp:=fun vs H Q _=>∃G l xs cs ws ds r out,vs= .ref l::ws/\F cs ds=some (r,out)/\ds.length+1=n/\Fz G H/\G l=none/\H l=some (.lst xs)/\RepL K G xs cs/\RepL K G ws ds/\
 ∀G' H' v ys,Fz G G'->Fz G' H'->(∀b o,G' b=some o->G b≠none\/H b=none)->(∀b o,b≠l->H b=some o->H' b=some o)->G' l=none->H' l=some (.lst ys)->RepL K G' ys out->ResF K G' H' H v r->Q v H'
noncomputable def fP (N:Nat)(m:MS):List D->Option Sl:=fun ds=>(m (ds.map .val++List.replicate (N-ds.length) .emp)).bind fun p=>match p.1 with
 | .ret r=>some r
 | .next=>some (.val .non)
 |_=>none
noncomputable def fM (N:Nat)(m:MS):List D->List D->Option (Sl×List D):=fun cs ds=>(m (.par cs::(ds.map .val++List.replicate (N-(ds.length+1)) .emp))).bind fun p=>match p.1,(p.2[0]?:Option Sl)with
 |Fl.ret r,some (Sl.par out)=>some (r,out)
 |Fl.next,some (Sl.par out)=>some (.val .non,out)
 |_,_=>none
theorem zig (h:vs.length<=N.length):(L2.start N vs).length=N.length:=by
 unfold L2.start
 rw[List.length_append,List.length_map,List.length_replicate]
 lia
theorem SI.start (fz:Fz G H)(r:RepL K G vs ds)(h:ds.length<=N.length):
  SI K ⟨G,H,[]⟩ G H (L2.start N vs) (ds.map .val++List.replicate (N.length-ds.length) .emp) where
 fz:=fz
 g0:=Fz.refl G
 new:=fun b o e=> .inl (by show G b≠none;rw[e];simp)
 keep:=fun b o e _=>e
 there:=fun b e=>e
 ob:=fun i b m=>by cases m
 len:=by rw[zig (by rw[r.length];exact h),List.length_append,List.length_map,List.length_replicate];lia
 slot:=fun i s e=>by
  by_cases hi:i<ds.length
  ·rw[List.getElem?_append_left (by simpa using hi),List.getElem?_map,List.getElem?_eq_getElem hi]at e
   cases e
   obtain⟨x,h1,h2⟩:=r.get (List.getElem?_eq_getElem hi)
   refine⟨x,?_,h2⟩
   unfold L2.start
   rw[List.getElem?_append_left (by rw[List.length_map,r.length];exact hi),List.getElem?_map,h1]
   rfl
  ·rw[List.getElem?_append_right (by simpa using hi),List.getElem?_replicate]at e
   split at e
   ·cases e;trivial
   ·cases e
 dis:=fun i j s _ a _ e _ w=>by
  exfalso
  by_cases hi:i<ds.length
  ·rw[List.getElem?_append_left (by simpa using hi),List.getElem?_map,List.getElem?_eq_getElem hi]at e
   cases e;exact w
  ·rw[List.getElem?_append_right (by simpa using hi),List.getElem?_replicate]at e
   split at e
   ·cases e;exact w
   ·cases e
theorem SI.startM (fz:Fz G H)(hg:G l=none)(hl:H l=some (.lst xs))(rc:RepL K G xs cs)(r:RepL K G vs ds)(h:ds.length+1<=N.length):
  SI K ⟨G,H,[(0,l)]⟩ G H (L2.start N (.ref l::vs)) (.par cs::(ds.map .val++List.replicate (N.length-(ds.length+1)) .emp)) where
 fz:=fz
 g0:=Fz.refl G
 new:=fun b o e=> .inl (by show G b≠none;rw[e];simp)
 keep:=fun b o e _=>e
 there:=fun b e=>e
 ob:=fun i b m=>by
  have:b=l:=((by simpa using m):i=0/\b=l).2
  subst this
  show H b≠none
  rw[hl];simp
 len:=by
  have:=r.length
  rw[zig (by rw[List.length_cons,r.length];exact h),List.length_cons,List.length_append,List.length_map,List.length_replicate];lia
 slot:=fun i s e=>by
  cases i with
  |zero=>simp at e;subst e;exact⟨l,xs,rfl,hg,hl,rc,by simp⟩
  |succ i=>
   rw[List.getElem?_cons_succ]at e
   by_cases hi:i<ds.length
   ·rw[List.getElem?_append_left (by simpa using hi),List.getElem?_map,List.getElem?_eq_getElem hi]at e
    cases e
    obtain⟨x,h1,h2⟩:=r.get (List.getElem?_eq_getElem hi)
    refine⟨x,?_,h2⟩
    unfold L2.start
    rw[List.map_cons,List.cons_append,List.getElem?_cons_succ,List.getElem?_append_left (by rw[List.length_map,r.length];exact hi),List.getElem?_map,h1]
    rfl
   ·rw[List.getElem?_append_right (by simpa using hi),List.getElem?_replicate]at e
    split at e
    ·cases e;trivial
    ·cases e
 dis:=fun i j s t a hij hi hj w1 w2=>by
  have z:∀(i:Nat) (s:Sl),(Sl.par cs::(ds.map .val++List.replicate (N.length-(ds.length+1)) .emp))[i]? =some s->OwS K G H (L2.start N (.ref l::vs))[i]? a s->i=0:=fun i s e q=>by
   cases i with
   |zero=>rfl
   |succ i=>
    exfalso
    rw[List.getElem?_cons_succ]at e
    by_cases hi:i<ds.length
    ·rw[List.getElem?_append_left (by simpa using hi),List.getElem?_map,List.getElem?_eq_getElem hi]at e
     cases e;exact q
    ·rw[List.getElem?_append_right (by simpa using hi),List.getElem?_replicate]at e
     split at e
     ·cases e;exact q
     ·cases e
  exact hij ((z i s hi w1).trans (z j t hj w2).symm)
section
variable {P:Program} {w:World} {K:W.Frag} {mg:Str->Option Value} {base:Heap}
theorem fnP_ok {st:Stmt}{f:Addr}{m:MS}(F:Fun K x qual st f fd)(S:FnScope N ps (zaG st))(hn:ps.length=n)(hN:n<=N.length)
  (body:∀(cdv:Value) (A:Around) (outer:List Env) (s:Shared) (H:Hp) (E:XK),Room k (A.deeper (envOfC qual (zaG st) s.heap.objs.size f cdv))->SSs (cxOf CX0 P w K mg base N qual (zaG st) f cdv A outer s H E).nox (zcl st) m):
  FnOk P w K mg base CX0 (k+1) f fd ps (spP K n (fP N.length m)):=by
 refine F.ok S (fun vs H Q E h=>?_) (fun cdv A outer s H vs Q E hr h=>?_)
 ·obtain⟨G,ds,r,_,h2,_,h4,_⟩:=h
  rw[h4.length,h2,hn]
 ·obtain⟨G,ds,r,e1,h2,fz,h4,kk⟩:=h
  obtain⟨t,pt,so⟩:=body cdv A outer s H E hr
  refine⟨t,pt,?_⟩
  obtain⟨⟨fl,ρ'⟩,e2,e3⟩:=zad e1
  refine so ⟨G,H,[]⟩ G H (L2.start N vs) _ fl ρ' _ (SI.start fz h4 (by lia)) e2 ?_
  have fin:∀G' H' σ' v,SI K ⟨G,H,[]⟩ G' H' σ' ρ'->Fz G G'->ResF K G' H' H v r->Q v H':=fun G' H' σ' v I f rr=>kk G' H' v f I.fz I.new (fun b o e=>I.keep b o e (by simp)) rr
  cases fl with
  |next=>cases e3;exact fun G' H' σ' I f=>fin G' H' σ' .non I f rfl
  |brk=>cases e3
  |cont=>cases e3
  |ret r'=>
   cases e3
   refine fun G' H' σ' v I f rr=>fin G' H' σ' v I f ?_
   cases r with
   |val d=>exact rr
   |own ds=>exact rr
   |emp=>exact rr
   |two _ _=>exact rr
   |tre _=>exact rr
   |ptr _=>exact rr
   |par ds=>exact rr
theorem fnM_ok {st:Stmt}{f:Addr}{m:MS}(F:Fun K x qual st f fd)(S:FnScope N ps (zaG st))(hn:ps.length=n)(hN:n<=N.length)
  (body:∀(cdv:Value) (A:Around) (outer:List Env) (s:Shared) (H:Hp) (E:XK),Room k (A.deeper (envOfC qual (zaG st) s.heap.objs.size f cdv))->SSs (cxOf CX0 P w K mg base N qual (zaG st) f cdv A outer s H E).nox (zcl st) m):
  FnOk P w K mg base CX0 (k+1) f fd ps (spM K n (fM N.length m)):=by
 refine F.ok S (fun vs H Q E h=>?_) (fun cdv A outer s H vs Q E hr h=>?_)
 ·obtain⟨G,l,xs,cs,ws,ds,r,out,rfl,_,h2,_,_,_,_,h4,_⟩:=h
  rw[List.length_cons,h4.length,h2,hn]
 ·obtain⟨G,l,xs,cs,ws,ds,r,out,rfl,e1,h2,fz,hg,hl,rc,h4,kk⟩:=h
  obtain⟨t,pt,so⟩:=body cdv A outer s H E hr
  refine⟨t,pt,?_⟩
  obtain⟨⟨fl,ρ'⟩,e2,e3⟩:=zad e1
  refine so ⟨G,H,[(0,l)]⟩ G H _ _ fl ρ' _ (SI.startM fz hg hl rc h4 (by lia)) e2 ?_
  have fin:∀G' H' σ' v,ρ'[0]? =some (.par out)->SI K ⟨G,H,[(0,l)]⟩ G' H' σ' ρ'->Fz G G'->ResF K G' H' H v r->Q v H':=fun G' H' σ' v e0 I f rr=>by
   obtain⟨l',ys,k1,k2,k3,k4,k5⟩:=I.slot 0 _ e0
   have:l'=l:=by simpa using k5
   subst this
   exact kk G' H' v ys f I.fz I.new (fun b o hb e=>I.keep b o e (fun i hm=>by simp at hm;exact hb hm.2)) k2 k3 k4 rr
  cases e0:ρ'[0]? with
  |none=>rw[e0]at e3;cases fl<;>cases e3
  |some s0=>
   rw[e0]at e3
   cases s0 with
   |emp=>cases fl<;>cases e3
   |two _ _=>cases fl<;>cases e3
   |tre _=>cases fl<;>cases e3
   |ptr _=>cases fl<;>cases e3
   |val d=>cases fl<;>cases e3
   |own d=>cases fl<;>cases e3
   |par o2=>
    cases fl with
    |next=>cases e3;exact fun G' H' σ' I f=>fin G' H' σ' .non e0 I f rfl
    |brk=>cases e3
    |cont=>cases e3
    |ret r'=>
     cases e3
     refine fun G' H' σ' v I f rr=>fin G' H' σ' v e0 I f ?_
     cases r with
     |val d=>exact rr
     |own ds=>exact rr
     |emp=>exact rr
     |two _ _=>exact rr
     |tre _=>exact rr
     |ptr _=>exact rr
     |par ds=>exact rr
end
structure FD (P:Program) (w:World) (K:W.Frag) (mg:Str->Option Value) (base:Heap) (k:Nat) (x:Str) (sp:Sp):Prop where
 ex:∃f fd ps,FnOk P w K mg base CX0 k f fd ps sp/\mg x=some (.ref f)/\W.keepIn K (.ref f)=true/\Binds K fd ps []
theorem zm8 (nw:∀b o,G' b=some o->G b≠none\/H b=none)(kp:Fz H H'):∀(i:Nat) (s:Sl) (a:Addr),ρ[i]? =some s->OwS K G H σ[i]? a s->G a=none->H a≠none->G' a=none/\H' a=H a:=fun i s a _ _ g h=>by
 obtain⟨u,hu⟩:=Option.ne_none_iff_exists'.mp h
 refine⟨?_,(kp a u hu).trans hu.symm⟩
 cases q:G' a with
 |none=>rfl
 |some u=>
  rcases nw a u q with z|z
  ·exact absurd g z
  ·exact absurd z h
theorem SI.grow (I:SI K B G H σ ρ)(f:Fz G G')(fz:Fz G' H')(nw:∀b o,G' b=some o->G b≠none\/H b=none)(kp:Fz H H'):SI K B G' H' σ ρ:=
 I.move fz f (fun b o e=>by
  rcases nw b o e with h|h
  ·cases q:G b with
   |none=>exact absurd q h
   |some u=>exact I.new b u q
  ·exact .inr (I.there b h)) (fun b o e n=>kp b o (I.keep b o e n)) (fun b e=>I.there b (kp.free e)) (zm8 nw kp)
theorem SI.own_ne (I:SI K B G H σ ρ)(hp:H p=none)(nw:∀b o,G' b=some o->G b≠none\/H b=none)(kp:Fz H H'):Nw K G' H' σ ρ p:=I.nw_move (I.nw hp) (zm8 nw kp)
noncomputable def zaz (F:List D->Option Sl)(ma:MA):ME:=fun ρ=>(ma ρ).bind fun p=>(F p.1).bind fun r=>match r with
 | .val d=>some (d,p.2)
 | .own ds=>some (.lst ds,p.2)
 |_=>none
noncomputable def oCall (F:List D->Option Sl)(ma:MA):MO:=fun ρ=>(ma ρ).bind fun p=>(F p.1).bind fun r=>match r with
 | .own ds=>some (ds,p.2)
 |_=>none
section
variable {X:Cx} {x:Str} {p pos:Pos} {e:Expr} {es:List Expr} {ma:MA} {k k' n:Nat} {F:List D->Option Sl}
theorem zam (fd:FD X.prog X.w X.K X.mg X.base k x (spP X.K n F))(hr:Room k' X.A)(ha:SA X (e::es) ma)(hn:autoParam ((e::es).length=n) zu2._auto_1)(hk:autoParam (k<=k') zu1._auto_1)(hg:autoParam (Gl X x) zu2._auto_1)(hdb:autoParam ((x==("__debug__":Str))=false) zu1._auto_1)
  (he:autoParam (starEach (e::es) X.env=(false,eval e X.env)::starEach es X.env) zu2._auto_1) (hpl:autoParam ((backTo pos (starEach es X.env)).any (·.1)=false) zu2._auto_1) (hlen:∀ρ as ρ',ma ρ=some (as,ρ')->as.length=n):SE X (.Call (.Name x p) (e::es) [] pos) (zaz F ma):=by
 obtain⟨f,fdd,ps,G0,h1,h2,h3⟩:=fd.ex
 obtain⟨t,pa,sa⟩:=ha
 refine⟨_,ziq G0 (hr.mono hk) hg h1 h2 h3 .nil zn1 pa hdb he hpl,fun B G H σ ρ d ρ' Q I hm kk=>?_⟩
 obtain⟨⟨as,ρ1⟩,e1,hm⟩:=zad hm
 obtain⟨r,e2,hm⟩:=zad hm
 refine sa B G H σ ρ as ρ1 _ I e1 fun G1 H1 vs I1 f1 r1=>?_
 show spP X.K n F (vs++[]) H1 Q E0
 rw[List.append_nil]
 refine⟨G1,as,r,e2,hlen ρ as ρ1 e1,I1.fz,r1,fun G2 H2 v f2 fz2 nw kp rr=>?_⟩
 have I2:=I1.grow f2 fz2 nw kp
 cases r with
 |val d'=>cases hm;exact kk G2 H2 v I2 (f1.trans f2) rr
 |own ds=>
  cases hm
  obtain⟨l,xs,rfl,g3,h3,r3,b3⟩:=rr
  obtain⟨I3,f3,r4⟩:=zkH I2 g3 h3 r3 (I1.there l b3) (I1.own_ne b3 nw kp)
  exact kk _ H2 _ I3 (f1.trans (f2.trans f3)) r4
 |emp=>cases hm
 |two _ _=>cases hm
 |tre _=>cases hm
 |ptr _=>cases hm
 |par _=>cases hm
theorem so_call (fd:FD X.prog X.w X.K X.mg X.base k x (spP X.K n F))(hr:Room k' X.A)(ha:SA X (e::es) ma)(hn:autoParam ((e::es).length=n) zu2._auto_1)(hk:autoParam (k<=k') zu1._auto_1)(hg:autoParam (Gl X x) zu2._auto_1)(hdb:autoParam ((x==("__debug__":Str))=false) zu1._auto_1)
  (he:autoParam (starEach (e::es) X.env=(false,eval e X.env)::starEach es X.env) zu2._auto_1) (hpl:autoParam ((backTo pos (starEach es X.env)).any (·.1)=false) zu2._auto_1) (hlen:∀ρ as ρ',ma ρ=some (as,ρ')->as.length=n):SO X (.Call (.Name x p) (e::es) [] pos) (oCall F ma):=by
 obtain⟨f,fdd,ps,G0,h1,h2,h3⟩:=fd.ex
 obtain⟨t,pa,sa⟩:=ha
 refine⟨_,ziq G0 (hr.mono hk) hg h1 h2 h3 .nil zn1 pa hdb he hpl,fun B G H σ ρ d ρ' Q I hm kk=>?_⟩
 obtain⟨⟨as,ρ1⟩,e1,hm⟩:=zad hm
 obtain⟨r,e2,hm⟩:=zad hm
 refine sa B G H σ ρ as ρ1 _ I e1 fun G1 H1 vs I1 f1 r1=>?_
 show spP X.K n F (vs++[]) H1 Q E0
 rw[List.append_nil]
 refine⟨G1,as,r,e2,hlen ρ as ρ1 e1,I1.fz,r1,fun G2 H2 v f2 fz2 nw kp rr=>?_⟩
 have I2:=I1.grow f2 fz2 nw kp
 cases r with
 |val d'=>cases hm
 |own ds=>
  cases hm
  obtain⟨l,xs,rfl,g3,h3,r3,b3⟩:=rr
  exact kk G2 H2 l xs I2 (f1.trans f2) g3 h3 r3 (I1.there l b3) (I1.own_ne b3 nw kp)
 |emp=>cases hm
 |two _ _=>cases hm
 |tre _=>cases hm
 |ptr _=>cases hm
 |par _=>cases hm
end
noncomputable def aLen (ma:MA)(n:Nat):Prop:=∀ρ as ρ',ma ρ=some (as,ρ')->as.length=n
theorem zaj:aLen aNil 0:=fun ρ as ρ' h=>by cases h;rfl
theorem zac {m:ME}{r:MA}(h:aLen r n):aLen (zaf m r) (n+1):=fun ρ as ρ' e=>by
 obtain⟨⟨d,ρ1⟩,_,h2⟩:=zad e
 obtain⟨⟨ds,ρ2⟩,e3,e4⟩:=zau h2
 cases e4
 rw[List.length_cons,h ρ1 ds ρ2 e3]
noncomputable def zbx (F:List D->List D->Option (Sl×List D))(j:Nat)(ma:MA):ME:=fun ρ=>if(ρ[j]?.bind Sl.items).isSome then(ma ρ).bind fun p=>p.2[j]?.bind fun s=>s.items.bind fun cs=>(F cs p.1).bind fun r=>match r.1 with
 | .val d=>some (d,p.2.set j (s.put r.2))
 | .own ds=>some (.lst ds,p.2.set j (s.put r.2))
 |_=>none else none
theorem SI.growW (I:SI K B G H σ ρ)(e:ρ[j]? =some s)(q:s.items=some cs)(hl:σ[j]? =some (some (.ref l)))
  (f:Fz G G') (fz:Fz G' H') (nw:∀b o,G' b=some o->G b≠none\/H b=none) (kp:∀b o,b≠l->H b=some o->H' b=some o) (gl:G' l=none) (hl':H' l=some (.lst ys)) (r:RepL K G' ys out):SI K B G' H' σ (ρ.set j (s.put out)):=
 I.chgW e q hl fz f nw kp gl hl' r
theorem SI.own_neW (I:SI K B G H σ ρ)(e:ρ[j]? =some s)(q:s.items=some cs)(hl:σ[j]? =some (some (.ref l)))(hp:H p=none)
  (nw:∀b o,G' b=some o->G b≠none\/H b=none) (kp:∀b o,b≠l->H b=some o->H' b=some o):Nw K G' H' σ (ρ.set j (s.put out)) p:=fun i t et w=>by
 obtain⟨l',xs,e1,e2,e3,e4⟩:=I.wr e q
 rw[hl]at e1;cases e1
 have hpl:p≠l:=fun z=>by rw[z,e3]at hp;cases hp
 by_cases z:i=j
 ·subst z
  rw[List.getElem?_set,if_pos rfl]at et
  split at et
  ·cases et
   have:=(zbs (zg1 q out)).mp w
   rw[hl]at this
   exact hpl (V.ref.inj (Option.some.inj (Option.some.inj this))).symm
  ·cases et
 ·rw[List.getElem?_set_ne (Ne.symm z)]at et
  have sl:=I.slot i t et
  refine(sl.own (sl.back (fun a w g h=>?_) w)).2.1 hp
  have na:a≠l:=fun w'=>by subst w';exact I.dis i j t s a z et e w ((zbs q).mpr hl)
  obtain⟨u,hu⟩:=Option.ne_none_iff_exists'.mp h
  refine⟨?_,(kp a u na hu).trans hu.symm⟩
  cases q2:G' a with
  |none=>rfl
  |some u=>
   rcases nw a u q2 with z|z
   ·exact absurd g z
   ·exact absurd z h
section
variable {X:Cx} {x y:Str} {p py pos:Pos} {es:List Expr} {ma:MA} {k k' n:Nat} {F:List D->List D->Option (Sl×List D)}
theorem soundM {t:TA}{Q:VK}(sa:∀B G H σ ρ ds ρ' (Q:List V->Hp->Prop),SI X.K B G H σ ρ->ma ρ=some (ds,ρ')->(∀G' H' vs,SI X.K B G' H' σ ρ'->Fz G G'->RepL X.K G' vs ds->Q vs H')->t σ H Q)
  (hlen:∀ρ as ρ',ma ρ=some (as,ρ')->as.length+1=n) (I:SI X.K B G H σ ρ) {ds0:List D} (h0:ρ[j]?.bind Sl.items=some ds0) {as:List D} {ρ1:R} (e1:ma ρ=some (as,ρ1)) {s:Sl} (e2:ρ1[j]? =some s) {cs:List D} (e3:s.items=some cs)
  {r:Sl} {out:List D} (e4:F cs as=some (r,out))
  (kk:∀G' H' v,SI X.K B G' H' σ (ρ1.set j (s.put out))->Fz G G'->True->(∃H1,ResF X.K G' H' H1 v r/\(∀b,H1 b=none->B.H b=none)/\∀b,H1 b=none->Nw X.K G' H' σ (ρ1.set j (s.put out)) b)->Q v H'):
  tCall (spM X.K n F) [] E0 (tCons (tVar j) t) σ H Q:=by
 obtain⟨s0,k0,q0⟩:=zad h0
 obtain⟨l,xs0,h1,h2,h3,h4⟩:=I.wr k0 q0
 refine⟨.ref l,h1,sa B G H σ ρ as ρ1 _ I e1 fun G1 H1 vs I1 f1 r1=>?_⟩
 show spM X.K n F ((.ref l::vs)++[]) H1 Q E0
 rw[List.append_nil]
 obtain⟨l',xs,m1,m2,m3,m4⟩:=I1.wr e2 e3
 rw[h1]at m1;cases m1
 refine⟨G1,l,xs,cs,vs,as,r,out,rfl,e4,hlen ρ as ρ1 e1,I1.fz,m2,m3,m4,r1,fun G2 H2 v ys f2 fz2 nw kp gl hl r2 rr=>?_⟩
 exact kk G2 H2 v (I1.growW e2 e3 h1 f2 fz2 nw kp gl hl r2) (f1.trans f2) trivial ⟨H1,rr,fun b hb=>I1.there b hb,fun b hb=>I1.own_neW e2 e3 h1 hb nw kp⟩
theorem zaN (j:Nat)(fd:FD X.prog X.w X.K X.mg X.base k x (spM X.K n F))(hr:Room k' X.A)(ha:SA X es ma)(hlen:∀ρ as ρ',ma ρ=some (as,ρ')->as.length+1=n)(hN:autoParam (X.N[j]? =some y) zu2._auto_1)(hv:autoParam (Vis X.env.scope y) zu6._auto_1)(hd:autoParam ((y==("__debug__":Str))=false) zu1._auto_1)
  (hcd:autoParam ((y==("__classdict__":Str))=false) zu1._auto_1) (hk:autoParam (k<=k') zu1._auto_1) (hg:autoParam (Gl X x) zu2._auto_1) (hdb:autoParam ((x==("__debug__":Str))=false) zu1._auto_1)
  (he:autoParam (starEach (.Name y py::es) X.env=(false,eval (.Name y py) X.env)::starEach es X.env) zu2._auto_1) (hpl:autoParam ((backTo pos (starEach es X.env)).any (·.1)=false) zu2._auto_1):SE X (.Call (.Name x p) (.Name y py::es) [] pos) (zbx F j ma):=by
 obtain⟨f,fdd,ps,G0,h1,h2,h3⟩:=fd.ex
 obtain⟨t,pa,sa⟩:=ha
 refine⟨_,ziq G0 (hr.mono hk) hg h1 h2 h3 .nil zn1 (zcn (za6 hN hv hd hcd) pa he) hdb he hpl,fun B G H σ ρ d ρ' Q I hm kk=>?_⟩
 unfold zbx at hm
 split at hm
 ·rename_i hso
  obtain⟨ds0,hso⟩:=Option.isSome_iff_exists.mp hso
  obtain⟨⟨as,ρ1⟩,e1,hm⟩:=zad hm
  obtain⟨s,e2,hm⟩:=zad hm
  obtain⟨cs,e3,hm⟩:=zad hm
  obtain⟨⟨r,out⟩,e4,hm⟩:=zad hm
  refine soundM sa hlen I hso e1 e2 e3 e4 fun G' H' v I' f' _ ⟨H1,rr,bb,nn⟩=>?_
  cases r with
  |val d'=>cases hm;exact kk G' H' v I' f' rr
  |own ds=>
   cases hm
   obtain⟨l,xs,rfl,g3,h3,r3,b3⟩:=rr
   obtain⟨I3,f3,r4⟩:=zkH I' g3 h3 r3 (bb l b3) (nn l b3)
   exact kk _ H' _ I3 (f'.trans f3) r4
  |emp=>cases hm
  |two _ _=>cases hm
  |tre _=>cases hm
  |ptr _=>cases hm
  |par _=>cases hm
 ·cases hm
end
noncomputable def zfk (env:Env)(cs:List (Str×Addr))(x:Str×NameKind):List (Str×Addr):=if x.2== .free then(x.1,(env.cells.lookup x.1).getD 0)::cs else cs
noncomputable def clOf (scope:Scope)(env:Env):List (Str×Addr):=scope.names.foldl (zfk env) []
theorem zhs:∀(names:List (Str×NameKind)) (cs:List (Str×Addr)),(∀y∈names,y.2= .free->∃c,env.cells.lookup y.1=some c)->
  (forIn names cs (fun x r=>if x.2==NameKind.free then do let a<-cellOf env x.1;pure (ForInStep.yield ((x.1,a)::r))else pure (ForInStep.yield r)):Sem (List (Str×Addr)))=pure (names.foldl (zfk env) cs)
 |[],cs,_=>rfl
 |(n,k)::r,cs,h=>by
  have ih:=fun cs'=>zhs r cs' (fun y hy=>h y (List.mem_cons_of_mem _ hy))
  rw[List.forIn_cons,List.foldl_cons]
  by_cases hk:(k==NameKind.free)=true
  ·obtain⟨c,hc⟩:=h (n,k) List.mem_cons_self (by simpa using hk)
   have e:zfk env cs (n,k)=(n,c)::cs:=by unfold zfk;simp[hk,hc]
   rw[e,<-ih]
   simp only[hk,if_true]
   unfold cellOf
   simp only at hc
   rw[hc]
   rfl
  ·have e:zfk env cs (n,k)=cs:=by unfold zfk;simp[hk]
   rw[e,<-ih]
   simp only[hk]
   rfl
theorem zmA {env:Env}(h:∀y∈scope.names,y.2= .free->∃c,env.cells.lookup y.1=some c):closureFor scope env=pure (clOf scope env):=by
 unfold closureFor clOf
 have e:=zhs (env:=env) scope.names [] h
 simp only[bind_pure]
 exact e
theorem zdE:∀{names:List (Str×NameKind)} {cs:List (Str×Addr)},(∀y∈names,y.2= .free->∃c,env.cells.lookup y.1=some c)->(cs.lookup x=some c->env.cells.lookup x=some c)->
  (names.foldl (zfk env) cs).lookup x=some c->env.cells.lookup x=some c
 |[],cs,_,h0,h=>h0 h
 |(n,k)::r,cs,hn,h0,h=>by
  rw[List.foldl_cons]at h
  refine zdE (names:=r) (fun y hy=>hn y (List.mem_cons_of_mem _ hy)) ?_ h
  intro q
  unfold zfk at q
  split at q
  ·rename_i hk
   obtain⟨c',hc⟩:=hn (n,k) List.mem_cons_self (by simpa using hk)
   rw[List.lookup_cons]at q
   simp only at hc
   by_cases z:(x==n)=true
   ·rw[z]at q
    have zz:x=n:=by simpa using z
    subst zz
    simp only[hc,Option.getD_some]at q
    rw[hc];exact q
   ·have z':(x==n)=false:=by simpa using z
    rw[z']at q;exact h0 q
  ·exact h0 q
theorem zfo:∀{names:List (Str×NameKind)} {cs:List (Str×Addr)},((x,NameKind.free)∈names\/(cs.lookup x).isSome=true)->((names.foldl (zfk env) cs).lookup x).isSome=true
 |[],cs,h=>by
  rcases h with h|h
  ·simp at h
  ·exact h
 |(n,k)::r,cs,h=>by
  rw[List.foldl_cons]
  refine zfo (names:=r) ?_
  rcases h with h|h
  ·rcases List.mem_cons.mp h with h|h
   ·cases h
    refine .inr ?_
    unfold zfk
    simp
   ·exact .inl h
  ·refine .inr ?_
   unfold zfk
   split
   ·rw[List.lookup_cons]
    by_cases z:(x==n)=true
    ·rw[z];rfl
    ·have z':(x==n)=false:=by simpa using z
     rw[z'];exact h
   ·exact h
theorem zh7:∀{names:List (Str×NameKind)} {n:Nat} {acc:List (Str×Addr)},(cellsFrom n names acc).lookup x=some c->(n<=c/\(x,NameKind.cell)∈names)\/acc.lookup x=some c
 |[],n,acc,h=> .inr h
 |(m,k)::r,n,acc,h=>by
  unfold cellsFrom at h
  split at h
  ·rename_i hk
   have hk':k= .cell:=by simpa using hk
   subst hk'
   rcases zh7 h with⟨h1,h2⟩|h1
   ·exact .inl ⟨Nat.le_of_succ_le h1,List.mem_cons_of_mem _ h2⟩
   ·rw[List.lookup_cons]at h1
    cases q:x==m with
    |true=>
     rw[q]at h1
     cases h1
     rw[beq_iff_eq.mp q]
     exact .inl ⟨Nat.le_refl _,List.mem_cons_self⟩
    |false=>rw[q]at h1;exact .inr h1
  ·rcases zh7 h with⟨h1,h2⟩|h1
   ·exact .inl ⟨h1,List.mem_cons_of_mem _ h2⟩
   ·exact .inr h1
theorem zlI:∀{names:List (Str×NameKind)} {n:Nat} {acc:List (Str×Addr)},(x,NameKind.cell)∉names->(cellsFrom n names acc).lookup x=acc.lookup x
 |[],n,acc,_=>rfl
 |(m,k)::r,n,acc,h=>by
  unfold cellsFrom
  split
  ·rename_i hk
   have hk':k= .cell:=by simpa using hk
   subst hk'
   rw[zlI fun z=>h (List.mem_cons_of_mem _ z),List.lookup_cons]
   cases q:x==m with
   |true=>exact absurd (by rw[beq_iff_eq.mp q];exact List.mem_cons_self) h
   |false=>rfl
  ·exact zlI fun z=>h (List.mem_cons_of_mem _ z)
theorem zlt:∀{names:List (Str×NameKind)} {n:Nat} {acc:List (Str×Addr)},(x,NameKind.cell)∈names->∃c,(cellsFrom n names acc).lookup x=some c/\n<=c
 |(m,k)::r,n,acc,h=>by
  unfold cellsFrom
  by_cases hr:(x,NameKind.cell)∈r
  ·split
   ·obtain⟨c,h1,h2⟩:=zlt (n:=n+1) (acc:=(m,n)::acc) hr
    exact⟨c,h1,Nat.le_of_succ_le h2⟩
   ·exact zlt hr
  ·rcases List.mem_cons.mp h with e|e
   ·cases e
    rw[if_pos (beq_self_eq_true _),zlI hr,List.lookup_cons,beq_self_eq_true]
    exact⟨n,rfl,Nat.le_refl _⟩
   ·exact absurd e hr
theorem zop:∀{names:List (Str×NameKind)} {n:Nat} {acc:List (Str×Addr)},(∀x c,acc.lookup x=some c->c<n)->(∀x y c,acc.lookup x=some c->acc.lookup y=some c->x=y)->
  ∀x y c,(cellsFrom n names acc).lookup x=some c->(cellsFrom n names acc).lookup y=some c->x=y
 |[],n,acc,_,hi=>hi
 |(m,k)::r,n,acc,hl,hi=>by
  unfold cellsFrom
  split
  ·refine zop (fun x c h=>?_) (fun x y c h1 h2=>?_)
   ·rw[List.lookup_cons]at h
    cases q:x==m with
    |true=>rw[q]at h;cases h;exact Nat.lt_succ_self _
    |false=>rw[q]at h;exact Nat.lt_succ_of_lt (hl x c h)
   ·rw[List.lookup_cons]at h1 h2
    cases q:x==m with
    |true=>
     rw[q]at h1
     cases h1
     cases q2:y==m with
     |true=>rw[beq_iff_eq.mp q,beq_iff_eq.mp q2]
     |false=>rw[q2]at h2;exact absurd (hl y n h2) (Nat.lt_irrefl _)
    |false=>
     rw[q]at h1
     cases q2:y==m with
     |true=>rw[q2]at h2;cases h2;exact absurd (hl x n h1) (Nat.lt_irrefl _)
     |false=>rw[q2]at h2;exact hi x y c h1 h2
  ·exact zop hl hi
theorem zkL:∀{names:List (Str×NameKind)} {h:Heap} {acc:List (Str×Addr)},(∀x c,acc.lookup x=some c->∃v,h.IsCell c v)->∀x c,(cellsFrom h.objs.size names acc).lookup x=some c->∃v,(pushCells h names).IsCell c v
 |[],h,acc,ha=>ha
 |(m,k)::r,h,acc,ha=>by
  unfold cellsFrom pushCells
  split
  ·intro x c e
   rw[<-Heap.size_push h {cls:= .type "cell",data:= .cell none}]at e
   refine zkL (fun y d q=>?_) x c e
   rw[List.lookup_cons]at q
   cases z:y==m with
   |true=>rw[z]at q;cases q;exact⟨none,_,Heap.get?_push_size _ rfl,rfl⟩
   |false=>
    rw[z]at q
    obtain⟨v,hv⟩:=ha y d q
    exact⟨v,hv.keeps fun b o e=>Heap.get?_push_of_some _ e⟩
  ·exact zkL ha
theorem zk8 {M:Model}{s:Shared}{globals:Addr}{Q:Env->Shared->Prop}
  (hQ : ∀ h' : Heap, h'.Ns s.heap.objs.size (fun _ => none) -> (∀ a o, s.heap.get? a = some o -> h'.get? a = some o) ->
   ((∀x c,cl.lookup x=some c->∃v,s.heap.IsCell c v)->∀x c,(cellsFrom (s.heap.objs.size+1) scope.names cl).lookup x=some c->∃v,h'.IsCell c v)->
   Q (newEnv scope s.heap.objs.size globals (cellsFrom (s.heap.objs.size+1) scope.names cl) qual none .none (some env) builtinsNs) {s with heap:=h'}):
  wpAny M A (newFunctionEnv scope globals cl [] qual none .none (some env)) Q E s:=by
 simp only[newFunctionEnv,Option.isSome_some,if_true]
 refine wpAny_bind (wpAny_alloc ?_)
 refine wpAny_bind (wpAny_layCells _ (fun name kind cells=>by cases hkc:kind==NameKind.cell<;>simp[hkc]) _ _ _ _ ?_)
 rw[show({s with heap:=s.heap.push {cls:= .type "dict",data:= .dict #[]}}:Shared).heap.objs.size=s.heap.objs.size+1 from Heap.size_push ..]
 refine wpAny_bind ?_
 rw[List.forIn_nil]
 refine wpAny_pure (wpAny_pure (hQ _ ((Heap.Ns.new s.heap (.type "dict")).keeps (pushCells_keeps _ _)) (fun a o e=>pushCells_keeps _ _ a o (Heap.get?_push_of_some _ e)) fun hc x c e=>?_))
 rw[<-Heap.size_push s.heap {cls:= .type "dict",data:= .dict #[]}]at e
 refine zkL (fun y d q=>?_) x c e
 obtain⟨v,hv⟩:=hc y d q
 exact⟨v,hv.keeps fun b o e=>Heap.get?_push_of_some _ e⟩
noncomputable def clC (scope:Scope)(env:Env)(C:Addr):List (Str×Addr):=cellsFrom (C+1) scope.names (clOf scope env)
noncomputable def ownC (scope:Scope)(x:Str):Bool:=match scope.names.lookup x with
 |some .cell=>true
 |_=>false
noncomputable def cxC (X:Cx)(N:List Str)(scope:Scope)(C:Addr)(s:Shared)(H:Hp)(fp:List Addr):Cx:=
 {X with N:=N,s₀:=s,H₀:=H,env:=compEnvC scope (clC scope X.env C) C X.env,outer:=X.stack,ex:=fp,fn:=ownC scope,pn:=[],xe:=fun _ _=>False}
structure BlkOk (X:Cx) (scope:Scope):Prop where
 kind:scope.kind= .function
 uniq:∀y∈scope.names,scope.names.lookup y.1=some y.2
 free:∀y∈scope.names,y.2= .free->X.env.kindOf y.1=some .cell\/X.env.kindOf y.1=some .free
theorem zfX {α:Type}{v:α}:∀{l:List (Str×α)},l.lookup x=some v->(x,v)∈l
 |[],h=>by simp at h
 |(n,w)::r,h=>by
  rw[List.lookup_cons]at h
  by_cases z:(x==n)=true
  ·rw[z]at h
   have zz:x=n:=by simpa using z
   subst zz
   cases h
   exact List.mem_cons_self
  ·have z':(x==n)=false:=by simpa using z
   rw[z']at h
   exact List.mem_cons_of_mem _ (zfX h)
theorem zdB {env:Env}{x:Str}:∀{names:List (Str×NameKind)},(names.map fun(n,k)=>if(k==NameKind.free&&env.scope.kind== .function&&env.kindOf n==some .cell)then(n,NameKind.cell)else(n,k)).lookup x=
  (names.lookup x).map fun k=>if(k==NameKind.free&&env.scope.kind== .function&&env.kindOf x==some .cell)then NameKind.cell else k
 |[]=>rfl
 |(n,k)::r=>by
  have ih:=zdB (env:=env) (x:=x) (names:=r)
  show List.lookup x ((if(k==NameKind.free&&env.scope.kind== .function&&env.kindOf n==some .cell)=true then(n,NameKind.cell)else(n,k))::_)=_
  cases hx:x==n with
  |true=>
   have zz:x=n:=by simpa using hx
   by_cases hc:(k==NameKind.free&&env.scope.kind== .function&&env.kindOf n==some .cell)=true
   ·rw[if_pos hc]
    simp only[List.lookup_cons,hx,Option.map_some]
    rw[zz,if_pos hc]
   ·rw[if_neg hc]
    simp only[List.lookup_cons,hx,Option.map_some]
    rw[zz,if_neg hc]
  |false=>
   by_cases hc:(k==NameKind.free&&env.scope.kind== .function&&env.kindOf n==some .cell)=true
   ·rw[if_pos hc];simp only[List.lookup_cons,hx];exact ih
   ·rw[if_neg hc];simp only[List.lookup_cons,hx];exact ih
section
variable {X:Cx} {pins:List (Addr×Obj)} {σ:St} {H:Hp} {s:Shared} {scope:Scope} {N:List Str} {fp:List Addr} {C:Addr}
theorem zis (I:Inv X pins σ H s)(b:BlkOk X scope):∀y∈scope.names,y.2= .free->∃c,X.env.cells.lookup y.1=some c:=fun y hy hf=>I.ok.has y.1 (b.free y hy hf)
theorem blk_vis (h:(relabel scope X.env).names.lookup x=some .cell\/(relabel scope X.env).names.lookup x=some .free):(x,NameKind.free)∈scope.names\/(x,NameKind.cell)∈scope.names:=by
 have e:(relabel scope X.env).names.lookup x=(scope.names.lookup x).map fun k=>if(k==NameKind.free&&X.env.scope.kind== .function&&X.env.kindOf x==some .cell)then NameKind.cell else k:=zdB
 rw[e]at h
 cases q:scope.names.lookup x with
 |none=>rw[q]at h;simp at h
 |some k=>
  have hm:=zfX q
  by_cases hk:k= .free
  ·subst hk;exact .inl hm
  ·rw[q]at h
   have hkf:(k==NameKind.free)=false:=by simpa using hk
   simp only[Option.map_some,hkf,Bool.false_and,Bool.false_eq_true,if_false,Option.some.injEq]at h
   rcases h with h|h
   ·subst h;exact .inr hm
   ·exact absurd h hk
theorem zgS (I:Inv X pins σ H s)(b:BlkOk X scope)(h:(clOf scope X.env).lookup x=some c):X.env.cells.lookup x=some c:=zdE (zis I b) (by simp) h
theorem zhc (I:Inv X pins σ H s)(b:BlkOk X scope)(h:(clC scope X.env C).lookup x=some c):C<c\/X.env.cells.lookup x=some c:=by
 rcases zh7 h with⟨h1,_⟩|h1
 ·exact .inl h1
 ·exact .inr (zgS I b h1)
theorem zlA (b:BlkOk X scope)(h:(x,NameKind.free)∈scope.names):(clC scope X.env C).lookup x=(clOf scope X.env).lookup x:=zlI fun z=>by
 have h1:=b.uniq _ h
 have h2:=b.uniq _ z
 simp only at h1 h2
 rw[h1]at h2
 cases h2
theorem blk_ok (I:Inv X pins σ H s)(b:BlkOk X scope)(hC:s.heap.objs.size<=C)(hf:∀b∈fp,FpOk X pins H b)(hfC:∀b∈fp,b<C):(cxC X N scope C s H fp).Ok where
 mod:=I.ok.mod
 kind:=b.kind
 glob:=I.ok.glob
 blt:=I.ok.blt
 above:=hC
 inj:=zop (fun x c h=>by
  obtain⟨v,hv⟩:=I.cell x c (zgS I b h)
  exact Nat.lt_succ_of_lt (Nat.lt_of_lt_of_le hv.lt hC)) fun x y c h1 h2=>I.ok.inj x y c (zgS I b h1) (zgS I b h2)
 has:=fun x hx=>by
  rcases blk_vis (x:=x) hx with hm|hm
  ·show ∃c,(clC scope X.env C).lookup x=some c
   rw[zlA b hm]
   exact Option.isSome_iff_exists.mp (zfo (.inl hm))
  ·obtain⟨c,h,_⟩:=zlt (n:=C+1) (acc:=clOf scope X.env) hm
   exact⟨c,h⟩
 cab:=fun x c h e=>by
  have h':ownC scope x=true:=h
  unfold ownC at h'
  split at h'
  ·rename_i q
   obtain⟨c',h1,h2⟩:=zlt (n:=C+1) (acc:=clOf scope X.env) (zfX q)
   have e':some c'=some c:=h1.symm.trans e
   cases e'
   exact Nat.le_trans hC (Nat.le_of_succ_le h2)
  ·cases h'
 hd:=I.ok.hd
 frames:=I.ok.frames
 stk:= .inl rfl
 exf:=fun a ha=>⟨Nat.ne_of_lt (hfC a ha),fun x c e z=>by
  rcases zhc I b e with q|q
  ·exact Nat.lt_asymm q (z ▸ hfC a ha)
  ·exact(hf a ha).2.2.2.2.1 x c q z⟩
 bs:=I.bs
 bsz:=Nat.le_trans I.ok.bsz I.sz
 noex:=fun a o e ha=>by
  rcases(hf a ha).2.2.2.1 with z|z
  ·exact I.ok.noex a o e z
  ·exact absurd (Nat.lt_of_lt_of_le (Heap.lt_size e) (Nat.le_trans I.ok.bsz z)) (Nat.lt_irrefl _)
 exfs:=fun a ha hs=>by
  rcases List.mem_cons.mp (I.stkSub a hs)with z|z
  ·exact(hf a ha).2.1 z
  ·exact(hf a ha).2.2.1 z
 funs:=I.stack
 frf:=I.stkFree
theorem zoy {tk:Nat}(I:Inv X pins σ H s)(b:BlkOk X scope)(hf:∀b∈fp,FpOk X pins H b)(hfs:∀b∈fp,b<s.heap.objs.size)
  (hns:h'.Ns s.heap.objs.size (fun _=>none)) (hk:∀a o,s.heap.get? a=some o->h'.get? a=some o) (hcl:∀x c,(clC scope X.env s.heap.objs.size).lookup x=some c->∃v,h'.IsCell c v) (hl:σc.length=N.length)
  (hσ:∀(i:Nat) (x:Str) (v:V),N[i]? =some x->σc[i]? =some (some v)->(x,NameKind.free)∈scope.names/\∃j:Nat,X.N[j]? =some x/\σ[j]? =some (some v)) (hloc:∀(i:Nat) (x:Str) (v:V),N[i]? =some x->σc[i]? =some (some v)->¬(relabel scope X.env).names.lookup x=some .local):
  Inv (cxC X N scope s.heap.objs.size s H fp) [] σc H {s with heap:=h',toks:=tk}:=by
 have ok:=blk_ok (N:=N) I b (Nat.le_refl _) hf hfs
 refine⟨ok,rfl,I.bare,Un.kept hk,⟨_,hns,fun i x v h1 h2 h3=>?_⟩,fun x c e=>?_,I.hok.fresh (Nat.le_refl _),fun x c e=>?_,fun p hp=>absurd (show p∈([]:List (Addr×Obj))from hp) (by simp),I.hok.kept hk,hl⟩
 ·obtain⟨hm,j,hj,hv⟩:=hσ i x v h1 h2
  have hkind:=b.free _ hm rfl
  obtain⟨m,hn,hloc'⟩:=I.loc
  have hvis:Vis X.env.scope x:=by
   rcases hkind with z|z
   ·exact .inr (.inl z)
   ·exact .inr (.inr z)
  obtain⟨u,ru,lk⟩:=hloc' j x v hj hv hvis
  refine⟨u,ru,?_⟩
  rcases lk with⟨z,_⟩|⟨_,c,ec,hc⟩
  ·exfalso
   rcases hkind with w|w<;>simp only at w<;>rw[z]at w<;>cases w
  ·refine .inr ⟨?_,c,?_,?_⟩
   ·rcases h3 with z|z|z
    ·exact absurd z (hloc i x v h1 h2)
    ·exact .inl z
    ·exact .inr z
   ·have hs:((clOf scope X.env).lookup x).isSome=true:=zfo (.inl hm)
    obtain⟨c',ec'⟩:=Option.isSome_iff_exists.mp hs
    have:=zdE (zis I b) (by simp) ec'
    rw[ec]at this
    cases this
    exact(zlA b hm).trans ec'
   ·obtain⟨o,ho,hd⟩:=hc
    exact⟨o,hk _ _ ho,hd⟩
 ·exact hcl x c e
 ·rcases zhc I b e with q|q
  ·exact I.hok.fresh (Nat.le_of_lt q)
  ·exact I.freeC x c q
theorem znD {h':Heap}{s1:Shared}(I:Inv X pins σ H s)(hf:∀b∈fp,FpOk X pins H b)(J:Inv (cxC X N scope s.heap.objs.size s H fp) [] σc H' s1)(hs:Heap.SameBut s.heap.objs.size s1.heap h'):Inv X pins σ H' {s1 with heap:=h'}:=by
 have kp:∀a o,a≠s.heap.objs.size->s1.heap.get? a=some o->h'.get? a=some o:=fun a o ha e=>hs.extBut a o ha e
 have free:H' s.heap.objs.size=none:=J.free
 have ntr:∀a u,H' a=some u->a≠s.heap.objs.size:=fun a u e z=>by rw[z,free]at e;cases e
 have lt:∀a o,s.heap.get? a=some o->a≠s.heap.objs.size:=fun a o e=>Nat.ne_of_lt (Heap.lt_size e)
 have u:Un (frs X.stack) fp H H' s.heap s1.heap:=J.base
 have u':Un (frs X.stack) fp H H' s.heap h':=by
  refine⟨fun a o e n hb hx=>kp a o (lt a o e) (u.keep a o e n hb hx),fun a o e n hb hx=>?_,u.free,fun a o e hx=>?_,u.tups,u.frzs,u.tbls⟩
  ·obtain⟨sl,q⟩:=u.slot a o e n hb hx
   exact⟨sl,kp a _ (lt a o e) q⟩
  ·obtain⟨o',q⟩:=u.there a o e hx
   exact⟨o',kp a _ (lt a o e) q⟩
 have hok:HOk X.prog X.w H' h':=fun a o e=>(J.hok a o e).stay (fun c v hc q=>by
  refine kp c v ?_ q
  rcases hc with rfl|hc
  ·exact ntr _ _ e
  ·exact ntr _ _ hc) (fun _ q=>q) fun _ _ q=>q
 obtain⟨hh,g,d,t,os'⟩:=s1
 have os:os'=s.os:=J.os
 subst os
 have z:=I.call (h':=h') (g':=g) (d':=d) (t':=t) (ch:=fp) u' hok J.bare (fun a ha=>⟨(hf a ha).2.2.2.1,(hf a ha).2.1,(hf a ha).2.2.2.2.1,(hf a ha).2.2.2.2.2⟩)
 exact z
end
noncomputable def PTs (X:Cx)(ifs:List Expr)(t:TT):Prop:=∀(pins:List (Addr×Obj)) (s:Shared) (σ:St) (H:Hp) (Q:Bool->Hp->Prop),Inv X pins σ H s->t σ H Q->
 wpAny (model X.prog X.w) X.A (forIn ifs true fun c r=>if r=true then do let ok<-isTrue c X.env (eval c X.env);pure (ForInStep.yield ok)else pure (ForInStep.yield r)) (TP X pins σ Q) X.xe s
theorem pts_nil:PTs X [] (fun _ H Q=>Q true H):=fun pins s σ H Q I h=>wpAny_tests_nil ⟨H,I,h⟩
theorem pts_one {c:Expr}{t:TT}(h:PT X c t):PTs X [c] t:=fun pins s σ H Q I hw=>wpAny_tests_one (h pins s σ H Q I hw)
theorem zkT {R:Result->Shared->Prop}{s:Shared}{elt target iter:Expr}{it acc:Value}(I:Nat->Shared->Prop)
  (turn : ∀ n s, I n s -> wpAny (model prog w) A (pyNext it) (fun r s₁ => match r with
   |none=>R (.ok .next) s₁
   | some v => wpAny (model prog w) A (letOwnedTupleGo target it v) (fun _ s₁' => wpAny (model prog w) A (assign target env v) (fun _ s₂ =>
     wpAny (model prog w) A (forIn ifs true fun c r=>if r=true then do let ok<-isTrue c env (eval c env);pure (ForInStep.yield ok)else pure (ForInStep.yield r)) (fun ok s₃=>
      if ok=true then wpAny (model prog w) A (eval elt env) (fun x s₄=>
       wpAny (model prog w) A (call (.builtin "list.append") [acc,x]) (fun _ s₅=>∃m,m<n/\I m s₅) (fun _ _=>False) s₄) (fun _ _=>False) s₃
      else ∃m,m<n/\I m s₃) (fun _ _=>False) s₂) (fun _ _=>False) s₁') (fun _ _=>False) s₁) (fun _ _=>False) s)
  (n:Nat) (h:I n s):codeAny (model prog w) A (.compLoop (.ListComp elt [⟨target,iter,ifs,0⟩] scope pos) 0 it acc env) R s:=by
 refine codeAny_loop rfl I (fun n s hI=>?_) n h
 show wpAny _ A ((compTurn (.ListComp elt [⟨target,iter,ifs,0⟩] scope pos) 0 it acc env).onRaise (fun x=>do noteFrame x env;theTreesLotGoes x)) _ _ s
 refine wpAny_noted ?_
 rw[compTurn_list]
 have no:∀{E:Value->Shared->Prop},∀x s',(fun(_:Value) (_:Shared)=>False) x s'->E x s':=fun _ _ z=>z.elim
 refine wpAny_bind (wpAny_standAt (wpAny_bind (wpAny_mono (turn n s hI) (fun r s₁ h₁=>?_) no)))
 cases r with
 |none=>exact wpAny_pure h₁
 |some v=>
  refine wpAny_bind (wpAny_mono h₁ (fun _ s₁' h₁'=>?_) no)
  refine wpAny_bind (wpAny_mono h₁' (fun _ s₂ h₂=>wpAny_bind (wpAny_mono h₂ (fun ok s₃ h₃=>?_) no)) no)
  cases ok with
  |false=>exact wpAny_pure ⟨rfl,h₃⟩
  |true=>
   exact wpAny_bind (wpAny_bind (wpAny_mono h₃ (fun x s₄ h₄=>wpAny_bind (wpAny_mono h₄ (fun _ s₅ h₅=>wpAny_pure (wpAny_pure ⟨rfl,h₅⟩)) no)) no))
noncomputable def tLC (σ0:St->St)(wi:TI)(g:Addr->Shared->Hp->List Addr->TG)(tt:Addr->Shared->Hp->List Addr->TT)(te:Addr->Shared->Hp->List Addr->TE):TE:=fun σ H Q=>wi σ H fun J H1=>∀D,H1 D=none->∃W:Nat->Nat->St->Hp->Prop,(∃m,W 0 m (σ0 σ) (upd H1 D (.lst [])))/\∀i m σ H,W i m σ H->
 (J.stop i H /\ Q (.ref D) H) \/ (J.go i H /\ ∀ C s₀ H₀ fp x H', J.yld i H x H' -> g C s₀ H₀ fp x σ H' fun σ2 H2 => tt C s₀ H₀ fp σ2 H2 fun ok H3 => if ok = true then te C s₀ H₀ fp σ2 H3 fun v H4 => ∃ xs, H4 D = some (.lst xs) /\ xs.length < sizeLine /\ ∃ m', m' < m /\ W (i + 1) m' σ2 (upd H4 D (.lst (xs ++ [v])))
  else ∃m',m'<m/\W (i+1) m' σ2 H3)
section
variable {X:Cx} {elt iter tg:Expr} {ifs:List Expr} {scope:Scope} {pos:Pos} {N:List Str} {σ0:St->St} {wi:TI} {g:Addr->Shared->Hp->List Addr->TG} {tt:Addr->Shared->Hp->List Addr->TT} {te:Addr->Shared->Hp->List Addr->TE}
structure Cap (X:Cx) (scope:Scope) (N:List Str) (σ0:St->St):Prop where
 len:∀σ,(σ0 σ).length=N.length
 src:∀(σ:St) (i:Nat) (x:Str) (v:V),N[i]? =some x->(σ0 σ)[i]? =some (some v)->(x,NameKind.free)∈scope.names/\∃j:Nat,X.N[j]? =some x/\σ[j]? =some (some v)
 loc:∀(σ:St) (i:Nat) (x:Str) (v:V),N[i]? =some x->(σ0 σ)[i]? =some (some v)->¬(relabel scope X.env).names.lookup x=some .local
theorem znM {E:Value->Shared->Prop}(hc:X.calm=true)(b:BlkOk X scope)(cap:Cap X scope N σ0)(hi:PI X tg iter wi)(hg:∀C s H fp,PG (cxC X N scope C s H fp) tg (g C s H fp))(ht:∀C s H fp,PTs (cxC X N scope C s H fp) ifs (tt C s H fp))(he:∀C s H fp,PE (cxC X N scope C s H fp) elt (te C s H fp))
  {pins:List (Addr×Obj)} {s:Shared} {σ:St} {H:Hp} {Q:VK} (I:Inv X pins σ H s) (h:tLC σ0 wi g tt te σ H Q) {QQ:Value->Shared->Prop} {p0:Pos}
  (hs:∀x,foldedSetIterable iter X.env x=pure x)
  (fin : match use with
   |none=>∀u s',EP X pins σ Q u s'->QQ u s'
   |some f=>∀(D:Addr) (fp:List Addr) (C:Addr) (H1 H':Hp) (σc:St) (s1 s':Shared),Inv X pins σ H1 s1->(∀b∈fp,FpOk X pins H1 b)->C=s1.heap.objs.size->Inv (cxC X N scope C s1 H1 fp) [] σc H' s'->Q (.ref D) H'->
     wpAny (model X.prog X.w) X.A (f (.ref D)) (fun _ s''=>∃m,s''.heap.Ns C m/\∀h',Heap.SameBut C s''.heap h'->QQ .none {s'' with heap:=h'}) X.xe s'):
  wpAny (model X.prog X.w) X.A (comprehension (.ListComp elt [⟨tg,iter,ifs,0⟩] scope pos) scope X.env p0 (newList []) false (eval iter X.env) use) QQ X.xe s:=by
 refine wpAny_comprehension_free (cl:=clOf scope X.env) (g:=⟨tg,iter,ifs,0⟩) (gs:=[]) rfl hs (zmA (zis I b)) b.kind (fun x hx hl=>hl ▸ b.uniq x hx) ?_
 refine thn (hi pins s σ H _ I h) fun v s1 h1=>thn h1 fun itv s2 h2=>?_
 obtain⟨it,fp,tn,J,H2,e,I2,T,st2,f2,h3⟩:=h2
 subst e
 refine wpAny_newObj_type ?_ (by show(0:Nat)<=sizeLine;exact Nat.zero_le _)
 have hD:H2 s2.heap.objs.size=none:=I2.fresh
 obtain⟨W,⟨m0,w0⟩,turn⟩:=h3 _ hD
 have I3:Inv X pins σ (upd H2 s2.heap.objs.size (.lst [])) {s2 with heap:=s2.heap.push {cls:= .type "list",data:= .seq ([]:List Value).toArray}}:=I2.lnew (t':=s2.toks) .nil (Nat.zero_le _)
 have f3:∀b∈fp,FpOk X pins (upd H2 s2.heap.objs.size (.lst [])) b:=fun b hb=>by
  obtain⟨a1,a2⟩:=f2 b hb
  obtain⟨o,ho,_⟩:=T.obj _ _ st2 b hb
  exact⟨by rw[zaq (Nat.ne_of_lt (Heap.lt_size ho))];exact a1,a2⟩
 have st3:tn 0 (s2.heap.push {cls:= .type "list",data:= .seq ([]:List Value).toArray}):=T.keep _ _ _ st2 fun b hb o e=>Heap.get?_push_of_some _ e
 generalize hs3:({s2 with heap:=s2.heap.push {cls:= .type "list",data:= .seq ([]:List Value).toArray}}:Shared)=s3 at I3
 have hs3':s3.heap=s2.heap.push {cls:= .type "list",data:= .seq ([]:List Value).toArray}:=by rw[<-hs3]
 rw[<-hs3']at st3
 have hfs:∀b∈fp,b<s3.heap.objs.size:=fun b hb=>by
  obtain⟨o,ho,_⟩:=T.obj _ _ st3 b hb
  exact Heap.lt_size ho
 show wpAny _ _ (newFunctionEnv scope X.env.globals (clOf scope X.env) [] X.env.qual none .none (some X.env)) _ _ s3
 refine zk8 fun h' hns hk hcl=>?_
 have hcl:=hcl fun x c e=>I3.cell x c (zgS I3 b e)
 generalize hDD:s2.heap.objs.size=DD at*
 have B0:Inv (cxC X N scope s3.heap.objs.size s3 (upd H2 DD (.lst [])) fp) [] (σ0 σ) (upd H2 DD (.lst [])) {s3 with heap:=h'}:=
  zoy (tk:=s3.toks) I3 b f3 hfs hns hk hcl (cap.len σ) (cap.src σ) (cap.loc σ)
 have stat:∀{H':Hp},(∀b∈fp,H' b=none)->∀b∈fp,FpOk (cxC X N scope s3.heap.objs.size s3 (upd H2 DD (.lst [])) fp) [] H' b:=fun hn b' hb=>by
  refine⟨hn b' hb,Nat.ne_of_lt (hfs b' hb),fun z=>?_,.inl hb,fun x c e=>?_,fun p hp=>absurd (show p∈([]:List (Addr×Obj))from hp) (by simp)⟩
  ·rcases List.mem_cons.mp (I3.stkSub b' z)with w|w
   ·exact(f3 b' hb).2.1 w
   ·exact(f3 b' hb).2.2.1 w
  ·intro z
   rcases zhc I3 b e with q|q
   ·exact Nat.lt_asymm q (z ▸ hfs b' hb)
   ·exact(f3 b' hb).2.2.2.2.1 x c q z
 have tn0:tn 0 h':=T.keep _ _ _ st3 fun b' hb o e=>hk b' o e
 have post:∀(s':Shared) (σc:St) (H':Hp),Inv (cxC X N scope s3.heap.objs.size s3 (upd H2 DD (.lst [])) fp) [] σc H' s'->Q (.ref DD) H'->compPost (model X.prog X.w) X.A X.xe use QQ (.ref DD) s3.heap.objs.size (.ok .next) s':=fun s' σc H' J' q=>by
  cases use with
  |none=>
   obtain⟨m,hn,_⟩:=J'.loc
   exact⟨m,hn,fun h'' hs''=>fin _ _ ⟨.ref DD,H',znD I3 f3 J' hs'',rfl,q⟩⟩
  |some f=>exact fin DD fp _ _ H' σc s3 s' I3 f3 rfl J' q
 have loop:codeAny (model X.prog X.w) X.A (.compLoop (.ListComp elt [⟨tg,iter,ifs,0⟩] scope pos) 0 (.ref it) (.ref DD) (compEnvC scope (clC scope X.env s3.heap.objs.size) s3.heap.objs.size X.env)) (compPost (model X.prog X.w) X.A X.xe use QQ (.ref DD) s3.heap.objs.size) {s3 with heap:=h'}:=by
  refine zkT (fun n s'=>∃i σ' H',Inv (cxC X N scope s3.heap.objs.size s3 (upd H2 DD (.lst [])) fp) [] σ' H' s'/\tn i s'.heap/\(∀b∈fp,H' b=none)/\W i n σ' H') ?_ m0 ⟨0,σ0 σ,_,B0,tn0,fun b' hb=>(f3 b' hb).1,w0⟩
  rintro n s5 ⟨i,σ5,H5,I5,st5,fr5,w5⟩
  rcases turn i n σ5 H5 w5 with⟨stop,qn⟩|⟨go,step⟩
  ·refine thn (T.done (cxC X N scope s3.heap.objs.size s3 (upd H2 DD (.lst [])) fp) rfl rfl rfl hc i [] s5 σ5 H5 (fun _ _=>False) I5 (stat fr5) st5 stop) fun r s6 ⟨hr,I6⟩=>?_
   subst hr
   exact post s6 σ5 H5 I6 qn
  ·refine thn (T.item (cxC X N scope s3.heap.objs.size s3 (upd H2 DD (.lst [])) fp) rfl rfl rfl hc i [] s5 σ5 H5 (fun _ _=>False) I5 (stat fr5) st5 go) fun r s6 ⟨u,hr,h6⟩=>?_
   subst hr
   refine thn h6 fun _ s7 ⟨x,H7,I7,r7,y7,st7,fr7⟩=>?_
   have I7':=I7.pinned (stat fr7) (T.obj _ _ st7)
   have again:∀{σ8:St} {H8:Hp} {s8:Shared} {m':Nat},Inv (cxC X N scope s3.heap.objs.size s3 (upd H2 DD (.lst [])) fp) ([]++zjW fp s7.heap) σ8 H8 s8->m'<n->W (i+1) m' σ8 H8->
     ∃m,m<n/\∃i σ' H',Inv (cxC X N scope s3.heap.objs.size s3 (upd H2 DD (.lst [])) fp) [] σ' H' s8/\tn i s8.heap/\(∀b∈fp,H' b=none)/\W i m σ' H':=fun{σ8 H8 s8 m'} I8 hm w8=>by
    refine⟨m',hm,i+1,σ8,H8,I8.unpinned,T.keep _ _ _ st7 fun b' hb o e=>(I8.pin (b',o) (List.mem_append_right _ (List.mem_append_right _ (zfV hb e)))).1,fun b' hb=>?_,w8⟩
    obtain⟨o,e,d⟩:=T.obj _ _ st7 b' hb
    exact(I8.pin (b',o) (List.mem_append_right _ (List.mem_append_right _ (zfV hb e)))).2.1
   refine thn (hg _ _ _ _ _ s7 σ5 H7 x u _ I7' r7 (step _ _ _ _ x H7 y7)) fun _ s8 ⟨σ8,H8,I8,q8⟩=>?_
   refine thn (ht _ _ _ _ _ s8 σ8 H8 _ I8 q8) fun ok s9 ⟨H9,I9,q9⟩=>?_
   cases ok with
   |false=>
    obtain⟨m',hm,w9⟩:=q9
    exact again I9 hm w9
   |true=>
    refine thn (he _ _ _ _ _ s9 σ8 H9 _ I9 q9) fun u10 s10 ⟨v10,H10,I10,r10,xs,hx,hz,m',hm,w10⟩=>?_
    refine thn (zie _ s10 σ8 H10 (.ref DD) [v10] (.ref DD) [u10] (fun v H'=>v= .non/\H'=upd H10 DD (.lst (xs++[v10]))) I10 rfl (.cons r10 .nil) ⟨DD,xs,v10,rfl,rfl,hx,hz,rfl,rfl⟩) fun _ s11 ⟨_,H11,I11,_,_,e11⟩=>?_
    subst e11
    exact again I11 hm w10
 exact codeAny_compStart_list loop (T.self _ _ _ _ _ tn0 loop)
theorem pe_lc (hc:X.calm=true)(b:BlkOk X scope)(cap:Cap X scope N σ0)(hi:PI X tg iter wi)(hg:∀C s H fp,PG (cxC X N scope C s H fp) tg (g C s H fp))(ht:∀C s H fp,PTs (cxC X N scope C s H fp) ifs (tt C s H fp))(he:∀C s H fp,PE (cxC X N scope C s H fp) elt (te C s H fp))
    (hs:autoParam (∀x,foldedSetIterable iter X.env x=pure x) zu9._auto_1):PE X (.ListComp elt [⟨tg,iter,ifs,0⟩] scope pos) (tLC σ0 wi g tt te):=by
  intro pins s σ H Q I h
  rw[eval_ListComp]
  exact znM (use:=none) (E:=X.xe) hc b cap hi hg ht he I h hs (fun u s' q=>q)
end
noncomputable def zcE (ρ:R):Bool:=ρ.all fun s=>match s with
 | .own _=>false
 | .par _=>false
 | .tre _=>false
 | .ptr _=>false
 |_=>true
theorem zi2 (h:zcE ρ=true){a:Addr}(e:ρ[i]? =some s):¬OwS K G H ov a s:=fun w=>by
 unfold zcE at h
 rw[List.all_eq_true]at h
 have:=h s (List.mem_of_getElem? e)
 cases s with
 |emp=>exact w
 |two _ _=>exact w
 |val d=>exact w
 |_=>exact absurd (show false=true from this) Bool.false_ne_true
theorem zg6 (h:zcE ρ=true)(e:ρ[i]? =some s):(∀t,s≠ .tre t)/\∀t,s≠ .ptr t:=by
 unfold zcE at h
 rw[List.all_eq_true]at h
 have:=h s (List.mem_of_getElem? e)
 constructor
 ·rintro t rfl;exact absurd (show false=true from this) Bool.false_ne_true
 ·rintro t rfl;exact absurd (show false=true from this) Bool.false_ne_true
theorem zgO (h:zcE ρ=true):¬Wr ρ i:=fun⟨s,ds,e,q⟩=>by
 unfold zcE at h
 rw[List.all_eq_true]at h
 have:=h s (List.mem_of_getElem? e)
 cases s with
 |emp=>cases q
 |two _ _=>cases q
 |tre _=>cases q
 |ptr _=>cases q
 |val d=>cases q
 |own d=>exact absurd (show false=true from this) Bool.false_ne_true
 |par d=>exact absurd (show false=true from this) Bool.false_ne_true
structure VS (K:W.Frag) (G:Hp) (σ:St) (ρ:R):Prop where
 len:σ.length=ρ.length
 no:zcE ρ=true
 val:∀(i:Nat) d,ρ[i]? =some (.val d)->∃v,σ[i]? =some (some v)/\RepD K G v d
theorem VS.si (h:VS K G σ ρ)(fz:Fz G H):SI K ⟨G,H,[]⟩ G H σ ρ where
 fz:=fz
 g0:=Fz.refl G
 new:=fun b o e=> .inl (by show G b≠none;rw[e];simp)
 keep:=fun b o e _=>e
 there:=fun b e=>e
 ob:=fun i b m=>by cases m
 len:=h.len
 slot:=fun i s e=>by
  cases s with
  |emp=>trivial
  |two _ _=>trivial
  |tre t=>exact absurd rfl ((zg6 h.no e).1 t)
  |ptr t=>exact absurd rfl ((zg6 h.no e).2 t)
  |val d=>exact h.val i d e
  |own ds=>exact absurd ⟨_,ds,e,rfl⟩ (zgO h.no (i:=i))
  |par ds=>exact absurd ⟨_,ds,e,rfl⟩ (zgO h.no (i:=i))
 dis:=fun i j s _ a _ e _ w=>absurd w (zi2 h.no e)
theorem VS.of (I:SI K B G H σ ρ)(h:zcE ρ=true):VS K G σ ρ:=⟨I.len,h,fun i d e=>I.slot i _ e⟩
noncomputable def fz1 (i:Nat)(ρ:R):R:=match ρ[i]? with
 |some (.own ds)=>ρ.set i (.val (.lst ds))
 |_=>ρ
noncomputable def fzL:List Nat->R->R
 |[],ρ=>ρ
 |i::is,ρ=>fzL is (fz1 i ρ)
theorem SI.fz1 (I:SI K B G H σ ρ)(i:Nat):∃G',SI K B G' H σ (M.fz1 i ρ)/\Fz G G':=by
 unfold M.fz1
 cases e:ρ[i]? with
 |none=>exact⟨G,I,Fz.refl G⟩
 |some s=>
  cases s with
  |own ds=>obtain⟨l,xs,_,f,_,I'⟩:=I.freeze e;exact⟨_,I',f⟩
  |emp=>exact⟨G,I,Fz.refl G⟩
  |two _ _=>exact⟨G,I,Fz.refl G⟩
  |tre _=>exact⟨G,I,Fz.refl G⟩
  |ptr _=>exact⟨G,I,Fz.refl G⟩
  |val _=>exact⟨G,I,Fz.refl G⟩
  |par _=>exact⟨G,I,Fz.refl G⟩
theorem SI.fzL:∀(is:List Nat) {G:Hp} {ρ:R},SI K B G H σ ρ->∃G',SI K B G' H σ (M.fzL is ρ)/\Fz G G'
 |[],G,ρ,I=>⟨G,I,Fz.refl G⟩
 |i::is,G,ρ,I=>by
  obtain⟨G1,I1,f1⟩:=I.fz1 i
  obtain⟨G2,I2,f2⟩:=SI.fzL is I1
  exact⟨G2,I2,f1.trans f2⟩
noncomputable def capS (ρ:R)(i:Nat):Sl:=match ρ[i]? with
 |some (.val d)=> .val d
 |_=> .emp
theorem zms (ρ:R)(i:Nat):capS ρ i= .emp\/∃d,capS ρ i= .val d:=by
 unfold capS
 split
 ·exact .inr ⟨_,rfl⟩
 ·exact .inl rfl
noncomputable def capR (cap:List Nat)(t:Nat)(ρ:R):R:=cap.map (capS ρ)++List.replicate t .emp
noncomputable def capσ (cap:List Nat)(t:Nat)(σ:St):St:=cap.map (fun i=>(σ[i]?).join)++List.replicate t none
theorem zoL (I:SI K B G H σ ρ)(cap:List Nat)(t:Nat):VS K G (capσ cap t σ) (capR cap t ρ) where
 len:=by unfold capσ capR;simp
 no:=by
  unfold zcE capR
  rw[List.all_eq_true]
  intro s hs
  rcases List.mem_append.mp hs with h|h
  ·obtain⟨i,_,rfl⟩:=List.mem_map.mp h
   rcases zms ρ i with e|⟨d,e⟩
   ·rw[e]
   ·rw[e]
  ·rw[List.eq_of_mem_replicate h]
 val:=fun i d e=>by
  unfold capR at e
  by_cases hi:i<cap.length
  ·rw[List.getElem?_append_left (by simpa using hi),List.getElem?_map,List.getElem?_eq_getElem hi]at e
   have e':capS ρ cap[i]= .val d:=by simpa using e
   unfold capS at e'
   split at e'
   ·rename_i d' q
    cases e'
    obtain⟨v,h1,h2⟩:=I.slot _ _ q
    refine⟨v,?_,h2⟩
    unfold capσ
    rw[List.getElem?_append_left (by simpa using hi),List.getElem?_map,List.getElem?_eq_getElem hi]
    simp[h1]
   ·cases e'
  ·rw[List.getElem?_append_right (by simpa using hi),List.getElem?_replicate]at e
   split at e
   ·cases e
   ·cases e
noncomputable def zeM (f:D->R->Option (Option D×R)):List D->R->Option (List D×R)
 |[],ρ=>some ([],ρ)
 |d::ds,ρ=>(f d ρ).bind fun p=>(zeM f ds p.2).map fun q=>(p.1.toList++q.1,q.2)
noncomputable def zmK (g:D->R->Option R)(mt:MT)(me:ME):D->R->Option (Option D×R):=fun d ρ=>(g d ρ).bind fun ρ1=>(mt ρ1).bind fun p=>if p.1 then(me p.2).bind fun q=>if zcE q.2 then some (some q.1,q.2)else none else if zcE p.2 then some (none,p.2)else none
noncomputable def oLC (cap:List Nat)(t:Nat)(mi:MA)(g:D->R->Option R)(mt:MT)(me:ME):MO:=fun ρ=>(mi ρ).bind fun p=>if p.1.length<=16777216 then(zeM (zmK g mt me) p.1 (capR cap t (fzL cap p.2))).map fun q=>(q.1,fzL cap p.2)else none
noncomputable def STs (X:Cx)(ifs:List Expr)(m:MT):Prop:=
 ∃t,PTs X ifs t/\∀B G H σ ρ d ρ' (Q:Bool->Hp->Prop),SI X.K B G H σ ρ->m ρ=some (d,ρ')->(∀G' H',SI X.K B G' H' σ ρ'->Fz G G'->Q d H')->t σ H Q
noncomputable def zbV:MT:=fun ρ=>some (true,ρ)
theorem zaH:STs X [] zbV:=⟨_,pts_nil,fun B G H σ ρ d ρ' Q I hm k=>by cases hm;exact k G H I (Fz.refl G)⟩
theorem zon {c:Expr}(h:STt X c m):STs X [c] m:=let⟨t,p,s⟩:=h;⟨t,pts_one p,s⟩
noncomputable def blkB (env:Env)(scope:Scope):Bool:=(scope.names.all fun x=>scope.names.lookup x.1==some x.2&&(x.2 != .free||(env.kindOf x.1==some .cell||env.kindOf x.1==some .free)))
theorem zlp (hk:scope.kind= .function)(h:blkB X.env scope=true):BlkOk X scope:=by
 unfold blkB at h
 rw[List.all_eq_true]at h
 refine⟨hk,fun x hx=>?_,fun x hx hf=>?_⟩
 ·have:=h x hx
  simp only[Bool.and_eq_true,Bool.or_eq_true,bne_iff_ne,beq_iff_eq]at this
  exact this.1
 ·have:=h x hx
  simp only[Bool.and_eq_true,Bool.or_eq_true,bne_iff_ne,beq_iff_eq]at this
  exact(this.2).resolve_left (fun z=>z hf)
noncomputable def capB (names:List (Str×NameKind))(N XN:List Str)(cap:List Nat)(t:Nat):Bool:=N.length==cap.length+t&&(cap.zip N).all fun p=>XN[p.1]? ==some p.2&&names.lookup p.2==some .free
theorem zmh (h:capB scope.names N X.N cap t=true):Cap X scope N (capσ cap t):=by
 unfold capB at h
 rw[Bool.and_eq_true,List.all_eq_true]at h
 obtain⟨hl,h⟩:=h
 have hl:N.length=cap.length+t:=by simpa using hl
 have key:∀(σ:St) (i:Nat) (x:Str) (v:V),N[i]? =some x->(capσ cap t σ)[i]? =some (some v)->∃j,cap[i]? =some j/\σ[j]? =some (some v)/\X.N[j]? =some x/\scope.names.lookup x=some .free:=fun σ i x v h1 h2=>by
  unfold capσ at h2
  by_cases hi:i<cap.length
  ·rw[List.getElem?_append_left (by simpa using hi),List.getElem?_map,List.getElem?_eq_getElem hi]at h2
   have h3:(σ[cap[i]]?).join=some v:=by simpa using h2
   have hz:(cap[i],x)∈cap.zip N:=by
    refine List.mem_of_getElem? (i:=i) ?_
    rw[List.getElem?_zip_eq_some]
    exact⟨List.getElem?_eq_getElem hi,h1⟩
   have:=h _ hz
   simp only[Bool.and_eq_true,beq_iff_eq]at this
   refine⟨cap[i],List.getElem?_eq_getElem hi,?_,this.1,this.2⟩
   cases q:σ[cap[i]]? with
   |none=>rw[q]at h3;cases h3
   |some o=>rw[q]at h3;rw[show o=some v from h3]
  ·rw[List.getElem?_append_right (by simpa using hi),List.getElem?_replicate]at h2
   split at h2<;>cases h2
 refine⟨fun σ=>by unfold capσ;simp[hl],fun σ i x v h1 h2=>?_,fun σ i x v h1 h2 z=>?_⟩
 ·obtain⟨j,_,a,b,c⟩:=key σ i x v h1 h2
  exact⟨zfX c,j,b,a⟩
 ·obtain⟨j,_,a,b,c⟩:=key σ i x v h1 h2
  have e:(relabel scope X.env).names.lookup x=(scope.names.lookup x).map fun k=>if(k==NameKind.free&&X.env.scope.kind== .function&&X.env.kindOf x==some .cell)then NameKind.cell else k:=zdB
  rw[e,c]at z
  simp only[Option.map_some,Option.some.injEq]at z
  split at z<;>cases z
structure LcV (K:W.Frag) (g:D->R->Option R) (mt:MT) (me:ME) (items all:List D) (G2 H1:Hp) (DD:Addr) (i:Nat) (σc:St) (Hc Gc:Hp) (ρc:R) (acc:List D) (xs:List V) (rest:List D) (ρe:R):Prop where
 fc:Fz G2 Gc
 fcH:Fz Gc Hc
 nw:∀b o,Gc b=some o->G2 b≠none\/H1 b=none
 kp:∀b o,H1 b=some o->Hc b=some o
 gD:Gc DD=none
 hDc:Hc DD=some (.lst xs)
 ra:RepL K Gc xs acc
 hx:xs.length<=i
 vs:VS K Gc σc ρc
 ec:zeM (zmK g mt me) (items.drop i) ρc=some (rest,ρe)
 eall:all=acc++rest
section
variable {X:Cx} {elt iter tg:Expr} {ifs:List Expr} {scope:Scope} {pos:Pos} {N:List Str} {cap:List Nat} {t:Nat} {mi:MA} {g:D->R->Option R} {mt:MT} {me:ME}
theorem sound_lc
  (si:∀B G H σ ρ ds ρ' (Q:It->Hp->Prop),SI X.K B G H σ ρ->mi ρ=some (ds,ρ')->(∀J G' H',SI X.K B G' H' σ ρ'->Fz G G'->Itm X.K J G' ds->Q J H')->wi σ H Q)
  (sg:∀C s H₀ fp B G H σ ρ v d ρ' (Q:St->Hp->Prop),SI X.K B G H σ ρ->RepD X.K G v d->g d ρ=some ρ'->(∀G' H' σ',SI X.K B G' H' σ' ρ'->Fz G G'->Q σ' H')->tg' C s H₀ fp v σ H Q)
  (st:∀C s H₀ fp B G H σ ρ d ρ' (Q:Bool->Hp->Prop),SI X.K B G H σ ρ->mt ρ=some (d,ρ')->(∀G' H',SI X.K B G' H' σ ρ'->Fz G G'->Q d H')->tt C s H₀ fp σ H Q)
  (se:∀C s H₀ fp B G H σ ρ d ρ' (Q:VK),SI X.K B G H σ ρ->me ρ=some (d,ρ')->(∀G' H' v,SI X.K B G' H' σ ρ'->Fz G G'->RepD X.K G' v d->Q v H')->te C s H₀ fp σ H Q):
  ∀B G H σ ρ ds ρ' (Q:VK),SI X.K B G H σ ρ->oLC cap t mi g mt me ρ=some (ds,ρ')->
   (∀G' H' l xs,SI X.K B G' H' σ ρ'->Fz G G'->G' l=none->H' l=some (.lst xs)->RepL X.K G' xs ds->B.H l=none->Nw X.K G' H' σ ρ' l->Q (.ref l) H')->tLC (capσ cap t) wi tg' tt te σ H Q:=by
 intro B G H σ ρ ds ρ' Q I hm k
 obtain⟨⟨items,ρ1⟩,e1,hm⟩:=zad hm
 refine si B G H σ ρ items ρ1 _ I e1 fun J G1 H1 I1 f1 IT DD hD=>?_
 dsimp only at hm
 split at hm
 ·rename_i hlen
  obtain⟨⟨all,ρf⟩,e2,e3⟩:=zau hm
  obtain⟨rfl,rfl⟩:=Prod.mk.inj e3
  obtain⟨G2,I2,f2⟩:=SI.fzL cap I1
  have hDG:G2 DD=none:=I2.fz.free hD
  refine⟨fun i m σc Hc=>m=items.length-i/\i<=items.length/\∃Gc ρc acc xs rest ρe,LcV X.K g mt me items all G2 H1 DD i σc Hc Gc ρc acc xs rest ρe,
   ⟨items.length,by simp,Nat.zero_le _,G2,capR cap t (M.fzL cap ρ1),[],[],all,ρf,{fc:=Fz.refl _,fcH:=I2.fz.right hDG _,nw:=fun b o e=> .inl (by rw[e];simp),kp:=fun b o e=>by rw[zaq (zaE e hD)];exact e,gD:=hDG,hDc:=zat,ra:= .nil,hx:=Nat.le_refl _,vs:=zoL I2 cap t,ec:=by simpa using e2,eall:=rfl}⟩,?_⟩
  rintro i m σc Hc ⟨rfl,hi,Gc,ρc,acc,xs,rest,ρe,J0⟩
  obtain⟨fc,fcH,nw,kp,gD,hDc,ra,hx,vs,ec,eall⟩:=J0
  by_cases hlt:i<items.length
  ·refine .inr ⟨IT.go Hc i (f2.trans (fc.trans fcH)) hlt,fun C s₀ H₀ fp x H' y=>?_⟩
   rw[List.drop_eq_getElem_cons hlt]at ec
   simp only[zeM]at ec
   obtain⟨⟨o,ρ3⟩,h3,ec⟩:=zad ec
   obtain⟨⟨rest2,ρ4⟩,h4,ec⟩:=zau ec
   obtain⟨rfl,rfl⟩:=Prod.mk.inj ec
   dsimp only at h4
   unfold zmK at h3
   obtain⟨ρ5,h5,h3⟩:=zad h3
   obtain⟨⟨ok,ρ6⟩,h6,h3⟩:=zad h3
   dsimp only at h3
   have Ic:SI X.K ⟨Gc,Hc,[]⟩ Gc Hc σc ρc:=vs.si fcH
   have fz2:Fz G1 Hc:=f2.trans (fc.trans fcH)
   have yy:=IT.yld Hc i x H' fz2 y items[i] (List.getElem?_eq_getElem hlt)
   have yy2:(H'=Hc/\RepD X.K Gc x items[i])\/∃p xs es,Hc p=none/\H'=upd Hc p (.tup xs)/\x= .ref p/\items[i]= .tup es/\RepL X.K Gc xs es:=by
    rcases yy with⟨a,b⟩|⟨p,xs,es,a,b,c,d,e⟩
    ·exact .inl ⟨a,b.mono (f2.trans fc)⟩
    ·exact .inr ⟨p,xs,es,a,b,c,d,e.mono (f2.trans fc)⟩
   obtain⟨G3,I3,f3,r3⟩:=Ic.yld yy2
   refine sg C s₀ H₀ fp _ G3 H' σc ρc x items[i] ρ5 _ I3 r3 h5 fun G4 H4 σ4 I4 f4=>st C s₀ H₀ fp _ G4 H4 σ4 ρ5 ok ρ6 _ I4 h6 fun G5 H5 I5 f5=>?_
   have facts:∀(G' H':Hp) (σ':St) (ρ':R),SI X.K ⟨Gc,Hc,[]⟩ G' H' σ' ρ'->(∀b o,G' b=some o->G2 b≠none\/H1 b=none)/\(∀b o,H1 b=some o->H' b=some o)/\G' DD=none/\H' DD=some (.lst xs):=fun G' H' σ' ρ' I'=>by
    refine⟨fun b o e=>?_,fun b o e=>I'.keep b o (kp b o e) (by simp),?_,I'.keep DD _ hDc (by simp)⟩
    ·rcases I'.new b o e with h|h
     ·have h:Gc b≠none:=h
      cases q:Gc b with
      |none=>exact absurd q h
      |some u=>exact nw b u q
     ·refine .inr ?_
      cases q:H1 b with
      |none=>rfl
      |some u=>have:=kp b u q;rw[show Hc b=none from h]at this;cases this
    ·cases q:G' DD with
     |none=>rfl
     |some u=>
      rcases I'.new DD u q with h|h
      ·exact absurd gD h
      ·rw[show Hc DD=none from h]at hDc;cases hDc
   cases ok with
   |false=>
    simp only[Bool.false_eq_true,if_false]at h3
    split at h3
    ·rename_i hno
     cases h3
     obtain⟨a1,a2,a3,a4⟩:=facts G5 H5 σ4 _ I5
     exact⟨items.length-(i+1),by lia,rfl,hlt,G5,_,acc,xs,rest2,ρ4,{fc:=fc.trans (f3.trans (f4.trans f5)),fcH:=I5.fz,nw:=a1,kp:=a2,gD:=a3,hDc:=a4,ra:=ra.mono (f3.trans (f4.trans f5)),hx:=by lia,vs:=VS.of I5 hno,ec:=h4,eall:=by simpa using eall}⟩
    ·cases h3
   |true=>
    simp only[if_true]at h3 ⊢
    obtain⟨⟨dv,ρ7⟩,h7,h3⟩:=zad h3
    dsimp only at h3
    split at h3
    ·rename_i hno
     cases h3
     refine se C s₀ H₀ fp _ G5 H5 σ4 ρ6 dv _ _ I5 h7 fun G6 H6 v I6 f6 r6=>?_
     obtain⟨a1,a2,a3,a4⟩:=facts G6 H6 σ4 _ I6
     have ff:Fz Gc G6:=f3.trans (f4.trans (f5.trans f6))
     exact⟨xs,a4,by rw[sizeLine_eq];lia,items.length-(i+1),by lia,rfl,hlt,G6,_,acc++[dv],xs++[v],rest2,ρ4,{fc:=fc.trans ff,fcH:=I6.fz.right a3 _,nw:=a1,kp:=fun b o e=>by rw[zaq (zaE e hD)];exact a2 b o e,gD:=a3,hDc:=zat,ra:=(ra.mono ff).snoc r6,hx:=by rw[List.length_append,List.length_singleton];lia,vs:=VS.of I6 hno,ec:=h4,eall:=by rw[eall];simp}⟩
    ·cases h3
  ·have e:i=items.length:=by lia
   subst e
   rw[List.drop_length]at ec
   cases ec
   have hall:all=acc:=by rw[eall,List.append_nil]
   refine .inl ⟨IT.stop Hc _ (f2.trans (fc.trans fcH)) (Nat.le_refl _),?_⟩
   rw[<-hall]at ra
   exact k Gc Hc DD xs (I2.grow fc fcH nw kp) (f1.trans (f2.trans fc)) gD hDc ra (I2.there DD hD) (I2.own_ne hD nw kp)
 ·cases hm
theorem zel (cap:List Nat)(t:Nat)(N:List Str)(hc:X.calm=true)(hi:SIt X tg iter mi)(hg:∀C s H fp,SG (cxC X N scope C s H fp) tg g)(ht:∀C s H fp,STs (cxC X N scope C s H fp) ifs mt)(he:∀C s H fp,SE (cxC X N scope C s H fp) elt me)
    (hk:autoParam (scope.kind= .function) zu2._auto_1) (hb:autoParam (blkB X.env scope=true) zu11._auto_1) (hcap:autoParam (capB scope.names N X.N cap t=true) zu11._auto_1)
    (hs:autoParam (∀x,foldedSetIterable iter X.env x=pure x) zu9._auto_1):SO X (.ListComp elt [⟨tg,iter,ifs,0⟩] scope pos) (oLC cap t mi g mt me):=by
  obtain⟨wi,pi,si⟩:=hi
  exact⟨_,pe_lc hc (zlp hk hb) (zmh hcap) pi (fun C s H fp=>(hg C s H fp).choose_spec.1) (fun C s H fp=>(ht C s H fp).choose_spec.1) (fun C s H fp=>(he C s H fp).choose_spec.1) hs,
    sound_lc si (fun C s H fp=>(hg C s H fp).choose_spec.2) (fun C s H fp=>(ht C s H fp).choose_spec.2) (fun C s H fp=>(he C s H fp).choose_spec.2)⟩
end
section
variable {X:Cx} {elt iter tg:Expr} {ifs:List Expr} {scope:Scope} {pos lpos pos':Pos} {N:List Str} {cap:List Nat} {t:Nat} {mi:MA} {g:D->R->Option R} {mt:MT} {me:ME}
theorem zlh {σ0:St->St}(hN:X.N.Nodup)(hxi:X.N[i]? =some x)(hx:Loc X.env.scope x)(hf:X.fn x=true\/X.env.scope.names.lookup x=some .local)
  (hsw:swapsWith (.ListComp elt [⟨tg,iter,ifs,0⟩] scope lpos) (some (.Name x pos')) pos.line X.env=pure true) (hc:X.calm=true) (b:BlkOk X scope) (cap:Cap X scope N σ0) (hi:PI X tg iter wi) (hg:∀C s H fp,PG (cxC X N scope C s H fp) tg (tg' C s H fp)) (ht:∀C s H fp,PTs (cxC X N scope C s H fp) ifs (tt C s H fp)) (he:∀C s H fp,PE (cxC X N scope C s H fp) elt (te C s H fp))
  (hs:∀x,foldedSetIterable iter X.env x=pure x):PS X (.Assign [.Name x pos'] (.ListComp elt [⟨tg,iter,ifs,0⟩] scope lpos) pos) (fun E σ H=>tLC σ0 wi tg' tt te σ H fun v H'=>E.nx (σ.set i (some v)) H'):=by
 intro pins s σ H E I h
 rw[exec_Assign_Name_used _ _ _ _ hsw]
 refine wpAny_bind (wpAny_standAt (wpAny_bind ?_))
 show wpAny _ _ (do let _<-comprehension (.ListComp elt [⟨tg,iter,ifs,0⟩] scope lpos) scope X.env _ (newList []) false (eval iter X.env) (some (assign (.Name x pos') X.env))) _ _ s
 refine wpAny_bind (thn (znM (use:=some (assign (.Name x pos') X.env)) (QQ:=fun _ s'=>SP X pins E .next s') (E:=X.xe) hc b cap hi hg ht he I h hs ?_) fun _ s' hq=>wpAny_pure (wpAny_pure hq))
 intro D fp C H1 H' σc s1 s' I1 f1 eC J q
 subst eC
 have I2:Inv X pins σ H' s':=by
  have z:=znD (h':=s'.heap) I1 f1 J (Heap.SameBut.refl _ _)
  exact z
 obtain⟨m,⟨o,es,ep,ho,hd,hrest⟩,_⟩:=J.loc
 have fpk:FpOk X pins H' s1.heap.objs.size:=I1.fpOk (Nat.le_refl _) J.free
 have I3:Inv X (pins++[(s1.heap.objs.size,o)]) σ H' s':=I2.pins_of fun p hp=>by
  rcases List.mem_append.mp hp with hp|hp
  ·exact I2.pin p (List.mem_append_right _ hp)
  ·have e:p=(s1.heap.objs.size,o):=by simpa using hp
   subst e
   exact⟨ho,fpk.1,fpk.2.1,fpk.2.2.1,fun v z=>by rw[hd]at z;cases z⟩
 refine thn (zkS hN hxi hx hf (pins++[(s1.heap.objs.size,o)]) s' σ H' (.ref D) (.ref D) (fun σ2 H2=>E.nx σ2 H2) I3 rfl q) fun _ s'' ⟨σ2,H2,I4,q4⟩=>?_
 have pC:=I4.pin (s1.heap.objs.size,o) (List.mem_append_right _ (List.mem_append_right _ (by simp)))
 refine⟨m,⟨o,es,ep,pC.1,hd,hrest⟩,fun h' hs'=>?_⟩
 have I5:Inv X pins σ2 H2 s'':=I4.unpinned
 have fp2:FpOk X pins H2 s1.heap.objs.size:=I1.fpOk (Nat.le_refl _) pC.2.1
 have I6:=I5.turned (t':=s''.toks) (h':=h') (it:=s1.heap.objs.size) (fun b' o' hb e=>hs'.extBut b' o' hb e) fp2.1 fp2.2.1 fp2.2.2.2.1 fp2.2.2.2.2.1 fp2.2.2.2.2.2
 exact⟨σ2,H2,I6,q4⟩
end
section
variable {X:Cx} {pins:List (Addr×Obj)} {σ:St} {H:Hp} {s:Shared}
theorem zhQ {A:Around}(hh:A.handled=none)(I:Inv X pins σ H s)(hq:SqL X.K H p ys\/SqT X.K H p ys)
  (k : ∀ (its : List Value) (s₂ : Shared) (St : Nat -> Heap -> Prop), Vals ys its -> Walks X.prog X.w A s.heap.objs.size [s.heap.objs.size, p] [s.heap.objs.size] its.length (fun i v => its[i]? = some v) St -> St 0 s₂.heap -> (∀ b ∈ [s.heap.objs.size, p], b < s₂.heap.objs.size) ->
   (∀h' tk,(∀b o,b∉[s.heap.objs.size]->s₂.heap.get? b=some o->h'.get? b=some o)->Inv X pins σ H {s₂ with heap:=h',toks:=tk})->Q (.ref s.heap.objs.size) s₂):wpAny (model X.prog X.w) A (pyIter (.ref p)) Q E s:=by
 have fin:∀(o:Obj),∀h' tk,(∀b o',b∉[s.heap.objs.size]->(s.heap.push o).get? b=some o'->h'.get? b=some o')->Inv X pins σ H {({s with heap:=s.heap.push o}:Shared)with heap:=h',toks:=tk}:=fun o h' tk hk=>by
  have z:=I.kept (h':=h') (t':=tk) fun b o' e=>hk b o' (by simpa using Nat.ne_of_lt (Heap.lt_size e)) (Heap.get?_push_of_some _ e)
  exact z
 rcases hq with hq|hq
 ·obtain⟨its,r,pl,hz⟩:=I.list hq
  have hlt:p<s.heap.objs.size:=by obtain⟨_,_,e,_⟩:=pl;exact Heap.lt_size e
  refine wpAny_pyIter_list pl.isList (k its _ (fun i h=>h.IsListIter s.heap.objs.size p i/\h.IsList p its.toArray) r ?_ ⟨⟨_,Heap.get?_push_size _ rfl,rfl,rfl⟩,pl.isList.push _⟩ (fun b hb=>?_) (fin _))
  ·have w:=Walks.list (prog:=X.prog) (w:=X.w) (A:=A) hh s.heap.objs.size p (Nat.ne_of_lt hlt) its.toArray
   simpa using w
  ·show b<(s.heap.push _).objs.size
   rw[Heap.size_push]
   simp at hb
   rcases hb with z|z
   ·rw[z];exact Nat.lt_succ_self _
   ·rw[z];exact Nat.lt_succ_of_lt hlt
 ·obtain⟨its,r,pl,hz⟩:=I.tuple hq
  have hlt:p<s.heap.objs.size:=pl.lt
  refine wpAny_pyIter_tuple (show s.heap.IsTuple p its.toArray from pl) (k its _ (fun i h=>h.IsTupleIter s.heap.objs.size p i/\h.IsTuple p its.toArray) r ?_ ⟨⟨_,Heap.get?_push_size _ rfl,rfl,rfl⟩,(show s.heap.IsTuple p its.toArray from pl).push _⟩ (fun b hb=>?_) (fin _))
  ·have w:=Walks.tuple (prog:=X.prog) (w:=X.w) (A:=A) hh s.heap.objs.size p (Nat.ne_of_lt hlt) its.toArray
   simpa using w
  ·show b<(s.heap.push _).objs.size
   rw[Heap.size_push]
   simp at hb
   rcases hb with z|z
   ·rw[z];exact Nat.lt_succ_self _
   ·rw[z];exact Nat.lt_succ_of_lt hlt
end
theorem ziI (ns:List Int):∀j,preSum (fun i=>ns.getD i 0) j=(ns.take j).sum
 |0=>by simp[preSum]
 |j+1=>by
  rw[preSum,ziI ns j]
  by_cases h:j<ns.length
  ·rw[List.take_succ_eq_append_getElem h,List.sum_append]
   simp[h]
  ·rw[List.take_of_length_le (by lia),List.take_of_length_le (by lia)]
   simp[List.getElem?_eq_none (by lia:ns.length<=j)]
theorem zji (r:Vals (ns.map V.int) its){v:Value}(e:its[i]? =some v):∃t,v= .int (ns.getD i 0) t:=by
 have hl:=r.length
 have hi:i<its.length:=(List.getElem?_eq_some_iff.mp e).1
 rw[List.length_map]at hl
 have e2:(ns.map V.int)[i]? =some (.int ns[i]):=by rw[List.getElem?_map,List.getElem?_eq_getElem (by lia)];rfl
 obtain⟨u,h1,t,h2⟩:=r.get e2
 rw[e]at h1;cases h1
 exact⟨t,by rw[h2];simp[show i<ns.length by lia]⟩
noncomputable def rSum (K:W.Frag):List V->Hp->VK->Prop:=fun xs H Q=>∃(p:Addr) (ns:List Int),xs=[.ref p]/\(SqL K H p (ns.map V.int)\/SqT K H p (ns.map V.int))/\Q (.int ns.sum) H
theorem zom (hc:X.calm=true):zhn X (.builtin "sum") (rSum X.K):=by
 intro pins s σ H xs us Q I r h
 obtain⟨p,ns,rfl,hq,q⟩:=h
 obtain⟨u,rfl,ru⟩:=zla r
 cases ru
 refine call_sum_walkG (zhQ (A:=X.A.in1) (I.ok.hd hc) I hq fun its s₂ St rv W st hfp fin=>?_)
 refine⟨_,_,_,_,_,_,fun i=>ns.getD i 0,rfl,W,st,hfp,fun i v e=>zji rv e,fun h' tk t' hk=>⟨.int ns.sum,H,fin h' tk hk,⟨t',?_⟩,q⟩⟩
 have hl:=rv.length
 rw[List.length_map]at hl
 rw[ziI,<-hl,List.take_of_length_le (Nat.le_refl _)]
noncomputable def zbp:List D->Option (List Int)
 |[]=>some []
 | .int i::ds=>(zbp ds).map (i:: ·)
 |_=>none
theorem zgy:∀{ds:List D} {ns:List Int},zbp ds=some ns->ds=ns.map .int
 |[],ns,h=>by cases h;rfl
 |d::ds,ns,h=>by
  cases d<;>simp only[zbp]at h<;>try cases h
  obtain⟨ms,e1,e2⟩:=zau h
  subst e2
  rw[zgy e1];rfl
@[simp] theorem intsOf_map:∀(ns:List Int),zbp (ns.map .int)=some ns
 |[]=>rfl
 |n::ns=>by simp[zbp,intsOf_map ns]
noncomputable def dSum:List D->Option D
 |[d]=>(zaL [d]).bind fun ds=>(zbp ds).map fun ns=> .int ns.sum
 |_=>none
theorem zhS (I:SI K B G H σ ρ){x:V}(r:RepD K G x d)(e:zaL [d]=some ds):∃p ys,x= .ref p/\(SqL K H p ys\/SqT K H p ys)/\RepL K G ys ds:=by
 cases d<;>simp only[zaL]at e<;>try cases e
 ·obtain⟨p,ys,ex,hp,q⟩:=I.lst r
  exact⟨p,ys,ex,.inl (SqL.of hp),q⟩
 ·obtain⟨p,ys,ex,hp,q⟩:=I.tup r
  exact⟨p,ys,ex,.inr (SqT.of hp),q⟩
 ·obtain⟨p,ex,hp⟩:=r
  exact⟨p,_,ex,.inl (I.fz.sql hp),RepL.ints _⟩
theorem vc_sum:VC X (rSum X.K) dSum:=by
 intro B G H σ ρ xs ds d Q I r hf k
 match ds,hf with
 |[a],hf=>
  obtain⟨es,e1,hf⟩:=zad hf
  obtain⟨ns,e2,e3⟩:=zau hf
  subst e3
  obtain⟨x,rfl,ra⟩:=r.one
  obtain⟨p,ys,rfl,hq,ry⟩:=zhS I ra e1
  rw[zgy e2]at ry
  rw[RepL.ints_eq ry]at hq
  exact⟨p,ns,rfl,hq,k G H _ I (Fz.refl G) rfl⟩
 |[],hf=>cases hf
 |_::_::_,hf=>cases hf
theorem zkz {p pos:Pos}(hc:X.calm=true)(ml:X.mg "sum"=none)(ha:SA X [e] ma)(hg:autoParam (Gl X "sum") zu2._auto_1)(he:autoParam (starEach [e] X.env=(false,eval e X.env)::starEach [] X.env) zu2._auto_1):SE X (.Call (.Name "sum" p) [e] [] pos) (mC dSum ma):=
 zfW (zom hc) vc_sum (by decide+kernel) ml ha hg (by decide) (by decide) he rfl
noncomputable def zek:List D->Option (List Bool)
 |[]=>some []
 | .bl b::ds=>(zek ds).map (b:: ·)
 |_=>none
theorem ziJ:∀{ds:List D} {bs:List Bool},zek ds=some bs->ds=bs.map .bl
 |[],ns,h=>by cases h;rfl
 |d::ds,ns,h=>by
  cases d<;>simp only[zek]at h<;>try cases h
  obtain⟨ms,e1,e2⟩:=zau h
  subst e2
  rw[ziJ e1];rfl
@[simp] theorem boolsOf_map:∀(bs:List Bool),zek (bs.map .bl)=some bs
 |[]=>rfl
 |n::ns=>by simp[zek,boolsOf_map ns]
theorem RepL.bools_eq:∀{bs:List Bool} {xs:List V},RepL K G xs (bs.map D.bl)->xs=bs.map V.bl
 |[],_,e=>e
 |n::ns,_,⟨x,ys,e,q,r⟩=>by subst e;cases(show x=V.bl n from q);rw[RepL.bools_eq r];rfl
theorem zor {bs:List Bool}(r:Vals (bs.map V.bl) its){v:Value}(e:its[i]? =some v):∃b,bs[i]? =some b/\v= .bool b:=by
 have hl:=r.length
 have hi:i<its.length:=(List.getElem?_eq_some_iff.mp e).1
 rw[List.length_map]at hl
 have e2:(bs.map V.bl)[i]? =some (.bl bs[i]):=by rw[List.getElem?_map,List.getElem?_eq_getElem (by lia)];rfl
 obtain⟨u,h1,h2⟩:=r.get e2
 rw[e]at h1;cases h1
 exact⟨bs[i],List.getElem?_eq_getElem (by lia),h2⟩
noncomputable def rAll (K:W.Frag)(f:List Bool->Bool):List V->Hp->VK->Prop:=fun xs H Q=>∃(p:Addr) (bs:List Bool),xs=[.ref p]/\(SqL K H p (bs.map V.bl)\/SqT K H p (bs.map V.bl))/\Q (.bl (f bs)) H
theorem zne (hc:X.calm=true):zhn X (.builtin "all") (rAll X.K fun bs=>bs.all id):=by
 intro pins s σ H xs us Q I r h
 obtain⟨p,bs,rfl,hq,q⟩:=h
 obtain⟨u,rfl,ru⟩:=zla r
 cases ru
 refine call_all_walk (zhQ (A:=X.A.in1) (I.ok.hd hc) I hq fun its s₂ St rv W st hfp fin=>?_)
 have hl:=rv.length
 rw[List.length_map]at hl
 refine⟨_,_,_,_,_,_,fun i=>(bs[i]?).getD true,rfl,W,st,fun i v s' Q' E' hP hQ=>?_,fun h' tk hk=>⟨.bl (bs.all id),H,fin h' tk hk,?_,q⟩⟩
 ·obtain⟨b,e,rfl⟩:=zor rv hP
  simp only[e,Option.getD_some]at hQ
  exact wpAny_truthy_bool hQ
 ·rw[<-hl,LSm.range_all];rfl
noncomputable def dAll (f:List Bool->Bool):List D->Option D
 |[d]=>(zaL [d]).bind fun ds=>(zek ds).map fun bs=> .bl (f bs)
 |_=>none
theorem vc_all (f:List Bool->Bool):VC X (rAll X.K f) (dAll f):=by
 intro B G H σ ρ xs ds d Q I r hf k
 match ds,hf with
 |[a],hf=>
  obtain⟨es,e1,hf⟩:=zad hf
  obtain⟨ns,e2,e3⟩:=zau hf
  subst e3
  obtain⟨x,rfl,ra⟩:=r.one
  obtain⟨p,ys,rfl,hq,ry⟩:=zhS I ra e1
  rw[ziJ e2]at ry
  rw[RepL.bools_eq ry]at hq
  exact⟨p,ns,rfl,hq,k G H _ I (Fz.refl G) rfl⟩
 |[],hf=>cases hf
 |_::_::_,hf=>cases hf
theorem zl8 {p pos:Pos}(hc:X.calm=true)(ml:X.mg "all"=none)(ha:SA X [e] ma)(hg:autoParam (Gl X "all") zu2._auto_1)(he:autoParam (starEach [e] X.env=(false,eval e X.env)::starEach [] X.env) zu2._auto_1):SE X (.Call (.Name "all" p) [e] [] pos) (mC (dAll fun bs=>bs.all id) ma):=
 zfW (zne hc) (vc_all _) (by decide+kernel) ml ha hg (by decide) (by decide) he rfl
noncomputable def d2I (g:Int->Int->Int):List D->Option D
 |[.int i,.int j]=>some (.int (g i j))
 |_=>none
theorem vc_2I (g:Int->Int->Int):VC X (fun xs H Q=>∃i j,xs=[.int i,.int j]/\Q (.int (g i j)) H) (d2I g):=by
 intro B G H σ ρ xs ds d Q I r hf k
 unfold d2I at hf
 split at hf
 ·rename_i i j
  cases hf
  obtain⟨x,y,rfl,rx,ry⟩:=r.two
  cases(show x=V.int i from rx)
  cases(show y=V.int j from ry)
  exact⟨i,j,rfl,k G H _ I (Fz.refl G) rfl⟩
 ·cases hf
noncomputable def max2 (i j:Int):Int:=if j>i then j else i
noncomputable def min2 (i j:Int):Int:=if j<i then j else i
theorem zjj {p pos:Pos}(hc:X.calm=true)(ml:X.mg "max"=none)(ha:SA X [a,b] ma)(hg:autoParam (Gl X "max") zu2._auto_1)(he:autoParam (starEach [a,b] X.env=(false,eval a X.env)::starEach [b] X.env) zu2._auto_1)(hpl:autoParam ((backTo pos (starEach [b] X.env)).any (·.1)=false) zu2._auto_1):SE X (.Call (.Name "max" p) [a,b] [] pos) (mC (d2I max2) ma):=
 zfW (znI hc) (vc_2I max2) (by decide+kernel) ml ha hg (by decide) (by decide) he hpl
theorem zlf {p pos:Pos}(hc:X.calm=true)(ml:X.mg "min"=none)(ha:SA X [a,b] ma)(hg:autoParam (Gl X "min") zu2._auto_1)(he:autoParam (starEach [a,b] X.env=(false,eval a X.env)::starEach [b] X.env) zu2._auto_1)(hpl:autoParam ((backTo pos (starEach [b] X.env)).any (·.1)=false) zu2._auto_1):SE X (.Call (.Name "min" p) [a,b] [] pos) (mC (d2I min2) ma):=
 zfW (zoe hc) (vc_2I min2) (by decide+kernel) ml ha hg (by decide) (by decide) he hpl
noncomputable def isI (T:String):D->Bool
 | .non=>false
 | .bl _=>T=="bool"||T=="int"
 | .int _=>T=="int"
 | .str _=>T=="str"
 | .lst _=>T=="list"
 | .tup _=>T=="tuple"
 | .scr _=>T=="list"
 | .exc _=>false
 | .dic _ _=>false
 | .dit _ _=>false
noncomputable def okT (T:String):Bool:=["int","bool","tuple","list","str"].contains T
noncomputable def eIsI (T:String)(ma:ME):ME:=fun ρ=>(ma ρ).bind fun p=>if okT T&&noS1 p.1 then some (.bl (isI T p.1),p.2)else none
where noS1:D->Bool
 | .scr _=>false
 | .exc _=>false
 | .dic _ _=>false
 | .dit _ _=>false
 |_=>true
noncomputable def cutD {α:Type}(xs:List α)(lo hi:Option Int):List α:=(xs.drop (HT.sIx xs.length 0 lo)).take (HT.sIx xs.length xs.length hi-HT.sIx xs.length 0 lo)
theorem RepL.cut (h:RepL K G xs ds)(lo hi:Option Int):RepL K G (cutV xs lo hi) (cutD ds lo hi):=by
 unfold cutV cutD
 rw[h.length]
 exact(h.drop _).take _
section
variable {prog:Program} {w:World} {A:Around} {E:Value->Shared->Prop} {s:Shared}
theorem zgn {t sl:Addr}{items:Array Value}{vl vu:Value}{lo hi:Option Int}(ht:IsTup s.heap t items)(hs:s.heap.IsSliceOf sl vl vu .none)(pl:IsPart vl lo)(pu:IsPart vu hi)
  (hw:HT.sIx items.size 0 lo=0/\HT.sIx items.size items.size hi=items.size) (h:Q (.ref t) s):wpAny (model prog w) A (getItem (.ref t) (.ref sl)) Q E s:=by
 obtain⟨os,hos,hcs,hds⟩:=id hs
 have hTs:s.TypeIs (.ref sl) "slice":=⟨os,hos,hcs⟩
 unfold getItem
 try with_reducible refine wpAny_holding ?_
 first|refine wpAny_bind (wpAny_pure ?_)|skip
 refine wpAny_bind (wpAny_sequenceKey ht.typeIs (by decide) ?_)
 refine wpAny_bind (wpAny_callSpecial?_slot (name:=Str.ofString "__getitem__") ht.typeIs PyProof.Rows.slot_tuple_getitem
  (wpAny_call_entry PyProof.Rows.slot_tuple_getitem ht.typeIs entry_tuple_getitem ?_ (args_tuple_getitem _ _)))
 show wpAny _ _ (Builtin.Tuple.tupleItemsOf (.ref t)>>=_) _ _ s
 refine wpAny_bind (tupleItemsOf_ ht ?_)
 refine wpAny_bind (wpAny_typeOf hTs ?_)
 rw[if_pos (by decide)]
 refine wpAny_bind (HT.zeC hs pl pu ?_)
 have hyes:(((HT.sIx items.size 0 lo:Nat):Int)==0&&(1:Int)==1&&(HT.sIx items.size items.size hi-HT.sIx items.size 0 lo)==items.size)=true:=by
  rw[hw.1,hw.2];simp
 show wpAny _ _ (if(((HT.sIx items.size 0 lo:Nat):Int)==0&&(1:Int)==1&&(HT.sIx items.size items.size hi-HT.sIx items.size 0 lo)==items.size)=true then _ else _) _ _ s
 rw[if_pos hyes]
 refine wpAny_bind (m:=Builtin.Tuple.tupleIsExact _) ?_
 unfold Builtin.Tuple.tupleIsExact
 refine wpAny_bind (wpAny_typeOf ht.typeIs (wpAny_pure ?_))
 rw[if_pos (by decide)]
 refine wpAny_bind (wpAny_rule ?_)
 exact wpAny_pure ⟨_,rfl,wpAny_pure h⟩
end
noncomputable def rSlTW (K:W.Frag):V->Option Int->Option Int->Hp->VK->Prop:=fun x lo hi H Q=>∃a xs,x= .ref a/\SqT K H a xs/\(HT.sIx xs.length 0 lo=0/\HT.sIx xs.length xs.length hi=xs.length)/\Q (.ref a) H
theorem sl_tupW:SlR X (rSlTW X.K):=by
 intro pins s σ H x v vl vu lo hi sl Q I rx hs pl pu h
 obtain⟨a,xs,rfl,hx,hw,q⟩:=h
 cases rx
 obtain⟨its,r,ht,hz⟩:=I.tuple hx
 have hlen:its.toArray.size=xs.length:=by rw[List.size_toArray];exact r.length.symm
 refine⟨"tuple",_,PyProof.Rows.slot_tuple_getitem.lookup,ht.typeIs,?_⟩
 exact zgn ht hs pl pu (by rw[hlen];exact hw) ⟨.ref a,H,I,rfl,q⟩
noncomputable abbrev MP:=R->Option (Option Int×R)
noncomputable def SPt (X:Cx)(e:Option Expr)(m:MP):Prop:=∃t,PO X e t/\∀B G H σ ρ o ρ' (Q:Option Int->Hp->Prop),SI X.K B G H σ ρ->m ρ=some (o,ρ')->(∀G' H',SI X.K B G' H' σ ρ'->Fz G G'->Q o H')->t σ H Q
noncomputable def pNo:MP:=fun ρ=>some (none,ρ)
noncomputable def zfZ (m:ME):MP:=fun ρ=>(m ρ).bind fun p=>match p.1 with
 | .int i=>some (some i,p.2)
 |_=>none
theorem zke:SPt X none pNo:=⟨_,po_none,fun B G H σ ρ o ρ' Q I hm k=>by cases hm;exact k G H I (Fz.refl G)⟩
theorem zb6 {m:ME}(h:SE X e m):SPt X (some e) (zfZ m):=by
 obtain⟨t,p,s⟩:=h
 refine⟨_,po_some p,fun B G H σ ρ o ρ' Q I hm k=>?_⟩
 obtain⟨⟨d,ρ1⟩,e1,hm⟩:=zad hm
 refine s B G H σ ρ d ρ1 _ I e1 fun G1 H1 v I1 f1 r1=>?_
 cases d<;>try cases hm
 rename_i i
 exact⟨i,r1,k G1 H1 I1 f1⟩
noncomputable def dCut (d:D)(lo hi:Option Int):Option D:=match d with
 | .lst ds=>some (.lst (cutD ds lo hi))
 | .tup ds=>some (.tup (cutD ds lo hi))
 | .scr ns=>some (.lst ((cutD ns lo hi).map .int))
 |_=>none
noncomputable def eCut (ma:ME)(ml mh:MP):ME:=fun ρ=>(ma ρ).bind fun p=>(ml p.2).bind fun q=>(mh q.2).bind fun r=>(dCut p.1 q.1 r.1).map fun d=>(d,r.2)
theorem zmZ (ns:List Int)(lo hi:Option Int):cutV (ns.map V.int) lo hi=(cutD ns lo hi).map V.int:=by
 unfold cutV cutD
 rw[List.length_map,<-List.map_drop,<-List.map_take]
theorem zeO {lo hi:Option Expr}{ma:ME}{ml mh:MP}{pos p2:Pos}(he:SE X e ma)(hl:SPt X lo ml)(hu:SPt X hi mh):SE X (.Subscript e (.Slice lo hi none p2) pos) (eCut ma ml mh):=by
 obtain⟨ta,pa,sa⟩:=he
 obtain⟨tl,pl,sl⟩:=hl
 obtain⟨th,ph,sh⟩:=hu
 refine⟨_,pe_slice (sl_list.or (sl_tup.or sl_tupW)) pa pl ph,fun B G H σ ρ d ρ' Q I hm k=>?_⟩
 obtain⟨⟨x,ρ1⟩,e1,hm⟩:=zad hm
 obtain⟨⟨l,ρ2⟩,e2,hm⟩:=zad hm
 obtain⟨⟨u,ρ3⟩,e3,hm⟩:=zad hm
 obtain⟨c,e4,e5⟩:=zau hm
 obtain⟨rfl,rfl⟩:=Prod.mk.inj e5
 refine sa B G H σ ρ x ρ1 _ I e1 fun G1 H1 v I1 f1 r1=>sl B G1 H1 σ ρ1 l ρ2 _ I1 e2 fun G2 H2 I2 f2=>sh B G2 H2 σ ρ2 u ρ3 _ I2 e3 fun G3 H3 I3 f3=>?_
 have r3:=r1.mono (f2.trans f3)
 dsimp only at e4
 cases x with
 |exc _=>cases e4
 |dic _ _=>cases e4
 |dit _ _=>cases e4
 |non=>cases e4
 |bl _=>cases e4
 |int _=>cases e4
 |str _=>cases e4
 |lst ds=>
  cases e4
  obtain⟨a,xs,rfl,ha,r⟩:=I3.lst r3
  refine .inl ⟨a,xs,rfl,SqL.of ha,fun p hp=>?_⟩
  obtain⟨I4,f4,r4⟩:=I3.newL hp (r.cut l u)
  exact k _ _ _ I4 (f1.trans (f2.trans (f3.trans f4))) r4
 |tup ds=>
  cases e4
  obtain⟨a,xs,rfl,ha,r⟩:=I3.tup r3
  by_cases hw:HT.sIx xs.length 0 l=0/\HT.sIx xs.length xs.length u=xs.length
  ·refine .inr (.inr ⟨a,xs,rfl,SqT.of ha,hw,?_⟩)
   have e:cutD ds l u=ds:=by
    unfold cutD
    rw[<-r.length,hw.1,hw.2,List.drop_zero,Nat.sub_zero,List.take_of_length_le (by rw[r.length];exact Nat.le_refl _)]
   rw[e]at k
   exact k G3 H3 _ I3 (f1.trans (f2.trans f3)) r3
  ·refine .inr (.inl ⟨a,xs,rfl,SqT.of ha,hw,fun p hp=>?_⟩)
   obtain⟨I4,f4,r4⟩:=I3.newT hp (r.cut l u)
   exact k _ _ _ I4 (f1.trans (f2.trans (f3.trans f4))) r4
 |scr ns=>
  cases e4
  obtain⟨a,rfl,ha⟩:=r3
  refine .inl ⟨a,_,rfl,I3.fz.sql ha,fun p hp=>?_⟩
  rw[zmZ]
  obtain⟨I4,f4,r4⟩:=I3.newL hp (RepL.ints (cutD ns l u))
  exact k _ _ _ I4 (f1.trans (f2.trans (f3.trans f4))) r4
theorem zd6 (h:aLen ma n):∀ρ as ρ',ma ρ=some (as,ρ')->as.length+1=n+1:=fun ρ as ρ' e=>congrArg (· +1) (h ρ as ρ' e)
mutual
noncomputable def toPy:D->PyData
 | .non=> .none
 | .bl b=> .bool b
 | .int i=> .int i
 | .str x=> .str x
 | .lst ds=> .list (zd9 ds)
 | .tup ds=> .tuple (zd9 ds)
 | .scr ns=> .list (ns.map .int)
 | .exc _=> .none
 | .dic _ _=> .none
 | .dit _ _=> .none
noncomputable def zd9:List D->List PyData
 |[]=>[]
 |d::ds=>toPy d::zd9 ds
end
section
variable {X:Cx} {pins:List (Addr×Obj)} {σ:St} {H G:Hp} {s:Shared}
mutual
theorem zkJ (I:Inv X pins σ H s)(fz:Fz G H):∀{d:D} {x:V} {u:Value},noS d=true->RepD X.K G x d->RelV x u->∃as,Reads s.heap u (toPy d) as
 | .non,x,u,_,r,rx=>by cases(show x=V.non from r);cases(show u=Value.none from rx);exact⟨_,.none⟩
 | .bl b,x,u,_,r,rx=>by cases(show x=V.bl b from r);cases(show u=Value.bool b from rx);exact⟨_,.bool b⟩
 | .int b,x,u,_,r,rx=>by cases(show x=V.int b from r);obtain⟨t,rfl⟩:=rx;exact⟨_,.int b t⟩
 | .str b,x,u,_,r,rx=>by cases(show x=V.str b from r);obtain⟨t,rfl⟩:=rx;exact⟨_,.str b t⟩
 | .lst ds,x,u,n,r,rx=>by
  obtain⟨p,xs,rfl,q,r⟩:=r
  cases(show u=Value.ref p from rx)
  obtain⟨its,rv,⟨o,m,h1,h2,_,h3⟩,hz⟩:=I.list (SqL.of (fz _ _ q))
  obtain⟨as,ra⟩:=zkO I fz (ds:=ds) (by simpa only[noS]using n) r rv
  exact⟨_,.list h1 h2 h3 (by simpa using ra)⟩
 | .tup ds,x,u,n,r,rx=>by
  obtain⟨p,xs,rfl,q,r⟩:=r
  cases(show u=Value.ref p from rx)
  obtain⟨its,rv,⟨o,h1,h2,m,h3⟩,hz⟩:=I.tuple (SqT.of (fz _ _ q))
  obtain⟨as,ra⟩:=zkO I fz (ds:=ds) (by simpa only[noS]using n) r rv
  exact⟨_,.tuple h1 h2 h3 (by simpa using ra)⟩
 | .scr _,_,_,n,_,_=>by simp[noS]at n
 | .exc _,_,_,n,_,_=>by simp[noS]at n
 |(.dic _ _),_,_,n,_,_=>by simp[noS]at n
 |(.dit _ _),_,_,n,_,_=>by simp[noS]at n
theorem zkO (I:Inv X pins σ H s)(fz:Fz G H):∀{ds:List D} {xs:List V} {us:List Value},noSL ds=true->RepL X.K G xs ds->Vals xs us->∃as,ReadsAll s.heap us (zd9 ds) as
 |[],xs,us,_,e,r=>by cases(show xs=[]from e);cases r;exact⟨_,.nil⟩
 |d::ds,xs,us,n,h,r=>by
  obtain⟨x,ys,rfl,rd,rl⟩:=h
  simp only[noSL,Bool.and_eq_true]at n
  cases r with
  |cons r1 r2=>
   obtain⟨as,a1⟩:=zkJ I fz n.1 rd r1
   obtain⟨bs,a2⟩:=zkO I fz n.2 rl r2
   exact⟨_,.cons a1 a2⟩
end
end
end M
namespace M
open L2 PySem
@[simp] theorem atI_nat' {α:Type} (xs:List α) (i:Nat):atI xs (i:Int)=xs[i]?:=by
 unfold atI ixN
 rw[if_pos (by lia)]
 by_cases h:i<xs.length
 ·rw[if_pos (by lia)];simp
 ·rw[if_neg (by lia)];simp[List.getElem?_eq_none (by lia:xs.length<=i)]
end M
namespace M
open L2 PyProof.Rows PySem PySem.Spec
noncomputable def zmS (i:Nat)(g:Int->Int->Int)(me:ME):MS:=fun ρ=>match ρ[i]? with
 |some (.val (.int a))=>(me ρ).bind fun p=>match p.1 with
  | .int b=>some (.next,p.2.set i (.val (.int (g a b))))
  |_=>none
 |_=>none
section
variable {X:Cx} {e:Expr} {me:ME} {pos:Pos}
theorem ss_augI (i:Nat){x:Str}{pos':Pos}{op:Operator}{g:Int->Int->Int}(ho:PIp X op (ipI g))(he:SE X e me)(hN:X.N.Nodup)(hi:autoParam (X.N[i]? =some x) zu2._auto_1)(hx:autoParam (Loc X.env.scope x) zu10._auto_1)
    (hf:autoParam (X.fn x=true\/X.env.scope.names.lookup x=some .local) zu10._auto_1):SS X (.AugAssign (.Name x pos') op e pos) (zmS i g me):=by
  obtain⟨t,p,s⟩:=he
  refine⟨_,ps_aug hN hi hx p ho hf,fun B G H σ ρ fl ρ' E I hm k=>?_⟩
  unfold zmS at hm
  split at hm
  . rename_i a e0
    obtain⟨⟨d,ρ1⟩,e1,h2⟩:=zad hm
    dsimp only at h2
    split at h2
    . rename_i b
      cases h2
      obtain⟨v,h1,hv⟩:=I.slot i _ e0
      cases(show v=V.int a from hv)
      refine⟨_,h1,s B G H σ ρ (.int b) ρ1 _ I e1 fun G1 H1 w I1 f1 r1=>?_⟩
      cases(show w=V.int b from r1)
      exact⟨a,b,rfl,rfl,k G1 H1 _ (I1.set (d:= .int (g a b)) rfl) f1⟩
    . cases h2
  . cases hm
theorem zkE (i:Nat){x:Str}{pos':Pos}(he:SE X e me)(hN:X.N.Nodup)(hi:autoParam (X.N[i]? =some x) zu2._auto_1)(hx:autoParam (Loc X.env.scope x) zu10._auto_1)
  (hf:autoParam (X.fn x=true\/X.env.scope.names.lookup x=some .local) zu10._auto_1):SS X (.AugAssign (.Name x pos') .Add e pos) (zmS i (fun i j=>i+j) me):=ss_augI i znb he hN hi hx hf
end
end M
namespace M
open L2 PySem PySem.Spec
open PyProof.Rows hiding St
variable {X:Cx} {e a b:Expr} {ma mb:ME} {pos:Pos} {K:W.Frag} {G:Hp} {xs:List V} {ds:List D}
noncomputable def zle (lt:Int->Int->Bool)(ns:List Int):Int:=ns.getD (argBest (fun i j=>lt (ns.getD i 0) (ns.getD j 0)) (ns.length-1)) 0
noncomputable def rBest (K:W.Frag)(lt:Int->Int->Bool):List V->Hp->VK->Prop:=fun xs H Q=>∃(p:Addr) (ns:List Int),xs=[.ref p]/\ns≠[]/\(SqL K H p (ns.map V.int)\/SqT K H p (ns.map V.int))/\Q (.int (zle lt ns)) H
theorem zoz (hc:X.calm=true):zhn X (.builtin "min") (rBest X.K fun i j=>decide (i<j)):=by
 intro pins s σ H xs us Q I r h
 obtain⟨p,ns,rfl,ne,hq,q⟩:=h
 obtain⟨u,rfl,ru⟩:=zla r
 cases ru
 refine call_min_walk (zhQ (A:=X.A.in1) (I.ok.hd hc) I hq fun its s₂ St rv W st hfp fin=>?_)
 have hl:=rv.length
 rw[List.length_map]at hl
 have hp:0<its.length:=by rw[<-hl];exact List.length_pos_iff.mpr ne
 refine⟨_,_,_,_,_,_,_,rfl,W,st,hfp,hp,CmpOf.ints_lt (fun i=>ns.getD i 0) (fun i v e=>zji rv e),fun v h' tk hP hk=>?_⟩
 obtain⟨t,rfl⟩:=zji rv hP
 refine⟨.int (zle _ ns),H,fin h' tk hk,⟨t,?_⟩,q⟩
 unfold zle
 rw[hl]
noncomputable def dBest (lt:Int->Int->Bool):List D->Option D
 |[d]=>(zaL [d]).bind fun ds=>(zbp ds).bind fun ns=>if ns.isEmpty then none else some (.int (zle lt ns))
 |_=>none
theorem vc_best (lt:Int->Int->Bool):VC X (rBest X.K lt) (dBest lt):=by
 intro B G H σ ρ xs ds d Q I r hf k
 match ds,hf with
 |[a],hf=>
  obtain⟨es,e1,hf⟩:=zad hf
  obtain⟨ns,e2,hf⟩:=zad hf
  split at hf
  ·cases hf
  ·rename_i ne
   cases hf
   obtain⟨x,rfl,ra⟩:=r.one
   obtain⟨p,ys,rfl,hq,ry⟩:=zhS I ra e1
   rw[zgy e2]at ry
   rw[RepL.ints_eq ry]at hq
   exact⟨p,ns,rfl,fun z=>ne (by rw[z];rfl),hq,k G H _ I (Fz.refl G) rfl⟩
 |[],hf=>cases hf
 |_::_::_,hf=>cases hf
noncomputable def dMinL:List D->Option D:=dBest fun i j=>decide (i<j)
theorem se_minL {ma:MA}{p pos:Pos}(hc:X.calm=true)(ml:X.mg "min"=none)(ha:SA X [e] ma)(hg:autoParam (Gl X "min") zu2._auto_1)(he:autoParam (starEach [e] X.env=(false,eval e X.env)::starEach [] X.env) zu2._auto_1):SE X (.Call (.Name "min" p) [e] [] pos) (mC dMinL ma):=
 zfW (zoz hc) (vc_best _) (by decide+kernel) ml ha hg (by decide) (by decide) he rfl
noncomputable def oRep (ma mb:ME):MO:=fun ρ=>(ma ρ).bind fun p=>(mb p.2).bind fun q=>match p.1,q.1 with
 | .lst xs,.int k=>if zf6 k&&decide (xs.length*k.toNat<=16777216)then some ((List.replicate k.toNat xs).flatten,q.2)else none
 |_,_=>none
theorem RepL.times (h:RepL K G xs ds):∀n:Nat,RepL K G (List.replicate n xs).flatten (List.replicate n ds).flatten
 |0=>RepL.nil
 |n+1=>by
  rw[List.replicate_succ,List.flatten_cons,List.replicate_succ,List.flatten_cons]
  exact h.append (h.times n)
theorem znB (ha:SE X a ma)(hb:SE X b mb):SO X (.BinOp a .Mult b pos) (oRep ma mb):=by
 obtain⟨ta,pa,sa⟩:=ha
 obtain⟨tb,pb,sb⟩:=hb
 refine⟨_,pe_op op_rep pa pb,fun B G H σ ρ d ρ' Q I hm k=>?_⟩
 obtain⟨⟨x,ρ1⟩,e1,hm⟩:=zad hm
 obtain⟨⟨y,ρ2⟩,e2,hm⟩:=zad hm
 refine sa B G H σ ρ x ρ1 _ I e1 fun G1 H1 v I1 f1 r1=>sb B G1 H1 σ ρ1 y ρ2 _ I1 e2 fun G2 H2 u I2 f2 r2=>?_
 dsimp only at hm
 split at hm
 ·rename_i xs n _
  split at hm
  ·rename_i hs
   cases hm
   simp only[Bool.and_eq_true,decide_eq_true_eq]at hs
   cases(show u=V.int n from r2)
   obtain⟨l,ys,rfl,hl,r⟩:=I2.lst (r1.mono f2)
   have a1:=zhY hs.1
   refine⟨l,n,ys,rfl,rfl,hl,by lia,by lia,by rw[r.length,sizeLine_eq];exact hs.2,fun p hp=>?_⟩
   obtain⟨I3,g3,h3,b3,n3⟩:=I2.newO hp (List.replicate n.toNat ys).flatten
   exact k G2 _ p _ I3 (f1.trans f2) g3 h3 (r.times _) b3 n3
  ·cases hm
 ·cases hm
noncomputable def flV:D->Option V
 | .non=>some .non
 | .bl b=>some (.bl b)
 | .int i=>some (.int i)
 | .str x=>some (.str x)
 |_=>none
noncomputable def zmv:List D->Option (List V)
 |[]=>some []
 |d::ds=>(flV d).bind fun v=>(zmv ds).map (v:: ·)
theorem flV_ok {x v:V}{d:D}(r:RepD K G x d)(e:flV d=some v):x=v/\ziB v=true:=by
 cases d<;>simp only[flV]at e<;>cases e<;>exact⟨r,rfl⟩
theorem zlD:∀{ys xs:List V} {ds:List D},RepL K G ys ds->zmv ds=some xs->ys=xs/\xs.all ziB=true
 |ys,xs,[],r,e=>by cases e;cases(show ys=[]from r);exact⟨rfl,rfl⟩
 |ys,xs,d::ds,r,e=>by
  obtain⟨y,zs,rfl,ry,rz⟩:=r
  obtain⟨v,e1,e⟩:=zad e
  obtain⟨vs,e2,rfl⟩:=zau e
  obtain⟨rfl,f1⟩:=flV_ok ry e1
  obtain⟨rfl,f2⟩:=zlD rz e2
  exact⟨rfl,by rw[List.all_cons,f1,f2];rfl⟩
noncomputable def dInB (neg:Bool)(a b:D):Option D:=(flV a).bind fun x=>(zaL [b]).bind fun ds=>(zmv ds).map fun xs=> .bl (if neg then !inV x xs else inV x xs)
noncomputable def dIn:D->D->Option D:=dInB false
noncomputable def zlQ:D->D->Option D:=dInB true
theorem v2_in (neg:Bool):V2 X (rIn X.K neg) (dInB neg):=by
 intro B G H σ ρ x y a b d Q I ra rb hf k
 obtain⟨v,e1,hf⟩:=zad hf
 obtain⟨ds,e2,hf⟩:=zad hf
 obtain⟨xs,e3,rfl⟩:=zau hf
 obtain⟨rfl,f1⟩:=flV_ok ra e1
 obtain⟨p,ys,rfl,hq,ry⟩:=zhS I rb e2
 obtain⟨rfl,f2⟩:=zlD ry e3
 exact⟨p,ys,rfl,hq,f1,f2,k G H _ I (Fz.refl G) rfl⟩
theorem bl_in (neg:Bool):∀x y d,dInB neg x y=some d->∃t,d= .bl t:=by
 intro x y d hf
 obtain⟨v,e1,hf⟩:=zad hf
 obtain⟨ds,e2,hf⟩:=zad hf
 obtain⟨xs,e3,rfl⟩:=zau hf
 exact⟨_,rfl⟩
theorem st_in (ha:SE X a ma)(hb:SE X b mb)(hm:autoParam (behindInMarks .In b=false) zu2._auto_1):STt X (.Compare a [.In] [b] pos) (tTru (m2 dIn ma mb)):=zet znP (v2_in false) (bl_in false) ha hb hm
theorem st_notIn (ha:SE X a ma)(hb:SE X b mb)(hm:autoParam (behindInMarks .NotIn b=false) zu2._auto_1):STt X (.Compare a [.NotIn] [b] pos) (tTru (m2 zlQ ma mb)):=zet zkI (v2_in true) (bl_in true) ha hb hm
end M
namespace M
open L2 PySem PySem.Spec
open PyProof.Rows hiding St
open Sem (wp)
variable {b N i k:Nat} {a it l:Addr} {t:Bool} {h h':Heap} {is xs ys:Array Value} {Q:Value->Shared->Prop}
theorem nin2 {b x y z:Nat}(h:b∈[x,y])(h1:x≠z)(h2:y≠z):b≠z:=by
 simp at h
 rcases h with rfl|rfl<;>assumption
theorem nA {N a b:Nat}(h:a≠b):N+a≠N+b:=fun e=>h (Nat.add_left_cancel e)
theorem nB (h:0≠b):N≠N+b:=fun e=>h (Nat.add_left_cancel (show N+0=N+b from e))
theorem nC (h:b≠0):N+b≠N:=fun e=>h (Nat.add_left_cancel (show N+b=N+0 from e))
theorem nL {a N b:Nat}(h:a<N):a≠N+b:=Nat.ne_of_lt (Nat.lt_of_lt_of_le h (Nat.le_add_right _ _))
theorem ne_ {a b:Nat}(h:a≠b):a≠b:=h
local macro_rules | `(tactic| ac_rfl) => `(tactic| first | exact M.nA (by decide) | exact M.nB (by decide) | exact M.nC (by decide) | exact M.nL (by assumption) | exact Nat.ne_of_lt (by assumption) | lia)
noncomputable def SrcIt:Bool->Heap->Addr->Addr->Nat->Prop
 |true,h,it,a,i=>h.IsTupleIter it a i
 |false,h,it,a,i=>h.IsListIter it a i
noncomputable def SrcH:Bool->Heap->Addr->Array Value->Prop
 |true,h,a,its=>h.IsTuple a its
 |false,h,a,its=>h.IsList a its
theorem SrcIt.at (x:SrcIt t h it a i)(e:∀o,h.get? it=some o->h'.get? it=some o):SrcIt t h' it a i:=by
 cases t
 ·exact Heap.IsListIter.at x e
 ·exact Heap.IsTupleIter.at x e
theorem SrcH.at (x:SrcH t h a is)(e:∀o,h.get? a=some o->h'.get? a=some o):SrcH t h' a is:=by
 cases t
 ·exact Heap.IsList.at x e
 ·obtain⟨o,ho,r⟩:=x;exact⟨o,e _ ho,r⟩
theorem SrcIt.obj (x:SrcIt t h it a i):∃o,h.get? it=some o/\∀v,o.data≠ .cell v:=by
 cases t<;>(obtain⟨o,e,c,d⟩:=x;exact⟨o,e,fun v z=>by rw[d]at z;cases z⟩)
theorem SrcH.lt (x:SrcH t h a is):a<h.objs.size:=by
 cases t<;>(obtain⟨o,e,_⟩:=x;exact Heap.lt_size e)
section
variable {prog:Program} {w:World} {A:Around} {E:Value->Shared->Prop} {s:Shared}
theorem zmg {items}(hit:s.heap.IsTupleIter it l i)(hl:s.heap.IsTuple l items)
  (k : (∃ x, items[i]? = some x /\ ∀ h', h'.IsTupleIter it l (i + 1) -> Heap.SameBut it s.heap h' -> Q x { s with heap := h' }) \/
   (items[i]? =none/\A.handled=none/\∀h' e,Heap.ExtBut it s.heap h'->(∃o,h'.get? e=some o/\o.cls= .type "StopIteration")->E (.ref e) {s with heap:=h'})):
  wpAny (model prog w) A (Builtin.SmallTypes.nextOf (.ref it)) Q E s:=by
 obtain⟨o,ho,hc,hd⟩:=id hit
 obtain⟨ol,hol,-,nl,hdl⟩:=hl
 have ne:¬((Value.ref l==Value.none)=true):=Bool.false_ne_true
 unfold Builtin.SmallTypes.nextOf
 refine wpAny_bind (wpAny_callSpecial?_slot (name:=Str.ofString "__next__") hit.typeIs slot_tupleiter_next (wpAny_call_entry slot_tupleiter_next hit.typeIs entry_tupleiter_next ?_ (args_tupleiter_next _)))
 refine(?_:wpAny _ _ (field (.ref it) 0>>=_) _ _ s)
 refine wpAny_bind (wpAny_field ho hd (x:= .ref l) rfl (?_:wpAny _ _ (if(Value.ref l==Value.none)=true then _ else _) _ _ s))
 rw[if_neg ne]
 refine(?_:wpAny _ _ (field (.ref it) 1>>=_) _ _ s)
 refine wpAny_bind (wpAny_field ho hd (x:= .int i 0) rfl (?_:wpAny _ _ (seqItems? (.ref l)>>=_) _ _ s))
 refine wpAny_bind (wpAny_seqItems hol hdl ?_)
 rcases k with⟨x,hx,k⟩|⟨hx,hh,k⟩<;>simp only[Int.toNat_natCast,hx]
 ·have upd:∀h':Heap,h'.get? it=some (o.mapFields fun a=>a.setIfInBounds 1 (rawInt (((i:Nat):Int)+1)))->h'.IsTupleIter it l (i+1):=fun h' e=>⟨_,e,(Obj.cls_mapFields ..).trans hc,by rw[Obj.data_mapFields hd];simp[rawInt]⟩
  refine wpAny_bind (wpAny_setField ho hd (by simp) (wpAny_pure ⟨x,rfl,wpAny_pure (k _ ?_ (Heap.SameBut.update ..))⟩))
  refine⟨_,Heap.get?_update_self _ ho (Obj.isFreed_of_fields (Obj.data_mapFields hd _)),(Obj.cls_mapFields ..).trans hc,?_⟩
  rw[Obj.data_mapFields hd]
  simp[rawInt]
 ·refine wpAny_bind (wpAny_rule (wpAny_bind (wpAny_setField ho hd (by simp) (?_:wpAny _ _ (newExc (.type "StopIteration") []>>=_) _ _ _))))
  refine wpAny_bind ?_
  simp only[newExc,newTuple]
  refine wpAny_bind (wpAny_newObj_type (wpAny_bind (m:=firstArgMember _ _) (wpAny_of_eq (a:=Value.none) (by first|rfl|(simp only[firstArgMember];rfl)) (wpAny_newObj_type ?_ (by size_fits)))) (by size_fits))
  simp only[raiseNew]
  refine wpAny_bind (wpAny_handled ?_)
  first|rw[show A.in1.handled=none from hh]|rw[hh]
  exact wpAny_bind (wpAny_pure (wpAny_throw (k _ _ (((Heap.SameBut.update ..).extBut.push _).push _) ⟨_,Heap.get?_push_size _ rfl,rfl⟩)))
theorem zbq (hh:A.handled=none)(it l:Addr)(hne:l≠it)(items:Array Value):Draws prog w A it [it,l] items.size (fun i v=>items[i]? =some v) (fun i h=>SrcIt t h it l i/\SrcH t h l items):=by
 cases t
 ·exact Draws.list hh it l hne items
 ·refine⟨fun _ _ st=>?_,fun _ _ _ st hk=>⟨SrcIt.at st.1 fun o e=>hk it (by simp) o e,SrcH.at st.2 fun o e=>hk l (by simp) o e⟩,fun i s Q E hi st hQ=>?_,fun s Q E st hE=>zmg st.1 st.2 (.inr ⟨by simp,hh,hE⟩)⟩
  ·obtain⟨o,e,-⟩:=SrcIt.obj st.1
   exact⟨o,e⟩
  ·exact zmg st.1 st.2 (.inl ⟨items[i],by simp[hi],fun h' a b=>hQ _ h' s.toks (by simp[hi]) ⟨a,SrcH.at st.2 fun o e=>(b.2 l hne).trans e⟩ b⟩)
noncomputable def srcO (t:Bool)(a:Addr):Obj:={cls:= .type (if t then "tuple_iterator" else "list_iterator"),data:= .fields #[.ref a,.int 0 0]}
theorem zhg (e:h.get? it=some (srcO t a)):SrcIt t h it a 0:=by
 cases t<;>exact⟨_,e,rfl,rfl⟩
theorem zd0 (t:Bool)(a:Addr):(srcO t a).isFreed=false:=by cases t<;>rfl
theorem zco {items}(hl:SrcH t s.heap a items)(hQ:Q (.ref s.heap.objs.size) {s with heap:=s.heap.push (srcO t a)}):
  wpAny (model prog w) A (pyIter (.ref a)) Q E s:=by
 cases t
 ·exact wpAny_pyIter_list hl hQ
 ·exact wpAny_pyIter_tuple hl hQ
noncomputable abbrev zdA (h:Heap)(T:Addr)(a b c:Value):Prop:=h.get? T=some {cls:= .type "tuple",data:= .seq #[a,b,c]}
theorem zia {T:Addr}{a b c x:Value}{Q:Unit->Shared->Prop}(hT:zdA s.heap T a b c)
  (h:∀h',h'.get? T=some {cls:= .type "tuple",data:= .seq ((#[a,b,c]:Array Value).setIfInBounds k x)}->Heap.SameBut T s.heap h'->Q () {s with heap:=h'}):
  wpAny (model prog w) A (updateSeq T (·.setIfInBounds k x)) Q E s:=
 wpAny_updateSeq hT rfl (h _ (by rw[Heap.get?_update_self _ hT rfl];simp[Obj.mapSeq]) (Heap.SameBut.update ..))
section
variable {N a1 a2 a3:Nat} {n1 n2 n3:Nat} {P1 P2 P3:Nat->Value->Prop} {S1 S2 S3:Nat->Heap->Prop}
theorem znH {a b c:Value}(D1:Draws prog w A N [N,a1] n1 P1 S1)(D2:Draws prog w A (N+1) [N+1,a2] n2 P2 S2)(D3:Draws prog w A (N+2) [N+2,a3] n3 P3 S3)(l1:a1<N)(l2:a2<N)(l3:a3<N)
  (hz:IsZip s.heap (N+5) (N+3) (N+4) .none) (hTI:zdA s.heap (N+3) (.ref N) (.ref (N+1)) (.ref (N+2))) (hTO:zdA s.heap (N+4) a b c) (h1:S1 i s.heap) (h2:S2 i s.heap) (h3:S3 i s.heap) (i1:i<n1) (i2:i<n2) (i3:i<n3)
  (k : ∀ x y z h' tk, P1 i x -> P2 i y -> P3 i z -> IsZip h' (N + 5) (N + 3) (N + 4) (rawInt s.heap.objs.size) -> zdA h' (N + 4) x y z -> S1 (i + 1) h' -> S2 (i + 1) h' -> S3 (i + 1) h' -> zdA h' s.heap.objs.size x y z ->
   (∀c o,c≠N->c≠N+1->c≠N+2->c≠N+4->c≠N+5->s.heap.get? c=some o->h'.get? c=some o)->Q (.ref s.heap.objs.size) {s with heap:=h',toks:=tk}):
  wpAny (model prog w) A (Builtin.«zip.__next__» ⟨[.ref (N+5)],[]⟩) (fun fin s'=>∃v,fin= .done (.ret v)/\Q v s') E s:=by
 refine(?_:wpAny _ _ (field (.ref (N+5)) 2>>=_) _ _ _)
 refine wpAny_bind (wpAny_field hz rfl (x:= .bool false) rfl (?_:wpAny _ _ (field (.ref (N+5)) 3>>=_) _ _ _))
 refine wpAny_bind (wpAny_field hz rfl (x:= .ref (N+3)) rfl (wpAny_bind (wpAny_seqItems hTI rfl (?_:wpAny _ _ (Builtin.SmallTypes.ownedTupleIsFree (.ref (N+5))>>=_) _ _ _))))
 refine wpAny_bind ?_
 unfold Builtin.SmallTypes.ownedTupleIsFree
 refine wpAny_bind (wpAny_field hz rfl (x:= .none) rfl (wpAny_pure ?_))
 simp only[if_true]
 refine wpAny_bind (wpAny_rule (wpAny_bind (wpAny_field hz rfl (x:= .ref (N+4)) rfl (wpAny_bind (wpAny_setField_rec hz (by simp) fun g1 z1 s1=>wpAny_bind ?_)))))
 replace z1:IsZip g1 (N+5) (N+3) (N+4) .ellipsis:=z1
 simp only[List.zipIdx_cons,List.zipIdx_nil,List.forIn_cons,List.forIn_nil]
 refine wpAny_bind (wpAny_bind (wpAny_onRaise (?_:wpAny _ _ (Builtin.SmallTypes.nextOf (.ref N)>>=_) _ _ _)))
 have e1:S1 i g1:=D1.frame _ _ _ h1 fun b hb o e=>(s1.2 b (nin2 hb (by ac_rfl) (by ac_rfl))).trans e
 refine wpAny_bind (D1.item i _ _ _ i1 e1 fun x g2 t2 p1 f2 s2=>wpAny_pure ?_)
 have q2:zdA g2 (N+4) a b c:=(s2.2 _ (ne_ (by ac_rfl))).trans ((s1.2 _ (ne_ (by ac_rfl))).trans hTO)
 refine wpAny_bind (wpAny_seqItems q2 rfl (wpAny_bind (zia q2 fun g3 q3 s3=>wpAny_bind (wpAny_letGo (wpAny_pure ?_)))))
 replace q3:zdA g3 (N+4) x b c:=q3
 have k3:∀d o,d≠N->d≠N+4->d≠N+5->s.heap.get? d=some o->g3.get? d=some o:=fun d o c1 c2 c3 e=>(s3.2 d c2).trans ((s2.2 d c1).trans ((s1.2 d c3).trans e))
 refine wpAny_bind (wpAny_bind (wpAny_onRaise (?_:wpAny _ _ (Builtin.SmallTypes.nextOf (.ref (N+1))>>=_) _ _ _)))
 have e3:S2 i g3:=D2.frame _ _ _ h2 fun b hb o e=>k3 b o (nin2 hb (by ac_rfl) (by ac_rfl)) (nin2 hb (by ac_rfl) (by ac_rfl)) (nin2 hb (by ac_rfl) (by ac_rfl)) e
 refine wpAny_bind (D2.item i _ _ _ i2 e3 fun y g4 t4 p2 f4 s4=>wpAny_pure ?_)
 have q4:zdA g4 (N+4) x b c:=(s4.2 _ (ne_ (by ac_rfl))).trans q3
 refine wpAny_bind (wpAny_seqItems q4 rfl (wpAny_bind (zia q4 fun g5 q5 s5=>wpAny_bind (wpAny_letGo (wpAny_pure ?_)))))
 replace q5:zdA g5 (N+4) x y c:=q5
 refine wpAny_bind (wpAny_bind (wpAny_onRaise (?_:wpAny _ _ (Builtin.SmallTypes.nextOf (.ref (N+2))>>=_) _ _ _)))
 have e5:S3 i g5:=D3.frame _ _ _ h3 fun b hb o e=>(s5.2 b (nin2 hb (by ac_rfl) (by ac_rfl))).trans ((s4.2 b (nin2 hb (by ac_rfl) (by ac_rfl))).trans (k3 b o (nin2 hb (by ac_rfl) (by ac_rfl)) (nin2 hb (by ac_rfl) (by ac_rfl)) (nin2 hb (by ac_rfl) (by ac_rfl)) e))
 refine wpAny_bind (D3.item i _ _ _ i3 e5 fun z g6 t6 p3 f6 s6=>wpAny_pure ?_)
 have q6:zdA g6 (N+4) x y c:=(s6.2 _ (ne_ (by ac_rfl))).trans q5
 refine wpAny_bind (wpAny_seqItems q6 rfl (wpAny_bind (zia q6 fun g7 q7 s7=>wpAny_bind (wpAny_letGo (wpAny_pure (wpAny_pure ?_))))))
 replace q7:zdA g7 (N+4) x y z:=q7
 have sz:g7.objs.size=s.heap.objs.size:=by rw[s7.1,s6.1,s5.1,s4.1,s3.1,s2.1,s1.1]
 have z7:IsZip g7 (N+5) (N+3) (N+4) .ellipsis:=(s7.2 _ (ne_ (by ac_rfl))).trans ((s6.2 _ (ne_ (by ac_rfl))).trans ((s5.2 _ (ne_ (by ac_rfl))).trans ((s4.2 _ (ne_ (by ac_rfl))).trans ((s3.2 _ (ne_ (by ac_rfl))).trans ((s2.2 _ (ne_ (by ac_rfl))).trans z1)))))
 have zl:(N+5:Nat)<g7.objs.size:=Heap.lt_size z7
 have k7:∀d o,d≠N->d≠N+1->d≠N+2->d≠N+4->d≠N+5->s.heap.get? d=some o->g7.get? d=some o:=fun d o c1 c2 c3 c4 c5 e=>(s7.2 d c4).trans ((s6.2 d c3).trans ((s5.2 d c4).trans ((s4.2 d c2).trans (k3 d o c1 c4 c5 e))))
 have f7:S1 (i+1) g7:=D1.frame _ _ _ f2 fun b hb o e=>(s7.2 b (nin2 hb (by ac_rfl) (by ac_rfl))).trans ((s6.2 b (nin2 hb (by ac_rfl) (by ac_rfl))).trans ((s5.2 b (nin2 hb (by ac_rfl) (by ac_rfl))).trans ((s4.2 b (nin2 hb (by ac_rfl) (by ac_rfl))).trans ((s3.2 b (nin2 hb (by ac_rfl) (by ac_rfl))).trans e))))
 have f7':S2 (i+1) g7:=D2.frame _ _ _ f4 fun b hb o e=>(s7.2 b (nin2 hb (by ac_rfl) (by ac_rfl))).trans ((s6.2 b (nin2 hb (by ac_rfl) (by ac_rfl))).trans ((s5.2 b (nin2 hb (by ac_rfl) (by ac_rfl))).trans e))
 have f7'':S3 (i+1) g7:=D3.frame _ _ _ f6 fun b hb o e=>(s7.2 b (nin2 hb (by ac_rfl) (by ac_rfl))).trans e
 refine wpAny_bind (wpAny_seqItems q7 rfl (wpAny_bind (wpAny_newTuple (?_:wpAny _ _ (Builtin.SmallTypes.ownedTupleHandOut (.ref (N+5)) (.ref g7.objs.size)>>=_) _ _ _))))
 refine wpAny_bind ?_
 unfold Builtin.SmallTypes.ownedTupleHandOut
 refine wpAny_bind (wpAny_setField_rec (show IsZip (g7.push {cls:= .type "tuple",data:= .seq #[x,y,z]}) (N+5) (N+3) (N+4) .ellipsis from Heap.get?_push_of_some _ z7) (by simp) fun g9 z9 s9=>?_)
 replace z9:IsZip g9 (N+5) (N+3) (N+4) (rawInt g7.objs.size):=z9
 refine wpAny_setField_rec z9 (by simp) fun g8 z8 s8=>wpAny_pure ⟨_,rfl,?_⟩
 replace z8:IsZip g8 (N+5) (N+3) (N+4) (rawInt g7.objs.size):=z8
 have up:∀c o,c≠N+5->g7.get? c=some o->g8.get? c=some o:=fun c o c1 e=>(s8.2 c c1).trans ((s9.2 c c1).trans (Heap.get?_push_of_some _ e))
 have T8:zdA g8 g7.objs.size x y z:=(s8.2 _ (ne_ (by ac_rfl))).trans ((s9.2 _ (ne_ (by ac_rfl))).trans (Heap.get?_push_size _ rfl))
 rw[sz]at z8 T8
 refine(?_:Q (.ref g7.objs.size) _)
 rw[sz]
 exact k x y z g8 _ p1 p2 p3 z8 (up _ _ (ne_ (by ac_rfl)) q7) (D1.frame _ _ _ f7 fun b hb o e=>up b o (nin2 hb (by ac_rfl) (by ac_rfl)) e) (D2.frame _ _ _ f7' fun b hb o e=>up b o (nin2 hb (by ac_rfl) (by ac_rfl)) e) (D3.frame _ _ _ f7'' fun b hb o e=>up b o (nin2 hb (by ac_rfl) (by ac_rfl)) e) T8 fun c o c1 c2 c3 c4 c5 e=>up c o c5 (k7 c o c1 c2 c3 c4 c5 e)
theorem zip3_end {a b c:Value}{Q:Fin->Shared->Prop}(D1:Draws prog w A N [N,a1] n1 P1 S1)(D2:Draws prog w A (N+1) [N+1,a2] n2 P2 S2)(D3:Draws prog w A (N+2) [N+2,a3] n3 P3 S3)(l1:a1<N)(l2:a2<N)(l3:a3<N)
  (hz:IsZip s.heap (N+5) (N+3) (N+4) .none) (hTI:zdA s.heap (N+3) (.ref N) (.ref (N+1)) (.ref (N+2))) (hTO:zdA s.heap (N+4) a b c) (h1:S1 i s.heap) (h2:S2 i s.heap) (h3:S3 i s.heap) (hi:i=n1\/(i<n1/\(i=n2\/(i<n2/\i=n3))))
  (k:∀h' e tk,(∀c o,c≠N->c≠N+1->c≠N+2->c≠N+4->c≠N+5->s.heap.get? c=some o->h'.get? c=some o)->(∃o,h'.get? e=some o/\o.cls= .type "StopIteration")->E (.ref e) {s with heap:=h',toks:=tk}):
  wpAny (model prog w) A (Builtin.«zip.__next__» ⟨[.ref (N+5)],[]⟩) Q E s:=by
 refine(?_:wpAny _ _ (field (.ref (N+5)) 2>>=_) _ _ _)
 refine wpAny_bind (wpAny_field hz rfl (x:= .bool false) rfl (?_:wpAny _ _ (field (.ref (N+5)) 3>>=_) _ _ _))
 refine wpAny_bind (wpAny_field hz rfl (x:= .ref (N+3)) rfl (wpAny_bind (wpAny_seqItems hTI rfl (?_:wpAny _ _ (Builtin.SmallTypes.ownedTupleIsFree (.ref (N+5))>>=_) _ _ _))))
 refine wpAny_bind ?_
 unfold Builtin.SmallTypes.ownedTupleIsFree
 refine wpAny_bind (wpAny_field hz rfl (x:= .none) rfl (wpAny_pure ?_))
 simp only[if_true]
 refine wpAny_bind (wpAny_rule (wpAny_bind (wpAny_field hz rfl (x:= .ref (N+4)) rfl (wpAny_bind (wpAny_setField_rec hz (by simp) fun g1 z1 s1=>wpAny_bind ?_)))))
 replace z1:IsZip g1 (N+5) (N+3) (N+4) .ellipsis:=z1
 simp only[List.zipIdx_cons,List.zipIdx_nil,List.forIn_cons,List.forIn_nil]
 refine wpAny_bind (wpAny_bind (wpAny_onRaise (?_:wpAny _ _ (Builtin.SmallTypes.nextOf (.ref N)>>=_) _ _ _)))
 have e1:S1 i g1:=D1.frame _ _ _ h1 fun b hb o e=>(s1.2 b (nin2 hb (by ac_rfl) (by ac_rfl))).trans e
 rcases hi with rfl|⟨i1,hi⟩
 ·refine wpAny_bind (D1.done _ _ _ e1 fun g2 e x2 he=>?_)
  obtain⟨oe,hoe,hce⟩:=he
  have z2:IsZip g2 (N+5) (N+3) (N+4) .ellipsis:=x2 _ _ (ne_ (by ac_rfl)) z1
  have hez:e≠N+5:=fun x=>by subst x;rw[z2]at hoe;cases hoe;simp at hce
  exact wpAny_setField_rec z2 (by simp) fun g3 _ s3=>k g3 e _ (fun c o c1 c2 c3 c4 c5 x=>(s3.2 c c5).trans (x2 c o c1 ((s1.2 c c5).trans x))) ⟨oe,(s3.2 _ hez).trans hoe,hce⟩
 refine wpAny_bind (D1.item i _ _ _ i1 e1 fun x g2 t2 p1 f2 s2=>wpAny_pure ?_)
 have q2:zdA g2 (N+4) a b c:=(s2.2 _ (ne_ (by ac_rfl))).trans ((s1.2 _ (ne_ (by ac_rfl))).trans hTO)
 refine wpAny_bind (wpAny_seqItems q2 rfl (wpAny_bind (zia q2 fun g3 q3 s3=>wpAny_bind (wpAny_letGo (wpAny_pure ?_)))))
 replace q3:zdA g3 (N+4) x b c:=q3
 have k3:∀d o,d≠N->d≠N+4->d≠N+5->s.heap.get? d=some o->g3.get? d=some o:=fun d o c1 c2 c3 e=>(s3.2 d c2).trans ((s2.2 d c1).trans ((s1.2 d c3).trans e))
 have z3:IsZip g3 (N+5) (N+3) (N+4) .ellipsis:=(s3.2 _ (ne_ (by ac_rfl))).trans ((s2.2 _ (ne_ (by ac_rfl))).trans z1)
 refine wpAny_bind (wpAny_bind (wpAny_onRaise (?_:wpAny _ _ (Builtin.SmallTypes.nextOf (.ref (N+1))>>=_) _ _ _)))
 have e3:S2 i g3:=D2.frame _ _ _ h2 fun b hb o e=>k3 b o (nin2 hb (by ac_rfl) (by ac_rfl)) (nin2 hb (by ac_rfl) (by ac_rfl)) (nin2 hb (by ac_rfl) (by ac_rfl)) e
 rcases hi with rfl|⟨i2,rfl⟩
 ·refine wpAny_bind (D2.done _ _ _ e3 fun g4 e x4 he=>?_)
  obtain⟨oe,hoe,hce⟩:=he
  have z4:IsZip g4 (N+5) (N+3) (N+4) .ellipsis:=x4 _ _ (ne_ (by ac_rfl)) z3
  have hez:e≠N+5:=fun x=>by subst x;rw[z4]at hoe;cases hoe;simp at hce
  exact wpAny_setField_rec z4 (by simp) fun g5 _ s5=>k g5 e _ (fun c o c1 c2 c3 c4 c5 x=>(s5.2 c c5).trans (x4 c o c2 (k3 c o c1 c4 c5 x))) ⟨oe,(s5.2 _ hez).trans hoe,hce⟩
 refine wpAny_bind (D2.item i _ _ _ i2 e3 fun y g4 t4 p2 f4 s4=>wpAny_pure ?_)
 have q4:zdA g4 (N+4) x b c:=(s4.2 _ (ne_ (by ac_rfl))).trans q3
 refine wpAny_bind (wpAny_seqItems q4 rfl (wpAny_bind (zia q4 fun g5 q5 s5=>wpAny_bind (wpAny_letGo (wpAny_pure ?_)))))
 have z5:IsZip g5 (N+5) (N+3) (N+4) .ellipsis:=(s5.2 _ (ne_ (by ac_rfl))).trans ((s4.2 _ (ne_ (by ac_rfl))).trans z3)
 refine wpAny_bind (wpAny_bind (wpAny_onRaise (?_:wpAny _ _ (Builtin.SmallTypes.nextOf (.ref (N+2))>>=_) _ _ _)))
 have e5:S3 i g5:=D3.frame _ _ _ h3 fun b hb o e=>(s5.2 b (nin2 hb (by ac_rfl) (by ac_rfl))).trans ((s4.2 b (nin2 hb (by ac_rfl) (by ac_rfl))).trans (k3 b o (nin2 hb (by ac_rfl) (by ac_rfl)) (nin2 hb (by ac_rfl) (by ac_rfl)) (nin2 hb (by ac_rfl) (by ac_rfl)) e))
 refine wpAny_bind (D3.done _ _ _ e5 fun g6 e x6 he=>?_)
 obtain⟨oe,hoe,hce⟩:=he
 have z6:IsZip g6 (N+5) (N+3) (N+4) .ellipsis:=x6 _ _ (ne_ (by ac_rfl)) z5
 have hez:e≠N+5:=fun x=>by subst x;rw[z6]at hoe;cases hoe;simp at hce
 exact wpAny_setField_rec z6 (by simp) fun g7 _ s7=>k g7 e _ (fun c o c1 c2 c3 c4 c5 x=>(s7.2 c c5).trans (x6 c o c3 ((s5.2 c c4).trans ((s4.2 c c2).trans (k3 c o c1 c4 c5 x))))) ⟨oe,(s7.2 _ hez).trans hoe,hce⟩
end
end
noncomputable abbrev tup_ (vs:Array Value):Obj:={cls:= .type "tuple",data:= .seq vs}
noncomputable abbrev zip_ (ti to:Addr):Obj:={cls:= .type "zip",data:= .fields #[.none,.bool false,.bool false,.ref ti,.ref to]}
noncomputable abbrev z2a (h:Heap)(t1 t2:Bool)(l1 l2:Addr):Heap:=(h.push (srcO t1 l1)).push (srcO t2 l2)
noncomputable abbrev z2b (h:Heap)(t1 t2:Bool)(l1 l2:Addr):Heap:=(z2a h t1 t2 l1 l2).push (tup_ #[.ref h.objs.size,.ref (h.push (srcO t1 l1)).objs.size])
noncomputable abbrev z2c (h:Heap)(t1 t2:Bool)(l1 l2:Addr):Heap:=(z2b h t1 t2 l1 l2).push (tup_ #[.none,.none])
noncomputable abbrev z2d (h:Heap)(t1 t2:Bool)(l1 l2:Addr):Heap:=(z2c h t1 t2 l1 l2).push (zip_ (z2a h t1 t2 l1 l2).objs.size (z2b h t1 t2 l1 l2).objs.size)
theorem zmP (t1 t2:Bool)(l1 l2:Addr)(xs ys:Array Value):Meets (Builtin.«zip.__new__» ⟨[.type "zip",.ref l1,.ref l2],[]⟩) (fun _ R s=>SrcH t1 s.heap l1 xs/\SrcH t2 s.heap l2 ys/\
   R (.ok (.ret (.ref (z2c s.heap t1 t2 l1 l2).objs.size))) {s with heap:=z2d s.heap t1 t2 l1 l2}):=
 .of_wp fun prog w A R s h=>by
  obtain⟨hp,g,d,tk,os⟩:=s
  obtain⟨b1,b2,h⟩:=h
  have hsub:=sub_zip
  have L1:SrcH t1 (Shared.heap ⟨hp,g,d,tk,os⟩) l1 xs:=b1
  have L2:SrcH t2 (Shared.heap ⟨hp.push (srcO t1 l1),g,d,tk,os⟩) l2 ys:=SrcH.at b2 fun o e=>Heap.get?_push_of_some _ e
  wp_walk using zco L1,zco L2
  exact⟨_,rfl,h⟩
noncomputable abbrev z3a (h:Heap)(t1 t2 t3:Bool)(l1 l2 l3:Addr):Heap:=((h.push (srcO t1 l1)).push (srcO t2 l2)).push (srcO t3 l3)
noncomputable abbrev z3b (h:Heap)(t1 t2 t3:Bool)(l1 l2 l3:Addr):Heap:=(z3a h t1 t2 t3 l1 l2 l3).push (tup_ #[.ref h.objs.size,.ref (h.push (srcO t1 l1)).objs.size,.ref ((h.push (srcO t1 l1)).push (srcO t2 l2)).objs.size])
noncomputable abbrev z3c (h:Heap)(t1 t2 t3:Bool)(l1 l2 l3:Addr):Heap:=(z3b h t1 t2 t3 l1 l2 l3).push (tup_ #[.none,.none,.none])
noncomputable abbrev z3d (h:Heap)(t1 t2 t3:Bool)(l1 l2 l3:Addr):Heap:=(z3c h t1 t2 t3 l1 l2 l3).push (zip_ (z3a h t1 t2 t3 l1 l2 l3).objs.size (z3b h t1 t2 t3 l1 l2 l3).objs.size)
set_option maxHeartbeats 4000000 in
theorem zmU (t1 t2 t3:Bool)(l1 l2 l3:Addr)(xs ys zs:Array Value):Meets (Builtin.«zip.__new__» ⟨[.type "zip",.ref l1,.ref l2,.ref l3],[]⟩) (fun _ R s=>SrcH t1 s.heap l1 xs/\SrcH t2 s.heap l2 ys/\SrcH t3 s.heap l3 zs/\
   R (.ok (.ret (.ref (z3c s.heap t1 t2 t3 l1 l2 l3).objs.size))) {s with heap:=z3d s.heap t1 t2 t3 l1 l2 l3}):=
 .of_wp fun prog w A R s h=>by
  obtain⟨hp,g,d,tk,os⟩:=s
  obtain⟨b1,b2,b3,h⟩:=h
  have hsub:=sub_zip
  have L1:SrcH t1 (Shared.heap ⟨hp,g,d,tk,os⟩) l1 xs:=b1
  have L2:SrcH t2 (Shared.heap ⟨hp.push (srcO t1 l1),g,d,tk,os⟩) l2 ys:=SrcH.at b2 fun o e=>Heap.get?_push_of_some _ e
  have L3:SrcH t3 (Shared.heap ⟨(hp.push (srcO t1 l1)).push (srcO t2 l2),g,d,tk,os⟩) l3 zs:=SrcH.at b3 fun o e=>Heap.get?_push_of_some _ (Heap.get?_push_of_some _ e)
  wp_walk using zco L1,zco L2,zco L3
  exact⟨_,rfl,h⟩
theorem zi8 (a b c:Value):checkTypeCall "zip" ⟨[a,b,c],[]⟩=pure ():=by kernel_rfl
theorem zj3 (a b c:Value):checkBuiltinCall "zip.__new__" ⟨[.type "zip",a,b,c],[]⟩=pure ():=by kernel_rfl
theorem zmt (a b c d:Value):argsOk "object.__init__" ⟨[a,b,c,d],[]⟩:=by
 unfold argsOk;rw[signature?_of (id:="object.__init__") (n:=['_','_','t','i','n','i','_','_']) (o:=['t','c','e','j','b','o']) (by kernel_rfl) F.owner_object];kernel_rfl
section
variable {prog:Program} {w:World} {A:Around} {E:Value->Shared->Prop} {s:Shared}
theorem zol {t1 t2:Bool}{l1 l2:Addr}(h1:SrcH t1 s.heap l1 xs)(h2:SrcH t2 s.heap l2 ys)
  (k : ∀ h', IsZip h' (s.heap.objs.size + 4) (s.heap.objs.size + 2) (s.heap.objs.size + 3) .none -> IsPair h' (s.heap.objs.size + 2) (.ref s.heap.objs.size) (.ref (s.heap.objs.size + 1)) ->
   IsPair h' (s.heap.objs.size+3) .none .none->SrcIt t1 h' s.heap.objs.size l1 0->SrcIt t2 h' (s.heap.objs.size+1) l2 0->
   (∀c o,s.heap.get? c=some o->h'.get? c=some o)->Q (.ref (s.heap.objs.size+4)) {s with heap:=h'}):wpAny (model prog w) A (call (.type "zip") [.ref l1,.ref l2]) Q E s:=by
 refine callType_new F.called_zip (by decide) (F.typeCall_zip_2 _ _) (F.newCall_zip_2 _ _) (fun obj=>F.args_object_init_3 obj _ _) F.entry_zip_new (zmP t1 t2 l1 l2 xs ys) ⟨h1,h2,(?_:_/\_)⟩
 have y1:(s.heap.push (srcO t1 l1)).objs.size=s.heap.objs.size+1:=Heap.size_push ..
 have y2:(z2a s.heap t1 t2 l1 l2).objs.size=s.heap.objs.size+2:=by rw[Heap.size_push,y1]
 have y3:(z2b s.heap t1 t2 l1 l2).objs.size=s.heap.objs.size+3:=by rw[Heap.size_push,y2]
 have y4:(z2c s.heap t1 t2 l1 l2).objs.size=s.heap.objs.size+4:=by rw[Heap.size_push,y3]
 have g5:(z2d s.heap t1 t2 l1 l2).get? (z2c s.heap t1 t2 l1 l2).objs.size=some _:=Heap.get?_push_size _ rfl
 have g4:(z2d s.heap t1 t2 l1 l2).get? (z2b s.heap t1 t2 l1 l2).objs.size=some _:=Heap.get?_push_of_some _ (Heap.get?_push_size _ rfl)
 have g3:(z2d s.heap t1 t2 l1 l2).get? (z2a s.heap t1 t2 l1 l2).objs.size=some _:=Heap.get?_push_of_some _ (Heap.get?_push_of_some _ (Heap.get?_push_size _ rfl))
 have g2:(z2d s.heap t1 t2 l1 l2).get? (s.heap.push (srcO t1 l1)).objs.size=some (srcO t2 l2):=Heap.get?_push_of_some _ (Heap.get?_push_of_some _ (Heap.get?_push_of_some _ (Heap.get?_push_size _ (zd0 ..))))
 have g1:(z2d s.heap t1 t2 l1 l2).get? s.heap.objs.size=some (srcO t1 l1):=Heap.get?_push_of_some _ (Heap.get?_push_of_some _ (Heap.get?_push_of_some _ (Heap.get?_push_of_some _ (Heap.get?_push_size _ (zd0 ..)))))
 rw[y2,y3,y4]at g5
 rw[y1,y2]at g3
 rw[y3]at g4
 rw[y1]at g2
 rw[y4]
 exact⟨⟨_,g5,rfl⟩,k _ g5 g3 g4 (zhg g1) (zhg g2) fun c o x=>Heap.get?_push_of_some _ (Heap.get?_push_of_some _ (Heap.get?_push_of_some _ (Heap.get?_push_of_some _ (Heap.get?_push_of_some _ x))))⟩
theorem znC {t1 t2 t3:Bool}{l1 l2 l3:Addr}{xs ys zs:Array Value}(h1:SrcH t1 s.heap l1 xs)(h2:SrcH t2 s.heap l2 ys)(h3:SrcH t3 s.heap l3 zs)
  (k : ∀ h', IsZip h' (s.heap.objs.size + 5) (s.heap.objs.size + 3) (s.heap.objs.size + 4) .none -> zdA h' (s.heap.objs.size + 3) (.ref s.heap.objs.size) (.ref (s.heap.objs.size + 1)) (.ref (s.heap.objs.size + 2)) ->
   zdA h' (s.heap.objs.size+4) .none .none .none->SrcIt t1 h' s.heap.objs.size l1 0->SrcIt t2 h' (s.heap.objs.size+1) l2 0->SrcIt t3 h' (s.heap.objs.size+2) l3 0->
   (∀c o,s.heap.get? c=some o->h'.get? c=some o)->Q (.ref (s.heap.objs.size+5)) {s with heap:=h'}):wpAny (model prog w) A (call (.type "zip") [.ref l1,.ref l2,.ref l3]) Q E s:=by
 refine callType_new F.called_zip (by decide) (zi8 _ _ _) (zj3 _ _ _) (fun obj=>zmt obj _ _ _) F.entry_zip_new (zmU t1 t2 t3 l1 l2 l3 xs ys zs) ⟨h1,h2,h3,(?_:_/\_)⟩
 have y1:(s.heap.push (srcO t1 l1)).objs.size=s.heap.objs.size+1:=Heap.size_push ..
 have y2:((s.heap.push (srcO t1 l1)).push (srcO t2 l2)).objs.size=s.heap.objs.size+2:=by rw[Heap.size_push,y1]
 have y3:(z3a s.heap t1 t2 t3 l1 l2 l3).objs.size=s.heap.objs.size+3:=by rw[Heap.size_push,y2]
 have y4:(z3b s.heap t1 t2 t3 l1 l2 l3).objs.size=s.heap.objs.size+4:=by rw[Heap.size_push,y3]
 have y5:(z3c s.heap t1 t2 t3 l1 l2 l3).objs.size=s.heap.objs.size+5:=by rw[Heap.size_push,y4]
 have g6:(z3d s.heap t1 t2 t3 l1 l2 l3).get? (z3c s.heap t1 t2 t3 l1 l2 l3).objs.size=some _:=Heap.get?_push_size _ rfl
 have g5:(z3d s.heap t1 t2 t3 l1 l2 l3).get? (z3b s.heap t1 t2 t3 l1 l2 l3).objs.size=some _:=Heap.get?_push_of_some _ (Heap.get?_push_size _ rfl)
 have g4:(z3d s.heap t1 t2 t3 l1 l2 l3).get? (z3a s.heap t1 t2 t3 l1 l2 l3).objs.size=some _:=Heap.get?_push_of_some _ (Heap.get?_push_of_some _ (Heap.get?_push_size _ rfl))
 have g3:(z3d s.heap t1 t2 t3 l1 l2 l3).get? ((s.heap.push (srcO t1 l1)).push (srcO t2 l2)).objs.size=some (srcO t3 l3):=Heap.get?_push_of_some _ (Heap.get?_push_of_some _ (Heap.get?_push_of_some _ (Heap.get?_push_size _ (zd0 ..))))
 have g2:(z3d s.heap t1 t2 t3 l1 l2 l3).get? (s.heap.push (srcO t1 l1)).objs.size=some (srcO t2 l2):=Heap.get?_push_of_some _ (Heap.get?_push_of_some _ (Heap.get?_push_of_some _ (Heap.get?_push_of_some _ (Heap.get?_push_size _ (zd0 ..)))))
 have g1:(z3d s.heap t1 t2 t3 l1 l2 l3).get? s.heap.objs.size=some (srcO t1 l1):=Heap.get?_push_of_some _ (Heap.get?_push_of_some _ (Heap.get?_push_of_some _ (Heap.get?_push_of_some _ (Heap.get?_push_of_some _ (Heap.get?_push_size _ (zd0 ..))))))
 rw[y3,y4,y5]at g6
 rw[y1,y2,y3]at g4
 rw[y4]at g5
 rw[y2]at g3
 rw[y1]at g2
 rw[y5]
 exact⟨⟨_,g6,rfl⟩,k _ g6 g4 g5 (zhg g1) (zhg g2) (zhg g3) fun c o x=>Heap.get?_push_of_some _ (Heap.get?_push_of_some _ (Heap.get?_push_of_some _ (Heap.get?_push_of_some _ (Heap.get?_push_of_some _ (Heap.get?_push_of_some _ x)))))⟩
noncomputable abbrev en_ (it:Addr):Obj:={cls:= .type "enumerate",data:= .fields #[.none,.bool false,.ref it,rawInt 0,.none,.none]}
theorem zmy (t:Bool)(l:Addr)(o:Obj)(xs:Array Value):Meets (Builtin.«enumerate.__new__» ⟨[.type "enumerate",.ref l],[]⟩) (fun _ R s=>s.heap.get? l=some o/\SrcH t s.heap l xs/\
   R (.ok (.ret (.ref (s.heap.push (srcO t l)).objs.size))) {s with heap:=(s.heap.push (srcO t l)).push (en_ s.heap.objs.size)}):=
 .of_wp fun prog w A R s h=>by
  obtain⟨hp,g,d,tk,os⟩:=s
  obtain⟨hl,b,h⟩:=h
  have hsub:=sub_enumerate
  have hL:SrcH t (Shared.heap ⟨hp,g,d,tk,os⟩) l xs:=b
  wp_walk using AutoSeq1.wpAny_loadPart' hl
  refine wpAny_stack_any fun st=>wpAny_pure ?_
  split
  ·rename_i c _ _ _ _ _
   cases(c==Value.type "enumerate")<;>(wp_walk using AutoSeq1.wpAny_loadPart' hl,zco hL;exact⟨_,rfl,h⟩)
  ·wp_walk using AutoSeq1.wpAny_loadPart' hl,zco hL
   exact⟨_,rfl,h⟩
theorem znp (h1:SrcH t s.heap l xs)
  (k:∀h',IsEnum h' (s.heap.objs.size+1) s.heap.objs.size 0 .none->SrcIt t h' s.heap.objs.size l 0->(∀b o,s.heap.get? b=some o->h'.get? b=some o)->Q (.ref (s.heap.objs.size+1)) {s with heap:=h'}):
  wpAny (model prog w) A (call (.type "enumerate") [.ref l]) Q E s:=by
 have⟨o,ho⟩:∃o,s.heap.get? l=some o:=by cases t<;>(obtain⟨o,e,-⟩:=h1;exact⟨o,e⟩)
 refine callType_new F.called_enumerate (by decide) (F.typeCall_enumerate_1 _) (F.newCall_enumerate_1 _) (fun obj=>F.args_object_init_2 obj _) F.entry_enumerate_new (zmy t l o xs) ⟨ho,h1,(?_:_/\_)⟩
 have y1:(s.heap.push (srcO t l)).objs.size=s.heap.objs.size+1:=Heap.size_push ..
 have g2:((s.heap.push (srcO t l)).push (en_ s.heap.objs.size)).get? (s.heap.push (srcO t l)).objs.size=some _:=Heap.get?_push_size _ rfl
 have g1:((s.heap.push (srcO t l)).push (en_ s.heap.objs.size)).get? s.heap.objs.size=some (srcO t l):=Heap.get?_push_of_some _ (Heap.get?_push_size _ (zd0 ..))
 rw[y1]at g2
 rw[y1]
 exact⟨⟨_,g2,rfl⟩,k _ g2 (zhg g1) fun b o x=>Heap.get?_push_of_some _ (Heap.get?_push_of_some _ x)⟩
end
end M
namespace M
local macro_rules | `(tactic| ac_rfl) => `(tactic| first | exact M.nA (by decide) | exact M.nB (by decide) | exact M.nC (by decide) | exact M.nL (by assumption) | exact Nat.ne_of_lt (by assumption) | lia)
open L2 PySem PySem.Spec
open PyProof.Rows hiding St
open Sem (wp)
variable {t' ek:Nat} {h':Heap} {fp:List Addr} {vs xs:List V} {its:List Value} {t:Bool} {X:Cx} {pins:List (Addr×Obj)} {σ:St} {H:Hp} {s:Shared} {a:Expr} {K:W.Frag} {elts:List Expr} {ep p pos:Pos} {ta:TA} {es:List D} {ma:MA}
section
variable {X:Cx} {pins:List (Addr×Obj)} {σ:St} {H:Hp} {s:Shared}
theorem zjm (I:Inv X pins σ H s)(k:∀b o,b∉fp->s.heap.get? b=some o->h'.get? b=some o)(hf:∀b∈fp,FpOk X pins H b):Inv X pins σ H {s with heap:=h',toks:=t'}:=by
 have nit:∀b u,H b=some u->b∉fp:=fun b u e z=>by rw[(hf b z).1]at e;cases e
 refine I.step (g':=s.gens) (d':=s.drawn) (ch:=fp) (fun b hb=>?_) (fun b o _ _ hc e _=>k b o hc e) (fun b o _ _ hc e _=>⟨o.slots,k b o hc e⟩) (fun _ _ _ _ n=>n)
  (fun b o hc e=>⟨o,k b o hc e⟩) (fun _ _ e=>e) (fun _ _ _ e=>e) (fun b ps e=>⟨#[],by rw[e];simp⟩) (fun m hm=>?_) (fun b u e=>?_) I.bare
 ·obtain⟨f0,f1,f2,f3,f4,f5⟩:=hf b hb
  exact⟨f3,f1,f4,f5⟩
 ·obtain⟨o,es,ep,ho,r⟩:=hm
  exact⟨o,es,ep,k _ o (fun z=>(hf _ z).2.1 rfl) ho,r⟩
 ·refine(I.hok b u e).stay (fun c v hc q=>k c v ?_ q) (fun _ q=>q) fun _ _ q=>q
  rcases hc with z|z
  ·rw[z];exact nit b u e
  ·exact nit c _ z
theorem zld {t':Nat}{h':Heap}{fp:List Addr}(I:Inv X pins σ H s)(k:∀b o,b∉fp->s.heap.get? b=some o->h'.get? b=some o)(hf:∀b∈fp,FpOk X pins H b)(hl:∀b∈fp,b<s.heap.objs.size)
  (hT:h'.get? s.heap.objs.size=some (tup_ its.toArray)) (hz:vs.length<=sizeLine) (r:Vals vs its):Inv X pins σ (upd H s.heap.objs.size (.tup vs)) {s with heap:=h',toks:=t'}:=by
 have I1:=I.laid (t':=s.toks) (a:=s.heap.objs.size) (o:= .tup vs) (h':=s.heap.push (tup_ its.toArray)) (fun b u q=>Heap.get?_push_of_some _ q) (Nat.le_refl _) ⟨hz,its,r,IsTup.new _ _⟩
 refine zjm (s:={s with heap:=s.heap.push (tup_ its.toArray),toks:=s.toks}) (t':=t') (fp:=fp) I1 (fun b o hb e=>?_) fun b hb=>?_
 ·have e':(s.heap.push (tup_ its.toArray)).get? b=some o:=e
  rcases Heap.get?_push_cases e' with⟨rfl,rfl⟩|q
  ·exact hT
  ·exact k b o hb q
 ·obtain⟨f0,fr⟩:=hf b hb
  refine⟨?_,fr⟩
  rw[zaq (Nat.ne_of_lt (hl b hb))]
  exact f0
end
noncomputable def SrcSq (t:Bool)(K:W.Frag)(H:Hp)(a:Addr)(xs:List V):Prop:=match t with
 |true=>SqT K H a xs
 |false=>SqL K H a xs
theorem SrcSq.heap {a:Addr}(I:Inv X pins σ H s)(h:SrcSq t X.K H a xs):∃its:List Value,Vals xs its/\SrcH t s.heap a its.toArray/\xs.length<=sizeLine:=by
 cases t
 ·obtain⟨its,r,p,z⟩:=I.list h
  exact⟨its,r,p.isList,z⟩
 ·obtain⟨its,r,p,z⟩:=I.tuple h
  exact⟨its,r,p,z⟩
theorem SrcSq.inj {a:Addr}{xs ys:List V}(I:Inv X pins σ H s)(h:SrcSq t X.K H a xs)(h':SrcSq t X.K H a ys):xs=ys:=by
 cases t
 ·exact I.list_inj h h'
 ·exact I.tuple_inj h h'
noncomputable def Itz2 (K:W.Frag)(t1:Bool)(a1:Addr)(t2:Bool)(a2:Addr)(n:Nat):It where
 go:=fun i H=>i<n/\∃xs ys,SrcSq t1 K H a1 xs/\SrcSq t2 K H a2 ys/\n=min xs.length ys.length
 yld:=fun i H x H'=>∃p x1 x2,H p=none/\H'=upd H p (.tup [x1,x2])/\x= .ref p/\∀xs ys,SrcSq t1 K H a1 xs->SrcSq t2 K H a2 ys->xs[i]? =some x1/\ys[i]? =some x2
 stop:=fun i H=>n<=i/\∃xs ys,SrcSq t1 K H a1 xs/\SrcSq t2 K H a2 ys/\n=min xs.length ys.length
theorem nin4 {c N:Nat}(h:c∉([N,N+1,N+2,N+3,N+4]:List Nat)):c≠N/\c≠N+1/\c≠N+3/\c≠N+4:=
 ⟨fun e=>h (e ▸ .head _),fun e=>h (e ▸ .tail _ (.head _)),fun e=>h (e ▸ .tail _ (.tail _ (.tail _ (.head _)))),fun e=>h (e ▸ .tail _ (.tail _ (.tail _ (.tail _ (.head _)))))⟩
theorem nin5 {c N:Nat}(h:c∉([N,N+1,N+2,N+3,N+4,N+5]:List Nat)):c≠N/\c≠N+1/\c≠N+2/\c≠N+4/\c≠N+5:=
 ⟨fun e=>h (e ▸ .head _),fun e=>h (e ▸ .tail _ (.head _)),fun e=>h (e ▸ .tail _ (.tail _ (.head _))),fun e=>h (e ▸ .tail _ (.tail _ (.tail _ (.tail _ (.head _))))),fun e=>h (e ▸ .tail _ (.tail _ (.tail _ (.tail _ (.tail _ (.head _))))))⟩
noncomputable def Itz3 (K:W.Frag)(t1:Bool)(a1:Addr)(t2:Bool)(a2:Addr)(t3:Bool)(a3:Addr)(n:Nat):It where
 go:=fun i H=>i<n/\∃xs ys zs,SrcSq t1 K H a1 xs/\SrcSq t2 K H a2 ys/\SrcSq t3 K H a3 zs/\n=min xs.length (min ys.length zs.length)
 yld:=fun i H x H'=>∃p x1 x2 x3,H p=none/\H'=upd H p (.tup [x1,x2,x3])/\x= .ref p/\∀xs ys zs,SrcSq t1 K H a1 xs->SrcSq t2 K H a2 ys->SrcSq t3 K H a3 zs->xs[i]? =some x1/\ys[i]? =some x2/\zs[i]? =some x3
 stop:=fun i H=>n<=i/\∃xs ys zs,SrcSq t1 K H a1 xs/\SrcSq t2 K H a2 ys/\SrcSq t3 K H a3 zs/\n=min xs.length (min ys.length zs.length)
theorem zoI {P:Program}{w:World}(t1:Bool)(a1:Nat)(t2:Bool)(a2:Nat)(t3:Bool)(a3:Nat)(n N:Nat)(l1:a1<N)(l2:a2<N)(l3:a3<N):
  Turn P w K (.Tuple elts ek ep) (Itz3 K t1 a1 t2 a2 t3 a3 n) ([N,N+1,N+2,N+3,N+4,N+5]:List Nat) (N+5:Nat)
   (fun i h=>i<=n/\IsZip h (N+5:Nat) (N+3:Nat) (N+4:Nat) .none/\zdA h (N+3:Nat) (.ref N) (.ref (N+1:Nat)) (.ref (N+2:Nat))/\(∃a b c,zdA h (N+4:Nat) a b c)/\SrcIt t1 h N a1 i/\SrcIt t2 h (N+1:Nat) a2 i/\SrcIt t3 h (N+2:Nat) a3 i) where
 mem:=by simp
 obj:=fun i h st b hb=>by
  obtain⟨-,h5,h3,⟨a,c,d,h4⟩,h0,h1,h2⟩:=st
  simp only[List.mem_cons,List.not_mem_nil,or_false]at hb
  rcases hb with rfl|rfl|rfl|rfl|rfl|rfl
  ·exact h0.obj
  ·exact h1.obj
  ·exact h2.obj
  ·exact⟨_,h3,fun v z=>by cases z⟩
  ·exact⟨_,h4,fun v z=>by cases z⟩
  ·exact⟨_,h5,fun v z=>by cases z⟩
 keep:=fun i h h' st k=>by
  obtain⟨hi,h5,h3,⟨a,c,d,h4⟩,h0,h1,h2⟩:=st
  exact⟨hi,k _ (by simp) _ h5,k _ (by simp) _ h3,⟨a,c,d,k _ (by simp) _ h4⟩,h0.at fun o e=>k _ (by simp) o e,h1.at fun o e=>k _ (by simp) o e,h2.at fun o e=>k _ (by simp) o e⟩
 item:=by
  intro X hP hw hK hc i pins s σ H E I hf st hg
  subst hP hw hK
  obtain⟨hi,h5,h3,⟨a,c,d,h4⟩,h0,h1,h2⟩:=st
  obtain⟨hn,xs,ys,zs,q1,q2,q3,en⟩:=hg
  obtain⟨us,ru,hu,zu⟩:=q1.heap I
  obtain⟨ws,rw',hw',zw⟩:=q2.heap I
  obtain⟨os,ro,ho',zo⟩:=q3.heap I
  have lu:=ru.length
  have lw:=rw'.length
  have lo:=ro.length
  have D1:=zbq (prog:=X.prog) (w:=X.w) (A:=X.A.in1) (t:=t1) (I.ok.hd hc) N a1 (ne_ (by ac_rfl)) us.toArray
  have D2:=zbq (prog:=X.prog) (w:=X.w) (A:=X.A.in1) (t:=t2) (I.ok.hd hc) (N+1) a2 (ne_ (by ac_rfl)) ws.toArray
  have D3:=zbq (prog:=X.prog) (w:=X.w) (A:=X.A.in1) (t:=t3) (I.ok.hd hc) (N+2) a3 (ne_ (by ac_rfl)) os.toArray
  have hT:s.TypeIs (.ref (N+5:Nat)) "zip":=⟨_,h5,rfl⟩
  unfold pyNext
  refine wpAny_bind (wpAny_attempt (wpAny_callSpecial?_slot (name:=Str.ofString "__next__") hT F.slot_zip_next (wpAny_call_entry F.slot_zip_next hT F.entry_zip_next
   (znH D1 D2 D3 l1 l2 l3 h5 h3 h4 ⟨h0,hu⟩ ⟨h1,hw'⟩ ⟨h2,ho'⟩ (by simp;lia) (by simp;lia) (by simp;lia) fun x y z h' tk p1 p2 p3 g5 g4 g0 g1 g2 gT kk=>wpAny_pure ?_) (F.args_zip_next_1 _))))
  obtain⟨x1,hx1⟩:∃x1,xs[i]? =some x1:=⟨xs[i]'(by lia),List.getElem?_eq_getElem _⟩
  obtain⟨x2,hx2⟩:∃x2,ys[i]? =some x2:=⟨ys[i]'(by lia),List.getElem?_eq_getElem _⟩
  obtain⟨x3,hx3⟩:∃x3,zs[i]? =some x3:=⟨zs[i]'(by lia),List.getElem?_eq_getElem _⟩
  obtain⟨u1,hu1,r1⟩:=ru.get hx1
  obtain⟨u2,hu2,r2⟩:=rw'.get hx2
  obtain⟨u3,hu3,r3⟩:=ro.get hx3
  have e1:u1=x:=by
   have:us[i]? =some x:=by simpa using p1
   rw[hu1]at this;cases this;rfl
  have e2:u2=y:=by
   have:ws[i]? =some y:=by simpa using p2
   rw[hu2]at this;cases this;rfl
  have e3:u3=z:=by
   have:os[i]? =some z:=by simpa using p3
   rw[hu3]at this;cases this;rfl
  subst e1 e2 e3
  refine⟨_,rfl,wpAny_letOwnedTupleGo_zip (s:={s with heap:=h',toks:=tk}) g5 fun h'' g5' sb=>?_⟩
  replace sb:Heap.SameBut (N+5:Nat) h' h'':=sb
  have lz:N+5<s.heap.objs.size:=Heap.lt_size h5
  have kk':∀b o,b∉([N,N+1,N+2,N+3,N+4,N+5]:List Nat)->s.heap.get? b=some o->h''.get? b=some o:=fun b o hb e=>by
   obtain⟨c1,c2,c3,c4,c5⟩:=nin5 hb
   exact(sb.2 b c5).trans (kk b o c1 c2 c3 c4 c5 e)
  have I1:=zld (t':=tk) (vs:=[x1,x2,x3]) (its:=[u1,u2,u3]) I kk' hf (fun b hb=>by
   have:b=N\/b=N+1\/b=N+2\/b=N+3\/b=N+4\/b=N+5:=by simpa using hb
   exact Nat.lt_of_le_of_lt (show(b:Nat)<=N+5 by rcases this with h|h|h|h|h|h<;>rw[h]<;>simp) lz) ((sb.2 _ (ne_ (by ac_rfl))).trans gT) (by simp;rw[sizeLine_eq];decide) (.cons r1 (.cons r2 (.cons r3 .nil)))
  refine⟨.ref s.heap.objs.size,_,I1,rfl,⟨_,x1,x2,x3,I.hok.fresh (Nat.le_refl _),rfl,rfl,fun xs' ys' zs' b1 b2 b3=>?_⟩,⟨hn,g5',(sb.2 _ (ne_ (by ac_rfl))).trans (kk _ _ (ne_ (by ac_rfl)) (ne_ (by ac_rfl)) (ne_ (by ac_rfl)) (ne_ (by ac_rfl)) (ne_ (by ac_rfl)) h3),⟨_,_,_,(sb.2 _ (ne_ (by ac_rfl))).trans g4⟩,SrcIt.at g0.1 fun o e=>(sb.2 _ (ne_ (by ac_rfl))).trans e,SrcIt.at g1.1 fun o e=>(sb.2 _ (ne_ (by ac_rfl))).trans e,SrcIt.at g2.1 fun o e=>(sb.2 _ (ne_ (by ac_rfl))).trans e⟩,fun b hb=>?_⟩
  ·rw[SrcSq.inj I b1 q1,SrcSq.inj I b2 q2,SrcSq.inj I b3 q3]
   exact⟨hx1,hx2,hx3⟩
  ·have:b=N\/b=N+1\/b=N+2\/b=N+3\/b=N+4\/b=N+5:=by simpa using hb
   rw[zaq (Nat.ne_of_lt (Nat.lt_of_le_of_lt (show(b:Nat)<=N+5 by rcases this with h|h|h|h|h|h<;>rw[h]<;>simp) lz))]
   exact(hf b hb).1
 done:=by
  intro X hP hw hK hc i pins s σ H E I hf st hg
  subst hP hw hK
  obtain⟨hi,h5,h3,⟨a,c,d,h4⟩,h0,h1,h2⟩:=st
  obtain⟨hn,xs,ys,zs,q1,q2,q3,en⟩:=hg
  obtain⟨us,ru,hu,zu⟩:=q1.heap I
  obtain⟨ws,rw',hw',zw⟩:=q2.heap I
  obtain⟨os,ro,ho',zo⟩:=q3.heap I
  have lu:=ru.length
  have lw:=rw'.length
  have lo:=ro.length
  have D1:=zbq (prog:=X.prog) (w:=X.w) (A:=X.A.in1) (t:=t1) (I.ok.hd hc) N a1 (ne_ (by ac_rfl)) us.toArray
  have D2:=zbq (prog:=X.prog) (w:=X.w) (A:=X.A.in1) (t:=t2) (I.ok.hd hc) (N+1) a2 (ne_ (by ac_rfl)) ws.toArray
  have D3:=zbq (prog:=X.prog) (w:=X.w) (A:=X.A.in1) (t:=t3) (I.ok.hd hc) (N+2) a3 (ne_ (by ac_rfl)) os.toArray
  have hT:s.TypeIs (.ref (N+5:Nat)) "zip":=⟨_,h5,rfl⟩
  unfold pyNext
  refine wpAny_bind (wpAny_attempt (wpAny_callSpecial?_slot (name:=Str.ofString "__next__") hT F.slot_zip_next (wpAny_call_entry F.slot_zip_next hT F.entry_zip_next
   (zip3_end D1 D2 D3 l1 l2 l3 h5 h3 h4 ⟨h0,hu⟩ ⟨h1,hw'⟩ ⟨h2,ho'⟩ (by simp;lia) fun h' e tk kk he=>?_) (F.args_zip_next_1 _))))
  obtain⟨o,ho,hce⟩:=he
  refine wpAny_bind (wpAny_isInstance (T:="StopIteration") (b:=true) ⟨o,ho,hce⟩ isSubtype_stop (wpAny_pure ⟨rfl,zjm I (fun b o hb e=>?_) hf⟩))
  obtain⟨c1,c2,c3,c4,c5⟩:=nin5 hb
  exact kk b o c1 c2 c3 c4 c5 e
 self:=fun _ _ _ _ _ st h=>wpAny_pyIter_zip st.2.1 h
noncomputable def Ite (K:W.Frag)(t1:Bool)(a1:Addr)(n:Nat):It where
 go:=fun i H=>i<n/\∃xs,SrcSq t1 K H a1 xs/\n=xs.length
 yld:=fun i H x H'=>∃p x1,H p=none/\H'=upd H p (.tup [.int i,x1])/\x= .ref p/\∀xs,SrcSq t1 K H a1 xs->xs[i]? =some x1
 stop:=fun i H=>n<=i/\∃xs,SrcSq t1 K H a1 xs/\n=xs.length
theorem zoq {P:Program}{w:World}(t1:Bool)(a1:Nat)(n N:Nat)(l1:a1<N):
  Turn P w K (.Tuple elts ek ep) (Ite K t1 a1 n) ([N+1,N]:List Nat) (N+1:Nat) (fun i h=>i<=n/\(∃old,IsEnum h (N+1:Nat) N i old)/\SrcIt t1 h N a1 i) where
 mem:=by simp
 obj:=fun i h st b hb=>by
  obtain⟨-,⟨old,h1⟩,h0⟩:=st
  simp only[List.mem_cons,List.not_mem_nil,or_false]at hb
  rcases hb with rfl|rfl
  ·exact⟨_,h1,fun v z=>by cases z⟩
  ·exact h0.obj
 keep:=fun i h h' st k=>by
  obtain⟨hi,⟨old,h1⟩,h0⟩:=st
  exact⟨hi,⟨old,k _ (by simp) _ h1⟩,h0.at fun o e=>k _ (by simp) o e⟩
 item:=by
  intro X hP hw hK hc i pins s σ H E I hf st hg
  subst hP hw hK
  obtain⟨hi,⟨old,h1⟩,h0⟩:=st
  obtain⟨hn,xs,q1,en⟩:=hg
  obtain⟨us,ru,hu,zu⟩:=q1.heap I
  have lu:=ru.length
  have D1:=zbq (prog:=X.prog) (w:=X.w) (A:=X.A.in1) (t:=t1) (I.ok.hd hc) N a1 (ne_ (by ac_rfl)) us.toArray
  refine wpAny_pyNext_enum_itemD D1 h1 ⟨h0,hu⟩ (by simp;lia) (ne_ (by ac_rfl)) (fun z=>nin2 (z:=N+1) z (by lia) (by lia) rfl) fun x h' tk p1 ho g0 gT gz kk=>?_
  obtain⟨x1,hx1⟩:∃x1,xs[i]? =some x1:=⟨xs[i]'(by lia),List.getElem?_eq_getElem _⟩
  obtain⟨u1,hu1,r1⟩:=ru.get hx1
  have e1:u1=x:=by
   have:us[i]? =some x:=by simpa using p1
   rw[hu1]at this;cases this;rfl
  subst e1
  refine⟨_,rfl,wpAny_letOwnedTupleGo_enum (s:={s with heap:=h',toks:=tk+1}) ho fun h'' he' sb=>?_⟩
  replace sb:Heap.SameBut (N+1:Nat) h' h'':=sb
  have lz:N+1<s.heap.objs.size:=Heap.lt_size h1
  have kk':∀b o,b∉([N+1,N]:List Nat)->s.heap.get? b=some o->h''.get? b=some o:=fun b o hb e=>
   (sb.2 b fun z=>hb (by simp[z])).trans (kk b o (fun z=>hb (by simp[z])) (fun z=>hb (by simp[z])) e)
  have I1:=zld (t':=tk+1) (vs:=[.int i,x1]) (its:=[.int i tk,u1]) I kk' hf (fun b hb=>by
   have:b=N+1\/b=N:=by simpa using hb
   exact Nat.lt_of_le_of_lt (show(b:Nat)<=N+1 by rcases this with h|h<;>rw[h]<;>simp) lz) ((sb.2 _ (ne_ (by ac_rfl))).trans gT) (by simp;rw[sizeLine_eq];decide) (.cons ⟨_,rfl⟩ (.cons r1 .nil))
  refine⟨.ref s.heap.objs.size,_,I1,rfl,⟨_,x1,I.hok.fresh (Nat.le_refl _),rfl,rfl,fun xs' b1=>?_⟩,⟨hn,⟨_,by simpa using he'⟩,SrcIt.at g0.1 fun o e=>(sb.2 _ (ne_ (by ac_rfl))).trans e⟩,fun b hb=>?_⟩
  ·rw[SrcSq.inj I b1 q1]
   exact hx1
  ·have:b=N+1\/b=N:=by simpa using hb
   rw[zaq (Nat.ne_of_lt (Nat.lt_of_le_of_lt (show(b:Nat)<=N+1 by rcases this with h|h<;>rw[h]<;>simp) lz))]
   exact(hf b hb).1
 done:=by
  intro X hP hw hK hc i pins s σ H E I hf st hg
  subst hP hw hK
  obtain⟨hi,⟨old,h1⟩,h0⟩:=st
  obtain⟨hn,xs,q1,en⟩:=hg
  obtain⟨us,ru,hu,zu⟩:=q1.heap I
  have lu:=ru.length
  have D1:=zbq (prog:=X.prog) (w:=X.w) (A:=X.A.in1) (t:=t1) (I.ok.hd hc) N a1 (ne_ (by ac_rfl)) us.toArray
  have W:=WalksT.enumerateD D1 (N+1:Nat) (ne_ (by ac_rfl)) (fun z=>nin2 (z:=N+1) z (by lia) (by lia) rfl) (by simp)
  have ei:i=us.toArray.size:=by simp;lia
  subst ei
  exact W.done s _ _ ⟨⟨old,h1⟩,h0,hu⟩ fun h' tk kk=>⟨rfl,zjm I kk hf⟩
 self:=fun _ _ _ _ _ st h=>by
  obtain⟨hi,⟨old,h1⟩,h0⟩:=st
  exact wpAny_pyIter_enum h1 h
theorem zli:bootBuiltins "zip"=some (.type "zip"):=by decide+kernel
theorem ziD:bootBuiltins "enumerate"=some (.type "enumerate"):=by decide+kernel
section
variable {X:Cx} {elts:List Expr} {ek:Nat} {ep:Pos}
theorem pi_zip3 {a b c:Expr}(hg:Gl X "zip")(hm:X.mg "zip"=none)(ha:PA X [a,b,c] ta)(hs:autoParam (starEach [a,b,c] X.env=(false,eval a X.env)::starEach [b,c] X.env) zu2._auto_1)(hs2:autoParam ((backTo pos (starEach [b,c] X.env)).any (·.1)=false) zu2._auto_1):
  PI X (.Tuple elts ek ep) (.Call (.Name "zip" p) [a,b,c] [] pos) (fun σ H R=>ta σ H fun vs H1=>∃t1 a1 xs t2 a2 ys t3 a3 zs,vs=[.ref a1,.ref a2,.ref a3]/\SrcSq t1 X.K H1 a1 xs/\SrcSq t2 X.K H1 a2 ys/\SrcSq t3 X.K H1 a3 zs/\R (Itz3 X.K t1 a1 t2 a2 t3 a3 (min xs.length (min ys.length zs.length))) H1):=by
 intro pins s σ H R I h
 refine Call_ (ziK I hg hm zli (PyProof.Rows.callWith_type1 (thn (ha pos pins s σ H _ I h) fun us s1 ⟨vs,H1,I1,r1,q1⟩=>?_) hs hs2))
 obtain⟨t1,a1,xs,t2,a2,ys,t3,a3,zs,e,q1,q2,q3,q⟩:=q1
 subst e
 cases r1 with
 |cons r rr=>
  cases rr with
  |cons r' rr=>
   cases rr with
   |cons r'' rr=>
    cases rr
    cases r
    cases r'
    cases r''
    obtain⟨us,ru,hu,-⟩:=q1.heap I1
    obtain⟨ws,rw',hw',-⟩:=q2.heap I1
    obtain⟨os,ro,ho',-⟩:=q3.heap I1
    refine znC hu hw' ho' fun h' g5 g3 g4 g0 g1 g2 kk=>wpAny_pyIter_zip g5 ⟨_,_,_,_,H1,rfl,I1.kept (t':=s1.toks) kk,zoI t1 a1 t2 a2 t3 a3 (min xs.length (min ys.length zs.length)) s1.heap.objs.size hu.lt hw'.lt ho'.lt,⟨Nat.zero_le _,g5,g3,⟨_,_,_,g4⟩,g0,g1,g2⟩,fun b hb=>?_,q⟩
    have:b=s1.heap.objs.size\/b=s1.heap.objs.size+1\/b=s1.heap.objs.size+2\/b=s1.heap.objs.size+3\/b=s1.heap.objs.size+4\/b=s1.heap.objs.size+5:=by simpa using hb
    have le:s1.heap.objs.size<=b:=by rcases this with h|h|h|h|h|h<;>rw[h]<;>simp
    exact I1.fpOk le (I1.hok.fresh le)
theorem pi_enum (hg:Gl X "enumerate")(hm:X.mg "enumerate"=none)(ha:PA X [a] ta)(hs:autoParam (starEach [a] X.env=(false,eval a X.env)::starEach [] X.env) zu2._auto_1)(hs2:autoParam ((backTo pos (starEach [] X.env)).any (·.1)=false) zu2._auto_1):
  PI X (.Tuple elts ek ep) (.Call (.Name "enumerate" p) [a] [] pos) (fun σ H R=>ta σ H fun vs H1=>∃t1 a1 xs,vs=[.ref a1]/\SrcSq t1 X.K H1 a1 xs/\R (Ite X.K t1 a1 xs.length) H1):=by
 intro pins s σ H R I h
 refine Call_ (ziK I hg hm ziD (PyProof.Rows.callWith_type1 (thn (ha pos pins s σ H _ I h) fun us s1 ⟨vs,H1,I1,r1,q1⟩=>?_) hs hs2))
 obtain⟨t1,a1,xs,e,q1,q⟩:=q1
 subst e
 cases r1 with
 |cons r rr=>
  cases rr
  cases r
  obtain⟨us,ru,hu,-⟩:=q1.heap I1
  refine znp hu fun h' g1 g0 kk=>wpAny_pyIter_enum g1 ⟨_,_,_,_,H1,rfl,I1.kept (t':=s1.toks) kk,zoq t1 a1 xs.length s1.heap.objs.size hu.lt,⟨Nat.zero_le _,⟨_,g1⟩,g0⟩,fun b hb=>?_,q⟩
  have:b=s1.heap.objs.size+1\/b=s1.heap.objs.size:=by simpa using hb
  have le:s1.heap.objs.size<=b:=by rcases this with h|h<;>rw[h]<;>simp
  exact I1.fpOk le (I1.hok.fresh le)
end
theorem ziG {G:Hp}{x:V}{d:D}(r:RepD K G x d)(e:zaL [d]=some es):∃t a xs,x= .ref a/\(∀H,Fz G H->SrcSq t K H a xs)/\RepL K G xs es:=by
 cases d<;>simp only[zaL]at e<;>try cases e
 ·obtain⟨a,xs,rfl,ha,r⟩:=r
  exact⟨false,a,xs,rfl,fun H f=>SqL.of (f _ _ ha),r⟩
 ·obtain⟨a,xs,rfl,ha,r⟩:=r
  exact⟨true,a,xs,rfl,fun H f=>SqT.of (f _ _ ha),r⟩
 ·obtain⟨a,rfl,ha⟩:=r
  exact⟨false,a,_,rfl,fun H f=>f.sql ha,RepL.ints _⟩
noncomputable def zk1 (xs ys:List D):List D:=List.zipWith (fun x y=>D.tup [x,y]) xs ys
noncomputable def zkY (xs ys zs:List D):List D:=List.zipWith (fun x (p:D×D)=>D.tup [x,p.1,p.2]) xs (List.zip ys zs)
noncomputable def zlc (xs:List D):List D:=List.zipWith (fun x (i:Nat)=>D.tup [.int i,x]) xs (List.range xs.length)
noncomputable def iZ2 (ma:MA):MA:=fun ρ=>(ma ρ).bind fun p=>match p.1 with
 |[a,b]=>(zaL [a]).bind fun xs=>(zaL [b]).bind fun ys=>some (zk1 xs ys,p.2)
 |_=>none
noncomputable def iZ3 (ma:MA):MA:=fun ρ=>(ma ρ).bind fun p=>match p.1 with
 |[a,b,c]=>(zaL [a]).bind fun xs=>(zaL [b]).bind fun ys=>(zaL [c]).bind fun zs=>some (zkY xs ys zs,p.2)
 |_=>none
noncomputable def iEn (ma:MA):MA:=fun ρ=>(ma ρ).bind fun p=>(zaL p.1).map fun xs=>(zlc xs,p.2)
theorem zi9 {a b c:Expr}(hm:X.mg "zip"=none)(ha:SA X [a,b,c] ma)(hg:autoParam (Gl X "zip") zu2._auto_1)(hs:autoParam (starEach [a,b,c] X.env=(false,eval a X.env)::starEach [b,c] X.env) zu2._auto_1)(hs2:autoParam ((backTo pos (starEach [b,c] X.env)).any (·.1)=false) zu2._auto_1):
  SIt X (.Tuple elts ek ep) (.Call (.Name "zip" p) [a,b,c] [] pos) (iZ3 ma):=by
 obtain⟨t,pa,sa⟩:=ha
 refine⟨_,pi_zip3 hg hm pa hs hs2,fun B G H σ ρ ds ρ' Q I hm k=>?_⟩
 obtain⟨⟨es,ρ1⟩,e1,h2⟩:=zad hm
 dsimp only at h2
 refine sa B G H σ ρ es ρ1 _ I e1 fun G1 H1 vs I1 f1 r1=>?_
 split at h2
 ·obtain⟨xs,ex,h2⟩:=zad h2
  obtain⟨ys,ey,h2⟩:=zad h2
  obtain⟨zs,ez,h2⟩:=zad h2
  cases h2
  obtain⟨x,us,rfl,rx,r2⟩:=r1
  obtain⟨y,ws,rfl,ry,r3⟩:=r2
  obtain⟨z,os,rfl,rz,r4⟩:=r3
  cases(show os=[]from r4)
  obtain⟨t1,a1,us,rfl,s1,c1⟩:=ziG rx ex
  obtain⟨t2,a2,ws,rfl,s2,c2⟩:=ziG ry ey
  obtain⟨t3,a3,os,rfl,s3,c3⟩:=ziG rz ez
  have n1:=c1.length
  have n2:=c2.length
  have n3:=c3.length
  refine⟨t1,a1,us,t2,a2,ws,t3,a3,os,rfl,s1 _ I1.fz,s2 _ I1.fz,s3 _ I1.fz,k _ G1 H1 I1 f1 ⟨fun H i f hi=>?_,fun H i x H' f y d e=>?_,fun H i f hi=>?_⟩⟩
  ·exact⟨by simp[zkY]at hi;lia,us,ws,os,s1 _ f,s2 _ f,s3 _ f,rfl⟩
  ·obtain⟨p,x1,x2,x3,hp,eh,ex',q⟩:=y
   obtain⟨q1,q2,q3⟩:=q us ws os (s1 _ f) (s2 _ f) (s3 _ f)
   simp only[zkY,List.zip,List.getElem?_zipWith]at e
   have hi:i<us.length/\i<ws.length/\i<os.length:=⟨(List.getElem?_eq_some_iff.mp q1).1,(List.getElem?_eq_some_iff.mp q2).1,(List.getElem?_eq_some_iff.mp q3).1⟩
   have g1:xs[i]? =some (xs[i]'(by lia)):=List.getElem?_eq_getElem _
   have g2:ys[i]? =some (ys[i]'(by lia)):=List.getElem?_eq_getElem _
   have g3:zs[i]? =some (zs[i]'(by lia)):=List.getElem?_eq_getElem _
   rw[g1,g2,g3]at e
   cases e
   obtain⟨v1,b1,r1⟩:=c1.get g1
   obtain⟨v2,b2,r2⟩:=c2.get g2
   obtain⟨v3,b3,r3⟩:=c3.get g3
   rw[q1]at b1;cases b1
   rw[q2]at b2;cases b2
   rw[q3]at b3;cases b3
   exact .inr ⟨p,_,_,hp,eh,ex',rfl,⟨_,_,rfl,r1,_,_,rfl,r2,_,_,rfl,r3,rfl⟩⟩
  ·exact⟨by simp[zkY]at hi;lia,us,ws,os,s1 _ f,s2 _ f,s3 _ f,rfl⟩
 ·cases h2
theorem zbj (hm:X.mg "enumerate"=none)(ha:SA X [a] ma)(hg:autoParam (Gl X "enumerate") zu2._auto_1)(hs:autoParam (starEach [a] X.env=(false,eval a X.env)::starEach [] X.env) zu2._auto_1)(hs2:autoParam ((backTo pos (starEach [] X.env)).any (·.1)=false) zu2._auto_1):
  SIt X (.Tuple elts ek ep) (.Call (.Name "enumerate" p) [a] [] pos) (iEn ma):=by
 obtain⟨t,pa,sa⟩:=ha
 refine⟨_,pi_enum hg hm pa hs hs2,fun B G H σ ρ ds ρ' Q I hm k=>?_⟩
 obtain⟨⟨es,ρ1⟩,e1,h2⟩:=zad hm
 obtain⟨xs,ex,h2⟩:=zau h2
 cases h2
 refine sa B G H σ ρ es ρ1 _ I e1 fun G1 H1 vs I1 f1 r1=>?_
 match es,ex,r1 with
 |[],ex,_=>cases ex
 |_::_::_,ex,_=>exact absurd ex (by simp[zaL])
 |[d],ex,r1=>
  obtain⟨x,rfl,rx⟩:=r1.one
  obtain⟨t1,a1,us,rfl,s1,c1⟩:=ziG rx ex
  have n1:=c1.length
  refine⟨t1,a1,us,rfl,s1 _ I1.fz,k _ G1 H1 I1 f1 ⟨fun H i f hi=>?_,fun H i x H' f y d e=>?_,fun H i f hi=>?_⟩⟩
  ·exact⟨by simp[zlc]at hi;lia,us,s1 _ f,rfl⟩
  ·obtain⟨p,x1,hp,eh,ex',q⟩:=y
   have q1:=q us (s1 _ f)
   have hi:i<us.length:=(List.getElem?_eq_some_iff.mp q1).1
   have g1:xs[i]? =some (xs[i]'(by lia)):=List.getElem?_eq_getElem _
   simp only[zlc,List.getElem?_zipWith]at e
   rw[g1,show(List.range xs.length)[i]? =some i from by rw[List.getElem?_range (by lia)]]at e
   cases e
   obtain⟨v1,b1,r1⟩:=c1.get g1
   rw[q1]at b1;cases b1
   exact .inr ⟨p,_,_,hp,eh,ex',rfl,⟨_,_,rfl,rfl,_,_,rfl,r1,rfl⟩⟩
  ·exact⟨by simp[zlc]at hi;lia,us,s1 _ f,rfl⟩
end M
namespace M
open L2 PySem PySem.Spec
open PyProof.Rows hiding St
theorem ss_never {X:Cx}{st:Stmt}:SS X st (fun _=>none):=⟨_,ps_never,fun B G H σ ρ fl ρ' E I hm k=>by cases hm⟩
noncomputable def isN:D->Bool
 | .non=>true
 |_=>false
theorem isN_ok {K:W.Frag}{G:Hp}{x:V}{d:D}(r:RepD K G x d):decide (x= .non)=isN d:=by
 cases d with
 |non=>cases(show x=V.non from r);rfl
 |bl b=>cases(show x=V.bl b from r);rfl
 |int i=>cases(show x=V.int i from r);rfl
 |str s=>cases(show x=V.str s from r);rfl
 |lst ds=>obtain⟨a,xs,rfl,-⟩:=r;rfl
 |tup ds=>obtain⟨a,xs,rfl,-⟩:=r;rfl
 |scr ns=>obtain⟨a,rfl,-⟩:=r;rfl
 |exc c=>obtain⟨a,C,rfl,-⟩:=r;rfl
 |dic _ _=>obtain⟨a,ys,rfl,-⟩:=r;rfl
 |dit _ _=>obtain⟨a,ys,o,xs,rfl,-⟩:=r;rfl
noncomputable def dIsN:D->D->Option D
 |a,.non=>some (.bl (isN a))
 |_,_=>none
noncomputable def zj2:D->D->Option D
 |a,.non=>some (.bl (!isN a))
 |_,_=>none
theorem v2_isN {X:Cx}:V2 X (fun x y H Q=>y= .non/\Q (.bl (decide (x= .non))) H) dIsN:=by
 intro B G H σ ρ x y a b d Q I ra rb hf k
 cases b<;>simp only[dIsN]at hf<;>cases hf
 exact⟨rb,k G H _ I (Fz.refl G) (by rw[isN_ok ra];rfl)⟩
theorem v2_notN {X:Cx}:V2 X (fun x y H Q=>y= .non/\Q (.bl (!decide (x= .non))) H) zj2:=by
 intro B G H σ ρ x y a b d Q I ra rb hf k
 cases b<;>simp only[zj2]at hf<;>cases hf
 exact⟨rb,k G H _ I (Fz.refl G) (by rw[isN_ok ra];rfl)⟩
theorem bl_isN:∀x y d,dIsN x y=some d->∃t,d= .bl t:=by
 intro x y d hf
 cases y<;>simp only[dIsN]at hf<;>cases hf
 exact⟨_,rfl⟩
theorem bl_notN:∀x y d,zj2 x y=some d->∃t,d= .bl t:=by
 intro x y d hf
 cases y<;>simp only[zj2]at hf<;>cases hf
 exact⟨_,rfl⟩
section
variable {X:Cx} {a b:Expr} {ma mb:ME} {pos:Pos}
theorem st_is (ha:SE X a ma)(hb:SE X b mb)(hm:autoParam (behindInMarks .Is b=false) zu2._auto_1):STt X (.Compare a [.Is] [b] pos) (tTru (m2 dIsN ma mb)):=zet op_isN v2_isN bl_isN ha hb hm
theorem zll (ha:SE X a ma)(hb:SE X b mb)(hm:autoParam (behindInMarks .IsNot b=false) zu2._auto_1):STt X (.Compare a [.IsNot] [b] pos) (tTru (m2 zj2 ma mb)):=zet op_notN v2_notN bl_notN ha hb hm
end
noncomputable def zk7 (b:Nat)(ρ:R):Bool:=match ρ[b]? with
 |some (.par _)=>zcE (ρ.set b .emp)
 |_=>false
noncomputable def zn4 (b:Nat)(ρ:R):List D:=match ρ[b]? with
 |some (.par cs)=>cs
 |_=>[]
noncomputable def zmr (b:Nat)(g:D->R->Option R)(mt:MT)(me:ME):D->R->Option (Option D×R):=fun d ρ=>(g d ρ).bind fun ρ1=>(mt ρ1).bind fun p=>if p.1 then(me p.2).bind fun q=>if zk7 b q.2 then some (some q.1,q.2)else none else if zk7 b p.2 then some (none,p.2)else none
noncomputable def oLCM (cap:List Nat)(t b w:Nat)(mi:MA)(g:D->R->Option R)(mt:MT)(me:ME):MO:=fun ρ=>(mi ρ).bind fun p=>if p.1.length<=16777216 then
    ((fzL (cap.filter (· !=w)) p.2)[w]?).bind fun s=>s.items.bind fun cs=>(zeM (zmr b g mt me) p.1 ((capR cap t (fzL (cap.filter (· !=w)) p.2)).set b (.par cs))).map fun q=>(q.1,(fzL (cap.filter (· !=w)) p.2).set w (s.put (zn4 b q.2)))
  else none
theorem VS.setEmp {K:W.Frag}{G:Hp}{σ:St}{ρ:R}(h:VS K G σ ρ)(b:Nat):VS K G σ (ρ.set b .emp) where
 len:=by rw[List.length_set];exact h.len
 no:=by
  have h0:=h.no
  unfold zcE at*
  rw[List.all_eq_true]at*
  intro s hs
  rcases List.mem_or_eq_of_mem_set hs with z|z
  ·exact h0 s z
  ·rw[z]
 val:=fun i d e=>by
  rw[List.getElem?_set]at e
  split at e
  ·split at e
   ·cases e
   ·cases e
  ·exact h.val i d e
theorem VS.siP {K:W.Frag}{G H:Hp}{σ:St}{ρ:R}{b:Nat}{cs:List D}{l:Addr}{ys:List V}(h:VS K G σ (ρ.set b .emp))(fz:Fz G H)(hb:ρ[b]? =some (.par cs))(hs:σ[b]? =some (some (.ref l)))(gl:G l=none)(hl:H l=some (.lst ys))(r:RepL K G ys cs):SI K ⟨G,H,[(b,l)]⟩ G H σ ρ where
 fz:=fz
 g0:=Fz.refl G
 new:=fun b o e=> .inl (by show G b≠none;rw[e];simp)
 keep:=fun b o e _=>e
 there:=fun b e=>e
 ob:=fun i c m=>by
  have:i=b/\c=l:=by simpa using m
  rw[this.2]
  show H l≠none
  rw[hl];simp
 len:=by rw[h.len,List.length_set]
 slot:=fun i s e=>by
  by_cases z:i=b
  ·subst z
   rw[hb]at e;cases e
   exact⟨l,ys,hs,gl,hl,r,by simp⟩
  ·have e':(ρ.set b .emp)[i]? =some s:=by rw[List.getElem?_set_ne (Ne.symm z)];exact e
   cases s with
   |emp=>trivial
   |two _ _=>trivial
   |tre t=>exact absurd rfl ((zg6 h.no e').1 t)
   |ptr t=>exact absurd rfl ((zg6 h.no e').2 t)
   |val d=>exact h.val i d e'
   |own ds=>exact absurd ⟨_,ds,e',rfl⟩ (zgO h.no (i:=i))
   |par ds=>exact absurd ⟨_,ds,e',rfl⟩ (zgO h.no (i:=i))
 dis:=fun i j s t a hij e1 e2 w1 w2=>by
  have key:∀(i:Nat) (s:Sl) ov,ρ[i]? =some s->OwS K G H ov a s->i=b:=fun i s ov e w=>by
   by_cases z:i=b
   ·exact z
   ·exact absurd w (zi2 h.no (show(ρ.set b .emp)[i]? =some s by rw[List.getElem?_set_ne (Ne.symm z)];exact e))
  exact hij ((key i s _ e1 w1).trans (key j t _ e2 w2).symm)
theorem VS.ofP {K:W.Frag}{B:Bs}{G H:Hp}{σ:St}{ρ:R}{b:Nat}{l:Addr}(I:SI K B G H σ ρ)(hO:B.O=[(b,l)])(h:zk7 b ρ=true):∃cs ys,ρ[b]? =some (.par cs)/\σ[b]? =some (some (.ref l))/\G l=none/\H l=some (.lst ys)/\RepL K G ys cs/\VS K G σ (ρ.set b .emp):=by
 unfold zk7 at h
 split at h
 ·rename_i cs e
  obtain⟨l',ys,h1,h2,h3,h4,h5⟩:=I.slot b _ e
  have hl:l'=l:=by rw[hO]at h5;simpa using h5
  subst hl
  refine⟨cs,ys,e,h1,h2,h3,h4,⟨by rw[List.length_set];exact I.len,h,fun i d e'=>?_⟩⟩
  rw[List.getElem?_set]at e'
  split at e'
  ·split at e'
   ·cases e'
   ·cases e'
  ·exact I.slot i _ e'
 ·cases h
structure LcP (K:W.Frag) (bk:Nat) (g:D->R->Option R) (mt:MT) (me:ME) (items all:List D) (ρf:R) (G2 H1:Hp) (DD l:Addr) (i:Nat) (σc:St) (Hc Gc:Hp) (ρc:R) (acc:List D) (xs:List V) (rest cs:List D) (ys:List V):Prop where
 fc:Fz G2 Gc
 fcH:Fz Gc Hc
 nw:∀b o,Gc b=some o->G2 b≠none\/H1 b=none
 kp:∀b o,b≠l->H1 b=some o->Hc b=some o
 gD:Gc DD=none
 hDc:Hc DD=some (.lst xs)
 ra:RepL K Gc xs acc
 hx:xs.length<=i
 eb:ρc[bk]? =some (.par cs)
 sb:σc[bk]? =some (some (.ref l))
 glc:Gc l=none
 hlc:Hc l=some (.lst ys)
 rlc:RepL K Gc ys cs
 vs:VS K Gc σc (ρc.set bk .emp)
 ec:zeM (zmr bk g mt me) (items.drop i) ρc=some (rest,ρf)
 eall:all=acc++rest
section
variable {X:Cx} {elt iter tg:Expr} {ifs:List Expr} {scope:Scope} {pos:Pos} {N:List Str} {cap:List Nat} {t bk wk:Nat} {mi:MA} {g:D->R->Option R} {mt:MT} {me:ME}
theorem zkB (hbw:cap[bk]? =some wk){wi:TI}{tg':Addr->Shared->Hp->List Addr->TG}{tt:Addr->Shared->Hp->List Addr->TT}{te:Addr->Shared->Hp->List Addr->TE}
    (si:∀B G H σ ρ ds ρ' (Q:It->Hp->Prop),SI X.K B G H σ ρ->mi ρ=some (ds,ρ')->(∀J G' H',SI X.K B G' H' σ ρ'->Fz G G'->Itm X.K J G' ds->Q J H')->wi σ H Q)
    (sg:∀C s H₀ fp B G H σ ρ v d ρ' (Q:St->Hp->Prop),SI X.K B G H σ ρ->RepD X.K G v d->g d ρ=some ρ'->(∀G' H' σ',SI X.K B G' H' σ' ρ'->Fz G G'->Q σ' H')->tg' C s H₀ fp v σ H Q)
    (st:∀C s H₀ fp B G H σ ρ d ρ' (Q:Bool->Hp->Prop),SI X.K B G H σ ρ->mt ρ=some (d,ρ')->(∀G' H',SI X.K B G' H' σ ρ'->Fz G G'->Q d H')->tt C s H₀ fp σ H Q)
    (se:∀C s H₀ fp B G H σ ρ d ρ' (Q:VK),SI X.K B G H σ ρ->me ρ=some (d,ρ')->(∀G' H' v,SI X.K B G' H' σ ρ'->Fz G G'->RepD X.K G' v d->Q v H')->te C s H₀ fp σ H Q):
    ∀B G H σ ρ ds ρ' (Q:VK),SI X.K B G H σ ρ->oLCM cap t bk wk mi g mt me ρ=some (ds,ρ')->
      (∀G' H' l xs,SI X.K B G' H' σ ρ'->Fz G G'->G' l=none->H' l=some (.lst xs)->RepL X.K G' xs ds->B.H l=none->Nw X.K G' H' σ ρ' l->Q (.ref l) H')->tLC (capσ cap t) wi tg' tt te σ H Q:=by
  intro B G H σ ρ ds ρ' Q I hm k
  obtain⟨⟨items,ρ1⟩,e1,hm⟩:=zad hm
  refine si B G H σ ρ items ρ1 _ I e1 fun J G1 H1 I1 f1 IT DD hD=>?_
  dsimp only at hm
  split at hm
  . rename_i hlen
    obtain⟨sw,ew,hm⟩:=zad hm
    obtain⟨cs0,qw,hm⟩:=zad hm
    obtain⟨⟨all,ρf⟩,e2,e3⟩:=zau hm
    obtain⟨rfl,rfl⟩:=Prod.mk.inj e3
    obtain⟨G2,I2,f2⟩:=SI.fzL (cap.filter (· !=wk)) I1
    have hDG:G2 DD=none:=I2.fz.free hD
    obtain⟨l,ys0,hσ,gl0,hl0,rl0⟩:=I2.wr ew qw
    have hlD:DD≠l:=(zaE hl0 hD).symm
    have hb:bk<cap.length:=(List.getElem?_eq_some_iff.mp hbw).1
    have hbe:cap[bk]=wk:=(List.getElem?_eq_some_iff.mp hbw).2
    have hσb:(capσ cap t σ)[bk]? =some (some (.ref l)):=by
      unfold capσ
      rw[List.getElem?_append_left (by simpa using hb),List.getElem?_map,List.getElem?_eq_getElem hb,hbe]
      simp[hσ]
    have hcl:bk<(capR cap t (M.fzL (cap.filter (· !=wk)) ρ1)).length:=by unfold capR;simp;lia
    refine⟨fun i m σc Hc=>m=items.length-i/\i<=items.length/\∃Gc ρc acc xs rest cs ys,LcP X.K bk g mt me items all ρf G2 H1 DD l i σc Hc Gc ρc acc xs rest cs ys,
      ⟨items.length,by simp,Nat.zero_le _,G2,(capR cap t (M.fzL (cap.filter (· !=wk)) ρ1)).set bk (.par cs0),[],[],all,cs0,ys0,{fc:=Fz.refl _,fcH:=I2.fz.right hDG _,nw:=fun b o e=> .inl (by rw[e];simp),kp:=fun b o _ e=>by rw[zaq (zaE e hD)];exact e,gD:=hDG,hDc:=zat,ra:= .nil,hx:=Nat.le_refl _,eb:=by rw[List.getElem?_set];simp[hcl],sb:=hσb,glc:=gl0,hlc:=by rw[zaq (zaE hl0 hD)];exact hl0,rlc:=rl0,vs:=by rw[List.set_set];exact(zoL I2 cap t).setEmp bk,ec:=by simpa using e2,eall:=rfl}⟩,?_⟩
    rintro i m σc Hc ⟨rfl,hi,Gc,ρc,acc,xs,rest,cs,ys,J0⟩
    obtain⟨fc,fcH,nw,kp,gD,hDc,ra,hx,eb,sb,glc,hlc,rlc,vs,ec,eall⟩:=J0
    by_cases hlt:i<items.length
    . refine .inr ⟨IT.go Hc i (f2.trans (fc.trans fcH)) hlt,fun C s₀ H₀ fp x H' y=>?_⟩
      rw[List.drop_eq_getElem_cons hlt]at ec
      simp only[zeM]at ec
      obtain⟨⟨o,ρ3⟩,h3,ec⟩:=zad ec
      obtain⟨⟨rest2,ρ4⟩,h4,ec⟩:=zau ec
      obtain⟨rfl,rfl⟩:=Prod.mk.inj ec
      dsimp only at h4
      unfold zmr at h3
      obtain⟨ρ5,h5,h3⟩:=zad h3
      obtain⟨⟨ok,ρ6⟩,h6,h3⟩:=zad h3
      dsimp only at h3
      have Ic:SI X.K ⟨Gc,Hc,[(bk,l)]⟩ Gc Hc σc ρc:=vs.siP fcH eb sb glc hlc rlc
      have fz2:Fz G1 Hc:=f2.trans (fc.trans fcH)
      have yy:=IT.yld Hc i x H' fz2 y items[i] (List.getElem?_eq_getElem hlt)
      have yy2:(H'=Hc/\RepD X.K Gc x items[i])\/∃p xs es,Hc p=none/\H'=upd Hc p (.tup xs)/\x= .ref p/\items[i]= .tup es/\RepL X.K Gc xs es:=by
        rcases yy with⟨a,b⟩|⟨p,xs,es,a,b,c,d,e⟩
        . exact .inl ⟨a,b.mono (f2.trans fc)⟩
        . exact .inr ⟨p,xs,es,a,b,c,d,e.mono (f2.trans fc)⟩
      obtain⟨G3,I3,f3,r3⟩:=Ic.yld yy2
      refine sg C s₀ H₀ fp _ G3 H' σc ρc x items[i] ρ5 _ I3 r3 h5 fun G4 H4 σ4 I4 f4=>st C s₀ H₀ fp _ G4 H4 σ4 ρ5 ok ρ6 _ I4 h6 fun G5 H5 I5 f5=>?_
      have facts:∀(G' H':Hp) (σ':St) (ρ':R),SI X.K ⟨Gc,Hc,[(bk,l)]⟩ G' H' σ' ρ'->(∀b o,G' b=some o->G2 b≠none\/H1 b=none)/\(∀b o,b≠l->H1 b=some o->H' b=some o)/\G' DD=none/\H' DD=some (.lst xs):=fun G' H' σ' ρ' I'=>by
        refine⟨fun b o e=>?_,fun b o ne e=>I'.keep b o (kp b o ne e) (by simp;exact ne),?_,I'.keep DD _ hDc (by simp;exact hlD)⟩
        . rcases I'.new b o e with h|h
          . have h:Gc b≠none:=h
            cases q:Gc b with
            |none=>exact absurd q h
            |some u=>exact nw b u q
          . refine .inr ?_
            cases q:H1 b with
            |none=>rfl
            |some u=>
              have hn:Hc b=none:=h
              have nb:b≠l:=fun z=>by rw[z,hlc]at hn;cases hn
              have:=kp b u nb q
              rw[hn]at this;cases this
        . cases q:G' DD with
          |none=>rfl
          |some u=>
            rcases I'.new DD u q with h|h
            . exact absurd gD h
            . rw[show Hc DD=none from h]at hDc;cases hDc
      cases ok with
      |false=>
        simp only[Bool.false_eq_true,if_false]at h3
        split at h3
        . rename_i hno
          cases h3
          obtain⟨a1,a2,a3,a4⟩:=facts G5 H5 σ4 _ I5
          obtain⟨cs',ys',w1,w2,w3,w4,w5,w6⟩:=VS.ofP I5 rfl hno
          exact⟨items.length-(i+1),by lia,rfl,hlt,G5,_,acc,xs,rest2,cs',ys',{fc:=fc.trans (f3.trans (f4.trans f5)),fcH:=I5.fz,nw:=a1,kp:=a2,gD:=a3,hDc:=a4,ra:=ra.mono (f3.trans (f4.trans f5)),hx:=by lia,eb:=w1,sb:=w2,glc:=w3,hlc:=w4,rlc:=w5,vs:=w6,ec:=h4,eall:=by simpa using eall}⟩
        . cases h3
      |true=>
        simp only[if_true]at h3 ⊢
        obtain⟨⟨dv,ρ7⟩,h7,h3⟩:=zad h3
        dsimp only at h3
        split at h3
        . rename_i hno
          cases h3
          refine se C s₀ H₀ fp _ G5 H5 σ4 ρ6 dv _ _ I5 h7 fun G6 H6 v I6 f6 r6=>?_
          obtain⟨a1,a2,a3,a4⟩:=facts G6 H6 σ4 _ I6
          obtain⟨cs',ys',w1,w2,w3,w4,w5,w6⟩:=VS.ofP I6 rfl hno
          have ff:Fz Gc G6:=f3.trans (f4.trans (f5.trans f6))
          exact⟨xs,a4,by rw[sizeLine_eq];lia,items.length-(i+1),by lia,rfl,hlt,G6,_,acc++[dv],xs++[v],rest2,cs',ys',{fc:=fc.trans ff,fcH:=I6.fz.right a3 _,nw:=a1,kp:=fun b o ne e=>by rw[zaq (zaE e hD)];exact a2 b o ne e,gD:=a3,hDc:=zat,ra:=(ra.mono ff).snoc r6,hx:=by rw[List.length_append,List.length_singleton];lia,eb:=w1,sb:=w2,glc:=w3,hlc:=by rw[zaq (Ne.symm hlD)];exact w4,rlc:=w5,vs:=w6,ec:=h4,eall:=by rw[eall];simp}⟩
        . cases h3
    . have e:i=items.length:=by lia
      subst e
      rw[List.drop_length]at ec
      obtain⟨rfl,rfl⟩:=Prod.mk.inj (Option.some.inj ec)
      have hall:all=acc:=by rw[eall,List.append_nil]
      refine .inl ⟨IT.stop Hc _ (f2.trans (fc.trans fcH)) (Nat.le_refl _),?_⟩
      rw[<-hall]at ra
      have hp:zn4 bk ρc=cs:=by unfold zn4;rw[eb]
      rw[hp]at k
      exact k Gc Hc DD xs (I2.growW ew qw hσ fc fcH nw kp glc hlc rlc) (f1.trans (f2.trans fc)) gD hDc ra (I2.there DD hD) (I2.own_neW ew qw hσ hD nw kp)
  . cases hm
theorem zl1 (cap:List Nat)(t bk wk:Nat)(N:List Str)(hc:X.calm=true)(hi:SIt X tg iter mi)(hg:∀C s H fp,SG (cxC X N scope C s H fp) tg g)(ht:∀C s H fp,STs (cxC X N scope C s H fp) ifs mt)(he:∀C s H fp,SE (cxC X N scope C s H fp) elt me)(hbw:autoParam (cap[bk]? =some wk) zu2._auto_1)
    (hk:autoParam (scope.kind= .function) zu2._auto_1) (hb:autoParam (blkB X.env scope=true) zu11._auto_1) (hcap:autoParam (capB scope.names N X.N cap t=true) zu11._auto_1)
    (hs:autoParam (∀x,foldedSetIterable iter X.env x=pure x) zu9._auto_1):SO X (.ListComp elt [⟨tg,iter,ifs,0⟩] scope pos) (oLCM cap t bk wk mi g mt me):=by
  obtain⟨wi,pi,si⟩:=hi
  exact⟨_,pe_lc hc (zlp hk hb) (zmh hcap) pi (fun C s H fp=>(hg C s H fp).choose_spec.1) (fun C s H fp=>(ht C s H fp).choose_spec.1) (fun C s H fp=>(he C s H fp).choose_spec.1) hs,
    zkB hbw si (fun C s H fp=>(hg C s H fp).choose_spec.2) (fun C s H fp=>(ht C s H fp).choose_spec.2) (fun C s H fp=>(he C s H fp).choose_spec.2)⟩
theorem zmw (i:Nat){x:Str}{lpos pos':Pos}(cap:List Nat)(t bk wk:Nat)(N:List Str)(hc:X.calm=true)(hi:SIt X tg iter mi)(hg:∀C s H fp,SG (cxC X N scope C s H fp) tg g)(ht:∀C s H fp,STs (cxC X N scope C s H fp) ifs mt)(he:∀C s H fp,SE (cxC X N scope C s H fp) elt me)(hN:X.N.Nodup)(hbw:autoParam (cap[bk]? =some wk) zu2._auto_1)
    (hxi:autoParam (X.N[i]? =some x) zu2._auto_1) (hx:autoParam (Loc X.env.scope x) zu10._auto_1) (hf:autoParam (X.fn x=true\/X.env.scope.names.lookup x=some .local) zu10._auto_1)
    (hsw:autoParam (swapsWith (.ListComp elt [⟨tg,iter,ifs,0⟩] scope lpos) (some (.Name x pos')) pos.line X.env=pure true) zu2._auto_1)
    (hk:autoParam (scope.kind= .function) zu2._auto_1) (hb:autoParam (blkB X.env scope=true) zu11._auto_1) (hcap:autoParam (capB scope.names N X.N cap t=true) zu11._auto_1)
    (hs:autoParam (∀x,foldedSetIterable iter X.env x=pure x) zu9._auto_1):SS X (.Assign [.Name x pos'] (.ListComp elt [⟨tg,iter,ifs,0⟩] scope lpos) pos) (sSet i (eFz (oLCM cap t bk wk mi g mt me))):=by
  obtain⟨wi,pi,si⟩:=hi
  refine⟨_,zlh hN hxi hx hf hsw hc (zlp hk hb) (zmh hcap) pi (fun C s H fp=>(hg C s H fp).choose_spec.1) (fun C s H fp=>(ht C s H fp).choose_spec.1) (fun C s H fp=>(he C s H fp).choose_spec.1) hs,fun B G H σ ρ fl ρ' E I hm k=>?_⟩
  obtain⟨⟨d,ρ1⟩,e1,e3⟩:=zau hm
  obtain⟨⟨ds,ρ2⟩,e4,e5⟩:=zau e1
  obtain⟨rfl,rfl⟩:=Prod.mk.inj e5
  obtain⟨rfl,rfl⟩:=Prod.mk.inj e3
  refine zkB hbw si (fun C s H fp=>(hg C s H fp).choose_spec.2) (fun C s H fp=>(ht C s H fp).choose_spec.2) (fun C s H fp=>(he C s H fp).choose_spec.2) B G H σ ρ ds ρ2 _ I e4 fun G1 H1 l xs I1 f1 g1 h1 r1 b1 n1=>?_
  obtain⟨I2,f2,r2⟩:=zkH I1 g1 h1 r1 b1 n1
  exact k _ H1 _ (I2.set r2) (f1.trans f2)
end
noncomputable def dIsB:D->D->Option D
 | .bl a,.bl b=>some (.bl (a==b))
 |_,_=>none
noncomputable def zkw:D->D->Option D
 | .bl a,.bl b=>some (.bl (a !=b))
 |_,_=>none
section
variable {X:Cx}
theorem op_notB:OpR X (compareOp .IsNot) (fun x y H Q=>∃a b,x= .bl a/\y= .bl b/\Q (.bl (a !=b)) H):=by
 intro pins s σ H x y v u Q I rx ry h
 obtain⟨a,b,rfl,rfl,q⟩:=h
 cases rx
 cases ry
 exact isnot_bool (zoB I q rfl)
theorem v2_notB:V2 X (fun x y H Q=>∃a b,x= .bl a/\y= .bl b/\Q (.bl (a !=b)) H) zkw:=by
 intro B G H σ ρ x y a b d Q I ra rb hf k
 cases a<;>cases b<;>simp only[zkw]at hf<;>cases hf
 exact⟨_,_,ra,rb,k G H _ I (Fz.refl G) rfl⟩
theorem bl_notB:∀x y d,zkw x y=some d->∃t,d= .bl t:=by
 intro x y d hf
 cases x<;>cases y<;>simp only[zkw]at hf<;>cases hf
 exact⟨_,rfl⟩
variable {a b:Expr} {ma mb:ME} {pos:Pos}
theorem zm0 (ha:SE X a ma)(hb:SE X b mb)(hm:autoParam (behindInMarks .IsNot b=false) zu2._auto_1):STt X (.Compare a [.IsNot] [b] pos) (tTru (m2 zkw ma mb)):=zet op_notB v2_notB bl_notB ha hb hm
end
end M
namespace M
open L2 PySem
theorem zhl:∀{ds:List D} {ns:List Int},zbp ds=some ns->ds=ns.map .int
 |[],_,h=>by cases h;rfl
 | .int i::ds,_,h=>by
  obtain⟨ms,e1,e2⟩:=zau h
  cases e2
  rw[zhl e1];rfl
 | .non::_,_,h=>by cases h
 | .bl _::_,_,h=>by cases h
 | .str _::_,_,h=>by cases h
 | .lst _::_,_,h=>by cases h
 | .tup _::_,_,h=>by cases h
 | .scr _::_,_,h=>by cases h
 | .exc _::_,_,h=>by cases h
 |(.dic _ _)::_,_,h=>by cases h
 |(.dit _ _)::_,_,h=>by cases h
noncomputable def sExt (i:Nat)(m:ME):MS:=fun ρ=>if(ρ[i]?.bind Sl.items).isSome then(m ρ).bind fun p=>p.2[i]?.bind fun s=>s.items.bind fun ds=>match p.1 with
 | .lst es=>if ds.length+es.length<=16777216 then some (.next,p.2.set i (s.put (ds++es)))else none
 |_=>none else none
section
variable {X:Cx} {e:Expr} {me:ME} {pos:Pos}
theorem ss_ext (i:Nat){x:Str}{pos' apos cpos:Pos}(he:SE X e me)(hN:autoParam (X.N[i]? =some x) zu2._auto_1)(hv:autoParam (Vis X.env.scope x) zu6._auto_1)(hd:autoParam ((x==("__debug__":Str))=false) zu1._auto_1)
  (hcd:autoParam ((x==("__classdict__":Str))=false) zu1._auto_1)
  (hbase:autoParam (attributeBase (.Name x pos') "extend" X.env (eval (.Name x pos') X.env)=eval (.Name x pos') X.env) zu2._auto_1)
  (hfew :autoParam (((backTo cpos (starEach [e] X.env)).all (fun x => !x.1) && (backToKw cpos (keywordEach [] X.env)).all (fun x => x.1.isSome)
   &&decide ([e].length+([]:List Keyword).length+(if([]:List Keyword).isEmpty then 0 else 1)<30))=true) zu2._auto_1)
  (hline:autoParam ((apos.endLine==cpos.line)=true) zu2._auto_1) (hs:autoParam (starEach [e] X.env=(false,eval e X.env)::starEach [] X.env) zu2._auto_1):SS X (.Expr (.Call (.Attribute (.Name x pos') "extend" apos) [e] [] cpos) pos) (sExt i me):=by
 obtain⟨t,p,s⟩:=he
 refine⟨_,zkM (pe_bm PySem.F.plainAttrs_list PySem.F.slot_list_extend PySem.F.type_list_extend znU (za6 hN hv hd hcd) (zcn p zf4 hs) hbase hfew hline hs rfl) (by rfl),fun B G H σ ρ fl ρ' E I hm k=>?_⟩
 unfold sExt at hm
 split at hm
 ·rename_i hso
  obtain⟨ds0,hso⟩:=Option.isSome_iff_exists.mp hso
  obtain⟨s0,e0,q0⟩:=zad hso
  obtain⟨l,xs0,h1,h2,h3,h4⟩:=I.wr e0 q0
  obtain⟨⟨d,ρ1⟩,e1,hm⟩:=zad hm
  obtain⟨s1,e2,hm⟩:=zad hm
  obtain⟨ds,e3,hm⟩:=zad hm
  cases d with
  |lst es=>
   dsimp only at hm
   split at hm
   ·rename_i hl
    cases hm
    refine⟨.ref l,h1,.inl ⟨rfl,_,SqL.of h3⟩,s B G H σ ρ (.lst es) ρ1 _ I e1 fun G1 H1 v I1 f1 r1=>?_⟩
    obtain⟨l',xs,k1,k2,k3,k4⟩:=I1.wr e2 e3
    rw[h1]at k1;cases k1
    obtain⟨b,zs,rfl,hb,rb⟩:=r1
    refine⟨l,b,xs,zs,rfl,rfl,k3,I1.fz _ _ hb,by rw[k4.length,rb.length,sizeLine_eq];exact hl,?_⟩
    exact k G1 _ σ (I1.write e2 e3 h1 (k4.append rb)) f1
   ·cases hm
  |_=>cases hm
 ·cases hm
end
end M
namespace M
open L2 PySem PySem.Spec
open PyProof.Rows hiding St
noncomputable def iR2L (ma:MA):MA:=fun ρ=>(ma ρ).bind fun p=>match p.1 with
 |[.int i,.int j]=>some (zgf i (j-i).toNat,p.2)
 |_=>none
theorem nn {α:Type}{o:Option α}{x:α}(e:o=some x):o≠none:=by rw[e];exact fun z=>by cases z
noncomputable abbrev MX:=R->Option Str
noncomputable def zhz (mc:MT)(mb:MS):Nat->MS
 |0,_=>none
 |n+1,ρ=>(mc ρ).bind fun p=>if p.1 then(mb p.2).bind fun q=>match q.1 with
  | .next=>zhz mc mb n q.2
  | .cont=>zhz mc mb n q.2
  | .brk=>some (.next,q.2)
  | .ret r=>some (.ret r,q.2)
  else some (.next,p.2)
theorem ss_while {X:Cx}{c:Expr}{body:List Stmt}{mc:MT}{mb:MS}{pos:Pos}(fuel:Nat)(hp:PassesOwn (model X.prog X.w) X.A X.env X.xe)(hc:STt X c mc)(hb:SSs X body mb):SS X (.While c body [] pos) (zhz mc mb fuel):=by
 obtain⟨tc,pc,sc⟩:=hc
 obtain⟨tb,pb,sb⟩:=hb
 refine⟨_,ps_while hp pc pb,fun B G H σ ρ fl ρ' E I hm k=>?_⟩
 refine⟨fun m σ' H'=>∃G' ρ1,SI X.K B G' H' σ' ρ1/\Fz G G'/\zhz mc mb m ρ1=some (fl,ρ'),⟨fuel,G,ρ,I,Fz.refl G,hm⟩,fun m σ1 H1 w=>?_⟩
 obtain⟨G1,ρ1,I1,f1,e1⟩:=w
 cases m with
 |zero=>cases e1
 |succ m=>
  obtain⟨⟨b,ρ2⟩,e2,e1⟩:=zad e1
  refine sc B G1 H1 σ1 ρ1 b ρ2 _ I1 e2 fun G2 H2 I2 f2=>?_
  dsimp only at e1
  cases b with
  |false=>
   rw[if_neg (by simp)]at e1 ⊢
   cases e1
   exact k G2 H2 σ1 I2 (f1.trans f2)
  |true=>
   rw[if_pos rfl]at e1 ⊢
   obtain⟨⟨f,ρ3⟩,e3,e1⟩:=zad e1
   refine⟨fun σ' H'=>∃G' ρ1,SI X.K B G' H' σ' ρ1/\Fz G G'/\zhz mc mb m ρ1=some (fl,ρ'),fun σ' H' h=>⟨m,Nat.lt_succ_self m,h⟩,?_⟩
   refine sb B G2 H2 σ1 ρ2 f ρ3 _ I2 e3 ?_
   have ff:=f1.trans f2
   cases f with
   |next=>exact fun G' H' σ' I3 f3=>⟨G',ρ3,I3,ff.trans f3,e1⟩
   |cont=>exact fun G' H' σ' I3 f3=>⟨G',ρ3,I3,ff.trans f3,e1⟩
   |brk=>cases e1;exact fun G' H' σ' I3 f3=>k G' H' σ' I3 (ff.trans f3)
   |ret r=>cases e1;exact fun G' H' σ' v I3 f3 rr=>k G' H' σ' v I3 (ff.trans f3) rr
end M
namespace M
open L2 PySem
noncomputable def zoJ:Sl->Sl->Bool
 | .own ds,.own es=>match zbp ds,zbp es with
  |some a,some b=>a==b
  |_,_=>false
 | .par ds,.par es=>match zbp ds,zbp es with
  |some a,some b=>a==b
  |_,_=>false
 | .own _,_=>false
 | .par _,_=>false
 | .tre _,_=>false
 | .ptr _,_=>false
 |_,_=>true
theorem zkF {ds es:List D}(h:(match zbp ds,zbp es with
  |some a,some b=>a==b
  |_,_=>false)=true):∃ns:List Int,ds=ns.map .int/\es=ns.map .int:=by
 cases a:zbp ds with
 |none=>rw[a]at h;cases h
 |some x=>
  cases b:zbp es with
  |none=>rw[a,b]at h;cases h
  |some y=>
   rw[a,b]at h
   have e:x=y:=by simpa using h
   subst e
   exact⟨x,zhl a,zhl b⟩
end M
namespace M
open L2 PySem PySem.Spec
open PyProof.Rows hiding St
variable {s:Sl} {t:T} {ov:Option (Option V)} {a b:Addr} {i:Nat} {v:V} {A:List Addr} {o:HO} {σ':St} {ρ':R} {ds:List D}
noncomputable def Sl.putT (s:Sl)(t:T):Sl:=match s with
 | .tre _=> .tre t
 | .ptr _=> .ptr t
 |s=>s
noncomputable def Sl.tree:Sl->Option T
 | .tre t=>some t
 | .ptr t=>some t
 |_=>none
section
variable {K:W.Frag} {B:Bs} {G G' H H':Hp} {σ:St} {ρ:R}
theorem zlH (q:s.tree=some t):OwS K G H ov a s↔∃v A,ov=some (some v)/\RepT K G H v t A/\a∈A:=by
 cases s with
 |tre _=>cases q;exact Iff.rfl
 |ptr _=>cases q;exact Iff.rfl
 |_=>cases q
theorem znw (q:s.tree=some t)(t':T):(s.putT t').tree=some t':=by
 cases s with
 |tre _=>rfl
 |ptr _=>rfl
 |_=>cases q
theorem SI.tree (I:SI K B G H σ ρ)(e:ρ[i]? =some s)(q:s.tree=some t):∃v A,σ[i]? =some (some v)/\RepT K G H v t A/\A.Nodup/\(∀a∈A,G a=none)/\∀a∈A,B.H a=none\/(i,a)∈B.O:=by
 have h:=I.slot i s e
 cases s with
 |tre _=>cases q;obtain⟨v,A,h1,h2,h3,h4⟩:=h;exact⟨v,A,h1,h2,h3,fun a m=>(h4 a m).1,fun a m=> .inl (h4 a m).2⟩
 |ptr _=>cases q;obtain⟨v,A,h1,h2,h3,h4⟩:=h;exact⟨v,A,h1,h2,h3,fun a m=>(h4 a m).1,fun a m=>(h4 a m).2⟩
 |_=>cases q
theorem SI.chT (I:SI K B G H σ ρ){i:Nat}{t t':T}{A A':List Addr}(e:ρ[i]? =some s)(q:s.tree=some t)(hv:σ[i]? =some (some v))(r:RepT K G H v t A)(fz:Fz G H')(kp:∀b o,b∉A->H b=some o->H' b=some o)(th:∀b,H' b=none->H b=none)
  (r':RepT K G H' v t' A') (nd:A'.Nodup) (sub:∀a∈A',a∈A\/H a=none):SI K B G H' σ (ρ.set i (s.putT t')):=by
 obtain⟨v1,A1,h1,h2,h3,h4,h5⟩:=I.tree e q
 rw[hv]at h1;cases h1
 have:A1=A:=h2.det r fun _ _=>rfl
 subst this
 have g':∀a∈A',G a=none:=fun a m=>by
  rcases sub a m with z|z
  ·exact h4 a z
  ·exact I.fz.free z
 have b':∀a∈A',B.H a=none\/(i,a)∈B.O:=fun a m=>by
  rcases sub a m with z|z
  ·exact h5 a z
  ·exact .inl (I.there a z)
 have h:=I.chg (i:=i) (ov:=some v) (s':=s.putT t') (G':=G) (H':=H') fz (Fz.refl G) I.new (fun b o k1 k2=>kp b o (fun m=>?_) (I.keep b o k1 k2)) (fun b k=>I.there b (th b k)) (fun j u a z ej w g ha=>?_) ?_
 ·rwa[zgv hv]at h
 ·rcases h5 b m with z|z
  ·rw[k1]at z;cases z
  ·exact k2 i z
 ·have na:a∉A1:=fun m=>I.dis j i u s a z ej e w ((zlH q).mpr ⟨v,A1,hv,h2,m⟩)
  obtain⟨x,hx⟩:=Option.ne_none_iff_exists'.mp ha
  refine⟨g,(kp a x na hx).trans hx.symm,fun w'=>?_⟩
  obtain⟨v2,A2,k1,k2,k3⟩:=(zlH (znw q t')).mp w'
  cases k1
  rw[k2.det r' fun _ _=>rfl]at k3
  rcases sub a k3 with z|z
  ·exact na z
  ·exact ha z
 ·have sl:=I.slot i s e
  cases s with
  |tre _=>
   obtain⟨v2,A2,k1,k2,k3,k4⟩:=sl
   rw[hv]at k1;cases k1
   cases q
   have:A2=A1:=k2.det h2 fun _ _=>rfl
   subst this
   refine⟨v,A',rfl,r',nd,fun a m=>⟨g' a m,?_⟩⟩
   rcases sub a m with z|z
   ·exact(k4 a z).2
   ·exact I.there a z
  |ptr _=>exact⟨v,A',rfl,r',nd,fun a m=>⟨g' a m,b' a m⟩⟩
  |_=>cases q
theorem SI.setT (I:SI K B G H σ ρ)(r:RepT K G H v t A)(nd:A.Nodup)(hA:∀a∈A,G a=none/\B.H a=none/\Nw K G H σ ρ a):SI K B G H (σ.set i (some v)) (ρ.set i (.tre t)):=
 I.chg I.fz (Fz.refl G) I.new I.keep I.there (fun j s a _ e w g _=>⟨g,rfl,fun⟨v2,A2,k1,k2,k3⟩=>by
  cases k1
  rw[k2.det r fun _ _=>rfl]at k3
  exact(hA a k3).2.2 j s e w⟩) ⟨v,A,rfl,r,nd,fun a m=>⟨(hA a m).1,(hA a m).2.1⟩⟩
open Classical in
noncomputable def Bs.re (B:Bs)(K:W.Frag)(G H:Hp)(σ:St)(ρ:R):Bs:=⟨G,fun b=>if(∃(i:Nat) (s:Sl),ρ[i]? =some s/\OwS K G H σ[i]? b s)/\B.H b=none then none else H b,B.O⟩
theorem zgu (I:SI K B G H σ ρ)(h:(B.re K G H σ ρ).H b=none):B.H b=none:=by
 unfold Bs.re at h
 dsimp only at h
 split at h
 ·rename_i w;exact w.2
 ·exact I.there b h
theorem znN (e:ρ[i]? =some s)(w:OwS K G H σ[i]? b s)(n:B.H b=none):(B.re K G H σ ρ).H b=none:=by
 unfold Bs.re
 dsimp only
 rw[if_pos ⟨⟨i,s,e,w⟩,n⟩]
theorem zk2 (h:H b=some o)(n:Nw K G H σ ρ b):(B.re K G H σ ρ).H b=some o:=by
 unfold Bs.re
 dsimp only
 rw[if_neg fun w=>by obtain⟨⟨i,s,e,w⟩,_⟩:=w;exact n i s e w]
 exact h
theorem SI.re (I:SI K B G H σ ρ):SI K (B.re K G H σ ρ) G H σ ρ where
 fz:=I.fz
 g0:=Fz.refl G
 new:=fun b o e=> .inl (by show G b≠none;rw[e];simp)
 keep:=fun b o e _=>by
  unfold Bs.re at e
  dsimp only at e
  split at e
  ·cases e
  ·exact e
 there:=fun b e=>by
  unfold Bs.re
  dsimp only
  split
  ·rfl
  ·exact e
 ob:=fun i b m=>by
  have hb:=I.ob i b m
  unfold Bs.re
  dsimp only
  rw[if_neg fun w=>hb w.2]
  exact fun z=>hb (I.there b z)
 len:=I.len
 slot:=fun i s e=>by
  have h:=I.slot i s e
  cases s with
  |emp=>trivial
  |two _ _=>trivial
  |val d=>exact h
  |own ds=>obtain⟨l,xs,k1,k2,k3,k4,k5⟩:=h;exact⟨l,xs,k1,k2,k3,k4,znN e k1 k5⟩
  |par ds=>exact h
  |tre t=>obtain⟨v,A,k1,k2,k3,k4⟩:=h;exact⟨v,A,k1,k2,k3,fun a m=>⟨(k4 a m).1,znN e ⟨v,A,k1,k2,m⟩ (k4 a m).2⟩⟩
  |ptr t=>
   obtain⟨v,A,k1,k2,k3,k4⟩:=h
   refine⟨v,A,k1,k2,k3,fun a m=>⟨(k4 a m).1,?_⟩⟩
   rcases(k4 a m).2 with z|z
   ·exact .inl (znN e ⟨v,A,k1,k2,m⟩ z)
   ·exact .inr z
 dis:=I.dis
theorem SI.unre (I:SI K B G H σ ρ)(J:SI K (B.re K G H σ ρ) G' H' σ' ρ'):SI K B G' H' σ' ρ' where
 fz:=J.fz
 g0:=I.g0.trans J.g0
 new:=fun b o e=>by
  rcases J.new b o e with z|z
  ·cases q:G b with
   |none=>exact absurd q z
   |some u=>exact I.new b u q
  ·exact .inr (zgu I z)
 keep:=fun b o e n=>J.keep b o (by
  unfold Bs.re
  dsimp only
  rw[if_neg fun w=>by rw[w.2]at e;cases e]
  exact I.keep b o e n) n
 there:=fun b e=>zgu I (J.there b e)
 ob:=I.ob
 len:=J.len
 slot:=fun i s e=>by
  have h:=J.slot i s e
  cases s with
  |emp=>trivial
  |two _ _=>trivial
  |val d=>exact h
  |own ds=>obtain⟨l,xs,k1,k2,k3,k4,k5⟩:=h;exact⟨l,xs,k1,k2,k3,k4,zgu I k5⟩
  |par ds=>exact h
  |tre t=>obtain⟨v,A,k1,k2,k3,k4⟩:=h;exact⟨v,A,k1,k2,k3,fun a m=>⟨(k4 a m).1,zgu I (k4 a m).2⟩⟩
  |ptr t=>
   obtain⟨v,A,k1,k2,k3,k4⟩:=h
   refine⟨v,A,k1,k2,k3,fun a m=>⟨(k4 a m).1,?_⟩⟩
   rcases(k4 a m).2 with z|z
   ·exact .inl (zgu I z)
   ·exact .inr z
 dis:=J.dis
theorem SI.re_stays (I:SI K B G H σ ρ)(J:SI K (B.re K G H σ ρ) G' H' σ' ρ')(h:H b=some o)(n:Nw K G H σ ρ b)(hg:G b=none)(hB:B.H b=none):H' b=some o/\G' b=none/\Nw K G' H' σ' ρ' b:=by
 have hb:(B.re K G H σ ρ).H b=some o:=zk2 h n
 have hO:∀i,(i,b)∉B.O:=fun i m=>I.ob i b m hB
 refine⟨J.keep b o hb hO,?_,fun i s e w=>?_⟩
 ·cases q:G' b with
  |none=>rfl
  |some u=>
   rcases J.new b u q with z|z
   ·exact absurd hg z
   ·rw[hb]at z;cases z
 ·rcases((J.slot i s e).own w).2.2 with z|z
  ·rw[hb]at z;cases z
  ·exact hO i z
end
section
variable {J κ:Type} [DecidableEq J] [DecidableEq κ]
noncomputable def lkD:List J->List D->J->Option D
 |k::ks,d::ds,j=>if k=j then some d else lkD ks ds j
 |_,_,_=>none
noncomputable def ptD (ks:List J)(ds:List D)(j:J)(d:D):List J×List D:=if ks.contains j then(ks,List.zipWith (fun k x=>if k=j then d else x) ks ds)else(ks++[j],ds++[d])
variable {K:W.Frag} {G:Hp} {em:J->κ}
theorem zkN (inj:∀a b,em a=em b->a=b):∀{ks:List J} {ds:List D} {ys:List (κ×V)} {j:J} {d:D},ys.map (·.1)=ks.map em->RepL K G (ys.map (·.2)) ds->lkD ks ds j=some d->∃v,valV ys (em j)=some v/\RepD K G v d
 |[],_,_,_,_,_,_,h=>by cases h
 |_::_,[],_,_,_,_,_,h=>by cases h
 |k::ks,x::ds,[],j,d,e,_,_=>by cases e
 |k::ks,x::ds,y::ys,j,d,e,⟨z,zs,e1,r1,r2⟩,h=>by
  cases e1
  have e2:=List.cons.inj e
  unfold lkD at h
  by_cases q:k=j
  ·rw[if_pos q]at h;cases h
   subst q
   exact⟨y.2,zjC e2.1,r1⟩
  ·rw[if_neg q]at h
   obtain⟨v,h1,h2⟩:=zkN inj e2.2 r2 h
   refine⟨v,?_,h2⟩
   rw[zhO fun z=>q (inj _ _ (e2.1.symm.trans z)),h1]
theorem zn6 (inj:∀a b,em a=em b->a=b):∀{ks:List J} {ds:List D} {ys:List (κ×V)} {j:J},ys.map (·.1)=ks.map em->RepL K G (ys.map (·.2)) ds->lkD ks ds j=none->valV ys (em j)=none
 |[],_,[],_,_,_,_=>rfl
 |[],_,_::_,_,e,_,_=>by cases e
 |_::_,_,[],_,e,_,_=>by cases e
 |k::ks,[],y::ys,_,_,r,_=>by cases r
 |k::ks,x::ds,y::ys,j,e,⟨z,zs,e1,r1,r2⟩,h=>by
  cases e1
  have e2:=List.cons.inj e
  unfold lkD at h
  by_cases q:k=j
  ·rw[if_pos q]at h;cases h
  ·rw[if_neg q]at h
   rw[zhO fun z=>q (inj _ _ (e2.1.symm.trans z)),zn6 inj e2.2 r2 h]
theorem pt_rep (inj:∀a b,em a=em b->a=b){ks:List J}{ys:List (κ×V)}{j:J}{d:D}(e:ys.map (·.1)=ks.map em)(r:RepL K G (ys.map (·.2)) ds)(rv:RepD K G v d):
  (putK ys (em j) v).map (·.1)=(ptD ks ds j d).1.map em/\RepL K G ((putK ys (em j) v).map (·.2)) (ptD ks ds j d).2:=by
 have any:(ys.any fun kv=>decide (kv.1=em j))=ks.contains j:=by
  clear r
  induction ys generalizing ks with
  |nil=>cases ks with
   |nil=>rfl
   |cons _ _=>cases e
  |cons y ys ih=>cases ks with
   |nil=>cases e
   |cons k ks=>
    have e2:=List.cons.inj e
    rw[List.any_cons,ih e2.2,List.contains_cons]
    congr 1
    by_cases q:j=k
    ·subst q;simp[e2.1]
    ·rw[decide_eq_false (fun z=>q (inj _ _ (e2.1.symm.trans z)).symm)]
     simp[q]
 unfold putK ptD
 rw[any]
 by_cases q:ks.contains j=true
 ·rw[if_pos q,if_pos q]
  constructor
  ·rw[List.map_map,<-e]
   apply List.map_congr_left
   intro a _
   simp only[Function.comp]
   split<;>rfl
  ·clear any q
   rw[List.map_map]
   induction ys generalizing ks ds with
   |nil=>cases ks with
    |nil=>exact RepL.nil
    |cons _ _=>cases e
   |cons y ys ih=>cases ks with
    |nil=>cases e
    |cons k ks=>
     have e2:=List.cons.inj e
     cases ds with
     |nil=>cases r
     |cons x ds=>
      obtain⟨z,zs,e1,r1,r2⟩:=r
      cases e1
      refine RepL.cons ?_ (ih e2.2 r2)
      simp only[Function.comp]
      by_cases q:k=j
      ·rw[if_pos q,if_pos (by rw[<-q];exact e2.1)];exact rv
      ·rw[if_neg q,if_neg fun z=>q (inj _ _ (e2.1.symm.trans z))];exact r1
 ·rw[if_neg q,if_neg q]
  rw[List.map_append,List.map_append,List.map_append,e]
  exact⟨rfl,r.append (.cons rv .nil)⟩
end
theorem kI_inj (a b:Int)(h:kI a=kI b):a=b:=by cases h;rfl
theorem zjb (a b:List Int)(h:a.map kI=b.map kI):a=b:=by
 induction a generalizing b with
 |nil=>cases b with
  |nil=>rfl
  |cons _ _=>cases h
 |cons x a ih=>cases b with
  |nil=>cases h
  |cons y b=>
   have:=List.cons.inj h
   rw[kI_inj _ _ this.1,ih b this.2]
noncomputable def Sl.dic:Sl->Option (List Int×List D)
 | .tre (.dic ks ds)=>some (ks,ds)
 | .ptr (.dic ks ds)=>some (ks,ds)
 | .val (.dic ks ds)=>some (ks,ds)
 |_=>none
noncomputable def tDI (j:Nat)(neg:Bool)(mk:ME):MT:=fun ρ=>(mk ρ).bind fun p=>match p.1 with
 | .int k=>(p.2[j]?.bind Sl.dic).map fun q=>(((lkD q.1 q.2 k).isSome !=neg),p.2)
 |_=>none
noncomputable def fzD (j:Nat)(ρ:R):R:=match ρ[j]? with
 |some (.tre (.dic ks ds))=>ρ.set j (.val (.dic ks ds))
 |_=>ρ
noncomputable def eCallMO (F:List D->List D->Option (Sl×List D))(mo:MO)(ma:MA):ME:=fun ρ=>(mo ρ).bind fun p=>(ma p.2).bind fun q=>(F p.1 q.1).bind fun r=>match r.1 with
 | .val d=>some (d,q.2)
 | .own ds=>some (.lst ds,q.2)
 |_=>none
end M
namespace HT
open L2 PyProof.Rows PySem PySem.Spec
section
variable {prog:Program} {w:World} {A:Around} {E:Value->Shared->Prop} {I:Addr} {fp wr:List Addr} {n:Nat} {St:Nat->Heap->Prop}
theorem zkr {its:List Value}(W:Walks prog w A I fp wr n (fun i v=>its[i]? =some v) St):∀(m i:Nat) (s:Shared) (Q:List Value->Shared->Prop),i+m<=n->St i s.heap->
  (∀h' tk,St (i+m) h'->(∀b o,b∉wr->s.heap.get? b=some o->h'.get? b=some o)->Q ((its.drop i).take m) {s with heap:=h',toks:=tk})->wpAny (model prog w) A (draw (.ref I) m) Q E s
 |0,i,s,Q,_,st,hq=>wpAny_pure (by simpa using hq s.heap s.toks st fun _ _ _ e=>e)
 |m+1,i,s,Q,hi,st,hq=>by
  show wpAny _ _ (pyNext (.ref I)>>=_) Q E s
  refine wpAny_bind (W.item i s _ _ (by lia) st fun v h1 tk1 hv st1 k1=>?_)
  refine wpAny_bind (wpAny_holding (zkr W m (i+1) _ _ (by lia) st1 fun h2 tk2 st2 k2=>wpAny_pure ?_))
  have:=hq h2 tk2 (by rw[show i+(m+1)=i+1+m by lia];exact st2) fun b o nb e=>k2 b o nb (k1 b o nb e)
  obtain⟨hl,ev⟩:=List.getElem?_eq_some_iff.mp hv
  rw[List.drop_eq_getElem_cons hl,List.take_succ_cons,ev]at this
  exact this
end
end HT
namespace L2
open PyProof.Rows PySem PySem.Spec
variable {X:Cx} {pos:Pos}
noncomputable def gTupL (K:W.Frag)(n:Nat)(t:TGs):TG:=fun v σ H Q=>∃a xs,v= .ref a/\SqL K H a xs/\xs.length=n/\t xs σ H Q
theorem pg_tupL {es:List Expr}{k:Nat}{t:TGs}{n:Nat}(hc:X.calm=true)(h:PGs X es t)
  (hn:autoParam ((assignEach es X.env).length=n) zu2._auto_1) (hst:autoParam ((assignEach es X.env).findIdx? (·.1)=none) zu2._auto_1):PG X (.Tuple es k pos) (gTupL X.K n t):=by
 intro pins s σ H v u Q I r hw
 obtain⟨a,xs,e1,hq,hl,hw⟩:=hw
 subst e1
 cases r
 obtain⟨its0,rv0,pl,hz⟩:=I.list hq
 rw[assign_Tuple]
 refine wpAny_bind (wpAny_standAt ?_)
 unfold unpack
 rw[hst,hn]
 refine wpAny_bind (wpAny_holding ?_)
 unfold unpackItems
 refine wpAny_bind ?_
 unfold notIterableAtAll
 refine wpAny_bind (wpAny_specialOf pl.isList.typeIs PySem.F.slot_list_iter.lookup ?_)
 refine wpAny_pure ?_
 simp only[Bool.false_eq_true,if_false]
 refine wpAny_bind (wpAny_holding (M.zhQ (A:=X.A) (I.ok.hd hc) I (.inl hq) fun its s₂ St rv W st hfp fin=>?_))
 have ln:its.length=n:=by rw[<-rv.length,hl]
 refine wpAny_bind (wpAny_holding (HT.zkr W n 0 s₂ _ (by lia) st fun h1 tk1 st1 k1=>?_))
 have hall:List.take n (List.drop 0 its)=its:=by rw[List.drop_zero];exact List.take_of_length_le (by lia)
 rw[hall,if_neg (by lia)]
 refine wpAny_bind (wpAny_holding (W.done _ _ _ (by rw[ln,<-Nat.zero_add n];exact st1) fun h2 tk2 k2=>?_))
 simp only[Option.isSome_none,Bool.false_eq_true,if_false]
 refine wpAny_pure ?_
 exact h pins _ σ H xs _ Q (fin h2 tk2 fun b o nb e=>k2 b o nb (k1 b o nb e)) rv hw
end L2
namespace M
open L2 PySem PySem.Spec
open PyProof.Rows hiding St
noncomputable def Ch.sl:Ch->Sl
 | .d x=> .val x
 | .l ds=> .own ds
 | .t xss=> .tre (.lst (xss.map .l))
theorem tb_cs {K:W.Frag}{G H:Hp}:∀{xs:List V} {dss:List (List D)} {A:List Addr},RepTb K G H xs dss A->RepCs K G H xs (dss.map .l) A
 |[],[],_,h=>h
 |x::xs,ds::dss,_,⟨r,ys,A2,e1,e2,e3,e4,e5⟩=>⟨[r],A2,⟨r,ys,e1,e2,e3,rfl⟩,tb_cs e4,e5⟩
 |[],_::_,_,h=>h.elim
 |_::_,[],_,h=>h.elim
theorem cs_tb {K:W.Frag}{G H:Hp}:∀{xs:List V} {dss:List (List D)} {A:List Addr},RepCs K G H xs (dss.map .l) A->RepTb K G H xs dss A
 |[],[],_,h=>h
 |x::xs,ds::dss,_,⟨A1,A2,⟨r,ys,e1,e2,e3,e6⟩,e4,e5⟩=>⟨r,ys,A2,e1,e2,e3,cs_tb e4,by rw[e5,e6];rfl⟩
 |[],_::_,_,h=>h.elim
 |_::_,[],_,h=>h.elim
noncomputable def zm7:List Nat->List Ch->R->R
 |i::is,c::cs,ρ=>zm7 is cs (ρ.set i c.sl)
 |_,_,ρ=>ρ
noncomputable def sUnT (j:Nat)(is:List Nat):MS:=fun ρ=>match ρ[j]? with
 |some (.tre (.lst cs))=>if cs.length=is.length then some (.next,zm7 is cs (ρ.set j .emp))else none
 |_=>none
section
variable {K:W.Frag} {B:Bs} {G H:Hp}
noncomputable def zlU:List Nat->TGs
 |[]=>gNil
 |i::is=>gCons (gName i) (zlU is)
theorem put_cs:∀{is:List Nat} {cs:List Ch} {xs:List V} {A:List Addr} {σ:St} {ρ:R} {Q:St->Hp->Prop},SI K B G H σ ρ->RepCs K G H xs cs A->A.Nodup->(∀a∈A,G a=none/\B.H a=none/\Nw K G H σ ρ a)->cs.length=is.length->(∀σ',SI K B G H σ' (zm7 is cs ρ)->Q σ' H)->zlU is xs σ H Q
 |[],[],[],_,σ,ρ,Q,I,_,_,_,_,k=>⟨rfl,k σ I⟩
 |[],_::_,_,_,_,_,_,_,_,_,_,h,_=>by cases h
 |_::_,[],_,_,_,_,_,_,_,_,_,h,_=>by cases h
 |[],[],_::_,_,_,_,_,_,r,_,_,_,_=>r.elim
 |i::is,c::cs,[],_,_,_,_,_,r,_,_,_,_=>r.elim
 |i::is,c::cs,x::xs,A,σ,ρ,Q,I,⟨A1,A2,r1,r2,e⟩,nd,hA,hl,k=>by
  subst e
  refine⟨x,xs,rfl,?_⟩
  have nd2:=(List.nodup_append.mp nd)
  have fin:∀s,SI K B G H (σ.set i (some x)) (ρ.set i s)->s=c.sl->(∀a∈A2,¬OwS K G H (some (some x)) a s)->zlU is xs (σ.set i (some x)) H Q:=fun s I' es no=>by
   subst es
   refine put_cs I' r2 nd2.2.1 (fun a m=>?_) (by simpa using hl) k
   have h:=hA a (List.mem_append_right _ m)
   refine⟨h.1,h.2.1,fun j t et w=>?_⟩
   by_cases z:j=i
   ·subst z
    rw[List.getElem?_set,if_pos rfl]at et w
    split at et
    ·cases et
     split at w
     ·exact no a m w
     ·rename_i q1 q2;exact q2 (by rw[I.len];exact q1)
    ·cases et
   ·rw[List.getElem?_set_ne (Ne.symm z)]at et w
    exact h.2.2 j t et w
  cases c with
  |d y=>exact fin _ (I.set r1.1) rfl fun a _ w=>w
  |l ds=>
   obtain⟨l,ys,rfl,h1,h2,rfl⟩:=r1
   have h:=hA l (List.mem_append_left _ (by simp))
   refine fin _ (I.setO h.1 h1 h2 h.2.1 h.2.2) rfl fun a m w=>?_
   cases(show some (some (V.ref l))=some (some (.ref a))from w)
   exact nd2.2.2 l (by simp) l m rfl
  |t xss=>
   obtain⟨p,ys,A',rfl,h1,h2,rfl⟩:=r1
   have rt:RepT K G H (.ref p) (.lst (xss.map .l)) (p::A'):=⟨p,ys,A',rfl,h1,tb_cs h2,rfl⟩
   refine fin _ (I.setT rt nd2.1 fun a m=>hA a (List.mem_append_left _ m)) rfl fun a m w=>?_
   obtain⟨v2,A3,w1,w2,w3⟩:=w
   cases w1
   rw[w2.det rt fun _ _=>rfl]at w3
   exact nd2.2.2 a w3 a m rfl
end
section
variable {X:Cx} {pos:Pos}
noncomputable def znv (X:Cx):List Nat->List Expr->Prop
 |[],[]=>True
 |i::is,.Name x _::es=>X.N[i]? =some x/\Loc X.env.scope x/\(X.fn x=true\/X.env.scope.names.lookup x=some .local)/\znv X is es
 |_,_=>False
theorem zkd (hN:X.N.Nodup):∀{is:List Nat} {es:List Expr},znv X is es->PGs X es (zlU is)
 |[],[],_=>zod
 |i::is,.Name x p::es,⟨h1,h2,h3,h4⟩=>zlj (zkS hN h1 h2 h3) (zkd hN h4)
theorem ss_unT (j:Nat)(is:List Nat){x:Str}{es:List Expr}{k:Nat}{p' tp:Pos}(hc:X.calm=true)(hN:X.N.Nodup)(hn:znv X is es)(hi:autoParam (X.N[j]? =some x) zu2._auto_1)(hv:autoParam (Vis X.env.scope x) zu6._auto_1)(hd:autoParam ((x==("__debug__":Str))=false) zu1._auto_1)
  (hcd:autoParam ((x==("__classdict__":Str))=false) zu1._auto_1) (hl:autoParam ((assignEach es X.env).length=is.length) zu2._auto_1) (hst:autoParam ((assignEach es X.env).findIdx? (·.1)=none) zu2._auto_1) (hs:autoParam (swapsWithSole [.Tuple es k tp] (.Name x p') pos.line X.env=pure false) zu2._auto_1) (hw:autoParam (swappedStores [.Tuple es k tp] (.Name x p') X.env=pure none) zu2._auto_1)
  (h1:autoParam ((assignEach [.Tuple es k tp] X.env).map (·.2)=[assign (.Tuple es k tp) X.env]) zu2._auto_1):SS X (.Assign [.Tuple es k tp] (.Name x p') pos) (sUnT j is):=by
 refine⟨_,zmc (za6 hi hv hd hcd) (pg_tupL hc (zkd hN hn) hl hst) hs hw h1,fun B G H σ ρ fl ρ' E I hm k=>?_⟩
 unfold sUnT at hm
 split at hm
 ·rename_i cs e
  split at hm
  ·rename_i hlen
   cases hm
   obtain⟨v,A,k1,k2,k3,k4⟩:=I.slot j _ e
   have k2':=k2
   obtain⟨p,xs,A',rfl,h2,h3,rfl⟩:=k2
   have ln:∀{xs:List V} {cs:List Ch} {A:List Addr},RepCs X.K G H xs cs A->xs.length=cs.length:=by
    intro xs
    induction xs with
    |nil=>intro cs A r;cases cs with
     |nil=>rfl
     |cons _ _=>exact r.elim
    |cons x xs ih=>intro cs A r;cases cs with
     |nil=>exact r.elim
     |cons c cs=>obtain⟨_,_,_,r2,_⟩:=r;rw[List.length_cons,List.length_cons,ih r2]
   refine⟨.ref p,k1,p,xs,rfl,SqL.of h2,by rw[ln h3,hlen],?_⟩
   refine put_cs (I.emp j) h3 (List.nodup_cons.mp k3).2 (fun a m=>⟨(k4 a (by simp[m])).1,(k4 a (by simp[m])).2,fun i s es w=>?_⟩) hlen fun σ' I'=>k G H σ' I' (Fz.refl G)
   by_cases z:i=j
   ·subst z
    rw[List.getElem?_set,if_pos rfl]at es
    split at es
    ·cases es;exact w
    ·cases es
   ·rw[List.getElem?_set_ne (Ne.symm z)]at es
    exact I.dis i j s _ a z es e w ⟨.ref p,_,k1,k2',by simp[m]⟩
  ·cases hm
 ·cases hm
end
end M
namespace M
open L2 PySem PySem.Spec
open PyProof.Rows hiding St
variable {H:Hp} {A:List Addr} {b l f:Addr} {K:W.Frag} {N:List Str} {xs vs ys:List V} {cs ds:List D} {x:Str} {fd:FuncData} {n:Nat}
open Classical in
noncomputable def zd1 (H:Hp)(A:List Addr):Hp:=fun b=>if b∈A then none else H b
theorem zi4 (h:b∈A):zd1 H A b=none:=by unfold zd1;rw[if_pos h]
theorem zc6 (h:b∉A):zd1 H A b=H b:=by unfold zd1;rw[if_neg h]
theorem zha (h:zd1 H A b=none):H b=none\/b∈A:=by
 by_cases m:b∈A
 ·exact .inr m
 ·rw[zc6 m]at h;exact .inl h
theorem zml {o:HO}(h:zd1 H A b=some o):H b=some o/\b∉A:=by
 by_cases m:b∈A
 ·rw[zi4 m]at h;cases h
 ·rw[zc6 m]at h;exact⟨h,m⟩
noncomputable def spMT (K:W.Frag)(n:Nat)(F:List D->T->List D->Option (Sl×List D)):Sp:=fun vs H Q _=>∃G l xs cs v2 t A ws ds r out,vs= .ref l::v2::ws/\F cs t ds=some (r,out)/\ds.length+2=n/\Fz G H/\G l=none/\H l=some (.lst xs)/\RepL K G xs cs/\RepT K G H v2 t A/\A.Nodup/\l∉A/\(∀a∈A,G a=none)/\RepL K G ws ds/\
 ∀G' H' v ys,Fz G G'->Fz G' H'->(∀b o,G' b=some o->G b≠none\/zd1 H A b=none)->(∀b o,b≠l->zd1 H A b=some o->H' b=some o)->G' l=none->H' l=some (.lst ys)->RepL K G' ys out->ResF K G' H' (zd1 H A) v r->Q v H'
noncomputable def fMT (N:Nat)(m:MS):List D->T->List D->Option (Sl×List D):=fun cs t ds=>(m (.par cs:: .tre t::(ds.map .val++List.replicate (N-(ds.length+2)) .emp))).bind fun p=>match p.1,(p.2[0]?:Option Sl)with
 |Fl.ret r,some (Sl.par out)=>some (r,out)
 |Fl.next,some (Sl.par out)=>some (.val .non,out)
 |_,_=>none
theorem SI.startMT {G H:Hp}{v2:V}{t:T}(fz:Fz G H)(hg:G l=none)(hl:H l=some (.lst xs))(rc:RepL K G xs cs)(rt:RepT K G H v2 t A)(nd:A.Nodup)(nl:l∉A)(gA:∀a∈A,G a=none)(r:RepL K G vs ds)(h:ds.length+2<=N.length):
  SI K ⟨G,zd1 H A,[(0,l)]⟩ G H (L2.start N (.ref l::v2::vs)) (.par cs:: .tre t::(ds.map .val++List.replicate (N.length-(ds.length+2)) .emp)) where
 fz:=fz
 g0:=Fz.refl G
 new:=fun b o e=> .inl (by show G b≠none;rw[e];simp)
 keep:=fun b o e _=>(zml e).1
 there:=fun b e=>by
  show zd1 H A b=none
  by_cases m:b∈A
  ·exact zi4 m
  ·rw[zc6 m];exact e
 ob:=fun i b m=>by
  have:b=l:=((by simpa using m):i=0/\b=l).2
  subst this
  show zd1 H A b≠none
  rw[zc6 nl,hl];simp
 len:=by
  have:=r.length
  rw[zig (by rw[List.length_cons,List.length_cons,r.length];lia),List.length_cons,List.length_cons,List.length_append,List.length_map,List.length_replicate];lia
 slot:=fun i s e=>by
  match i with
  |0=>simp at e;subst e;exact⟨l,xs,rfl,hg,hl,rc,by simp⟩
  |1=>simp at e;subst e;exact⟨v2,A,rfl,rt,nd,fun a m=>⟨gA a m,zi4 m⟩⟩
  |i+2=>
   rw[List.getElem?_cons_succ,List.getElem?_cons_succ]at e
   by_cases hi:i<ds.length
   ·rw[List.getElem?_append_left (by simpa using hi),List.getElem?_map,List.getElem?_eq_getElem hi]at e
    cases e
    obtain⟨x,h1,h2⟩:=r.get (List.getElem?_eq_getElem hi)
    refine⟨x,?_,h2⟩
    unfold L2.start
    rw[List.map_cons,List.map_cons,List.cons_append,List.cons_append,List.getElem?_cons_succ,List.getElem?_cons_succ,List.getElem?_append_left (by rw[List.length_map,r.length];exact hi),List.getElem?_map,h1]
    rfl
   ·rw[List.getElem?_append_right (by simpa using hi),List.getElem?_replicate]at e
    split at e
    ·cases e;trivial
    ·cases e
 dis:=fun i j s u a hij hi hj w1 w2=>by
  have z:∀(i:Nat) (s:Sl),(Sl.par cs::Sl.tre t::(ds.map .val++List.replicate (N.length-(ds.length+2)) .emp))[i]? =some s->OwS K G H (L2.start N (.ref l::v2::vs))[i]? a s->(i=0/\a=l)\/(i=1/\a∈A):=fun i s e q=>by
   match i with
   |0=>
    simp at e;subst e
    refine .inl ⟨rfl,?_⟩
    have q':=show(L2.start N (V.ref l::v2::vs))[0]? =some (some (.ref a))from q
    cases(show some (some (V.ref l))=some (some (.ref a))from q')
    rfl
   |1=>
    simp at e;subst e
    obtain⟨v,A',q1,q2,q3⟩:=q
    cases(show some (some v2)=some (some v)from q1)
    rw[<-rt.det q2 fun _ _=>rfl]at q3
    exact .inr ⟨rfl,q3⟩
   |i+2=>
    exfalso
    rw[List.getElem?_cons_succ,List.getElem?_cons_succ]at e
    by_cases hi:i<ds.length
    ·rw[List.getElem?_append_left (by simpa using hi),List.getElem?_map,List.getElem?_eq_getElem hi]at e
     cases e;exact q
    ·rw[List.getElem?_append_right (by simpa using hi),List.getElem?_replicate]at e
     split at e
     ·cases e;exact q
     ·cases e
  rcases z i s hi w1 with⟨a1,a2⟩|⟨a1,a2⟩<;>rcases z j u hj w2 with⟨b1,b2⟩|⟨b1,b2⟩
  ·exact hij (a1.trans b1.symm)
  ·subst a2;exact nl b2
  ·subst b2;exact nl a2
  ·exact hij (a1.trans b1.symm)
section
variable {P:Program} {w:World} {K:W.Frag} {mg:Str->Option Value} {base:Heap}
theorem fnMT_ok {x qual:Str}{st:Stmt}{N ps:List Str}{k n:Nat}{m:MS}(F:Fun K x qual st f fd)(S:FnScope N ps (zaG st))(hn:ps.length=n)(hN:n<=N.length)
  (body:∀(cdv:Value) (A:Around) (outer:List Env) (s:Shared) (H:Hp) (E:XK),Room k (A.deeper (envOfC qual (zaG st) s.heap.objs.size f cdv))->SSs (cxOf CX0 P w K mg base N qual (zaG st) f cdv A outer s H E).nox (zcl st) m):
  FnOk P w K mg base CX0 (k+1) f fd ps (spMT K n (fMT N.length m)):=by
 refine F.ok S (fun vs H Q E h=>?_) (fun cdv A outer s H vs Q E hr h=>?_)
 ·obtain⟨G,l,xs,cs,v2,t,A,ws,ds,r,out,rfl,_,h2,_,_,_,_,_,_,_,_,h4,_⟩:=h
  rw[List.length_cons,List.length_cons,h4.length,<-hn]at*
  lia
 ·obtain⟨G,l,xs,cs,v2,tt,At,ws,ds,r,out,rfl,e1,h2,fz,hg,hl,rc,rt,nd,nl,gA,h4,kk⟩:=h
  obtain⟨t,pt,so⟩:=body cdv A outer s H E hr
  refine⟨t,pt,?_⟩
  obtain⟨⟨fl,ρ'⟩,e2,e3⟩:=zad e1
  refine so ⟨G,zd1 H At,[(0,l)]⟩ G H _ _ fl ρ' _ (SI.startMT fz hg hl rc rt nd nl gA h4 (by lia)) e2 ?_
  have fin:∀G' H' σ' v,ρ'[0]? =some (.par out)->SI K ⟨G,zd1 H At,[(0,l)]⟩ G' H' σ' ρ'->Fz G G'->ResF K G' H' (zd1 H At) v r->Q v H':=fun G' H' σ' v e0 I f rr=>by
   obtain⟨l',ys,k1,k2,k3,k4,k5⟩:=I.slot 0 _ e0
   have:l'=l:=by simpa using k5
   subst this
   exact kk G' H' v ys f I.fz I.new (fun b o hb e=>I.keep b o e (fun i hm=>by simp at hm;exact hb hm.2)) k2 k3 k4 rr
  cases e0:ρ'[0]? with
  |none=>rw[e0]at e3;cases fl<;>cases e3
  |some s0=>
   rw[e0]at e3
   cases s0 with
   |par o2=>
    cases fl with
    |next=>cases e3;exact fun G' H' σ' I f=>fin G' H' σ' .non e0 I f rfl
    |brk=>cases e3
    |cont=>cases e3
    |ret r'=>
     cases e3
     refine fun G' H' σ' v I f rr=>fin G' H' σ' v e0 I f ?_
     cases r with
     |val d=>exact rr
     |own ds=>exact rr
     |_=>exact rr
   |_=>cases fl<;>cases e3
end
noncomputable abbrev MP':=R->Option (List Ch×R)
noncomputable def SP' (X:Cx)(es:List Expr)(m:MP'):Prop:=
 ∃t,PA X es t/\∀B G H σ ρ cs ρ' (Q:List V->Hp->Prop),SI X.K B G H σ ρ->m ρ=some (cs,ρ')->
  (∀G' H' vs A,SI X.K B G' H' σ ρ'->Fz G G'->RepCs X.K G' H' vs cs A->A.Nodup->(∀a∈A,G' a=none/\B.H a=none/\Nw X.K G' H' σ ρ' a)->Q vs H')->t σ H Q
noncomputable def cNil:MP':=fun ρ=>some ([],ρ)
noncomputable def cOwn (i:Nat)(r:MP'):MP':=fun ρ=>match ρ[i]? with
 |some (.own ds)=>(r (ρ.set i .emp)).map fun q=>(.l ds::q.1,q.2)
 |_=>none
section
variable {X:Cx} {e:Expr} {es:List Expr} {m:ME} {r:MP'}
theorem sc_nil:SP' X [] cNil:=⟨_,zf4,fun B G H σ ρ cs ρ' Q I hm k=>by cases hm;exact k G H [] [] I (Fz.refl G) rfl (by simp) (fun a m=>by cases m)⟩
theorem sc_own (i:Nat){p':Pos}(hr:SP' X es r)(hN:autoParam (X.N[i]? =some x) zu2._auto_1)(hv:autoParam (Vis X.env.scope x) zu6._auto_1)(hd:autoParam ((x==("__debug__":Str))=false) zu1._auto_1)
  (hcd:autoParam ((x==("__classdict__":Str))=false) zu1._auto_1) (hs:autoParam (starEach (.Name x p'::es) X.env=(false,eval (.Name x p') X.env)::starEach es X.env) zu2._auto_1):SP' X (.Name x p'::es) (cOwn i r):=by
 obtain⟨u,q,z⟩:=hr
 refine⟨_,zcn (za6 hN hv hd hcd) q hs,fun B G H σ ρ cs ρ' Q I hm k=>?_⟩
 unfold cOwn at hm
 split at hm
 ·rename_i ds e
  obtain⟨⟨cs1,ρ1⟩,e1,e2⟩:=zau hm
  cases e2
  obtain⟨l,xs,h1,h2,h3,h4,h5⟩:=I.slot i _ e
  have I1:=I.emp i
  have n1:Nw X.K G H σ (ρ.set i .emp) l:=fun j s ej w=>by
   by_cases y:j=i
   ·subst y
    rw[List.getElem?_set,if_pos rfl]at ej
    split at ej
    ·cases ej;exact w
    ·cases ej
   ·rw[List.getElem?_set_ne (Ne.symm y)]at ej
    exact I.dis j i s _ l y ej e w h1
  refine⟨.ref l,h1,z (B.re X.K G H σ (ρ.set i .emp)) G H σ _ cs1 ρ1 _ I1.re e1 fun G1 H1 vs A J f1 r1 nd hA=>?_⟩
  obtain⟨m1,m2,m3⟩:=I1.re_stays J h3 n1 h2 h5
  have hb:(B.re X.K G H σ (ρ.set i .emp)).H l=some (.lst xs):=zk2 h3 n1
  have nl:l∉A:=fun m=>by rw[(hA l m).2.1]at hb;cases hb
  refine k G1 H1 (.ref l::vs) (l::A) (I1.unre J) f1 ⟨[l],A,⟨l,xs,rfl,m1,h4.mono f1,rfl⟩,r1,rfl⟩ (List.nodup_cons.mpr ⟨nl,nd⟩) fun a m=>?_
  rcases List.mem_cons.mp m with rfl|m
  ·exact⟨m2,h5,m3⟩
  ·exact⟨(hA a m).1,zgu I1 (hA a m).2.1,(hA a m).2.2⟩
 ·cases hm
end
theorem SI.chgW2 {B:Bs}{G G' H H':Hp}{σ:St}{ρ:R}(I:SI K B G H σ ρ){i:Nat}{s:Sl}{ds es:List D}(e:ρ[i]? =some s)(q:s.items=some ds)(hl:σ[i]? =some (some (.ref l)))(fz:Fz G' H')(fg:Fz G G')(nw:∀b o,G' b=some o->G b≠none\/zd1 H A b=none)
  (kp:∀b o,b≠l->zd1 H A b=some o->H' b=some o) (gl:G' l=none) (hl':H' l=some (.lst ys)) (r:RepL K G' ys es) (hA:∀a∈A,B.H a=none/\Nw K G H σ ρ a):
  SI K B G' H' σ (ρ.set i (s.put es))/\∀p,zd1 H A p=none->B.H p=none/\Nw K G' H' σ (ρ.set i (s.put es)) p:=by
 obtain⟨l',xs,e1,e2,e3,e4⟩:=I.wr e q
 rw[hl]at e1;cases e1
 have sl:=I.slot i s e
 have ow:∀(j:Nat) (t:Sl) (a:Addr),j≠i->ρ[j]? =some t->OwS K G H σ[j]? a t->G a=none->H a≠none->G' a=none/\H' a=H a:=fun j t a z ej w g ha=>by
  have na:a≠l:=fun w'=>by subst w';exact I.dis j i t s a z ej e w ((zbs q).mpr hl)
  have nA:a∉A:=fun m=>(hA a m).2 j t ej w
  obtain⟨u,hu⟩:=Option.ne_none_iff_exists'.mp ha
  refine⟨?_,(kp a u na (by rw[zc6 nA];exact hu)).trans hu.symm⟩
  cases q2:G' a with
  |none=>rfl
  |some u=>
   rcases nw a u q2 with z|z
   ·exact absurd g z
   ·rw[zc6 nA]at z;exact absurd z ha
 have bn:∀b,zd1 H A b=none->B.H b=none:=fun b h=>by
  rcases zha h with z|z
  ·exact I.there b z
  ·exact(hA b z).1
 refine⟨?_,fun p hp=>⟨bn p hp,fun j t ej w=>?_⟩⟩
 ·have nb:∀b o,B.H b=some o->(∀i,(i,b)∉B.O)->b≠l:=fun b o h1 h2 z=>by
   subst z
   rcases(sl.own ((zbs q).mpr hl)).2.2 with z|z
   ·rw[h1]at z;cases z
   ·exact h2 i z
  have h:=I.chg (i:=i) (ov:=some (.ref l)) (s':=s.put es) (G':=G') (H':=H') fz fg (fun b o k=>?_) (fun b o k1 k2=>kp b o (nb b o k1 k2) (by rw[zc6 fun m=>by rw[(hA b m).1]at k1;cases k1];exact I.keep b o k1 k2)) (fun b k=>?_) (fun j t a z ej w g ha=>⟨(ow j t a z ej w g ha).1,(ow j t a z ej w g ha).2,fun z'=>?_⟩) ?_
  ·rwa[zgv hl]at h
  ·rcases nw b o k with h|h
   ·cases q2:G b with
    |none=>exact absurd q2 h
    |some u=>exact I.new b u q2
   ·exact .inr (bn b h)
  ·by_cases z:b=l
   ·subst z;rw[hl']at k;cases k
   ·refine bn b ?_
    cases q2:zd1 H A b with
    |none=>rfl
    |some u=>rw[kp b u z q2]at k;cases k
  ·cases(zbs (zg1 q es)).mp z';exact I.dis j i t s l z ej e w ((zbs q).mpr hl)
  ·cases s with
   |own es'=>obtain⟨l',xs',k1,k2,k3,k4,k5⟩:=sl;rw[hl]at k1;cases k1;exact⟨_,ys,rfl,gl,hl',r,k5⟩
   |par es'=>obtain⟨l',xs',k1,k2,k3,k4,k5⟩:=sl;rw[hl]at k1;cases k1;exact⟨_,ys,rfl,gl,hl',r,k5⟩
   |_=>cases q
 ·by_cases z:j=i
  ·subst z
   rw[List.getElem?_set,if_pos rfl]at ej
   split at ej
   ·cases ej
    have h1:=(zbs (zg1 q es)).mp w
    rw[hl]at h1
    have:l=p:=V.ref.inj (Option.some.inj (Option.some.inj h1))
    subst this
    rcases zha hp with z|z
    ·rw[e3]at z;cases z
    ·exact(hA l z).2 j s e ((zbs q).mpr hl)
   ·cases ej
  ·rw[List.getElem?_set_ne (Ne.symm z)]at ej
   have sj:=I.slot j t ej
   have w0:=sj.back (fun a w g h=>ow j t a z ej w g h) w
   rcases zha hp with y|y
   ·exact(sj.own w0).2.1 y
   ·exact(hA p y).2 j t ej w0
noncomputable def zjp (F:List D->T->List D->Option (Sl×List D))(j:Nat)(mp:MP')(ma:MA):ME:=fun ρ=>if(ρ[j]?.bind Sl.items).isSome then(mp ρ).bind fun c=>if c.1.length<=16777216 then(ma c.2).bind fun p=>p.2[j]?.bind fun s=>s.items.bind fun cs=>(F cs (.lst c.1) p.1).bind fun r=>match r.1 with
 | .val d=>some (d,p.2.set j (s.put r.2))
 | .own ds=>some (.lst ds,p.2.set j (s.put r.2))
 |_=>none else none else none
section
variable {X:Cx} {x y:Str} {p py pl pos:Pos} {es es':List Expr} {mp:MP'} {ma:MA} {k k' n:Nat} {F:List D->T->List D->Option (Sl×List D)}
theorem znK (j:Nat)(fd:FD X.prog X.w X.K X.mg X.base k x (spMT X.K n F))(hr:Room k' X.A)(hp:SP' X es mp)(ha:SA X es' ma)(hlen:∀ρ as ρ',ma ρ=some (as,ρ')->as.length+2=n)(hN:autoParam (X.N[j]? =some y) zu2._auto_1)(hv:autoParam (Vis X.env.scope y) zu6._auto_1)(hd:autoParam ((y==("__debug__":Str))=false) zu1._auto_1)
  (hcd:autoParam ((y==("__classdict__":Str))=false) zu1._auto_1) (hk:autoParam (k<=k') zu1._auto_1) (hg:autoParam (Gl X x) zu2._auto_1) (hdb:autoParam ((x==("__debug__":Str))=false) zu1._auto_1)
  (he:autoParam (starEach (.Name y py:: .List es pl::es') X.env=(false,eval (.Name y py) X.env)::starEach (.List es pl::es') X.env) zu2._auto_1) (he2:autoParam (starEach (.List es pl::es') X.env=(false,eval (.List es pl) X.env)::starEach es' X.env) zu2._auto_1) (hpl:autoParam ((backTo pos (starEach (.List es pl::es') X.env)).any (·.1)=false) zu2._auto_1):SE X (.Call (.Name x p) (.Name y py:: .List es pl::es') [] pos) (zjp F j mp ma):=by
 obtain⟨f,fdd,ps,G0,h1,h2,h3⟩:=fd.ex
 obtain⟨t,pa,sa⟩:=ha
 obtain⟨tp,pp,sp⟩:=hp
 refine⟨_,ziq G0 (hr.mono hk) hg h1 h2 h3 .nil zn1 (zcn (za6 hN hv hd hcd) (zcn (zoc pp) pa he2) he) hdb he hpl,fun B G H σ ρ d ρ' Q I hm kk=>?_⟩
 unfold zjp at hm
 split at hm
 ·rename_i hso
  obtain⟨ds0,hso⟩:=Option.isSome_iff_exists.mp hso
  obtain⟨s0,k0,q0⟩:=zad hso
  obtain⟨l,xs0,w1,w2,w3,w4⟩:=I.wr k0 q0
  obtain⟨⟨cs1,ρ1⟩,e1,hm⟩:=zad hm
  split at hm
  ·rename_i hsz
   obtain⟨⟨as,ρ2⟩,e2,hm⟩:=zad hm
   obtain⟨s,e3,hm⟩:=zad hm
   obtain⟨cs,e4,hm⟩:=zad hm
   obtain⟨⟨r,out⟩,e5,hm⟩:=zad hm
   refine⟨.ref l,w1,sp B G H σ ρ cs1 ρ1 _ I e1 fun G1 H1 vs A I1 f1 r1 nd hA=>?_⟩
   have ln:∀{xs:List V} {cs:List Ch} {A:List Addr},RepCs X.K G1 H1 xs cs A->xs.length=cs.length:=by
    intro xs
    induction xs with
    |nil=>intro cs A r;cases cs with
     |nil=>rfl
     |cons _ _=>exact r.elim
    |cons x xs ih=>intro cs A r;cases cs with
     |nil=>exact r.elim
     |cons c cs=>obtain⟨_,_,_,r2,_⟩:=r;rw[List.length_cons,List.length_cons,ih r2]
   refine⟨by rw[ln r1,sizeLine_eq];exact hsz,fun q hq=>?_⟩
   have I2:=I1.allocO hq (.lst vs)
   have mv:∀(i:Nat) (s:Sl) (a:Addr),ρ1[i]? =some s->OwS X.K G1 H1 σ[i]? a s->G1 a=none->H1 a≠none->G1 a=none/\upd H1 q (.lst vs) a=H1 a:=fun i s a _ _ g h=>⟨g,zaq fun z=>h (by rw[z];exact hq)⟩
   have hA2:∀a∈q::A,G1 a=none/\B.H a=none/\Nw X.K G1 (upd H1 q (.lst vs)) σ ρ1 a/\∃o,upd H1 q (.lst vs) a=some o:=fun a m=>by
    rcases List.mem_cons.mp m with rfl|m
    ·exact⟨I1.fz.free hq,I1.there a hq,I1.nw_move (I1.nw hq) mv,_,zat⟩
    ·obtain⟨ys,z⟩:=r1.here m
     exact⟨(hA a m).1,(hA a m).2.1,I1.nw_move (hA a m).2.2 mv,_,by rw[zaq fun y=>by rw[y,hq]at z;cases z];exact z⟩
   have nq:q∉A:=fun m=>by obtain⟨ys,z⟩:=r1.here m;rw[hq]at z;cases z
   have rt:RepT X.K G1 (upd H1 q (.lst vs)) (.ref q) (.lst cs1) (q::A):=⟨q,vs,A,rfl,zat,r1.move (Fz.refl G1) fun a m=>zaq fun z=>nq (by rw[<-z];exact m),rfl⟩
   refine sa (B.re X.K G1 (upd H1 q (.lst vs)) σ ρ1) G1 _ σ ρ1 as ρ2 _ I2.re e2 fun G2 H2 ws J f2 r2=>?_
   have I3:=I2.unre J
   have st:∀a∈q::A,H2 a=upd H1 q (.lst vs) a/\G2 a=none/\Nw X.K G2 H2 σ ρ2 a:=fun a m=>by
    obtain⟨a1,a2,a3,o,a4⟩:=hA2 a m
    obtain⟨b1,b2,b3⟩:=I2.re_stays J a4 a3 a1 a2
    exact⟨b1.trans a4.symm,b2,b3⟩
   obtain⟨l',xs,m1,m2,m3,m4⟩:=I3.wr e3 e4
   rw[w1]at m1;cases m1
   show spMT X.K n F ((.ref l:: .ref q::ws)++[]) H2 Q E0
   rw[List.append_nil]
   have nl:l∉q::A:=fun m=>(st l m).2.2 j s e3 ((zbs e4).mpr w1)
   refine⟨G2,l,xs,cs,.ref q,.lst cs1,q::A,ws,as,r,out,rfl,e5,hlen ρ1 as ρ2 e2,I3.fz,m2,m3,m4,rt.move f2 fun a m=>(st a m).1,List.nodup_cons.mpr ⟨nq,nd⟩,nl,fun a m=>(st a m).2.1,r2,fun G3 H3 v ys f3 fz3 nw kp gl hl r3 rr=>?_⟩
   obtain⟨I4,fr⟩:=I3.chgW2 e3 e4 w1 fz3 f3 nw kp gl hl r3 fun a m=>⟨(hA2 a m).2.1,(st a m).2.2⟩
   cases r with
   |val d'=>cases hm;exact kk G3 H3 v I4 (f1.trans (f2.trans f3)) rr
   |own ds=>
    cases hm
    obtain⟨l',xs',rfl,g4,h4,r4,b4⟩:=rr
    obtain⟨I5,f4,r5⟩:=zkH I4 g4 h4 r4 (fr l' b4).1 (fr l' b4).2
    exact kk _ H3 _ I5 (f1.trans (f2.trans (f3.trans f4))) r5
   |emp=>cases hm
   |two _ _=>cases hm
   |tre _=>cases hm
   |ptr _=>cases hm
   |par _=>cases hm
  ·cases hm
 ·cases hm
end
theorem aLen2 {ma:MA}(h:aLen ma n):∀ρ as ρ',ma ρ=some (as,ρ')->as.length+2=n+2:=fun ρ as ρ' e=>by rw[h ρ as ρ' e]
end M
namespace M
open L2 PySem PySem.Spec
open PyProof.Rows hiding St
noncomputable def Ch.D:Ch->M.D
 | .d x=>x
 | .l ds=> .lst ds
 | .t xss=> .lst (xss.map .lst)
section
variable {K:W.Frag} {B:Bs} {G G' H H':Hp} {σ:St} {ρ:R}
theorem zc3:∀{xs:List V} {cs:List Ch} {A:List Addr},RepCs K G H xs cs A->xs.length=cs.length
 |[],[],_,_=>rfl
 |_::_,_::_,_,⟨_,_,_,r,_⟩=>by rw[List.length_cons,List.length_cons,zc3 r]
 |[],_::_,_,h=>h.elim
 |_::_,[],_,h=>h.elim
theorem ziZ:∀{xs:List V} {cs:List Ch} {A:List Addr} {x:V} {c:Ch} {A':List Addr},RepCs K G H xs cs A->RepC K G H x c A'->RepCs K G H (xs++[x]) (cs++[c]) (A++A')
 |[],[],_,x,c,A',h,r=>by rw[show _=[]from h];exact⟨A',[],r,rfl,by simp⟩
 |y::xs,d::cs,_,x,c,A',⟨A1,A2,r1,r2,e⟩,r=>⟨A1,A2++A',r1,ziZ r2 r,by rw[e,List.append_assoc]⟩
 |[],_::_,_,_,_,_,h,_=>h.elim
 |_::_,[],_,_,_,_,h,_=>h.elim
theorem zc8:∀{xs:List V} {cs:List Ch} {A:List Addr} {n:Nat} {c:Ch},RepCs K G H xs cs A->cs[n]? =some c->∃x A1,xs[n]? =some x/\RepC K G H x c A1/\∀a∈A1,a∈A
 |[],[],_,_,_,_,h=>by simp at h
 |x::xs,d::cs,_,0,c,⟨A1,A2,r1,r2,e⟩,h=>by simp at h;subst h;exact⟨x,A1,rfl,r1,fun a m=>by rw[e];exact List.mem_append_left _ m⟩
 |x::xs,d::cs,_,n+1,c,⟨A1,A2,r1,r2,e⟩,h=>by
  obtain⟨y,B1,h1,h2,h3⟩:=zc8 (n:=n) r2 (by simpa using h)
  exact⟨y,B1,by simpa using h1,h2,fun a m=>by rw[e];exact List.mem_append_right _ (h3 a m)⟩
 |[],_::_,_,_,_,h,_=>h.elim
 |_::_,[],_,_,_,h,_=>h.elim
theorem zg7:∀{xs:List V} {cs:List Ch} {A:List Addr} {n:Nat} {ds es:List D} {l:Addr} {ys:List V},RepCs K G H xs cs A->A.Nodup->cs[n]? =some (.l ds)->xs[n]? =some (.ref l)->RepL K G ys es->RepCs K G (upd H l (.lst ys)) xs (cs.set n (.l es)) A
 |[],[],_,_,_,_,_,_,_,_,h,_,_=>by simp at h
 |x::xs,d::cs,A,0,ds,es,l,ys,⟨A1,A2,r1,r2,e⟩,nd,h,hx,r=>by
  simp at h hx;subst h hx
  obtain⟨l',zs,e1,e2,e3,rfl⟩:=r1
  cases e1
  rw[e]at nd
  refine⟨[l],A2,⟨l,ys,rfl,zat,r,rfl⟩,r2.move (Fz.refl G) fun a m=>zaq fun z=>?_,e⟩
  subst z
  exact(List.nodup_append.mp nd).2.2 a (by simp) a m rfl
 |x::xs,d::cs,A,n+1,ds,es,l,ys,⟨A1,A2,r1,r2,e⟩,nd,h,hx,r=>by
  rw[e]at nd
  have nd':=List.nodup_append.mp nd
  have h':cs[n]? =some (.l ds):=by simpa using h
  have hx':xs[n]? =some (.ref l):=by simpa using hx
  obtain⟨y,B1,h1,⟨l',zs,e1,e2,e3,e4⟩,h3⟩:=zc8 r2 h'
  rw[hx']at h1;cases h1;cases e1
  have lA:l∈A2:=h3 l (by rw[e4];simp)
  exact⟨A1,A2,r1.move (Fz.refl G) fun a m=>zaq fun z=>by subst z;exact nd'.2.2 a m a lA rfl,zg7 r2 nd'.2.1 h' hx' r,e⟩
 |[],_::_,_,_,_,_,_,_,h,_,_,_,_=>h.elim
 |_::_,[],_,_,_,_,_,_,h,_,_,_,_=>h.elim
theorem zlu {Gz:Hp}(fg:Fz G Gz):∀{xs:List V} {dss:List (List D)} {A:List Addr},RepTb K G H xs dss A->(∀a∈A,Gz a=H a)->RepL K Gz xs (dss.map .lst)
 |[],[],_,_,_=>rfl
 |x::xs,ds::dss,_,⟨r,ys,A2,e1,e2,e3,e4,e5⟩,h=>⟨x,xs,rfl,⟨r,ys,e1,by rw[h r (by rw[e5];simp)];exact e2,e3.mono fg⟩,zlu fg e4 fun a m=>h a (by rw[e5];simp[m])⟩
 |[],_::_,_,h,_=>h.elim
 |_::_,[],_,h,_=>h.elim
theorem zfU {Gz:Hp}(fg:Fz G Gz):∀{xs:List V} {cs:List Ch} {A:List Addr},RepCs K G H xs cs A->(∀a∈A,Gz a=H a)->RepL K Gz xs (cs.map Ch.D)
 |[],[],_,_,_=>rfl
 |x::xs,.d y::cs,_,⟨A1,A2,r1,r2,e⟩,h=>⟨x,xs,rfl,r1.1.mono fg,zfU fg r2 fun a m=>h a (by rw[e];exact List.mem_append_right _ m)⟩
 |x::xs,.l ds::cs,_,⟨A1,A2,⟨l,ys,e1,e2,e3,e4⟩,r2,e⟩,h=>⟨x,xs,rfl,⟨l,ys,e1,by rw[h l (by rw[e,e4];simp)];exact e2,e3.mono fg⟩,zfU fg r2 fun a m=>h a (by rw[e];exact List.mem_append_right _ m)⟩
 |x::xs,.t xss::cs,_,⟨A1,A2,⟨p,ys,A3,e1,e2,e3,e4⟩,r2,e⟩,h=>⟨x,xs,rfl,⟨p,ys,e1,by rw[h p (by rw[e,e4];simp)];exact e2,zlu fg e3 fun a m=>h a (by rw[e,e4];simp[m])⟩,zfU fg r2 fun a m=>h a (by rw[e];exact List.mem_append_right _ m)⟩
 |[],_::_,_,h,_=>h.elim
 |_::_,[],_,h,_=>h.elim
theorem SI.chT2 (I:SI K B G H σ ρ){i:Nat}{t t':T}{v:V}{A A':List Addr}(e:ρ[i]? =some (.tre t))(hv:σ[i]? =some (some v))(r:RepT K G H v t A)(fz:Fz G H')(kp:∀b o,b∉A->H b=some o->H' b=some o)(th:∀b,H' b=none->H b=none)
  (r':RepT K G H' v t' A') (nd:A'.Nodup) (sub:∀a∈A',a∈A\/(G a=none/\B.H a=none/\Nw K G H σ ρ a)):SI K B G H' σ (ρ.set i (.tre t')):=by
 obtain⟨v1,A1,h1,h2,h3,h4⟩:=I.slot i _ e
 rw[hv]at h1;cases h1
 have:A1=A:=h2.det r fun _ _=>rfl
 subst this
 have h:=I.chg (i:=i) (ov:=some v) (s':= .tre t') (G':=G) (H':=H') fz (Fz.refl G) I.new (fun b o k1 k2=>kp b o (fun m=>by rw[(h4 b m).2]at k1;cases k1) (I.keep b o k1 k2)) (fun b k=>I.there b (th b k)) (fun j u a z ej w g ha=>?_) ⟨v,A',rfl,r',nd,fun a m=>?_⟩
 ·rwa[zgv hv]at h
 ·have na:a∉A1:=fun m=>I.dis j i u _ a z ej e w ⟨v,A1,hv,h2,m⟩
  obtain⟨x,hx⟩:=Option.ne_none_iff_exists'.mp ha
  refine⟨g,(kp a x na hx).trans hx.symm,fun w'=>?_⟩
  obtain⟨v2,A2,k1,k2,k3⟩:=w'
  cases k1
  rw[k2.det r' fun _ _=>rfl]at k3
  rcases sub a k3 with z|z
  ·exact na z
  ·exact z.2.2 j u ej w
 ·rcases sub a m with z|z
  ·exact h4 a z
  ·exact⟨z.1,z.2.1⟩
theorem zoG (I:SI K B G H σ ρ){i:Nat}{s:Sl}{a:Addr}(e:ρ[i]? =some s)(w:OwS K G H σ[i]? a s):Nw K G H σ (ρ.set i .emp) a:=fun j t ej w'=>by
 by_cases z:j=i
 ·subst z
  rw[List.getElem?_set,if_pos rfl]at ej
  split at ej
  ·cases ej;exact w'
  ·cases ej
 ·rw[List.getElem?_set_ne (Ne.symm z)]at ej
  exact I.dis j i t s a z ej e w' w
open Classical in
noncomputable def frA (G H:Hp)(A:List Addr):Hp:=fun b=>if b∈A then H b else G b
theorem zgV {G H:Hp}{A:List Addr}{b:Addr}(h:b∈A):frA G H A b=H b:=by unfold frA;rw[if_pos h]
theorem zjQ {G H:Hp}{A:List Addr}{b:Addr}(h:b∉A):frA G H A b=G b:=by unfold frA;rw[if_neg h]
theorem zlY {G H:Hp}{A:List Addr}(hA:∀a∈A,G a=none):Fz G (frA G H A):=fun b o e=>by
 rw[zjQ fun m=>by rw[hA b m]at e;cases e];exact e
theorem SI.frzA (I:SI K B G H σ ρ){A:List Addr}(hA:∀a∈A,G a=none/\B.H a=none/\Nw K G H σ ρ a):SI K B (frA G H A) H σ ρ:=
 I.move (fun a u q=>by
  by_cases m:a∈A
  ·rw[zgV m]at q;exact q
  ·rw[zjQ m]at q;exact I.fz a u q) (zlY fun a m=>(hA a m).1) (fun b u q=>by
  by_cases m:b∈A
  ·exact .inr (hA b m).2.1
  ·rw[zjQ m]at q;exact I.new b u q) I.keep I.there (fun i s a e w g _=>⟨by rw[zjQ fun m=>(hA a m).2.2 i s e w];exact g,rfl⟩)
end
noncomputable def sTN (i:Nat):MS:=fun ρ=>some (.next,ρ.set i (.tre (.lst [])))
noncomputable def sTA (i j:Nat):MS:=fun ρ=>match ρ[i]?,ρ[j]? with
 |some (.tre (.lst cs)),some (.own ds)=>if cs.length<16777216 then some (.next,(ρ.set j .emp).set i (.tre (.lst (cs++[.l ds]))))else none
 |_,_=>none
noncomputable def sRT (i:Nat):MS:=fun ρ=>match ρ[i]? with
 |some (.tre t)=>some (.ret (.tre t),ρ.set i .emp)
 |_=>none
noncomputable def zoU (F:List D->Option Sl)(ma:MA):ME:=fun ρ=>(ma ρ).bind fun p=>(F p.1).bind fun r=>match r with
 | .tre (.lst cs)=>some (.lst (cs.map Ch.D),p.2)
 |_=>none
noncomputable abbrev MQ:=R->Option D
noncomputable def SQ (X:Cx)(e:Expr)(m:MQ):Prop:=
 ∃t,PE X e t/\∀B G H σ ρ d (Q:VK),SI X.K B G H σ ρ->m ρ=some d->(∀v,RepD X.K G v d->Q v H)->t σ H Q
noncomputable def qV (i:Nat):MQ:=fun ρ=>match ρ[i]? with
 |some (.val d)=>some d
 |_=>none
noncomputable def eTI (j:Nat)(mi mk:MQ):ME:=fun ρ=>(mi ρ).bind fun a=>(mk ρ).bind fun b=>match a,b,ρ[j]? with
 | .int n,.int m,some (.tre (.lst cs))=>(atI cs n).bind fun c=>match c with
  | .l ds=>(atI ds m).map fun d=>(d,ρ)
  |_=>none
 |_,_,_=>none
noncomputable def sTP (j:Nat)(mi mk:MQ)(me:ME):MS:=fun ρ=>(me ρ).bind fun p=>(mi p.2).bind fun a=>(mk p.2).bind fun b=>match a,b,p.2[j]? with
 | .int n,.int m,some (.tre (.lst cs))=>(ixN cs.length n).bind fun u=>match cs[u]? with
  |some (.l ds)=>(ixN ds.length m).bind fun w=>some (.next,p.2.set j (.tre (.lst (cs.set u (.l (ds.set w p.1))))))
  |_=>none
 |_,_,_=>none
noncomputable def fzT (j:Nat)(ρ:R):R:=match ρ[j]? with
 |some (.tre (.lst cs))=>ρ.set j (.val (.lst (cs.map Ch.D)))
 |_=>ρ
noncomputable def sFzT (j:Nat)(m:MS):MS:=fun ρ=>m (fzT j ρ)
section
variable {X:Cx} {x y:Str} {pos p' q' tpos:Pos}
theorem zoD (i:Nat)(hN:X.N.Nodup)(hi:autoParam (X.N[i]? =some x) zu2._auto_1)(hx:autoParam (Loc X.env.scope x) zu10._auto_1)(hs:autoParam (swapsWith (.List [] tpos) (some (.Name x p')) pos.line X.env=pure false) zu2._auto_1)
    (hf:autoParam (X.fn x=true\/X.env.scope.names.lookup x=some .local) zu10._auto_1):SS X (.Assign [.Name x p'] (.List [] tpos) pos) (sTN i):=by
  refine⟨_,zlw hN hi hx (zoc zf4) hs hf,fun B G H σ ρ fl ρ' E I hm k=>?_⟩
  cases hm
  refine⟨by rw[sizeLine_eq];exact Nat.zero_le _,fun p hp=>?_⟩
  have nw:Nw X.K G (upd H p (.lst [])) σ ρ p:=I.nw_move (I.nw hp) fun i s a _ _ g h=>⟨g,zaq fun z=>h (by rw[z];exact hp)⟩
  exact k G _ _ ((I.allocO hp _).setT (A:=[p]) ⟨p,[],[],rfl,zat,rfl,rfl⟩ (by simp) (fun a m=>by
    have:a=p:=by simpa using m
    subst this
    exact⟨I.fz.free hp,I.there a hp,nw⟩)) (Fz.refl G)
theorem ss_retT (i:Nat)(hN:autoParam (X.N[i]? =some x) zu2._auto_1)(hv:autoParam (Vis X.env.scope x) zu6._auto_1)(hd:autoParam ((x==("__debug__":Str))=false) zu1._auto_1)
  (hcd:autoParam ((x==("__classdict__":Str))=false) zu1._auto_1):SS X (.Return (some (.Name x p')) pos) (sRT i):=by
 refine⟨_,zlC (za6 hN hv hd hcd),fun B G H σ ρ fl ρ' E I hm k=>?_⟩
 unfold sRT at hm
 split at hm
 ·rename_i t e
  cases hm
  obtain⟨v,A,h1,h2,h3,h4⟩:=I.slot i _ e
  exact⟨v,h1,k G H σ v (I.emp i) (Fz.refl G) ⟨A,h2,h3,h4⟩⟩
 ·cases hm
variable {e:Expr} {es:List Expr} {ma:MA} {k k' n:Nat} {F:List D->Option Sl}
theorem se_callT {z:Str}{p:Pos}(fd:FD X.prog X.w X.K X.mg X.base k z (spP X.K n F))(hr:Room k' X.A)(ha:SA X (e::es) ma)(hlen:∀ρ as ρ',ma ρ=some (as,ρ')->as.length=n)(hk:autoParam (k<=k') zu1._auto_1)(hg:autoParam (Gl X z) zu2._auto_1)(hdb:autoParam ((z==("__debug__":Str))=false) zu1._auto_1)
  (he:autoParam (starEach (e::es) X.env=(false,eval e X.env)::starEach es X.env) zu2._auto_1) (hpl:autoParam ((backTo pos (starEach es X.env)).any (·.1)=false) zu2._auto_1):SE X (.Call (.Name z p) (e::es) [] pos) (zoU F ma):=by
 obtain⟨f,fdd,ps,G0,h1,h2,h3⟩:=fd.ex
 obtain⟨t,pa,sa⟩:=ha
 refine⟨_,ziq G0 (hr.mono hk) hg h1 h2 h3 .nil zn1 pa hdb he hpl,fun B G H σ ρ d ρ' Q I hm kk=>?_⟩
 obtain⟨⟨as,ρ1⟩,e1,hm⟩:=zad hm
 obtain⟨r,e2,hm⟩:=zad hm
 refine sa B G H σ ρ as ρ1 _ I e1 fun G1 H1 vs I1 f1 r1=>?_
 show spP X.K n F (vs++[]) H1 Q E0
 rw[List.append_nil]
 refine⟨G1,as,r,e2,hlen ρ as ρ1 e1,I1.fz,r1,fun G2 H2 v f2 fz2 nw kp rr=>?_⟩
 have I2:=I1.grow f2 fz2 nw kp
 split at hm
 ·rename_i cs
  cases hm
  obtain⟨A,q1,q2,q3⟩:=rr
  have hA:∀a∈A,G2 a=none/\B.H a=none/\Nw X.K G2 H2 σ ρ1 a:=fun a m=>⟨(q3 a m).1,I1.there a (q3 a m).2,I1.own_ne (q3 a m).2 nw kp⟩
  obtain⟨p,xs,A',rfl,g1,g2,rfl⟩:=q1
  have fg:=zlY (H:=H2) fun a m=>(hA a m).1
  exact kk (frA G2 H2 (p::A')) H2 _ (I2.frzA hA) (f1.trans (f2.trans fg)) ⟨p,xs,rfl,by rw[zgV (by simp)];exact g1,zfU fg g2 fun a m=>zgV (by simp[m])⟩
 ·cases hm
theorem SI.fzT {K:W.Frag}{B:Bs}{G H:Hp}{σ:St}{ρ:R}(I:SI K B G H σ ρ)(j:Nat):∃G',SI K B G' H σ (fzT j ρ)/\Fz G G':=by
 unfold M.fzT
 split
 ·rename_i cs e
  obtain⟨v,A,h1,h2,h3,h4⟩:=I.slot j _ e
  have h2':=h2
  obtain⟨p,xs,A',rfl,g1,g2,rfl⟩:=h2
  have I1:=I.emp j
  have hA:∀a∈p::A',G a=none/\B.H a=none/\Nw K G H σ (ρ.set j .emp) a:=fun a m=>⟨(h4 a m).1,(h4 a m).2,zoG I e ⟨_,_,h1,h2',m⟩⟩
  have fg:=zlY (H:=H) fun a m=>(hA a m).1
  have I2:=(I1.frzA hA).set (i:=j) (v:= .ref p) (d:= .lst (cs.map Ch.D)) ⟨p,xs,rfl,by rw[zgV (by simp)];exact g1,zfU fg g2 fun a m=>zgV (by simp[m])⟩
  rw[zgv h1,List.set_set]at I2
  exact⟨_,I2,fg⟩
 ·exact⟨G,I,Fz.refl G⟩
theorem zlK {st:Stmt}{m:MS}(j:Nat)(h:SS X st m):SS X st (sFzT j m):=by
 obtain⟨t,p,s⟩:=h
 refine⟨t,p,fun B G H σ ρ fl ρ' E I hm k=>?_⟩
 obtain⟨G',I',f⟩:=I.fzT j
 exact s B G' H σ _ fl ρ' E I' hm (k.mono f)
theorem zax (i:Nat)(hN:autoParam (X.N[i]? =some x) zu2._auto_1)(hv:autoParam (Vis X.env.scope x) zu6._auto_1)(hd:autoParam ((x==("__debug__":Str))=false) zu1._auto_1)
  (hcd:autoParam ((x==("__classdict__":Str))=false) zu1._auto_1):SQ X (.Name x pos) (qV i):=by
 refine⟨_,za6 hN hv hd hcd,fun B G H σ ρ d Q I hm k=>?_⟩
 unfold qV at hm
 split at hm
 ·rename_i d' e
  cases hm
  obtain⟨v,h1,h2⟩:=I.slot i _ e
  exact⟨v,h1,k v h2⟩
 ·cases hm
theorem at_ixN {α:Type}{xs:List α}{n:Int}{c:α}(h:atI xs n=some c):∃u,ixN xs.length n=some u/\xs[u]? =some c:=by
 unfold atI at h
 obtain⟨u,h1,h2⟩:=zad h
 exact⟨u,h1,h2⟩
theorem ziH {α:Type}{xs:List α}{n:Int}{c:α}{u:Nat}(h:ixN xs.length n=some u)(h2:xs[u]? =some c):atI xs n=some c:=by
 unfold atI;rw[h];exact h2
variable {a b:Expr} {mi mk:MQ}
theorem zeG (j:Nat)(ha:SQ X a mi)(hb:SQ X b mk)(hN:autoParam (X.N[j]? =some x) zu2._auto_1)(hv:autoParam (Vis X.env.scope x) zu6._auto_1)(hd:autoParam ((x==("__debug__":Str))=false) zu1._auto_1)
    (hcd:autoParam ((x==("__classdict__":Str))=false) zu1._auto_1) (hs:autoParam (zdH a) zu7._auto_1) (hs2:autoParam (zdH b) zu7._auto_1):SE X (.Subscript (.Subscript (.Name x p') a q') b pos) (eTI j mi mk):=by
  obtain⟨ta,pa,sa⟩:=ha
  obtain⟨tb,pb,sb⟩:=hb
  refine⟨_,zj8 ix_list (zj8 ix_list (za6 hN hv hd hcd) pa hs) pb hs2,fun B G H σ ρ d ρ' Q I hm k=>?_⟩
  obtain⟨va,e1,hm⟩:=zad hm
  obtain⟨vb,e2,hm⟩:=zad hm
  obtain⟨n,rfl⟩:∃n,va= .int n:=by cases va<;>first|exact⟨_,rfl⟩|cases hm
  obtain⟨m,rfl⟩:∃m,vb= .int m:=by cases vb<;>first|exact⟨_,rfl⟩|cases hm
  obtain⟨cs,e⟩:∃cs,ρ[j]? =some (.tre (.lst cs)):=by
    cases e:ρ[j]? with
    |none=>rw[e]at hm;cases hm
    |some s=>
      rw[e]at hm
      cases s with
      |tre t=>cases t with
        |lst cs=>exact⟨cs,rfl⟩
        |_=>cases hm
      |_=>cases hm
  rw[e]at hm
  obtain⟨c,e3,hm⟩:=zad hm
  obtain⟨ds,rfl⟩:∃ds,c= .l ds:=by cases c<;>first|exact⟨_,rfl⟩|cases hm
  obtain⟨d',e4,e5⟩:=zau hm
  cases e5
  obtain⟨v,A,h1,⟨p,xs,A',rfl,g1,g2,rfl⟩,h3,h4⟩:=I.slot j _ e
  obtain⟨u,i1,i2⟩:=at_ixN e3
  obtain⟨y,A1,j1,⟨l,ys,rfl,j2,j3,-⟩,-⟩:=zc8 g2 i2
  obtain⟨w,k1,k2⟩:=j3.at e4
  refine⟨.ref p,h1,sa B G H σ ρ _ _ I e1 fun v1 r1=>?_⟩
  refine⟨p,xs,n,.ref l,rfl,r1,SqL.of g1,ziH (by rw[zc3 g2];exact i1) j1,sb B G H σ ρ _ _ I e2 fun v2 r2=>?_⟩
  exact⟨l,ys,m,w,rfl,r2,SqL.of j2,k1,k G H w I (Fz.refl G) k2⟩
theorem zed (j:Nat){me:ME}(he:SE X e me)(ha:SQ X a mi)(hb:SQ X b mk)(hN:autoParam (X.N[j]? =some x) zu2._auto_1)(hv:autoParam (Vis X.env.scope x) zu6._auto_1)(hd:autoParam ((x==("__debug__":Str))=false) zu1._auto_1)
  (hcd:autoParam ((x==("__classdict__":Str))=false) zu1._auto_1) (hsa:autoParam (zdH a) zu7._auto_1)
  (hq :autoParam (∀ v, assign (.Subscript (.Subscript (.Name x p') a q') b tpos) X.env v = (do
   let ov<-holding [v] (eval (.Subscript (.Name x p') a q') X.env)
   let iv<-holding [v,ov] (eval b X.env)
   standAt tpos
   holding [v,ov,iv] (setItem ov iv v)
   release [v,ov,iv] [])) zu9._auto_1)
  (hs:autoParam (swapsWithSole [.Subscript (.Subscript (.Name x p') a q') b tpos] e pos.line X.env=pure false) zu2._auto_1) (hw:autoParam (swappedStores [.Subscript (.Subscript (.Name x p') a q') b tpos] e X.env=pure none) zu2._auto_1)
  (h1:autoParam ((assignEach [.Subscript (.Subscript (.Name x p') a q') b tpos] X.env).map (·.2)=[assign (.Subscript (.Subscript (.Name x p') a q') b tpos) X.env]) zu2._auto_1):SS X (.Assign [.Subscript (.Subscript (.Name x p') a q') b tpos] e pos) (sTP j mi mk me):=by
 obtain⟨t,p,s⟩:=he
 obtain⟨ta,pa,sa⟩:=ha
 obtain⟨tb,pb,sb⟩:=hb
 refine⟨_,zmc p (pg_sub (zj8 ix_list (za6 hN hv hd hcd) pa hsa) pb zhL hq) hs hw h1,fun B G H σ ρ fl ρ' E I hm k=>?_⟩
 obtain⟨⟨d,ρ1⟩,e1,hm⟩:=zad hm
 obtain⟨va,e2,hm⟩:=zad hm
 obtain⟨vb,e3,hm⟩:=zad hm
 refine s B G H σ ρ d ρ1 _ I e1 fun G1 H1 v I1 f1 r1=>?_
 dsimp only at hm e2 e3
 obtain⟨n,rfl⟩:∃n,va= .int n:=by cases va<;>first|exact⟨_,rfl⟩|cases hm
 obtain⟨m,rfl⟩:∃m,vb= .int m:=by cases vb<;>first|exact⟨_,rfl⟩|cases hm
 obtain⟨cs,e4⟩:∃cs,ρ1[j]? =some (.tre (.lst cs)):=by
  cases e:ρ1[j]? with
  |none=>rw[e]at hm;cases hm
  |some s=>
   rw[e]at hm
   cases s with
   |tre t=>cases t with
    |lst cs=>exact⟨cs,rfl⟩
    |_=>cases hm
   |_=>cases hm
 rw[e4]at hm
 obtain⟨u,e5,hm⟩:=zad hm
 obtain⟨ds,e6⟩:∃ds,cs[u]? =some (.l ds):=by
  cases e:cs[u]? with
  |none=>rw[e]at hm;cases hm
  |some c=>
   rw[e]at hm
   cases c with
   |l ds=>exact⟨ds,rfl⟩
   |_=>cases hm
 rw[e6]at hm
 obtain⟨w,e7,hm⟩:=zad hm
 cases hm
 obtain⟨v0,A,q1,q2,q3,q4⟩:=I1.slot j _ e4
 have q2':=q2
 obtain⟨p,xs,A',rfl,g1,g2,rfl⟩:=q2
 obtain⟨y,A1,j1,⟨l,ys,rfl,j2,j3,j4⟩,j5⟩:=zc8 g2 e6
 have lA:l∈A':=j5 l (by rw[j4];simp)
 have nd:=List.nodup_cons.mp q3
 refine⟨.ref p,q1,sa B G1 H1 σ ρ1 _ _ I1 e2 fun v1 w1=>?_⟩
 refine⟨p,xs,n,.ref l,rfl,w1,SqL.of g1,ziH (by rw[zc3 g2];exact e5) j1,sb B G1 H1 σ ρ1 _ _ I1 e3 fun v2 w2=>?_⟩
 refine⟨l,ys,m,w,rfl,w2,j2,by rw[j3.length];exact e7,?_⟩
 have rep:RepT X.K G1 (upd H1 l (.lst (ys.set w v))) (.ref p) (.lst (cs.set u (.l (ds.set w d)))) (p::A'):=
  ⟨p,xs,A',rfl,by rw[zaq fun z=>nd.1 (by rw[z];exact lA)];exact g1,zg7 g2 nd.2 e6 j1 (j3.set w r1),rfl⟩
 refine k G1 _ σ (I1.chT2 e4 q1 q2' (I1.fz.right (q4 l (by simp[lA])).1 _) (fun b o nb h=>by rw[zaq (fun z=>nb (by rw[z];simp[lA]))];exact h) (fun b h=>?_) rep q3 fun a m=> .inl m) f1
 by_cases z:b=l
 ·subst z;rw[zat]at h;cases h
 ·rw[zaq z]at h;exact h
end
end M
namespace M
local macro_rules | `(tactic| ac_rfl) => `(tactic| first | exact M.nA (by decide) | exact M.nB (by decide) | exact M.nC (by decide) | exact M.nL (by assumption) | exact Nat.ne_of_lt (by assumption) | lia)
open L2 PySem PySem.Spec
open PyProof.Rows hiding St
open Sem (wp)
variable {a b u:Value} {Q E:Value->Shared->Prop} {i:Nat} {prog:Program} {w:World} {A:Around} {s:Shared} {tg:Expr} {K:W.Frag} {X:Cx} {p pos:Pos}
noncomputable abbrev zdW (h:Heap)(z TI TO:Addr)(f0:Value)(b:Bool):Prop:=h.get? z=some {cls:= .type "zip",data:= .fields #[f0,.bool b,.bool false,.ref TI,.ref TO]}
noncomputable def ZipAt (h:Heap)(z TI TO:Addr):Prop:=∃f0 b,zdW h z TI TO f0 b/\(f0= .none\/∃T:Nat,f0=rawInt T)
section
variable {prog:Program} {w:World} {A:Around} {E:Value->Shared->Prop} {s:Shared}
theorem zoi {a:Addr}{Q:Option Obj->Shared->Prop}(h:Q (s.heap.get? a) s):wpAny (model prog w) A (loadIfAlive a) Q E s:=fun Γ p hΓ=>by
 show Sem.wp _ _ (Sem.loadIfAlive a Sem.pure) _ _ p s
 rw[Sem.wp_loadIfAlive]
 exact(wpAny_pure (M:=model prog w) (A:=A) (E:=E) h) Γ p hΓ
theorem znQ {z TI TO:Addr}{f0:Value}{b:Bool}(hz:zdW s.heap z TI TO f0 b)(hf:f0= .none\/∃T:Nat,f0=rawInt T){Q:Bool->Shared->Prop}(h1:Q true s)
  (h2:∀h',zdW h' z TI TO f0 true->Heap.SameBut z s.heap h'->Q false {s with heap:=h'}):wpAny (model prog w) A (Builtin.SmallTypes.ownedTupleIsFree (.ref z)) Q E s:=by
 unfold Builtin.SmallTypes.ownedTupleIsFree
 refine wpAny_bind (wpAny_field hz rfl (x:=f0) rfl ?_)
 rcases hf with rfl|⟨T,rfl⟩
 ·exact wpAny_pure h1
 ·refine(?_:wpAny _ _ (loadIfAlive _>>=_) _ _ _)
  refine wpAny_bind (zoi ?_)
  cases e:s.heap.get? (T:Int).toNat with
  |none=>exact wpAny_pure h1
  |some o=>
   refine(?_:wpAny _ _ (field (.ref z) 1>>=_) _ _ _)
   refine wpAny_bind (wpAny_field hz rfl (x:= .bool b) rfl ?_)
   cases b
   ·refine(?_:wpAny _ _ (setField (.ref z) 1 (.bool true)>>=_) _ _ _)
    exact wpAny_bind (wpAny_setField_rec hz (by simp) fun g1 z1 s1=>wpAny_pure (h2 g1 z1 s1))
   ·exact wpAny_pure (h2 s.heap hz ⟨rfl,fun _ _=>rfl⟩)
variable {N a1 a2:Nat} {n1 n2:Nat} {P1 P2:Nat->Value->Prop} {S1 S2:Nat->Heap->Prop}
theorem zmD (D1:Draws prog w A N [N,a1] n1 P1 S1)(D2:Draws prog w A (N+1) [N+1,a2] n2 P2 S2)(l1:a1<N)(l2:a2<N)
  (hz':ZipAt s.heap (N+4) (N+2) (N+3)) (hTI:IsPair s.heap (N+2) (.ref N) (.ref (N+1))) (hTO:IsPair s.heap (N+3) a b) (h1:S1 i s.heap) (h2:S2 i s.heap) (i1:i<n1) (i2:i<n2)
  (k : ∀ x y h' tk, P1 i x -> P2 i y -> ZipAt h' (N + 4) (N + 2) (N + 3) -> (∃ a b, IsPair h' (N + 3) a b) -> S1 (i + 1) h' -> S2 (i + 1) h' -> IsPair h' s.heap.objs.size x y ->
   (∀c o,c≠N->c≠N+1->c≠N+3->c≠N+4->s.heap.get? c=some o->h'.get? c=some o)->Q (.ref s.heap.objs.size) {s with heap:=h',toks:=tk}):
  wpAny (model prog w) A (Builtin.«zip.__next__» ⟨[.ref (N+4)],[]⟩) (fun fin s'=>∃v,fin= .done (.ret v)/\Q v s') E s:=by
 obtain⟨f0,bb,hz,hf⟩:=hz'
 refine(?_:wpAny _ _ (field (.ref (N+4)) 2>>=_) _ _ _)
 refine wpAny_bind (wpAny_field hz rfl (x:= .bool false) rfl (?_:wpAny _ _ (field (.ref (N+4)) 3>>=_) _ _ _))
 refine wpAny_bind (wpAny_field hz rfl (x:= .ref (N+2)) rfl (wpAny_bind (wpAny_seqItems hTI rfl (?_:wpAny _ _ (Builtin.SmallTypes.ownedTupleIsFree (.ref (N+4))>>=_) _ _ _))))
 refine wpAny_bind (znQ hz hf ?_ fun g0 z0 s0=>?_)
 ·simp only[if_true]
  refine wpAny_bind (wpAny_rule (wpAny_bind (wpAny_field hz rfl (x:= .ref (N+3)) rfl (wpAny_bind (wpAny_setField_rec hz (by simp) fun g1 z1 s1=>wpAny_bind ?_)))))
  replace z1:zdW g1 (N+4) (N+2) (N+3) .ellipsis bb:=z1
  simp only[List.zipIdx_cons,List.zipIdx_nil,List.forIn_cons,List.forIn_nil]
  refine wpAny_bind (wpAny_bind (wpAny_onRaise (?_:wpAny _ _ (Builtin.SmallTypes.nextOf (.ref N)>>=_) _ _ _)))
  have e1:S1 i g1:=D1.frame _ _ _ h1 fun b hb o e=>(s1.2 b (nin2 hb (by ac_rfl) (by ac_rfl))).trans e
  refine wpAny_bind (D1.item i _ _ _ i1 e1 fun x g2 t2 p1 f2 s2=>wpAny_pure ?_)
  have q2:IsPair g2 (N+3) a b:=(s2.2 _ (ne_ (by ac_rfl))).trans ((s1.2 _ (ne_ (by ac_rfl))).trans hTO)
  refine wpAny_bind (wpAny_seqItems q2 rfl (wpAny_bind (wpAny_updateSeq_pair q2 fun g3 q3 s3=>wpAny_bind (wpAny_letGo (wpAny_pure ?_)))))
  replace q3:IsPair g3 (N+3) x b:=q3
  refine wpAny_bind (wpAny_bind (wpAny_onRaise (?_:wpAny _ _ (Builtin.SmallTypes.nextOf (.ref (N+1))>>=_) _ _ _)))
  have e3:S2 i g3:=D2.frame _ _ _ h2 fun b hb o e=>(s3.2 b (nin2 hb (by ac_rfl) (by ac_rfl))).trans ((s2.2 b (nin2 hb (by ac_rfl) (by ac_rfl))).trans ((s1.2 b (nin2 hb (by ac_rfl) (by ac_rfl))).trans e))
  refine wpAny_bind (D2.item i _ _ _ i2 e3 fun y g4 t4 p2 f4 s4=>wpAny_pure ?_)
  have q4:IsPair g4 (N+3) x b:=(s4.2 _ (ne_ (by ac_rfl))).trans q3
  refine wpAny_bind (wpAny_seqItems q4 rfl (wpAny_bind (wpAny_updateSeq_pair q4 fun g5 q5 s5=>wpAny_bind (wpAny_letGo (wpAny_pure (wpAny_pure ?_))))))
  replace q5:IsPair g5 (N+3) x y:=q5
  have sz:g5.objs.size=s.heap.objs.size:=by rw[s5.1,s4.1,s3.1,s2.1,s1.1]
  have z5:zdW g5 (N+4) (N+2) (N+3) .ellipsis bb:=(s5.2 _ (ne_ (by ac_rfl))).trans ((s4.2 _ (ne_ (by ac_rfl))).trans ((s3.2 _ (ne_ (by ac_rfl))).trans ((s2.2 _ (ne_ (by ac_rfl))).trans z1)))
  have zl:(N+4:Nat)<g5.objs.size:=Heap.lt_size z5
  have k5:∀c o,c≠N->c≠N+1->c≠N+3->c≠N+4->s.heap.get? c=some o->g5.get? c=some o:=fun c o c1 c2 c3 c4 e=>(s5.2 c c3).trans ((s4.2 c c2).trans ((s3.2 c c3).trans ((s2.2 c c1).trans ((s1.2 c c4).trans e))))
  have f5:S1 (i+1) g5:=D1.frame _ _ _ f2 fun b hb o e=>(s5.2 b (nin2 hb (by ac_rfl) (by ac_rfl))).trans ((s4.2 b (nin2 hb (by ac_rfl) (by ac_rfl))).trans ((s3.2 b (nin2 hb (by ac_rfl) (by ac_rfl))).trans e))
  have f5':S2 (i+1) g5:=D2.frame _ _ _ f4 fun b hb o e=>(s5.2 b (nin2 hb (by ac_rfl) (by ac_rfl))).trans e
  refine wpAny_bind (wpAny_seqItems q5 rfl (wpAny_bind (wpAny_newTuple (?_:wpAny _ _ (Builtin.SmallTypes.ownedTupleHandOut (.ref (N+4)) (.ref g5.objs.size)>>=_) _ _ _))))
  refine wpAny_bind ?_
  unfold Builtin.SmallTypes.ownedTupleHandOut
  refine wpAny_bind (wpAny_setField_rec (show zdW (g5.push {cls:= .type "tuple",data:= .seq #[x,y]}) (N+4) (N+2) (N+3) .ellipsis bb from Heap.get?_push_of_some _ z5) (by simp) fun g7 z7 s7=>?_)
  replace z7:zdW g7 (N+4) (N+2) (N+3) (rawInt g5.objs.size) bb:=z7
  refine wpAny_setField_rec z7 (by simp) fun g8 z8 s8=>wpAny_pure ⟨_,rfl,?_⟩
  replace z8:zdW g8 (N+4) (N+2) (N+3) (rawInt g5.objs.size) false:=z8
  have up:∀c o,c≠N+4->g5.get? c=some o->g8.get? c=some o:=fun c o c1 e=>(s8.2 c c1).trans ((s7.2 c c1).trans (Heap.get?_push_of_some _ e))
  have T8:IsPair g8 g5.objs.size x y:=(s8.2 _ (ne_ (by ac_rfl))).trans ((s7.2 _ (ne_ (by ac_rfl))).trans (Heap.get?_push_size _ rfl))
  rw[sz]at z8 T8
  refine(?_:Q (.ref g5.objs.size) _)
  rw[sz]
  exact k x y g8 _ p1 p2 ⟨_,_,z8,.inr ⟨_,rfl⟩⟩ ⟨_,_,up _ _ (ne_ (by ac_rfl)) q5⟩ (D1.frame _ _ _ f5 fun b hb o e=>up b o (nin2 hb (by ac_rfl) (by ac_rfl)) e) (D2.frame _ _ _ f5' fun b hb o e=>up b o (nin2 hb (by ac_rfl) (by ac_rfl)) e) T8 fun c o c1 c2 c3 c4 e=>up c o c4 (k5 c o c1 c2 c3 c4 e)
 ·simp only[Bool.false_eq_true,if_false]
  simp only[List.forIn_toArray,List.forIn_cons,List.forIn_nil]
  have e0:S1 i g0:=D1.frame _ _ _ h1 fun b hb o e=>(s0.2 b (nin2 hb (by ac_rfl) (by ac_rfl))).trans e
  refine wpAny_bind (wpAny_bind (wpAny_bind (wpAny_holding (?_:wpAny _ _ (Builtin.SmallTypes.nextOf (.ref N)>>=_) _ _ _))))
  refine wpAny_bind (D1.item i _ _ _ i1 e0 fun x g2 t2 p1 f2 s2=>wpAny_pure (wpAny_pure ?_))
  refine wpAny_bind (wpAny_bind (wpAny_holding (?_:wpAny _ _ (Builtin.SmallTypes.nextOf (.ref (N+1))>>=_) _ _ _)))
  have e3:S2 i g2:=D2.frame _ _ _ h2 fun b hb o e=>(s2.2 b (nin2 hb (by ac_rfl) (by ac_rfl))).trans ((s0.2 b (nin2 hb (by ac_rfl) (by ac_rfl))).trans e)
  refine wpAny_bind (D2.item i _ _ _ i2 e3 fun y g4 t4 p2 f4 s4=>wpAny_pure (wpAny_pure (wpAny_pure ?_)))
  have sz:g4.objs.size=s.heap.objs.size:=by rw[s4.1,s2.1,s0.1]
  have z4:zdW g4 (N+4) (N+2) (N+3) f0 true:=(s4.2 _ (ne_ (by ac_rfl))).trans ((s2.2 _ (ne_ (by ac_rfl))).trans z0)
  have f4':S1 (i+1) g4:=D1.frame _ _ _ f2 fun b hb o e=>(s4.2 b (nin2 hb (by ac_rfl) (by ac_rfl))).trans e
  refine(?_:wpAny _ _ (newTuple [x,y]>>=_) _ _ _)
  refine wpAny_bind (wpAny_newTuple (wpAny_pure ⟨_,rfl,?_⟩))
  have k5:∀c o,c≠N->c≠N+1->c≠N+3->c≠N+4->s.heap.get? c=some o->g4.get? c=some o:=fun c o c1 c2 c3 c4 e=>(s4.2 c c2).trans ((s2.2 c c1).trans ((s0.2 c c4).trans e))
  have q4:IsPair g4 (N+3) a b:=(s4.2 _ (ne_ (by ac_rfl))).trans ((s2.2 _ (ne_ (by ac_rfl))).trans ((s0.2 _ (ne_ (by ac_rfl))).trans hTO))
  have T8:IsPair (g4.push {cls:= .type "tuple",data:= .seq #[x,y]}) g4.objs.size x y:=Heap.get?_push_size _ rfl
  rw[sz]at T8
  refine(?_:Q (.ref g4.objs.size) _)
  rw[sz]
  exact k x y _ _ p1 p2 ⟨_,_,Heap.get?_push_of_some _ z4,hf⟩ ⟨_,_,Heap.get?_push_of_some _ q4⟩ (D1.frame _ _ _ f4' fun b hb o e=>Heap.get?_push_of_some _ e) (D2.frame _ _ _ f4 fun b hb o e=>Heap.get?_push_of_some _ e) T8 fun c o c1 c2 c3 c4 e=>Heap.get?_push_of_some _ (k5 c o c1 c2 c3 c4 e)
theorem zoM {Q:Fin->Shared->Prop}(D1:Draws prog w A N [N,a1] n1 P1 S1)(D2:Draws prog w A (N+1) [N+1,a2] n2 P2 S2)(l1:a1<N)(l2:a2<N)
  (hz':ZipAt s.heap (N+4) (N+2) (N+3)) (hTI:IsPair s.heap (N+2) (.ref N) (.ref (N+1))) (hTO:IsPair s.heap (N+3) a b) (h1:S1 i s.heap) (h2:S2 i s.heap) (hi:i=n1\/(i<n1/\i=n2))
  (k:∀h' e tk,(∀c o,c≠N->c≠N+1->c≠N+3->c≠N+4->s.heap.get? c=some o->h'.get? c=some o)->(∃o,h'.get? e=some o/\o.cls= .type "StopIteration")->E (.ref e) {s with heap:=h',toks:=tk}):
  wpAny (model prog w) A (Builtin.«zip.__next__» ⟨[.ref (N+4)],[]⟩) Q E s:=by
 obtain⟨f0,bb,hz,hf⟩:=hz'
 refine(?_:wpAny _ _ (field (.ref (N+4)) 2>>=_) _ _ _)
 refine wpAny_bind (wpAny_field hz rfl (x:= .bool false) rfl (?_:wpAny _ _ (field (.ref (N+4)) 3>>=_) _ _ _))
 refine wpAny_bind (wpAny_field hz rfl (x:= .ref (N+2)) rfl (wpAny_bind (wpAny_seqItems hTI rfl (?_:wpAny _ _ (Builtin.SmallTypes.ownedTupleIsFree (.ref (N+4))>>=_) _ _ _))))
 refine wpAny_bind (znQ hz hf ?_ fun g0 z0 s0=>?_)
 ·simp only[if_true]
  refine wpAny_bind (wpAny_rule (wpAny_bind (wpAny_field hz rfl (x:= .ref (N+3)) rfl (wpAny_bind (wpAny_setField_rec hz (by simp) fun g1 z1 s1=>wpAny_bind ?_)))))
  replace z1:zdW g1 (N+4) (N+2) (N+3) .ellipsis bb:=z1
  simp only[List.zipIdx_cons,List.zipIdx_nil,List.forIn_cons,List.forIn_nil]
  refine wpAny_bind (wpAny_bind (wpAny_onRaise (?_:wpAny _ _ (Builtin.SmallTypes.nextOf (.ref N)>>=_) _ _ _)))
  have e1:S1 i g1:=D1.frame _ _ _ h1 fun b hb o e=>(s1.2 b (nin2 hb (by ac_rfl) (by ac_rfl))).trans e
  rcases hi with rfl|⟨i1,rfl⟩
  ·refine wpAny_bind (D1.done _ _ _ e1 fun g2 e x2 he=>?_)
   obtain⟨oe,hoe,hce⟩:=he
   have z2:zdW g2 (N+4) (N+2) (N+3) .ellipsis bb:=x2 _ _ (ne_ (by ac_rfl)) z1
   have hez:e≠N+4:=fun x=>by subst x;rw[z2]at hoe;cases hoe;simp at hce
   exact wpAny_setField_rec z2 (by simp) fun g3 _ s3=>k g3 e _ (fun c o c1 c2 c3 c4 x=>(s3.2 c c4).trans (x2 c o c1 ((s1.2 c c4).trans x))) ⟨oe,(s3.2 _ hez).trans hoe,hce⟩
  ·refine wpAny_bind (D1.item i _ _ _ i1 e1 fun x g2 t2 p1 f2 s2=>wpAny_pure ?_)
   have q2:IsPair g2 (N+3) a b:=(s2.2 _ (ne_ (by ac_rfl))).trans ((s1.2 _ (ne_ (by ac_rfl))).trans hTO)
   refine wpAny_bind (wpAny_seqItems q2 rfl (wpAny_bind (wpAny_updateSeq_pair q2 fun g3 q3 s3=>wpAny_bind (wpAny_letGo (wpAny_pure ?_)))))
   replace q3:IsPair g3 (N+3) x b:=q3
   refine wpAny_bind (wpAny_bind (wpAny_onRaise (?_:wpAny _ _ (Builtin.SmallTypes.nextOf (.ref (N+1))>>=_) _ _ _)))
   have e3:S2 i g3:=D2.frame _ _ _ h2 fun b hb o e=>(s3.2 b (nin2 hb (by ac_rfl) (by ac_rfl))).trans ((s2.2 b (nin2 hb (by ac_rfl) (by ac_rfl))).trans ((s1.2 b (nin2 hb (by ac_rfl) (by ac_rfl))).trans e))
   refine wpAny_bind (D2.done _ _ _ e3 fun g4 e x4 he=>?_)
   obtain⟨oe,hoe,hce⟩:=he
   have z3:zdW g3 (N+4) (N+2) (N+3) .ellipsis bb:=(s3.2 _ (ne_ (by ac_rfl))).trans ((s2.2 _ (ne_ (by ac_rfl))).trans z1)
   have z4:zdW g4 (N+4) (N+2) (N+3) .ellipsis bb:=x4 _ _ (ne_ (by ac_rfl)) z3
   have hez:e≠N+4:=fun x=>by subst x;rw[z4]at hoe;cases hoe;simp at hce
   exact wpAny_setField_rec z4 (by simp) fun g5 _ s5=>k g5 e _ (fun c o c1 c2 c3 c4 x=>(s5.2 c c4).trans (x4 c o c2 ((s3.2 c c3).trans ((s2.2 c c1).trans ((s1.2 c c4).trans x))))) ⟨oe,(s5.2 _ hez).trans hoe,hce⟩
 ·simp only[Bool.false_eq_true,if_false,List.forIn_toArray,List.forIn_cons,List.forIn_nil]
  have e0:S1 i g0:=D1.frame _ _ _ h1 fun b hb o e=>(s0.2 b (nin2 hb (by ac_rfl) (by ac_rfl))).trans e
  refine wpAny_bind (wpAny_bind (wpAny_bind (wpAny_holding (?_:wpAny _ _ (Builtin.SmallTypes.nextOf (.ref N)>>=_) _ _ _))))
  rcases hi with rfl|⟨i1,rfl⟩
  ·refine wpAny_bind (D1.done _ _ _ e0 fun g2 e x2 he=>?_)
   exact k g2 e _ (fun c o c1 c2 c3 c4 x=>x2 c o c1 ((s0.2 c c4).trans x)) he
  ·refine wpAny_bind (D1.item i _ _ _ i1 e0 fun x g2 t2 p1 f2 s2=>wpAny_pure (wpAny_pure ?_))
   refine wpAny_bind (wpAny_bind (wpAny_holding (?_:wpAny _ _ (Builtin.SmallTypes.nextOf (.ref (N+1))>>=_) _ _ _)))
   have e3:S2 i g2:=D2.frame _ _ _ h2 fun b hb o e=>(s2.2 b (nin2 hb (by ac_rfl) (by ac_rfl))).trans ((s0.2 b (nin2 hb (by ac_rfl) (by ac_rfl))).trans e)
   refine wpAny_bind (D2.done _ _ _ e3 fun g4 e x4 he=>?_)
   exact k g4 e _ (fun c o c1 c2 c3 c4 x=>x4 c o c2 ((s2.2 c c1).trans ((s0.2 c c4).trans x))) he
end
theorem ZipAt.at {h h':Heap}{z TI TO:Addr}(x:ZipAt h z TI TO)(e:∀o,h.get? z=some o->h'.get? z=some o):ZipAt h' z TI TO:=by
 obtain⟨f0,b,q,r⟩:=x
 exact⟨f0,b,e _ q,r⟩
theorem zkQ {z TI TO:Addr}(hz:ZipAt s.heap z TI TO)(h:Q (.ref z) s):wpAny (model prog w) A (pyIter (.ref z)) Q E s:=by
 obtain⟨f0,b,q,r⟩:=hz
 have hT:s.TypeIs (.ref z) "zip":=⟨_,q,rfl⟩
 exact wpAny_pyIter_slot hT F.slot_zip_iter (wpAny_call_entry F.slot_zip_iter hT F.entry_zip_iter (wpAny_pure ⟨.ref z,rfl,"zip",.builtin "zip.__next__",hT,F.slot_zip_next.lookup,h⟩) (F.args_zip_iter_1 (.ref z)))
theorem letGoZ {z TI TO:Addr}{Q:Unit->Shared->Prop}(hz:ZipAt s.heap z TI TO)(h1:Q () s)
  (h2:∀h',ZipAt h' z TI TO->Heap.SameBut z s.heap h'->Q () {s with heap:=h'}):wpAny (model prog w) A (letOwnedTupleGo tg (.ref z) u) Q E s:=by
 obtain⟨f0,b,q,r⟩:=hz
 have core:∀a:Addr,wpAny (model prog w) A (do
   let o<-load z
   match o.cls,o.data with
    |Value.type n,Data.fields vs=>
     if(["enumerate","zip","dict_itemiterator","dict_reverseitemiterator","odict_iterator","itertools.zip_longest","itertools.pairwise"].contains n&&vs[0]? ==some (rawInt ↑a))=true then do
      rule "for.unpacks-the-owned-tuple"
      updateField z 0 Value.none
     else pure ()
    |x,x_1=>pure ()) Q E s:=fun a=>by
  refine wpAny_bind (wpAny_load q ?_)
  dsimp only
  split
  ·refine wpAny_bind (wpAny_rule ?_)
   refine(?_:wpAny _ _ (setField (.ref z) 0 .none) _ _ _)
   exact wpAny_setField_rec q (by simp) fun g1 z1 s1=>h2 g1 ⟨_,_,z1,.inl rfl⟩ s1
  ·exact wpAny_pure h1
 unfold letOwnedTupleGo
 cases tg<;>first|exact wpAny_pure h1|(cases u<;>first|exact wpAny_pure h1|exact core _)
theorem zmm {P:Program}{w:World}(t1:Bool)(a1:Nat)(t2:Bool)(a2:Nat)(n N:Nat)(l1:a1<N)(l2:a2<N):
  Turn P w K tg (Itz2 K t1 a1 t2 a2 n) ([N,N+1,N+2,N+3,N+4]:List Nat) (N+4:Nat)
   (fun i h=>i<=n/\ZipAt h (N+4:Nat) (N+2:Nat) (N+3:Nat)/\IsPair h (N+2:Nat) (.ref N) (.ref (N+1:Nat))/\(∃a b,IsPair h (N+3:Nat) a b)/\SrcIt t1 h N a1 i/\SrcIt t2 h (N+1:Nat) a2 i) where
 mem:=by simp
 obj:=fun i h st b hb=>by
  obtain⟨-,h4,h2,⟨a,c,h3⟩,h0,h1⟩:=st
  simp only[List.mem_cons,List.not_mem_nil,or_false]at hb
  rcases hb with rfl|rfl|rfl|rfl|rfl
  ·exact h0.obj
  ·exact h1.obj
  ·exact⟨_,h2,fun v z=>by cases z⟩
  ·exact⟨_,h3,fun v z=>by cases z⟩
  ·obtain⟨f0,bb,z4,-⟩:=h4
   exact⟨_,z4,fun v z=>by cases z⟩
 keep:=fun i h h' st k=>by
  obtain⟨hi,h4,h2,⟨a,c,h3⟩,h0,h1⟩:=st
  exact⟨hi,h4.at fun o e=>k _ (by simp) o e,k _ (by simp) _ h2,⟨a,c,k _ (by simp) _ h3⟩,h0.at fun o e=>k _ (by simp) o e,h1.at fun o e=>k _ (by simp) o e⟩
 item:=by
  intro X hP hw hK hc i pins s σ H E I hf st hg
  subst hP hw hK
  obtain⟨hi,h4,h2,⟨a,c,h3⟩,h0,h1⟩:=st
  obtain⟨hn,xs,ys,q1,q2,en⟩:=hg
  obtain⟨us,ru,hu,zu⟩:=q1.heap I
  obtain⟨ws,rw',hw',zw⟩:=q2.heap I
  have lu:=ru.length
  have lw:=rw'.length
  have D1:=zbq (prog:=X.prog) (w:=X.w) (A:=X.A.in1) (t:=t1) (I.ok.hd hc) N a1 (ne_ (by ac_rfl)) us.toArray
  have D2:=zbq (prog:=X.prog) (w:=X.w) (A:=X.A.in1) (t:=t2) (I.ok.hd hc) (N+1) a2 (ne_ (by ac_rfl)) ws.toArray
  have z4:=h4
  obtain⟨f0,bb,z4,-⟩:=z4
  have hT:s.TypeIs (.ref (N+4:Nat)) "zip":=⟨_,z4,rfl⟩
  unfold pyNext
  refine wpAny_bind (wpAny_attempt (wpAny_callSpecial?_slot (name:=Str.ofString "__next__") hT F.slot_zip_next (wpAny_call_entry F.slot_zip_next hT F.entry_zip_next
   (zmD D1 D2 l1 l2 h4 h2 h3 ⟨h0,hu⟩ ⟨h1,hw'⟩ (by simp;lia) (by simp;lia) fun x y h' tk p1 p2 g4 g3 g0 g1 gT kk=>wpAny_pure ?_) (F.args_zip_next_1 _))))
  obtain⟨x1,hx1⟩:∃x1,xs[i]? =some x1:=⟨xs[i]'(by lia),List.getElem?_eq_getElem _⟩
  obtain⟨x2,hx2⟩:∃x2,ys[i]? =some x2:=⟨ys[i]'(by lia),List.getElem?_eq_getElem _⟩
  obtain⟨u1,hu1,r1⟩:=ru.get hx1
  obtain⟨u2,hu2,r2⟩:=rw'.get hx2
  have e1:u1=x:=by
   have:us[i]? =some x:=by simpa using p1
   rw[hu1]at this;cases this;rfl
  have e2:u2=y:=by
   have:ws[i]? =some y:=by simpa using p2
   rw[hu2]at this;cases this;rfl
  subst e1 e2
  refine⟨_,rfl,?_⟩
  have fin:∀h'',ZipAt h'' (N+4:Nat) (N+2:Nat) (N+3:Nat)->Heap.SameBut (N+4:Nat) h' h''->∃x H',L2.Inv X pins σ H' {s with heap:=h'',toks:=tk}/\RelV x (.ref s.heap.objs.size)/\(Itz2 X.K t1 a1 t2 a2 n).yld i H x H'/\(i+1<=n/\ZipAt h'' (N+4:Nat) (N+2:Nat) (N+3:Nat)/\IsPair h'' (N+2:Nat) (.ref N) (.ref (N+1:Nat))/\(∃a b,IsPair h'' (N+3:Nat) a b)/\SrcIt t1 h'' N a1 (i+1)/\SrcIt t2 h'' (N+1:Nat) a2 (i+1))/\∀b∈([N,N+1,N+2,N+3,N+4]:List Nat),H' b=none:=fun h'' z'' sb=>by
   have lz:N+4<s.heap.objs.size:=Heap.lt_size z4
   have kk':∀b o,b∉([N,N+1,N+2,N+3,N+4]:List Nat)->s.heap.get? b=some o->h''.get? b=some o:=fun b o hb e=>by
    obtain⟨c1,c2,c3,c4⟩:=nin4 hb
    exact(sb.2 b c4).trans (kk b o c1 c2 c3 c4 e)
   have I1:=zld (t':=tk) (vs:=[x1,x2]) (its:=[u1,u2]) I kk' hf (fun b hb=>by
    have:b=N\/b=N+1\/b=N+2\/b=N+3\/b=N+4:=by simpa using hb
    exact Nat.lt_of_le_of_lt (show(b:Nat)<=N+4 by rcases this with h|h|h|h|h<;>rw[h]<;>simp) lz) ((sb.2 _ (ne_ (by ac_rfl))).trans gT) (by simp;rw[sizeLine_eq];decide) (.cons r1 (.cons r2 .nil))
   refine⟨.ref s.heap.objs.size,_,I1,rfl,⟨_,x1,x2,I.hok.fresh (Nat.le_refl _),rfl,rfl,fun xs' ys' b1 b2=>?_⟩,⟨hn,z'',(sb.2 _ (ne_ (by ac_rfl))).trans (kk _ _ (ne_ (by ac_rfl)) (ne_ (by ac_rfl)) (ne_ (by ac_rfl)) (ne_ (by ac_rfl)) h2),(let⟨a',b',e'⟩:=g3;⟨a',b',(sb.2 _ (ne_ (by ac_rfl))).trans e'⟩),SrcIt.at g0.1 fun o e=>(sb.2 _ (ne_ (by ac_rfl))).trans e,SrcIt.at g1.1 fun o e=>(sb.2 _ (ne_ (by ac_rfl))).trans e⟩,fun b hb=>?_⟩
   ·rw[SrcSq.inj I b1 q1,SrcSq.inj I b2 q2]
    exact⟨hx1,hx2⟩
   ·have:b=N\/b=N+1\/b=N+2\/b=N+3\/b=N+4:=by simpa using hb
    rw[zaq (Nat.ne_of_lt (Nat.lt_of_le_of_lt (show(b:Nat)<=N+4 by rcases this with h|h|h|h|h<;>rw[h]<;>simp) lz))]
    exact(hf b hb).1
  exact letGoZ (s:={s with heap:=h',toks:=tk}) g4 (fin h' g4 ⟨rfl,fun _ _=>rfl⟩) fun h'' z'' sb=>fin h'' z'' sb
 done:=by
  intro X hP hw hK hc i pins s σ H E I hf st hg
  subst hP hw hK
  obtain⟨hi,h4,h2,⟨a,c,h3⟩,h0,h1⟩:=st
  obtain⟨hn,xs,ys,q1,q2,en⟩:=hg
  obtain⟨us,ru,hu,zu⟩:=q1.heap I
  obtain⟨ws,rw',hw',zw⟩:=q2.heap I
  have lu:=ru.length
  have lw:=rw'.length
  have D1:=zbq (prog:=X.prog) (w:=X.w) (A:=X.A.in1) (t:=t1) (I.ok.hd hc) N a1 (ne_ (by ac_rfl)) us.toArray
  have D2:=zbq (prog:=X.prog) (w:=X.w) (A:=X.A.in1) (t:=t2) (I.ok.hd hc) (N+1) a2 (ne_ (by ac_rfl)) ws.toArray
  have z4:=h4
  obtain⟨f0,bb,z4,-⟩:=z4
  have hT:s.TypeIs (.ref (N+4:Nat)) "zip":=⟨_,z4,rfl⟩
  unfold pyNext
  refine wpAny_bind (wpAny_attempt (wpAny_callSpecial?_slot (name:=Str.ofString "__next__") hT F.slot_zip_next (wpAny_call_entry F.slot_zip_next hT F.entry_zip_next
   (zoM D1 D2 l1 l2 h4 h2 h3 ⟨h0,hu⟩ ⟨h1,hw'⟩ (by simp;lia) fun h' e tk kk he=>?_) (F.args_zip_next_1 _))))
  obtain⟨o,ho,hce⟩:=he
  refine wpAny_bind (wpAny_isInstance (T:="StopIteration") (b:=true) ⟨o,ho,hce⟩ isSubtype_stop (wpAny_pure ⟨rfl,zjm I (fun b o hb e=>?_) hf⟩))
  obtain⟨c1,c2,c3,c4⟩:=nin4 hb
  exact kk b o c1 c2 c3 c4 e
 self:=fun _ _ _ _ _ st h=>zkQ st.2.1 h
theorem pi_zip2N {a b:Expr}{ta:TA}(hg:Gl X "zip")(hm:X.mg "zip"=none)(ha:PA X [a,b] ta)(hs:autoParam (starEach [a,b] X.env=(false,eval a X.env)::starEach [b] X.env) zu2._auto_1)(hs2:autoParam ((backTo pos (starEach [b] X.env)).any (·.1)=false) zu2._auto_1):
  PI X tg (.Call (.Name "zip" p) [a,b] [] pos) (fun σ H R=>ta σ H fun vs H1=>∃t1 a1 xs t2 a2 ys,vs=[.ref a1,.ref a2]/\SrcSq t1 X.K H1 a1 xs/\SrcSq t2 X.K H1 a2 ys/\R (Itz2 X.K t1 a1 t2 a2 (min xs.length ys.length)) H1):=by
 intro pins s σ H R I h
 refine Call_ (ziK I hg hm zli (PyProof.Rows.callWith_type1 (thn (ha pos pins s σ H _ I h) fun us s1 ⟨vs,H1,I1,r1,q1⟩=>?_) hs hs2))
 obtain⟨t1,a1,xs,t2,a2,ys,e,q1,q2,q⟩:=q1
 subst e
 cases r1 with
 |cons r rr=>
  cases rr with
  |cons r' rr=>
   cases rr
   cases r
   cases r'
   obtain⟨us,ru,hu,-⟩:=q1.heap I1
   obtain⟨ws,rw',hw',-⟩:=q2.heap I1
   refine zol hu hw' fun h' g4 g2 g3 g0 g1 kk=>wpAny_pyIter_zip g4 ⟨_,_,_,_,H1,rfl,I1.kept (t':=s1.toks) kk,zmm t1 a1 t2 a2 (min xs.length ys.length) s1.heap.objs.size hu.lt hw'.lt,⟨Nat.zero_le _,⟨_,_,g4,.inl rfl⟩,g2,⟨_,_,g3⟩,g0,g1⟩,fun b hb=>?_,q⟩
   have:b=s1.heap.objs.size\/b=s1.heap.objs.size+1\/b=s1.heap.objs.size+2\/b=s1.heap.objs.size+3\/b=s1.heap.objs.size+4:=by simpa using hb
   have le:s1.heap.objs.size<=b:=by rcases this with h|h|h|h|h<;>rw[h]<;>simp
   exact I1.fpOk le (I1.hok.fresh le)
theorem it_zip2N {a b:Expr}{ma:MA}(hm:X.mg "zip"=none)(ha:SA X [a,b] ma)(hg:autoParam (Gl X "zip") zu2._auto_1)(hs:autoParam (starEach [a,b] X.env=(false,eval a X.env)::starEach [b] X.env) zu2._auto_1)(hs2:autoParam ((backTo pos (starEach [b] X.env)).any (·.1)=false) zu2._auto_1):
  SIt X tg (.Call (.Name "zip" p) [a,b] [] pos) (iZ2 ma):=by
 obtain⟨t,pa,sa⟩:=ha
 refine⟨_,pi_zip2N hg hm pa hs hs2,fun B G H σ ρ ds ρ' Q I hm k=>?_⟩
 obtain⟨⟨es,ρ1⟩,e1,h2⟩:=zad hm
 dsimp only at h2
 refine sa B G H σ ρ es ρ1 _ I e1 fun G1 H1 vs I1 f1 r1=>?_
 split at h2
 ·obtain⟨xs,ex,h2⟩:=zad h2
  obtain⟨ys,ey,h2⟩:=zad h2
  cases h2
  obtain⟨x,y,rfl,rx,ry⟩:=r1.two
  obtain⟨t1,a1,us,rfl,s1,c1⟩:=ziG rx ex
  obtain⟨t2,a2,ws,rfl,s2,c2⟩:=ziG ry ey
  have n1:=c1.length
  have n2:=c2.length
  refine⟨t1,a1,us,t2,a2,ws,rfl,s1 _ I1.fz,s2 _ I1.fz,k _ G1 H1 I1 f1 ⟨fun H i f hi=>?_,fun H i x H' f y d e=>?_,fun H i f hi=>?_⟩⟩
  ·exact⟨by simp[zk1]at hi;lia,us,ws,s1 _ f,s2 _ f,rfl⟩
  ·obtain⟨p,x1,x2,hp,eh,ex',q⟩:=y
   obtain⟨q1,q2⟩:=q us ws (s1 _ f) (s2 _ f)
   simp only[zk1,List.getElem?_zipWith]at e
   split at e
   ·rename_i d1 d2 g1 g2
    cases e
    obtain⟨v1,b1,r1⟩:=c1.get g1
    obtain⟨v2,b2,r2⟩:=c2.get g2
    rw[q1]at b1;cases b1
    rw[q2]at b2;cases b2
    exact .inr ⟨p,_,_,hp,eh,ex',rfl,⟨_,_,rfl,r1,_,_,rfl,r2,rfl⟩⟩
   ·cases e
  ·exact⟨by simp[zk1]at hi;lia,us,ws,s1 _ f,s2 _ f,rfl⟩
 ·cases h2
end M
namespace M
open L2 PySem PySem.Spec
open PyProof.Rows hiding St
theorem ndk {l:List Str}(h:autoParam (decide l.Nodup=true) zu11._auto_1):l.Nodup:=of_decide_eq_true h
theorem us_0 {p:List Value->Prop}(h:p []):∀us:List Value,us.length=0->p us:=fun us e=>by
 cases us with
 |nil=>exact h
 |cons=>cases e
theorem us_s {p:List Value->Prop}{n:Nat}(h:∀(a:Value) (us:List Value),us.length=n->p (a::us)):∀us:List Value,us.length=n+1->p us:=fun us e=>by
 cases us with
 |nil=>cases e
 |cons a us=>exact h a us (Nat.succ.inj e)
section
variable {P:Program} {w:World} {K:W.Frag} {mg:Str->Option Value} {base hp:Heap} {x:Str} {st:Stmt} {f:Addr}
noncomputable def FnAt (K:W.Frag)(x:Str)(st:Stmt):Prop:=∃f fd,W.nsIn K mainGlobals x=some (some (.ref f))/\Fun K x x st f fd
theorem FnAt.mk {oc:Value}{od an:Option Addr}{osl:Array (Option Value)}{kV doc pm cdv ct:Value}(a:W.nsIn K mainGlobals x=some (some (.ref f)))(l:K.lookup f=some ⟨oc,od,.func (W.fnOf x x (ze3 st) (zcl st) (zaG st) .none kV doc pm an cdv ct),osl⟩)
  (c:W.codeIn K cdv x=true) (k:W.keepIn K (.ref f)=true):FnAt K x st:=⟨f,_,a,fun_mk l c k⟩
noncomputable abbrev BindsAt (x:Str)(st:Stmt)(ps:List Str):Prop:=∀(kV doc pm:Value) (an:Option Addr) (cdv ct:Value) (us:List Value),us.length=ps.length->bindArgs (W.fnOf x x (ze3 st) (zcl st) (zaG st) .none kV doc pm an cdv ct) ⟨us,[]⟩=pure (ps.zip us)
theorem FnAt.law (h:FnAt K x st)(X:K.In hp)(G:hp.Ns mainGlobals mg)(hf:mg x=some (.ref f)):∃kV doc pm an cdv ct,Fun K x x st f (W.fnOf x x (ze3 st) (zcl st) (zaG st) .none kV doc pm an cdv ct):=by
 obtain⟨f',fd,a,T⟩:=h
 have e:=hf.symm.trans (W.mg_of X G a)
 cases e
 obtain⟨oc,od,kV,doc,pm,an,cdv,ct,osl,rfl,lk,hcd⟩:=id T.ex
 exact⟨kV,doc,pm,an,cdv,ct,T⟩
variable {N:List Str} {k n:Nat} {m:MS}
noncomputable abbrev Bd (P:Program)(w:World)(K:W.Frag)(mg:Str->Option Value)(base:Heap)(x:Str)(st:Stmt)(N:List Str)(k:Nat)(m:MS):Prop:=∀(f:Addr) (cdv:Value) (A:Around) (outer:List Env) (s:Shared) (H:Hp) (E:XK),Room k (A.deeper (PyProof.Rows.envOfC x (zaG st) s.heap.objs.size f cdv))->N.Nodup->SSs (cxOf CX0 P w K mg base N x (zaG st) f cdv A outer s H E).nox (zcl st) m
structure DefOk (x:Str) (st:Stmt) (N:List Str) (n:Nat):Prop where
 sc:FnScope N (N.take n) (zaG st)
 len:(N.take n).length=n
 le:n<=N.length
 bs:BindsAt x st (N.take n)
theorem lawP {fd:FuncData}(F:Fun K x x st f fd)(b:Bd P w K mg base x st N k m)(d:DefOk x st N n:=by exact⟨⟨rfl,rfl,rfl,by decide+kernel,rfl,by decide+kernel,by decide+kernel⟩,rfl,by decide,fun _ _ _ _ _ _=>by first|exact us_s fun _=>us_0 rfl|exact us_s fun _=>us_s fun _=>us_0 rfl|exact us_s fun _=>us_s fun _=>us_s fun _=>us_0 rfl|exact us_s fun _=>us_s fun _=>us_s fun _=>us_s fun _=>us_0 rfl|exact us_0 rfl|exact us_s fun _=>us_s fun _=>us_s fun _=>us_s fun _=>us_s fun _=>us_0 rfl⟩):FnOk P w K mg base CX0 (k+1) f fd (N.take n) (spP K n (fP N.length m)):=fnP_ok F d.sc d.len d.le fun cdv A outer s H E hr=>b _ cdv A outer s H E hr d.sc.nd
theorem fdP (X:K.In hp)(G:hp.Ns mainGlobals mg)(h:FnAt K x st)(b:Bd P w K mg base x st N k m)(d:DefOk x st N n:=by exact⟨⟨rfl,rfl,rfl,by decide+kernel,rfl,by decide+kernel,by decide+kernel⟩,rfl,by decide,fun _ _ _ _ _ _=>by first|exact us_s fun _=>us_0 rfl|exact us_s fun _=>us_s fun _=>us_0 rfl|exact us_s fun _=>us_s fun _=>us_s fun _=>us_0 rfl|exact us_s fun _=>us_s fun _=>us_s fun _=>us_s fun _=>us_0 rfl|exact us_0 rfl|exact us_s fun _=>us_s fun _=>us_s fun _=>us_s fun _=>us_s fun _=>us_0 rfl⟩):FD P w K mg base (k+1) x (spP K n (fP N.length m)):=
 let⟨f,fd,a,T⟩:=h
 ⟨⟨f,fd,_,fnP_ok T d.sc d.len d.le fun cdv A outer s H E hr=>b _ cdv A outer s H E hr d.sc.nd,W.mg_of X G a,T.kp,T.binds d.bs⟩⟩
theorem fdM (X:K.In hp)(G:hp.Ns mainGlobals mg)(h:FnAt K x st)(b:Bd P w K mg base x st N k m)(d:DefOk x st N n:=by exact⟨⟨rfl,rfl,rfl,by decide+kernel,rfl,by decide+kernel,by decide+kernel⟩,rfl,by decide,fun _ _ _ _ _ _=>by first|exact us_s fun _=>us_0 rfl|exact us_s fun _=>us_s fun _=>us_0 rfl|exact us_s fun _=>us_s fun _=>us_s fun _=>us_0 rfl|exact us_s fun _=>us_s fun _=>us_s fun _=>us_s fun _=>us_0 rfl|exact us_0 rfl|exact us_s fun _=>us_s fun _=>us_s fun _=>us_s fun _=>us_s fun _=>us_0 rfl⟩):FD P w K mg base (k+1) x (spM K n (fM N.length m)):=
 let⟨f,fd,a,T⟩:=h
 ⟨⟨f,fd,_,fnM_ok T d.sc d.len d.le fun cdv A outer s H E hr=>b _ cdv A outer s H E hr d.sc.nd,W.mg_of X G a,T.kp,T.binds d.bs⟩⟩
theorem fdMT (X:K.In hp)(G:hp.Ns mainGlobals mg)(h:FnAt K x st)(b:Bd P w K mg base x st N k m)(d:DefOk x st N n:=by exact⟨⟨rfl,rfl,rfl,by decide+kernel,rfl,by decide+kernel,by decide+kernel⟩,rfl,by decide,fun _ _ _ _ _ _=>by first|exact us_s fun _=>us_0 rfl|exact us_s fun _=>us_s fun _=>us_0 rfl|exact us_s fun _=>us_s fun _=>us_s fun _=>us_0 rfl|exact us_s fun _=>us_s fun _=>us_s fun _=>us_s fun _=>us_0 rfl|exact us_0 rfl|exact us_s fun _=>us_s fun _=>us_s fun _=>us_s fun _=>us_s fun _=>us_0 rfl⟩):FD P w K mg base (k+1) x (spMT K n (fMT N.length m)):=
 let⟨f,fd,a,T⟩:=h
 ⟨⟨f,fd,_,fnMT_ok T d.sc d.len d.le fun cdv A outer s H E hr=>b _ cdv A outer s H E hr d.sc.nd,W.mg_of X G a,T.kp,T.binds d.bs⟩⟩
end
end M
namespace M
open PySem
section
variable {prog:Program} {w:World} {A:Around} {E:Value->Shared->Prop} {s:Shared} {it d:Addr} {i ep:Nat} {es:Array DictEntry} {od:Obj}
theorem zmf {Q:Option Value->Shared->Prop}(ki:s.heap.IsKeyIter it d i es.size ep)(g1:s.heap.get? d=some od)(g2:od.data= .dict es ep)(hi:i<es.size)
  (k:∀h',h'.IsKeyIter it d (i+1) es.size ep->Heap.SameBut it s.heap h'->Q (some es[i].key) {s with heap:=h'}):wpAny (model prog w) A (pyNext (.ref it)) Q E s:=by
 obtain⟨oi,q1,q2,q3⟩:=id ki
 have no:Builtin.Dict_items.ownsTuple "dict_keyiterator"=false:=by decide
 unfold pyNext
 refine wpAny_bind (wpAny_attempt (wpAny_callSpecial?_slot (name:=Str.ofString "__next__") ki.typeIs F.slot_dict_keyiterator_next (wpAny_call_entry F.slot_dict_keyiterator_next ki.typeIs F.entry_dict_keyiterator_next ?_ (F.args_dict_keyiterator_next_1 _))))
 refine wpAny_bind (wpAny_pure (wpAny_bind (wpAny_bind ?_)))
 first|refine wpAny_bind (wpAny_typeNameOfWhole_keyiter ki.typeIs (wpAny_pure ?_))|refine wpAny_bind (wpAny_typeNameOf_keyiter ki.typeIs (wpAny_pure ?_))
 refine wpAny_bind (wpAny_fieldsOf q1 q3 ?_)
 simp only[no,Bool.false_eq_true,if_false]
 show wpAny _ _ (if(Value.ref d==Value.none)=true then _ else _) _ _ s
 rw[if_neg (show ¬((Value.ref d==Value.none)=true)from Bool.false_ne_true)]
 refine wpAny_bind (wpAny_pure (wpAny_bind (wpAny_dictEntries g1 g2 ?_)))
 rw[if_neg (by simp)]
 refine wpAny_bind (wpAny_pure (wpAny_bind (wpAny_dictEpoch g1 g2 ?_)))
 rw[if_neg (by simp)]
 refine wpAny_pure ?_
 simp only[show ¬((i:Int)<0)from by lia,if_false,Int.toNat_natCast,Array.getElem?_eq_getElem hi]
 refine wpAny_bind ?_
 first|refine wpAny_bind (wpAny_typeNameOfWhole_keyiter ki.typeIs (wpAny_pure ?_))|refine wpAny_bind (wpAny_typeNameOf_keyiter ki.typeIs (wpAny_pure ?_))
 refine wpAny_bind (wpAny_isOneOf_keyiter ki.typeIs ?_)
 show wpAny _ _ (setField (.ref it) 1 (rawInt ((i:Int)+1))>>=_) _ _ s
 refine wpAny_bind (wpAny_setField q1 q3 (by simp) ?_)
 have ki':(s.heap.update it (Obj.mapFields (·.setIfInBounds 1 (rawInt ((i:Int)+1))))).IsKeyIter it d (i+1) es.size ep:=
  ⟨_,Heap.get?_update_self _ q1 (Obj.isFreed_of_fields (Obj.data_mapFields q3 _)),(Obj.cls_mapFields ..).trans q2,by rw[Obj.data_mapFields q3];simp[rawInt]⟩
 refine wpAny_bind (wpAny_holding (wpAny_bind (wpAny_isOneOf_keyiter (s:={s with heap:=s.heap.update it (Obj.mapFields (·.setIfInBounds 1 (rawInt ((i:Int)+1))))}) ki'.typeIs ?_)))
 show wpAny _ _ (pure es[i].key) _ _ _
 exact wpAny_pure (wpAny_pure ⟨_,rfl,wpAny_pure (k _ ki' (Heap.SameBut.update ..))⟩)
theorem znR {Q:Option Value->Shared->Prop}(hh:A.handled=none)(ki:s.heap.IsKeyIter it d i es.size ep)(g1:s.heap.get? d=some od)(g2:od.data= .dict es ep)(hi:es.size<=i)
  (k:∀h',Heap.ExtBut it s.heap h'->Q none {s with heap:=h'}):wpAny (model prog w) A (pyNext (.ref it)) Q E s:=by
 obtain⟨oi,q1,q2,q3⟩:=id ki
 have no:Builtin.Dict_items.ownsTuple "dict_keyiterator"=false:=by decide
 unfold pyNext
 refine wpAny_bind (wpAny_attempt (wpAny_callSpecial?_slot (name:=Str.ofString "__next__") ki.typeIs F.slot_dict_keyiterator_next (wpAny_call_entry F.slot_dict_keyiterator_next ki.typeIs F.entry_dict_keyiterator_next ?_ (F.args_dict_keyiterator_next_1 _))))
 refine wpAny_bind (wpAny_pure (wpAny_bind (wpAny_bind ?_)))
 first|refine wpAny_bind (wpAny_typeNameOfWhole_keyiter ki.typeIs (wpAny_pure ?_))|refine wpAny_bind (wpAny_typeNameOf_keyiter ki.typeIs (wpAny_pure ?_))
 refine wpAny_bind (wpAny_fieldsOf q1 q3 ?_)
 simp only[no,Bool.false_eq_true,if_false]
 show wpAny _ _ (if(Value.ref d==Value.none)=true then _ else _) _ _ s
 rw[if_neg (show ¬((Value.ref d==Value.none)=true)from Bool.false_ne_true)]
 refine wpAny_bind (wpAny_pure (wpAny_bind (wpAny_dictEntries g1 g2 ?_)))
 rw[if_neg (by simp)]
 refine wpAny_bind (wpAny_pure (wpAny_bind (wpAny_dictEpoch g1 g2 ?_)))
 rw[if_neg (by simp)]
 refine wpAny_pure ?_
 simp only[show ¬((i:Int)<0)from by lia,if_false,Int.toNat_natCast,Array.getElem?_eq_none hi]
 refine wpAny_bind ?_
 first|refine wpAny_bind (wpAny_typeNameOfWhole_keyiter ki.typeIs (wpAny_pure ?_))|refine wpAny_bind (wpAny_typeNameOf_keyiter ki.typeIs (wpAny_pure ?_))
 show wpAny _ _ (setField (.ref it) 0 .none>>=_) _ _ s
 refine wpAny_bind (wpAny_setField q1 q3 (by simp) ?_)
 show wpAny _ _ (newExc (.type "StopIteration") []>>=_) _ _ _
 refine wpAny_bind ?_
 simp only[newExc,newTuple]
 refine wpAny_bind (wpAny_newObj_type ?_ (by size_fits))
 refine wpAny_bind (m:=firstArgMember _ _) (wpAny_of_eq (a:=Value.none) (by first|rfl|(simp only[firstArgMember];rfl)) ?_)
 refine wpAny_newObj_type ?_ (by size_fits)
 simp only[raiseNew]
 refine wpAny_bind (wpAny_handled ?_)
 rw[show A.in1.handled=none from hh]
 refine wpAny_bind (wpAny_pure (wpAny_throw ?_))
 refine wpAny_bind (wpAny_isInstance (b:=true) (T:="StopIteration") ⟨_,Heap.get?_push_size _ rfl,rfl⟩ isSubtype_stop ?_)
 exact wpAny_pure (k _ (((Heap.SameBut.update ..).extBut.push _).push _))
theorem zlP {Q:Value->Shared->Prop}(nm:(d==sysModules)=false)(g1:s.heap.get? d=some od)(g0:od.ExactDict)(g2:od.data= .dict es ep)
  (k:Q (.ref s.heap.objs.size) {s with heap:=s.heap.push {cls:= .type "dict_keyiterator",data:= .fields #[.ref d,.int 0 0,.int es.size 0,.int ep 0]}}):wpAny (model prog w) A (pyIter (.ref d)) Q E s:=by
 have hT:s.TypeIs (.ref d) "dict":=⟨od,g1,g0.1⟩
 refine wpAny_pyIter_slot hT F.slot_dict_iter (wpAny_call_entry F.slot_dict_iter hT F.entry_dict_iter ?_ (F.args_dict_iter_1 _))
 unfold Builtin.«dict.__iter__»
 refine wpAny_bind ?_
 unfold Builtin.Dict.dictSlotNone
 refine wpAny_bind (wpAny_notOrdered_dict hT ?_)
 show wpAny _ _ (pure (Value.ref d)) _ _ s
 refine wpAny_pure ?_
 show wpAny _ _ (Builtin.Dict.showsAll d>>=_) _ _ s
 unfold Builtin.Dict.showsAll
 rw[if_neg (by rw[nm];exact Bool.false_ne_true)]
 refine wpAny_bind (wpAny_pure (wpAny_bind (wpAny_dictEntries g1 g2 (wpAny_bind (wpAny_dictEpoch g1 g2 ?_)))))
 refine wpAny_bind (wpAny_newObj_type (wpAny_pure ⟨_,rfl,"dict_keyiterator",_,⟨_,Heap.get?_push_size _ rfl,rfl⟩,F.slot_dict_keyiterator_next.lookup,?_⟩))
 simpa[rawInt]using k
end
end M
namespace M
open L2 PySem PySem.Spec
open PyProof.Rows hiding St
variable {k n:List Int} {u:Value} {v:V} {K:W.Frag} {tg:Expr} {B:Bs} {G H:Hp} {σ:St} {ρ:R} {j:Nat} {q:List (List Int)×List D} {d:D} {ks:List (List Int)} {ds es:List D}
variable {P:Program} {w:World} {H G:Hp} {h:Heap} {a b:Addr} {o:Obj} {xs:List (List L2.Key×Addr×Value)} {ks:List (List Int)} {ys:List (List L2.Key×V)}
theorem th_eq (k:List Int):reduceHash (Builtin.Tuple.tupleHashOf ((k.map kI).map hI))=(tupleKind (zbU P w)).hash (k.map kI):=by
 have e:(k.map kI).map hI=(k.map kI).map (keyH w):=by rw[List.map_map,List.map_map];exact List.map_congr_left fun _ _=>rfl
 rw[e]
 rfl
theorem te_one {q:List L2.Key×Addr×Value}(e:q.1=k.map kI):(⟨reduceHash (Builtin.Tuple.tupleHashOf (q.1.map hI)),.ref q.2.1,q.2.2⟩:DictEntry)=entryOfKey (tupleKind (zbU P w)) q:=by
 unfold entryOfKey
 rw[e,th_eq (P:=P) (w:=w)]
theorem te_eq (kt:KT G ys xs)(e:ys.map (·.1)=ks.map (·.map kI)):(xs.map fun x=>(⟨reduceHash (Builtin.Tuple.tupleHashOf (x.1.map hI)),.ref x.2.1,x.2.2⟩:DictEntry))=xs.map (entryOfKey (tupleKind (zbU P w))):=by
  induction kt generalizing ks with
  |nil=>rw[List.map_nil,List.map_nil]
  | @cons p q ps qs h t ih=>
    cases ks with
    |nil=>cases e
    |cons k ks=>
      have e2:=List.cons.inj e
      rw[List.map_cons,List.map_cons,ih e2.2]
      exact congrArg (· ::_) (te_one (h.1.symm.trans e2.1))
theorem zn5 (ok:HOk P w H h)(e:H a=some (kn a o)):h.get? a=some o:=(show ObjOk P w H h a (kn a o)from ok a _ e).1
theorem kn_ok (e:h.get? a=some o):ObjOk P w H h a (kn a o):=⟨e,⟨o,e⟩,fun _ _ e1 k=>k o e1⟩
theorem DtI.of (d:DtI H a o xs ks ys)(ok:HOk P w H h)(e:H a=some (kn a o)):h.DictOfH (tupleKind (zbU P w)) a xs:=by
 obtain⟨h1,⟨es,ep,h2,h3⟩,h4⟩:=d.dn
 refine⟨o,es,ep,zn5 ok e,h1,h2,h3.trans (te_eq d.kt d.key),?_,h4⟩
 have all:∀{l:List (List L2.Key×V)} {m:List (List L2.Key×Addr×Value)},KT H l m->∀x∈m,(tupleKind (zbU P w)).is h x.1 x.2.1:=by
  intro l m q
  induction q with
  |nil=>intro x hx;exact nomatch hx
  | @cons p q ps qs hq t ih=>
   intro x hx
   rcases List.mem_cons.mp hx with e|hx
   ·subst e
    exact zlV ok (by rw[<-hq.1];exact hq.2.1)
   ·exact ih x hx
 exact all d.kt
theorem DtN.of (d:DtI H a o xs ks ys)(rv:RelV v u)(hb:H b=some (.tup ((k.map kI).map kV)))(dd:h.DictOfH (tupleKind (zbU P w)) a (storedH xs (k.map kI) b u)):∃o',h.get? a=some o'/\DtN o' (storedH xs (k.map kI) b u):=by
 obtain⟨o',es,ep,h1,h2,h3,h4,h5,h6⟩:=dd
 have kt:=KT.put d.kt (k.map kI) hb rv
 have key:∃ks':List (List Int),(putK ys (k.map kI) v).map (·.1)=ks'.map (·.map kI):=by
  unfold putK
  split
  ·refine⟨ks,?_⟩
   rw[<-d.key,List.map_map]
   refine List.map_congr_left fun p _=>?_
   show(if p.1=k.map kI then(p.1,v)else p).1=p.1
   split<;>rfl
  ·exact⟨ks++[k],by rw[List.map_append,List.map_append,d.key];rfl⟩
 obtain⟨ks',key⟩:=key
 exact⟨o',h1,h2,⟨es,ep,h3,h4.trans (te_eq kt key).symm⟩,h6⟩
noncomputable def Itk (d:Addr)(o:Obj)(xs:List (List L2.Key×Addr×Value)):It:=
 ⟨fun i H=>H d=some (kn d o)/\i<xs.length,fun i H x H'=>H'=H/\∃q,xs[i]? =some q/\x= .ref q.2.1,fun i H=>H d=some (kn d o)/\xs.length<=i⟩
theorem zmW (d it:Addr)(dn:DtN o xs):Turn P w K tg (Itk d o xs) [it] it (fun i h=>∃es ep,o.data= .dict es ep/\h.IsKeyIter it d i xs.length ep) where
 mem:=by simp
 obj:=fun i h ⟨es,ep,_,st⟩ b hb=>by
  have e:b=it:=by simpa using hb
  subst e
  obtain⟨o,e,c,d⟩:=st
  exact⟨o,e,fun v z=>by rw[d]at z;cases z⟩
 keep:=fun i h h' ⟨es,ep,q,st⟩ k=>⟨es,ep,q,st.at fun o e=>k it (by simp) o e⟩
 item:=by
  intro X hP hw hK hc i pins s σ H E I hf ⟨es,ep,q,st⟩ hg
  subst hP hw hK
  have g:=zn5 I.hok hg.1
  obtain⟨h1,⟨es',ep',h2,he⟩,-⟩:=dn
  rw[h2]at q;cases q
  have hz:es.size=xs.length:=by have:=congrArg List.length he;simpa using this
  obtain⟨f0,f1,f2,f3,f4,f5⟩:=hf it (by simp)
  have hi:i<es.size:=by rw[hz];exact hg.2
  rw[<-hz]at st
  refine zmf st g h2 hi fun h' st' sb=>?_
  have I1:Inv X pins σ H {s with heap:=h'}:=I.turned (t':=s.toks) (fun b o hb e=>(sb.2 b hb).trans e) f0 f1 f3 f4 f5
  obtain⟨o',e,c,d'⟩:=id st'
  have hx:xs[i]? =some (xs[i]'hg.2):=List.getElem?_eq_getElem hg.2
  have key:es[i].key= .ref (xs[i]'hg.2).2.1:=by
   have h1:es.toList[i]? =some es[i]:=by simp[hi]
   rw[he,List.getElem?_map,hx]at h1
   rw[<-Option.some.inj h1]
  rw[key]
  exact⟨_,rfl,go_of (s:={s with heap:=h'}) e c d' (by decide) ⟨.ref (xs[i]'hg.2).2.1,H,I1,rfl,⟨rfl,_,hx,rfl⟩,⟨es,ep,h2,by rw[<-hz];exact st'⟩,fun b hb=>(hf b hb).1⟩⟩
 done:=by
  intro X hP hw hK hc i pins s σ H E I hf ⟨es,ep,q,st⟩ hg
  subst hP hw hK
  have g:=zn5 I.hok hg.1
  obtain⟨h1,⟨es',ep',h2,he⟩,-⟩:=dn
  rw[h2]at q;cases q
  have hz:es.size=xs.length:=by have:=congrArg List.length he;simpa using this
  obtain⟨f0,f1,f2,f3,f4,f5⟩:=hf it (by simp)
  rw[<-hz]at st
  exact znR (I.ok.hd hc) st g h2 (by rw[hz];exact hg.2) fun h' eb=>⟨rfl,I.turned (t':=s.toks) (fun b o hb e=>eb b o hb e) f0 f1 f3 f4 f5⟩
 self:=fun _ _ _ _ _ ⟨_,_,_,st⟩ h=>wpAny_pyIter_keyiter st h
noncomputable def iKnown (tl:TE):TI:=fun σ H R=>tl σ H fun x H1=>∃d o xs,x= .ref d/\H1 d=some (kn d o)/\DtN o xs/\(d==sysModules)=false/\R (Itk d o xs) H1
theorem pi_known {X:Cx}{tg l:Expr}{tl:TE}(hl:PE X l tl):PI X tg l (iKnown tl):=by
 intro pins s σ H R I h
 refine thn (hl pins s σ H _ I h) fun v s1 ⟨x,H1,I1,r1,q1⟩=>?_
 obtain⟨d,o,xs,e,hd,dn,ns,q⟩:=q1
 subst e
 cases r1
 have g:=zn5 I1.hok hd
 obtain⟨h1,⟨es,ep,h2,he⟩,-⟩:=id dn
 have hz:es.size=xs.length:=by have:=congrArg List.length he;simpa using this
 refine zlP ns g h1 h2 ?_
 refine⟨s1.heap.objs.size,[s1.heap.objs.size],_,_,H1,rfl,I1.kept (t':=s1.toks) fun b o e=>Heap.get?_push_of_some _ e,zmW d _ dn,⟨es,ep,h2,_,Heap.get?_push_size _ rfl,rfl,by rw[hz];rfl⟩,fun b hb=>?_,q⟩
 have e:b=s1.heap.objs.size:=by simpa using hb
 subst e
 exact I1.fpOk (Nat.le_refl _) (I1.hok.fresh (Nat.le_refl _))
noncomputable def DtG (H:Hp)(x y:V)(r:Option V):Prop:=∃(a b:Addr) (o:Obj) (xs:List (List L2.Key×Addr×Value)) (ks:List (List Int)) (ys:List (List L2.Key×V)) (k:List Int),x= .ref a/\y= .ref b/\H a=some (kn a o)/\DtI H a o xs ks ys/\H b=some (.tup ((k.map kI).map kV))/\r=valV ys (k.map kI)
section
variable {X:Cx} {e i value:Expr} {td ty tv:TE} {pos pos':Pos}
noncomputable def tDGT (td ty:TE):TE:=fun σ H Q=>td σ H fun x H1=>ty σ H1 fun y H2=>∃v,DtG H2 x y (some v)/\Q v H2
theorem pe_dgetT (hu:X.A.units+1<cLine)(ho:PE X e td)(hi:PE X i ty)(hs:NoSl i):PE X (.Subscript e i pos) (tDGT td ty):=by
 intro pins s σ H Q I h
 refine subD_of PySem.F.slot_dict_getitem.lookup hs (thn (ho pins s σ H _ I h) fun u s1 ⟨x,H1,I1,rx,q1⟩=>thn (hi pins s1 σ H1 _ I1 q1) fun iv s2 ⟨y,H2,I2,ry,v,g,q2⟩=>?_)
 obtain⟨a,b,o,xs,ks,ys,k,rfl,rfl,g1,g2,g3,g4⟩:=g
 obtain rfl:u=Value.ref a:=rx
 obtain rfl:iv=Value.ref b:=ry
 have dd:=g2.of I2.hok g1
 obtain⟨w',hw,rw'⟩:=RelO.some_of (v:=v) (o:=(atKey xs (k.map kI)).map (·.2)) (by rw[g4];exact KT.val g2.kt _)
 obtain⟨p,hp,hp2⟩:=Option.map_eq_some_iff.mp hw
 refine⟨dd.typeIs,wpAny_getItem_heap (tupleKind_room_in1 hu) (zlV I2.hok g3) dd hp ?_⟩
 rw[hp2]
 exact⟨v,H2,I2.tok _,rw',q2⟩
noncomputable def DtP (ys:List (List L2.Key×V))(xs:List (List L2.Key×Addr×Value))(b:Addr)(k:List Int)(v:V)(xs':List (List L2.Key×Addr×Value)):Prop:=∀G:Hp,KT G ys xs->G b=some (.tup ((k.map kI).map kV))->KT G (putK ys (k.map kI) v) xs'
noncomputable def sDPt (td ty tv:TE):TS:=fun D σ H=>tv σ H fun v H1=>td σ H1 fun x H2=>ty σ H2 fun y H3=>∃(a b:Addr) (o:Obj) (xs:List (List L2.Key×Addr×Value)) (ks:List (List Int)) (ys:List (List L2.Key×V)) (k:List Int),x= .ref a/\y= .ref b/\H3 a=some (kn a o)/\DtI H3 a o xs ks ys/\H3 b=some (.tup ((k.map kI).map kV))/\∀o' xs',DtN o' xs'->DtP ys xs b k v xs'->D.nx σ (upd H3 a (kn a o'))
theorem ps_dputT (hu:X.A.units+1<cLine)(ho:PE X e td)(hi:PE X i ty)(hv:PE X value tv)(hs:swapsWith value (some (.Subscript e i pos')) pos.line X.env=pure false):
  PS X (.Assign [.Subscript e i pos'] value pos) (sDPt td ty tv):=by
 intro pins s σ H D I h
 refine wpAny_Assign_Subscript (thn (hv pins s σ H _ I h) fun r s1 ⟨v,H1,I1,rv,q1⟩=>thn (ho pins s1 σ H1 _ I1 q1) fun u s2 ⟨x,H2,I2,rx,q2⟩=>thn (hi pins s2 σ H2 _ I2 q2) fun iv s3 ⟨y,H3,I3,ry,a,b,o,xs,ks,ys,k,e1,e2,g1,g2,g3,q3⟩=>?_) hs
 subst e1 e2
 obtain rfl:u=Value.ref a:=rx
 obtain rfl:iv=Value.ref b:=ry
 have hz:xs.length<=sizeLine:=by rw[<-Paired.length g2.kt];exact g2.len
 refine wpAny_setItem_heap (hsz:=hz) (tupleKind_room_in1 hu) (zlV I3.hok g3) (g2.of I3.hok g1) fun h' dd' hs=>?_
 obtain⟨o',go,dn⟩:=DtN.of g2 rv g3 dd'
 exact⟨σ,_,d_write I3 (by rw[g1];exact True.intro) hs ⟨o',go⟩ (kn_ok go),q3 o' _ dn fun G kt gb=>KT.put kt _ gb rv⟩
noncomputable def tDNewt:TE:=fun _ H Q=>∀p o,H p=none->(p==sysModules)=false->DtN o []->Q (.ref p) (upd H p (kn p o))
theorem pe_dnewt:PE X (.Dict [] [] pos) tDNewt:=fun pins s σ H Q I h=>
 wpAny_Dict_empty ⟨.ref s.heap.objs.size,_,I.laid (a:=s.heap.objs.size) (o:=kn s.heap.objs.size {cls:= .type "dict",data:= .dict #[]}) (t':=s.toks) (fun _ _ q=>Heap.get?_push_of_some _ q) (Nat.le_refl _) (kn_ok (Heap.get?_push_size _ rfl)),rfl,h _ _ (I.hok.fresh (Nat.le_refl _)) (beq_eq_false_iff_ne.mpr (Ne.symm (Nat.ne_of_lt I.big))) ⟨⟨rfl,rfl,rfl⟩,⟨#[],0,rfl,rfl⟩,List.nodup_nil⟩⟩
end
noncomputable def Sl.dit:Sl->Option (List (List Int)×List D)
 | .tre (.dit ks ds)=>some (ks,ds)
 | .ptr (.dit ks ds)=>some (ks,ds)
 | .val (.dit ks ds)=>some (ks,ds)
 |_=>none
noncomputable def keyT:D->Option (List Int)
 | .tup es=>zbp es
 |_=>none
theorem SI.dit (I:SI K B G H σ ρ){s:Sl}(e:ρ[j]? =some s)(h:s.dit=some q):∃p ys o xs,σ[j]? =some (some (.ref p))/\H p=some (kn p o)/\DtI G p o xs q.1 ys/\RepL K G (ys.map (·.2)) q.2:=by
 have tr:∀{t:T},s.tree=some t->t= .dit q.1 q.2->∃p ys o xs,σ[j]? =some (some (.ref p))/\H p=some (kn p o)/\DtI G p o xs q.1 ys/\RepL K G (ys.map (·.2)) q.2:=fun{t} h1 h2=>by
  subst h2
  obtain⟨v,A,k1,⟨p,ys,o,xs,rfl,e2,e3,e4,-⟩,_⟩:=I.tree e h1
  exact⟨p,ys,o,xs,k1,e2,e3,e4⟩
 cases s with
 |tre t=>cases t with
  |dit ks ds=>cases h;exact tr rfl rfl
  |_=>cases h
 |ptr t=>cases t with
  |dit ks ds=>cases h;exact tr rfl rfl
  |_=>cases h
 |val d=>cases d with
  |dit ks ds=>
   cases h
   obtain⟨v,k1,a,ys,o,xs,rfl,e2,e3,e4⟩:=I.slot j _ e
   exact⟨a,ys,o,xs,k1,I.fz _ _ e2,e3,e4⟩
  |_=>cases h
 |_=>cases h
theorem zlg (r:RepD K G v d)(e:keyT d=some k):∃b,v= .ref b/\G b=some (.tup ((k.map kI).map kV)):=by
 cases d with
 |tup es=>
  obtain⟨b,xs,rfl,h,rl⟩:=r
  cases zgy e
  rw[RepL.ints_eq rl]at h
  refine⟨b,rfl,h.trans ?_⟩
  rw[List.map_map]
  rfl
 |_=>cases e
noncomputable def eDGT (j:Nat)(mk:ME):ME:=fun ρ=>if(ρ[j]?.bind Sl.dit).isSome then(mk ρ).bind fun p=>(keyT p.1).bind fun k=>(p.2[j]?.bind Sl.dit).bind fun q=>(lkD q.1 q.2 k).map fun d=>(d,p.2)else none
noncomputable def sDPT (j:Nat)(mk me:ME):MS:=fun ρ=>(me ρ).bind fun p=>if(p.2[j]?.bind Sl.dit).isSome then(mk p.2).bind fun q=>(keyT q.1).bind fun k=>q.2[j]?.bind fun s=>match s.tree with
  |some (.dit ks ds)=>if ks.length<16777216 then some (.next,q.2.set j (s.putT (.dit (ptD ks ds k p.1).1 (ptD ks ds k p.1).2)))else none
  |_=>none else none
noncomputable def sDNT (i:Nat):MS:=fun ρ=>some (.next,ρ.set i (.tre (.dit [] [])))
noncomputable def iDKT (j:Nat):MA:=fun ρ=>match ρ[j]? with
 |some (.val (.dit ks ds))=>some (ks.map fun k=> .tup (k.map .int),ρ)
 |_=>none
noncomputable def eKn (j:Nat):ME:=fun ρ=>match ρ[j]? with
 |some (.tre (.dit ks ds))=>some (.dit ks ds,ρ.set j (.val (.dit ks ds)))
 |some (.val d)=>some (d,ρ)
 |_=>none
section
variable {X:Cx} {x:Str} {a e:Expr} {tg:Expr} {mk me:ME} {pos p' tpos:Pos}
theorem zjB (j:Nat)(hu:X.A.units+64<cLine)(ha:SE X a mk)(hs:autoParam (NoSl a) zu7._auto_1)(hN:autoParam (X.N[j]? =some x) zu2._auto_1)(hv:autoParam (Vis X.env.scope x) zu6._auto_1)(hd:autoParam ((x==("__debug__":Str))=false) zu1._auto_1)
  (hcd:autoParam ((x==("__classdict__":Str))=false) zu1._auto_1):SE X (.Subscript (.Name x p') a pos) (eDGT j mk):=by
 obtain⟨t,pa,sa⟩:=ha
 refine⟨_,pe_dgetT (by lia) (za6 hN hv hd hcd) pa hs,fun B G H σ ρ d ρ' Q I hm k=>?_⟩
 unfold eDGT at hm
 split at hm
 ·rename_i hso
  obtain⟨q0,hso⟩:=Option.isSome_iff_exists.mp hso
  obtain⟨s0,e0,d0⟩:=zad hso
  obtain⟨p,_,_,_,k1,_⟩:=I.dit e0 d0
  obtain⟨⟨y,ρ1⟩,e1,hm⟩:=zad hm
  refine⟨.ref p,k1,sa B G H σ ρ y ρ1 _ I e1 fun G1 H1 v I1 f1 r1=>?_⟩
  obtain⟨n,en,hm⟩:=zad hm
  obtain⟨q,e2,hm⟩:=zad hm
  obtain⟨d',e3,e4⟩:=zau hm
  cases e4
  obtain⟨s,e5,e6⟩:=zad e2
  obtain⟨p',ys,o,xs,m1,m2,m3,m4⟩:=I1.dit e5 e6
  rw[k1]at m1;cases m1
  obtain⟨b,rfl,hb⟩:=zlg r1 en
  obtain⟨w,h1,h2⟩:=zkN zjb m3.key m4 e3
  exact⟨w,⟨p,b,o,xs,q.1,ys,n,rfl,rfl,m2,m3.mono I1.fz,I1.fz _ _ hb,h1.symm⟩,k G1 H1 w I1 f1 h2⟩
 ·cases hm
theorem DtI.put {p b:Addr}{o o':Obj}{xs xs':List (List L2.Key×Addr×Value)}{ys:List (List L2.Key×V)}(i:DtI G p o xs ks ys)(r:RepL K G (ys.map (·.2)) ds)(rv:RepD K G v d)(hl:ks.length<16777216)(hb:G b=some (.tup ((n.map kI).map kV)))(dn:DtN o' xs')(dp:DtP ys xs b n v xs'):DtI G p o' xs' (ptD ks ds n d).1 (putK ys (n.map kI) v)/\RepL K G ((putK ys (n.map kI) v).map (·.2)) (ptD ks ds n d).2:=by
 obtain⟨m1,m2⟩:=pt_rep zjb (j:=n) i.key r rv
 have len:ys.length=ks.length:=by have:=congrArg List.length i.key;simpa using this
 refine⟨⟨i.sys,dn,?_,m1,dp G i.kt hb⟩,m2⟩
 have:=zkV ys (n.map kI) v
 rw[sizeLine_eq];lia
theorem ss_dPutT (j:Nat)(hu:X.A.units+64<cLine)(he:SE X e me)(ha:SE X a mk)(hN:autoParam (X.N[j]? =some x) zu2._auto_1)(hv:autoParam (Vis X.env.scope x) zu6._auto_1)(hd:autoParam ((x==("__debug__":Str))=false) zu1._auto_1)
    (hcd:autoParam ((x==("__classdict__":Str))=false) zu1._auto_1) (hs:autoParam (swapsWith e (some (.Subscript (.Name x p') a tpos)) pos.line X.env=pure false) zu2._auto_1):SS X (.Assign [.Subscript (.Name x p') a tpos] e pos) (sDPT j mk me):=by
  obtain⟨t,pa,sa⟩:=ha
  obtain⟨u,pe,se⟩:=he
  refine⟨_,ps_dputT (by lia) (za6 hN hv hd hcd) pa pe hs,fun B G H σ ρ fl ρ' E I hm k=>?_⟩
  obtain⟨⟨d,ρ1⟩,e1,hm⟩:=zad hm
  refine se B G H σ ρ d ρ1 _ I e1 fun G1 H1 v I1 f1 r1=>?_
  split at hm
  . rename_i hso
    obtain⟨q0,hso⟩:=Option.isSome_iff_exists.mp hso
    obtain⟨s0,e0,d0⟩:=zad hso
    obtain⟨p,_,_,_,k1,_⟩:=I1.dit e0 d0
    obtain⟨⟨y,ρ2⟩,e2,hm⟩:=zad hm
    refine⟨.ref p,k1,sa B G1 H1 σ ρ1 y ρ2 _ I1 e2 fun G2 H2 w I2 f2 r2=>?_⟩
    obtain⟨n,en,hm⟩:=zad hm
    obtain⟨s,e3,hm⟩:=zad hm
    split at hm
    . rename_i ks ds q
      split at hm
      . rename_i hl
        cases hm
        obtain⟨b,rfl,hb⟩:=zlg r2 en
        obtain⟨v2,A,h1,h2,h3,h4,h5⟩:=I2.tree e3 q
        rw[k1]at h1;cases h1
        obtain⟨p2,ys,o,xs,z,g2,g3,g4,rfl⟩:=h2
        cases z
        refine⟨p,b,o,xs,ks,ys,n,rfl,rfl,g2,g3.mono I2.fz,I2.fz _ _ hb,fun o' xs' dn dp=>?_⟩
        obtain⟨m1,m2⟩:=g3.put g4 (r1.mono f2) hl hb dn dp
        have rep:RepT X.K G2 (upd H2 p (kn p o')) (.ref p) (.dit (ptD ks ds n d).1 (ptD ks ds n d).2) [p]:=⟨p,_,o',xs',rfl,zat,m1,m2,rfl⟩
        exact k G2 _ σ (I2.chT e3 q k1 ⟨p,ys,o,xs,rfl,g2,g3,g4,rfl⟩ (I2.fz.right (h4 p (by simp)) _) (fun b o n h=>by rw[zaq (fun z=>n (by simp[z]))];exact h) (fun b h=>by
          by_cases z:b=p
          . subst z;rw[zat]at h;cases h
          . rw[zaq z]at h;exact h) rep (by simp) (fun a m=> .inl m)) (f1.trans f2)
      . cases hm
    . cases hm
  . cases hm
theorem ss_dNewT (i:Nat)(hN:X.N.Nodup)(hi:autoParam (X.N[i]? =some x) zu2._auto_1)(hx:autoParam (Loc X.env.scope x) zu10._auto_1)(hs:autoParam (swapsWith (.Dict [] [] tpos) (some (.Name x p')) pos.line X.env=pure false) zu2._auto_1)
    (hf:autoParam (X.fn x=true\/X.env.scope.names.lookup x=some .local) zu10._auto_1):SS X (.Assign [.Name x p'] (.Dict [] [] tpos) pos) (sDNT i):=by
  refine⟨_,zlw hN hi hx pe_dnewt hs hf,fun B G H σ ρ fl ρ' E I hm k=>?_⟩
  cases hm
  intro p o hp ns dn
  have nw:Nw X.K G (upd H p (kn p o)) σ ρ p:=I.nw_move (I.nw hp) fun i s a _ _ g h=>⟨g,zaq fun z=>h (by rw[z];exact hp)⟩
  exact k G _ _ ((I.allocO hp _).setT (A:=[p]) ⟨p,[],o,[],rfl,zat,⟨ns,dn,Nat.zero_le _,rfl,.nil⟩,RepL.nil,rfl⟩ (by simp) (fun a m=>by
    have:a=p:=by simpa using m
    subst this
    exact⟨I.fz.free hp,I.there a hp,nw⟩)) (Fz.refl G)
theorem SI.know (I:SI K B G H σ ρ)(e:ρ[j]? =some (.tre (.dit ks es))):∃p G',σ[j]? =some (some (.ref p))/\SI K B G' H σ (ρ.set j (.val (.dit ks es)))/\Fz G G'/\RepD K G' (.ref p) (.dit ks es):=by
 obtain⟨v,A,h1,⟨p,ys,o,xs,rfl,h2,h3,h4,rfl⟩,h5,h6⟩:=I.slot j _ e
 obtain⟨g,hb⟩:=h6 p (by simp)
 have fz:=Fz.new g (kn p o)
 have rep:RepD K (upd G p (kn p o)) (.ref p) (.dit ks es):=⟨p,ys,o,xs,rfl,zat,h3.mono fz,h4.mono fz⟩
 have I2:=I.chg (i:=j) (ov:=some (.ref p)) (s':= .val (.dit ks es)) (G':=upd G p (kn p o)) (H':=H) (fun a u q=>by
   by_cases z:a=p
   ·subst z;rw[zat]at q;cases q;exact h2
   ·rw[zaq z]at q;exact I.fz a u q) fz (fun b u q=>by
   by_cases z:b=p
   ·subst z;exact .inr hb
   ·rw[zaq z]at q;exact I.new b u q) I.keep I.there (fun i t a z ei w g' _=>by
   have na:a≠p:=fun q=>by subst q;exact I.dis i j t _ a z ei e w ⟨_,_,h1,⟨a,ys,o,xs,rfl,h2,h3,h4,rfl⟩,by simp⟩
   exact⟨by rw[zaq na];exact g',rfl,id⟩) ⟨.ref p,rfl,rep⟩
 rw[zgv h1]at I2
 exact⟨p,_,h1,I2,fz,rep⟩
theorem se_know (j:Nat)(hN:autoParam (X.N[j]? =some x) zu2._auto_1)(hv:autoParam (Vis X.env.scope x) zu6._auto_1)(hd:autoParam ((x==("__debug__":Str))=false) zu1._auto_1)
  (hcd:autoParam ((x==("__classdict__":Str))=false) zu1._auto_1):SE X (.Name x p') (eKn j):=by
 refine⟨_,za6 hN hv hd hcd,fun B G H σ ρ d ρ' Q I hm k=>?_⟩
 unfold eKn at hm
 split at hm
 ·rename_i ks es e
  cases hm
  obtain⟨p,G',h1,h2,h3,h4⟩:=I.know e
  exact⟨.ref p,h1,k _ _ _ h2 h3 h4⟩
 ·rename_i d' e
  cases hm
  obtain⟨v,h1,h2⟩:=I.slot j _ e
  exact⟨v,h1,k G H v I (Fz.refl G) h2⟩
 ·cases hm
theorem it_dictT (j:Nat)(hN:autoParam (X.N[j]? =some x) zu2._auto_1)(hv:autoParam (Vis X.env.scope x) zu6._auto_1)(hd:autoParam ((x==("__debug__":Str))=false) zu1._auto_1)
  (hcd:autoParam ((x==("__classdict__":Str))=false) zu1._auto_1):SIt X tg (.Name x p') (iDKT j):=by
 refine⟨_,pi_known (za6 hN hv hd hcd),fun B G H σ ρ ds ρ' Q I hm k=>?_⟩
 unfold iDKT at hm
 split at hm
 ·rename_i ks es e
  cases hm
  obtain⟨v,h1,p,ys,o,xs,rfl,h2,h3,h4⟩:=I.slot j _ e
  have len:ys.length=ks.length:=by have:=congrArg List.length h3.key;simpa using this
  have len2:ys.length=xs.length:=Paired.length h3.kt
  refine⟨.ref p,h1,p,o,xs,rfl,I.fz _ _ h2,h3.dn,h3.sys,k _ _ _ I (Fz.refl G) ⟨fun H' i f hi=>⟨f _ _ h2,by simp at hi;lia⟩,fun H' i x H'' f y d ed=>?_,fun H' i f hi=>⟨f _ _ h2,by simp at hi;lia⟩⟩⟩
  obtain⟨rfl,q,eq,rfl⟩:=y
  refine .inl ⟨rfl,?_⟩
  rw[List.getElem?_map]at ed
  obtain⟨n,en,rfl⟩:=zau ed
  have kt:∀{ys:List (List L2.Key×V)} {xs:List (List L2.Key×Addr×Value)},KT G ys xs->∀{i:Nat} {q:List L2.Key×Addr×Value},xs[i]? =some q->∃y,ys[i]? =some y/\G q.2.1=some (.tup (y.1.map kV)):=by
   intro ys xs r
   induction r with
   |nil=>intro i q h;simp at h
   |cons h _ ih=>
    intro i q h2
    cases i with
    |zero=>simp only[List.getElem?_cons_zero,Option.some.injEq]at h2;subst h2;exact⟨_,rfl,h.2.1⟩
    |succ i=>exact ih (by simpa using h2)
  obtain⟨y,ey,hg⟩:=kt h3.kt eq
  have h5:(ys.map (·.1))[i]? =(ks.map (·.map kI))[i]?:=by rw[h3.key]
  rw[List.getElem?_map,List.getElem?_map,ey,en]at h5
  have h5:y.1=n.map kI:=by simpa using h5
  rw[h5,List.map_map]at hg
  exact⟨_,_,rfl,hg,RepL.ints n⟩
 ·cases hm
end
end M
namespace M
open L2 PySem PySem.Spec
open PyProof.Rows hiding St
variable {K:W.Frag} {G H G':Hp} {tg':Addr->Shared->Hp->List Addr->TG} {tt:Addr->Shared->Hp->List Addr->TT} {te:Addr->Shared->Hp->List Addr->TE} {x:Str} {c:Int} {pc:Pos} {B:Bs} {σ:St} {ρ:R} {j i:Nat} {cs:List Ch} {a:Addr}
noncomputable def fzDT (j:Nat)(ρ:R):R:=match ρ[j]? with
 |some (.tre (.dit ks ds))=>ρ.set j (.val (.dit ks ds))
 |_=>ρ
noncomputable def eCallU (F:List D->Option Sl)(ma:MA):ME:=fun ρ=>(ma ρ).bind fun p=>(F p.1).bind fun r=>match r with
 | .tre (.tup cs)=>some (.tup (cs.map Ch.D),p.2)
 |_=>none
noncomputable def fzU (j:Nat)(ρ:R):R:=match ρ[j]? with
 |some (.tre (.tup cs))=>ρ.set j (.val (.tup (cs.map Ch.D)))
 |_=>ρ
noncomputable def zjM (f:D->R->Option (Option (List D)×R)):List D->R->Option (List (List D)×R)
 |[],ρ=>some ([],ρ)
 |d::ds,ρ=>(f d ρ).bind fun p=>(zjM f ds p.2).map fun q=>(p.1.toList++q.1,q.2)
noncomputable def zmH (g:D->R->Option R)(mt:MT)(mo:MO):D->R->Option (Option (List D)×R):=fun d ρ=>(g d ρ).bind fun ρ1=>(mt ρ1).bind fun p=>if p.1 then(mo p.2).bind fun q=>if zcE q.2 then some (some q.1,q.2)else none else if zcE p.2 then some (none,p.2)else none
noncomputable def sTC (i:Nat)(cap:List Nat)(t:Nat)(mi:MA)(g:D->R->Option R)(mt:MT)(mo:MO):MS:=fun ρ=>(mi ρ).bind fun p=>if p.1.length<=16777216 then(zjM (zmH g mt mo) p.1 (capR cap t (fzL cap p.2))).map fun q=>(.next,(fzL cap p.2).set i (.tre (.lst (q.1.map .l))))else none
noncomputable def sTAo (i:Nat)(mo:MO):MS:=fun ρ=>match ρ[i]? with
 |some (.tre (.lst _))=>(mo ρ).bind fun p=>match p.2[i]? with
  |some (.tre (.lst cs))=>if cs.length<16777216 then some (.next,p.2.set i (.tre (.lst (cs++[.l p.1]))))else none
  |_=>none
 |_=>none
noncomputable def zhG:List Ch->Option (List (List D))
 |[]=>some []
 | .l ds::cs=>(zhG cs).map (ds:: ·)
 |_=>none
noncomputable def cTab (i:Nat)(r:MP'):MP':=fun ρ=>match ρ[i]? with
 |some (.tre (.lst cs))=>(zhG cs).bind fun xss=>(r (ρ.set i .emp)).map fun q=>(.t xss::q.1,q.2)
 |_=>none
noncomputable def qMod (ma mb:MQ):MQ:=fun ρ=>(ma ρ).bind fun a=>(mb ρ).bind fun b=>match a,b with
 | .int i,.int j=>if 0<j then some (.int (i%j))else none
 |_,_=>none
noncomputable def qLT (j:Nat):MQ:=fun ρ=>match ρ[j]? with
 |some (.tre (.lst cs))=>some (.int cs.length)
 |_=>none
noncomputable def qLR (j n:Nat):MQ:=fun ρ=>match ρ[j]? with
 |some (.tre (.lst cs))=>match cs[n]? with
  |some (.l ds)=>some (.int ds.length)
  |_=>none
 |_=>none
noncomputable def sTG (j:Nat)(mi mk me:MQ):MS:=fun ρ=>(mi ρ).bind fun a=>(mk ρ).bind fun b=>(me ρ).bind fun c=>match a,b,c,ρ[j]? with
 | .int n,.int m,.int z,some (.tre (.lst cs))=>(ixN cs.length n).bind fun u=>match cs[u]? with
  |some (.l ds)=>(ixN ds.length m).bind fun w=>match ds[w]? with
   |some (.int y)=>some (.next,ρ.set j (.tre (.lst (cs.set u (.l (ds.set w (.int (y+z))))))))
   |_=>none
  |_=>none
 |_,_,_,_=>none
structure LcT (K:W.Frag) (g:D->R->Option R) (mt:MT) (mo:MO) (items:List D) (all:List (List D)) (G2 H1:Hp) (DD:Addr) (i:Nat) (σc:St) (Hc Gc:Hp) (ρc:R) (acc:List (List D)) (xs:List V) (A:List Addr) (rest:List (List D)) (ρe:R):Prop where
 fc:Fz G2 Gc
 fcH:Fz Gc Hc
 nw:∀b o,Gc b=some o->G2 b≠none\/H1 b=none
 kp:∀b o,H1 b=some o->Hc b=some o
 gD:Gc DD=none
 hDc:Hc DD=some (.lst xs)
 ra:RepTb K Gc Hc xs acc A
 nd:A.Nodup
 fr:∀a∈A,Gc a=none/\H1 a=none/\a≠DD
 hx:xs.length<=i
 vs:VS K Gc σc ρc
 ec:zjM (zmH g mt mo) (items.drop i) ρc=some (rest,ρe)
 eall:all=acc++rest
theorem ziM:∀{xs:List V} {dss:List (List D)} {A:List Addr} {l:Addr} {ys:List V} {ds:List D},RepTb K G H xs dss A->H l=some (.lst ys)->RepL K G ys ds->RepTb K G H (xs++[.ref l]) (dss++[ds]) (A++[l])
 |[],[],_,l,ys,ds,h,h1,h2=>by rw[show _=[]from h];exact⟨l,ys,[],rfl,h1,h2,rfl,rfl⟩
 |x::xs,e::dss,_,l,ys,ds,⟨r,zs,A2,e1,e2,e3,e4,e5⟩,h1,h2=>⟨r,zs,A2++[l],e1,e2,e3,ziM e4 h1 h2,by rw[e5];rfl⟩
 |[],_::_,_,_,_,_,h,_,_=>h.elim
 |_::_,[],_,_,_,_,h,_,_=>h.elim
section
variable {X:Cx} {elt iter tg:Expr} {ifs:List Expr} {scope:Scope} {pos:Pos} {N:List Str} {cap:List Nat} {t:Nat} {mi:MA} {g:D->R->Option R} {mt:MT} {mo:MO}
theorem zm6 (i0:Nat){wi:TI}
  (si:∀B G H σ ρ ds ρ' (Q:It->Hp->Prop),SI X.K B G H σ ρ->mi ρ=some (ds,ρ')->(∀J G' H',SI X.K B G' H' σ ρ'->Fz G G'->Itm X.K J G' ds->Q J H')->wi σ H Q)
  (sg:∀C s H₀ fp B G H σ ρ v d ρ' (Q:St->Hp->Prop),SI X.K B G H σ ρ->RepD X.K G v d->g d ρ=some ρ'->(∀G' H' σ',SI X.K B G' H' σ' ρ'->Fz G G'->Q σ' H')->tg' C s H₀ fp v σ H Q)
  (st:∀C s H₀ fp B G H σ ρ d ρ' (Q:Bool->Hp->Prop),SI X.K B G H σ ρ->mt ρ=some (d,ρ')->(∀G' H',SI X.K B G' H' σ ρ'->Fz G G'->Q d H')->tt C s H₀ fp σ H Q)
  (se:∀C s H₀ fp B G H σ ρ ds ρ' (Q:VK),SI X.K B G H σ ρ->mo ρ=some (ds,ρ')->(∀G' H' l xs,SI X.K B G' H' σ ρ'->Fz G G'->G' l=none->H' l=some (.lst xs)->RepL X.K G' xs ds->B.H l=none->Nw X.K G' H' σ ρ' l->Q (.ref l) H')->te C s H₀ fp σ H Q):
  ∀B G H σ ρ fl ρ' (E:Ends),SI X.K B G H σ ρ->sTC i0 cap t mi g mt mo ρ=some (fl,ρ')->Post X.K B G E fl ρ'->tLC (capσ cap t) wi tg' tt te σ H fun v H'=>E.nx (σ.set i0 (some v)) H':=by
 intro B G H σ ρ fl ρ' E I hm k
 obtain⟨⟨items,ρ1⟩,e1,hm⟩:=zad hm
 refine si B G H σ ρ items ρ1 _ I e1 fun J G1 H1 I1 f1 IT DD hD=>?_
 dsimp only at hm
 split at hm
 ·rename_i hlen
  obtain⟨⟨all,ρf⟩,e2,e3⟩:=zau hm
  obtain⟨rfl,rfl⟩:=Prod.mk.inj e3
  obtain⟨G2,I2,f2⟩:=SI.fzL cap I1
  have hDG:G2 DD=none:=I2.fz.free hD
  refine⟨fun i m σc Hc=>m=items.length-i/\i<=items.length/\∃Gc ρc acc xs A rest ρe,LcT X.K g mt mo items all G2 H1 DD i σc Hc Gc ρc acc xs A rest ρe,
   ⟨items.length,by simp,Nat.zero_le _,G2,capR cap t (M.fzL cap ρ1),[],[],[],all,ρf,{fc:=Fz.refl _,fcH:=I2.fz.right hDG _,nw:=fun b o e=> .inl (by rw[e];simp),kp:=fun b o e=>by rw[zaq (zaE e hD)];exact e,gD:=hDG,hDc:=zat,ra:=rfl,nd:=by simp,fr:=fun a m=>(by cases m),hx:=Nat.le_refl _,vs:=zoL I2 cap t,ec:=by simpa using e2,eall:=rfl}⟩,?_⟩
  rintro i m σc Hc ⟨rfl,hi,Gc,ρc,acc,xs,A,rest,ρe,J0⟩
  obtain⟨fc,fcH,nw,kp,gD,hDc,ra,nd,fr,hx,vs,ec,eall⟩:=J0
  by_cases hlt:i<items.length
  ·refine .inr ⟨IT.go Hc i (f2.trans (fc.trans fcH)) hlt,fun C s₀ H₀ fp x H' y=>?_⟩
   rw[List.drop_eq_getElem_cons hlt]at ec
   simp only[zjM]at ec
   obtain⟨⟨o,ρ3⟩,h3,ec⟩:=zad ec
   obtain⟨⟨rest2,ρ4⟩,h4,ec⟩:=zau ec
   obtain⟨rfl,rfl⟩:=Prod.mk.inj ec
   dsimp only at h4
   unfold zmH at h3
   obtain⟨ρ5,h5,h3⟩:=zad h3
   obtain⟨⟨ok,ρ6⟩,h6,h3⟩:=zad h3
   dsimp only at h3
   have Ic:SI X.K ⟨Gc,Hc,[]⟩ Gc Hc σc ρc:=vs.si fcH
   have fz2:Fz G1 Hc:=f2.trans (fc.trans fcH)
   have yy:=IT.yld Hc i x H' fz2 y items[i] (List.getElem?_eq_getElem hlt)
   have yy2:(H'=Hc/\RepD X.K Gc x items[i])\/∃p xs es,Hc p=none/\H'=upd Hc p (.tup xs)/\x= .ref p/\items[i]= .tup es/\RepL X.K Gc xs es:=by
    rcases yy with⟨a,b⟩|⟨p,xs,es,a,b,c,d,e⟩
    ·exact .inl ⟨a,b.mono (f2.trans fc)⟩
    ·exact .inr ⟨p,xs,es,a,b,c,d,e.mono (f2.trans fc)⟩
   obtain⟨G3,I3,f3,r3⟩:=Ic.yld yy2
   refine sg C s₀ H₀ fp _ G3 H' σc ρc x items[i] ρ5 _ I3 r3 h5 fun G4 H4 σ4 I4 f4=>st C s₀ H₀ fp _ G4 H4 σ4 ρ5 ok ρ6 _ I4 h6 fun G5 H5 I5 f5=>?_
   have facts:∀(G' H':Hp) (σ':St) (ρ':R),SI X.K ⟨Gc,Hc,[]⟩ G' H' σ' ρ'->Fz Gc G'->(∀b o,G' b=some o->G2 b≠none\/H1 b=none)/\(∀b o,H1 b=some o->H' b=some o)/\G' DD=none/\H' DD=some (.lst xs)/\RepTb X.K G' H' xs acc A/\∀a∈A,G' a=none/\H1 a=none/\a≠DD:=fun G' H' σ' ρ' I' ff=>by
    have stay:∀b o,Gc b=none->Hc b=some o->G' b=none:=fun b o h1 h2=>by
     cases q:G' b with
     |none=>rfl
     |some u=>
      rcases I'.new b u q with h|h
      ·exact absurd h1 h
      ·rw[show Hc b=none from h]at h2;cases h2
    refine⟨fun b o e=>?_,fun b o e=>I'.keep b o (kp b o e) (by simp),stay DD _ gD hDc,I'.keep DD _ hDc (by simp),ra.move ff fun a m=>?_,fun a m=>?_⟩
    ·rcases I'.new b o e with h|h
     ·have h:Gc b≠none:=h
      cases q:Gc b with
      |none=>exact absurd q h
      |some u=>exact nw b u q
     ·refine .inr ?_
      cases q:H1 b with
      |none=>rfl
      |some u=>have:=kp b u q;rw[show Hc b=none from h]at this;cases this
    ·obtain⟨zs,z⟩:=ra.here m
     rw[z];exact I'.keep a _ z (by simp)
    ·obtain⟨zs,z⟩:=ra.here m
     exact⟨stay a _ (fr a m).1 z,(fr a m).2⟩
   cases ok with
   |false=>
    simp only[Bool.false_eq_true,if_false]at h3
    split at h3
    ·rename_i hno
     cases h3
     obtain⟨a1,a2,a3,a4,a5,a6⟩:=facts G5 H5 σ4 _ I5 (f3.trans (f4.trans f5))
     exact⟨items.length-(i+1),by lia,rfl,hlt,G5,_,acc,xs,A,rest2,ρ4,{fc:=fc.trans (f3.trans (f4.trans f5)),fcH:=I5.fz,nw:=a1,kp:=a2,gD:=a3,hDc:=a4,ra:=a5,nd:=nd,fr:=a6,hx:=by lia,vs:=VS.of I5 hno,ec:=h4,eall:=by simpa using eall}⟩
    ·cases h3
   |true=>
    simp only[if_true]at h3 ⊢
    obtain⟨⟨dv,ρ7⟩,h7,h3⟩:=zad h3
    dsimp only at h3
    split at h3
    ·rename_i hno
     cases h3
     refine se C s₀ H₀ fp _ G5 H5 σ4 ρ6 dv _ _ I5 h7 fun G6 H6 l ys I6 f6 g6 h6l r6 b6 n6=>?_
     have ff:Fz Gc G6:=f3.trans (f4.trans (f5.trans f6))
     obtain⟨a1,a2,a3,a4,a5,a6⟩:=facts G6 H6 σ4 _ I6 ff
     have b6:Hc l=none:=b6
     have lD:l≠DD:=fun z=>by rw[z,hDc]at b6;cases b6
     have lA:l∉A:=fun m=>by obtain⟨zs,z⟩:=ra.here m;rw[b6]at z;cases z
     have l1:H1 l=none:=by
      cases q:H1 l with
      |none=>rfl
      |some u=>rw[kp l u q]at b6;cases b6
     refine⟨xs,a4,by rw[sizeLine_eq];lia,items.length-(i+1),by lia,rfl,hlt,G6,_,acc++[dv],xs++[.ref l],A++[l],rest2,ρ4,{fc:=fc.trans ff,fcH:=I6.fz.right a3 _,nw:=a1,kp:=fun b o e=>by rw[zaq (zaE e hD)];exact a2 b o e,gD:=a3,hDc:=zat,ra:=?_,nd:=?_,fr:=fun a m=>?_,hx:=by rw[List.length_append,List.length_singleton];lia,vs:=VS.of I6 hno,ec:=h4,eall:=by simpa using eall}⟩
     ·refine ziM (a5.move (Fz.refl G6) fun a m=>zaq (a6 a m).2.2) (by rw[zaq lD];exact h6l) r6
     ·refine List.nodup_append.mpr ⟨nd,by simp,fun a ma b mb z=>?_⟩
      have:b=l:=by simpa using mb
      subst this;subst z;exact lA ma
     ·rcases List.mem_append.mp m with m|m
      ·exact a6 a m
      ·have:a=l:=by simpa using m
       subst this
       exact⟨g6,l1,lD⟩
    ·cases h3
  ·have e:i=items.length:=by lia
   subst e
   rw[List.drop_length]at ec
   cases ec
   have hall:all=acc:=by rw[eall,List.append_nil]
   refine .inl ⟨IT.stop Hc _ (f2.trans (fc.trans fcH)) (Nat.le_refl _),?_⟩
   rw[<-hall]at ra
   have I3:=I2.grow fc fcH nw kp
   refine k Gc Hc _ (I3.setT (i:=i0) (v:= .ref DD) (A:=DD::A) ⟨DD,xs,A,rfl,hDc,tb_cs ra,rfl⟩ (List.nodup_cons.mpr ⟨fun m=>(fr DD m).2.2 rfl,nd⟩) fun a m=>?_) (f1.trans (f2.trans fc))
   rcases List.mem_cons.mp m with rfl|m
   ·exact⟨gD,I2.there a hD,I2.own_ne hD nw kp⟩
   ·exact⟨(fr a m).1,I2.there a (fr a m).2.1,I2.own_ne (fr a m).2.1 nw kp⟩
 ·cases hm
theorem zec (i:Nat){lpos pos':Pos}(cap:List Nat)(t:Nat)(N:List Str)(hc:X.calm=true)(hi:SIt X tg iter mi)(hg:∀C s H fp,SG (cxC X N scope C s H fp) tg g)(ht:∀C s H fp,STs (cxC X N scope C s H fp) ifs mt)(he:∀C s H fp,SO (cxC X N scope C s H fp) elt mo)(hN:X.N.Nodup)
    (hxi:autoParam (X.N[i]? =some x) zu2._auto_1) (hx:autoParam (Loc X.env.scope x) zu10._auto_1) (hf:autoParam (X.fn x=true\/X.env.scope.names.lookup x=some .local) zu10._auto_1)
    (hsw:autoParam (swapsWith (.ListComp elt [⟨tg,iter,ifs,0⟩] scope lpos) (some (.Name x pos')) pos.line X.env=pure true) zu2._auto_1)
    (hk:autoParam (scope.kind= .function) zu2._auto_1) (hb:autoParam (blkB X.env scope=true) zu11._auto_1) (hcap:autoParam (capB scope.names N X.N cap t=true) zu11._auto_1)
    (hs:autoParam (∀x,foldedSetIterable iter X.env x=pure x) zu9._auto_1):SS X (.Assign [.Name x pos'] (.ListComp elt [⟨tg,iter,ifs,0⟩] scope lpos) pos) (sTC i cap t mi g mt mo):=by
  obtain⟨wi,pi,si⟩:=hi
  exact⟨_,zlh hN hxi hx hf hsw hc (zlp hk hb) (zmh hcap) pi (fun C s H fp=>(hg C s H fp).choose_spec.1) (fun C s H fp=>(ht C s H fp).choose_spec.1) (fun C s H fp=>(he C s H fp).choose_spec.1) hs,
    zm6 i si (fun C s H fp=>(hg C s H fp).choose_spec.2) (fun C s H fp=>(ht C s H fp).choose_spec.2) (fun C s H fp=>(he C s H fp).choose_spec.2)⟩
end
section
variable {X:Cx} {x y:Str} {pos p' q' tpos:Pos} {e a b:Expr} {es:List Expr} {mo:MO}
theorem zlG (i:Nat){apos cpos:Pos}(ho:SO X e mo)(hN:autoParam (X.N[i]? =some x) zu2._auto_1)(hv:autoParam (Vis X.env.scope x) zu6._auto_1)(hd:autoParam ((x==("__debug__":Str))=false) zu1._auto_1)
  (hcd:autoParam ((x==("__classdict__":Str))=false) zu1._auto_1)
  (hbase:autoParam (attributeBase (.Name x p') "append" X.env (eval (.Name x p') X.env)=eval (.Name x p') X.env) zu2._auto_1)
  (hfew :autoParam (((backTo cpos (starEach [e] X.env)).all (fun x => !x.1) && (backToKw cpos (keywordEach [] X.env)).all (fun x => x.1.isSome)
   &&decide ([e].length+([]:List Keyword).length+(if([]:List Keyword).isEmpty then 0 else 1)<30))=true) zu2._auto_1)
  (hline:autoParam ((apos.endLine==cpos.line)=true) zu2._auto_1) (hs:autoParam (starEach [e] X.env=(false,eval e X.env)::starEach [] X.env) zu2._auto_1):SS X (.Expr (.Call (.Attribute (.Name x p') "append" apos) [e] [] cpos) pos) (sTAo i mo):=by
 obtain⟨te,pe,so⟩:=ho
 refine⟨_,zkM (pe_bm PySem.F.plainAttrs_list PySem.F.slot_list_append PySem.F.type_list_append zie (za6 hN hv hd hcd) (zcn pe zf4 hs) hbase hfew hline hs rfl) (by rfl),fun B G H σ ρ fl ρ' E I hm k=>?_⟩
 unfold sTAo at hm
 split at hm
 ·rename_i cs0 e0
  obtain⟨v0,A0,q1,⟨p,xs0,A0',rfl,q2,q3,rfl⟩,-,-⟩:=I.slot i _ e0
  obtain⟨⟨ds,ρ1⟩,e1,hm⟩:=zad hm
  dsimp only at hm
  split at hm
  ·rename_i cs e2
   split at hm
   ·rename_i hl
    cases hm
    refine⟨.ref p,q1,.inl ⟨rfl,_,SqL.of q2⟩,so B G H σ ρ ds ρ1 _ I e1 fun G1 H1 l ys I1 f1 g1 h1 r1 b1 n1=>?_⟩
    obtain⟨v,A,k1,k2,k3,k4⟩:=I1.slot i _ e2
    rw[q1]at k1;cases k1
    have k2':=k2
    obtain⟨p2,xs,A',z,w1,w2,rfl⟩:=k2
    cases z
    have lp:l≠p:=fun z=>n1 i _ e2 ⟨_,_,q1,k2',by rw[z];simp⟩
    have lA:l∉A':=fun m=>n1 i _ e2 ⟨_,_,q1,k2',by simp[m]⟩
    have pA:=(List.nodup_cons.mp k3).1
    refine⟨p,xs,.ref l,rfl,rfl,w1,by rw[zc3 w2,sizeLine_eq];exact hl,?_⟩
    have rep:RepT X.K G1 (upd H1 p (.lst (xs++[.ref l]))) (.ref p) (.lst (cs++[.l ds])) (p::(A'++[l])):=
     ⟨p,_,A'++[l],rfl,zat,ziZ (w2.move (Fz.refl G1) fun a m=>zaq fun z=>pA (by rw[<-z];exact m)) ⟨l,ys,rfl,by rw[zaq lp];exact h1,r1,rfl⟩,rfl⟩
    refine k G1 _ σ (I1.chT2 e2 q1 k2' (I1.fz.right (k4 p (by simp)).1 _) (fun b o n h=>by rw[zaq (fun z=>n (by simp[z]))];exact h) (fun b h=>?_) rep ?_ fun a m=>?_) f1
    ·by_cases z:b=p
     ·subst z;rw[zat]at h;cases h
     ·rw[zaq z]at h;exact h
    ·refine List.nodup_cons.mpr ⟨fun m=>?_,List.nodup_append.mpr ⟨(List.nodup_cons.mp k3).2,by simp,fun a ma b mb z=>?_⟩⟩
     ·rcases List.mem_append.mp m with m|m
      ·exact pA m
      ·exact lp (by simpa using m:p=l).symm
     ·have:b=l:=by simpa using mb
      subst this;subst z;exact lA ma
    ·rcases List.mem_cons.mp m with rfl|m
     ·exact .inl (by simp)
     rcases List.mem_append.mp m with m|m
     ·exact .inl (by simp[m])
     ·have:a=l:=by simpa using m
      subst this
      exact .inr ⟨g1,b1,n1⟩
   ·cases hm
  ·cases hm
 ·cases hm
theorem zoF:∀{cs:List Ch} {xss:List (List D)},zhG cs=some xss->cs=xss.map .l
 |[],_,h=>by cases h;rfl
 | .l ds::cs,_,h=>by obtain⟨yss,e1,e2⟩:=zau h;cases e2;rw[zoF e1];rfl
 | .d _::_,_,h=>by cases h
 | .t _::_,_,h=>by cases h
theorem sc_tab (i:Nat){r:MP'}(hr:SP' X es r)(hN:autoParam (X.N[i]? =some x) zu2._auto_1)(hv:autoParam (Vis X.env.scope x) zu6._auto_1)(hd:autoParam ((x==("__debug__":Str))=false) zu1._auto_1)
  (hcd:autoParam ((x==("__classdict__":Str))=false) zu1._auto_1) (hs:autoParam (starEach (.Name x p'::es) X.env=(false,eval (.Name x p') X.env)::starEach es X.env) zu2._auto_1):SP' X (.Name x p'::es) (cTab i r):=by
 obtain⟨u,q,z⟩:=hr
 refine⟨_,zcn (za6 hN hv hd hcd) q hs,fun B G H σ ρ cs ρ' Q I hm k=>?_⟩
 unfold cTab at hm
 split at hm
 ·rename_i cs0 e
  obtain⟨xss,e0,hm⟩:=zad hm
  obtain⟨⟨cs1,ρ1⟩,e1,e2⟩:=zau hm
  cases e2
  cases zoF e0
  obtain⟨v,A0,h1,h2,h3,h4⟩:=I.slot i _ e
  have h2':=h2
  obtain⟨p,xs,A',rfl,g1,g2,rfl⟩:=h2
  have I1:=I.emp i
  have n1:∀a∈p::A',Nw X.K G H σ (ρ.set i .emp) a:=fun a m=>zoG I e ⟨_,_,h1,h2',m⟩
  refine⟨.ref p,h1,z (B.re X.K G H σ (ρ.set i .emp)) G H σ _ cs1 ρ1 _ I1.re e1 fun G1 H1 vs A J f1 r1 nd hA=>?_⟩
  have st:∀a∈p::A',H1 a=H a/\G1 a=none/\Nw X.K G1 H1 σ ρ1 a:=fun a m=>by
   obtain⟨o,ho⟩:=Option.ne_none_iff_exists'.mp (h2'.here m)
   obtain⟨b1,b2,b3⟩:=I1.re_stays J ho (n1 a m) (h4 a m).1 (h4 a m).2
   exact⟨b1.trans ho.symm,b2,b3⟩
  have nl:∀a∈p::A',a∉A:=fun a m m'=>by
   obtain⟨o,ho⟩:=Option.ne_none_iff_exists'.mp (h2'.here m)
   have hb:(B.re X.K G H σ (ρ.set i .emp)).H a=some o:=zk2 ho (n1 a m)
   rw[(hA a m').2.1]at hb;cases hb
  refine k G1 H1 (.ref p::vs) ((p::A')++A) (I1.unre J) f1 ⟨p::A',A,⟨p,xs,A',rfl,by rw[(st p (by simp)).1];exact g1,(cs_tb g2).move f1 fun a m=>(st a (by simp[m])).1,rfl⟩,r1,rfl⟩ (List.nodup_append.mpr ⟨h3,nd,fun a ma b mb z=>nl a ma (by rw[z];exact mb)⟩) fun a m=>?_
  rcases List.mem_append.mp m with m|m
  ·exact⟨(st a m).2.1,(h4 a m).2,(st a m).2.2⟩
  ·exact⟨(hA a m).1,zgu I1 (hA a m).2.1,(hA a m).2.2⟩
 ·cases hm
theorem sq_mod {ma mb:MQ}(ha:SQ X a ma)(hb:SQ X b mb):SQ X (.BinOp a .Mod b pos) (qMod ma mb):=by
 obtain⟨ta,pa,sa⟩:=ha
 obtain⟨tb,pb,sb⟩:=hb
 refine⟨_,pe_op op_mod pa pb,fun B G H σ ρ d Q I hm k=>?_⟩
 obtain⟨va,e1,hm⟩:=zad hm
 obtain⟨vb,e2,hm⟩:=zad hm
 obtain⟨i,rfl⟩:∃n,va= .int n:=by cases va<;>first|exact⟨_,rfl⟩|cases hm
 obtain⟨j,rfl⟩:∃n,vb= .int n:=by cases vb<;>first|exact⟨_,rfl⟩|cases hm
 dsimp only at hm
 split at hm
 ·rename_i hj
  cases hm
  refine sa B G H σ ρ _ _ I e1 fun v1 r1=>sb B G H σ ρ _ _ I e2 fun v2 r2=>?_
  exact⟨i,j,r1,r2,hj,k _ rfl⟩
 ·cases hm
theorem sq_lenT (j:Nat)(ml:X.mg "len"=none)(hN:autoParam (X.N[j]? =some x) zu2._auto_1)(hv:autoParam (Vis X.env.scope x) zu6._auto_1)(hd:autoParam ((x==("__debug__":Str))=false) zu1._auto_1)
  (hcd:autoParam ((x==("__classdict__":Str))=false) zu1._auto_1) (hg:autoParam (Gl X "len") zu2._auto_1) (he:autoParam (starEach [.Name x p'] X.env=(false,eval (.Name x p') X.env)::starEach [] X.env) zu2._auto_1):SQ X (.Call (.Name "len" q') [.Name x p'] [] pos) (qLT j):=by
 refine⟨_,zgL zdu hg ml PySem.boot_len (zcn (za6 hN hv hd hcd) zf4 he) (by decide) (by decide) he rfl,fun B G H σ ρ d Q I hm k=>?_⟩
 unfold qLT at hm
 split at hm
 ·rename_i cs e
  cases hm
  obtain⟨v,A,h1,⟨p,xs,A',rfl,g1,g2,rfl⟩,h3,h4⟩:=I.slot j _ e
  refine⟨.ref p,h1,p,xs,rfl,.inl (SqL.of g1),?_⟩
  rw[zc3 g2]
  exact k _ rfl
 ·cases hm
theorem sq_lenR (j n:Nat){j1}{ipos spos:Pos}(ml:X.mg "len"=none)(hN:autoParam (X.N[j]? =some x) zu2._auto_1)(hv:autoParam (Vis X.env.scope x) zu6._auto_1)(hd:autoParam ((x==("__debug__":Str))=false) zu1._auto_1)
    (hcd:autoParam ((x==("__classdict__":Str))=false) zu1._auto_1) (hg:autoParam (Gl X "len") zu2._auto_1) (he:autoParam (starEach [.Subscript (.Name x p') (.Constant (.int n) j1 ipos) spos] X.env=(false,eval (.Subscript (.Name x p') (.Constant (.int n) j1 ipos) spos) X.env)::starEach [] X.env) zu2._auto_1) (hsi:autoParam (zdH (.Constant (.int n) j1 ipos)) zu7._auto_1):SQ X (.Call (.Name "len" q') [.Subscript (.Name x p') (.Constant (.int n) j1 ipos) spos] [] pos) (qLR j n):=by
  refine⟨_,zgL zdu hg ml PySem.boot_len (zcn (zj8 ix_list (za6 hN hv hd hcd) zox hsi) zf4 he) (by decide) (by decide) he rfl,fun B G H σ ρ d Q I hm k=>?_⟩
  unfold qLR at hm
  split at hm
  . rename_i cs e
    split at hm
    . rename_i ds e2
      cases hm
      obtain⟨v,A,h1,⟨p,xs,A',rfl,g1,g2,rfl⟩,h3,h4⟩:=I.slot j _ e
      obtain⟨w,A1,q1,⟨l,ys,rfl,q2,q3,-⟩,-⟩:=zc8 g2 e2
      have at1:atI xs (n:Int)=some (.ref l):=by
        obtain⟨hlt,hx⟩:=List.getElem?_eq_some_iff.mp q1
        unfold atI ixN
        simp[hlt,hx]
      refine⟨.ref p,h1,p,xs,n,.ref l,rfl,rfl,SqL.of g1,at1,l,ys,rfl,.inl (SqL.of q2),?_⟩
      rw[q3.length]
      exact k _ rfl
    . cases hm
  . cases hm
theorem zkp:PGet X (rIxL X.K):=by
 intro pins s σ H x y v u Q I rx ry h
 obtain⟨p,xs,i,z,rfl,rfl,hq,he,q⟩:=h
 cases rx
 obtain⟨t,rfl⟩:=ry
 obtain⟨its,r,pl,hz⟩:=I.list hq
 obtain⟨j,h1,h2,h3,h4,h5⟩:=zjO he
 obtain⟨w,ew,rw'⟩:=r.get h2
 have hl:=r.length
 have hn:=zhV
 have fin:EP X pins σ Q w s:=⟨z,H,I,rw',q⟩
 by_cases h0:0<=i
 ·have hj:i.toNat=j:=by
   rw[seqIndex_of h0 h5]at h1
   exact Option.some.inj h1
  exact wpAny_getItem_list pl.isList h0 (by lia) (by rw[hj];simpa using ew) fin
 ·have hj:(i+(its.toArray.size:Int)).toNat=j:=by
   rw[seqIndex_neg (by lia) h4]at h1
   rw[List.size_toArray,<-hl]
   exact Option.some.inj h1
  exact wpAny_getItem_list_neg pl.isList (by lia) (by rw[List.size_toArray]<;>lia) (by lia) (by rw[hj];simpa using ew) fin
theorem ss_tAug (j:Nat){mi mk me:MQ}(ha:SQ X a mi)(hb:SQ X b mk)(he:SQ X e me)(hN:autoParam (X.N[j]? =some x) zu2._auto_1)(hv:autoParam (Vis X.env.scope x) zu6._auto_1)(hd:autoParam ((x==("__debug__":Str))=false) zu1._auto_1)
  (hcd:autoParam ((x==("__classdict__":Str))=false) zu1._auto_1) (hsa:autoParam (zdH a) zu7._auto_1)
  (hau:autoParam (∀ov iv new,augStore b ov iv new=(do holding [new,ov,iv] (setItem ov iv new);release [new,ov,iv] [];pure .next)) zu4._auto_1):SS X (.AugAssign (.Subscript (.Subscript (.Name x p') a q') b tpos) .Add e pos) (sTG j mi mk me):=by
 obtain⟨ta,pa,sa⟩:=ha
 obtain⟨tb,pb,sb⟩:=hb
 obtain⟨te,pe,se⟩:=he
 refine⟨_,znj (zj8 ix_list (za6 hN hv hd hcd) pa hsa) pb zkp pe znb zhL hau,fun B G H σ ρ fl ρ' E I hm k=>?_⟩
 obtain⟨va,e1,hm⟩:=zad hm
 obtain⟨vb,e2,hm⟩:=zad hm
 obtain⟨vc,e3,hm⟩:=zad hm
 obtain⟨n,rfl⟩:∃n,va= .int n:=by cases va<;>first|exact⟨_,rfl⟩|cases hm
 obtain⟨m,rfl⟩:∃n,vb= .int n:=by cases vb<;>first|exact⟨_,rfl⟩|cases hm
 obtain⟨z,rfl⟩:∃n,vc= .int n:=by cases vc<;>first|exact⟨_,rfl⟩|cases hm
 split at hm
 ·rename_i x1 x2 x3 x4 n' m' z' cs y1 y2 y3 e4
  cases y1;cases y2;cases y3
  obtain⟨u,e5,hm⟩:=zad hm
  split at hm
  ·rename_i ds e6
   obtain⟨w,e7,hm⟩:=zad hm
   split at hm
   ·rename_i yy e8
    cases hm
    obtain⟨v0,A,q1,q2,q3,q4⟩:=I.slot j _ e4
    have q2':=q2
    obtain⟨p,xs,A',rfl,g1,g2,rfl⟩:=q2
    obtain⟨y,A1,j1,⟨l,ys,rfl,j2,j3,j4⟩,j5⟩:=zc8 g2 e6
    have lA:l∈A':=j5 l (by rw[j4];simp)
    have nd:=List.nodup_cons.mp q3
    obtain⟨x0,x1,x2⟩:=j3.get e8
    refine⟨.ref p,q1,sa B G H σ ρ _ _ I e1 fun v1 w1=>?_⟩
    refine⟨p,xs,n,.ref l,rfl,w1,SqL.of g1,ziH (by rw[zc3 g2];exact e5) j1,sb B G H σ ρ _ _ I e2 fun v2 w2=>?_⟩
    refine⟨l,ys,m,x0,rfl,w2,SqL.of j2,ziH (by rw[j3.length];exact e7) x1,se B G H σ ρ _ _ I e3 fun v3 w3=>?_⟩
    refine⟨yy,z,x2,w3,l,ys,m,w,rfl,w2,j2,by rw[j3.length];exact e7,?_⟩
    have rep:RepT X.K G (upd H l (.lst (ys.set w (.int (yy+z))))) (.ref p) (.lst (cs.set u (.l (ds.set w (.int (yy+z)))))) (p::A'):=
     ⟨p,xs,A',rfl,by rw[zaq fun z=>nd.1 (by rw[z];exact lA)];exact g1,zg7 g2 nd.2 e6 j1 (j3.set w rfl),rfl⟩
    refine k G _ σ (I.chT2 e4 q1 q2' (I.fz.right (q4 l (by simp[lA])).1 _) (fun b o nb h=>by rw[zaq (fun z=>nb (by rw[z];simp[lA]))];exact h) (fun b h=>?_) rep q3 fun a m=> .inl m) (Fz.refl G)
    by_cases z:b=l
    ·subst z;rw[zat]at h;cases h
    ·rw[zaq z]at h;exact h
   ·cases hm
  ·cases hm
 ·cases hm
end
noncomputable def eDGT2 (j:Nat)(c:Int)(mk:ME):ME:=fun ρ=>if(ρ[j]?.bind Sl.dit).isSome then(mk ρ).bind fun p=>(keyT p.1).bind fun k=>(p.2[j]?.bind Sl.dit).map fun q=>((lkD q.1 q.2 k).getD (.int c),p.2)else none
section
variable {X:Cx} {o e f a b:Expr} {td ty:TE} {apos cpos pos:Pos}
noncomputable def tDGT2 (td ty:TE)(c:Int):TE:=fun σ H Q=>td σ H fun x H1=>(∃(a:Addr) (o:Obj) (xs:List (List L2.Key×Addr×Value)) (ks:List (List Int)) (ys:List (List L2.Key×V)),x= .ref a/\H1 a=some (kn a o)/\DtI H1 a o xs ks ys)/\ty σ H1 fun y H2=>∃r,DtG H2 x y r/\Q (r.getD (.int c)) H2
theorem znh {jc}(hu:X.A.units+1<cLine)(ho:PE X o td)(he:PE X e ty)(m:M2 X o "get" apos e (.Constant (.int c) jc pc) cpos):PE X (.Call (.Attribute o "get" apos) [e,.Constant (.int c) jc pc] [] cpos) (tDGT2 td ty c):=by
 intro pins s σ H Q I h
 refine wpAny_Call_method m.base m.few m.line PySem.F.plainAttrs_dict PySem.F.slot_dict_get PySem.F.type_dict_get (thn (ho pins s σ H _ I h) fun u s1 ⟨x,H1,I1,rx,⟨a,ob,xs,ks,ys,ex,d1,d2⟩,q1⟩=>?_)
 subst ex
 obtain rfl:u=Value.ref a:=rx
 have dd1:=d2.of I1.hok d1
 refine⟨dd1.typeIs,fun b q=>?_,?_⟩
 ·cases q
  obtain⟨ob,_,_,h1,h2,_⟩:=dd1
  exact⟨ob,h1,h2.2.1⟩
 rw[m.trees]
 refine Calls.callWith_builtin rfl (Calls.evalArgs_plain (Calls.spliced_cons (thn (he pins s1 σ H1 _ I1 q1) fun iv s2 ⟨y,H2,I2,ry,r,g,q2⟩=>
  Calls.spliced_cons (thn ((zox (i:=c) (j:=jc) (pos:=pc)) pins s2 σ H2 (fun v H'=>v= .int c/\H'=H2) I2 ⟨rfl,rfl⟩) fun fv s3 ⟨z,H3,I3,rz,ez,eH⟩=>Calls.spliced_nil ?_))))
 subst ez;subst eH
 obtain⟨a',b,o',xs',ks',ys',k,ex,rfl,g1,g2,g3,g4⟩:=g
 cases ex
 obtain rfl:iv=Value.ref b:=ry
 have dd:=g2.of I3.hok g1
 refine call_meetsIn PySem.F.slot_dict_get dd.typeIs PySem.F.entry_dict_get (PySem.F.args_dict_get_3 _ _ _) (meetsH_dict_get_default (tupleKind (zbU X.prog X.w)) a b g2.sys fv) ⟨tupleKind_room_in1 hu,k.map kI,xs',zlV I3.hok g3,dd,?_⟩
 refine⟨_,H3,I3.tok _,?_,q2⟩
 rw[g4]
 exact(KT.val g2.kt _).getD rz
variable {x:Str} {mk:ME} {p':Pos}
theorem znO (j:Nat){jc}(hu:X.A.units+64<cLine)(ha:SE X a mk)(m:M2 X (.Name x p') "get" apos a (.Constant (.int c) jc pc) pos)(hN:autoParam (X.N[j]? =some x) zu2._auto_1)(hv:autoParam (Vis X.env.scope x) zu6._auto_1)(hd:autoParam ((x==("__debug__":Str))=false) zu1._auto_1)
  (hcd:autoParam ((x==("__classdict__":Str))=false) zu1._auto_1):SE X (.Call (.Attribute (.Name x p') "get" apos) [a,.Constant (.int c) jc pc] [] pos) (eDGT2 j c mk):=by
 obtain⟨t,pa,sa⟩:=ha
 refine⟨_,znh (show X.A.units+1<cLine by lia) (za6 hN hv hd hcd) pa m,fun B G H σ ρ d ρ' Q I hm k=>?_⟩
 unfold eDGT2 at hm
 split at hm
 ·rename_i hso
  obtain⟨q0,hso⟩:=Option.isSome_iff_exists.mp hso
  obtain⟨s0,e0,d0⟩:=zad hso
  obtain⟨p,ys0,o0,xs0,k1,k2,k3,_⟩:=I.dit e0 d0
  obtain⟨⟨y,ρ1⟩,e1,hm⟩:=zad hm
  refine⟨.ref p,k1,⟨p,o0,xs0,_,ys0,rfl,k2,k3.mono I.fz⟩,sa B G H σ ρ y ρ1 _ I e1 fun G1 H1 v I1 f1 r1=>?_⟩
  obtain⟨n,en,hm⟩:=zad hm
  obtain⟨q,e2,hm⟩:=zau hm
  cases hm
  obtain⟨s,e5,e6⟩:=zad e2
  obtain⟨p',ys,o,xs,m1,m2,m3,m4⟩:=I1.dit e5 e6
  rw[k1]at m1;cases m1
  obtain⟨b,rfl,hb⟩:=zlg r1 en
  refine⟨valV ys (n.map kI),⟨p,b,o,xs,q.1,ys,n,rfl,rfl,m2,m3.mono I1.fz,I1.fz _ _ hb,rfl⟩,?_⟩
  cases h:lkD q.1 q.2 n with
  |none=>rw[h]at k;rw[zn6 zjb m3.key m4 h];exact k G1 H1 _ I1 f1 rfl
  |some d=>rw[h]at k;obtain⟨w,h1,h2⟩:=zkN zjb m3.key m4 h;rw[h1];exact k G1 H1 w I1 f1 h2
 ·cases hm
end
mutual
noncomputable def plD:D->Bool
 | .non=>true
 | .bl _=>true
 | .int _=>true
 | .lst ds=>plDL ds
 | .tup ds=>plDL ds
 |_=>false
noncomputable def plDL:List D->Bool
 |[]=>true
 |d::ds=>plD d&&plDL ds
end
noncomputable def dInP (neg:Bool)(a b:D):Option D:=match b with
 | .lst ds=>if plD a&&plDL ds&&decide (depth a<=50)then some (.bl (if neg then !ds.any fun y=>eqB y a else ds.any fun y=>eqB y a))else none
 |_=>none
mutual
theorem znX:∀d:D,plD d=true->noS d=true
 | .non,_=>rfl
 | .bl _,_=>rfl
 | .int _,_=>rfl
 | .lst ds,h=>by simp only[noS];exact zhP ds (by simpa only[plD]using h)
 | .tup ds,h=>by simp only[noS];exact zhP ds (by simpa only[plD]using h)
 | .str _,h=>by cases h
 | .scr _,h=>by cases h
 | .exc _,h=>by cases h
 | .dic _ _,h=>by cases h
 | .dit _ _,h=>by cases h
theorem zhP:∀ds:List D,plDL ds=true->noSL ds=true
 |[],_=>rfl
 |d::ds,h=>by simp only[plDL,Bool.and_eq_true]at h;simp only[noSL,znX d h.1,zhP ds h.2];rfl
end
mutual
theorem znf:∀d:D,plD d=true->(toPy d).canLay0=true
 | .non,_=>by simp only[toPy,PyData.canLay0]
 | .bl _,_=>by simp only[toPy,PyData.canLay0]
 | .int _,_=>by simp only[toPy,PyData.canLay0]
 | .lst ds,h=>by simp only[toPy,PyData.canLay0];exact zhR ds (by simpa only[plD]using h)
 | .tup ds,h=>by simp only[toPy,PyData.canLay0];exact zhR ds (by simpa only[plD]using h)
 | .str _,h=>by cases h
 | .scr _,h=>by cases h
 | .exc _,h=>by cases h
 | .dic _ _,h=>by cases h
 | .dit _ _,h=>by cases h
theorem zhR:∀ds:List D,plDL ds=true->PyData.canLayAll0 (zd9 ds)=true
 |[],_=>by simp only[zd9,PyData.canLayAll0]
 |d::ds,h=>by simp only[plDL,Bool.and_eq_true]at h;simp only[zd9,PyData.canLayAll0,znf d h.1,zhR ds h.2];rfl
end
mutual
theorem zoo:∀a b:D,plD a=true->plD b=true->PyData.eqv (toPy a) (toPy b)=eqB a b
 | .non,b,_,h=>by
  cases b with
  |non=>simp only[toPy,PyData.eqv,eqB]
  |bl _=>simp only[toPy,PyData.eqv,eqB]
  |int _=>simp only[toPy,PyData.eqv,eqB]
  |lst _=>simp only[toPy,PyData.eqv,eqB]
  |tup _=>simp only[toPy,PyData.eqv,eqB]
  |_=>cases h
 | .bl _,b,_,h=>by
  cases b with
  |non=>simp only[toPy,PyData.eqv,eqB]
  |bl _=>simp only[toPy,PyData.eqv,eqB]
  |int _=>simp only[toPy,PyData.eqv,eqB]
  |lst _=>simp only[toPy,PyData.eqv,eqB]
  |tup _=>simp only[toPy,PyData.eqv,eqB]
  |_=>cases h
 | .int _,b,_,h=>by
  cases b with
  |non=>simp only[toPy,PyData.eqv,eqB]
  |bl _=>simp only[toPy,PyData.eqv,eqB]
  |int _=>simp only[toPy,PyData.eqv,eqB]
  |lst _=>simp only[toPy,PyData.eqv,eqB]
  |tup _=>simp only[toPy,PyData.eqv,eqB]
  |_=>cases h
 | .lst as,b,g,h=>by
  cases b with
  |lst bs=>simp only[toPy,PyData.eqv,eqB];exact zjA as bs (by simpa only[plD]using g) (by simpa only[plD]using h)
  |non=>simp only[toPy,PyData.eqv,eqB]
  |bl _=>simp only[toPy,PyData.eqv,eqB]
  |int _=>simp only[toPy,PyData.eqv,eqB]
  |tup _=>simp only[toPy,PyData.eqv,eqB]
  |_=>cases h
 | .tup as,b,g,h=>by
  cases b with
  |tup bs=>simp only[toPy,PyData.eqv,eqB];exact zjA as bs (by simpa only[plD]using g) (by simpa only[plD]using h)
  |non=>simp only[toPy,PyData.eqv,eqB]
  |bl _=>simp only[toPy,PyData.eqv,eqB]
  |int _=>simp only[toPy,PyData.eqv,eqB]
  |lst _=>simp only[toPy,PyData.eqv,eqB]
  |_=>cases h
 | .str _,_,h,_=>by cases h
 | .scr _,_,h,_=>by cases h
 | .exc _,_,h,_=>by cases h
 | .dic _ _,_,h,_=>by cases h
 | .dit _ _,_,h,_=>by cases h
theorem zjA:∀as bs:List D,plDL as=true->plDL bs=true->PyData.eqvAll (zd9 as) (zd9 bs)=eqBL as bs
 |[],[],_,_=>by simp only[zd9,PyData.eqvAll,eqBL]
 |[],_::_,_,_=>by simp only[zd9,PyData.eqvAll,eqBL]
 |_::_,[],_,_=>by simp only[zd9,PyData.eqvAll,eqBL]
 |a::as,b::bs,g,h=>by
  simp only[plDL,Bool.and_eq_true]at g h
  simp only[zd9,PyData.eqvAll,eqBL,zoo a b g.1 h.1,zjA as bs g.2 h.2]
end
mutual
theorem ziT:∀d:D,plD d=true->(toPy d).depth=depth d
 | .non,_=>by simp only[toPy,PyData.depth,depth]
 | .bl _,_=>by simp only[toPy,PyData.depth,depth]
 | .int _,_=>by simp only[toPy,PyData.depth,depth]
 | .lst ds,h=>by simp only[toPy,PyData.depth,depth,zgm ds (by simpa only[plD]using h)]
 | .tup ds,h=>by simp only[toPy,PyData.depth,depth,zgm ds (by simpa only[plD]using h)]
 | .str _,h=>by cases h
 | .scr _,h=>by cases h
 | .exc _,h=>by cases h
 | .dic _ _,h=>by cases h
 | .dit _ _,h=>by cases h
theorem zgm:∀ds:List D,plDL ds=true->PyData.depthAll (zd9 ds)=zdP ds
 |[],_=>by simp only[zd9,PyData.depthAll,zdP]
 |d::ds,h=>by simp only[plDL,Bool.and_eq_true]at h;simp only[zd9,PyData.depthAll,zdP,ziT d h.1,zgm ds h.2]
end
theorem zlM (a:D)(ha:plD a=true):∀ds:List D,plDL ds=true->(zd9 ds).any (fun y=>PyData.eqv y (toPy a))=ds.any fun y=>eqB y a
 |[],_=>rfl
 |d::ds,h=>by
  simp only[plDL,Bool.and_eq_true]at h
  simp only[zd9,List.any_cons,zoo d a h.1 ha,zlM a ha ds h.2]
noncomputable def rInP (K:W.Frag)(neg:Bool):R2:=fun x y H Q=>∃G a ds,Fz G H/\RepD K G x a/\RepD K G y (.lst ds)/\plD a=true/\plDL ds=true/\depth a<=50/\Q (.bl (if neg then !ds.any fun y=>eqB y a else ds.any fun y=>eqB y a)) H
section
variable {X:Cx} {a b:Expr} {ma mb:ME} {pos:Pos}
theorem op_inP (hu:X.A.units+64<cLine):OpR X (compareOp .In) (rInP X.K false):=by
 intro pins s σ H x y v u Q I rx ry h
 obtain⟨G,d,ds,fz,ra,rb,na,nb,hd,q⟩:=h
 obtain⟨as,r1⟩:=zkJ I fz (znX d na) ra rx
 obtain⟨bs,r2⟩:=zkJ I fz (d:= .lst ds) (by simp only[noS];exact zhP ds nb) rb ry
 simp only[toPy]at r2
 refine SeqAt.in_list_reads r2 r1 (zhR ds nb) (znf d na) ?_ ?_
 ·rw[ziT d na];have:=Nat.min_le_right (PyData.depthAll (zd9 ds)) (depth d);lia
 ·rw[zlM d na ds nb];exact⟨.bl _,H,I,rfl,q⟩
theorem v2_inP (neg:Bool):V2 X (rInP X.K neg) (dInP neg):=by
 intro B G H σ ρ x y a b d Q I ra rb hf k
 unfold dInP at hf
 split at hf
 ·rename_i ds
  split at hf
  ·rename_i h
   simp only[Bool.and_eq_true,decide_eq_true_eq]at h
   cases hf
   exact⟨G,a,ds,I.fz,ra,rb,h.1.1,h.1.2,h.2,k G H _ I (Fz.refl G) rfl⟩
  ·cases hf
 ·cases hf
theorem bl_inP (neg:Bool)(x y d:D)(h:dInP neg x y=some d):∃t,d= .bl t:=by
 unfold dInP at h
 split at h
 ·split at h
  ·cases h;exact⟨_,rfl⟩
  ·cases h
 ·cases h
theorem st_inP (hu:X.A.units+64<cLine)(ha:SE X a ma)(hb:SE X b mb)(hm:autoParam (behindInMarks .In b=false) zu2._auto_1):STt X (.Compare a [.In] [b] pos) (tTru (m2 (dInP false) ma mb)):=zet (op_inP hu) (v2_inP false) (bl_inP false) ha hb hm
end
noncomputable def sRv (i:Nat):MS:=fun ρ=>match ρ[i]? with
 |some (.own ds)=>some (.next,ρ.set i (.own ds.reverse))
 |_=>none
noncomputable def sTGe (j:Nat)(mi mq:MQ)(me:ME):MS:=fun ρ=>if zcE (ρ.set j .emp)then(mi ρ).bind fun a=>(mq ρ).bind fun b=>(me (ρ.set j .emp)).bind fun p=>match a,b,p.1,ρ[j]? with
 | .int n,.int m,.int z,some (.tre (.lst cs))=>(ixN cs.length n).bind fun u=>match cs[u]? with
  |some (.l ds)=>(ixN ds.length m).bind fun w=>match ds[w]? with
   |some (.int y)=>some (.next,ρ.set j (.tre (.lst (cs.set u (.l (ds.set w (.int (y+z))))))))
   |_=>none
  |_=>none
 |_,_,_,_=>none else none
section
variable {X:Cx} {x:Str} {pos p' q' tpos:Pos} {a b e:Expr}
theorem si_of (I:SI K B G H σ ρ)(h:zcE ρ=true):SI K ⟨G,H,[]⟩ G H σ ρ where
 fz:=I.fz
 g0:=Fz.refl G
 new:=fun b o q=> .inl (by rw[show(⟨G,H,[]⟩:Bs).G b=G b from rfl,q];simp)
 keep:=fun b o q _=>q
 there:=fun b q=>q
 len:=I.len
 ob:=fun i b m=>by simp at m
 slot:=fun i s q=>by
  have r:=I.slot i s q
  have t:=zg6 h q
  have w:=zgO h (i:=i)
  cases s with
  |tre t'=>exact absurd rfl (t.1 t')
  |ptr t'=>exact absurd rfl (t.2 t')
  |own ds=>exact absurd ⟨_,ds,q,rfl⟩ w
  |par ds=>exact absurd ⟨_,ds,q,rfl⟩ w
  |_=>exact r
 dis:=fun i j s t a _ q _ w=>absurd w (zi2 h q)
theorem ss_tAugE (j:Nat){mi mk:MQ}{me:ME}(ha:SQ X a mi)(hb:SQ X b mk)(he:SE X e me)(hN:autoParam (X.N[j]? =some x) zu2._auto_1)(hv:autoParam (Vis X.env.scope x) zu6._auto_1)(hd:autoParam ((x==("__debug__":Str))=false) zu1._auto_1)
  (hcd:autoParam ((x==("__classdict__":Str))=false) zu1._auto_1) (hsa:autoParam (zdH a) zu7._auto_1)
  (hau:autoParam (∀ov iv new,augStore b ov iv new=(do holding [new,ov,iv] (setItem ov iv new);release [new,ov,iv] [];pure .next)) zu4._auto_1):SS X (.AugAssign (.Subscript (.Subscript (.Name x p') a q') b tpos) .Add e pos) (sTGe j mi mk me):=by
 obtain⟨ta,pa,sa⟩:=ha
 obtain⟨tb,pb,sb⟩:=hb
 obtain⟨te,pe,se⟩:=he
 refine⟨_,znj (zj8 ix_list (za6 hN hv hd hcd) pa hsa) pb zkp pe znb zhL hau,fun B G H σ ρ fl ρ' E I hm k=>?_⟩
 unfold sTGe at hm
 split at hm
 ·rename_i no
  obtain⟨va,e1,hm⟩:=zad hm
  obtain⟨vb,e2,hm⟩:=zad hm
  obtain⟨⟨vc,ρ3⟩,e3,hm⟩:=zad hm
  dsimp only at hm
  obtain⟨n,rfl⟩:∃n,va= .int n:=by cases va<;>first|exact⟨_,rfl⟩|cases hm
  obtain⟨m,rfl⟩:∃n,vb= .int n:=by cases vb<;>first|exact⟨_,rfl⟩|cases hm
  obtain⟨z,rfl⟩:∃n,vc= .int n:=by cases vc<;>first|exact⟨_,rfl⟩|cases hm
  split at hm
  ·rename_i x1 x2 x3 x4 n' m' z' cs y1 y2 y3 e4
   cases y1;cases y2;cases y3
   obtain⟨u,e5,hm⟩:=zad hm
   split at hm
   ·rename_i ds e6
    obtain⟨w,e7,hm⟩:=zad hm
    split at hm
    ·rename_i yy e8
     cases hm
     obtain⟨v0,A,q1,q2,q3,q4⟩:=I.slot j _ e4
     have q2':=q2
     obtain⟨p,xs,A',rfl,g1,g2,rfl⟩:=q2
     obtain⟨y,A1,j1,⟨l,ys,rfl,j2,j3,j4⟩,j5⟩:=zc8 g2 e6
     have lA:l∈A':=j5 l (by rw[j4];simp)
     have nd:=List.nodup_cons.mp q3
     obtain⟨x0,x1,x2⟩:=j3.get e8
     refine⟨.ref p,q1,sa B G H σ ρ _ _ I e1 fun v1 w1=>?_⟩
     refine⟨p,xs,n,.ref l,rfl,w1,SqL.of g1,ziH (by rw[zc3 g2];exact e5) j1,sb B G H σ ρ _ _ I e2 fun v2 w2=>?_⟩
     refine⟨l,ys,m,x0,rfl,w2,SqL.of j2,ziH (by rw[j3.length];exact e7) x1,?_⟩
     refine se _ G H σ _ _ ρ3 _ (si_of (I.emp j) no) e3 fun G1 H1 v3 J1 f1 w3=>?_
     have kp:Fz H H1:=fun b o q=>J1.keep b o q fun i m=>by simp at m
     have nw:∀b o,G1 b=some o->G b≠none\/H b=none:=fun b o q=>J1.new b o q
     have I1:=I.grow f1 J1.fz nw kp
     have kpA:∀a∈p::A',H1 a=H a:=fun a m=>by
      obtain⟨o,ho⟩:=Option.ne_none_iff_exists'.mp (q2'.here m)
      rw[ho];exact kp _ _ ho
     have h2n:=q2'.move f1 kpA
     have g2n:RepCs X.K G1 H1 xs cs A':=g2.move f1 fun a m=>kpA a (by simp[m])
     refine⟨yy,z,x2,w3,l,ys,m,w,rfl,w2,kp _ _ j2,by rw[j3.length];exact e7,?_⟩
     have rep:RepT X.K G1 (upd H1 l (.lst (ys.set w (.int (yy+z))))) (.ref p) (.lst (cs.set u (.l (ds.set w (.int (yy+z)))))) (p::A'):=
      ⟨p,xs,A',rfl,by rw[zaq fun z=>nd.1 (by rw[z];exact lA)];exact kp _ _ g1,zg7 g2n nd.2 e6 j1 ((j3.mono f1).set w rfl),rfl⟩
     have gl:G1 l=none:=by
      obtain⟨v5,A5,r1,r2,r3,r4⟩:=I1.slot j _ e4
      rw[q1]at r1;cases r1
      have:A5=p::A':=r2.det h2n fun _ _=>rfl
      exact(r4 l (by rw[this];simp[lA])).1
     refine k G1 _ σ (I1.chT2 e4 q1 h2n (I1.fz.right gl _) (fun b o nb h=>by rw[zaq (fun z=>nb (by rw[z];simp[lA]))];exact h) (fun b h=>?_) rep q3 fun a m=> .inl m) f1
     by_cases z:b=l
     ·subst z;rw[zat]at h;cases h
     ·rw[zaq z]at h;exact h
    ·cases hm
   ·cases hm
  ·cases hm
 ·cases hm
end
noncomputable def zn3 (b c:Nat)(ρ:R):Bool:=match ρ[b]?,ρ[c]? with
 |some (.par _),some (.par _)=>zcE ((ρ.set b .emp).set c .emp)
 |_,_=>false
noncomputable def turnQ (b c:Nat)(g:D->R->Option R)(mt:MT)(me:ME):D->R->Option (Option D×R):=fun d ρ=>(g d ρ).bind fun ρ1=>(mt ρ1).bind fun p=>if p.1 then(me p.2).bind fun q=>if zn3 b c q.2 then some (some q.1,q.2)else none else if zn3 b c p.2 then some (none,p.2)else none
mutual
noncomputable def tpD:D->Bool
 | .non=>true
 | .bl _=>true
 | .int _=>true
 | .str _=>true
 | .tup ds=>tpL ds
 |_=>false
noncomputable def tpL:List D->Bool
 |[]=>true
 |d::ds=>tpD d&&tpL ds
end
noncomputable def eLk2 (j k:Nat)(m:ME):ME:=fun ρ=>match ρ[j]?,ρ[k]? with
 |some (.tre (.lst cs)),some (.tre (.lst ds))=>(m ((ρ.set j (.val (.lst (cs.map Ch.D)))).set k (.val (.lst (ds.map Ch.D))))).bind fun p=>
  if tpD p.1&&(((ρ.set j .emp).set k .emp).zip p.2).all (fun q=>zoJ q.1 q.2)then some (p.1,ρ)else none
 |_,_=>none
mutual
theorem zkC (h:∀a xs,G a=some (.tup xs)->G' a=some (.tup xs)){v:V}:∀{d:D},tpD d=true->RepD K G v d->RepD K G' v d
 | .non,_,r=>r
 | .bl _,_,r=>r
 | .int _,_,r=>r
 | .str _,_,r=>r
 | .tup ds,e,⟨a,xs,e1,e2,e3⟩=>⟨a,xs,e1,h _ _ e2,zkv h e e3⟩
 | .lst _,e,_=>nomatch e
 | .scr _,e,_=>nomatch e
 | .exc _,e,_=>nomatch e
 | .dic _ _,e,_=>nomatch e
 | .dit _ _,e,_=>nomatch e
theorem zkv (h:∀a xs,G a=some (.tup xs)->G' a=some (.tup xs)):∀{ds:List D} {xs:List V},tpL ds=true->RepL K G xs ds->RepL K G' xs ds
 |[],_,_,r=>r
 |d::ds,xs,e,⟨x,ys,e1,e2,e3⟩=>by
  have e':=Bool.and_eq_true_iff.mp (show(tpD d&&tpL ds)=true from e)
  exact⟨x,ys,e1,zkC h e'.1 e2,zkv h e'.2 e3⟩
end
theorem SI.fzTx {G H:Hp}(I:SI K B G H σ ρ)(e:ρ[j]? =some (.tre (.lst cs))):
  ∃v A,σ[j]? =some (some v)/\RepT K G H v (.lst cs) A/\(∀a∈A,∃xs,H a=some (.lst xs))/\SI K B (frA G H A) H σ (ρ.set j (.val (.lst (cs.map Ch.D))))/\Fz G (frA G H A):=by
 obtain⟨v,A,h1,h2,h3,h4⟩:=I.slot j _ e
 have h2':=h2
 obtain⟨p,xs,A',rfl,g1,g2,rfl⟩:=h2
 have I1:=I.emp j
 have hA:∀a∈p::A',G a=none/\B.H a=none/\Nw K G H σ (ρ.set j .emp) a:=fun a m=>⟨(h4 a m).1,(h4 a m).2,zoG I e ⟨_,_,h1,h2',m⟩⟩
 have fg:=zlY (H:=H) fun a m=>(hA a m).1
 have I2:=(I1.frzA hA).set (i:=j) (v:= .ref p) (d:= .lst (cs.map Ch.D)) ⟨p,xs,rfl,by rw[zgV (by simp)];exact g1,zfU fg g2 fun a m=>zgV (by simp[m])⟩
 rw[zgv h1,List.set_set]at I2
 refine⟨_,_,h1,h2',fun a m=>?_,I2,fg⟩
 rcases List.mem_cons.mp m with rfl|m
 ·exact⟨_,g1⟩
 ·exact g2.here m
theorem zna {G H G2 H2:Hp}{s s1:Sl}(lk:zoJ s s1=true)(q:SlotOk K B G H i σ[i]? s)(q1:SlotOk K B G2 H2 i σ[i]? s1)(w:OwS K G H σ[i]? a s):G2 a=none/\H2 a=H a:=by
 cases s with
 |emp=>exact w.elim
 |two _ _=>exact w.elim
 |val d=>exact w.elim
 |tre _=>cases s1<;>cases lk
 |ptr _=>cases s1<;>cases lk
 |own d0=>
  cases s1 with
  |own d1=>
   obtain⟨ns,rfl,rfl⟩:=zkF lk
   obtain⟨a1,xs1,m1,m2,m3,m4,m5⟩:=q1
   obtain⟨a0,xs0,n1,n2,n3,n4,n5⟩:=q
   cases n1.symm.trans (show σ[i]? =some (some (.ref a))from w)
   cases n1.symm.trans m1
   exact⟨m2,by rw[m3,n3,RepL.ints_eq m4,RepL.ints_eq n4]⟩
  |_=>cases lk
 |par d0=>
  cases s1 with
  |par d1=>
   obtain⟨ns,rfl,rfl⟩:=zkF lk
   obtain⟨a1,xs1,m1,m2,m3,m4,m5⟩:=q1
   obtain⟨a0,xs0,n1,n2,n3,n4,n5⟩:=q
   cases n1.symm.trans (show σ[i]? =some (some (.ref a))from w)
   cases n1.symm.trans m1
   exact⟨m2,by rw[m3,n3,RepL.ints_eq m4,RepL.ints_eq n4]⟩
  |_=>cases lk
section
variable {X:Cx}
open Classical in
theorem zlm {c:Expr}{m:ME}(j k:Nat)(hjk:j≠k)(h:SE X c m):SE X c (eLk2 j k m):=by
 obtain⟨t,pt,so⟩:=h
 refine⟨t,pt,fun B G H σ ρ d ρ' Q I hm kk=>?_⟩
 unfold eLk2 at hm
 split at hm
 ·rename_i cs ds e1 e2
  obtain⟨⟨d',ρ1⟩,e3,hm⟩:=zad hm
  dsimp only at hm
  split at hm
  ·rename_i al
   cases hm
   obtain⟨tp,al⟩:=Bool.and_eq_true_iff.mp al
   obtain⟨v1,A1,s1,r1,l1,I1,f1⟩:=I.fzTx e1
   have e2':(ρ.set j (.val (.lst (cs.map Ch.D))))[k]? =some (.tre (.lst ds)):=by rw[List.getElem?_set_ne hjk];exact e2
   obtain⟨v2,A2,s2,r2,l2,I2,f2⟩:=I1.fzTx e2'
   refine so B _ H σ _ d ρ1 _ I2 e3 fun G3 H3 v I3 f3 r3=>?_
   have same1:∀a∈A1,G3 a=H a/\H3 a=H a:=fun a m=>by
    obtain⟨xs,hx⟩:=l1 a m
    have z:=f3 a _ (f2 a _ ((zgV m).trans hx))
    exact⟨z.trans hx.symm,(I3.fz a _ z).trans hx.symm⟩
   have same2:∀a∈A2,G3 a=H a/\H3 a=H a:=fun a m=>by
    obtain⟨xs,hx⟩:=l2 a m
    have z:=f3 a _ ((zgV m).trans hx)
    exact⟨z.trans hx.symm,(I3.fz a _ z).trans hx.symm⟩
   obtain⟨w1,B1,p1,p2,p3,p4⟩:=I.slot j _ e1
   obtain⟨w2,B2,o1,o2,o3,o4⟩:=I.slot k _ e2
   have ev1:v1=w1:=by rw[s1]at p1;cases p1;rfl
   subst ev1
   have ea1:=r1.det p2 fun _ _=>rfl
   subst ea1
   have ev2:v2=w2:=by rw[s2]at o1;cases o1;rfl
   subst ev2
   have ea2:=r2.det o2 fun _ _=>rfl
   subst ea2
   have fg:Fz G (fun a=>if a∈A1\/a∈A2 then none else G3 a):=fun a o e=>by
    have n:¬(a∈A1\/a∈A2):=fun h=>by
     rcases h with h|h
     ·rw[(p4 a h).1]at e;cases e
     ·rw[(o4 a h).1]at e;cases e
    show(if a∈A1\/a∈A2 then none else G3 a)=_
    rw[if_neg n]
    exact f3 a o (f2 a o (f1 a o e))
   have sub:Fz (fun a=>if a∈A1\/a∈A2 then none else G3 a) G3:=fun a o e=>by
    dsimp only at e
    split at e
    ·cases e
    ·exact e
   have len1:ρ1.length=ρ.length:=by rw[<-I3.len,I.len]
   refine kk _ H3 v (I.move (sub.trans I3.fz) fg (fun b o e=>I3.new b o (sub b o e)) I3.keep I3.there fun i s a es w g _=>?_) fg (zkC (fun a xs e=>?_) tp r3)
   ·by_cases hi:i=j
    ·subst hi
     rw[e1]at es;cases es
     obtain⟨u,C,u1,u2,u3⟩:=w
     have:u=v1:=by rw[s1]at u1;cases u1;rfl
     subst this
     have:=r1.det u2 fun _ _=>rfl
     subst this
     exact⟨if_pos (.inl u3),(same1 a u3).2⟩
    by_cases hk:i=k
    ·subst hk
     rw[e2]at es;cases es
     obtain⟨u,C,u1,u2,u3⟩:=w
     have:u=v2:=by rw[s2]at u1;cases u1;rfl
     subst this
     have:=r2.det u2 fun _ _=>rfl
     subst this
     exact⟨if_pos (.inr u3),(same2 a u3).2⟩
    have il:i<ρ.length:=(List.getElem?_eq_some_iff.mp es).1
    have es1:ρ1[i]? =some (ρ1[i]'(by lia)):=List.getElem?_eq_getElem _
    have lk:zoJ s (ρ1[i]'(by lia))=true:=
     List.all_eq_true.mp al (s,ρ1[i]'(by lia)) (by
      apply List.mem_of_getElem? (i:=i)
      rw[List.getElem?_zip_eq_some]
      exact⟨by rw[List.getElem?_set_ne (Ne.symm hk),List.getElem?_set_ne (Ne.symm hi)];exact es,es1⟩)
    obtain⟨z1,z2⟩:=zna lk (I.slot i s es) (I3.slot i _ es1) w
    refine⟨?_,z2⟩
    split
    ·rfl
    ·exact z1
   ·have n:¬(a∈A1\/a∈A2):=fun h=>by
     rcases h with h|h
     ·obtain⟨ys,hy⟩:=l1 a h
      rw[(same1 a h).1,hy]at e;cases e
     ·obtain⟨ys,hy⟩:=l2 a h
      rw[(same2 a h).1,hy]at e;cases e
    rw[if_neg n]
    exact e
  ·cases hm
 ·cases hm
end
end M
namespace M
open PySem PySem.W
open PyProof.Rows (bubble mirror bubble_size bubble_perm mirror_size mirror_perm getElem?_bubble getElem?_mirror_all)
variable {cmp:Nat->Nat->(Bool->Shared->Prop)->Shared->Prop} {s:Shared} {a b i j n m k:Nat} {p q:Array Nat}
noncomputable def kGd (n:Nat)(lt:Nat->Nat->Bool){α:Type}:KasT α->(α->Prop)->Prop
 | .ret a,Q=>Q a
 | .ask i j k,Q=>i<n/\j<n/\kGd n lt (k (lt i j)) Q
noncomputable def kRun (lt:Nat->Nat->Bool){α:Type}:KasT α->α
 | .ret a=>a
 | .ask i j k=>kRun lt (k (lt i j))
section
variable {n:Nat} {lt:Nat->Nat->Bool} {α β:Type}
theorem zfT {f:α->KasT β}{Q:β->Prop}:∀{t:KasT α},kGd n lt t (fun a=>kGd n lt (f a) Q)->kGd n lt (t.bind f) Q
 | .ret _,h=>h
 | .ask _ _ _,⟨h1,h2,h3⟩=>⟨h1,h2,zfT h3⟩
theorem zcv {Q Q':α->Prop}(q:∀a,Q a->Q' a):∀{t:KasT α},kGd n lt t Q->kGd n lt t Q'
 | .ret a,h=>q a h
 | .ask _ _ _,⟨h1,h2,h3⟩=>⟨h1,h2,zcv q h3⟩
theorem znL {Q:α->Prop}:∀{t:KasT α},kGd n lt t Q->Q (kRun lt t)
 | .ret _,h=>h
 | .ask i j k,⟨_,_,h3⟩=>znL (t:=k (lt i j)) h3
theorem kGd_wp {Q0:α->Prop}{Q:α->Shared->Prop}(hc:∀i j C,i<n->j<n->C (lt i j) s->cmp i j C s):
  ∀{t:KasT α},kGd n lt t Q0->Q (kRun lt t) s->t.kasWp cmp Q s
 | .ret _,_,h=>h
 | .ask i j k,⟨h1,h2,h3⟩,h=>hc i j _ h1 h2 (kGd_wp (t:=k (lt i j)) hc h3 h)
end
structure Ord (lt:Nat->Nat->Bool):Prop where
 tr:∀a b c,lt b a=false->lt c b=false->lt c a=false
 as:∀a b,lt a b=true->lt b a=false
theorem Ord.rf {lt:Nat->Nat->Bool}(o:Ord lt)(a:Nat):lt a a=false:=by
 cases h:lt a a with
 |false=>rfl
 |true=>rw[o.as a a h]at h;cases h
theorem Ord.lt_le {lt:Nat->Nat->Bool}(o:Ord lt){a b c:Nat}(h:lt a b=true)(k:lt c b=false):lt a c=true:=by
 cases z:lt a c with
 |true=>rfl
 |false=>rw[o.tr b c a k z]at h;cases h
noncomputable def kv (p:Array Nat)(k:Nat):Nat:=p.getD k 0
theorem znG (h:p[i]? =q[j]?):kv p i=kv q j:=by
 unfold kv
 rw[Array.getD_eq_getD_getElem?,Array.getD_eq_getD_getElem?,h]
structure Pm (n:Nat) (p:Array Nat):Prop where
 pm:p.toList.Perm (List.range n)
theorem Pm.size (h:Pm n p):p.size=n:=by
 have:=h.pm.length_eq
 rwa[Array.length_toList,List.length_range]at this
theorem Pm.lt (h:Pm n p)(hn:0<n)(k:Nat):kv p k<n:=by
 unfold kv
 by_cases hk:k<p.size
 ·have:p.getD k 0=p[k]:=by simp[Array.getD,hk]
  rw[this]
  exact List.mem_range.mp (h.pm.mem_iff.mp (Array.mem_toList_iff.mpr (Array.getElem_mem hk)))
 ·have:p.getD k 0=0:=by simp[Array.getD,hk]
  rw[this];exact hn
theorem Pm.bub (h:Pm n p)(a d:Nat):Pm n (bubble p a d):=⟨(Array.perm_iff_toList_perm.mp (bubble_perm p a d)).trans h.pm⟩
theorem Pm.rev (h:Pm n p)(i j:Nat):Pm n (kas_rev p i j):=⟨(Array.perm_iff_toList_perm.mp (mirror_perm p i j _)).trans h.pm⟩
theorem zn9 {i j:Nat}(hj:j<=p.size)(k:Nat):kv (kas_rev p i j) k=if i<=k/\k<j then kv p (i+j-1-k)else kv p k:=by
 have h:=getElem?_mirror_all (i:=i) hj k
 split
 ·rename_i z;rw[if_pos z]at h;exact znG h
 ·rename_i z;rw[if_neg z]at h;exact znG h
theorem kv_bub {a d:Nat}(ha:a<p.size)(hd:d<=a)(k:Nat):kv (bubble p a d) k=if k=a-d then kv p a else if a-d<k/\k<=a then kv p (k-1)else kv p k:=by
 have h:=getElem?_bubble ha d hd k
 by_cases z:k=a-d
 ·rw[if_pos z]at h ⊢;exact znG h
 ·rw[if_neg z]at h ⊢
  by_cases y:a-d<k/\k<=a
  ·rw[if_pos y]at h ⊢;exact znG h
  ·rw[if_neg y]at h ⊢;exact znG h
section
variable {n:Nat} {lt:Nat->Nat->Bool}
noncomputable def Up (lt:Nat->Nat->Bool)(p:Array Nat)(m:Nat):Prop:=∀i,0<i->i<m->lt (kv p i) (kv p (i-1))=false
noncomputable def Dn (lt:Nat->Nat->Bool)(p:Array Nat)(m:Nat):Prop:=∀i,0<i->i<m->lt (kv p (i-1)) (kv p i)=false
noncomputable def Eqv (lt:Nat->Nat->Bool)(a b:Nat):Prop:=lt a b=false/\lt b a=false
theorem Eqv.sy (h:Eqv lt a b):Eqv lt b a:=⟨h.2,h.1⟩
theorem Eqv.tr (o:Ord lt){a b c:Nat}(h:Eqv lt a b)(k:Eqv lt b c):Eqv lt a c:=⟨o.tr c b a k.1 h.1,o.tr a b c h.2 k.2⟩
theorem Up.le (o:Ord lt)(h:Up lt p m):∀{j i:Nat},i<=j->j<m->lt (kv p j) (kv p i)=false
 |0,i,h1,_=>by cases Nat.le_zero.mp h1;exact o.rf _
 |j+1,i,h1,h2=>by
  rcases Nat.lt_or_eq_of_le h1 with z|z
  ·exact o.tr _ _ _ (Up.le o h (by lia) (by lia)) (h (j+1) (by lia) h2)
  ·subst z;exact o.rf _
theorem Dn.eqv (o:Ord lt)(h:Dn lt p m)(e:∀k,Eqv lt (kv q k) (kv p k)):Dn lt q m:=fun i h1 h2=>
 o.tr _ _ _ (e i).2 (o.tr _ _ _ (h i h1 h2) (e (i-1)).1)
theorem zk6 (o:Ord lt)(hj:j<=p.size)(h:∀k,i<=k->k<j->Eqv lt (kv p k) (kv p (j-1)))(k:Nat):Eqv lt (kv (kas_rev p i j) k) (kv p k):=by
 rw[zn9 hj]
 split
 ·rename_i z
  exact(h _ (by lia) (by lia)).tr o (h k z.1 z.2).sy
 ·exact⟨o.rf _,o.rf _⟩
theorem Dn.turn (h:Dn lt p m)(hm:m<=p.size):Up lt (kas_rev p 0 m) m:=fun i h1 h2=>by
 rw[zn9 hm,zn9 hm,if_pos ⟨by lia,h2⟩,if_pos ⟨by lia,by lia⟩]
 have:=h (0+m-1-(i-1)) (by lia) (by lia)
 rwa[show 0+m-1-(i-1)-1=0+m-1-i by lia]at this
theorem zob (hn:0<n)(hp:Pm n p):∀(f m:Nat),1<=m->Up lt p m->kGd n lt (kas_asc p f m) fun r=>m<=r/\r<=m+f/\Up lt p r/\(r<m+f->lt (kv p r) (kv p (r-1))=true)
 |0,m,_,h=>⟨Nat.le_refl _,Nat.le_refl _,h,fun z=>absurd z (Nat.lt_irrefl _)⟩
 |f+1,m,h1,h=>by
  refine⟨hp.lt hn m,hp.lt hn (m-1),?_⟩
  show kGd n lt (if lt (kv p m) (kv p (m-1))=true then _ else _) _
  split
  ·rename_i c
   exact⟨Nat.le_refl _,by lia,h,fun _=>c⟩
  ·rename_i c
   have c':lt (kv p m) (kv p (m-1))=false:=by simpa using c
   refine zcv (fun r hr=>⟨by lia,by lia,hr.2.2.1,fun z=>hr.2.2.2 (by lia)⟩) (zob hn hp f (m+1) (by lia) fun i a b=>?_)
   rcases Nat.lt_or_eq_of_le (Nat.le_of_lt_succ b)with z|z
   ·exact h i a z
   ·subst z;exact c'
theorem zjy (o:Ord lt)(hn:0<n):∀(f:Nat) (p:Array Nat) (m q:Nat),Pm n p->m+f<=n->q+1<=m->Dn lt p m->(∀k,m-(q+1)<=k->k<m->Eqv lt (kv p k) (kv p (m-1)))->
  kGd n lt (kas_desc f p m q) fun r=>Pm n r.1/\m<=r.2.1/\r.2.1<=m+f/\r.2.2+1<=r.2.1/\Dn lt r.1 r.2.1/\∀k,r.2.1-(r.2.2+1)<=k->k<r.2.1->Eqv lt (kv r.1 k) (kv r.1 (r.2.1-1))
 |0,p,m,q,hp,hm,hq,h,e=>⟨hp,Nat.le_refl _,Nat.le_refl _,hq,h,e⟩
 |f+1,p,m,q,hp,hm,hq,h,e=>by
  have more:∀{p':Array Nat},Dn lt p' m->lt (kv p' (m-1)) (kv p' m)=false->Dn lt p' (m+1):=fun h' c i a b=>by
   rcases Nat.lt_or_eq_of_le (Nat.le_of_lt_succ b)with z|z
   ·exact h' i a z
   ·subst z;exact c
  have one:∀{p':Array Nat} (k:Nat),m+1-(0+1)<=k->k<m+1->Eqv lt (kv p' k) (kv p' (m+1-1)):=fun k a b=>by
   obtain rfl:k=m:=by lia
   exact⟨o.rf _,o.rf _⟩
  refine⟨hp.lt hn m,hp.lt hn (m-1),?_⟩
  show kGd n lt (if lt (kv p m) (kv p (m-1))=true then(if q>0 then _ else _)else KasT.ask (kv p (m-1)) (kv p m) _) _
  split
  ·rename_i c
   have c2:=o.as _ _ c
   split
   ·have ev:=zk6 o (p:=p) (i:=m-(q+1)) (j:=m) (by rw[hp.size];lia) e
    have hl:lt (kv (kas_rev p (m-(q+1)) m) (m-1)) (kv (kas_rev p (m-(q+1)) m) m)=false:=o.tr _ _ _ (ev m).2 (o.tr _ _ _ c2 (ev (m-1)).1)
    exact zcv (fun r hr=>⟨hr.1,by lia,by lia,hr.2.2.2.1,hr.2.2.2.2⟩) (zjy o hn f _ (m+1) 0 (hp.rev _ _) (by lia) (by lia) (more (h.eqv o ev) hl) one)
   ·exact zcv (fun r hr=>⟨hr.1,by lia,by lia,hr.2.2.2.1,hr.2.2.2.2⟩) (zjy o hn f _ (m+1) 0 hp (by lia) (by lia) (more h c2) one)
  ·rename_i c
   have c':lt (kv p m) (kv p (m-1))=false:=by simpa using c
   refine⟨hp.lt hn (m-1),hp.lt hn m,?_⟩
   show kGd n lt (if lt (kv p (m-1)) (kv p m)=true then _ else _) _
   split
   ·exact⟨hp,Nat.le_refl _,Nat.le_add_right m (f+1),hq,h,e⟩
   ·rename_i d
    have d':lt (kv p (m-1)) (kv p m)=false:=by simpa using d
    refine zcv (fun r hr=>⟨hr.1,by lia,by lia,hr.2.2.2.1,hr.2.2.2.2⟩) (zjy o hn f p (m+1) (q+1) hp (by lia) (by lia) (more h d') fun k a b=>?_)
    rcases Nat.lt_or_eq_of_le (Nat.le_of_lt_succ b)with z|z
    ·exact(e k (by lia) z).tr o ⟨d',c'⟩
    ·subst z;exact⟨o.rf _,o.rf _⟩
noncomputable def Run (lt:Nat->Nat->Bool)(n:Nat)(r:Nat×Array Nat):Prop:=Pm n r.2/\1<=r.1/\r.1<=n/\Up lt r.2 r.1
theorem zlB (hn:0<n)(hp:Pm n p)(h1:1<=m)(h2:m<=n)(h:Dn lt p m):kGd n lt (kas_tail3 m n p) (Run lt n):=by
 refine zfT (zcv (fun r hr=>?_) (zob hn (hp.rev 0 m) (n-m) m h1 (h.turn (by rw[hp.size];exact h2))))
 exact⟨hp.rev 0 m,by lia,by lia,hr.2.2.1⟩
theorem zh8 (o:Ord lt)(hn:0<n){p:Array Nat}(hp:Pm n p)(h1:1<=m)(h2:m<n)(h:Dn lt p (m+1)):kGd n lt (kas_descPart m n p) (Run lt n):=by
 refine zfT (zcv (fun r hr=>?_) (zjy o hn (n-(m+1)) p (m+1) 0 hp (by lia) (by lia) h fun k a b=>?_))
 ·obtain⟨a1,a2,a3,a4,a5,a6⟩:=hr
  split
  ·have ev:=zk6 o (p:=r.1) (i:=r.2.1-(r.2.2+1)) (j:=r.2.1) (by rw[a1.size];lia) a6
   exact zlB hn (a1.rev _ _) (by lia) (by lia) (a5.eqv o ev)
  ·exact zlB hn a1 (by lia) (by lia) a5
 ·obtain rfl:k=m:=by lia
  exact⟨o.rf _,o.rf _⟩
theorem gd_count (o:Ord lt)(hn:0<n){p:Array Nat}(hp:Pm n p):kGd n lt (kas_count n p) (Run lt n):=by
 refine zfT (zcv (fun m hm=>?_) (zob hn hp (n-1) 1 (Nat.le_refl _) fun i a b=>absurd a (by lia)))
 obtain⟨a1,a2,a3,a4⟩:=hm
 split
 ·exact⟨hp,a1,by lia,a3⟩
 ·rename_i ne
  have ne':m≠n:=by simpa using ne
  have c:=a4 (by lia)
  split
  ·refine⟨hp.lt hn 0,hp.lt hn (m-1),?_⟩
   show kGd n lt (if lt (kv p 0) (kv p (m-1))=true then _ else _) _
   split
   ·exact⟨hp,a1,by lia,a3⟩
   ·rename_i d
    have d':lt (kv p 0) (kv p (m-1))=false:=by simpa using d
    have eq:∀k,0<=k->k<m->Eqv lt (kv p k) (kv p (m-1)):=fun k _ hk=>⟨o.tr _ _ _ d' (a3.le o (Nat.zero_le k) hk)|>fun z=>?_,a3.le o (by lia) (by lia)⟩
    ·have ev:=zk6 o (p:=p) (i:=0) (j:=m) (by rw[hp.size];lia) eq
     refine zh8 o hn (hp.rev 0 m) a1 (by lia) fun i x y=>?_
     rcases Nat.lt_or_eq_of_le (Nat.le_of_lt_succ y)with z|z
     ·exact o.tr _ _ _ (ev i).2 (o.tr _ _ _ ((eq (i-1) (by lia) (by lia)).tr o (eq i (by lia) z).sy).1 (ev (i-1)).1)
     ·subst z;exact o.tr _ _ _ (ev i).2 (o.tr _ _ _ (o.as _ _ c) (ev (i-1)).1)
    ·exact o.tr _ _ _ d' (a3.le o (Nat.zero_le k) hk)
  ·obtain rfl:m=1:=by lia
   refine zh8 o hn hp (Nat.le_refl _) (by lia) fun i x y=>?_
   obtain rfl:i=1:=by lia
   exact o.as _ _ c
theorem zjv (o:Ord lt)(hn:0<n)(hp:Pm n p)(hu:Up lt p k):∀(f l r:Nat),l<=r->r<=k->r-l<=f->(∀i,i<l->lt (kv p k) (kv p i)=false)->(∀i,r<=i->i<k->lt (kv p k) (kv p i)=true)->
  kGd n lt (kas_place p k f l r) fun x=>x<=k/\(∀i,i<x->lt (kv p k) (kv p i)=false)/\∀i,x<=i->i<k->lt (kv p k) (kv p i)=true
 |0,l,r,h1,h2,h3,h4,h5=>by
  obtain rfl:l=r:=by lia
  exact⟨h2,h4,h5⟩
 |f+1,l,r,h1,h2,h3,h4,h5=>by
  unfold kas_place
  split
  ·obtain rfl:l=r:=by lia
   exact⟨h2,h4,h5⟩
  ·rename_i ne
   refine⟨hp.lt hn k,hp.lt hn _,?_⟩
   show kGd n lt (if lt (kv p k) (kv p ((l+r)/2))=true then _ else _) _
   split
   ·rename_i c
    refine zjv o hn hp hu f l _ (by lia) (by lia) (by lia) h4 fun i a b=>?_
    exact o.lt_le c (hu.le o a b)
   ·rename_i c
    have c':lt (kv p k) (kv p ((l+r)/2))=false:=by simpa using c
    refine zjv o hn hp hu f _ r (by lia) h2 (by lia) (fun i a=>?_) h5
    exact o.tr _ _ _ (hu.le o (i:=i) (j:=(l+r)/2) (by lia) (by lia)) c'
theorem gd_bin (o:Ord lt)(hn:0<n):∀(f:Nat) (p:Array Nat) (k:Nat),k+f=n->1<=k->Pm n p->Up lt p k->kGd n lt (kas_bin f p k) fun q=>Pm n q/\Up lt q n
 |0,p,k,h1,_,hp,hu=>by
  obtain rfl:k=n:=by lia
  exact⟨hp,hu⟩
 |f+1,p,k,h1,hk,hp,hu=>by
  refine zfT (zcv (fun x hx=>?_) (zjv o hn hp hu k 0 k (Nat.zero_le _) (Nat.le_refl _) (by lia) (fun i a=>absurd a (by lia)) fun i a b=>absurd a (by lia)))
  obtain⟨b1,b2,b3⟩:=hx
  have hs:k<p.size:=by rw[hp.size];lia
  refine gd_bin o hn f _ (k+1) (by lia) (by lia) (hp.bub _ _) fun i a b=>?_
  have e:k-(k-x)=x:=by lia
  rw[kv_bub hs (by lia),kv_bub hs (by lia),e]
  by_cases z:i=x
  ·rw[if_pos z,if_neg (by lia),if_neg (by lia)]
   exact b2 (i-1) (by lia)
  ·rw[if_neg z]
   by_cases y:x<i
   ·rw[if_pos ⟨y,by lia⟩]
    by_cases u:i-1=x
    ·rw[if_pos u,u];exact o.as _ _ (b3 x (Nat.le_refl _) (by lia))
    ·rw[if_neg u,if_pos ⟨by lia,by lia⟩];exact hu (i-1) (by lia) (by lia)
   ·rw[if_neg (fun q=>y q.1),if_neg (by lia),if_neg (by lia)];exact hu i a (by lia)
theorem zoN (o:Ord lt)(hn:0<n):kGd n lt (kas_sort n) fun q=>Pm n q/\Up lt q n:=by
 refine zfT (zcv (fun r hr=>?_) (gd_count o hn (p:=List.toArray (List.range n)) ⟨List.Perm.refl _⟩))
 obtain⟨a1,a2,a3,a4⟩:=hr
 split
 ·rw[show max r.1 1=r.1 by lia]
  exact gd_bin o hn _ _ _ (by lia) a2 a1 a4
 ·obtain e:r.1=n:=by lia
  rw[e]at a4
  exact⟨a1,a4⟩
end
noncomputable def srt (n:Nat)(lt:Nat->Nat->Bool):List Nat:=if n<2 then List.range n else(kRun lt (kas_sort n)).toList
theorem zjc {n:Nat}{lt:Nat->Nat->Bool}(o:Ord lt):(srt n lt).Perm (List.range n):=by
 unfold srt
 split
 ·exact List.Perm.refl _
 ·exact(znL (zoN o (n:=n) (by lia))).1.pm
end M
namespace HT
open PySem PySem.W
open PyProof.Rows (seqObj listItems_at listUpdate_at seqEpoch_at get?_update_seq size_push' sortedHeap sortedAll list_sort_plain arrOf failedOf general' keyKind' pairsOf collect_list)
noncomputable def outA (vs:List Value)(lt:Nat->Nat->Bool):List Value:=(M.srt vs.length lt).map fun i=>vs.getD i Value.none
theorem outA_len {vs:List Value}{lt:Nat->Nat->Bool}(o:M.Ord lt):(outA vs lt).length=vs.length:=by
 unfold outA
 rw[List.length_map,(M.zjc o).length_eq,List.length_range]
theorem zmE (vs:List Value):(List.range vs.length).map (fun i=>vs.getD i Value.none)=vs:=by
 refine List.ext_getElem (by simp) fun i h1 h2=>?_
 rw[List.getElem_map,List.getElem_range,List.getD_eq_getElem?_getD,List.getElem?_eq_getElem h2]
 rfl
section
variable {prog:Program} {w:World} {A:Around} {E:Value->Shared->Prop} {s:Shared}
noncomputable def Asked (prog:Program)(w:World)(A:Around)(ks:List Value)(lt:Nat->Nat->Bool)(s:Shared):Prop:=
 ∃κ,(∀(Q:PyProof.Rows.SortKind->Shared->Prop) (E:Value->Shared->Prop),Q κ s->wpAny (model prog w) A (keyKind' (List.toArray ks)) Q E s)/\∀i j C,i<ks.length->j<ks.length->C (lt i j) s->kas_ask prog w A κ ks i j C s
theorem zmO {a:Addr}{vs:List Value}{n:Nat}{lt:Nat->Nat->Bool}{P:PySem.Fin->Shared->Prop}(o:M.Ord lt)(ho:s.heap.get? a=some (seqObj "list" vs.toArray n))(h64:vs.length<64)
  (hk:2<=vs.length->∀h',(∀b u,b≠a->s.heap.get? b=some u->h'.get? b=some u)->Asked prog w A vs lt {s with heap:=h'})
  (h:P (.done (.ret .none)) {s with heap:=sortedHeap s.heap a vs (outA vs lt).toArray}):wpAny (model prog w) A (Builtin.«list.sort» ⟨[.ref a],[]⟩) P E s:=by
 rw[list_sort_plain]
 have ha:=Heap.lt_size ho
 have hsl:vs.length<=sizeLine:=by rw[sizeLine_eq];lia
 obtain⟨e1,g1⟩:∃c,(s.heap.update a (Obj.mapSeq fun _=> #[])).get? a=some (seqObj "list" #[] c):=⟨_,get?_update_seq ho fun _=> #[]⟩
 refine wpAny_bind (listItems_at ho rfl (wpAny_bind (listUpdate_at ho rfl (wpAny_bind (seqEpoch_at g1 rfl (wpAny_bind (wpAny_newTuple (wpAny_bind (wpAny_newList (wpAny_holding ?_) (Nat.zero_le _))) hsl)))) (by rw[List.size_toArray];exact hsl) (Nat.zero_le _))))
 generalize hH:((s.heap.update a (Obj.mapSeq fun _=>(#[]:Array Value))).push (seqObj "tuple" vs.toArray 0)).push (seqObj "list" #[] 0)=H3
 have g3:H3.get? a=some (seqObj "list" #[] e1):=by
  rw[<-hH];exact Heap.get?_push_of_some _ (Heap.get?_push_of_some _ g1)
 have k3:∀b u,b≠a->s.heap.get? b=some u->H3.get? b=some u:=fun b u z q=>by
  rw[<-hH];exact Heap.get?_push_of_some _ (Heap.get?_push_of_some _ ((Heap.get?_update_other _ _ (Ne.symm z)).trans q))
 show wpAny _ A _ P E {s with heap:=H3}
 dsimp only
 have fin:∀(st:PyProof.Rows.SortSt),(arrOf st).map (·.2)=(outA vs lt).toArray->failedOf st=none->wpAny (model prog w) A (do
   let sorted:=(arrOf st).map (·.2)
   let touched:=(<-seqEpoch a) !=e1
   Builtin.List.listUpdate (.ref a) fun _=>sorted
   if let some e:=failedOf st then rule "list.sort.comparison-raised";throw e
   if touched then rule "list.sort.modified";raiseError "ValueError" "list modified during sort"
   ret .none) P E {s with heap:=H3}:=fun st e f=>by
  dsimp only
  rw[e,f]
  refine wpAny_bind (seqEpoch_at g3 rfl (wpAny_bind (listUpdate_at g3 rfl ?_ (Nat.zero_le _) (by rw[List.size_toArray,outA_len o];lia))))
  simp only[bne_self_eq_false,Bool.false_eq_true,if_false]
  refine wpAny_pure ?_
  rw[<-hH]
  exact h
 have hz:vs.toArray.size=vs.length:=List.size_toArray ..
 by_cases h2:vs.length<2
 ·simp only[if_pos (show vs.toArray.size<2 by rw[hz];exact h2)]
  refine wpAny_bind (wpAny_pure ?_)
  rw[StateT.run_pure]
  refine wpAny_bind (wpAny_pure (fin _ ?_ rfl))
  unfold outA M.srt
  rw[if_pos h2,zmE]
  show((vs.toArray.zip vs.toArray).map (·.2))=_
  apply Array.toList_inj.mp
  simp[List.map_snd_zip]
 ·simp only[if_neg (show ¬vs.toArray.size<2 by rw[hz];exact h2)]
  obtain⟨κ,a1,a2⟩:=hk (by lia) H3 k3
  refine wpAny_bind (a1 _ _ (wpAny_bind (wpAny_mono (kat_run (Q:=fun st s'=>s'={s with heap:=H3}/\(arrOf st).map (·.2)=(outA vs lt).toArray/\failedOf st=none) (G:=fun p s'=>s'={s with heap:=H3}/\p=M.kRun lt (kas_sort vs.length)) rfl (by lia) h64 (fun p st s' b1 b2 b3 b4=>⟨b4.1,?_,b3⟩) (M.kGd_wp (n:=vs.length) (lt:=lt) a2 (M.zoN o (by lia)) ⟨rfl,rfl⟩)) (fun r s' ⟨c1,c2,c3⟩=>?_) fun _ _ x=>x)))
  ·rw[kat_snds rfl b2,b4.2]
   unfold outA M.srt
   rw[if_neg h2]
  ·subst c1
   exact fin r.2 c2 c3
end
end HT
namespace HT
open PySem PySem.Spec PySem.W
open PyProof.Rows (IntsAre IsTup)
theorem lex_tr:∀a b c:List Int,ziw b a=false->ziw c b=false->ziw c a=false
 |[],_,[],_,_=>rfl
 |[],_,_::_,_,_=>rfl
 |_::_,[],_,h,_=>by cases h
 |_::_,_::_,[],_,h=>by cases h
 |x::xs,y::ys,z::zs,h,k=>by
  rw[zhp]at h k ⊢
  by_cases e:y=x
  ·by_cases f:z=y
   ·rw[if_pos e]at h;rw[if_pos f]at k;rw[if_pos (f.trans e)];exact lex_tr xs ys zs h k
   ·rw[if_neg f]at k;subst e;rw[if_neg f];exact k
  ·rw[if_neg e]at h
   have h':=of_decide_eq_false h
   by_cases f:z=y
   ·rw[if_neg (by lia)];exact decide_eq_false (by lia)
   ·rw[if_neg f]at k
    have k':=of_decide_eq_false k
    rw[if_neg (by lia)];exact decide_eq_false (by lia)
theorem lex_as:∀a b:List Int,ziw a b=true->ziw b a=false
 |[],[],h=>by cases h
 |[],_::_,_=>rfl
 |_::_,[],h=>by cases h
 |x::xs,y::ys,h=>by
  rw[zhp]at h ⊢
  by_cases e:x=y
  ·rw[if_pos e]at h;rw[if_pos e.symm];exact lex_as xs ys h
  ·rw[if_neg e]at h
   have h':=of_decide_eq_true h
   rw[if_neg (by lia)];exact decide_eq_false (by lia)
noncomputable def zhb (nss:List (List Int))(i j:Nat):Bool:=ziw (nss.getD i []) (nss.getD j [])
theorem zos (nss:List (List Int)):M.Ord (zhb nss):=⟨fun _ _ _=>lex_tr _ _ _,fun _ _=>lex_as _ _⟩
section
variable {prog:Program} {w:World} {A:Around} {E:Value->Shared->Prop} {s:Shared}
theorem zfn {α:Type}{l:List α}{i:Nat}{x d:α}(h:l[i]? =some x):l.getD i d=x:=by rw[List.getD_eq_getElem?_getD,h];rfl
theorem znW {b fin:Bool}{Q:Bool->Shared->Prop}:∀{xs ys:List Value} {ns ms:List Int} (i:Nat),IntsAre xs ns->IntsAre ys ms->fin=decide (ns.length<ms.length)->Q (ziw ns ms) s->KatLex prog w A b fin Q (xs.zip ys) i s
 |_,_,_,_,i,.nil,.nil,e,h=>by subst e;exact h
 |_,_,_,_,i,.nil,.cons _ _ _,e,h=>by subst e;exact h
 |_,_,_,_,i,.cons _ _ _,.nil,e,h=>by subst e;exact h
 |_,_,_,_,i,.cons n t hx,.cons m u hy,e,h=>by
  refine kat_cons (wpAny_eqBool_int ?_)
  rw[zhp]at h
  by_cases z:n=m
  ·rw[if_pos z]at h
   rw[beq_iff_eq.mpr z]
   exact kat_yes (znW (i+1) hx hy (by rw[e];simp) h)
  ·rw[if_neg z]at h
   rw[beq_eq_false_iff_ne.mpr z]
   refine kat_no ?_
   cases hb:(b&&i==0)with
   |true=>exact PyProof.Rows.oneLt_int h
   |false=>exact kat_one _ _ (PyProof.Rows.lt_int h)
noncomputable def zny (h:Heap)(ks:List Value)(nss:List (List Int)):Prop:=ks.length=nss.length/\∀(i:Nat) v ns,ks[i]? =some v->nss[i]? =some ns->∃a its,v= .ref a/\IsTup h a (List.toArray its)/\IntsAre its ns/\ns≠[]
theorem zof {h:Heap}:∀{ks:List Value} {nss:List (List Int)},zny h ks nss->∃fs,KatTups h ks fs/\fs.length=ks.length/\∀v∈fs,∃n t,v=Value.int n t
 |[],nss,_=>⟨[],KatTups.nil,rfl,fun v hv=>absurd hv (by simp)⟩
 |k::ks,[],⟨h1,_⟩=>by simp at h1
 |k::ks,ns::nss,⟨h1,h2⟩=>by
  obtain⟨a,its,rfl,⟨o,ho,hc,n,hd⟩,hi,ne⟩:=h2 0 _ _ rfl rfl
  obtain⟨fs,g1,g2,g3⟩:=zof (ks:=ks) (nss:=nss) ⟨by simpa using h1,fun i v ns e1 e2=>h2 (i+1) v ns (by simpa using e1) (by simpa using e2)⟩
  cases hi with
  |nil=>exact absurd rfl ne
  |cons m t hi=>
   refine⟨.int m t::fs,KatTups.cons ho hc hd rfl g1,by simp[g2],fun v hv=>?_⟩
   rcases List.mem_cons.mp hv with rfl|hv
   ·exact⟨m,t,rfl⟩
   ·exact g3 v hv
theorem zmk {ks:List Value}{nss:List (List Int)}(ht:zny s.heap ks nss)(h2:2<=ks.length):Asked prog w A ks (zhb nss) s:=by
 obtain⟨fs,g1,g2,g3⟩:=zof ht
 refine⟨PyProof.Rows.tuples' true,fun Q E h=>?_,fun i j C h1 h3 h=>?_⟩
 ·refine kat_kind (T:= .type "int") g1 (by lia) (fun v hv=>?_) rfl h
  obtain⟨n,t,rfl⟩:=g3 v hv
  exact Looks.now
 ·have hl:=ht.1
  obtain⟨a,its,e1,⟨o,ho,hc,n,hd⟩,hi,_⟩:=ht.2 i _ _ (List.getElem?_eq_getElem h1) (List.getElem?_eq_getElem (by lia))
  obtain⟨b,its2,f1,⟨o2,ho2,hc2,n2,hd2⟩,hi2,_⟩:=ht.2 j _ _ (List.getElem?_eq_getElem h3) (List.getElem?_eq_getElem (by lia))
  unfold kas_ask
  rw[zfn (List.getElem?_eq_getElem h1),zfn (List.getElem?_eq_getElem h3),e1,f1]
  unfold zhb at h
  rw[zfn (List.getElem?_eq_getElem (l:=nss) (i:=i) (by lia)),zfn (List.getElem?_eq_getElem (l:=nss) (i:=j) (by lia))]at h
  refine kat_lt ho hd ho2 hd2 (znW 0 hi hi2 ?_ h)
  rw[List.size_toArray,List.size_toArray,hi.length,hi2.length]
end
end HT
namespace M
open L2 PySem PySem.Spec
open PyProof.Rows hiding St
noncomputable def srtD (nss:List (List Int))(ds:List D):List D:=(srt ds.length (HT.zhb nss)).map fun i=>ds.getD i .non
noncomputable def srtV (nss:List (List Int))(ys:List V):List V:=(srt ys.length (HT.zhb nss)).map fun i=>ys.getD i .non
theorem zkh {ys:List V}{its:List Value}(r:Vals ys its):∀ix:List Nat,Vals (ix.map fun i=>ys.getD i .non) (ix.map fun i=>its.getD i .none)
 |[]=> .nil
 |i::ix=>by
  refine .cons ?_ (zkh r ix)
  dsimp only
  cases e:ys[i]? with
  |some y=>
   obtain⟨u,h1,h2⟩:=r.get e
   rw[HT.zfn e,HT.zfn h1];exact h2
  |none=>
   rw[List.getD_eq_getElem?_getD,List.getD_eq_getElem?_getD,e,r.none_of e];exact rfl
theorem RepL.picks {K:W.Frag}{G:Hp}{ys:List V}{ds:List D}(r:RepL K G ys ds):∀ix:List Nat,RepL K G (ix.map fun i=>ys.getD i .non) (ix.map fun i=>ds.getD i .non)
 |[]=> .nil
 |i::ix=>by
  refine .cons ?_ (RepL.picks r ix)
  dsimp only
  cases e:ds[i]? with
  |some y=>
   obtain⟨u,h1,h2⟩:=r.get e
   rw[HT.zfn e,HT.zfn h1];exact h2
  |none=>
   have e':ys[i]? =none:=by rw[List.getElem?_eq_none_iff]at e ⊢;rw[r.length];exact e
   rw[List.getD_eq_getElem?_getD,List.getD_eq_getElem?_getD,e,e'];exact rfl
end M
namespace HT
open PySem PySem.W
open PyProof.Rows (seqObj)
section
variable {prog:Program} {w:World} {A:Around} {E:Value->Shared->Prop} {s:Shared}
theorem znS {d:Addr}{Q:Bool->Shared->Prop}(hT:s.TypeIs (.ref d) "dict")(h:Q false s):wpAny (model prog w) A (Builtin.List.listLengthHint (.ref d)) Q E s:=by
 unfold Builtin.List.listLengthHint
 refine wpAny_bind (wpAny_specialOf hT F.slot_dict_len.lookup ?_)
 generalize hz:("dict.__len__":String)=z
 wp_delta
 rw[show splitId z=some ("dict","__len__")from by subst hz;decide+kernel]
 subst hz
 refine wpAny_bind (wpAny_isInstance (T:="dict") (b:=true) hT (by rw[isSubtype_type];kernel_rfl) ?_)
 refine wpAny_ite_split (fun u=>absurd u (by decide)) (fun _=>?_)
 refine wpAny_ite_split (fun _=>?_) (fun u=>absurd (by decide+kernel) u)
 exact wpAny_bind (wpAny_typeOf hT (wpAny_pure h))
theorem zk5 {R:Result->Shared->Prop}{T:String}{d S:Addr}{res:Value}{c₀ n:Nat}{P:Nat->Value->Prop}{St:Nat->Heap->Prop}{fp wr:List Addr}(hT:s.TypeIs (.ref d) T)
  (h1:(Value.type T==Value.type "list")=false) (h2:(Value.type T==Value.type "tuple")=false) (hS:s.heap.get? S=some {cls:= .type "list",data:= .seq #[] c₀}) (hd:S≠d) (hn:n<=2^24)
  (hw:∀b∈wr,s.heap.objs.size<=b) (hf:S∉fp) (W:Walks prog w A.in1 s.heap.objs.size fp wr n P St)
  (hi:∀(Q:Value->Shared->Prop) (E:Value->Shared->Prop),(∀h',(∀b o,s.heap.get? b=some o->h'.get? b=some o)->h'.objs.size=s.heap.objs.size+1->St 0 h'->Q (.ref s.heap.objs.size) {s with heap:=h'})->wpAny (model prog w) A.in1 (pyIter (.ref d)) Q E s)
  (hh:∀(s':Shared) (Q:Bool->Shared->Prop) (E:Value->Shared->Prop),s'.TypeIs (.ref d) T->Q false s'->wpAny (model prog w) A.in1 (Builtin.List.listLengthHint (.ref d)) Q E s')
  (hR:∀h' tk acc c,(∀b o,b≠S->s.heap.get? b=some o->h'.get? b=some o)->h'.get? S=some {cls:= .type "list",dict:=none,data:= .seq acc c,slots:= #[]}->ItemsOf P acc n->R (.ok (.ret res)) {s with heap:=h',toks:=tk}):
  wpAny (model prog w) A.in1 (Builtin.List.listExtendWith (.ref S) (.ref d) res)
   (fun fin s'=>match fin with| .done f=>R (.ok f) s'| .again c'=>c'.quiet=true/\codeAny (model prog w) A c' R s') (fun e s'=>R (.error e) s') s:=by
 have hlt:S<s.heap.objs.size:=Heap.lt_size hS
 have key:∀(h:Heap) (c₁:Nat),St 0 h->(∀b o,b≠S->s.heap.get? b=some o->h.get? b=some o)->
   h.get? S=some {cls:= .type "list",data:= .seq #[] c₁}->codeAny (model prog w) A (.builtin "list.extend.loop" ⟨[.ref S,.ref s.heap.objs.size,res],[]⟩) R {s with heap:=h}:=by
  intro h c₁ st hk g
  refine codeAny_extend_loopS W.toS (by rw[sizeLine_eq];lia) S hf res n 0 _ #[] c₁ rfl (Nat.zero_le _) st g (ItemsOf.nil _) fun s' acc' c' m g' it=>?_
  rw[Moved.eq_with m]
  refine hR s'.heap s'.toks acc' c' (fun b o z e=>m.heap b o (fun y=>?_) (hk b o z e)) g' it
  rcases List.mem_cons.mp y with e'|y
  ·exact z e'
  ·exact absurd (Heap.lt_size e) (Nat.not_lt.mpr (hw b y))
 unfold Builtin.List.listExtendWith
 refine wpAny_bind (wpAny_typeOf hT ?_)
 have h0:Builtin.List.listSameRef (.ref S) (.ref d)=false:=by simp[Builtin.List.listSameRef,hd]
 simp only[h0,h1,h2,Bool.or_false,Bool.false_eq_true,if_false]
 refine wpAny_bind (hi _ _ fun h' k1 k2 st=>?_)
 obtain⟨od,g,gc⟩:=hT
 refine wpAny_bind (wpAny_holding (hh _ _ _ ⟨od,k1 _ _ g,gc⟩ ?_))
 have g1:=k1 _ _ hS
 refine wpAny_ite_split (fun _=>?_) (fun _=>wpAny_pure ⟨plainId_quiet F.plain_extend_loop _,key _ c₀ st (fun b o _ e=>k1 b o e) g1⟩)
 refine wpAny_bind (wpAny_rule (wpAny_bind ?_))
 show wpAny _ _ (updateSeq S (·.push .none)>>=fun _=>updateSeq S (·.pop)) _ _ _
 refine wpAny_bind (wpAny_updateSeq g1 rfl ?_)
 have g2:=Heap.get?_update_self (Obj.mapSeq (·.push Value.none)) g1 rfl
 refine wpAny_updateSeq (hz:=by seq_fits) g2 rfl ?_
 have g3:=Heap.get?_update_self (Obj.mapSeq (·.pop)) g2 rfl
 refine wpAny_pure ⟨plainId_quiet F.plain_extend_loop _,key _ _ (W.frame _ _ _ st fun b hb o e=>?_) (fun b o z e=>?_) g3⟩
 ·have z:S≠b:=fun y=>hf (y ▸ hb)
  exact(Heap.get?_update_other _ _ z).trans ((Heap.get?_update_other _ _ z).trans e)
 ·exact(Heap.get?_update_other _ _ (Ne.symm z)).trans ((Heap.get?_update_other _ _ (Ne.symm z)).trans (k1 _ _ e))
noncomputable def Gives (prog:Program)(w:World)(A:Around)(d:Addr)(P:List Value->Prop)(s:Shared):Prop:=
 ∀(Q:List Value->Shared->Prop) (E:Value->Shared->Prop),(∀h' tk vs,(∀b o,s.heap.get? b=some o->h'.get? b=some o)->s.heap.objs.size<=h'.objs.size->P vs->Q vs {s with heap:=h',toks:=tk})->wpAny (model prog w) A (collect (.ref d)) Q E s
theorem zoT {I d:Addr}{od:Obj}{es:Array DictEntry}{ep:Nat}(hh:A.handled=none)(hne:d≠I)(g2:od.data= .dict es ep):
  Walks prog w A I [I,d] [I] es.size (fun i v=>∃h:i<es.size,v=es[i].key) (fun i h=>h.IsKeyIter I d i es.size ep/\h.get? d=some od) where
 sub:=fun b hb=>by simp at hb;simp[hb]
 frame:=fun _ _ _ st hk=>⟨st.1.at fun o e=>hk I (by simp) o e,hk d (by simp) _ st.2⟩
 item:=fun i s Q E hi st hQ=>M.zmf st.1 st.2 g2 hi fun h' k sb=>hQ _ h' s.toks ⟨hi,rfl⟩ ⟨k,sb.extBut d _ hne st.2⟩ fun b o hb e=>sb.extBut b o (fun z=>hb (by simp[z])) e
 done:=fun s Q E st hQ=>M.znR hh st.1 st.2 g2 (Nat.le_refl _) fun h' eb=>hQ h' s.toks fun b o hb e=>eb b o (fun z=>hb (by simp[z])) e
 self:=fun _ _ _ _ st hQ=>wpAny_pyIter_keyiter st.1 hQ
theorem zmX {es:Array DictEntry}{acc:Array Value}(it:ItemsOf (fun i v=>∃h:i<es.size,v=es[i].key) acc es.size):acc.toList=es.toList.map (·.key):=by
 refine List.ext_getElem? fun i=>?_
 by_cases hi:i<es.size
 ·obtain⟨_,e⟩:=it.2 i (acc[i]'(by rw[it.1];exact hi)) (by simp[it.1,hi])
  simp[hi,it.1,e]
 ·simp[hi,it.1]
theorem zoE {R:Result->Shared->Prop}{d S:Addr}{od:Obj}{es:Array DictEntry}{ep:Nat}(hh:A.handled=none)(nm:(d==sysModules)=false)(g1:s.heap.get? d=some od)(g0:od.ExactDict)(g2:od.data= .dict es ep)(hz:es.size<=2^24)
  (hS:s.heap.get? S=some {cls:= .type "list",data:= .seq #[]}) (hd:S≠d)
  (hR:∀h' tk acc c,(∀b o,b≠S->s.heap.get? b=some o->h'.get? b=some o)->h'.get? S=some {cls:= .type "list",dict:=none,data:= .seq acc c,slots:= #[]}->acc.toList=es.toList.map (·.key)->R (.ok (.ret (.ref S))) {s with heap:=h',toks:=tk}):
  codeAny (model prog w) A (.builtin "list.__iadd__" ⟨[.ref S,.ref d],[]⟩) R s:=by
 refine codeAny_builtin F.entry_list_iadd ?_
 rw[Around.under_plainId F.plain_list_iadd _]
 show wpAny _ A.in1 (Builtin.List.listExtendWith (.ref S) (.ref d) (.ref S)) _ _ _
 have dl:=Heap.lt_size g1
 have sl:=Heap.lt_size hS
 refine zk5 (T:="dict") (c₀:=0) ⟨od,g1,g0.1⟩ (by decide) (by decide) hS hd hz (wr:=[s.heap.objs.size]) (fun b hb=>by rw[List.mem_singleton.mp hb];exact Nat.le_refl _) (fp:=[s.heap.objs.size,d]) (fun z=>?_)
  (zoT (show A.in1.handled=none from hh) (Nat.ne_of_lt dl) g2) (fun Q E k=>?_) (fun s' Q E hT q=>znS hT q) (fun h' tk acc c k1 k2 it=>hR h' tk acc c k1 k2 (zmX it))
 ·rcases List.mem_cons.mp z with z|z
  ·exact absurd z (Nat.ne_of_lt sl)
  ·exact hd (List.mem_singleton.mp z)
 ·exact M.zlP nm g1 g0 g2 (k _ (fun b o e=>Heap.get?_push_of_some _ e) (PyProof.Rows.size_push' ..) ⟨⟨_,Heap.get?_push_size _ rfl,rfl,by simp⟩,Heap.get?_push_of_some _ g1⟩)
theorem zmj {d:Addr}{od:Obj}{es:Array DictEntry}{ep:Nat}(hh:A.handled=none)(nm:(d==sysModules)=false)(g1:s.heap.get? d=some od)(g0:od.ExactDict)(g2:od.data= .dict es ep)(hz:es.size<=2^24):
  Gives prog w A d (fun vs=>vs=es.toList.map (·.key)) s:=by
 intro Q E hQ
 unfold collect
 refine wpAny_bind (wpAny_runValue (codeAny_builtin F.entry_proto_collect ?_))
 rw[Around.under_plainId F.plain_proto_collect _]
 show wpAny _ A.in1 (newList []>>=fun l=>again (.builtin "list.__iadd__" ⟨[l,.ref d],[]⟩)) _ _ s
 refine wpAny_bind (wpAny_newObj_type ?_)
 have g:(s.heap.push {cls:= .type "list",data:= .seq #[]}).get? s.heap.objs.size=some {cls:= .type "list",data:= .seq #[]}:=Heap.get?_push_size _ rfl
 have gd:=Heap.get?_push_of_some {cls:= .type "list",data:= .seq #[]} g1
 refine wpAny_pure ⟨plainId_quiet F.plain_list_iadd _,zoE (s:={s with heap:=s.heap.push {cls:= .type "list",data:= .seq #[]}}) hh nm gd g0 g2 hz g (Nat.ne_of_gt (Heap.lt_size g1)) fun h' tk acc c k1 k2 e=>?_⟩
 show wpAny _ A (load s.heap.objs.size>>=_) _ _ _
 refine wpAny_bind (wpAny_load k2 ?_)
 exact wpAny_pure (hQ h' tk acc.toList (fun b o e=>k1 b o (Nat.ne_of_lt (Heap.lt_size e)) (Heap.get?_push_of_some _ e)) (Nat.le_of_lt (Heap.lt_size k2)) e)
theorem sortedW {d:Addr}{P:List Value->Prop}{lt:List Value->Nat->Nat->Bool}{Q:Value->Shared->Prop}(o:∀vs,P vs->M.Ord (lt vs))(hg:Gives prog w A.in1 d P s)(h64:∀vs,P vs->vs.length<64)
  (hk:∀vs,P vs->2<=vs.length->∀h' tk,(∀b u,s.heap.get? b=some u->h'.get? b=some u)->Asked prog w A.in1.in1 vs (lt vs) {s with heap:=h',toks:=tk})
  (h:∀vs h' tk p n,P vs->(∀b u,s.heap.get? b=some u->h'.get? b=some u)->s.heap.objs.size<=p->h'.get? p=some (seqObj "list" (outA vs (lt vs)).toArray n)->Q (.ref p) {s with heap:=h',toks:=tk}):
  wpAny (model prog w) A (call (.builtin "sorted") [.ref d]) Q E s:=by
 refine Calls.call_function_entry PyProof.Rows.kind_sorted PyProof.Rows.plain_sorted PyProof.Rows.entry_sorted (PyProof.Rows.args_sorted1 _) (?_:wpAny _ _ (Builtin.«sorted» _) _ _ _)
 unfold Builtin.«sorted»
 refine wpAny_bind (m:=checkCount "sorted" 1 1 _) (wpAny_pure (wpAny_bind (hg _ _ fun h1 tk vs k1 kz pv=>wpAny_bind (wpAny_newList ?_ (by have:=h64 vs pv;rw[sizeLine_eq];lia)))))
 have g:(h1.push (seqObj "list" vs.toArray 0)).get? h1.objs.size=some (seqObj "list" vs.toArray 0):=Heap.get?_push_size _ rfl
 have k2:∀b u,s.heap.get? b=some u->(h1.push (seqObj "list" vs.toArray 0)).get? b=some u:=fun b u e=>Heap.get?_push_of_some _ (k1 b u e)
 have nb:∀b u,s.heap.get? b=some u->b≠h1.objs.size:=fun b u e=>Nat.ne_of_lt (Heap.lt_size (k1 b u e))
 show wpAny _ _ _ _ _ {s with heap:=h1.push (seqObj "list" vs.toArray 0),toks:=tk}
 refine wpAny_bind (wpAny_holding (wpAny_call_entry PyProof.Rows.slot_list_sort ⟨_,g,rfl⟩ PyProof.Rows.entry_list_sort (zmO (o vs pv) g (h64 vs pv) (fun h2 h' k=>hk vs pv h2 h' tk fun b u q=>k b u (nb b u q) (k2 b u q)) ⟨_,rfl,wpAny_pure ⟨_,rfl,?_⟩⟩) (PyProof.Rows.args_list_sort _)))
 have g2:=PyProof.Rows.get?_update_seq g fun _=>(#[]:Array Value)
 have g3:=Heap.get?_push_of_some (seqObj "list" #[] 0) (Heap.get?_push_of_some (seqObj "tuple" vs.toArray 0) g2)
 refine h vs _ tk _ _ pv (fun b u e=>?_) ?_ (PyProof.Rows.get?_update_seq g3 fun _=>(outA vs (lt vs)).toArray)
 ·exact(Heap.get?_update_other _ _ (Ne.symm (nb b u e))).trans (Heap.get?_push_of_some _ (Heap.get?_push_of_some _ ((Heap.get?_update_other _ _ (Ne.symm (nb b u e))).trans (k2 b u e))))
 ·exact kz
end
end HT
namespace M
open L2 PySem PySem.Spec
open PyProof.Rows hiding St
noncomputable def rSrtT (K:W.Frag):List V->Hp->VK->Prop:=fun vs H Q=>∃(d:Addr) (o:Obj) (xs:List (List L2.Key×Addr×Value)) (nss:List (List Int)),vs=[.ref d]/\H d=some (kn d o)/\DtN o xs/\(d==sysModules)=false/\xs.length<64/\nss.length=xs.length/\
 (∀(i:Nat) q ns,xs[i]? =some q->nss[i]? =some ns->SqT K H q.2.1 (ns.map V.int)/\ns≠[])/\∀l,H l=none->Q (.ref l) (upd H l (.lst (srtV nss (xs.map fun q=>V.ref q.2.1))))
theorem zj0:∀(xs:List (List L2.Key×Addr×Value)),Vals (xs.map fun q=>V.ref q.2.1) (xs.map fun q=>Value.ref q.2.1)
 |[]=> .nil
 |q::xs=> .cons rfl (zj0 xs)
theorem zkb {X:Cx}(hc:X.calm=true):zhn X (.builtin "sorted") (rSrtT X.K):=by
 intro pins s σ H vs us Q I r h
 obtain⟨d,o,xs,nss,rfl,hd,dn,ns,h64,hl,hk,q⟩:=h
 obtain⟨u,rfl,ru⟩:=zla r
 cases ru
 have g:=zn5 I.hok hd
 obtain⟨h1,⟨es,ep,h2,he⟩,-⟩:=id dn
 have hz:es.size=xs.length:=by have:=congrArg List.length he;simpa using this
 have ek:es.toList.map (·.key)=xs.map fun q=>Value.ref q.2.1:=by rw[he,List.map_map];rfl
 refine HT.sortedW (P:=fun vs=>vs=es.toList.map (·.key)) (lt:=fun _=>HT.zhb nss) (fun _ _=>HT.zos nss) (HT.zmj (I.ok.hd hc) ns g h1 h2 (by rw[hz];lia)) (fun vs e=>by rw[e,ek,List.length_map];exact h64) (fun vs e h2' h' tk k=>?_) (fun vs h' tk p n e k pz gp=>?_)
 ·rw[e,ek]at h2' ⊢
  refine HT.zmk ⟨by rw[List.length_map,hl],fun i v ns e3 e4=>?_⟩ h2'
  rw[List.getElem?_map]at e3
  obtain⟨q,eq,rfl⟩:=zau e3
  obtain⟨g1,g2⟩:=hk i q ns eq e4
  have I':Inv X pins σ H {s with heap:=h',toks:=tk}:=I.kept k
  obtain⟨its2,r2,p2,_⟩:=I'.tuple g1
  exact⟨_,its2,rfl,p2,zmC r2,g2⟩
 ·rw[e,ek]at gp
  refine⟨.ref p,upd H p (.lst (srtV nss (xs.map fun q=>V.ref q.2.1))),I.laid (t':=tk) k pz ?_,rfl,q _ (I.hok.fresh pz)⟩
  have r2:=zkh (zj0 xs) (srt (xs.map fun q=>V.ref q.2.1).length (HT.zhb nss))
  refine⟨?_,HT.outA (xs.map fun q=>Value.ref q.2.1) (HT.zhb nss),n,?_,gp⟩
  ·unfold srtV
   rw[List.length_map,(zjc (HT.zos nss)).length_eq,List.length_range,List.length_map,sizeLine_eq];lia
  ·unfold HT.outA srtV
   rw[List.length_map,List.length_map]at*;exact r2
theorem RepL.of_get {K:W.Frag}{G:Hp}:∀{ys:List V} {ds:List D},ys.length=ds.length->(∀(i:Nat) y d,ys[i]? =some y->ds[i]? =some d->RepD K G y d)->RepL K G ys ds
 |[],[],_,_=> .nil
 |y::ys,d::ds,h,k=> .cons (k 0 y d rfl rfl) (RepL.of_get (by simpa using h) fun i y d h1 h2=>k (i+1) y d (by simpa using h1) (by simpa using h2))
noncomputable def oSrtT (j:Nat):MO:=fun ρ=>match ρ[j]? with
 |some (.val (.dit ks ds))=>if ks.length<64/\ks.all (fun k=>!k.isEmpty)=true then some (srtD ks (ks.map fun k=> .tup (k.map .int)),ρ)else none
 |_=>none
theorem zmq {X:Cx}{x:Str}{p p' pos:Pos}(hc:X.calm=true)(ml:X.mg "sorted"=none)(j:Nat)(hN:autoParam (X.N[j]? =some x) zu2._auto_1)(hv:autoParam (Vis X.env.scope x) zu6._auto_1)(hd:autoParam ((x==("__debug__":Str))=false) zu1._auto_1)
  (hcd:autoParam ((x==("__classdict__":Str))=false) zu1._auto_1) (hg:autoParam (Gl X "sorted") zu2._auto_1) (he:autoParam (starEach [Expr.Name x p'] X.env=(false,eval (.Name x p') X.env)::starEach [] X.env) zu2._auto_1) (hb:autoParam (bootBuiltins "sorted"=some (.builtin "sorted")) zu8._auto_1):
  SO X (.Call (.Name "sorted" p) [.Name x p'] [] pos) (oSrtT j):=by
 refine⟨_,zgL (zkb hc) hg ml hb (zcn (za6 hN hv hd hcd) zf4 he) (by decide) (by decide) he rfl,fun B G H σ ρ ds ρ' Q I hm k=>?_⟩
 unfold oSrtT at hm
 split at hm
 ·rename_i ks es e
  split at hm
  ·rename_i c
   cases hm
   obtain⟨v,h1,p,ys,o,xs,rfl,h2,h3,h4⟩:=I.slot j _ e
   have len:ys.length=ks.length:=by have:=congrArg List.length h3.key;simpa using this
   have len2:ys.length=xs.length:=Paired.length h3.kt
   have kt:∀{ys:List (List L2.Key×V)} {xs:List (List L2.Key×Addr×Value)},KT G ys xs->∀{i:Nat} {q:List L2.Key×Addr×Value},xs[i]? =some q->∃y,ys[i]? =some y/\G q.2.1=some (.tup (y.1.map kV)):=by
    intro ys xs r
    induction r with
    |nil=>intro i q h;simp at h
    |cons h _ ih=>
     intro i q h2
     cases i with
     |zero=>simp only[List.getElem?_cons_zero,Option.some.injEq]at h2;subst h2;exact⟨_,rfl,h.2.1⟩
     |succ i=>exact ih (by simpa using h2)
   have at':∀(i:Nat) q n,xs[i]? =some q->ks[i]? =some n->G q.2.1=some (.tup (n.map V.int)):=fun i q n eq en=>by
    obtain⟨y,ey,hg⟩:=kt h3.kt eq
    have h5:(ys.map (·.1))[i]? =(ks.map (·.map kI))[i]?:=by rw[h3.key]
    rw[List.getElem?_map,List.getElem?_map,ey,en]at h5
    have h5:y.1=n.map kI:=by simpa using h5
    rw[h5,List.map_map]at hg
    exact hg
   refine⟨.ref p,h1,⟨p,o,xs,ks,rfl,I.fz _ _ h2,h3.dn,h3.sys,by lia,by lia,fun i q n eq en=>⟨SqT.of (I.fz _ _ (at' i q n eq en)),fun z=>?_⟩,fun l h0=>?_⟩⟩
   ·have:=List.all_eq_true.mp c.2 n (List.mem_of_getElem? en)
    rw[z]at this;cases this
   ·obtain⟨I2,g2,h2',b2,n2⟩:=I.newO h0 (srtV ks (xs.map fun q=>V.ref q.2.1))
    refine k G _ l _ I2 (Fz.refl G) g2 h2' ?_ b2 n2
    unfold srtV srtD
    rw[List.length_map,List.length_map,<-len2,len]
    refine RepL.picks ?_ _
    refine RepL.of_get (by rw[List.length_map,List.length_map];lia) fun i y d h5 h6=>?_
    rw[List.getElem?_map]at h5 h6
    obtain⟨q,eq,rfl⟩:=zau h5
    obtain⟨n,en,rfl⟩:=zau h6
    exact⟨_,_,rfl,at' i q n eq en,RepL.ints n⟩
  ·cases hm
 ·cases hm
end M
namespace M
open L2 PySem
variable {c d x:D} {b:MS} {z:Bool} {Q:Fl×R->Prop} {a i n j N k:Nat} {f:D->R->Option (Option D×R)} {g:D->R->Option R} {mt:MT} {me m:ME} {ρ:R} {r:Sl} {h:List D->R->Option R} {ds xs ys:List D} {mi ma:MA} {t:Option Sl} {F:List D->Option Sl} {cap:List Nat} {I:R->Prop} {ns:List Int}
noncomputable abbrev Rt {α:Type}(_:α->Prop):Type:=Option α
noncomputable def OkQ {α:Type}(Q:α->Prop)(o:Rt Q):Prop:=∃a,o=some a/\Q a
noncomputable def Ok {α:Type}(o:Option α)(Q:α->Prop):Prop:=OkQ Q o
noncomputable abbrev RtS {α:Sort u}(_:α):Type:=Option Sl
section
variable {α β:Type} {o:Option α} {Q Q':α->Prop}
theorem ok_some {a:α}:OkQ Q (some a)=Q a:=propext ⟨fun⟨_,e,q⟩=>by cases e;exact q,fun q=>⟨a,rfl,q⟩⟩
theorem ok_none:OkQ Q (none:Option α)=False:=propext ⟨fun⟨_,e,_⟩=>(by cases e),False.elim⟩
theorem ok_bind {f:α->Option β}{Q:β->Prop}:OkQ Q (o.bind f)=OkQ (fun a=>OkQ Q (f a)) o:=by
 cases o with
 |none=>exact propext ⟨fun⟨_,e,_⟩=>(by cases e),fun⟨_,e,_⟩=>(by cases e)⟩
 |some a=>exact propext ⟨fun h=>⟨a,rfl,h⟩,fun⟨_,e,h⟩=>by cases e;exact h⟩
theorem ok_map {f:α->β}{Q:β->Prop}:OkQ Q (o.map f)=OkQ (fun a=>Q (f a)) o:=by
 cases o with
 |none=>exact propext ⟨fun⟨_,e,_⟩=>(by cases e),fun⟨_,e,_⟩=>(by cases e)⟩
 |some a=>exact propext ⟨fun h=>⟨a,rfl,ok_some.mp h⟩,fun⟨_,e,h⟩=>by cases e;exact ok_some.mpr h⟩
theorem zfD {c:Prop}[Decidable c]:OkQ Q (if c then o else none)=(c/\OkQ Q o):=by
 by_cases h:c
 ·rw[if_pos h];exact propext ⟨fun k=>⟨h,k⟩,fun k=>k.2⟩
 ·rw[if_neg h];exact propext ⟨fun k=>(ok_none.mp k).elim,fun k=>absurd k.1 h⟩
theorem ok_Q:Ok o Q=OkQ Q o:=rfl
noncomputable def gd {α:Type}(b:Bool)(o:Option α):Option α:=if b then o else none
theorem ok_gd {b:Bool}(h:b=true):OkQ Q (gd b o)=OkQ Q o:=by subst h;rfl
theorem Ok.mono (h:Ok o Q)(k:∀a,Q a->Q' a):Ok o Q':=by
 obtain⟨a,e,q⟩:=h;exact⟨a,e,k a q⟩
theorem zaQ {Q':α->Prop}(h:∀a,Q a=Q' a):OkQ Q o=OkQ Q' o:=by rw[funext h]
theorem Ok.of {a:α}(e:o=some a)(q:Q a):Ok o Q:=⟨a,e,q⟩
end
section
variable {c:MT} {a b:MS} {ρ:R}
theorem zkA {α:Type}{o u:Option α}{Q:α->Prop}:OkQ Q (if z then o else u)=((z=true->OkQ Q o)/\(z=false->OkQ Q u)):=by cases z<;>simp
theorem ok_sIf:OkQ Q (sIf c a b ρ)=(OkQ (fun p=>(p.1=true->OkQ Q (a p.2))/\(p.1=false->OkQ Q (b p.2))) (c ρ)):=by
 unfold sIf;rw[ok_bind];exact zaQ fun p=>zkA
theorem ok_eIf {a b:ME}{Q:D×R->Prop}:OkQ Q (eIf c a b ρ)=(OkQ (fun p=>(p.1=true->OkQ Q (a p.2))/\(p.1=false->OkQ Q (b p.2))) (c ρ)):=by
 unfold eIf;rw[ok_bind];exact zaQ fun p=>zkA
theorem ok_tAnd {a b:MT}{Q:Bool×R->Prop}:OkQ Q (tAndM a b ρ)=(OkQ (fun p=>(p.1=true->OkQ Q (b p.2))/\(p.1=false->Q (false,p.2))) (a ρ)):=by
 unfold tAndM;rw[ok_bind];exact zaQ fun p=>by rw[zkA,ok_some]
theorem ok_tOr {a b:MT}{Q:Bool×R->Prop}:OkQ Q (tOrM a b ρ)=(OkQ (fun p=>(p.1=true->Q (true,p.2))/\(p.1=false->OkQ Q (b p.2))) (a ρ)):=by
 unfold tOrM;rw[ok_bind];exact zaQ fun p=>by rw[zkA,ok_some]
theorem ok_eAnd {a b:ME}{Q:D×R->Prop}:OkQ Q (eAnd a b ρ)=(OkQ (fun p=>∃z,p.1= .bl z/\(z=true->OkQ Q (b p.2))/\(z=false->Q (.bl false,p.2))) (a ρ)):=by
 unfold eAnd;rw[ok_bind]
 have:∀p:D×R,Ok (match p.1 with
  | .bl true=>b p.2
  | .bl false=>some (.bl false,p.2)
  |_=>none) Q↔∃z,p.1= .bl z/\(z=true->Ok (b p.2) Q)/\(z=false->Q (.bl false,p.2)):=by
  rintro⟨d,ρ⟩
  cases d with
  |bl z=>cases z<;>simp[ok_Q,ok_some]
  |_=>simp[ok_Q,ok_none]
 exact zaQ fun p=>propext (this p)
theorem ok_eOr {a b:ME}{Q:D×R->Prop}:OkQ Q (eOr a b ρ)=(OkQ (fun p=>∃z,p.1= .bl z/\(z=true->Q (.bl true,p.2))/\(z=false->OkQ Q (b p.2))) (a ρ)):=by
 unfold eOr;rw[ok_bind]
 have:∀p:D×R,Ok (match p.1 with
  | .bl true=>some (.bl true,p.2)
  | .bl false=>b p.2
  |_=>none) Q↔∃z,p.1= .bl z/\(z=true->Q (.bl true,p.2))/\(z=false->Ok (b p.2) Q):=by
  rintro⟨d,ρ⟩
  cases d with
  |bl z=>cases z<;>simp[ok_Q,ok_some]
  |_=>simp[ok_Q,ok_none]
 exact zaQ fun p=>propext (this p)
theorem ok_chain {f g:D->D->Option D}{a b c:ME}{Q:D×R->Prop}:OkQ Q (zgc f g a b c ρ)=(OkQ (fun p=>OkQ (fun q=>OkQ (fun t=>∃z,t= .bl z/\(z=true->OkQ (fun r=>OkQ (fun d=>Q (d,r.2)) (g q.1 r.1)) (c q.2))/\(z=false->Q (.bl false,q.2))) (f p.1 q.1)) (b p.2)) (a ρ)):=by
 unfold zgc;rw[ok_bind]
 have:∀(p q:D×R) (t:D),Ok (match t with
  | .bl true=>(c q.2).bind fun r=>(g q.1 r.1).map fun d=>(d,r.2)
  | .bl false=>some (.bl false,q.2)
  |_=>none) Q↔∃z,t= .bl z/\(z=true->Ok (c q.2) fun r=>Ok (g q.1 r.1) fun d=>Q (d,r.2))/\(z=false->Q (.bl false,q.2)):=by
  intro p q t
  cases t with
  |bl z=>
   cases z
   ·simp[ok_Q,ok_some]
   ·simp only[ok_Q,ok_bind,D.bl.injEq,exists_eq_left',forall_const,reduceCtorEq,false_implies,and_true]
    exact iff_of_eq (zaQ fun r=>ok_map)
  |_=>simp[ok_Q,ok_none]
 exact zaQ fun p=>by rw[ok_bind];exact zaQ fun q=>by rw[ok_bind];exact zaQ fun t=>propext (this p q t)
theorem ok_turnM {Q:Option D×R->Prop}:OkQ Q (zmK g mt me d ρ)=(OkQ (fun ρ1=>OkQ (fun p=>(p.1=true->OkQ (fun q=>zcE q.2=true/\Q (some q.1,q.2)) (me p.2))/\(p.1=false->zcE p.2=true/\Q (none,p.2))) (mt ρ1)) (g d ρ)):=by
 unfold zmK;rw[ok_bind];exact zaQ fun ρ1=>by rw[ok_bind];exact zaQ fun p=>by rw[zkA,ok_bind,zfD,ok_some];congr 1;exact propext (imp_congr Iff.rfl (iff_of_eq (zaQ fun q=>by rw[zfD,ok_some])))
theorem ok_turnP {bk:Nat}{Q:Option D×R->Prop}:OkQ Q (zmr bk g mt me d ρ)=(OkQ (fun ρ1=>OkQ (fun p=>(p.1=true->OkQ (fun q=>zk7 bk q.2=true/\Q (some q.1,q.2)) (me p.2))/\(p.1=false->zk7 bk p.2=true/\Q (none,p.2))) (mt ρ1)) (g d ρ)):=by
 unfold zmr;rw[ok_bind];exact zaQ fun ρ1=>by rw[ok_bind];exact zaQ fun p=>by rw[zkA,ok_bind,zfD,ok_some];congr 1;exact propext (imp_congr Iff.rfl (iff_of_eq (zaQ fun q=>by rw[zfD,ok_some])))
theorem zmx (n:Nat):Int.natAbs (no_index (OfNat.ofNat n))=n:=rfl
end
section
theorem ok_sNext:OkQ Q (zcs ρ)=(Q (.next,ρ)):=ok_some
noncomputable def SeqK (b:MS)(Q:Fl×R->Prop)(p:Fl×R):Prop:=OkQ Q (match p.1 with
 | .next=>b p.2
 |f=>some (f,p.2))
theorem znm:SeqK b Q (.next,ρ)=(OkQ Q (b ρ)):=rfl
theorem seqK_ret:SeqK b Q (.ret r,ρ)=(Q (.ret r,ρ)):=ok_some
theorem seqK_brk:SeqK b Q (.brk,ρ)=(Q (.brk,ρ)):=ok_some
theorem znc:SeqK b Q (.cont,ρ)=(Q (.cont,ρ)):=ok_some
theorem ok_sSeq {a b:MS}:OkQ Q (sSeq a b ρ)=(OkQ (SeqK b Q) (a ρ)):=ok_bind
theorem ok_sRet:OkQ Q (sRet m ρ)=(OkQ (fun p=>Q (.ret (.val p.1),p.2)) (m ρ)):=ok_map
theorem ok_sRetO {m:MO}:OkQ Q (zkt m ρ)=(OkQ (fun p=>Q (.ret (.own p.1),p.2)) (m ρ)):=ok_map
theorem ok_sRetV:OkQ Q (zg5 i ρ)=OkQ Q (match ρ[i]? with
 |some (.val d)=>some (.ret (.val d),ρ)
 |some (.own ds)=>some (.ret (.own ds),ρ.set i .emp)
 |_=>none):=rfl
theorem ok_gN {Q:R->Prop}:OkQ Q (gN i d ρ)=(Q (ρ.set i (.val d))):=ok_some
theorem ok_gsNil {ds:List D}{ρ:R}{Q:R->Prop}:OkQ Q (zc2 ds ρ)=OkQ Q (match ds with
 |[]=>some ρ
 |_=>none):=rfl
theorem znn {Q:R->Prop}:OkQ Q (zav g h ds ρ)=OkQ Q (match ds with
 |d::ds=>(g d ρ).bind fun ρ1=>h ds ρ1
 |[]=>none):=rfl
theorem ok_gT {g:List D->R->Option R}{Q:R->Prop}:OkQ Q (gT n g d ρ)=OkQ Q (match d with
 | .tup ds=>if ds.length=n then g ds ρ else none
 |_=>none):=rfl
theorem ok_sAsg:OkQ Q (sAsg m g ρ)=(OkQ (fun p=>OkQ (fun ρ'=>Q (.next,ρ')) (g p.1 p.2)) (m ρ)):=ok_bind.trans (zaQ fun _=>ok_map)
theorem ok_sSet:OkQ Q (sSet i m ρ)=(OkQ (fun p=>Q (.next,p.2.set i (.val p.1))) (m ρ)):=ok_map
theorem ok_sSetO {m:MO}:OkQ Q (zfi i m ρ)=(OkQ (fun p=>Q (.next,p.2.set i (.own p.1))) (m ρ)):=ok_map
theorem ok_sApp:OkQ Q (sApp i m ρ)=OkQ Q (gd ((ρ[i]?.bind Sl.items).isSome) ((m ρ).bind fun p=>p.2[i]?.bind fun s=>s.items.bind fun ds=>if ds.length<16777216 then some (.next,p.2.set i (s.put (ds++[p.1])))else none)):=rfl
theorem ok_sPut {mi me:ME}:OkQ Q (sPut j mi me ρ)=OkQ Q ((me ρ).bind fun p=>gd (hasV p.2 j) ((mi p.2).bind fun q=>match q.1 with
 | .int k=>q.2[j]?.bind fun s=>s.items.bind fun ds=>(ixN ds.length k).bind fun n=>some (.next,q.2.set j (s.put (ds.set n p.1)))
 |_=>none)):=rfl
theorem ok_eC {Q:D×R->Prop}:OkQ Q (eC d ρ)=(Q (d,ρ)):=ok_some
noncomputable def eVQ (Q:D×R->Prop)(s:RtS Q)(ρ:R)(i:Nat):Prop:=match s with
 |some (.val d)=>Q (d,ρ)
 |some (.own ds)=>Q (.lst ds,ρ.set i (.val (.lst ds)))
 |_=>False
theorem zh6 {Q:D×R->Prop}:eVQ Q (some (.val d)) ρ i=Q (d,ρ):=rfl
theorem eVQ_own {Q:D×R->Prop}:eVQ Q (some (.own ds)) ρ i=Q (.lst ds,ρ.set i (.val (.lst ds))):=rfl
theorem zij {Q:D×R->Prop}:OkQ Q (eVar i ρ)=eVQ Q ρ[i]? ρ i:=by
 unfold eVar eVQ
 cases ρ[i]? with
 |none=>exact ok_none
 |some s=>cases s<;>first|exact ok_some|exact ok_none
noncomputable def Vb (Q:D->D->Prop)(P:Prop)(s:RtS Q)(t:Option Sl):Prop:=match s,t with
 |some (.val x),some (.val y)=>Q x y
 |_,_=>P
theorem Vb_val {Q:D->D->Prop}{P:Prop}{x y:D}:Vb Q P (some (.val x)) (some (.val y))=Q x y:=rfl
theorem Vb_own {Q:D->D->Prop}{P:Prop}:Vb Q P (some (.own xs)) t=P:=rfl
theorem Vb_own2 {Q:D->D->Prop}{P:Prop}:Vb Q P (some (.val x)) (some (.own ys))=P:=rfl
noncomputable def Va (Q:D->Prop)(P:Prop)(s:RtS Q):Prop:=match s with
 |some (.val x)=>Q x
 |_=>P
theorem Va_val {Q:D->Prop}{P:Prop}:Va Q P (some (.val x))=Q x:=rfl
theorem Va_own {Q:D->Prop}{P:Prop}:Va Q P (some (.own xs))=P:=rfl
theorem ok_aNil {Q:List D×R->Prop}:OkQ Q (aNil ρ)=(Q ([],ρ)):=ok_some
theorem ok_aCons {r:MA}{Q:List D×R->Prop}:OkQ Q (zaf m r ρ)=(OkQ (fun p=>OkQ (fun q=>Q (p.1::q.1,q.2)) (r p.2)) (m ρ)):=ok_bind.trans (zaQ fun _=>ok_map)
theorem ok_m2 {f:D->D->Option D}{ma mb:ME}{Q:D×R->Prop}:OkQ Q (m2 f ma mb ρ)=(OkQ (fun p=>OkQ (fun q=>OkQ (fun d=>Q (d,q.2)) (f p.1 q.1)) (mb p.2)) (ma ρ)):=ok_bind.trans (zaQ fun _=>ok_bind.trans (zaQ fun _=>ok_map))
theorem ok_m2VV {f:D->D->Option D}{a b:Nat}{Q:D×R->Prop}:OkQ Q (m2 f (eVar a) (eVar b) ρ)=Vb (fun x y=>OkQ (fun d=>Q (d,ρ)) (f x y)) (OkQ (fun p=>OkQ (fun q=>OkQ (fun d=>Q (d,q.2)) (f p.1 q.1)) (eVar b p.2)) (eVar a ρ)) ρ[a]? ρ[b]?:=by
 rw[ok_m2,Vb.eq_def]
 split
 ·rename_i x y h1 h2
  rw[zij,h1,zh6,zij,h2,zh6]
 ·rfl
theorem ok_m2VC {f:D->D->Option D}{Q:D×R->Prop}:OkQ Q (m2 f (eVar a) (eC c) ρ)=Va (fun x=>OkQ (fun d=>Q (d,ρ)) (f x c)) (OkQ (fun p=>OkQ (fun d=>Q (d,p.2)) (f p.1 c)) (eVar a ρ)) ρ[a]?:=by
 rw[ok_m2,Va.eq_def,show(fun p:D×R=>OkQ (fun q=>OkQ (fun d=>Q (d,q.2)) (f p.1 q.1)) (eC c p.2))=fun p=>OkQ (fun d=>Q (d,p.2)) (f p.1 c)from funext fun p=>ok_eC]
 split
 ·rename_i x h1
  rw[zij,h1,zh6]
 ·rfl
theorem ok_m2CV {f:D->D->Option D}{Q:D×R->Prop}:OkQ Q (m2 f (eC c) (eVar a) ρ)=Va (fun x=>OkQ (fun d=>Q (d,ρ)) (f c x)) (OkQ (fun p=>OkQ (fun d=>Q (d,p.2)) (f c p.1)) (eVar a ρ)) ρ[a]?:=by
 rw[ok_m2,Va.eq_def,ok_eC]
 split
 ·rename_i x h1
  rw[zij,h1,zh6]
 ·rfl
theorem ok_m1 {f:D->Option D}{ma:ME}{Q:D×R->Prop}:OkQ Q (m1 f ma ρ)=(OkQ (fun p=>OkQ (fun d=>Q (d,p.2)) (f p.1)) (ma ρ)):=ok_bind.trans (zaQ fun _=>ok_map)
theorem ok_mC {f:List D->Option D}{Q:D×R->Prop}:OkQ Q (mC f ma ρ)=(OkQ (fun p=>OkQ (fun d=>Q (d,p.2)) (f p.1)) (ma ρ)):=ok_bind.trans (zaQ fun _=>ok_map)
theorem ok_eIxV {mi:ME}{Q:D×R->Prop}:OkQ Q (eIxV j mi ρ)=OkQ Q (gd (hasV ρ j) ((mi ρ).bind fun p=>(p.2[j]?.bind Sl.read).bind fun d=>(dIx d p.1).map fun e=>(e,p.2))):=Eq.trans rfl rfl
noncomputable def ixR (s:Option Sl)(c:D):Option D:=match s with
 |some (.val d)=>dIx d c
 |some (.own ds)=>dIx (.lst ds) c
 |some (.par ds)=>dIx (.lst ds) c
 |_=>none
theorem ixR_val:ixR (some (.val d)) c=dIx d c:=rfl
theorem ixR_own:ixR (some (.own ds)) c=dIx (.lst ds) c:=rfl
theorem ixR_par:ixR (some (.par ds)) c=dIx (.lst ds) c:=rfl
theorem zmd:(if hasV ρ j then(ρ[j]?.bind Sl.read).bind fun d=>(dIx d c).map fun e=>(e,ρ)else none)=(ixR ρ[j]? c).map fun e=>(e,ρ):=by
 unfold hasV
 cases ρ[j]? with
 |none=>rfl
 |some s=>cases s<;>rfl
theorem ok_eIxC {Q:D×R->Prop}:OkQ Q (eIxV j (eC c) ρ)=OkQ (fun e=>Q (e,ρ)) (ixR ρ[j]? c):=by
 rw[show eIxV j (eC c) ρ=(ixR ρ[j]? c).map fun e=>(e,ρ)from zmd,ok_map]
theorem ok_eIxE {Q:D×R->Prop}:OkQ Q (eIxV j (eVar i) ρ)=Va (fun c=>OkQ (fun e=>Q (e,ρ)) (ixR ρ[j]? c)) (OkQ Q (gd (hasV ρ j) ((eVar i ρ).bind fun p=>(p.2[j]?.bind Sl.read).bind fun d=>(dIx d p.1).map fun e=>(e,p.2)))) ρ[i]?:=by
 rw[Va.eq_def]
 split
 ·rename_i x h1
  rw[show eIxV j (eVar i) ρ=(ixR ρ[j]? x).map fun e=>(e,ρ) by
   rw[<-zmd];unfold eIxV;rw[show eVar i ρ=some (x,ρ) by unfold eVar;rw[h1]];rfl,ok_map]
 ·rfl
theorem ok_eLenV {Q:D×R->Prop}:OkQ Q (zdm j ρ)=OkQ Q ((ρ[j]?.bind Sl.read).bind fun d=>(dLen [d]).map fun e=>(e,ρ)):=rfl
theorem ok_oC {f:List D->Option (List D)}{Q:List D×R->Prop}:OkQ Q (oC f ma ρ)=(OkQ (fun p=>OkQ (fun d=>Q (d,p.2)) (f p.1)) (ma ρ)):=ok_bind.trans (zaQ fun _=>ok_map)
theorem ok_eTup {Q:D×R->Prop}:OkQ Q (eTup ma ρ)=(OkQ (fun p=>p.1.length<=16777216/\Q (.tup p.1,p.2)) (ma ρ)):=ok_bind.trans (zaQ fun _=>by rw[zfD,ok_some])
theorem ok_oLst {Q:List D×R->Prop}:OkQ Q (oLst ma ρ)=(OkQ (fun p=>p.1.length<=16777216/\Q (p.1,p.2)) (ma ρ)):=ok_bind.trans (zaQ fun _=>by rw[zfD,ok_some])
theorem ok_tTru {ma:ME}{Q:Bool×R->Prop}:OkQ Q (tTru ma ρ)=(OkQ (fun p=>OkQ (fun b=>Q (b,p.2)) (dTru p.1)) (ma ρ)):=ok_bind.trans (zaQ fun _=>ok_map)
theorem ok_tNotM {a:MT}{Q:Bool×R->Prop}:OkQ Q (zkR a ρ)=(OkQ (fun p=>Q (!p.1,p.2)) (a ρ)):=ok_map
theorem ok_eCall {Q:D×R->Prop}:OkQ Q (zaz F ma ρ)=OkQ Q ((ma ρ).bind fun p=>(F p.1).bind fun r=>match r with
 | .val d=>some (d,p.2)
 | .own ds=>some (.lst ds,p.2)
 |_=>none):=rfl
theorem ok_oCall {Q:List D×R->Prop}:OkQ Q (oCall F ma ρ)=OkQ Q ((ma ρ).bind fun p=>(F p.1).bind fun r=>match r with
 | .own ds=>some (ds,p.2)
 |_=>none):=rfl
theorem zoR {F:List D->List D->Option (Sl×List D)}{Q:D×R->Prop}:OkQ Q (zbx F j ma ρ)=OkQ Q (gd ((ρ[j]?.bind Sl.items).isSome) ((ma ρ).bind fun p=>p.2[j]?.bind fun s=>s.items.bind fun cs=>(F cs p.1).bind fun r=>match r.1 with
 | .val d=>some (d,p.2.set j (s.put r.2))
 | .own ds=>some (.lst ds,p.2.set j (s.put r.2))
 |_=>none)):=rfl
theorem ok_iR2L {Q:List D×R->Prop}:OkQ Q (iR2L ma ρ)=OkQ Q ((ma ρ).bind fun p=>match p.1 with
 |[.int i,.int j]=>some (zgf i (j-i).toNat,p.2)
 |_=>none):=rfl
theorem ok_eFz {m:MO}{Q:D×R->Prop}:OkQ Q (eFz m ρ)=(OkQ (fun p=>Q (.lst p.1,p.2)) (m ρ)):=ok_map
theorem ok_eCut {ma:ME}{ml mh:MP}{Q:D×R->Prop}:OkQ Q (eCut ma ml mh ρ)=OkQ Q ((ma ρ).bind fun p=>(ml p.2).bind fun q=>(mh q.2).bind fun r=>(dCut p.1 q.1 r.1).map fun d=>(d,r.2)):=rfl
theorem ok_pNo {Q:Option Int×R->Prop}:OkQ Q (pNo ρ)=(Q (none,ρ)):=ok_some
theorem ok_pSome {Q:Option Int×R->Prop}:OkQ Q (zfZ m ρ)=OkQ Q ((m ρ).bind fun p=>match p.1 with
 | .int i=>some (some i,p.2)
 |_=>none):=rfl
theorem ok_iSeq {Q:List D×R->Prop}:OkQ Q (iSeq m ρ)=(OkQ (fun p=>OkQ (fun ds=>Q (ds,p.2)) (zaL [p.1])) (m ρ)):=ok_bind.trans (zaQ fun _=>ok_map)
theorem ok_iR1 {Q:List D×R->Prop}:OkQ Q (iR1 ma ρ)=OkQ Q ((ma ρ).bind fun p=>match p.1 with
 |[.int j]=>if zf6 j then some (zgf 0 j.toNat,p.2)else none
 |_=>none):=rfl
theorem ok_sFor {mb:MS}:OkQ Q (sFor mi g mb ρ)=(OkQ (fun p=>OkQ Q (forM (fun d ρ=>(g d ρ).bind fun ρ'=>mb ρ') p.1 p.2)) (mi ρ)):=ok_bind
theorem ok_oLC {t:Nat}{Q:List D×R->Prop}:OkQ Q (oLC cap t mi g mt me ρ)=OkQ Q ((mi ρ).bind fun p=>if p.1.length<=16777216 then(zeM (zmK g mt me) p.1 (capR cap t (fzL cap p.2))).map fun q=>(q.1,fzL cap p.2)else none):=rfl
theorem ok_tTrue {Q:Bool×R->Prop}:OkQ Q (zbV ρ)=(Q (true,ρ)):=ok_some
theorem ok_sAugI {g:Int->Int->Int}:OkQ Q (zmS i g me ρ)=OkQ Q (match ρ[i]? with
 |some (.val (.int a))=>(me ρ).bind fun p=>match p.1 with
  | .int b=>some (.next,p.2.set i (.val (.int (g a b))))
  |_=>none
 |_=>none):=rfl
theorem ok_oRep {ma mb:ME}{Q:List D×R->Prop}:OkQ Q (oRep ma mb ρ)=OkQ Q ((ma ρ).bind fun p=>(mb p.2).bind fun q=>match p.1,q.1 with
 | .lst xs,.int k=>if zf6 k&&decide (xs.length*k.toNat<=16777216)then some ((List.replicate k.toNat xs).flatten,q.2)else none
 |_,_=>none):=rfl
theorem ok_iZ2 {Q:List D×R->Prop}:OkQ Q (iZ2 ma ρ)=OkQ Q ((ma ρ).bind fun p=>match p.1 with
 |[a,b]=>(zaL [a]).bind fun xs=>(zaL [b]).bind fun ys=>some (zk1 xs ys,p.2)
 |_=>none):=rfl
theorem ok_iZ3 {Q:List D×R->Prop}:OkQ Q (iZ3 ma ρ)=OkQ Q ((ma ρ).bind fun p=>match p.1 with
 |[a,b,c]=>(zaL [a]).bind fun xs=>(zaL [b]).bind fun ys=>(zaL [c]).bind fun zs=>some (zkY xs ys zs,p.2)
 |_=>none):=rfl
theorem ok_iEn {Q:List D×R->Prop}:OkQ Q (iEn ma ρ)=OkQ Q ((ma ρ).bind fun p=>(zaL p.1).map fun xs=>(zlc xs,p.2)):=rfl
theorem ok_oLCM {t b w:Nat}{Q:List D×R->Prop}:OkQ Q (oLCM cap t b w mi g mt me ρ)=OkQ Q ((mi ρ).bind fun p=>if p.1.length<=16777216 then
    ((fzL (cap.filter (· !=w)) p.2)[w]?).bind fun s=>s.items.bind fun cs=>(zeM (zmr b g mt me) p.1 ((capR cap t (fzL (cap.filter (· !=w)) p.2)).set b (.par cs))).map fun q=>(q.1,(fzL (cap.filter (· !=w)) p.2).set w (s.put (zn4 b q.2)))
  else none):=rfl
noncomputable def zjZ:Nat->List D->R
 |N,[]=>List.replicate N .emp
 |N,d::ds=> .val d::zjZ (N-1) ds
theorem ziX {d:D}:zjZ N (d::ds)= .val d::zjZ (N-1) ds:=rfl
theorem zn0:zjZ N []=List.replicate N .emp:=rfl
theorem zhM:∀(N:Nat) (ds:List D),ds.map .val++List.replicate (N-ds.length) .emp=zjZ N ds
 |_,[]=>rfl
 |N,d::ds=>by rw[ziX,<-zhM (N-1) ds,List.map_cons,List.length_cons,Nat.sub_sub,Nat.add_comm 1];rfl
theorem znT {α β:Type}{f:α->β}{a:α}{l:List α}:(a::l).map f=f a::l.map f:=rfl
theorem map_nilR {α β:Type}{f:α->β}:[].map f=[]:=rfl
theorem ok_fP {m:MS}{Q:Sl->Prop}:OkQ Q (fP N m ds)=OkQ Q ((m (zjZ N ds)).bind fun p=>match p.1 with
 | .ret r=>some r
 | .next=>some (.val .non)
 |_=>none):=by rw[<-zhM];rfl
theorem ok_fM {m:MS}{cs:List D}{Q:Sl×List D->Prop}:OkQ Q (fM N m cs ds)=OkQ Q ((m (.par cs::zjZ (N-1) ds)).bind fun p=>match p.1,(p.2[0]?:Option Sl)with
 |Fl.ret r,some (Sl.par out)=>some (r,out)
 |Fl.next,some (Sl.par out)=>some (.val .non,out)
 |_,_=>none):=by rw[<-zhM,Nat.sub_sub,Nat.add_comm 1];rfl
end
noncomputable def Turn (I:R->Prop)(Q:Fl×R->Prop)(p:Fl×R):Prop:=match p.1 with
 | .next=>I p.2
 | .cont=>I p.2
 | .brk=>Q (.next,p.2)
 | .ret r=>Q (.ret r,p.2)
theorem zoQ:Turn I Q (.next,ρ)=(I ρ):=rfl
theorem zov:Turn I Q (.cont,ρ)=(I ρ):=rfl
theorem turn_brk:Turn I Q (.brk,ρ)=(Q (.next,ρ)):=rfl
theorem turn_ret:Turn I Q (.ret r,ρ)=(Q (.ret r,ρ)):=rfl
theorem zng {α:Type}{f:D->R->Option (Fl×R)}(enc:α->D)(I:Nat->R->Prop):∀(l:List α) (b:Nat) (ρ:R),I b ρ->
  (∀i a ρ,l[i]? =some a->I (b+i) ρ->Ok (f (enc a) ρ) (Turn (I (b+i+1)) Q))->(∀ρ,I (b+l.length) ρ->Q (.next,ρ))->Ok (forM f (l.map enc) ρ) Q
 |[],b,ρ,h0,_,hq=>ok_some.mpr (hq ρ h0)
 |a::l,b,ρ,h0,hs,hq=>by
  obtain⟨p,e,t⟩:=hs 0 a ρ rfl h0
  obtain⟨fl,ρ1⟩:=p
  have go:∀ρ1,I (b+1) ρ1->Ok (forM f (l.map enc) ρ1) Q:=fun ρ1 h1=>zng enc I l (b+1) ρ1 h1 (fun i a' ρ' hi hp=>by
   have:=hs (i+1) a' ρ' (by simpa using hi) (by rw[show b+(i+1)=b+1+i by lia];exact hp)
   rw[show b+(i+1)+1=b+1+i+1 by lia]at this
   exact this) (fun ρ h=>hq ρ (by rw[List.length_cons,show b+(l.length+1)=b+1+l.length by lia];exact h))
  have e':forM f ((a::l).map enc) ρ=(f (enc a) ρ).bind fun p=>match p.1 with
   | .next=>forM f (l.map enc) p.2
   | .cont=>forM f (l.map enc) p.2
   | .brk=>some (.next,p.2)
   | .ret r=>some (.ret r,p.2):=rfl
  rw[e',e]
  cases fl with
  |next=>exact go ρ1 t
  |cont=>exact go ρ1 t
  |brk=>exact ok_some.mpr t
  |ret r=>exact ok_some.mpr t
theorem ok_for {α:Type}{f:D->R->Option (Fl×R)}{enc:α->D}{l:List α}(I:Nat->R->Prop)(h0:I 0 ρ)
  (hs:∀i a ρ,l[i]? =some a->I i ρ->Ok (f (enc a) ρ) (Turn (I (i+1)) Q)) (hq:∀ρ,I l.length ρ->Q (.next,ρ)):Ok (forM f (l.map enc) ρ) Q:=
 zng enc I l 0 ρ h0 (fun i a ρ hi h=>by rw[Nat.zero_add]at h ⊢;exact hs i a ρ hi h) (fun ρ h=>hq ρ (by rw[Nat.zero_add]at h;exact h))
theorem zka {α:Type}(enc:α->D){Q:List D×R->Prop}(I:Nat->List D->R->Prop):∀(l:List α) (b:Nat) (acc:List D) (ρ:R),I b acc ρ->
  (∀i a acc ρ,l[i]? =some a->I (b+i) acc ρ->Ok (f (enc a) ρ) fun p=>I (b+i+1) (acc++p.1.toList) p.2)->(∀ds ρ,I (b+l.length) (acc++ds) ρ->Q (ds,ρ))->Ok (zeM f (l.map enc) ρ) Q
 |[],b,acc,ρ,h0,_,hq=>ok_some.mpr (hq [] ρ (by rw[List.append_nil];exact h0))
 |a::l,b,acc,ρ,h0,hs,hq=>by
  obtain⟨p,e,t⟩:=hs 0 a acc ρ rfl h0
  have go:=zka enc (Q:=fun q=>Q (p.1.toList++q.1,q.2)) I l (b+1) (acc++p.1.toList) p.2 t (fun i a' acc' ρ' hi hp=>by
   have:=hs (i+1) a' acc' ρ' (by simpa using hi) (by rw[show b+(i+1)=b+1+i by lia];exact hp)
   rw[show b+(i+1)+1=b+1+i+1 by lia]at this
   exact this) (fun ds ρ h=>hq _ ρ (by rw[List.length_cons,show b+(l.length+1)=b+1+l.length by lia,<-List.append_assoc];exact h))
  have e':zeM f ((a::l).map enc) ρ=(f (enc a) ρ).bind fun p=>(zeM f (l.map enc) p.2).map fun q=>(p.1.toList++q.1,q.2):=rfl
  rw[e',e]
  exact ok_map.mpr go
theorem zlR {α:Type}{enc:α->D}{l:List α}{Q:List D×R->Prop}(I:Nat->List D->R->Prop)(h0:I 0 [] ρ)
  (hs:∀i a acc ρ,l[i]? =some a->I i acc ρ->Ok (f (enc a) ρ) fun p=>I (i+1) (acc++p.1.toList) p.2) (hq:∀ds ρ,I l.length ds ρ->Q (ds,ρ)):Ok (zeM f (l.map enc) ρ) Q:=
 zka enc I l 0 [] ρ h0 (fun i a acc ρ hi h=>by rw[Nat.zero_add]at h ⊢;exact hs i a acc ρ hi h) (fun ds ρ h=>hq ds ρ (by rw[Nat.zero_add]at h;exact h))
theorem zey {α β:Type}{f g:α->Option β}:∀(l:List α),(∀a∈l,f a=g a)->l.filterMap f=l.filterMap g
 |[],_=>rfl
 |a::l,h=>by rw[List.filterMap_cons,List.filterMap_cons,h a List.mem_cons_self,zey l fun b hb=>h b (List.mem_cons_of_mem _ hb)]
theorem zl0 {α:Type}{enc:α->D}{l:List α}{Q:List D×R->Prop}(P:R->Prop)(g:α->Option D)(h0:P ρ)
  (hs:∀a ρ,a∈l->P ρ->Ok (f (enc a) ρ) fun p=>p.1=g a/\P p.2) (hq:∀ρ,P ρ->Q (l.filterMap g,ρ)):Ok (zeM f (l.map enc) ρ) Q:=
 zlR (fun i ds ρ=>ds=(l.take i).filterMap g/\P ρ) ⟨rfl,h0⟩ (fun i a acc ρ hi ⟨e,p⟩=>by
  refine(hs a ρ (List.mem_of_getElem? hi) p).mono fun r h=>⟨?_,h.2⟩
  obtain⟨h1,h2⟩:=List.getElem?_eq_some_iff.mp hi
  rw[h.1,e,List.take_add_one,hi,List.filterMap_append]
  cases q:g a<;>simp[q]) (fun ds ρ ⟨e,p⟩=>by rw[List.take_length]at e;rw[e];exact hq ρ p)
theorem ok_comp {α:Type}{enc:α->D}{l:List α}{Q:List D×R->Prop}(P:R->Prop)(g:α->D)(h0:P ρ)
  (hs:∀a ρ,a∈l->P ρ->Ok (f (enc a) ρ) fun p=>p.1=some (g a)/\P p.2) (hq:∀ρ,P ρ->Q (l.map g,ρ)):Ok (zeM f (l.map enc) ρ) Q:=
 zl0 P (fun a=>some (g a)) h0 hs (fun ρ p=>by rw[<-Function.comp_def some g,List.filterMap_eq_map];exact hq ρ p)
theorem dEq_int (i j:Int):dEq (.int i) (.int j)=some (.bl (i==j)):=by
 unfold dEq
 rw[show noS (.int i)=true from rfl,show noS (.int j)=true from rfl,show depth (.int i)=0 from rfl]
 rfl
theorem dNe_int (i j:Int):dNe (.int i) (.int j)=some (.bl (i !=j)):=by
 unfold dNe
 rw[show noS (.int i)=true from rfl,show noS (.int j)=true from rfl,show depth (.int i)=0 from rfl]
 rfl
theorem atI_n {α:Type}(xs:List α)(i:Nat):atI xs (i:Int)=xs[i]?:=by
 unfold atI ixN
 rw[if_pos (by lia)]
 by_cases h:i<xs.length
 ·rw[if_pos (by lia)];simp
 ·rw[if_neg (by lia)];simp[List.getElem?_eq_none (by lia:xs.length<=i)]
theorem atI_lit {α:Type}(xs:List α)(n:Nat):atI xs (no_index (@OfNat.ofNat Int n _))=xs[n]?:=atI_n xs n
theorem atI_n1 {α:Type}(xs:List α)(i:Nat):atI xs ((i:Int)+1)=xs[i+1]?:=atI_n xs (i+1)
theorem ixN_n (n i:Nat):ixN n (i:Int)=if i<n then some i else none:=by
 unfold ixN
 rw[if_pos (by lia)]
 by_cases h:i<n
 ·rw[if_pos (by lia),if_pos h];simp
 ·rw[if_neg (by lia),if_neg h]
theorem ixN_lit (n i:Nat):ixN n (no_index (@OfNat.ofNat Int i _))=if i<n then some i else none:=ixN_n n i
theorem zlL {α:Type}(xs:List α)(x:α):atI (xs++[x]) (-1)=some x:=by
 unfold atI ixN
 rw[if_neg (by lia),if_pos (by simp;lia)]
 have:(-1+((xs++[x]).length:Int)).toNat=xs.length:=by simp;lia
 simp only[Option.bind_some,this]
 simp
theorem ixN_last (n:Nat):ixN (n+1) (-1)=some n:=by
 unfold ixN
 rw[if_neg (by lia),if_pos (by lia)]
 congr 1;lia
theorem zcG {i j:Int}(h:i.natAbs<18446744073709551616):zjN i j=true:=by
 unfold zjN
 have:decide (i.natAbs<2^64)=true:=decide_eq_true h
 rw[this];rfl
theorem mulOk_r {i j:Int}(h:j.natAbs<18446744073709551616):zjN i j=true:=by
 unfold zjN
 have:decide (j.natAbs<2^64)=true:=decide_eq_true h
 rw[this];simp
theorem za2 {j:Int}(h1: -1000000000000<=j)(h2:j<=1000000000000):zf6 j=true:=by
 unfold zf6;rw[decide_eq_true h1,decide_eq_true h2];rfl
noncomputable def wL (n:Nat)(f:Nat->D):List D:=(List.range n).map f
noncomputable abbrev wI (n:Nat)(f:Nat->Int):List D:=wL n fun i=> .int (f i)
theorem za7 (n:Nat)(f:Nat->D):(wL n f).length=n:=by simp[wL]
theorem zap (f:Nat->D)(h:i<n):(wL n f)[i]? =some (f i):=by simp[wL,h]
theorem zbb (n:Nat)(f:Nat->D):wL (n+1) f=wL n f++[f n]:=by simp[wL,List.range_succ]
theorem zbC {f g:Nat->D}(h:∀i,i<n->f i=g i):wL n f=wL n g:=List.map_congr_left fun i hi=>h i (List.mem_range.mp hi)
theorem zkK (n:Nat)(f:Nat->D)(x:D):wL n f++[x]=wL (n+1) fun j=>if j<n then f j else x:=by
 rw[zbb];congr 1
 ·exact zbC fun i hi=>by rw[if_pos hi]
 ·rw[if_neg (by lia)]
theorem wL_set (f:Nat->D)(x:D)(h:i<n):(wL n f).set i x=wL n fun j=>if j=i then x else f j:=by
 apply List.ext_getElem?
 intro j
 by_cases hj:j<n
 ·rw[zap _ hj,List.getElem?_set]
  by_cases e:i=j
  ·subst e;simp[za7,h]
  ·simp[e,zap _ hj,Ne.symm e]
 ·rw[List.getElem?_eq_none (by simp[za7];lia),List.getElem?_eq_none (by simp[za7];lia)]
theorem zot (f:Nat->D):atI (wL (n+1) f) (-1)=some (f n):=by rw[zbb];exact zlL _ _
theorem atI_w2 (f:Nat->D):atI (wL (n+2) f) (-2)=some (f n):=by
 unfold atI ixN
 rw[if_neg (by lia),if_pos (by rw[za7];lia)]
 have:(-2+((wL (n+2) f).length:Int)).toNat=n:=by rw[za7];lia
 simp only[Option.bind_some,this]
 exact zap f (by lia)
theorem zgt (n:Nat)(f:Nat->D):zlc (wL n f)=wL n fun i=> .tup [.int (i:Nat),f i]:=by
 apply List.ext_getElem?
 intro j
 unfold zlc
 by_cases hj:j<n
 ·rw[List.getElem?_zipWith,zap _ hj,zap _ hj]
  simp[za7,hj]
 ·rw[List.getElem?_eq_none (by simp[za7];lia),List.getElem?_eq_none (by simp[za7];lia)]
theorem zip2D_w (n:Nat)(f g:Nat->D):zk1 (wL n f) (wL n g)=wL n fun i=> .tup [f i,g i]:=by
 apply List.ext_getElem?
 intro j
 unfold zk1
 by_cases hj:j<n
 ·rw[List.getElem?_zipWith,zap _ hj,zap _ hj,zap _ hj]
 ·rw[List.getElem?_eq_none (by simp[za7];lia),List.getElem?_eq_none (by simp[za7];lia)]
theorem zi7 {α:Type}(xs:List α)(i:Nat):cutD xs none (some (i:Int))=xs.take i:=by
 unfold cutD
 rw[HT.zjl,HT.zmi,Nat.sub_zero,List.drop_zero]
 by_cases h:i<=xs.length
 ·rw[Nat.min_eq_left h]
 ·rw[Nat.min_eq_right (by lia),List.take_of_length_le (Nat.le_refl _),List.take_of_length_le (by lia)]
theorem zjG {α:Type}(xs:List α)(i:Nat):cutD xs (some (i:Int)) none=xs.drop i:=by
 unfold cutD
 rw[HT.zjl,HT.zmi]
 by_cases h:i<=xs.length
 ·rw[Nat.min_eq_left h,List.take_of_length_le (by simp)]
 ·rw[Nat.min_eq_right (by lia),List.drop_of_length_le (Nat.le_refl _),List.drop_of_length_le (by lia)];simp
theorem zc5:∀(l:List Int),zbp (l.map .int)=some l
 |[]=>rfl
 |i::l=>by simp[zbp,zc5 l]
theorem zhZ (bt:Nat->Nat->Bool):∀n,argBest bt n<=n
 |0=>Nat.le_refl 0
 |n+1=>by
  have:=zhZ bt n
  unfold argBest
  split<;>lia
theorem znF (lt:Int->Int->Bool)(h:ns≠[]):zle lt ns∈ns:=by
 unfold zle
 have hl:0<ns.length:=List.length_pos_iff.mpr h
 have:=zhZ (fun i j=>lt (ns.getD i 0) (ns.getD j 0)) (ns.length-1)
 generalize argBest (fun i j=>lt (ns.getD i 0) (ns.getD j 0)) (ns.length-1)=k at*
 rw[List.getD_eq_getElem?_getD,List.getElem?_eq_getElem (by lia)]
 exact List.getElem_mem _
theorem zmz (lt:Int->Int->Bool)(h:ns≠[]):dBest lt [.lst (ns.map .int)]=some (.int (zle lt ns)):=by
 have hne:ns.isEmpty=false:=by cases ns with|nil=>exact absurd rfl h|cons=>rfl
 simp only[dBest,zaL,Option.bind_some,zc5,hne]
 rfl
mutual
theorem zjH:∀(d:D),noS d=true->eqB d d=true
 | .non,_=>rfl
 | .bl b,_=>by simp[eqB]
 | .int i,_=>by simp[eqB]
 | .str s,_=>by simp[eqB]
 | .lst ds,h=>by simp only[eqB];exact zid ds (by simpa[noS]using h)
 | .tup ds,h=>by simp only[eqB];exact zid ds (by simpa[noS]using h)
 | .scr _,h=>by simp[noS]at h
 | .exc _,h=>by simp[noS]at h
theorem zid:∀(ds:List D),noSL ds=true->eqBL ds ds=true
 |[],_=>rfl
 |d::ds,h=>by
  simp only[noSL,Bool.and_eq_true]at h
  simp only[eqBL,Bool.and_eq_true]
  exact⟨zjH d h.1,zid ds h.2⟩
end
theorem dEq_same (h:noS d=true)(k:depth d<=50):dEq d d=some (.bl true):=by simp[dEq,h,k,zjH d h]
theorem dNe_same (h:noS d=true)(k:depth d<=50):dNe d d=some (.bl false):=by simp[dNe,h,k,zjH d h]
theorem zk4:∀{ds:List D},(∀d∈ds,noS d=true)->noSL ds=true
 |[],_=>rfl
 |d::ds,h=>by simp only[noSL,Bool.and_eq_true];exact⟨h d List.mem_cons_self,zk4 fun e he=>h e (List.mem_cons_of_mem _ he)⟩
theorem zic:∀{ds:List D},(∀d∈ds,depth d<=k)->zdP ds<=k
 |[],_=>Nat.zero_le _
 |d::ds,h=>by simp only[zdP];exact Nat.max_le.mpr ⟨h d List.mem_cons_self,zic fun e he=>h e (List.mem_cons_of_mem _ he)⟩
noncomputable def Pl (k:Nat)(d:D):Prop:=noS d=true/\depth d<=k
theorem pl_int (k:Nat)(i:Int):Pl k (.int i):=⟨rfl,Nat.zero_le _⟩
theorem pl_lst (h:∀d∈ds,Pl k d):Pl (k+1) (.lst ds):=⟨by simp only[noS];exact zk4 fun d hd=>(h d hd).1,by simp only[depth];exact Nat.succ_le_succ (zic fun d hd=>(h d hd).2)⟩
theorem znk (h:∀d∈ds,Pl k d):Pl (k+1) (.tup ds):=⟨by simp only[noS];exact zk4 fun d hd=>(h d hd).1,by simp only[depth];exact Nat.succ_le_succ (zic fun d hd=>(h d hd).2)⟩
theorem pl_w {f:Nat->D}(h:∀i,Pl k (f i)):∀d∈wL n f,Pl k d:=fun d hd=>by
 obtain⟨i,_,rfl⟩:=List.mem_map.mp hd;exact h i
theorem Pl.eq (h:Pl k d)(l:k<=50):dEq d d=some (.bl true):=dEq_same h.1 (Nat.le_trans h.2 l)
theorem Pl.ne (h:Pl k d)(l:k<=50):dNe d d=some (.bl false):=dNe_same h.1 (Nat.le_trans h.2 l)
theorem rangeD_w (n:Nat):zgf 0 n=wL n fun i=> .int (i:Nat):=by unfold zgf wL;simp only[Int.zero_add]
section
variable {n:Nat} {e:Nat->D} {ρ:R}
theorem za5 {f:D->R->Option (Fl×R)}(I:Nat->R->Prop)(h0:I 0 ρ)
  (hs:∀i ρ,i<n->I i ρ->Ok (f (e i) ρ) (Turn (I (i+1)) Q)) (hq:∀ρ,I n ρ->Q (.next,ρ)):Ok (forM f (wL n e) ρ) Q:=
 ok_for (enc:=e) (l:=List.range n) I h0 (fun i a ρ hi h=>by
  obtain⟨h1,h2⟩:=List.getElem?_eq_some_iff.mp hi
  have:a=i:=by simpa using h2.symm
  subst this
  exact hs a ρ (by simpa using h1) h) (fun ρ h=>hq ρ (by simpa using h))
variable {f:D->R->Option (Option D×R)} {Q:List D×R->Prop}
theorem zg3 (I:Nat->List D->R->Prop)(h0:I 0 [] ρ)
  (hs:∀i acc ρ,i<n->I i acc ρ->Ok (f (e i) ρ) fun p=>I (i+1) (acc++p.1.toList) p.2) (hq:∀ds ρ,I n ds ρ->Q (ds,ρ)):Ok (zeM f (wL n e) ρ) Q:=
 zlR (enc:=e) (l:=List.range n) I h0 (fun i a acc ρ hi h=>by
  obtain⟨h1,h2⟩:=List.getElem?_eq_some_iff.mp hi
  have:a=i:=by simpa using h2.symm
  subst this
  exact hs a acc ρ (by simpa using h1) h) (fun ds ρ h=>hq ds ρ (by simpa using h))
theorem zj9 (P:R->Prop)(g:Nat->Option D)(h0:P ρ)
  (hs:∀i ρ,i<n->P ρ->Ok (f (e i) ρ) fun p=>p.1=g i/\P p.2) (hq:∀ρ,P ρ->Q ((List.range n).filterMap g,ρ)):Ok (zeM f (wL n e) ρ) Q:=
 zl0 (enc:=e) (l:=List.range n) P g h0 (fun a ρ ha hp=>hs a ρ (List.mem_range.mp ha) hp) hq
theorem zaM (P:R->Prop)(g:Nat->D)(h0:P ρ)
  (hs:∀i ρ,i<n->P ρ->Ok (f (e i) ρ) fun p=>p.1=some (g i)/\P p.2) (hq:∀ρ,P ρ->Q (wL n g,ρ)):Ok (zeM f (wL n e) ρ) Q:=
 ok_comp (enc:=e) (l:=List.range n) P g h0 (fun a ρ ha hp=>hs a ρ (List.mem_range.mp ha) hp) hq
end
theorem zoS (a b c:Int):([b,c]:List Int).contains a=(a==b||a==c):=by simp[List.contains_cons];rfl
end M
namespace M
theorem filterMap_some {α:Type}(l:List α):l.filterMap (fun a=>some a)=l:=List.filterMap_some
theorem zkW (n:Nat)(f:Nat->Int)(x:Int):wI n f++[.int x]=wI (n+1) fun j=>if j<n then f j else x:=by
 rw[wI,zkK];exact zbC fun j _=>by dsimp only;split<;>rfl
theorem znl {j:Int}(h0:0<j)(h1:j<2^250):divOk j=true:=by
 have h:j.natAbs.log2<9000:=by
  have:j.natAbs.log2<250:=(Nat.log2_lt (by lia)).mpr (by lia)
  lia
 unfold divOk;rw[decide_eq_true h0,decide_eq_true h];rfl
theorem wI_set {n i:Nat}(f:Nat->Int)(x:Int)(h:i<n):(wI n f).set i (.int x)=wI n fun j=>if j=i then x else f j:=by
 rw[wI,wL_set _ _ h];exact zbC fun j _=>by dsimp only;split<;>rfl
theorem isN_non:isN .non=true:=rfl
theorem isN_int (i:Int):isN (.int i)=false:=rfl
theorem isN_bl (b:Bool):isN (.bl b)=false:=rfl
theorem isN_str (s:PySem.Str):isN (.str s)=false:=rfl
theorem isN_lst (ds:List D):isN (.lst ds)=false:=rfl
theorem isN_tup (ds:List D):isN (.tup ds)=false:=rfl
end M
namespace M
open L2 PySem
variable {i N k:Nat} {m me:ME} {Q:Fl×R->Prop} {g:D->R->Option R} {F:List D->T->List D->Option (Sl×List D)} {mo:MO} {ma:MA} {is cap:List Nat} {ds:List D} {mi mq:MQ} {mt:MT} {d:D} {c:Int}
theorem dItems_l (ds:List D):zaL [.lst ds]=some ds:=rfl
theorem dItems_t (ds:List D):zaL [.tup ds]=some ds:=rfl
theorem dItems_s (ns:List Int):zaL [.scr ns]=some (ns.map .int):=rfl
theorem dLen_l (ds:List D):dLen [.lst ds]=some (.int ds.length):=rfl
theorem dLen_t (ds:List D):dLen [.tup ds]=some (.int ds.length):=rfl
theorem dLen_s (ns:List Int):dLen [.scr ns]=some (.int ns.length):=rfl
theorem dTuple_l (ds:List D):zch [.lst ds]=some (.tup ds):=rfl
theorem dTuple_t (ds:List D):zch [.tup ds]=some (.tup ds):=rfl
theorem dTuple_s (ns:List Int):zch [.scr ns]=some (.tup (ns.map .int)):=rfl
theorem dCut_l (ds:List D)(a b:Option Int):dCut (.lst ds) a b=some (.lst (cutD ds a b)):=rfl
theorem dCut_t (ds:List D)(a b:Option Int):dCut (.tup ds) a b=some (.tup (cutD ds a b)):=rfl
theorem dCut_s (ns:List Int)(a b:Option Int):dCut (.scr ns) a b=some (.lst ((cutD ns a b).map .int)):=rfl
theorem dIx_l (ds:List D)(i:Int):dIx (.lst ds) (.int i)=atI ds i:=rfl
theorem dIx_t (ds:List D)(i:Int):dIx (.tup ds) (.int i)=atI ds i:=rfl
theorem dIx_s (ns:List Int)(i:Int):dIx (.scr ns) (.int i)=(atI ns i).map .int:=rfl
theorem dEq_str (a b:Str):dEq (.str a) (.str b)=some (.bl (a==b)):=by
 unfold dEq
 rw[show noS (.str a)=true from rfl,show noS (.str b)=true from rfl,show depth (.str a)=0 from rfl]
 rfl
theorem zih (n:Nat)(f g h:Nat->D):zkY (wL n f) (wL n g) (wL n h)=wL n fun i=> .tup [f i,g i,h i]:=by
 apply List.ext_getElem?
 intro j
 unfold zkY
 by_cases hj:j<n
 ·have e:(List.zip (wL n g) (wL n h))[j]? =some (g j,h j):=by
   rw[List.getElem?_zip_eq_some];exact⟨zap g hj,zap h hj⟩
  rw[List.getElem?_zipWith,e,zap _ hj,zap _ hj]
 ·rw[List.getElem?_eq_none (by simp[za7];lia),List.getElem?_eq_none (by simp[za7];lia)]
theorem zg0 (n:Nat)(b:Nat->Bool):zek (wL n fun i=> .bl (b i))=some ((List.range n).map b):=by
 have:∀l:List Nat,zek (l.map fun i=>D.bl (b i))=some (l.map b):=by
  intro l
  induction l with
  |nil=>rfl
  |cons a l ih=>simp[zek,ih]
 exact this _
theorem ok_sExt {ρ:R}:OkQ Q (sExt i m ρ)=OkQ Q (gd ((ρ[i]?.bind Sl.items).isSome) ((m ρ).bind fun p=>p.2[i]?.bind fun s=>s.items.bind fun ds=>match p.1 with
 | .lst es=>if ds.length+es.length<=16777216 then some (.next,p.2.set i (s.put (ds++es)))else none
 |_=>none)):=rfl
theorem eqV_int (a b:Int):eqV (.int a) (.int b)=(b==a):=by
 show(a==b)=(b==a)
 by_cases h:a=b
 ·subst h;rfl
 ·rw[beq_eq_false_iff_ne.mpr h,beq_eq_false_iff_ne.mpr fun e=>h e.symm]
theorem zi0:∀(l:List Int),zmv (l.map D.int)=some (l.map V.int)
 |[]=>rfl
 |i::l=>by simp[zmv,flV,zi0 l]
theorem zlJ (a:Int):∀(l:List Int),inV (.int a) (l.map V.int)=l.contains a
 |[]=>rfl
 |i::l=>by
  have:=zlJ a l
  unfold inV at this ⊢
  rw[List.map_cons,List.any_cons,this,eqV_int,List.contains_cons]
theorem notIn2 (a b c:Int):zlQ (.int a) (.tup [.int b,.int c])=some (.bl (!(a==b||a==c))):=by
 have e:zlQ (.int a) (.tup [.int b,.int c])=(zmv ([b,c].map D.int)).map fun xs=> .bl (!inV (.int a) xs):=rfl
 rw[e,zi0,Option.map_some,zlJ,zoS]
noncomputable def sumR:Nat->(Nat->Int)->Int
 |0,_=>0
 |n+1,f=>sumR n f+f n
theorem zaw {f g:Nat->Int}:∀{n:Nat},(∀i,i<n->f i=g i)->sumR n f=sumR n g
 |0,_=>rfl
 |n+1,h=>by rw[sumR,sumR,zaw fun i hi=>h i (by lia),h n (by lia)]
theorem zgA (f g:Nat->Int):∀n,sumR n (fun i=>f i-g i)=sumR n f-sumR n g
 |0=>rfl
 |n+1=>by simp only[sumR,zgA f g n];lia
theorem zeZ:∀n,sumR n (fun _=>0)=0
 |0=>rfl
 |n+1=>by simp only[sumR,zeZ n];lia
theorem zhX (f:Nat->Int):∀n,((List.range n).map f).sum=sumR n f
 |0=>rfl
 |n+1=>by simp[List.range_succ,zhX f n,sumR]
theorem zlZ (n:Nat)(f:Nat->Int):zbp (wI n f)=some ((List.range n).map f):=by
 have:wI n f=((List.range n).map f).map .int:=by simp[wL,List.map_map,Function.comp_def]
 rw[this,zc5]
theorem cut_w {n a b:Nat}(f:Nat->D)(h:a+b<=n):cutD (wL n f) (some (a:Int)) (some ((a:Int)+(b:Int)))=wL b fun i=>f (a+i):=by
 have e:cutD (wL n f) (some (a:Int)) (some ((a:Int)+(b:Int)))=((wL n f).drop a).take b:=by
  unfold cutD
  rw[HT.zjl,show((a:Int)+(b:Int))=((a+b:Nat):Int) by lia,HT.zjl,za7]
  rw[Nat.min_eq_left h,Nat.min_eq_left (by lia:a<=n),Nat.add_sub_cancel_left]
 rw[e]
 apply List.ext_getElem?
 intro j
 by_cases hj:j<b
 ·rw[List.getElem?_take_of_lt hj,List.getElem?_drop,zap _ (by lia),zap _ hj]
 ·rw[List.getElem?_eq_none (by simp[za7];lia),List.getElem?_eq_none (by rw[za7];lia)]
theorem zly {mc:MT}{mb:MS}(I:Nat->R->Prop)(turn:∀m ρ,I m ρ->Ok (mc ρ) fun p=>(p.1=true->∃m',m=m'+1/\Ok (mb p.2) fun q=>q.1= .next/\I m' q.2)/\(p.1=false->Q (.next,p.2))):∀(fuel m:Nat) (ρ:R),m<fuel->I m ρ->Ok (zhz mc mb fuel ρ) Q
 |0,m,ρ,h,_=>by lia
 |n+1,m,ρ,h,hI=>by
  obtain⟨⟨b,ρ1⟩,e,h1,h2⟩:=(turn m ρ hI)
  unfold zhz
  rw[e]
  cases b with
  |false=>exact ok_some.mpr (h2 rfl)
  |true=>
   obtain⟨m',rfl,h3⟩:=h1 rfl;obtain⟨⟨f,ρ2⟩,e2,ef,hI2⟩:=h3
   show Ok ((mb ρ1).bind _) Q
   rw[e2]
   cases(show f= .next from ef)
   exact zly I turn n m' ρ2 (by lia) hI2
theorem like_par (ns:List Int):zoJ (.par (ns.map .int)) (.par (ns.map .int))=true:=by
 show(match zbp (ns.map D.int),zbp (ns.map D.int)with
  |some a,some b=>a==b
  |_,_=>false)=true
 rw[zc5];exact beq_self_eq_true ns
section
variable {j:Nat} {mk me:ME} {ρ:R}
theorem ok_tDI {neg:Bool}{Q:Bool×R->Prop}:OkQ Q (tDI j neg mk ρ)=(OkQ (fun p=>OkQ Q (match p.1 with
 | .int k=>(p.2[j]?.bind Sl.dic).map fun q=>(((lkD q.1 q.2 k).isSome !=neg),p.2)
 |_=>none)) (mk ρ)):=ok_bind
theorem ok_eCallMO {F:List D->List D->Option (Sl×List D)}{Q:D×R->Prop}:OkQ Q (eCallMO F mo ma ρ)=OkQ Q ((mo ρ).bind fun p=>(ma p.2).bind fun q=>(F p.1 q.1).bind fun r=>match r.1 with
 | .val d=>some (d,q.2)
 | .own ds=>some (.lst ds,q.2)
 |_=>none):=rfl
theorem zmM {mp:MP'}{Q:D×R->Prop}:OkQ Q (zjp F j mp ma ρ)=OkQ Q (gd ((ρ[j]?.bind Sl.items).isSome) ((mp ρ).bind fun c=>if c.1.length<=16777216 then(ma c.2).bind fun p=>p.2[j]?.bind fun s=>s.items.bind fun cs=>(F cs (.lst c.1) p.1).bind fun r=>match r.1 with
 | .val d=>some (d,p.2.set j (s.put r.2))
 | .own ds=>some (.lst ds,p.2.set j (s.put r.2))
 |_=>none else none)):=rfl
theorem ok_sUnT:OkQ Q (sUnT j is ρ)=OkQ Q (match ρ[j]? with
 |some (.tre (.lst cs))=>if cs.length=is.length then some (.next,zm7 is cs (ρ.set j .emp))else none
 |_=>none):=rfl
theorem ok_cNil {Q:List Ch×R->Prop}:OkQ Q (cNil ρ)=(Q ([],ρ)):=ok_some
theorem ok_cOwn {r:MP'}{Q:List Ch×R->Prop}:OkQ Q (cOwn j r ρ)=OkQ Q (match ρ[j]? with
 |some (.own ds)=>(r (ρ.set j .emp)).map fun q=>(.l ds::q.1,q.2)
 |_=>none):=rfl
theorem ok_fMT {m:MS}{cs:List D}{t:T}{Q:Sl×List D->Prop}:OkQ Q (fMT N m cs t ds)=OkQ Q ((m (.par cs:: .tre t::zjZ (N-2) ds)).bind fun p=>match p.1,(p.2[0]?:Option Sl)with
 |Fl.ret r,some (Sl.par out)=>some (r,out)
 |Fl.next,some (Sl.par out)=>some (.val .non,out)
 |_,_=>none):=by rw[<-zhM,Nat.sub_sub,Nat.add_comm 2];rfl
theorem ok_sTN:OkQ Q (sTN j ρ)=(Q (.next,ρ.set j (.tre (.lst [])))):=ok_some
theorem ok_sRT:OkQ Q (sRT j ρ)=OkQ Q (match ρ[j]? with
 |some (.tre t)=>some (.ret (.tre t),ρ.set j .emp)
 |_=>none):=rfl
theorem zns {F:List D->Option Sl}{Q:D×R->Prop}:OkQ Q (zoU F ma ρ)=OkQ Q ((ma ρ).bind fun p=>(F p.1).bind fun r=>match r with
 | .tre (.lst cs)=>some (.lst (cs.map Ch.D),p.2)
 |_=>none):=rfl
theorem ok_eTI {Q:D×R->Prop}:OkQ Q (eTI j mi mq ρ)=OkQ Q ((mi ρ).bind fun a=>(mq ρ).bind fun b=>match a,b,ρ[j]? with
 | .int n,.int m,some (.tre (.lst cs))=>(atI cs n).bind fun c=>match c with
  | .l ds=>(atI ds m).map fun d=>(d,ρ)
  |_=>none
 |_,_,_=>none):=rfl
theorem ok_sTP:OkQ Q (sTP j mi mq me ρ)=OkQ Q ((me ρ).bind fun p=>(mi p.2).bind fun a=>(mq p.2).bind fun b=>match a,b,p.2[j]? with
 | .int n,.int m,some (.tre (.lst cs))=>(ixN cs.length n).bind fun u=>match cs[u]? with
  |some (.l ds)=>(ixN ds.length m).bind fun w=>some (.next,p.2.set j (.tre (.lst (cs.set u (.l (ds.set w p.1))))))
  |_=>none
 |_,_,_=>none):=rfl
theorem ok_sFzT {m:MS}:OkQ Q (sFzT j m ρ)=OkQ Q (m (fzT j ρ)):=rfl
theorem ok_eDGT {Q:D×R->Prop}:OkQ Q (eDGT j mk ρ)=OkQ Q (gd ((ρ[j]?.bind Sl.dit).isSome) ((mk ρ).bind fun p=>(keyT p.1).bind fun k=>(p.2[j]?.bind Sl.dit).bind fun q=>(lkD q.1 q.2 k).map fun d=>(d,p.2))):=rfl
theorem ok_sDPT:OkQ Q (sDPT j mk me ρ)=OkQ Q ((me ρ).bind fun p=>gd ((p.2[j]?.bind Sl.dit).isSome) ((mk p.2).bind fun q=>(keyT q.1).bind fun k=>q.2[j]?.bind fun s=>match s.tree with
  |some (.dit ks ds)=>if ks.length<16777216 then some (.next,q.2.set j (s.putT (.dit (ptD ks ds k p.1).1 (ptD ks ds k p.1).2)))else none
  |_=>none)):=rfl
theorem ok_sDNT:OkQ Q (sDNT j ρ)=(Q (.next,ρ.set j (.tre (.dit [] [])))):=ok_some
theorem ok_iDKT {Q:List D×R->Prop}:OkQ Q (iDKT j ρ)=OkQ Q (match ρ[j]? with
 |some (.val (.dit ks ds))=>some (ks.map fun k=> .tup (k.map .int),ρ)
 |_=>none):=rfl
theorem ok_eKn {Q:D×R->Prop}:OkQ Q (eKn j ρ)=OkQ Q (match ρ[j]? with
 |some (.tre (.dit ks ds))=>some (.dit ks ds,ρ.set j (.val (.dit ks ds)))
 |some (.val d)=>some (d,ρ)
 |_=>none):=rfl
theorem zdv {Q:Option (List D)×R->Prop}:OkQ Q (zmH g mt mo d ρ)=(OkQ (fun ρ1=>OkQ (fun p=>(p.1=true->OkQ (fun q=>zcE q.2=true/\Q (some q.1,q.2)) (mo p.2))/\(p.1=false->zcE p.2=true/\Q (none,p.2))) (mt ρ1)) (g d ρ)):=by
 unfold zmH;rw[ok_bind];exact zaQ fun ρ1=>by rw[ok_bind];exact zaQ fun p=>by rw[zkA,ok_bind,zfD,ok_some];congr 1;exact propext (imp_congr Iff.rfl (iff_of_eq (zaQ fun q=>by rw[zfD,ok_some])))
theorem zlz {f:D->R->Option (Option (List D)×R)}{e:Nat->D}(P:R->Prop)(g:Nat->List D){Q:List (List D)×R->Prop}:∀{n k:Nat} {ρ:R},P ρ->(∀i ρ,i<n->P ρ->Ok (f (e (k+i)) ρ) fun p=>p.1=some (g (k+i))/\P p.2)->(∀ρ,P ρ->Q ((List.range n).map (fun i=>g (k+i)),ρ))->Ok (zjM f ((List.range n).map fun i=>e (k+i)) ρ) Q
 |0,k,ρ,h0,_,hq=>Ok.of rfl (hq ρ h0)
 |n+1,k,ρ,h0,hs,hq=>by
  have s1:∀{α:Type} (e:Nat->α),(List.range (n+1)).map (fun i=>e (k+i))=e k::(List.range n).map fun i=>e (k+1+i):=fun e=>by
   rw[List.range_succ_eq_map,List.map_cons,List.map_map]
   congr 1
   exact List.map_congr_left fun i _=>by show e (k+(i+1))=_;congr 1;lia
  rw[s1 e]
  obtain⟨p,e1,h1,h2⟩:=(hs 0 ρ (by lia) h0)
  obtain⟨q,e2,h3⟩:=(zlz (f:=f) (e:=e) P g (Q:=fun z=>Q (g k::z.1,z.2)) (n:=n) (k:=k+1) h2 (fun i ρ hi hp=>by have:=hs (i+1) ρ (by lia) hp;rwa[show k+(i+1)=k+1+i by lia]at this) fun ρ hp=>by have:=hq ρ hp;rwa[s1 g]at this)
  refine Ok.of (a:=(g k::q.1,q.2)) ?_ h3
  obtain⟨p1,p2⟩:=p
  have h1:p1=some (g k):=h1
  subst h1
  have e1:f (e k) ρ=some (some (g k),p2):=e1
  have e2:zjM f ((List.range n).map fun i=>e (k+1+i)) p2=some q:=e2
  simp only[zjM,e1,Option.bind_some,e2,Option.map_some]
  rfl
theorem zdc {n:Nat}{e:Nat->D}{f:D->R->Option (Option (List D)×R)}{Q:List (List D)×R->Prop}(P:R->Prop)(g:Nat->List D)(h0:P ρ)
  (hs:∀i ρ,i<n->P ρ->Ok (f (e i) ρ) fun p=>p.1=some (g i)/\P p.2) (hq:∀ρ,P ρ->Q ((List.range n).map g,ρ)):Ok (zjM f (wL n e) ρ) Q:=by
 have:=zlz (f:=f) (e:=e) P g (Q:=Q) (n:=n) (k:=0) h0 (fun i ρ hi hp=>by rw[Nat.zero_add];exact hs i ρ hi hp) (fun ρ hp=>by simpa using hq ρ hp)
 simpa[wL]using this
theorem ok_sTC {i t:Nat}{mi:MA}:OkQ Q (sTC i cap t mi g mt mo ρ)=OkQ Q ((mi ρ).bind fun p=>if p.1.length<=16777216 then(zjM (zmH g mt mo) p.1 (capR cap t (fzL cap p.2))).map fun q=>(.next,(fzL cap p.2).set i (.tre (.lst (q.1.map .l))))else none):=rfl
theorem ok_sTAo:OkQ Q (sTAo j mo ρ)=OkQ Q (match ρ[j]? with
 |some (.tre (.lst _))=>(mo ρ).bind fun p=>match p.2[j]? with
  |some (.tre (.lst cs))=>if cs.length<16777216 then some (.next,p.2.set j (.tre (.lst (cs++[.l p.1]))))else none
  |_=>none
 |_=>none):=rfl
theorem ok_cTab {r:MP'}{Q:List Ch×R->Prop}:OkQ Q (cTab j r ρ)=OkQ Q (match ρ[j]? with
 |some (.tre (.lst cs))=>(zhG cs).bind fun xss=>(r (ρ.set j .emp)).map fun q=>(.t xss::q.1,q.2)
 |_=>none):=rfl
theorem ok_sTG {mi mq me:MQ}:OkQ Q (sTG j mi mq me ρ)=OkQ Q ((mi ρ).bind fun a=>(mq ρ).bind fun b=>(me ρ).bind fun c=>match a,b,c,ρ[j]? with
 | .int n,.int m,.int z,some (.tre (.lst cs))=>(ixN cs.length n).bind fun u=>match cs[u]? with
  |some (.l ds)=>(ixN ds.length m).bind fun w=>match ds[w]? with
   |some (.int y)=>some (.next,ρ.set j (.tre (.lst (cs.set u (.l (ds.set w (.int (y+z))))))))
   |_=>none
  |_=>none
 |_,_,_,_=>none):=rfl
theorem ok_eDGT2 {mk:ME}{Q:D×R->Prop}:OkQ Q (eDGT2 j c mk ρ)=OkQ Q (gd ((ρ[j]?.bind Sl.dit).isSome) ((mk ρ).bind fun p=>(keyT p.1).bind fun k=>(p.2[j]?.bind Sl.dit).map fun q=>((lkD q.1 q.2 k).getD (.int c),p.2))):=rfl
theorem ok_sTGe:OkQ Q (sTGe j mi mq me ρ)=OkQ Q (if zcE (ρ.set j .emp)then(mi ρ).bind fun a=>(mq ρ).bind fun b=>(me (ρ.set j .emp)).bind fun p=>match a,b,p.1,ρ[j]? with
 | .int n,.int m,.int z,some (.tre (.lst cs))=>(ixN cs.length n).bind fun u=>match cs[u]? with
  |some (.l ds)=>(ixN ds.length m).bind fun w=>match ds[w]? with
   |some (.int y)=>some (.next,ρ.set j (.tre (.lst (cs.set u (.l (ds.set w (.int (y+z))))))))
   |_=>none
  |_=>none
 |_,_,_,_=>none else none):=rfl
theorem ok_turnQ {b c:Nat}{Q:Option D×R->Prop}:OkQ Q (turnQ b c g mt me d ρ)=(OkQ (fun ρ1=>OkQ (fun p=>(p.1=true->OkQ (fun q=>zn3 b c q.2=true/\Q (some q.1,q.2)) (me p.2))/\(p.1=false->zn3 b c p.2=true/\Q (none,p.2))) (mt ρ1)) (g d ρ)):=by
 unfold turnQ;rw[ok_bind];exact zaQ fun ρ1=>by rw[ok_bind];exact zaQ fun p=>by rw[zkA,ok_bind,zfD,ok_some];congr 1;exact propext (imp_congr Iff.rfl (iff_of_eq (zaQ fun q=>by rw[zfD,ok_some])))
theorem ok_eLk2 {Q:D×R->Prop}:OkQ Q (eLk2 j k m ρ)=OkQ Q (match ρ[j]?,ρ[k]? with
 |some (.tre (.lst cs)),some (.tre (.lst ds))=>(m ((ρ.set j (.val (.lst (cs.map Ch.D)))).set k (.val (.lst (ds.map Ch.D))))).bind fun p=>
  if tpD p.1&&(((ρ.set j .emp).set k .emp).zip p.2).all (fun q=>zoJ q.1 q.2)then some (p.1,ρ)else none
 |_,_=>none):=rfl
theorem ok_oSrtT {Q:List D×R->Prop}:OkQ Q (oSrtT j ρ)=OkQ Q (match ρ[j]? with
 |some (.val (.dit ks ds))=>if ks.length<64/\ks.all (fun k=>!k.isEmpty)=true then some (srtD ks (ks.map fun k=> .tup (k.map .int)),ρ)else none
 |_=>none):=rfl
end
end M
local macro_rules | `(tactic| simp! only [$ls,*]) => `(tactic| simp only [↓M.ok_Q, ↓M.ok_sIf, ↓M.ok_eIf, ↓M.ok_tAnd, ↓M.ok_tOr, ↓M.ok_eAnd, ↓M.ok_eOr, ↓M.ok_chain, ↓M.ok_turnM, ↓M.ok_turnP, ↓M.ok_turnQ, ↓M.ok_bind, ↓M.ok_map, ↓M.ok_gd, ↓M.zfD, ↓M.ok_some, ↓M.ok_sNext, ↓M.ok_sSeq, ↓M.ok_sRet, ↓M.ok_sRetO, ↓M.ok_sRetV, ↓M.ok_gN, ↓M.ok_gsNil, ↓M.znn, ↓M.ok_gT, ↓M.ok_sAsg, ↓M.ok_sSet, ↓M.ok_sSetO, ↓M.ok_sApp, ↓M.ok_sPut, ↓M.ok_eC, ↓M.zij, ↓M.ok_aNil, ↓M.ok_aCons, M.ok_m2, ↓M.ok_m1, ↓M.ok_mC, M.ok_eIxV, ↓M.ok_eLenV, ↓M.ok_oC, ↓M.ok_eTup, ↓M.ok_oLst, ↓M.ok_tTru, ↓M.ok_tNotM, ↓M.ok_eCall, ↓M.ok_oCall, ↓M.zoR, ↓M.ok_eFz, ↓M.ok_eCut, ↓M.ok_pNo, ↓M.ok_pSome, ↓M.ok_iSeq, ↓M.ok_iR1, ↓M.ok_sFor, ↓M.ok_oLC, ↓M.ok_tTrue, ↓M.ok_fP, ↓M.ok_fM, ↓M.ok_sAugI, ↓M.ok_oRep, ↓M.ok_iZ2, ↓M.ok_iZ3, ↓M.ok_iEn, ↓M.ok_oLCM, ↓M.ok_sExt, ↓M.zmM, ↓M.ok_sUnT, ↓M.ok_cNil, ↓M.ok_cOwn, ↓M.ok_fMT, ↓M.ok_sTN, ↓M.ok_sRT, ↓M.zns, ↓M.ok_eTI, ↓M.ok_sTP, ↓M.ok_sFzT, ↓M.ok_eDGT, ↓M.ok_sDPT, ↓M.ok_sDNT, ↓M.ok_iDKT, ↓M.ok_eKn, ↓M.zdv, ↓M.ok_sTC, ↓M.ok_sTAo, ↓M.ok_cTab, ↓M.ok_sTG, ↓M.ok_eDGT2, ↓M.ok_sTGe, ↓M.ok_eLk2, ↓M.ok_oSrtT, ↓M.ok_eIxC, ↓M.ok_eIxE, ↓M.ok_m2VV, ↓M.ok_m2VC, ↓M.ok_m2CV, M.dI2, M.dSub, M.dDiv, M.dMod, M.dPow, M.dLt, M.dLe, M.dGt, M.dGe, M.dNeg, M.dMul, M.dAdd, M.dTru, M.Sl.read, M.Sl.items, M.Sl.put, M.hasV, M.zcE, M.fz1, M.fzL, M.capS, M.capR, M.eIsI.noS1, M.okT, M.isI, M.d2I, M.dSum, M.dAll, M.dMinL, M.dIsN, M.zj2, M.zk7, M.zn4, M.zkw, M.fzD, M.zm7, M.Ch.sl, M.Sl.dic, M.Sl.dit, M.Sl.tree, M.Sl.putT, M.Sl.dit, M.qV, M.fzT, M.Ch.D, M.fzDT, M.fzU, M.zhG, M.qMod, M.qLT, M.qLR, M.zn3, M.znm, M.seqK_ret, M.seqK_brk, M.znc, M.zoQ, M.zov, M.turn_brk, M.turn_ret, List.getElem?_cons_zero, List.getElem?_cons_succ, List.set_cons_zero, List.set_cons_succ, Option.bind_some, Option.isSome_some, Option.map_some, if_true, M.znT, M.map_nilR, M.ziX, M.zn0, M.ixR_val, M.ixR_own, M.ixR_par, M.zh6, M.eVQ_own, M.Vb_val, M.Vb_own, M.Vb_own2, M.Va_val, M.Va_own, List.replicate_succ, List.replicate_zero, List.length_cons, List.length_nil, List.cons_append, List.nil_append, List.all_cons, List.all_nil, Bool.and_true, Bool.true_and, Bool.and_self, Bool.true_eq_false, Bool.false_eq_true, if_false, M.dEq_int, M.dNe_int, List.length_map, List.length_append, M.atI_n, M.atI_lit, M.ixN_n, M.ixN_lit, M.atI_n1, M.ok_none, M.dItems_l, M.dItems_t, M.dItems_s, M.dLen_l, M.dLen_t, M.dLen_s, M.dTuple_l, M.dTuple_t, M.dTuple_s, M.dCut_l, M.dCut_t, M.dCut_s, M.dIx_l, M.dIx_t, M.dIx_s, M.dEq_str, M.zih, M.isN_non, M.isN_int, M.isN_bl, M.isN_str, M.isN_lst, M.isN_tup, M.zc5, Int.toNat_natCast, M.rangeD_w, M.za7, decide_eq_true_eq, Bool.and_eq_true, true_and, and_true, Nat.reduceAdd, Nat.reduceLeDiff, Int.reduceLT, Int.reduceLE, Int.reduceNeg, Nat.reduceSub, Int.reducePow, Int.reduceMul, Int.reduceAdd, Int.reduceSub, Int.reduceMod, Int.reduceDiv, Nat.reduceLT, Nat.reduceBNe, Nat.reduceEqDiff, List.filter_cons, List.filter_nil, bne_self_eq_false, Int.reduceToNat, Nat.reducePow, M.zmx, Int.reduceEq, Int.reduceBEq, Int.reduceBNe, Nat.reduceMod, decide_true, decide_false, beq_iff_eq, beq_eq_false_iff_ne, bne_iff_ne, bne_eq_false_iff_eq, decide_eq_false_iff_not, Int.not_le, Int.not_lt, ne_eq, forall_const, true_implies, false_implies, reduceCtorEq, imp_self, implies_true, M.D.bl.injEq, exists_eq_left', Bool.not_true, Bool.not_false, $ls,*])
namespace Prf
open L2 M PySem
noncomputable def top (i:Nat):Stmt:=PySem.Challenge.pw_tellsum_k40_whole_numbers_or_a_tour.main.body.getD i (.Pass ⟨0,0,0,0⟩)
structure BN (K:W.Frag) (mg:Str->Option Value):Prop where
 all':mg "all"=none
 enumerate':mg "enumerate"=none
 len':mg "len"=none
 list':mg "list"=none
 max':mg "max"=none
 min':mg "min"=none
 range':mg "range"=none
 sorted':mg "sorted"=none
 sum':mg "sum"=none
 tuple':mg "tuple"=none
 zip':mg "zip"=none
section
variable {P:Program} {w:World} {K:W.Frag} {mg:Str->Option Value} {base hp:Heap} {f:Addr} {fd:FuncData} (X:K.In hp) (G:hp.Ns mainGlobals mg) (bn:BN K mg)
include X G bn
abbrev zf3:Stmt:=top 4
def zeE:ME:=
 (m2 dAdd (mC dSum (zaf (eCut (eVar 0) (zfZ (eVar 2)) (zfZ (m2 dAdd (eVar 2) (eC (.int 2))))) aNil)) (mC dSum (zaf (eCut (eVar 1) (zfZ (eVar 2)) (zfZ (m2 dAdd (eVar 2) (eC (.int 2))))) aNil)))
def zeJ:MO:=
 oLC [0,1] 1 (iR1 (zaf (m2 dSub (zdm 0) (eC (.int 1))) aNil)) (gN 2) zbV zeE
def zeh:MS:=
 (sRet (mC zch (zaf (eFz zeJ) aNil)))
def zcb:List D->Option Sl:=fP 2 zeh
theorem ziC (h:FnAt K "square_sums" zf3):FD P w K mg base 1 "square_sums" (spP K 2 zcb):=
 fdP (N:=["upper","lower"]) (k:=0) (m:=zeh) X G h fun _ _ _ _ _ _ _ hr nd=>(zak (zay (zb3 bn.tuple' (zaa (SO.se (zel [0,1] 1 ["upper","lower","c"] rfl (zaW bn.range' (zaa (zaX (zbm 0 bn.len') zah) zag)) (fun C s H fp=>(zal 2 ndk)) (fun C s H fp=>zaH) (fun C s H fp=>(zaD (zkz rfl bn.sum' (zaa (zeO (zab 0) (zb6 (zab 2)) (zb6 (zaD (zab 2) zah))) zag)) (zkz rfl bn.sum' (zaa (zeO (zab 1) (zb6 (zab 2)) (zb6 (zaD (zab 2) zah))) zag)))))) zag))))
abbrev zgI:Stmt:=top 5
def zfa:ME:=
 (zaz zcb (zaf (eIxV 0 (eVar 1)) (zaf (eIxV 0 (m2 dAdd (eVar 1) (eC (.int 1)))) aNil)))
def zeX:MO:=
 oLC [0] 1 (iR1 (zaf (m2 dSub (zdm 0) (eC (.int 1))) aNil)) (gN 1) zbV zfa
def zeT:MS:=
 (sRet (mC zch (zaf (eFz zeX) aNil)))
def zcB:List D->Option Sl:=fP 1 zeT
theorem zjR (zdJ:FD P w K mg base 1 "square_sums" (spP K 2 zcb))(h:FnAt K "floor_sums" zgI):FD P w K mg base 2 "floor_sums" (spP K 1 zcB):=
 fdP (N:=["numbers"]) (k:=1) (m:=zeT) X G h fun _ _ _ _ _ _ _ hr nd=>(zak (zay (zb3 bn.tuple' (zaa (SO.se (zel [0] 1 ["numbers","r"] rfl (zaW bn.range' (zaa (zaX (zbm 0 bn.len') zah) zag)) (fun C s H fp=>(zal 1 ndk)) (fun C s H fp=>zaH) (fun C s H fp=>(zam zdJ hr (zaa (zai 0 (zab 1)) (zaa (zai 0 (zaD (zab 1) zah)) zag)) (hlen:=(zac (zac zaj))))))) zag))))
abbrev zgR:Stmt:=top 7
def ze0:ME:=
 (zgc dLe dLe (eVar 0) (eVar 1) (eVar 2))
def zfI:MO:=
 oLC [] 3 (iZ3 (zaf (eVar 1) (zaf (eVar 0) (zaf (eVar 2) aNil)))) (gT 3 (zav (gN 0) (zav (gN 1) (zav (gN 2) zc2)))) zbV ze0
def ze2:MS:=
 (sRet (mC (dAll fun bs=>bs.all id) (zaf (eFz zfI) aNil)))
def zfS:MS:=
 (sSeq (sIf (tTru (m2 dNe (zdm 0) (zdm 1)))
  (sRet (eC (.bl false)))
  zcs)
  ze2)
def zcC:List D->Option Sl:=fP 3 zfS
theorem zjz (h:FnAt K "row_within" zgR):FD P w K mg base 1 "row_within" (spP K 3 zcC):=
 fdP (N:=["row","least","greatest"]) (k:=0) (m:=zfS) X G h fun _ _ _ _ _ _ _ hr nd=>(zae (zcy (zjh hr.units (zbm 0 bn.len') (zbm 1 bn.len'))
  (zak (zay zfC))
  zaO)
  (zak (zay (zl8 rfl bn.all' (zaa (SO.se (zel [] 3 ["low","number","high"] rfl (zi9 bn.zip' (zaa (zab 1) (zaa (zab 0) (zaa (zab 2) zag)))) (fun C s H fp=>(zbG rfl (zan (zal 0 ndk) (zan (zal 1 ndk) (zan (zal 2 ndk) zaY))))) (fun C s H fp=>zaH) (fun C s H fp=>(zjd zi3 zi3 zdb zdb (zab 0) (zab 1) (zab 2))))) zag)))))
abbrev zgB:Stmt:=top 8
def zdh:ME:=
 (zdm 0)
def zda:MO:=
 oLC [] 1 (iSeq (eVar 0)) (gN 0) zbV zdh
def zdy:MS:=
 (zkt zda)
def zaS:List D->Option Sl:=fP 1 zdy
theorem zjI (h:FnAt K "lengths_of" zgB):FD P w K mg base 1 "lengths_of" (spP K 1 zaS):=
 fdP (N:=["rows"]) (k:=0) (m:=zdy) X G h fun _ _ _ _ _ _ _ hr nd=>(zak (zhj (zel [] 1 ["row"] rfl (zbr (zab 0)) (fun C s H fp=>(zal 0 ndk)) (fun C s H fp=>zaH) (fun C s H fp=>(zbm 0 bn.len')))))
abbrev zf9:Stmt:=top 9
def zew:ME:=
 (zaz zcC (zaf (eVar 1) (zaf (eVar 0) (zaf (eVar 2) aNil))))
def zex:MO:=
 oLC [] 3 (iZ3 (zaf (eVar 1) (zaf (eVar 0) (zaf (eVar 2) aNil)))) (gT 3 (zav (gN 0) (zav (gN 1) (zav (gN 2) zc2)))) zbV zew
def zeB:MS:=
 (sRet (mC (dAll fun bs=>bs.all id) (zaf (eFz zex) aNil)))
def zen:MS:=
 (sSeq (sIf (tTru (m2 dNe (zdm 0) (zdm 1)))
  (sRet (eC (.bl false)))
  zcs)
  zeB)
def zbo:List D->Option Sl:=fP 3 zen
theorem ziz (zd8:FD P w K mg base 1 "row_within" (spP K 3 zcC))(h:FnAt K "rows_within" zf9):FD P w K mg base 2 "rows_within" (spP K 3 zbo):=
 fdP (N:=["rows","least","greatest"]) (k:=1) (m:=zen) X G h fun _ _ _ _ _ _ _ hr nd=>(zae (zcy (zjh hr.units (zbm 0 bn.len') (zbm 1 bn.len'))
  (zak (zay zfC))
  zaO)
  (zak (zay (zl8 rfl bn.all' (zaa (SO.se (zel [] 3 ["low","row","high"] rfl (zi9 bn.zip' (zaa (zab 1) (zaa (zab 0) (zaa (zab 2) zag)))) (fun C s H fp=>(zbG rfl (zan (zal 0 ndk) (zan (zal 1 ndk) (zan (zal 2 ndk) zaY))))) (fun C s H fp=>zaH) (fun C s H fp=>(zam zd8 hr (zaa (zab 1) (zaa (zab 0) (zaa (zab 2) zag))) (hlen:=(zac (zac (zac zaj)))))))) zag)))))
abbrev zcT:Stmt:=top 10
def zcf:MS:=
 (sRet (eAnd (m2 dEq (zaz zaS (zaf (eVar 0) aNil)) (m2 dMul (eFz (oLst (zaf (m2 dSub (eVar 4) (eC (.int 1))) aNil))) (m2 dSub (eVar 3) (eC (.int 1))))) (zaz zbo (zaf (eVar 1) (zaf (eVar 1) (zaf (eVar 2) aNil))))))
def zcg:MS:=
 (sSeq (sIf (tOrM (tTru (m2 dNe (zaz zaS (zaf (eVar 1) aNil)) (m2 dMul (eFz (oLst (zaf (eVar 4) aNil))) (eVar 3)))) (tTru (m2 dNe (zaz zaS (zaf (eVar 2) aNil)) (m2 dMul (eFz (oLst (zaf (eVar 4) aNil))) (eVar 3)))))
  (sRet (eC (.bl false)))
  zcs)
  zcf)
def zcj:MS:=
 (sSeq (sSet 4 (mC dLen (zaf (eIxV 1 (eC (.int 0))) aNil)))
  (sSeq (sIf (zkR (tTru (zgc dLe dLe (eC (.int 2)) (eVar 4) (eC (.int 6)))))
  (sRet (eC (.bl false)))
  zcs)
  zcg))
def zbW:MS:=
 (sSeq (sSet 3 (zdm 1))
  (sSeq (sIf (zkR (tTru (zgc dLe dLe (eC (.int 2)) (eVar 3) (eC (.int 6)))))
  (sRet (eC (.bl false)))
  zcs)
  zcj))
def zaV:List D->Option Sl:=fP 5 zbW
theorem zf0 (zb8:FD P w K mg base 1 "lengths_of" (spP K 1 zaS))(zbu:FD P w K mg base 2 "rows_within" (spP K 3 zbo))(h:FnAt K "floor_parts_right" zcT):FD P w K mg base 3 "floor_parts_right" (spP K 3 zaV):=
 fdP (N:=["sums","least","greatest","rows","columns"]) (k:=2) (m:=zbW) X G h fun _ _ _ _ _ _ _ hr nd=>(zae (zas 3 (zbm 1 bn.len') nd)
  (zae (zcy (zjY (zlq zi3 zi3 zdb zdb ziP zah (zab 3) zah))
  (zak (zay zfC))
  zaO)
  (zae (zas 4 (zfr bn.len' (zaa (zai 1 zah) zag)) nd)
  (zae (zcy (zjY (zlq zi3 zi3 zdb zdb ziP zah (zab 4) zah))
  (zak (zay zfC))
  zaO)
  (zae (zcy (STw.st (sw_or (zjh hr.units (zam zb8 hr (zaa (zab 1) zag) (hlen := (zac zaj))) (za9 (SO.se (zbh (zaa (zab 4) zag))) (zab 3))) (zln (zjh hr.units (zam zb8 hr (zaa (zab 2) zag) (hlen := (zac zaj))) (za9 (SO.se (zbh (zaa (zab 4) zag))) (zab 3))))))
  (zak (zay zfC))
  zaO)
  (zak (zay (ziY (se_eq hr.units (zam zb8 hr (zaa (zab 0) zag) (hlen:=(zac zaj))) (za9 (SO.se (zbh (zaa (zaX (zab 4) zah) zag))) (zaX (zab 3) zah))) (ziR (zam zbu hr (zaa (zab 1) (zaa (zab 1) (zaa (zab 2) zag))) (hlen:=(zac (zac (zac zaj))))))))))))))
abbrev zhv:Stmt:=top 11
def zdK:ME:=
 (mC zch (zaf (eVar 0) aNil))
def zdM:MO:=
 oLC [] 1 (iSeq (eVar 0)) (gN 0) zbV zdK
def zei:MS:=
 (sRet (mC zch (zaf (eFz zdM) aNil)))
def zaP:List D->Option Sl:=fP 1 zei
theorem zkk (h:FnAt K "in_tuples" zhv):FD P w K mg base 1 "in_tuples" (spP K 1 zaP):=
 fdP (N:=["rows"]) (k:=0) (m:=zei) X G h fun _ _ _ _ _ _ _ hr nd=>(zak (zay (zb3 bn.tuple' (zaa (SO.se (zel [] 1 ["row"] rfl (zbr (zab 0)) (fun C s H fp=>(zal 0 ndk)) (fun C s H fp=>zaH) (fun C s H fp=>(zb3 bn.tuple' (zaa (zab 0) zag))))) zag))))
abbrev zgK:Stmt:=top 12
def ze8:MS:=
 (sRet (eTup (zaf (zaz zaP (zaf (eVar 0) aNil)) (zaf (zaz zaP (zaf (eVar 1) aNil)) (zaf (zaz zaP (zaf (eVar 2) aNil)) aNil)))))
def zff:MS:=
 (sSeq (sIf (zkR (tTru (zaz zaV (zaf (eVar 0) (zaf (eVar 1) (zaf (eVar 2) aNil))))))
  (fun _=>none)
  zcs)
  ze8)
def za0:List D->Option Sl:=fP 3 zff
theorem zjg (zbJ:FD P w K mg base 3 "floor_parts_right" (spP K 3 zaV))(zbi:FD P w K mg base 1 "in_tuples" (spP K 1 zaP))(h:FnAt K "made_floor" zgK):FD P w K mg base 4 "made_floor" (spP K 3 za0):=
 fdP (N:=["sums","least","greatest"]) (k:=3) (m:=zff) X G h fun _ _ _ _ _ _ _ hr nd=>(zae (zcy (zjY (zjq (zam zbJ hr (zaa (zab 0) (zaa (zab 1) (zaa (zab 2) zag))) (hlen:=(zac (zac (zac zaj)))))))
  (zak ss_never)
  zaO)
  (zak (zay (zbH (zaa (zam zbi hr (zaa (zab 0) zag) (hlen:=(zac zaj))) (zaa (zam zbi hr (zaa (zab 1) zag) (hlen:=(zac zaj))) (zaa (zam zbi hr (zaa (zab 2) zag) (hlen:=(zac zaj))) zag)))))))
abbrev zgd:Stmt:=top 13
def zee:MS:=
 (sRet (eAnd (zaz zbo (zaf (eVar 1) (zaf (eIxV 0 (eC (.int 1))) (zaf (eIxV 0 (eC (.int 2))) aNil)))) (m2 dEq (zaz zcB (zaf (eVar 1) aNil)) (eIxV 0 (eC (.int 0))))))
def zbl:List D->Option Sl:=fP 2 zee
theorem ziu (zeg:FD P w K mg base 2 "floor_sums" (spP K 1 zcB))(zbu:FD P w K mg base 2 "rows_within" (spP K 3 zbo))(h:FnAt K "floor_holds" zgd):FD P w K mg base 3 "floor_holds" (spP K 2 zbl):=
 fdP (N:=["floor","numbers"]) (k:=2) (m:=zee) X G h fun _ _ _ _ _ _ _ hr nd=>(zak (zay (ziY (zam zbu hr (zaa (zab 1) (zaa (zai 0 zah) (zaa (zai 0 zah) zag))) (hlen:=(zac (zac (zac zaj))))) (ziR (se_eq hr.units (zam zeg hr (zaa (zab 1) zag) (hlen:=(zac zaj))) (zai 0 zah))))))
abbrev ziQ:Stmt:=top 15
def zib:MS:=
 (sRet (eAnd (zgc dLe dLt (eC (.int 0)) (eVar 1) (zdm 0)) (zgc dLe dLt (eC (.int 0)) (eVar 2) (mC dLen (zaf (eIxV 0 (eC (.int 0))) aNil)))))
def ze9:List D->Option Sl:=fP 3 zib
theorem zmT (h:FnAt K "is_cell" ziQ):FD P w K mg base 1 "is_cell" (spP K 3 ze9):=
 fdP (N:=["rows","r","c"]) (k:=0) (m:=zib) X G h fun _ _ _ _ _ _ _ hr nd=>(zak (zay (ziY (zjd zi3 op_lt zdb zdb zah (zab 1) (zbm 0 bn.len')) (ziR (zjd zi3 op_lt zdb zdb zah (zab 2) (zfr bn.len' (zaa (zai 0 zah) zag)))))))
abbrev zh5:Stmt:=top 16
def zgN:ME:=
 (eTup (zaf (eVar 0) (zaf (eVar 1) aNil)))
def zgw:MO:=
 oLC [2] 1 (iR1 (zaf (mC dLen (zaf (eIxV 0 (eC (.int 0))) aNil)) aNil)) (gN 1) zbV zgN
def zgx:MS:=
 (sExt 1 (eFz zgw))
def zgW:MS:=
 sFor (iR1 (zaf (zdm 0) aNil)) (gN 2) zgx
def zhi:MS:=
 (sSeq (zfi 1 (oLst aNil))
  (sSeq zgW
  (zg5 1)))
def zdU:List D->Option Sl:=fP 3 zhi
theorem zkU (h:FnAt K "cells_of" zh5):FD P w K mg base 1 "cells_of" (spP K 1 zdU):=
 fdP (N:=["rows","cells","r"]) (k:=0) (m:=zhi) X G h fun _ _ _ _ _ _ _ hr nd=>(zae (zbX 1 (zbh zag) nd)
  (zae (zbI PassesOwn.never rfl (zaW bn.range' (zaa (zbm 0 bn.len') zag)) (zal 2 nd)
  (zak (ss_ext 1 (SO.se (zel [2] 1 ["r","c"] rfl (zaW bn.range' (zaa (zfr bn.len' (zaa (zai 0 zah) zag)) zag)) (fun C s H fp=>(zal 1 ndk)) (fun C s H fp=>zaH) (fun C s H fp=>(zbH (zaa (zab 0) (zaa (zab 1) zag)))))))))
  (zak (zdj 1))))
abbrev zhu:Stmt:=top 17
def zgk:MS:=
 (sRet (eIf (tTru (m2 dEq (m2 dMod (m2 dAdd (eVar 0) (eVar 1)) (eC (.int 2))) (eC (.int 0)))) (eC (.int 1)) (m1 dNeg (eC (.int 1)))))
def zaU:List D->Option Sl:=fP 2 zgk
theorem zki (h:FnAt K "cell_sign" zhu):FD P w K mg base 1 "cell_sign" (spP K 2 zaU):=
 fdP (N:=["r","c"]) (k:=0) (m:=zgk) X G h fun _ _ _ _ _ _ _ hr nd=>(zak (zay (zl6 (zjo hr.units (zev (zaD (zab 0) (zab 1)) zah) zah) zah (zeI zah))))
abbrev zg4:Stmt:=top 18
def ze7:MS:=
 (sSeq (zmS 2 (fun i j => i + j) (m2 dMul (m2 dMul (eVar 3) (zaz zaU (zaf (eVar 4) (zaf (eVar 5) aNil)))) (m2 dIx (eIxV 0 (eVar 4)) (eVar 5))))
  (sSet 3 (m1 dNeg (eVar 3))))
def zeW:MS:=
 sFor (iSeq (eVar 1)) (gT 2 (zav (gN 4) (zav (gN 5) zc2))) ze7
def zfy:MS:=
 (sSeq (sSet 2 (eC (.int 0)))
  (sSeq (sSet 3 (eC (.int 1)))
  (sSeq zeW
  (zg5 2))))
def zby:List D->Option Sl:=fP 6 zfy
theorem zjt (zaK:FD P w K mg base 1 "cell_sign" (spP K 2 zaU))(h:FnAt K "balance_of" zg4):FD P w K mg base 2 "balance_of" (spP K 2 zby):=
 fdP (N:=["numbers","cells","balance","sign","r","c"]) (k:=1) (m:=zfy) X G h fun _ _ _ _ _ _ _ hr nd=>(zae (zas 2 zah nd)
  (zae (zas 3 zah nd)
  (zae (zbI PassesOwn.never rfl (zbr (zab 1)) (zbG rfl (zan (zal 4 nd) (zan (zal 5 nd) zaY)))
  (zae (zkE 2 (za9 (za9 (zab 3) (zam zaK hr (zaa (zab 4) (zaa (zab 5) zag)) (hlen := (zac (zac zaj))))) (zaZ (zai 0 (zab 4)) (zab 5))) nd)
  (zak (zas 3 (zeI (zab 3)) nd))))
  (zak (zdj 2)))))
abbrev zeu:Stmt:=top 19
def zdr:MS:=
 (sApp 4 (m2 dSub (m2 dSub (m2 dSub (eVar 6) (eIxV 3 (eVar 5))) (eIxV 3 (m2 dAdd (eVar 5) (eC (.int 1))))) (eIxV 4 (eVar 5))))
def zdz:MS:=
 sFor (iEn (zaf (eVar 2) aNil)) (gT 2 (zav (gN 5) (zav (gN 6) zc2))) zdr
def zdw:MS:=
 (sSeq (sSet 3 (eIxV 1 (m1 dNeg (eC (.int 1)))))
  (sSeq (zfi 4 (oLst (zaf (eC (.int 0)) aNil)))
  (sSeq zdz
  (sApp 1 (eVar 4)))))
def zdo:MS:=
 sFor (iSeq (eIxV 0 (eC (.int 0)))) (gN 2) zdw
def zdk:MS:=
 (sSeq (zfi 1 (oLst (zaf (m2 dMul (eFz (oLst (zaf (eC (.int 0)) aNil))) (mC dLen (zaf (m2 dIx (eIxV 0 (eC (.int 1))) (eC (.int 0))) aNil))) aNil)))
  (sSeq zdo
  (sRet (zaz zaP (zaf (eVar 1) aNil)))))
def zaI:List D->Option Sl:=fP 7 zdk
theorem zhJ (zbi:FD P w K mg base 1 "in_tuples" (spP K 1 zaP))(h:FnAt K "plain_numbers" zeu):FD P w K mg base 2 "plain_numbers" (spP K 1 zaI):=
 fdP (N:=["floor","numbers","sums","above","row","c","total"]) (k:=1) (m:=zdk) X G h fun _ _ _ _ _ _ _ hr nd=>(zae (zbX 1 (zbh (zaa (za9 (SO.se (zbh (zaa zah zag))) (zfr bn.len' (zaa (zaZ (zai 0 zah) zah) zag))) zag)) nd)
  (zae (zbI PassesOwn.never rfl (zbr (zai 0 zah)) (zal 2 nd)
  (zae (zas 3 (zai 1 (zeI zah)) nd)
  (zae (zbX 4 (zbh (zaa zah zag)) nd)
  (zae (zbI PassesOwn.never rfl (zbj bn.enumerate' (zaa (zab 2) zag)) (zbG rfl (zan (zal 5 nd) (zan (zal 6 nd) zaY)))
  (zak (ze4 4 (zaX (zaX (zaX (zab 6) (zai 3 (zab 5))) (zai 3 (zaD (zab 5) zah))) (zai 4 (zab 5))))))
  (zak (ze4 1 (zab 4)))))))
  (zak (zay (zam zbi hr (zaa (zab 1) zag) (hlen:=(zac zaj)))))))
abbrev zf8:Stmt:=top 20
def zer:ME:=
 (m2 dAdd (eVar 4) (m2 dMul (zaz zaU (zaf (eVar 0) (zaf (eVar 3) aNil))) (m2 dSub (eVar 1) (eIxV 2 (eVar 3)))))
def zes:MO:=
 oLC [1,2,3] 2 (iEn (zaf (eVar 0) aNil)) (gT 2 (zav (gN 3) (zav (gN 4) zc2))) zbV zer
def zea:MS:=
 (sRet (mC zch (zaf (eFz zes) aNil)))
def zb1:List D->Option Sl:=fP 4 zea
theorem zix (zaK:FD P w K mg base 1 "cell_sign" (spP K 2 zaU))(h:FnAt K "shifted_row" zf8):FD P w K mg base 2 "shifted_row" (spP K 4 zb1):=
 fdP (N:=["row","r","shift","column_shifts"]) (k:=1) (m:=zea) X G h fun _ _ _ _ _ _ _ hr nd=>(zak (zay (zb3 bn.tuple' (zaa (SO.se (zel [1,2,3] 2 ["r","shift","column_shifts","c","number"] rfl (zbj bn.enumerate' (zaa (zab 0) zag)) (fun C s H fp=>(zbG rfl (zan (zal 3 ndk) (zan (zal 4 ndk) zaY)))) (fun C s H fp=>zaH) (fun C s H fp=>(zaD (zab 4) (za9 (zam zaK hr (zaa (zab 0) (zaa (zab 3) zag)) (hlen:=(zac (zac zaj)))) (zaX (zab 1) (zai 2 (zab 3)))))))) zag))))
abbrev zdn:Stmt:=top 21
def zcS:ME:=
 (zaz zb1 (zaf (eVar 3) (zaf (eVar 2) (zaf (eIxV 0 (eVar 2)) (zaf (eVar 1) aNil)))))
def zcL:MO:=
 oLC [1,2] 2 (iEn (zaf (eVar 0) aNil)) (gT 2 (zav (gN 2) (zav (gN 3) zc2))) zbV zcS
def zcq:MS:=
 (sSeq (sSet 2 (eCut (eVar 1) (zfZ (zdm 0)) pNo))
  (sRet (mC zch (zaf (eFz zcL) aNil))))
def za8:List D->Option Sl:=fP 3 zcq
theorem zgJ (zdL:FD P w K mg base 2 "shifted_row" (spP K 4 zb1))(h:FnAt K "shifted_numbers" zdn):FD P w K mg base 3 "shifted_numbers" (spP K 2 za8):=
 fdP (N:=["numbers","shifts","column_shifts"]) (k:=2) (m:=zcq) X G h fun _ _ _ _ _ _ _ hr nd=>(zae (zas 2 (zeO (zab 1) (zb6 (zbm 0 bn.len')) zke) nd)
  (zak (zay (zb3 bn.tuple' (zaa (SO.se (zel [1,2] 2 ["shifts","column_shifts","r","row"] rfl (zbj bn.enumerate' (zaa (zab 0) zag)) (fun C s H fp=>(zbG rfl (zan (zal 2 ndk) (zan (zal 3 ndk) zaY)))) (fun C s H fp=>zaH) (fun C s H fp=>(zam zdL hr (zaa (zab 3) (zaa (zab 2) (zaa (zai 0 (zab 2)) (zaa (zab 1) zag)))) (hlen:=(zac (zac (zac (zac zaj))))))))) zag)))))
abbrev zhD:Stmt:=top 22
def zf7:MS:=
 (zkt (oLst (zaf (eTup (zaf (eVar 2) (zaf (eVar 4) (zaf (eVar 6) aNil)))) (zaf (eTup (zaf (eVar 4) (zaf (eVar 2) (zaf (eVar 5) aNil)))) aNil))))
def zgi:MS:=
 (sSeq (sSet 4 (m2 dAdd (zdm 1) (eVar 3)))
  (sSeq (sSet 5 (m2 dSub (m2 dIx (m2 dIx (eIxV 0 (eC (.int 2))) (eVar 2)) (eVar 3)) (m2 dIx (eIxV 1 (eVar 2)) (eVar 3))))
  (sSeq (sSet 6 (m2 dSub (m2 dIx (eIxV 1 (eVar 2)) (eVar 3)) (m2 dIx (m2 dIx (eIxV 0 (eC (.int 1))) (eVar 2)) (eVar 3))))
  (sSeq (sIf (tTru (m2 dEq (zaz zaU (zaf (eVar 2) (zaf (eVar 3) aNil))) (eC (.int 1))))
  (zkt (oLst (zaf (eTup (zaf (eVar 2) (zaf (eVar 4) (zaf (eVar 5) aNil)))) (zaf (eTup (zaf (eVar 4) (zaf (eVar 2) (zaf (eVar 6) aNil)))) aNil))))
  zcs)
  zf7))))
def zdl:List D->Option Sl:=fP 7 zgi
theorem zkx (zaK:FD P w K mg base 1 "cell_sign" (spP K 2 zaU))(h:FnAt K "cell_ties" zhD):FD P w K mg base 2 "cell_ties" (spP K 4 zdl):=
 fdP (N:=["floor","numbers","r","c","column","above","beneath"]) (k:=1) (m:=zgi) X G h fun _ _ _ _ _ _ _ hr nd=>(zae (zas 4 (zaD (zbm 1 bn.len') (zab 3)) nd)
  (zae (zas 5 (zaX (zaZ (zaZ (zai 0 zah) (zab 2)) (zab 3)) (zaZ (zai 1 (zab 2)) (zab 3))) nd)
  (zae (zas 6 (zaX (zaZ (zai 1 (zab 2)) (zab 3)) (zaZ (zaZ (zai 0 zah) (zab 2)) (zab 3))) nd)
  (zae (zcy (zjo hr.units (zam zaK hr (zaa (zab 2) (zaa (zab 3) zag)) (hlen := (zac (zac zaj)))) zah)
  (zak (zhj (zbh (zaa (zbH (zaa (zab 2) (zaa (zab 4) (zaa (zab 5) zag)))) (zaa (zbH (zaa (zab 4) (zaa (zab 2) (zaa (zab 6) zag)))) zag)))))
  zaO)
  (zak (zhj (zbh (zaa (zbH (zaa (zab 2) (zaa (zab 4) (zaa (zab 6) zag)))) (zaa (zbH (zaa (zab 4) (zaa (zab 2) (zaa (zab 5) zag)))) zag)))))))))
abbrev zgG:Stmt:=top 23
def zfg:MS:=
 (sExt 2 (zaz zdl (zaf (eVar 0) (zaf (eVar 1) (zaf (eVar 3) (zaf (eVar 4) aNil))))))
def zfG:MS:=
 sFor (iSeq (zaz zdU (zaf (eVar 1) aNil))) (gT 2 (zav (gN 3) (zav (gN 4) zc2))) zfg
def zfP:MS:=
 (sSeq (sSet 1 (zaz zaI (zaf (eVar 0) aNil)))
  (sSeq (zfi 2 (oLst aNil))
  (sSeq zfG
  (zg5 2))))
def zcx:List D->Option Sl:=fP 5 zfP
theorem zjE (zfq:FD P w K mg base 2 "cell_ties" (spP K 4 zdl))(zgq:FD P w K mg base 1 "cells_of" (spP K 1 zdU))(zaB:FD P w K mg base 2 "plain_numbers" (spP K 1 zaI))(h:FnAt K "floor_ties" zgG):FD P w K mg base 3 "floor_ties" (spP K 1 zcx):=
 fdP (N:=["floor","numbers","ties","r","c"]) (k:=2) (m:=zfP) X G h fun _ _ _ _ _ _ _ hr nd=>(zae (zas 1 (zam zaB hr (zaa (zab 0) zag) (hlen:=(zac zaj))) nd)
  (zae (zbX 2 (zbh zag) nd)
  (zae (zbI PassesOwn.never rfl (zbr (zam zgq hr (zaa (zab 1) zag) (hlen := (zac zaj)))) (zbG rfl (zan (zal 3 nd) (zan (zal 4 nd) zaY)))
  (zak (ss_ext 2 (zam zfq hr (zaa (zab 0) (zaa (zab 1) (zaa (zab 3) (zaa (zab 4) zag)))) (hlen:=(zac (zac (zac (zac zaj)))))))))
  (zak (zdj 2)))))
abbrev zds:Stmt:=top 24
def zcU:MS:=
 (sIf (tAndM (tTru (m2 zj2 (eIxV 3 (eVar 8)) (eC .non))) (tOrM (tTru (m2 dIsN (eIxV 3 (eVar 7)) (eC .non))) (tTru (m2 dGt (eIxV 3 (eVar 7)) (m2 dAdd (eIxV 3 (eVar 8)) (eVar 9))))))
  (sSeq (sPut 3 (eVar 7) (m2 dAdd (eIxV 3 (eVar 8)) (eVar 9)))
  (sSeq (sPut 4 (eVar 7) (eVar 8))
  (sSet 5 (eVar 7))))
  zcs)
def zcM:MS:=
 sFor (iSeq (eVar 0)) (gT 3 (zav (gN 7) (zav (gN 8) (zav (gN 9) zc2)))) zcU
def zcJ:MS:=
 (sSeq (sSet 5 (eC .non))
  zcM)
def zcQ:MS:=
 sFor (iR1 (zaf (eVar 1) aNil)) (gN 6) zcJ
def zcp:MS:=
 (sSeq (zfi 3 (oRep (eFz (oLst (zaf (eC .non) aNil))) (eVar 1)))
  (sSeq (sPut 3 (eVar 2) (eC (.int 0)))
  (sSeq (zfi 4 (oRep (eFz (oLst (zaf (eC .non) aNil))) (eVar 1)))
  (sSeq (sSet 5 (eC .non))
  (sSeq zcQ
  (sRet (eTup (zaf (eVar 3) (zaf (eVar 4) (zaf (eVar 5) aNil))))))))))
def zbd:List D->Option Sl:=fP 10 zcp
theorem zg8 (h:FnAt K "greatest_shifts" zds):FD P w K mg base 1 "greatest_shifts" (spP K 3 zbd):=
 fdP (N:=["ties","many","start","shifts","unders","falling","turn","lane","under","above"]) (k:=0) (m:=zcp) X G h fun _ _ _ _ _ _ _ hr nd=>(zae (zbX 3 (znB (SO.se (zbh (zaa zhW zag))) (zab 1)) nd)
  (zae (zkf 3 zah (zab 2))
  (zae (zbX 4 (znB (SO.se (zbh (zaa zhW zag))) (zab 1)) nd)
  (zae (zas 5 zhW nd)
  (zae (zbI PassesOwn.never rfl (zaW bn.range' (zaa (zab 1) zag)) (zal 6 nd)
  (zae (zas 5 zhW nd)
  (zak (zbI PassesOwn.never rfl (zbr (zab 0)) (zbG rfl (zan (zal 7 nd) (zan (zal 8 nd) (zan (zal 9 nd) zaY))))
  (zak (zcy (STw.st (sw_and (zll (zai 3 (zab 8)) zhW) (sw_and1 (STw.st (sw_or (st_is (zai 3 (zab 7)) zhW) (zln (st_gt (zai 3 (zab 7)) (zaD (zai 3 (zab 8)) (zab 9)))))))))
  (zae (zkf 3 (zaD (zai 3 (zab 8)) (zab 9)) (zab 7))
  (zae (zkf 4 (zab 8) (zab 7))
  (zak (zas 5 (zab 7) nd))))
  zaO))))))
  (zak (zay (zbH (zaa (zab 3) (zaa (zab 4) (zaa (zab 5) zag)))))))))))
abbrev zeU:Stmt:=top 25
def zdX:MS:=
 (sSet 2 (eIxV 0 (eVar 2)))
def zdV:MS:=
 sFor (iR1 (zaf (zdm 0) aNil)) (gN 3) zdX
def zdS:MT:=
 (tTru (m2 dNe (eIxV 0 (eIxV 4 (m1 dNeg (eC (.int 1))))) (eVar 2)))
def zd2:MS:=
 (sApp 4 (eIxV 0 (eIxV 4 (m1 dNeg (eC (.int 1))))))
def zd7:MS:=
 zhz zdS zd2 400
def zdF:MS:=
 (sSeq (sSet 2 (eVar 1))
  (sSeq zdV
  (sSeq (zfi 4 (oLst (zaf (eVar 2) aNil)))
  (sSeq zd7
  (zg5 4)))))
def zbT:List D->Option Sl:=fP 5 zdF
theorem zh1 (h:FnAt K "falling_loop" zeU):FD P w K mg base 1 "falling_loop" (spP K 2 zbT):=
 fdP (N:=["unders","falling","lane","step","loop"]) (k:=0) (m:=zdF) X G h fun _ _ _ _ _ _ _ hr nd=>(zae (zas 2 (zab 1) nd)
  (zae (zbI PassesOwn.never rfl (zaW bn.range' (zaa (zbm 0 bn.len') zag)) (zal 3 nd)
  (zak (zas 2 (zai 0 (zab 2)) nd)))
  (zae (zbX 4 (zbh (zaa (zab 2) zag)) nd)
  (zae (ss_while 400 PassesOwn.never (zjh hr.units (zai 0 (zai 4 (zeI zah))) (zab 2))
  (zak (ze4 4 (zai 0 (zai 4 (zeI zah))))))
  (zak (zdj 4))))))
abbrev zfz:Stmt:=top 26
def zdG:MS:=
 (sRet (zaz zbd (zaf (zaz zcx (zaf (eVar 0) aNil)) (zaf (m2 dAdd (mC dLen (zaf (eIxV 0 (eC (.int 1))) aNil)) (mC dLen (zaf (m2 dIx (eIxV 0 (eC (.int 1))) (eC (.int 0))) aNil))) (zaf (eVar 1) aNil)))))
def zcu:List D->Option Sl:=fP 2 zdG
theorem zir (zej:FD P w K mg base 3 "floor_ties" (spP K 1 zcx))(zca:FD P w K mg base 1 "greatest_shifts" (spP K 3 zbd))(h:FnAt K "floor_shifts" zfz):FD P w K mg base 4 "floor_shifts" (spP K 2 zcu):=
 fdP (N:=["floor","start"]) (k:=3) (m:=zdG) X G h fun _ _ _ _ _ _ _ hr nd=>(zak (zay (zam zca hr (zaa (zam zej hr (zaa (zab 0) zag) (hlen:=(zac zaj))) (zaa (zaD (zfr bn.len' (zaa (zai 0 zah) zag)) (zfr bn.len' (zaa (zaZ (zai 0 zah) zah) zag))) (zaa (zab 1) zag))) (hlen:=(zac (zac (zac zaj)))))))
abbrev ziO:Stmt:=top 27
def zhE:ME:=
 (eTup (zaf (mC (d2I min2) (zaf (eVar 1) (zaf (eVar 2) aNil))) (zaf (m2 dSub (mC (d2I max2) (zaf (eVar 1) (zaf (eVar 2) aNil))) (eVar 0)) aNil)))
def zeY:MO:=
 oLC [1] 2 (iZ2 (zaf (eVar 2) (zaf (eVar 3) aNil))) (gT 2 (zav (gN 1) (zav (gN 2) zc2))) zbV zhE
def zh0:MS:=
 (sSeq (sSet 2 (eIf (tTru (m2 dLt (eIxV 0 (eC (.int 0))) (eVar 1))) (eVar 0) (m2 dAdd (eCut (eVar 0) (zfZ (eC (.int 1))) pNo) (eCut (eVar 0) pNo (zfZ (eC (.int 1)))))))
  (sSeq (sSet 3 (m2 dAdd (eCut (eVar 2) (zfZ (eC (.int 1))) pNo) (eCut (eVar 2) pNo (zfZ (eC (.int 1))))))
  (zkt zeY)))
def zfL:List D->Option Sl:=fP 4 zh0
theorem zmV (h:FnAt K "tour_of" ziO):FD P w K mg base 1 "tour_of" (spP K 2 zfL):=
 fdP (N:=["loop","rows","lanes","unders"]) (k:=0) (m:=zh0) X G h fun _ _ _ _ _ _ _ hr nd=>(zae (zas 2 (zl6 (st_lt (zai 0 zah) (zab 1)) (zab 0) (zaD (zeO (zab 0) (zb6 zah) zke) (zeO (zab 0) zke (zb6 zah)))) nd)
  (zae (zas 3 (zaD (zeO (zab 2) (zb6 zah) zke) (zeO (zab 2) zke (zb6 zah))) nd)
  (zak (zhj (zel [1] 2 ["rows","lane","under"] rfl (it_zip2N bn.zip' (zaa (zab 2) (zaa (zab 3) zag))) (fun C s H fp=>(zbG rfl (zan (zal 1 ndk) (zan (zal 2 ndk) zaY)))) (fun C s H fp=>zaH) (fun C s H fp=>(zbH (zaa (zlf rfl bn.min' (zaa (zab 1) (zaa (zab 2) zag))) (zaa (zaX (zjj rfl bn.max' (zaa (zab 1) (zaa (zab 2) zag))) (zab 0)) zag)))))))))
abbrev zfA:Stmt:=top 28
def zd5:MS:=
 (sRet (eTup (zaf (eC (.str "floor")) (zaf (zaz za8 (zaf (zaz zaI (zaf (eVar 0) aNil)) (zaf (eIxV 1 (eC (.int 0))) aNil))) aNil))))
def zdC:MS:=
 (sSeq (sSet 1 (zaz zcu (zaf (eVar 0) (zaf (eC (.int 0)) aNil))))
  (sSeq (sIf (tTru (m2 zj2 (eIxV 1 (eC (.int 2))) (eC .non)))
  (sRet (eTup (zaf (eC (.str "tour")) (zaf (zaz zfL (zaf (zaz zbT (zaf (eIxV 1 (eC (.int 1))) (zaf (eIxV 1 (eC (.int 2))) aNil))) (zaf (mC dLen (zaf (eIxV 0 (eC (.int 1))) aNil)) aNil))) aNil))))
  zcs)
  zd5))
def zaT:List D->Option Sl:=fP 2 zdC
theorem zik (zc9:FD P w K mg base 1 "falling_loop" (spP K 2 zbT))(zc7:FD P w K mg base 4 "floor_shifts" (spP K 2 zcu))(zaB:FD P w K mg base 2 "plain_numbers" (spP K 1 zaI))(zb0:FD P w K mg base 3 "shifted_numbers" (spP K 2 za8))(zhk:FD P w K mg base 1 "tour_of" (spP K 2 zfL))(h:FnAt K "fitted_floor" zfA):FD P w K mg base 5 "fitted_floor" (spP K 1 zaT):=
 fdP (N:=["floor","found"]) (k:=4) (m:=zdC) X G h fun _ _ _ _ _ _ _ hr nd=>(zae (zas 1 (zam zc7 hr (zaa (zab 0) (zaa zah zag)) (hlen:=(zac (zac zaj)))) nd)
  (zae (zcy (zll (zai 1 zah) zhW)
  (zak (zay (zbH (zaa zh9 (zaa (zam zhk hr (zaa (zam zc9 hr (zaa (zai 1 zah) (zaa (zai 1 zah) zag)) (hlen:=(zac (zac zaj)))) (zaa (zfr bn.len' (zaa (zai 0 zah) zag)) zag)) (hlen:=(zac (zac zaj)))) zag)))))
  zaO)
  (zak (zay (zbH (zaa zh9 (zaa (zam zb0 hr (zaa (zam zaB hr (zaa (zab 0) zag) (hlen:=(zac zaj))) (zaa (zai 1 zah) zag)) (hlen:=(zac (zac zaj)))) zag)))))))
abbrev ziS:Stmt:=top 30
def zh3:MS:=
 (sSeq (sSet 3 (m2 dSub (eC (.int 1)) (m2 dMod (eVar 0) (eC (.int 2)))))
  (sRet (eAnd (m2 dEq (eIxV 1 (eVar 3)) (eIxV 2 (eVar 3))) (m2 dNe (eIxV 1 (m2 dSub (eC (.int 1)) (eVar 3))) (eIxV 2 (m2 dSub (eC (.int 1)) (eVar 3)))))))
def ze5:List D->Option Sl:=fP 4 zh3
theorem zmR (h:FnAt K "is_step" ziS):FD P w K mg base 1 "is_step" (spP K 3 ze5):=
 fdP (N:=["place","cell","after","stays"]) (k:=0) (m:=zh3) X G h fun _ _ _ _ _ _ _ hr nd=>(zae (zas 3 (zaX zah (zev (zab 0) zah)) nd)
  (zak (zay (ziY (se_eq hr.units (zai 1 (zab 3)) (zai 2 (zab 3))) (ziR (se_ne hr.units (zai 1 (zaX zah (zab 3))) (zai 2 (zaX zah (zab 3)))))))))
abbrev ziL:Stmt:=top 31
def zhr:ME:=
 (zaz ze9 (zaf (eIxV 0 (eC (.int 1))) (zaf (eVar 1) (zaf (eVar 2) aNil))))
def zht:MO:=
 oLC [0] 2 (iSeq (eVar 1)) (gT 2 (zav (gN 1) (zav (gN 2) zc2))) zbV zhr
def zhF:ME:=
 (zaz ze5 (zaf (eVar 1) (zaf (eVar 2) (zaf (eIxV 0 (eVar 1)) aNil))))
def zhI:MO:=
 oLC [2] 2 (iEn (zaf (eVar 1) aNil)) (gT 2 (zav (gN 1) (zav (gN 2) zc2))) zbV zhF
def zhw:MS:=
 (sSeq (sSet 2 (m2 dAdd (eCut (eVar 1) (zfZ (eC (.int 1))) pNo) (eCut (eVar 1) pNo (zfZ (eC (.int 1))))))
  (sRet (mC (dAll fun bs=>bs.all id) (zaf (eFz zhI) aNil))))
def zhq:MS:=
 (sSeq (sIf (zkR (tTru (mC (dAll fun bs => bs.all id) (zaf (eFz zht) aNil))))
  (sRet (eC (.bl false)))
  zcs)
  zhw)
def zil:MS:=
 (sSeq (sIf (tOrM (tTru (m2 dLt (zdm 1) (eC (.int 4)))) (tTru (m2 dNe (m2 dMod (zdm 1) (eC (.int 2))) (eC (.int 0)))))
  (sRet (eC (.bl false)))
  zcs)
  zhq)
def zfv:List D->Option Sl:=fP 3 zil
theorem zmJ (zhf:FD P w K mg base 1 "is_cell" (spP K 3 ze9))(zhe:FD P w K mg base 1 "is_step" (spP K 3 ze5))(h:FnAt K "is_tour" ziL):FD P w K mg base 2 "is_tour" (spP K 2 zfv):=
 fdP (N:=["floor","cells","afters"]) (k:=1) (m:=zil) X G h fun _ _ _ _ _ _ _ hr nd=>(zae (zcy (STw.st (sw_or (st_lt (zbm 1 bn.len') zah) (zln (zjh hr.units (zev (zbm 1 bn.len') zah) zah))))
  (zak (zay zfC))
  zaO)
  (zae (zcy (zjY (zjq (zl8 rfl bn.all' (zaa (SO.se (zel [0] 2 ["floor", "r", "c"] rfl (zbr (zab 1)) (fun C s H fp => (zbG rfl (zan (zal 1 ndk) (zan (zal 2 ndk) zaY)))) (fun C s H fp => zaH) (fun C s H fp => (zam zhf hr (zaa (zai 0 zah) (zaa (zab 1) (zaa (zab 2) zag))) (hlen := (zac (zac (zac zaj)))))))) zag))))
  (zak (zay zfC))
  zaO)
  (zae (zas 2 (zaD (zeO (zab 1) (zb6 zah) zke) (zeO (zab 1) zke (zb6 zah))) nd)
  (zak (zay (zl8 rfl bn.all' (zaa (SO.se (zel [2] 2 ["afters","place","cell"] rfl (zbj bn.enumerate' (zaa (zab 1) zag)) (fun C s H fp=>(zbG rfl (zan (zal 1 ndk) (zan (zal 2 ndk) zaY)))) (fun C s H fp=>zaH) (fun C s H fp=>(zam zhe hr (zaa (zab 1) (zaa (zab 2) (zaa (zai 0 (zab 1)) zag))) (hlen:=(zac (zac (zac zaj)))))))) zag)))))))
abbrev zgb:Stmt:=top 32
def zez:MO:=
 (oRep (eFz (oLst (zaf (eC (.int 0)) aNil))) (zdm 0))
def zeF:MS:=
 (sSeq (sTGe 2 (qV 4) (qV 5) (m2 dMul (eVar 3) (zaz zaU (zaf (eVar 4) (zaf (eVar 5) aNil)))))
  (sSet 3 (m1 dNeg (eVar 3))))
def zeH:MS:=
 sFor (iSeq (eVar 1)) (gT 2 (zav (gN 4) (zav (gN 5) zc2))) zeF
def zep:MS:=
 (sSeq (sTC 2 [] 1 (iSeq (eIxV 0 (eC (.int 1)))) (gN 0) zbV zez)
  (sSeq (sSet 3 (eC (.int 1)))
  (sSeq zeH
  (sRT 2))))
def zb5:List D->Option Sl:=fP 6 zep
theorem ziy (zaK:FD P w K mg base 1 "cell_sign" (spP K 2 zaU))(h:FnAt K "tour_counts" zgb):FD P w K mg base 2 "tour_counts" (spP K 2 zb5):=
 fdP (N:=["floor","cells","counts","sign","r","c"]) (k:=1) (m:=zep) X G h fun _ _ _ _ _ _ _ hr nd=>(zae (zec 2 [] 1 ["row"] rfl (zbr (zai 0 zah)) (fun C s H fp=>(zal 0 ndk)) (fun C s H fp=>zaH) (fun C s H fp=>(znB (SO.se (zbh (zaa zah zag))) (zbm 0 bn.len'))) nd)
  (zae (zas 3 zah nd)
  (zae (zbI PassesOwn.never rfl (zbr (zab 1)) (zbG rfl (zan (zal 4 nd) (zan (zal 5 nd) zaY)))
  (zae (ss_tAugE 2 (zax 4) (zax 5) (za9 (zab 3) (zam zaK hr (zaa (zab 4) (zaa (zab 5) zag)) (hlen := (zac (zac zaj))))))
  (zak (zas 3 (zeI (zab 3)) nd))))
  (zak (ss_retT 2)))))
abbrev zdq:Stmt:=top 33
def zcX:ME:=
 (mC (d2I max2) (zaf (m2 dMul (eVar 0) (eVar 1)) (zaf (m2 dMul (eVar 0) (eVar 2)) aNil)))
def zcK:MO:=
 oLC [] 3 (iZ3 (zaf (eVar 0) (zaf (eVar 1) (zaf (eVar 2) aNil)))) (gT 3 (zav (gN 0) (zav (gN 1) (zav (gN 2) zc2)))) zbV zcX
def zck:MS:=
 (sRet (mC dSum (zaf (eFz zcK) aNil)))
def zbc:List D->Option Sl:=fP 3 zck
theorem zgz (h:FnAt K "greatest_in_row" zdq):FD P w K mg base 1 "greatest_in_row" (spP K 3 zbc):=
 fdP (N:=["counts","least","greatest"]) (k:=0) (m:=zck) X G h fun _ _ _ _ _ _ _ hr nd=>(zak (zay (zkz rfl bn.sum' (zaa (SO.se (zel [] 3 ["count","low","high"] rfl (zi9 bn.zip' (zaa (zab 0) (zaa (zab 1) (zaa (zab 2) zag)))) (fun C s H fp=>(zbG rfl (zan (zal 0 ndk) (zan (zal 1 ndk) (zan (zal 2 ndk) zaY))))) (fun C s H fp=>zaH) (fun C s H fp=>(zjj rfl bn.max' (zaa (za9 (zab 0) (zab 1)) (zaa (za9 (zab 0) (zab 2)) zag)))))) zag))))
abbrev zdi:Stmt:=top 34
def zcz:MS:=
 (zmS 2 (fun i j=>i+j) (zaz zbc (zaf (eVar 3) (zaf (eVar 4) (zaf (eVar 5) aNil)))))
def zcA:MS:=
 sFor (iZ3 (zaf (zoU zb5 (zaf (eVar 0) (zaf (eVar 1) aNil))) (zaf (eIxV 0 (eC (.int 1))) (zaf (eIxV 0 (eC (.int 2))) aNil)))) (gT 3 (zav (gN 3) (zav (gN 4) (zav (gN 5) zc2)))) zcz
def zb4:MS:=
 (sSeq (sSet 2 (eC (.int 0)))
  (sSeq zcA
  (zg5 2)))
def za1:List D->Option Sl:=fP 6 zb4
theorem zgj (zcd:FD P w K mg base 1 "greatest_in_row" (spP K 3 zbc))(zdD:FD P w K mg base 2 "tour_counts" (spP K 2 zb5))(h:FnAt K "greatest_balance" zdi):FD P w K mg base 3 "greatest_balance" (spP K 2 za1):=
 fdP (N:=["floor","cells","balance","counts","least","greatest"]) (k:=2) (m:=zb4) X G h fun _ _ _ _ _ _ _ hr nd=>(zae (zas 2 zah nd)
  (zae (zbI PassesOwn.never rfl (zi9 bn.zip' (zaa (se_callT zdD hr (zaa (zab 0) (zaa (zab 1) zag)) (zac (zac zaj))) (zaa (zai 0 zah) (zaa (zai 0 zah) zag)))) (zbG rfl (zan (zal 3 nd) (zan (zal 4 nd) (zan (zal 5 nd) zaY))))
  (zak (zkE 2 (zam zcd hr (zaa (zab 3) (zaa (zab 4) (zaa (zab 5) zag))) (hlen:=(zac (zac (zac zaj))))) nd)))
  (zak (zdj 2))))
abbrev zgZ:Stmt:=top 35
def zfu:MS:=
 (sRet (eAnd (zaz zfv (zaf (eVar 0) (zaf (eVar 1) aNil))) (m2 dGt (zaz zby (zaf (zaz zaI (zaf (eVar 0) aNil)) (zaf (eVar 1) aNil))) (zaz za1 (zaf (eVar 0) (zaf (eVar 1) aNil))))))
def zdx:List D->Option Sl:=fP 2 zfu
theorem zjT (zbE:FD P w K mg base 2 "balance_of" (spP K 2 zby))(zbZ:FD P w K mg base 3 "greatest_balance" (spP K 2 za1))(zho:FD P w K mg base 2 "is_tour" (spP K 2 zfv))(zaB:FD P w K mg base 2 "plain_numbers" (spP K 1 zaI))(h:FnAt K "tour_right" zgZ):FD P w K mg base 4 "tour_right" (spP K 2 zdx):=
 fdP (N:=["floor","cells"]) (k:=3) (m:=zfu) X G h fun _ _ _ _ _ _ _ hr nd=>(zak (zay (ziY (zam zho hr (zaa (zab 0) (zaa (zab 1) zag)) (hlen:=(zac (zac zaj)))) (ziR (se_gt (zam zbE hr (zaa (zam zaB hr (zaa (zab 0) zag) (hlen:=(zac zaj))) (zaa (zab 1) zag)) (hlen:=(zac (zac zaj)))) (zam zbZ hr (zaa (zab 0) (zaa (zab 1) zag)) (hlen:=(zac (zac zaj)))))))))
abbrev zf5:Stmt:=top 36
def zeA:MS:=
 (sRet (eAnd (m2 dEq (eIxV 1 (eC (.int 0))) (eC (.str "tour"))) (zaz zdx (zaf (eVar 0) (zaf (eIxV 1 (eC (.int 1))) aNil)))))
def zc1:MS:=
 (sSeq (sIf (tTru (m2 dEq (eIxV 1 (eC (.int 0))) (eC (.str "floor"))))
  (sRet (zaz zbl (zaf (eVar 0) (zaf (eIxV 1 (eC (.int 1))) aNil))))
  zcs)
  zeA)
def zaF:List D->Option Sl:=fP 2 zc1
theorem ziv (zbt:FD P w K mg base 3 "floor_holds" (spP K 2 zbl))(zef:FD P w K mg base 4 "tour_right" (spP K 2 zdx))(h:FnAt K "floor_right" zf5):FD P w K mg base 5 "floor_right" (spP K 2 zaF):=
 fdP (N:=["floor","told"]) (k:=4) (m:=zc1) X G h fun _ _ _ _ _ _ _ hr nd=>(zae (zcy (zjo hr.units (zai 1 zah) zh9)
  (zak (zay (zam zbt hr (zaa (zab 0) (zaa (zai 1 zah) zag)) (hlen:=(zac (zac zaj))))))
  zaO)
  (zak (zay (ziY (se_eq hr.units (zai 1 zah) zh9) (ziR (zam zef hr (zaa (zab 0) (zaa (zai 1 zah) zag)) (hlen:=(zac (zac zaj)))))))))
abbrev zhA:Stmt:=top 38
def zgg:MS:=
 (sSeq (sSet 2 (m2 dMod (m2 dAdd (m2 dAdd (m2 dMul (eVar 2) (eC (.int 48271))) (m2 dMul (eC (.int 7919)) (eVar 3))) (eC (.int 12345))) (eC (.int 2147483647))))
  (sSeq (sSet 4 (m2 dMod (m2 dMul (eVar 2) (eVar 2)) (eC (.int 2147483629))))
  (sSet 1 (m2 dAdd (m2 dMul (eVar 1) (eC (.int 4194304))) (m2 dMod (m2 dDiv (eVar 4) (eC (.int 256))) (eC (.int 4194304)))))))
def zge:MS:=
 sFor (iR1 (zaf (eC (.int 28)) aNil)) (gN 3) zgg
def zf2:MS:=
 (sSeq (sSet 1 (eC (.int 0)))
  (sSeq (sSet 2 (m2 dAdd (m2 dMod (eVar 0) (eC (.int 2147483647))) (eC (.int 6113))))
  (sSeq zge
  (zkt (oLst (zaf (eVar 1) aNil))))))
def zgr:MS:=
 (sSeq (sIf (tTru (m2 dGe (eVar 0) (m2 dPow (eC (.int 10)) (eC (.int 18)))))
  (zkt (oLst (zaf (m2 dMod (m2 dSub (eVar 0) (m2 dPow (eC (.int 10)) (eC (.int 18)))) (m2 dMul (m2 dMul (m2 dPow (eC (.int 10)) (eC (.int 64))) (m2 dPow (eC (.int 10)) (eC (.int 64)))) (m2 dPow (eC (.int 10)) (eC (.int 64))))) aNil)))
  zcs)
  zf2)
def zdf:List D->Option Sl:=fP 5 zgr
theorem zj6 (h:FnAt K "_law_deal" zhA):FD P w K mg base 1 "_law_deal" (spP K 1 zdf):=
 fdP (N:=["cell","great","one","k","two"]) (k:=0) (m:=zgr) X G h fun _ _ _ _ _ _ _ hr nd=>(zae (zcy (st_ge (zab 0) (ziV zah zah))
  (zak (zhj (zbh (zaa (zev (zaX (zab 0) (ziV zah zah)) (za9 (za9 (ziV zah zah) (ziV zah zah)) (ziV zah zah))) zag))))
  zaO)
  (zae (zas 1 zah nd)
  (zae (zas 2 (zaD (zev (zab 0) zah) zah) nd)
  (zae (zbI PassesOwn.never rfl (zaW bn.range' (zaa zah zag)) (zal 3 nd)
  (zae (zas 2 (zev (zaD (zaD (za9 (zab 2) zah) (za9 zah (zab 3))) zah) zah) nd)
  (zae (zas 4 (zev (za9 (zab 2) (zab 2)) zah) nd)
  (zak (zas 1 (zaD (za9 (zab 1) zah) (zev (se_div (zab 4) zah) zah)) nd)))))
  (zak (zhj (zbh (zaa (zab 1) zag))))))))
abbrev zhB:Stmt:=top 39
def zgo:MS:=
 (sSeq (sSet 2 (m2 dMod (eIxV 0 (eC (.int 0))) (eVar 1)))
  (sSeq (sPut 0 (eC (.int 0)) (m2 dDiv (eIxV 0 (eC (.int 0))) (eVar 1)))
  (zg5 2)))
def zar:List D->List D->Option (Sl×List D):=fM 3 zgo
theorem zkg (h:FnAt K "_law_take" zhB):FD P w K mg base 1 "_law_take" (spM K 2 zar):=
 fdM (N:=["pot","many","digit"]) (k:=0) (m:=zgo) X G h fun _ _ _ _ _ _ _ hr nd=>(zae (zas 2 (zev (zai 0 zah) (zab 1)) nd)
  (zae (zkf 0 (se_div (zai 0 zah) (zab 1)) zah)
  (zak (zdj 2))))
abbrev zdp:Stmt:=top 40
def zcR:MS:=
 (sSeq (sSet 5 (eFz (oLst (zaf (m2 dIx (eIxV 0 (eVar 2)) (eVar 4)) (zaf (m2 dIx (eIxV 0 (eVar 2)) (m2 dAdd (eVar 4) (eC (.int 1)))) (zaf (m2 dIx (eIxV 0 (m2 dAdd (eVar 2) (eC (.int 1)))) (eVar 4)) (zaf (m2 dIx (eIxV 0 (m2 dAdd (eVar 2) (eC (.int 1)))) (m2 dAdd (eVar 4) (eC (.int 1)))) aNil)))))))
  (sApp 3 (mC dSum (zaf (eVar 5) aNil))))
def zcZ:MS:=
 sFor (iR1 (zaf (m2 dSub (mC dLen (zaf (eIxV 0 (eC (.int 0))) aNil)) (eC (.int 1))) aNil)) (gN 4) zcR
def zcV:MS:=
 (sSeq (zfi 3 (oLst aNil))
  (sSeq zcZ
  (sApp 1 (mC zch (zaf (eVar 3) aNil)))))
def zcW:MS:=
 sFor (iR1 (zaf (m2 dSub (zdm 0) (eC (.int 1))) aNil)) (gN 2) zcV
def zcr:MS:=
 (sSeq (zfi 1 (oLst aNil))
  (sSeq zcW
  (sRet (mC zch (zaf (eVar 1) aNil)))))
def zba:List D->Option Sl:=fP 6 zcr
theorem zgD (h:FnAt K "_law_floor_sums" zdp):FD P w K mg base 1 "_law_floor_sums" (spP K 1 zba):=
 fdP (N:=["numbers","sums","r","line","c","four"]) (k:=0) (m:=zcr) X G h fun _ _ _ _ _ _ _ hr nd=>(zae (zbX 1 (zbh zag) nd)
  (zae (zbI PassesOwn.never rfl (zaW bn.range' (zaa (zaX (zbm 0 bn.len') zah) zag)) (zal 2 nd)
  (zae (zbX 3 (zbh zag) nd)
  (zae (zbI PassesOwn.never rfl (zaW bn.range' (zaa (zaX (zfr bn.len' (zaa (zai 0 zah) zag)) zah) zag)) (zal 4 nd)
  (zae (zas 5 (SO.se (zbh (zaa (zaZ (zai 0 (zab 2)) (zab 4)) (zaa (zaZ (zai 0 (zab 2)) (zaD (zab 4) zah)) (zaa (zaZ (zai 0 (zaD (zab 2) zah)) (zab 4)) (zaa (zaZ (zai 0 (zaD (zab 2) zah)) (zaD (zab 4) zah)) zag)))))) nd)
  (zak (ze4 3 (zkz rfl bn.sum' (zaa (zab 5) zag))))))
  (zak (ze4 1 (zb3 bn.tuple' (zaa (zab 3) zag)))))))
  (zak (zay (zb3 bn.tuple' (zaa (zab 1) zag))))))
abbrev zg2:Stmt:=top 41
def zfK:ME:=
 (mC zch (zaf (eVar 0) aNil))
def ze1:MO:=
 oLC [] 1 (iSeq (eVar 0)) (gN 0) zbV zfK
def zfw:MS:=
 (sRet (mC zch (zaf (eFz ze1) aNil)))
def za4:List D->Option Sl:=fP 1 zfw
theorem zjk (h:FnAt K "_law_fixed" zg2):FD P w K mg base 1 "_law_fixed" (spP K 1 za4):=
 fdP (N:=["table"]) (k:=0) (m:=zfw) X G h fun _ _ _ _ _ _ _ hr nd=>(zak (zay (zb3 bn.tuple' (zaa (SO.se (zel [] 1 ["row"] rfl (zbr (zab 0)) (fun C s H fp=>(zal 0 ndk)) (fun C s H fp=>zaH) (fun C s H fp=>(zb3 bn.tuple' (zaa (zab 0) zag))))) zag))))
abbrev zdt:Stmt:=top 43
def zcN:MO:=
 (oC zaL (zaf (eVar 0) aNil))
def zcP:ME:=
 (m2 dAdd (eVar 1) (eVar 0))
def zcY:MO:=
 oLC [0] 1 (iSeq (eVar 1)) (gN 1) zbV zcP
def zcO:MO:=
 zcY
def zbP:MS:=
 (sFzT 6 (sFzT 4 (sFzT 5 (sRet (eTup (zaf (zaz za4 (zaf (eVar 6) aNil)) (zaf (zaz za4 (zaf (eVar 4) aNil)) (zaf (zaz za4 (zaf (eVar 5) aNil)) aNil))))))))
def zbL:MS:=
 (sSeq (sIf (tTru (m2 dEq (eVar 7) (eC (.int 6))))
  (sFzT 6 (sTC 6 [10] 1 (iSeq (eVar 6)) (gN 1) zbV zcO))
  zcs)
  zbP)
def zbO:MS:=
 (sSeq (sIf (tTru (m2 dEq (eVar 7) (eC (.int 5))))
  (sSeq (sTP 4 (qV 8) (qV 9) (m2 dAdd (eTI 4 (qV 8) (qV 9)) (eVar 10)))
  (sSeq (sTP 5 (qV 8) (qV 9) (m2 dAdd (eTI 5 (qV 8) (qV 9)) (eVar 10)))
  (sTP 4 (qV 8) (qV 9) (mC (d2I min2) (zaf (eTI 4 (qV 8) (qV 9)) (zaf (eTI 5 (qV 8) (qV 9)) aNil))))))
  zcs)
  zbL)
def zbK:MS:=
 (sSeq (sIf (tTru (m2 dEq (eVar 7) (eC (.int 4))))
  (sSeq (sTP 5 (qV 8) (qV 9) (m2 dSub (eTI 5 (qV 8) (qV 9)) (eVar 10)))
  (sTP 4 (qV 8) (qV 9) (mC (d2I min2) (zaf (eTI 4 (qV 8) (qV 9)) (zaf (eTI 5 (qV 8) (qV 9)) aNil)))))
  zcs)
  zbO)
def zbN:MS:=
 (sSeq (sIf (tTru (m2 dEq (eVar 7) (eC (.int 3))))
  (sSeq (sTP 4 (qV 8) (qV 9) (m2 dAdd (eTI 4 (qV 8) (qV 9)) (eVar 10)))
  (sTP 5 (qV 8) (qV 9) (mC (d2I max2) (zaf (eTI 5 (qV 8) (qV 9)) (zaf (eTI 4 (qV 8) (qV 9)) aNil)))))
  zcs)
  zbK)
def zcm:MS:=
 (sSeq (sUnT 1 [3, 4, 5])
  (sSeq (sTC 6 [] 1 (iSeq (zaz zba (zaf (eVar 3) aNil))) (gN 0) zbV zcN)
  (sSeq (sSet 7 (zbx zar 0 (zaf (eC (.int 8)) aNil)))
  (sSeq (sSet 8 (zbx zar 0 (zaf (zdm 3) aNil)))
  (sSeq (sSet 9 (zbx zar 0 (zaf (mC dLen (zaf (eIxV 3 (eC (.int 0))) aNil)) aNil)))
  (sSeq (sSet 10 (m2 dMul (m2 dSub (zbx zar 0 (zaf (eC (.int 9)) aNil)) (eC (.int 4))) (m2 dIx (eTup (zaf (eC (.int 1)) (zaf (eVar 2) aNil))) (zbx zar 0 (zaf (eC (.int 2)) aNil)))))
  (sSeq (sIf (tTru (m2 dIn (eVar 7) (eTup (zaf (eC (.int 1)) (zaf (eC (.int 2)) aNil)))))
  (sTG 6 (qMod (qV 8) (qLT 6)) (qMod (qV 9) (qLR 6 0)) (qV 10))
  zcs)
  zbN)))))))
def zbe:List D->T->List D->Option (Sl×List D):=fMT 11 zcm
theorem zg9 (za3:FD P w K mg base 1 "_law_fixed" (spP K 1 za4))(zb7:FD P w K mg base 1 "_law_floor_sums" (spP K 1 zba))(zao:FD P w K mg base 1 "_law_take" (spM K 2 zar))(h:FnAt K "_law_bent_floor" zdt):FD P w K mg base 2 "_law_bent_floor" (spMT K 3 zbe):=
 fdMT (N:=["pot","parts","by","numbers","least","greatest","sums","way","r","c","more"]) (k:=1) (m:=zcm) X G h fun _ _ _ _ _ _ _ hr nd=>(zae (ss_unT 1 [3,4,5] rfl nd ⟨rfl,by first|exact Or.inl rfl|exact Or.inr rfl,by first|exact Or.inl rfl|exact Or.inr rfl,rfl,by first|exact Or.inl rfl|exact Or.inr rfl,by first|exact Or.inl rfl|exact Or.inr rfl,rfl,by first|exact Or.inl rfl|exact Or.inr rfl,by first|exact Or.inl rfl|exact Or.inr rfl,trivial⟩)
  (zae (zec 6 [] 1 ["row"] rfl (zbr (zam zb7 hr (zaa (zab 3) zag) (hlen := (zac zaj)))) (fun C s H fp => (zal 0 ndk)) (fun C s H fp => zaH) (fun C s H fp => (zkX bn.list' (zaa (zab 0) zag))) nd)
  (zae (zas 7 (zaN 0 zao hr (zaa zah zag) (zd6 (zac zaj))) nd)
  (zae (zas 8 (zaN 0 zao hr (zaa (zbm 3 bn.len') zag) (zd6 (zac zaj))) nd)
  (zae (zas 9 (zaN 0 zao hr (zaa (zfr bn.len' (zaa (zai 3 zah) zag)) zag) (zd6 (zac zaj))) nd)
  (zae (zas 10 (za9 (zaX (zaN 0 zao hr (zaa zah zag) (zd6 (zac zaj))) zah) (zaZ (zbH (zaa zah (zaa (zab 2) zag))) (zaN 0 zao hr (zaa zah zag) (zd6 (zac zaj))))) nd)
  (zae (zcy (st_in (zab 7) (zbH (zaa zah (zaa zah zag))))
  (zak (ss_tAug 6 (sq_mod (zax 8) (sq_lenT 6 bn.len')) (sq_mod (zax 9) (sq_lenR 6 0 bn.len')) (zax 10)))
  zaO)
  (zae (zcy (zjo hr.units (zab 7) zah)
  (zae (zed 4 (zaD (zeG 4 (zax 8) (zax 9)) (zab 10)) (zax 8) (zax 9))
  (zak (zed 5 (zjj rfl bn.max' (zaa (zeG 5 (zax 8) (zax 9)) (zaa (zeG 4 (zax 8) (zax 9)) zag))) (zax 8) (zax 9))))
  zaO)
  (zae (zcy (zjo hr.units (zab 7) zah)
  (zae (zed 5 (zaX (zeG 5 (zax 8) (zax 9)) (zab 10)) (zax 8) (zax 9))
  (zak (zed 4 (zlf rfl bn.min' (zaa (zeG 4 (zax 8) (zax 9)) (zaa (zeG 5 (zax 8) (zax 9)) zag))) (zax 8) (zax 9))))
  zaO)
  (zae (zcy (zjo hr.units (zab 7) zah)
  (zae (zed 4 (zaD (zeG 4 (zax 8) (zax 9)) (zab 10)) (zax 8) (zax 9))
  (zae (zed 5 (zaD (zeG 5 (zax 8) (zax 9)) (zab 10)) (zax 8) (zax 9))
  (zak (zed 4 (zlf rfl bn.min' (zaa (zeG 4 (zax 8) (zax 9)) (zaa (zeG 5 (zax 8) (zax 9)) zag))) (zax 8) (zax 9)))))
  zaO)
  (zae (zcy (zjo hr.units (zab 7) zah)
  (zak (zlK 6 (zec 6 [10] 1 ["more","row"] rfl (zbr (zab 6)) (fun C s H fp=>(zal 1 ndk)) (fun C s H fp=>zaH) (fun C s H fp=>(zel [0] 1 ["more","total"] rfl (zbr (zab 1)) (fun C s H fp=>(zal 1 ndk)) (fun C s H fp=>zaH) (fun C s H fp=>(zaD (zab 1) (zab 0))))) nd)))
  zaO)
  (zak (zlK 6 (zlK 4 (zlK 5 (zay (zbH (zaa (zam za3 hr (zaa (zab 6) zag) (hlen:=(zac zaj))) (zaa (zam za3 hr (zaa (zab 4) zag) (hlen:=(zac zaj))) (zaa (zam za3 hr (zaa (zab 5) zag) (hlen:=(zac zaj))) zag))))))))))))))))))))
abbrev zgH:Stmt:=top 42
def zfb:ME:=
 (m2 dMul (m2 dSub (zbx zar 0 (zaf (eC (.int 11)) aNil)) (eC (.int 5))) (eVar 1))
def zeN:MO:=
 oLCM [0,4] 1 0 0 (iR1 (zaf (eVar 3) aNil)) (gN 2) zbV zfb
def zfs:ME:=
 (m2 dSub (eVar 3) (m2 dMul (zbx zar 0 (zaf (eVar 1) aNil)) (eVar 2)))
def zft:MO:=
 oLCM [0,5,4] 1 0 0 (iSeq (eIxV 6 (eVar 9))) (gN 3) zbV zfs
def zfl:ME:=
 (m2 dAdd (eVar 3) (m2 dMul (zbx zar 0 (zaf (eVar 1) aNil)) (eVar 2)))
def zfB:MO:=
 oLCM [0,5,4] 1 0 0 (iSeq (eIxV 6 (eVar 9))) (gN 3) zbV zfl
def zfp:MS:=
 (sSeq (sApp 6 (eFz zeN))
  (sSeq (sTAo 7 zft)
  (sTAo 8 zfB)))
def zeQ:MS:=
 sFor (iR1 (zaf (eVar 2) aNil)) (gN 9) zfp
def ze6:MS:=
 (sSeq (sSet 2 (m2 dAdd (eC (.int 2)) (zbx zar 0 (zaf (m2 dSub (eVar 1) (eC (.int 1))) aNil))))
  (sSeq (sSet 3 (m2 dAdd (eC (.int 2)) (zbx zar 0 (zaf (m2 dSub (eVar 1) (eC (.int 1))) aNil))))
  (sSeq (sSet 4 (m2 dIx (eTup (zaf (eC (.int 1)) (zaf (eC (.int 1)) (zaf (eC (.int 1)) (zaf (m2 dPow (eC (.int 10)) (eC (.int 58))) aNil))))) (zbx zar 0 (zaf (eC (.int 4)) aNil))))
  (sSeq (sSet 5 (m2 dIx (eTup (zaf (eC (.int 1)) (zaf (eC (.int 1)) (zaf (eC (.int 2)) (zaf (eC (.int 5)) aNil))))) (zbx zar 0 (zaf (eC (.int 4)) aNil))))
  (sSeq (zfi 6 (oLst aNil))
  (sSeq (sTN 7)
  (sSeq (sTN 8)
  (sSeq zeQ
  (sRet (zjp zbe 0 (cOwn 6 (cTab 7 (cTab 8 cNil))) (zaf (eVar 4) aNil)))))))))))
def zcw:List D->List D->Option (Sl×List D):=fM 10 ze6
theorem zi6 (zb2:FD P w K mg base 2 "_law_bent_floor" (spMT K 3 zbe))(zao:FD P w K mg base 1 "_law_take" (spM K 2 zar))(h:FnAt K "_law_floor" zgH):FD P w K mg base 3 "_law_floor" (spM K 2 zcw):=
 fdM (N:=["pot","most","rows","columns","by","wide","numbers","least","greatest","r"]) (k:=2) (m:=ze6) X G h fun _ _ _ _ _ _ _ hr nd=>(zae (zas 2 (zaD zah (zaN 0 zao hr (zaa (zaX (zab 1) zah) zag) (zd6 (zac zaj)))) nd)
  (zae (zas 3 (zaD zah (zaN 0 zao hr (zaa (zaX (zab 1) zah) zag) (zd6 (zac zaj)))) nd)
  (zae (zas 4 (zaZ (zbH (zaa zah (zaa zah (zaa zah (zaa (ziV zah zah) zag))))) (zaN 0 zao hr (zaa zah zag) (zd6 (zac zaj)))) nd)
  (zae (zas 5 (zaZ (zbH (zaa zah (zaa zah (zaa zah (zaa zah zag))))) (zaN 0 zao hr (zaa zah zag) (zd6 (zac zaj)))) nd)
  (zae (zbX 6 (zbh zag) nd)
  (zae (zoD 7 nd)
  (zae (zoD 8 nd)
  (zae (zbI PassesOwn.never rfl (zaW bn.range' (zaa (zab 2) zag)) (zal 9 nd)
  (zae (ze4 6 (SO.se (zl1 [0, 4] 1 0 0 ["pot", "by", "c"] rfl (zaW bn.range' (zaa (zab 3) zag)) (fun C s H fp => (zal 2 ndk)) (fun C s H fp => zaH) (fun C s H fp => (za9 (zaX (zaN 0 zao hr (zaa zah zag) (zd6 (zac zaj))) zah) (zab 1))))))
  (zae (zlG 7 (zl1 [0, 5, 4] 1 0 0 ["pot", "wide", "by", "number"] rfl (zbr (zai 6 (zab 9))) (fun C s H fp => (zal 3 ndk)) (fun C s H fp => zaH) (fun C s H fp => (zaX (zab 3) (za9 (zaN 0 zao hr (zaa (zab 1) zag) (zd6 (zac zaj))) (zab 2))))))
  (zak (zlG 8 (zl1 [0,5,4] 1 0 0 ["pot","wide","by","number"] rfl (zbr (zai 6 (zab 9))) (fun C s H fp=>(zal 3 ndk)) (fun C s H fp=>zaH) (fun C s H fp=>(zaD (zab 3) (za9 (zaN 0 zao hr (zaa (zab 1) zag) (zd6 (zac zaj))) (zab 2))))))))))
  (zak (zay (znK 0 zb2 hr (sc_own 6 (sc_tab 7 (sc_tab 8 sc_nil))) (zaa (zab 4) zag) (aLen2 (zac zaj)))))))))))))
abbrev zhy:Stmt:=top 44
def zgp:MS:=
 (sRet (m2 dIx (eTup (zaf (eC (.int 1)) (zaf (m1 dNeg (eC (.int 1))) aNil))) (m2 dMod (m2 dAdd (eVar 0) (eVar 1)) (eC (.int 2)))))
def zbk:List D->Option Sl:=fP 2 zgp
theorem zkm (h:FnAt K "_law_sign" zhy):FD P w K mg base 1 "_law_sign" (spP K 2 zbk):=
 fdP (N:=["r","c"]) (k:=0) (m:=zgp) X G h fun _ _ _ _ _ _ _ hr nd=>(zak (zay (zaZ (zbH (zaa zah (zaa (zeI zah) zag))) (zev (zaD (zab 0) (zab 1)) zah))))
abbrev zgC:Stmt:=top 45
def zfc:MS:=
 (sSeq (sSet 9 (eCut (eIxV 4 (m1 dNeg (eC (.int 1)))) (zfZ (eVar 7)) (zfZ (m2 dAdd (eVar 7) (eC (.int 2))))))
  (sApp 6 (m2 dSub (m2 dSub (eVar 8) (mC dSum (zaf (eVar 9) aNil))) (eIxV 6 (eVar 7)))))
def zfM:MS:=
 sFor (iEn (zaf (eVar 5) aNil)) (gT 2 (zav (gN 7) (zav (gN 8) zc2))) zfc
def zeR:MS:=
 (sSeq (zfi 6 (oLst (zaf (eC (.int 0)) aNil)))
  (sSeq zfM
  (sApp 4 (eVar 6))))
def zeV:MS:=
 sFor (iSeq (eVar 1)) (gN 5) zeR
def zfF:MS:=
 (sSeq (sAsg (eVar 0) (gT 3 (zav (gN 1) (zav (gN 2) (zav (gN 3) zc2)))))
  (sSeq (zfi 4 (oLst (zaf (m2 dMul (eFz (oLst (zaf (eC (.int 0)) aNil))) (mC dLen (zaf (eIxV 2 (eC (.int 0))) aNil))) aNil)))
  (sSeq zeV
  (zg5 4))))
def zbA:List D->Option Sl:=fP 10 zfF
theorem zjP (h:FnAt K "_law_plain" zgC):FD P w K mg base 1 "_law_plain" (spP K 1 zbA):=
 fdP (N:=["floor","sums","least","greatest","numbers","row","line","c","total","ahead"]) (k:=0) (m:=zfF) X G h fun _ _ _ _ _ _ _ hr nd=>(zae (zl5 (zab 0) (zbG rfl (zan (zal 1 nd) (zan (zal 2 nd) (zan (zal 3 nd) zaY)))))
  (zae (zbX 4 (zbh (zaa (za9 (SO.se (zbh (zaa zah zag))) (zfr bn.len' (zaa (zai 2 zah) zag))) zag)) nd)
  (zae (zbI PassesOwn.never rfl (zbr (zab 1)) (zal 5 nd)
  (zae (zbX 6 (zbh (zaa zah zag)) nd)
  (zae (zbI PassesOwn.never rfl (zbj bn.enumerate' (zaa (zab 5) zag)) (zbG rfl (zan (zal 7 nd) (zan (zal 8 nd) zaY)))
  (zae (zas 9 (zeO (zai 4 (zeI zah)) (zb6 (zab 7)) (zb6 (zaD (zab 7) zah))) nd)
  (zak (ze4 6 (zaX (zaX (zab 8) (zkz rfl bn.sum' (zaa (zab 9) zag))) (zai 6 (zab 7)))))))
  (zak (ze4 4 (zab 6))))))
  (zak (zdj 4)))))
abbrev zfJ:Stmt:=top 46
def zdT:MS:=
 (sSeq (sAsg (eVar 4) (gT 2 (zav (gN 5) (zav (gN 6) zc2))))
  (sSet 2 (m2 dAdd (eVar 2) (m2 dMul (m2 dMul (zaz zbk (zaf (eVar 5) (zaf (eVar 6) aNil))) (zaz zbk (zaf (eVar 3) (zaf (eC (.int 0)) aNil)))) (m2 dIx (eIxV 0 (eVar 5)) (eVar 6))))))
def zd3:MS:=
 sFor (iEn (zaf (eVar 1) aNil)) (gT 2 (zav (gN 3) (zav (gN 4) zc2))) zdT
def zdI:MS:=
 (sSeq (sSet 2 (eC (.int 0)))
  (sSeq zd3
  (zg5 2)))
def zbS:List D->Option Sl:=fP 7 zdI
theorem zii (zbg:FD P w K mg base 1 "_law_sign" (spP K 2 zbk))(h:FnAt K "_law_balance" zfJ):FD P w K mg base 2 "_law_balance" (spP K 2 zbS):=
 fdP (N:=["numbers","cells","found","at","cell","r","c"]) (k:=1) (m:=zdI) X G h fun _ _ _ _ _ _ _ hr nd=>(zae (zas 2 zah nd)
  (zae (zbI PassesOwn.never rfl (zbj bn.enumerate' (zaa (zab 1) zag)) (zbG rfl (zan (zal 3 nd) (zan (zal 4 nd) zaY)))
  (zae (zl5 (zab 4) (zbG rfl (zan (zal 5 nd) (zan (zal 6 nd) zaY))))
  (zak (zas 2 (zaD (zab 2) (za9 (za9 (zam zbg hr (zaa (zab 5) (zaa (zab 6) zag)) (hlen:=(zac (zac zaj)))) (zam zbg hr (zaa (zab 3) (zaa zah zag)) (hlen:=(zac (zac zaj))))) (zaZ (zai 0 (zab 5)) (zab 6)))) nd))))
  (zak (zdj 2))))
abbrev zgE:Stmt:=top 50
def zfj:MS:=
 (sSeq (sSet 4 (mC zch (zaf (eVar 3) aNil)))
  (sDPT 1 (eVar 4) (m2 dAdd (eDGT2 1 0 (eVar 4)) (m2 dMul (zaz zbk (zaf (eIxV 4 (eC (.int 0))) (zaf (eIxV 4 (eC (.int 1))) aNil))) (zaz zbk (zaf (eVar 2) (zaf (eC (.int 0)) aNil)))))))
def zfx:MS:=
 sFor (iEn (zaf (eVar 0) aNil)) (gT 2 (zav (gN 2) (zav (gN 3) zc2))) zfj
def zfE:MS:=
 (sSeq (sDNT 1)
  (sSeq zfx
  (sRet (eKn 1))))
def zbw:List D->Option Sl:=fP 5 zfE
theorem zi5 (zbg:FD P w K mg base 1 "_law_sign" (spP K 2 zbk))(h:FnAt K "_law_often" zgE):FD P w K mg base 2 "_law_often" (spP K 1 zbw):=
 fdP (N:=["cells","often","at","cell","pair"]) (k:=1) (m:=zfE) X G h fun _ _ _ _ _ _ _ hr nd=>(zae (ss_dNewT 1 nd)
  (zae (zbI PassesOwn.never rfl (zbj bn.enumerate' (zaa (zab 0) zag)) (zbG rfl (zan (zal 2 nd) (zan (zal 3 nd) zaY)))
  (zae (zas 4 (zb3 bn.tuple' (zaa (zab 3) zag)) nd)
  (zak (ss_dPutT 1 hr.units (zaD (znO 1 hr.units (zab 4) ⟨rfl,rfl,rfl,rfl⟩) (za9 (zam zbg hr (zaa (zai 4 zah) (zaa (zai 4 zah) zag)) (hlen:=(zac (zac zaj)))) (zam zbg hr (zaa (zab 2) (zaa zah zag)) (hlen:=(zac (zac zaj)))))) (zab 4)))))
  (zak (zay (se_know 1)))))
abbrev zc0:Stmt:=top 47
def zci:MS:=
 (sSet 6 (m2 dAdd (eVar 6) (mC (d2I max2) (zaf (m2 dMul (eDGT 5 (eTup (zaf (eVar 7) (zaf (eVar 8) aNil)))) (m2 dIx (eIxV 3 (eVar 7)) (eVar 8))) (zaf (m2 dMul (eDGT 5 (eTup (zaf (eVar 7) (zaf (eVar 8) aNil)))) (m2 dIx (eIxV 4 (eVar 7)) (eVar 8))) aNil)))))
def zce:MS:=
 sFor (iDKT 5) (gT 2 (zav (gN 7) (zav (gN 8) zc2))) zci
def zbY:MS:=
 (sSeq (sAsg (eVar 0) (gT 3 (zav (gN 2) (zav (gN 3) (zav (gN 4) zc2)))))
  (sSeq (sSet 5 (zaz zbw (zaf (eVar 1) aNil)))
  (sSeq (sSet 6 (eC (.int 0)))
  (sSeq zce
  (zg5 6)))))
def zaC:List D->Option Sl:=fP 9 zbY
theorem zfY (zbB:FD P w K mg base 2 "_law_often" (spP K 1 zbw))(h:FnAt K "_law_most_balance" zc0):FD P w K mg base 3 "_law_most_balance" (spP K 2 zaC):=
 fdP (N:=["floor","cells","sums","least","greatest","often","found","r","c"]) (k:=2) (m:=zbY) X G h fun _ _ _ _ _ _ _ hr nd=>(zae (zl5 (zab 0) (zbG rfl (zan (zal 2 nd) (zan (zal 3 nd) (zan (zal 4 nd) zaY)))))
  (zae (zas 5 (zam zbB hr (zaa (zab 1) zag) (hlen := (zac zaj))) nd)
  (zae (zas 6 zah nd)
  (zae (zbI PassesOwn.never rfl (it_dictT 5) (zbG rfl (zan (zal 7 nd) (zan (zal 8 nd) zaY)))
  (zak (zas 6 (zaD (zab 6) (zjj rfl bn.max' (zaa (za9 (zjB 5 hr.units (zbH (zaa (zab 7) (zaa (zab 8) zag)))) (zaZ (zai 3 (zab 7)) (zab 8))) (zaa (za9 (zjB 5 hr.units (zbH (zaa (zab 7) (zaa (zab 8) zag)))) (zaZ (zai 4 (zab 7)) (zab 8))) zag)))) nd)))
  (zak (zdj 6))))))
abbrev zga:Stmt:=top 48
def zeL:MS:=
 (sApp 3 (m2 dMod (m2 dAdd (m2 dAdd (eIxV 3 (m1 dNeg (eC (.int 1)))) (eC (.int 1))) (zbx zar 0 (zaf (m2 dSub (eVar 2) (eC (.int 1))) aNil))) (eVar 2)))
def zcF:MS:=
 sFor (iR1 (zaf (m2 dSub (eVar 1) (eC (.int 1))) aNil)) (gN 4) zeL
def zeK:ME:=
 (eVar 1)
def zeD:MT:=
 (tTru (m2 zlQ (eVar 1) (eTup (zaf (eIxV 0 (eC (.int 0))) (zaf (eIxV 0 (m1 dNeg (eC (.int 2)))) aNil)))))
def zcH:MO:=
 oLCM [3] 1 0 3 (iR1 (zaf (eVar 2) aNil)) (gN 1) zeD zeK
def zcI:MS:=
 (zg5 3)
def zeq:MS:=
 (sSeq (zfi 3 (oLst (zaf (zbx zar 0 (zaf (eVar 2) aNil)) aNil)))
  (sSeq zcF
  (sSeq (sIf (tTru (m2 dEq (eIxV 3 (m1 dNeg (eC (.int 1)))) (eIxV 3 (eC (.int 0)))))
  (sPut 3 (m1 dNeg (eC (.int 1))) (mC dMinL (zaf (eFz zcH) aNil)))
  zcs)
  zcI)))
def zbF:List D->List D->Option (Sl×List D):=fM 5 zeq
theorem ziA (zao:FD P w K mg base 1 "_law_take" (spM K 2 zar))(h:FnAt K "_law_unlike" zga):FD P w K mg base 2 "_law_unlike" (spM K 3 zbF):=
 fdM (N:=["pot","size","below","numbers","turn"]) (k:=1) (m:=zeq) X G h fun _ _ _ _ _ _ _ hr nd=>(zae (zbX 3 (zbh (zaa (zaN 0 zao hr (zaa (zab 2) zag) (zd6 (zac zaj))) zag)) nd)
  (zae (zbI PassesOwn.never rfl (zaW bn.range' (zaa (zaX (zab 1) zah) zag)) (zal 4 nd)
  (zak (ze4 3 (zev (zaD (zaD (zai 3 (zeI zah)) zah) (zaN 0 zao hr (zaa (zaX (zab 2) zah) zag) (zd6 (zac zaj)))) (zab 2)))))
  (zae (zcy (zjo hr.units (zai 3 (zeI zah)) (zai 3 zah))
  (zak (zkf 3 (se_minL rfl bn.min' (zaa (SO.se (zl1 [3] 1 0 3 ["numbers","one"] rfl (zaW bn.range' (zaa (zab 2) zag)) (fun C s H fp=>(zal 1 ndk)) (fun C s H fp=>(zon (st_notIn (zab 1) (zbH (zaa (zai 0 zah) (zaa (zai 0 (zeI zah)) zag)))))) (fun C s H fp=>(zab 1)))) zag)) (zeI zah)))
  zaO)
  (zak (zdj 3)))))
abbrev zhH:Stmt:=top 49
def zgh:MS:=
 (sSeq (sApp 6 (eTup (zaf (eIxV 4 (eVar 7)) (zaf (eIxV 5 (eVar 7)) aNil))))
  (sApp 6 (eTup (zaf (eIxV 4 (m2 dMod (m2 dAdd (eVar 7) (eC (.int 1))) (eVar 3))) (zaf (eIxV 5 (eVar 7)) aNil)))))
def zf1:MS:=
 sFor (iR1 (zaf (eVar 3) aNil)) (gN 7) zgh
def zgl:MS:=
 (sSeq (sSet 3 (m2 dMul (eC (.int 2)) (m2 dAdd (eC (.int 1)) (zbx zar 0 (zaf (eC (.int 3)) aNil)))))
  (sSeq (sSet 4 (zbx zbF 0 (zaf (eVar 3) (zaf (eVar 1) aNil))))
  (sSeq (sSet 5 (zbx zbF 0 (zaf (eVar 3) (zaf (eVar 2) aNil))))
  (sSeq (zfi 6 (oLst aNil))
  (sSeq zf1
  (zg5 6))))))
def zdg:List D->List D->Option (Sl×List D):=fM 8 zgl
theorem zjU (zao:FD P w K mg base 1 "_law_take" (spM K 2 zar))(zct:FD P w K mg base 2 "_law_unlike" (spM K 3 zbF))(h:FnAt K "_law_tour" zhH):FD P w K mg base 3 "_law_tour" (spM K 3 zdg):=
 fdM (N:=["pot","rows","columns","size","ones","others","cells","at"]) (k:=2) (m:=zgl) X G h fun _ _ _ _ _ _ _ hr nd=>(zae (zas 3 (za9 zah (zaD zah (zaN 0 zao hr (zaa zah zag) (zd6 (zac zaj))))) nd)
  (zae (zas 4 (zaN 0 zct hr (zaa (zab 3) (zaa (zab 1) zag)) (zd6 (zac (zac zaj)))) nd)
  (zae (zas 5 (zaN 0 zct hr (zaa (zab 3) (zaa (zab 2) zag)) (zd6 (zac (zac zaj)))) nd)
  (zae (zbX 6 (zbh zag) nd)
  (zae (zbI PassesOwn.never rfl (zaW bn.range' (zaa (zab 3) zag)) (zal 7 nd)
  (zae (ze4 6 (zbH (zaa (zai 4 (zab 7)) (zaa (zai 5 (zab 7)) zag))))
  (zak (ze4 6 (zbH (zaa (zai 4 (zev (zaD (zab 7) zah) (zab 3))) (zaa (zai 5 (zab 7)) zag)))))))
  (zak (zdj 6)))))))
abbrev zgY:Stmt:=top 51
def zfd:ME:=
 (m2 dSub (eVar 1) (eVar 0))
def zfR:MO:=
 oLC [0] 1 (iSeq (eVar 1)) (gN 1) zbV zfd
def zfh:MO:=
 zfR
def zeS:ME:=
 (m2 dAdd (eVar 1) (eVar 0))
def zfe:MO:=
 oLC [0] 1 (iSeq (eVar 1)) (gN 1) zbV zeS
def zfH:MO:=
 zfe
def zfQ:MS:=
 (sSeq (sTC 2 [1] 1 (iSeq (eIxV 0 (eC (.int 1)))) (gN 1) zbV zfh)
  (sSeq (sTC 3 [1] 1 (iSeq (eIxV 0 (eC (.int 2)))) (gN 1) zbV zfH)
  (sRet (eLk2 2 3 (zaz za0 (zaf (eIxV 0 (eC (.int 0))) (zaf (eVar 2) (zaf (eVar 3) aNil))))))))
def zcD:List D->Option Sl:=fP 4 zfQ
theorem zja (zaR:FD P w K mg base 4 "made_floor" (spP K 3 za0))(h:FnAt K "_law_wider" zgY):FD P w K mg base 5 "_law_wider" (spP K 2 zcD):=
 fdP (N:=["floor","by","least","greatest"]) (k:=4) (m:=zfQ) X G h fun _ _ _ _ _ _ _ hr nd=>(zae (zec 2 [1] 1 ["by","row"] rfl (zbr (zai 0 zah)) (fun C s H fp=>(zal 1 ndk)) (fun C s H fp=>zaH) (fun C s H fp=>(zel [0] 1 ["by","bound"] rfl (zbr (zab 1)) (fun C s H fp=>(zal 1 ndk)) (fun C s H fp=>zaH) (fun C s H fp=>(zaX (zab 1) (zab 0))))) nd)
  (zae (zec 3 [1] 1 ["by", "row"] rfl (zbr (zai 0 zah)) (fun C s H fp => (zal 1 ndk)) (fun C s H fp => zaH) (fun C s H fp => (zel [0] 1 ["by", "bound"] rfl (zbr (zab 1)) (fun C s H fp => (zal 1 ndk)) (fun C s H fp => zaH) (fun C s H fp => (zaD (zab 1) (zab 0))))) nd)
  (zak (zay (zlm 2 3 (by decide) (zam zaR hr (zaa (zai 0 zah) (zaa (zab 2) (zaa (zab 3) zag))) (hlen:=(zac (zac (zac zaj))))))))))
abbrev zfN:Stmt:=top 52
def zdQ:ME:=
 (eVar 1)
def zdR:MT:=
 (tTru (m2 dNe (eDGT 0 (eVar 1)) (eC (.int 0))))
def zdY:MO:=
 oLC [3] 1 (iSeq (eFz (oSrtT 3))) (gN 1) zdR zdQ
def zdZ:MO:=
 (oC zaL (zaf (eVar 0) aNil))
def zdO:MO:=
 (oC zaL (zaf (eVar 0) aNil))
def zdN:MS:=
 (sSeq (sSet 2 (m2 dSub (zaz zbS (zaf (zaz zbA (zaf (eVar 0) aNil)) (zaf (eVar 1) aNil))) (zaz zaC (zaf (eVar 0) (zaf (eVar 1) aNil)))))
  (sSeq (sSet 3 (zaz zbw (zaf (eVar 1) aNil)))
  (sSeq (sAsg (m2 dIx (eFz zdY) (eC (.int 0))) (gT 2 (zav (gN 4) (zav (gN 5) zc2))))
  (sSeq (sTC 6 [] 1 (iSeq (eIxV 0 (eC (.int 1)))) (gN 0) zbV zdZ)
  (sSeq (sTC 7 [] 1 (iSeq (eIxV 0 (eC (.int 2)))) (gN 0) zbV zdO)
  (sSeq (sTP 6 (qV 4) (qV 5) (m2 dSub (eTI 6 (qV 4) (qV 5)) (eVar 2)))
  (sSeq (sTP 7 (qV 4) (qV 5) (m2 dAdd (eTI 7 (qV 4) (qV 5)) (eVar 2)))
  (sRet (eLk2 6 7 (zaz za0 (zaf (eIxV 0 (eC (.int 0))) (zaf (eVar 6) (zaf (eVar 7) aNil)))))))))))))
def zbQ:List D->Option Sl:=fP 8 zdN
theorem zh4 (zde:FD P w K mg base 2 "_law_balance" (spP K 2 zbS))(zaJ:FD P w K mg base 3 "_law_most_balance" (spP K 2 zaC))(zbB:FD P w K mg base 2 "_law_often" (spP K 1 zbw))(zbD:FD P w K mg base 1 "_law_plain" (spP K 1 zbA))(zaR:FD P w K mg base 4 "made_floor" (spP K 3 za0))(h:FnAt K "_law_roomier" zfN):FD P w K mg base 5 "_law_roomier" (spP K 2 zbQ):=
 fdP (N:=["floor","cells","lack","often","r","c","least","greatest"]) (k:=4) (m:=zdN) X G h fun _ _ _ _ _ _ _ hr nd=>(zae (zas 2 (zaX (zam zde hr (zaa (zam zbD hr (zaa (zab 0) zag) (hlen:=(zac zaj))) (zaa (zab 1) zag)) (hlen:=(zac (zac zaj)))) (zam zaJ hr (zaa (zab 0) (zaa (zab 1) zag)) (hlen:=(zac (zac zaj))))) nd)
  (zae (zas 3 (zam zbB hr (zaa (zab 1) zag) (hlen := (zac zaj))) nd)
  (zae (zl5 (zaZ (SO.se (zel [3] 1 ["often", "cell"] rfl (zbr (SO.se (zmq rfl bn.sorted' 3))) (fun C s H fp => (zal 1 ndk)) (fun C s H fp => (zon (zjh hr.units (zjB 0 hr.units (zab 1)) zah))) (fun C s H fp => (zab 1)))) zah) (zbG rfl (zan (zal 4 nd) (zan (zal 5 nd) zaY))))
  (zae (zec 6 [] 1 ["row"] rfl (zbr (zai 0 zah)) (fun C s H fp => (zal 0 ndk)) (fun C s H fp => zaH) (fun C s H fp => (zkX bn.list' (zaa (zab 0) zag))) nd)
  (zae (zec 7 [] 1 ["row"] rfl (zbr (zai 0 zah)) (fun C s H fp => (zal 0 ndk)) (fun C s H fp => zaH) (fun C s H fp => (zkX bn.list' (zaa (zab 0) zag))) nd)
  (zae (zed 6 (zaX (zeG 6 (zax 4) (zax 5)) (zab 2)) (zax 4) (zax 5))
  (zae (zed 7 (zaD (zeG 7 (zax 4) (zax 5)) (zab 2)) (zax 4) (zax 5))
  (zak (zay (zlm 6 7 (by decide) (zam zaR hr (zaa (zai 0 zah) (zaa (zab 6) (zaa (zab 7) zag))) (hlen:=(zac (zac (zac zaj)))))))))))))))
abbrev zjX:Stmt:=top 53
def zlo:ME:=
 (zbx zdg 0 (zaf (zdm 1) (zaf (mC dLen (zaf (eIxV 1 (eC (.int 0))) aNil)) aNil)))
def zlO:MO:=
 oLCM [2,6] 1 0 2 (iR1 (zaf (eC (.int 4)) aNil)) (gN 2) zbV zlo
def zlr:ME:=
 (zaz zaF (zaf (eVar 0) (zaf (eTup (zaf (eC (.str "tour")) (zaf (eVar 1) aNil))) aNil)))
def zlk:MO:=
 oLC [3] 1 (iSeq (eVar 7)) (gN 1) zbV zlr
def zmb:MS:=
 (sIf (tTru (m2 dNe (zaz zaT (zaf (zaz za0 (zaf (eIxV 3 (eC (.int 0))) (zaf (eVar 6) (zaf (eVar 6) aNil)))) aNil)) (eVar 4)))
  (sRet (eC (.bl false)))
  zcs)
def zlX:MS:=
 (sSeq (sIf (tOrM (tTru (m2 dNe (m2 dIx (zaz zaT (zaf (eVar 5) aNil)) (eC (.int 0))) (eC (.str "floor")))) (zkR (tTru (zaz zbl (zaf (eVar 5) (zaf (eVar 6) aNil))))))
  (sRet (eC (.bl false)))
  zcs)
  zmb)
def zlv:MS:=
 (sIf (tTru (m2 zkw (zaz zaF (zaf (zaz zbQ (zaf (eVar 3) (zaf (eVar 8) aNil))) (zaf (eVar 4) aNil))) (eC (.bl false))))
  (sRet (eC (.bl false)))
  zcs)
def zgX:MS:=
 (sIf (tTru (m2 dEq (eIxV 4 (eC (.int 0))) (eC (.str "floor"))))
  (sSeq (sSet 6 (eIxV 4 (eC (.int 1))))
  (sSeq (sSet 7 (eFz zlO))
  (sSeq (sIf (tTru (m2 (dInP false) (eC (.bl true)) (eFz zlk)))
  (sRet (eC (.bl false)))
  zcs)
  zlX)))
  (sSeq (sSet 8 (eIxV 4 (eC (.int 1))))
  (sSeq (sIf (tTru (m2 dLe (zaz zby (zaf (zaz za4 (zaf (zaz zbA (zaf (eVar 3) aNil)) aNil)) (zaf (eVar 8) aNil))) (zaz zaC (zaf (eVar 3) (zaf (eVar 8) aNil)))))
  (sRet (eC (.bl false)))
  zcs)
  zlv)))
def zl9:MS:=
 (sSeq (zfi 2 (oCall zdf (zaf (eVar 1) aNil)))
  (sSeq (sSet 3 (zbx zcw 2 (zaf (eC (.int 6)) aNil)))
  (sSeq (sSet 4 (zaz zaT (zaf (eVar 3) aNil)))
  (sSeq (sSet 5 (zaz zcD (zaf (eVar 3) (zaf (zbx zar 2 (zaf (eC (.int 5)) aNil)) aNil))))
  (sSeq (sIf (tTru (m2 zkw (zaz zaF (zaf (eVar 3) (zaf (eVar 4) aNil))) (eC (.bl true))))
  (sRet (eC (.bl false)))
  zcs)
  zgX)))))
def zlN:MS:=
 sFor (iSeq (m2 dAdd (eCut (eVar 0) pNo (zfZ (eC (.int 5)))) (eFz (oLst (zaf (eC (.int 0)) aNil))))) (gN 1) zl9
def m_law:MS:=
 (sSeq zlN
  (sRet (eC (.bl true))))
def zj7:List D->Option Sl:=fP 9 m_law
theorem ok_law (zeP:FD P w K mg base 1 "_law_deal" (spP K 1 zdf))(za3:FD P w K mg base 1 "_law_fixed" (spP K 1 za4))(zem:FD P w K mg base 3 "_law_floor" (spM K 2 zcw))(zaJ:FD P w K mg base 3 "_law_most_balance" (spP K 2 zaC))(zbD:FD P w K mg base 1 "_law_plain" (spP K 1 zbA))(zc4:FD P w K mg base 5 "_law_roomier" (spP K 2 zbQ))(zao:FD P w K mg base 1 "_law_take" (spM K 2 zar))(zfO:FD P w K mg base 3 "_law_tour" (spM K 3 zdg))(zeb:FD P w K mg base 5 "_law_wider" (spP K 2 zcD))(zbE:FD P w K mg base 2 "balance_of" (spP K 2 zby))(zbz:FD P w K mg base 5 "fitted_floor" (spP K 1 zaT))(zbt:FD P w K mg base 3 "floor_holds" (spP K 2 zbl))(zbR:FD P w K mg base 5 "floor_right" (spP K 2 zaF))(zaR:FD P w K mg base 4 "made_floor" (spP K 3 za0))(F:Fun K "law" "law" zjX f fd):FnOk P w K mg base CX0 6 f fd ["script"] (spP K 1 zj7):=
 lawP (N:=["script","cell","pot","floor","told","wider","numbers","tours","cells"]) (k:=5) (n:=1) (m:=m_law) F fun _ _ _ _ _ _ _ hr nd=>(zae (zbI PassesOwn.never rfl (zbr (zaD (zeO (zab 0) zke (zb6 zah)) (SO.se (zbh (zaa zah zag))))) (zal 1 nd)
  (zae (zbX 2 (so_call zeP hr (zaa (zab 1) zag) (hlen := (zac zaj))) nd)
  (zae (zas 3 (zaN 2 zem hr (zaa zah zag) (zd6 (zac zaj))) nd)
  (zae (zas 4 (zam zbz hr (zaa (zab 3) zag) (hlen := (zac zaj))) nd)
  (zae (zas 5 (zam zeb hr (zaa (zab 3) (zaa (zaN 2 zao hr (zaa zah zag) (zd6 (zac zaj))) zag)) (hlen := (zac (zac zaj)))) nd)
  (zae (zcy (zm0 (zam zbR hr (zaa (zab 3) (zaa (zab 4) zag)) (hlen := (zac (zac zaj)))) zfC)
  (zak (zay zfC))
  zaO)
  (zak (zcy (zjo hr.units (zai 4 zah) zh9)
  (zae (zas 6 (zai 4 zah) nd)
  (zae (zmw 7 [2, 6] 1 0 2 ["pot", "numbers", "turn"] rfl (zaW bn.range' (zaa zah zag)) (fun C s H fp => (zal 2 ndk)) (fun C s H fp => zaH) (fun C s H fp => (zaN 0 zfO hr (zaa (zbm 1 bn.len') (zaa (zfr bn.len' (zaa (zai 1 zah) zag)) zag)) (zd6 (zac (zac zaj))))) nd)
  (zae (zcy (st_inP hr.units zfC (SO.se (zel [3] 1 ["floor", "cells"] rfl (zbr (zab 7)) (fun C s H fp => (zal 1 ndk)) (fun C s H fp => zaH) (fun C s H fp => (zam zbR hr (zaa (zab 0) (zaa (zbH (zaa zh9 (zaa (zab 1) zag))) zag)) (hlen := (zac (zac zaj))))))))
  (zak (zay zfC))
  zaO)
  (zae (zcy (STw.st (sw_or (zjh hr.units (zaZ (zam zbz hr (zaa (zab 5) zag) (hlen := (zac zaj))) zah) zh9) (zln (zjY (zjq (zam zbt hr (zaa (zab 5) (zaa (zab 6) zag)) (hlen := (zac (zac zaj)))))))))
  (zak (zay zfC))
  zaO)
  (zak (zcy (zjh hr.units (zam zbz hr (zaa (zam zaR hr (zaa (zai 3 zah) (zaa (zab 6) (zaa (zab 6) zag))) (hlen := (zac (zac (zac zaj))))) zag) (hlen := (zac zaj))) (zab 4))
  (zak (zay zfC))
  zaO))))))
  (zae (zas 8 (zai 4 zah) nd)
  (zae (zcy (st_le (zam zbE hr (zaa (zam za3 hr (zaa (zam zbD hr (zaa (zab 3) zag) (hlen := (zac zaj))) zag) (hlen := (zac zaj))) (zaa (zab 8) zag)) (hlen := (zac (zac zaj)))) (zam zaJ hr (zaa (zab 3) (zaa (zab 8) zag)) (hlen := (zac (zac zaj)))))
  (zak (zay zfC))
  zaO)
  (zak (zcy (zm0 (zam zbR hr (zaa (zam zc4 hr (zaa (zab 3) (zaa (zab 8) zag)) (hlen := (zac (zac zaj)))) (zaa (zab 4) zag)) (hlen := (zac (zac zaj)))) zfC)
  (zak (zay zfC))
  zaO))))))))))))
  (zak (zay zfC)))
end
set_option maxHeartbeats 0 in
theorem all_mk {l:W.OpenLaw}{w:World}{K:W.Frag}{h:Heap}{mg:Str->Option Value}{fa:Addr}(X:K.In h)(G:h.Ns mainGlobals mg)(hfa:mg "law"=some (.ref fa))
  (h1:FnAt K "square_sums" zf3)
  (h2:FnAt K "floor_sums" zgI)
  (h3:FnAt K "row_within" zgR)
  (h4:FnAt K "lengths_of" zgB)
  (h5:FnAt K "rows_within" zf9)
  (h6:FnAt K "floor_parts_right" zcT)
  (h7:FnAt K "in_tuples" zhv)
  (h8:FnAt K "made_floor" zgK)
  (h9:FnAt K "floor_holds" zgd)
  (h10:FnAt K "is_cell" ziQ)
  (h11:FnAt K "cells_of" zh5)
  (h12:FnAt K "cell_sign" zhu)
  (h13:FnAt K "balance_of" zg4)
  (h14:FnAt K "plain_numbers" zeu)
  (h15:FnAt K "shifted_row" zf8)
  (h16:FnAt K "shifted_numbers" zdn)
  (h17:FnAt K "cell_ties" zhD)
  (h18:FnAt K "floor_ties" zgG)
  (h19:FnAt K "greatest_shifts" zds)
  (h20:FnAt K "falling_loop" zeU)
  (h21:FnAt K "floor_shifts" zfz)
  (h22:FnAt K "tour_of" ziO)
  (h23:FnAt K "fitted_floor" zfA)
  (h24:FnAt K "is_step" ziS)
  (h25:FnAt K "is_tour" ziL)
  (h26:FnAt K "tour_counts" zgb)
  (h27:FnAt K "greatest_in_row" zdq)
  (h28:FnAt K "greatest_balance" zdi)
  (h29:FnAt K "tour_right" zgZ)
  (h30:FnAt K "floor_right" zf5)
  (h31:FnAt K "_law_deal" zhA)
  (h32:FnAt K "_law_take" zhB)
  (h33:FnAt K "_law_floor_sums" zdp)
  (h34:FnAt K "_law_fixed" zg2)
  (h35:FnAt K "_law_bent_floor" zdt)
  (h36:FnAt K "_law_floor" zgH)
  (h37:FnAt K "_law_sign" zhy)
  (h38:FnAt K "_law_plain" zgC)
  (h39:FnAt K "_law_balance" zfJ)
  (h40:FnAt K "_law_often" zgE)
  (h41:FnAt K "_law_most_balance" zc0)
  (h42:FnAt K "_law_unlike" zga)
  (h43:FnAt K "_law_tour" zhH)
  (h44:FnAt K "_law_wider" zgY)
  (h45:FnAt K "_law_roomier" zfN)
  (h46:FnAt K "law" zjX)
  (z0:W.nsIn K mainGlobals "all"=some none) (z1:W.nsIn K mainGlobals "enumerate"=some none) (z2:W.nsIn K mainGlobals "len"=some none) (z3:W.nsIn K mainGlobals "list"=some none) (z4:W.nsIn K mainGlobals "max"=some none) (z5:W.nsIn K mainGlobals "min"=some none) (z6:W.nsIn K mainGlobals "range"=some none) (z7:W.nsIn K mainGlobals "sorted"=some none) (z8:W.nsIn K mainGlobals "sum"=some none) (z9:W.nsIn K mainGlobals "tuple"=some none) (z10:W.nsIn K mainGlobals "zip"=some none):
  ∃fd:FuncData,(∀(s:Shared) (v:Value),BindsTo s fd ⟨[v],[]⟩ [("script",v)])/\∀base:Heap,K.In base->base.Ns mainGlobals mg->FnOk l.prog w K mg base CX0 6 fa fd ["script"] (spP K 1 zj7):=by
 have bn:BN K mg:=⟨W.mg_none_of X G z0,W.mg_none_of X G z1,W.mg_none_of X G z2,W.mg_none_of X G z3,W.mg_none_of X G z4,W.mg_none_of X G z5,W.mg_none_of X G z6,W.mg_none_of X G z7,W.mg_none_of X G z8,W.mg_none_of X G z9,W.mg_none_of X G z10⟩
 obtain⟨a,b,c,d,e,f,T⟩:=h46.law X G hfa
 refine⟨W.fnOf "law" "law" (ze3 zjX) (zcl zjX) (zaG zjX) .none a b c d e f,fun s v=> .of_eq rfl,fun base _ _=>?_⟩
 have zdJ:=ziC (P:=l.prog) (w:=w) (base:=base) X G bn h1
 have zeg:=zjR (P:=l.prog) (w:=w) (base:=base) X G bn zdJ h2
 have zd8:=zjz (P:=l.prog) (w:=w) (base:=base) X G bn h3
 have zb8:=zjI (P:=l.prog) (w:=w) (base:=base) X G bn h4
 have zbu:=ziz (P:=l.prog) (w:=w) (base:=base) X G bn zd8 h5
 have zbJ:=zf0 (P:=l.prog) (w:=w) (base:=base) X G bn zb8 zbu h6
 have zbi:=zkk (P:=l.prog) (w:=w) (base:=base) X G bn h7
 have zaR:=zjg (P:=l.prog) (w:=w) (base:=base) X G bn zbJ zbi h8
 have zbt:=ziu (P:=l.prog) (w:=w) (base:=base) X G bn zeg zbu h9
 have zhf:=zmT (P:=l.prog) (w:=w) (base:=base) X G bn h10
 have zgq:=zkU (P:=l.prog) (w:=w) (base:=base) X G bn h11
 have zaK:=zki (P:=l.prog) (w:=w) (base:=base) X G bn h12
 have zbE:=zjt (P:=l.prog) (w:=w) (base:=base) X G bn zaK h13
 have zaB:=zhJ (P:=l.prog) (w:=w) (base:=base) X G bn zbi h14
 have zdL:=zix (P:=l.prog) (w:=w) (base:=base) X G bn zaK h15
 have zb0:=zgJ (P:=l.prog) (w:=w) (base:=base) X G bn zdL h16
 have zfq:=zkx (P:=l.prog) (w:=w) (base:=base) X G bn zaK h17
 have zej:=zjE (P:=l.prog) (w:=w) (base:=base) X G bn zfq zgq zaB h18
 have zca:=zg8 (P:=l.prog) (w:=w) (base:=base) X G bn h19
 have zc9:=zh1 (P:=l.prog) (w:=w) (base:=base) X G bn h20
 have zc7:=zir (P:=l.prog) (w:=w) (base:=base) X G bn zej zca h21
 have zhk:=zmV (P:=l.prog) (w:=w) (base:=base) X G bn h22
 have zbz:=zik (P:=l.prog) (w:=w) (base:=base) X G bn zc9 zc7 zaB zb0 zhk h23
 have zhe:=zmR (P:=l.prog) (w:=w) (base:=base) X G bn h24
 have zho:=zmJ (P:=l.prog) (w:=w) (base:=base) X G bn zhf zhe h25
 have zdD:=ziy (P:=l.prog) (w:=w) (base:=base) X G bn zaK h26
 have zcd:=zgz (P:=l.prog) (w:=w) (base:=base) X G bn h27
 have zbZ:=zgj (P:=l.prog) (w:=w) (base:=base) X G bn zcd zdD h28
 have zef:=zjT (P:=l.prog) (w:=w) (base:=base) X G bn zbE zbZ zho zaB h29
 have zbR:=ziv (P:=l.prog) (w:=w) (base:=base) X G bn zbt zef h30
 have zeP:=zj6 (P:=l.prog) (w:=w) (base:=base) X G bn h31
 have zao:=zkg (P:=l.prog) (w:=w) (base:=base) X G bn h32
 have zb7:=zgD (P:=l.prog) (w:=w) (base:=base) X G bn h33
 have za3:=zjk (P:=l.prog) (w:=w) (base:=base) X G bn h34
 have zb2:=zg9 (P:=l.prog) (w:=w) (base:=base) X G bn za3 zb7 zao h35
 have zem:=zi6 (P:=l.prog) (w:=w) (base:=base) X G bn zb2 zao h36
 have zbg:=zkm (P:=l.prog) (w:=w) (base:=base) X G bn h37
 have zbD:=zjP (P:=l.prog) (w:=w) (base:=base) X G bn h38
 have zde:=zii (P:=l.prog) (w:=w) (base:=base) X G bn zbg h39
 have zbB:=zi5 (P:=l.prog) (w:=w) (base:=base) X G bn zbg h40
 have zaJ:=zfY (P:=l.prog) (w:=w) (base:=base) X G bn zbB h41
 have zct:=ziA (P:=l.prog) (w:=w) (base:=base) X G bn zao h42
 have zfO:=zjU (P:=l.prog) (w:=w) (base:=base) X G bn zao zct h43
 have zeb:=zja (P:=l.prog) (w:=w) (base:=base) X G bn zaR h44
 have zc4:=zh4 (P:=l.prog) (w:=w) (base:=base) X G bn zde zaJ zbB zbD zaR h45
 exact ok_law X G bn zeP za3 zem zaJ zbD zc4 zao zfO zeb zbE zbz zbt zbR zaR T
theorem walk {l:W.OpenLaw}{q:Program}{loose:List Str}{XP:(Str->Option Value)->Heap->Prop}{YP:World->Heap->Prop}{d:DefRec}{K:Params->W.Frag}(hn:l.most=some 63)(hdf:d.params.defaults=[])
  (hm:∀ns:List Int,ns.length<=63->zj7 [.scr ns]=some (.val (.bl true)))
  (hY:∀(w:World) (h:Heap),YP w h->(K w.params).In h)
  (F : ∀ (w : World) (mg : Str -> Option Value) (fa : Addr) (h : Heap), (K w.params).In h -> h.Ns mainGlobals mg -> mg d.name = some (.ref fa) ->
   ∃fd:FuncData,(∀(s:Shared) (u:Value),BindsTo s fd ⟨[u],[]⟩ [("script",u)])/\∀base:Heap,(K w.params).In base->base.Ns mainGlobals mg->FnOk l.prog w (K w.params) mg base CX0 6 fa fd ["script"] (spP (K w.params) 1 zj7)):
  W.WalkO q loose XP YP l.row.toRowW d [] (fun f vs=>PySem.call f vs):=
 L2.walk_of (n:=63) (k:=6) (x:="script") (CX:=fun _=>CX0) (sp:=fun w=>spP (K w.params) 1 zj7) hn (by decide) hdf ⟨rfl,by decide,by decide,rfl⟩ hY F
  (fun w H a ns hl _ hS=>⟨H,[.scr ns],.val (.bl true),hm ns hl,rfl,Fz.refl H,.cons ⟨a,rfl,hS⟩ .nil,fun _ _ _ _ _ _ _ rr=>rr⟩) fun _ _ _ _ _ z=>z
end Prf
set_option exponentiation.threshold 5000
namespace Prf
open L2 M PySem
variable {i j t q s n v a c m r b k A B:Nat} {d:Nat->Option Int} {u:Nat->Option Nat} {ts qs:Nat->Nat} {y x:Int} {f e S L G:Nat->Nat->Int} {h:Nat->Int} {ds:List D} {Q:List D×R->Prop}
def ckf (m t j q:Nat):Nat:=if q<j then t*m+q+1 else t*m+q+1-m
def upf {α:Type}(f:Nat->α)(i:Nat)(x:α):Nat->α:=fun j=>if j=i then x else f j
theorem zdd {α:Type}(f:Nat->α)(i:Nat)(x:α):upf f i x i=x:=if_pos rfl
theorem zbv {α:Type}(f:Nat->α)(x:α)(h:j≠i):upf f i x j=f j:=if_neg h
section
variable {m n:Nat} {tl tu:Nat->Nat} {ta:Nat->Int}
def Kept (tl tu:Nat->Nat)(ta:Nat->Int)(d:Nat->Option Int)(q:Nat):Prop:=∀y,d (tu q)=some y->∃x,d (tl q)=some x/\x<=y+ta q
structure BI (m:Nat) (tl tu:Nat->Nat) (ta:Nat->Int) (s t j:Nat) (d:Nat->Option Int) (u:Nat->Option Nat) (ts:Nat->Nat):Prop where
 le:∀v,ts v<=t*m+j
 st:∃x,d s=some x
 inj:∀v w,0<ts v->ts v=ts w->v=w
 un:∀l,0<ts l->∃q,q<m/\tl q=l/\u l=some (tu q)/\∃x y,d l=some x/\d (tu q)=some y/\y+ta q<=x/\(ts l<ts (tu q)->y+ta q<x)/\(m<ts l->ts l+1<=ts (tu q)+m)
 ck:∀q,q<m->0<ckf m t j q->ckf m t j q<ts (tu q)\/Kept tl tu ta d q
theorem zjw (h:q≠j):ckf m t (j+1) q=ckf m t j q:=by
 unfold ckf
 by_cases z:q<j
 ·rw[if_pos z,if_pos (by lia)]
 ·rw[if_neg z,if_neg (by lia)]
theorem ckf_le (hq:q<m):ckf m t j q<=t*m+j:=by
 unfold ckf
 split<;>lia
theorem BI.keep (b:BI m tl tu ta s t j d u ts)(k:Kept tl tu ta d j):BI m tl tu ta s t (j+1) d u ts where
 le:=fun v=>by have:=b.le v;lia
 st:=b.st
 inj:=b.inj
 un:=b.un
 ck:=fun q hq h=>by
  by_cases e:q=j
  ·subst e;exact .inr k
  ·rw[zjw e]at h ⊢;exact b.ck q hq h
theorem BI.change {s t j:Nat}(b:BI m tl tu ta s t j d u ts)(hj:j<m)(ne:tl j≠tu j)(hy:d (tu j)=some y)(hx:∀x,d (tl j)=some x->y+ta j<x):
  BI m tl tu ta s t (j+1) (upf d (tl j) (some (y+ta j))) (upf u (tl j) (some (tu j))) (upf ts (tl j) (t*m+j+1)) where
 le:=fun v=>by
  by_cases e:v=tl j
  ·rw[e,zdd];lia
  ·rw[zbv _ _ e];have:=b.le v;lia
 st:=by
  obtain⟨x,h⟩:=b.st
  by_cases e:s=tl j
  ·exact⟨_,by rw[e,zdd]⟩
  ·exact⟨x,by rw[zbv _ _ e];exact h⟩
 inj:=fun v w h e=>by
  have lv:=b.le v
  have lw:=b.le w
  by_cases ev:v=tl j
  ·by_cases ew:w=tl j
   ·rw[ev,ew]
   ·rw[ev,zdd,zbv _ _ ew]at e;lia
  ·by_cases ew:w=tl j
   ·rw[ew,zdd,zbv _ _ ev]at e;lia
   ·rw[zbv _ _ ev]at h e;rw[zbv _ _ ew]at e;exact b.inj v w h e
 un:=fun l h=>by
  by_cases e:l=tl j
  ·subst e
   refine⟨j,hj,rfl,zdd _ _ _,y+ta j,y,zdd _ _ _,by rw[zbv _ _ ne.symm];exact hy,Int.le_refl _,fun z=>?_,fun z=>?_⟩
   ·rw[zdd,zbv _ _ ne.symm]at z
    have:=b.le (tu j)
    lia
   ·rw[zdd]at z ⊢
    rw[zbv _ _ ne.symm]
    have e1:ckf m t j j=t*m+j+1-m:=by unfold ckf;rw[if_neg (by lia)]
    rcases b.ck j hj (by rw[e1];lia)with c|c
    ·rw[e1]at c;lia
    ·obtain⟨x,h1,h2⟩:=c y hy
     have:=hx x h1
     lia
  ·rw[zbv _ _ e]at h
   obtain⟨q,hq,eq,eu,x,y',h1,h2,h3,h4,h5⟩:=b.un l h
   refine⟨q,hq,eq,by rw[zbv _ _ e];exact eu,?_⟩
   by_cases z:tu q=tl j
   ·have lt:=hx y' (by rw[<-z];exact h2)
    refine⟨x,y+ta j,by rw[zbv _ _ e];exact h1,by rw[z,zdd],by lia,fun _=>by lia,fun g=>?_⟩
    rw[zbv _ _ e]at g ⊢
    have:=h5 g
    have:=b.le (tu q)
    rw[z,zdd]
    lia
   ·refine⟨x,y',by rw[zbv _ _ e];exact h1,by rw[zbv _ _ z];exact h2,h3,fun g=>?_,fun g=>?_⟩
    ·rw[zbv _ _ e,zbv _ _ z]at g;exact h4 g
    ·rw[zbv _ _ e]at g ⊢;rw[zbv _ _ z];exact h5 g
 ck:=fun q hq h=>by
  by_cases z:tu q=tl j
  ·by_cases e:q=j
   ·subst e;exact absurd z.symm ne
   ·left
    rw[zjw e,z,zdd]
    have:=ckf_le (t:=t) (j:=j) hq
    lia
  ·have sat:Kept tl tu ta d q->Kept tl tu ta (upf d (tl j) (some (y+ta j))) q:=fun k y' hy'=>by
    rw[zbv _ _ z]at hy'
    obtain⟨x,h1,h2⟩:=k y' hy'
    by_cases g:tl q=tl j
    ·refine⟨y+ta j,by rw[g,zdd],?_⟩
     have:=hx x (by rw[<-g];exact h1)
     lia
    ·exact⟨x,by rw[zbv _ _ g];exact h1,h2⟩
   by_cases e:q=j
   ·subst e
    right
    intro y' hy'
    rw[zbv _ _ z,hy]at hy'
    cases hy'
    exact⟨_,zdd _ _ _,Int.le_refl _⟩
   ·rw[zjw e]at h ⊢
    rw[zbv _ _ z]
    exact(b.ck q hq h).imp id sat
theorem BI.turn (b:BI m tl tu ta s t m d u ts):BI m tl tu ta s (t+1) 0 d u ts where
 le:=fun v=>by have:=b.le v;rw[Nat.add_mul];lia
 st:=b.st
 inj:=b.inj
 un:=b.un
 ck:=fun q hq h=>by
  have e:ckf m (t+1) 0 q=ckf m t m q:=by
   unfold ckf
   rw[if_neg (by lia),if_pos hq,Nat.add_mul]
   lia
  rw[e]at h ⊢
  exact b.ck q hq h
theorem BI.start:BI m tl tu ta s 0 0 (fun v=>if v=s then some 0 else none) (fun _=>none) (fun _=>0) where
 le:=fun v=>by lia
 st:=⟨0,if_pos rfl⟩
 inj:=fun v w h=>by lia
 un:=fun l h=>by lia
 ck:=fun q hq h=>by
  unfold ckf at h
  rw[if_neg (by lia)]at h
  lia
theorem BI.kept (b:BI m tl tu ta s (t+1) 0 d u ts)(h:∀v,ts v<=t*m)(hq:q<m):Kept tl tu ta d q:=by
 have e:ckf m (t+1) 0 q=t*m+q+1:=by unfold ckf;rw[if_neg (by lia),Nat.add_mul];lia
 rcases b.ck q hq (by lia)with c|c
 ·have:=h (tu q);lia
 ·exact c
end
def back (u:Nat->Option Nat)(l:Nat):Nat->Nat
 |0=>l
 |i+1=>(u (back u l i)).getD 0
theorem zcc (u:Nat->Option Nat)(l i:Nat):∀j,back u (back u l i) j=back u l (i+j)
 |0=>rfl
 |j+1=>by
  show(u (back u (back u l i) j)).getD 0=(u (back u l (i+j))).getD 0
  rw[zcc u l i j]
theorem fewN:∀(c:Nat) (ks:List Nat),ks.Nodup->(∀x,x∈ks->x<c)->ks.length<=c
 |0,[],_,_=>by simp
 |0,x::ks,_,h=>by have:=h x (by simp);lia
 |c+1,ks,nd,h=>by
  by_cases q:c∈ks
  ·have ih:=fewN c (ks.erase c) (nd.erase _) fun x hx=>by
    have hm:=(nd.mem_erase_iff).mp hx
    have:=h x hm.2
    have:=hm.1
    lia
   rw[List.length_erase_of_mem q]at ih
   lia
  ·have:=fewN c ks nd fun x hx=>by
    have:=h x hx
    have:x≠c:=fun z=>q (z ▸ hx)
    lia
   lia
theorem pigeon {f:Nat->Nat}(h:∀i,i<=n->f i<n):∃i j,i<j/\j<=n/\f i=f j:=by
 apply Classical.byContradiction
 intro no
 have nd:((List.range (n+1)).map f).Nodup:=by
  rw[List.nodup_iff_pairwise_ne,List.pairwise_map]
  refine(List.Pairwise.and_mem.mp List.pairwise_lt_range).imp fun{a b} hh e=>no ⟨a,b,hh.2.2,?_,e⟩
  have:=List.mem_range.mp hh.2.1
  lia
 have:=fewN n _ nd fun x hx=>by
  obtain⟨i,hi,rfl⟩:=List.mem_map.mp hx
  exact h i (by have:=List.mem_range.mp hi;lia)
 rw[List.length_map,List.length_range]at this
 lia
section
variable {m n:Nat} {tl tu:Nat->Nat} {ta:Nat->Int} {s:Nat} {d:Nat->Option Int} {u:Nat->Option Nat} {ts:Nat->Nat} {l:Nat}
theorem BI.next (b:BI m tl tu ta s n 0 d u ts)(h:0<ts v):∃q,q<m/\tl q=v/\tu q=(u v).getD 0:=by
 obtain⟨q,hq,e,eu,_⟩:=b.un v h
 exact⟨q,hq,e,by rw[eu];rfl⟩
theorem BI.live (b:BI m tl tu ta s (n+1) 0 d u ts)(h:n*m<ts l):∀i,i<=n->n*m+1<=ts (back u l i)+i*(m-1)
 |0,_=>by show n*m+1<=ts l+0*(m-1);lia
 |i+1,hi=>by
  have ih:=BI.live b h i (by lia)
  have m1:1<=m:=by
   obtain⟨q,hq,_⟩:=b.un l (by lia)
   lia
  obtain⟨m',rfl⟩:∃m',m=m'+1:=⟨m-1,by lia⟩
  obtain⟨n',rfl⟩:∃n',n=n'+1:=⟨n-1,by lia⟩
  rw[Nat.add_sub_cancel]at ih ⊢
  have le:i*m'<=n'*m':=Nat.mul_le_mul_right _ (by lia)
  have e1:(n'+1)*(m'+1)=n'*m'+m'+n'+1:=by rw[Nat.add_mul,Nat.mul_add];lia
  obtain⟨q,hq,e,eu,x,y,_,_,_,_,h5⟩:=b.un (back u l i) (by lia)
  have h6:=h5 (by lia)
  have e2:back u l (i+1)=tu q:=by show(u (back u l i)).getD 0=_;rw[eu];rfl
  have e3:(i+1)*m'=i*m'+m':=Nat.succ_mul i m'
  rw[e2]
  lia
theorem BI.all (b:BI m tl tu ta s (n+1) 0 d u ts)(h:n*m<ts l)(hl:∀q,q<m->tl q<n+1)(hu:∀q,q<m->tu q<n+1):
  (∀t,0<ts (back u l t))/\∃p,1<=p/\p<=n+1/\back u l (n+1+p)=back u l (n+1):=by
 have pos:∀i,i<=n->0<ts (back u l i):=fun i hi=>by
  have:=b.live h i hi
  have m1:1<=m:=by
   obtain⟨q,hq,_⟩:=b.un l (by lia)
   lia
  obtain⟨m',rfl⟩:∃m',m=m'+1:=⟨m-1,by lia⟩
  rw[Nat.add_sub_cancel]at this
  have le:i*m'<=n*m':=Nat.mul_le_mul_right _ hi
  rw[Nat.mul_add]at this
  lia
 have lt:∀i,i<=n+1->back u l i<n+1:=fun i hi=>by
  cases i with
  |zero=>
   obtain⟨q,hq,e,_⟩:=b.next (pos 0 (by lia))
   have:=hl q hq
   rw[e]at this;exact this
  |succ i=>
   obtain⟨q,hq,_,e⟩:=b.next (pos i (by lia))
   have:=hu q hq
   rw[e]at this;exact this
 obtain⟨i,j,hij,hj,e⟩:=pigeon lt
 have per:∀t,back u l (i+t)=back u l (j+t):=fun t=>by rw[<-zcc,<-zcc,e]
 refine⟨fun t=>?_,j-i,by lia,by lia,?_⟩
 ·induction t using Nat.strongRecOn with
  |_ t ih=>
   by_cases z:t<j
   ·exact pos t (by lia)
   ·have:=per (t-j)
    rw[show j+(t-j)=t by lia]at this
    rw[<-this]
    exact ih _ (by lia)
 ·have:=per (n+1-i)
  rw[show i+(n+1-i)=n+1 by lia,show j+(n+1-i)=n+1+(j-i) by lia]at this
  exact this.symm
theorem least_p {P:Nat->Prop}:∀p,P p->∃c,P c/\c<=p/\∀i,i<c->¬P i:=by
 intro p
 induction p using Nat.strongRecOn with
 |_ p ih=>
  intro h
  by_cases z:∃i,i<p/\P i
  ·obtain⟨i,hi,hP⟩:=z
   obtain⟨c,h1,h2,h3⟩:=ih i hi hP
   exact⟨c,h1,by lia,h3⟩
  ·exact⟨p,h,Nat.le_refl p,fun i hi hP=>z ⟨i,hi,hP⟩⟩
structure Round (m:Nat) (tl tu:Nat->Nat) (ta:Nat->Int) (u:Nat->Option Nat) (a c:Nat) (qs:Nat->Nat):Prop where
 pos:1<=c
 home:back u a c=a
 first:∀i,1<=i->i<c->back u a i≠a
 tie:∀i,i<c->qs i<m/\tl (qs i)=back u a i/\tu (qs i)=back u a (i+1)
 neg:sumR c (fun i=>ta (qs i))<0
theorem Round.apart (r:Round m tl tu ta u a c qs)(hij:i<j)(hj:j<c):back u a i≠back u a j:=fun e=>by
 have h1:=zcc u a i (c-j)
 have h2:=zcc u a j (c-j)
 rw[show j+(c-j)=c by lia,r.home]at h2
 rw[e,h2]at h1
 exact r.first (i+(c-j)) (by lia) (by lia) h1.symm
theorem BI.round (b:BI m tl tu ta s (n+1) 0 d u ts)(h:n*m<ts l)(hl:∀q,q<m->tl q<n+1)(hu:∀q,q<m->tu q<n+1)(ne:∀q,q<m->tl q≠tu q):
  ∃c qs,c<=n+1/\Round m tl tu ta u (back u l (n+1)) c qs:=by
 obtain⟨pos,p,p1,p2,ep⟩:=b.all h hl hu
 obtain⟨c,⟨c1,ec⟩,cp,cm⟩:=least_p (P:=fun c=>1<=c/\back u l (n+1+c)=back u l (n+1)) p ⟨p1,ep⟩
 have pos':∀i,0<ts (back u (back u l (n+1)) i):=fun i=>by rw[zcc];exact pos _
 have un:∀i,∃q,q<m/\tl q=back u (back u l (n+1)) i/\tu q=back u (back u l (n+1)) (i+1)/\∃x y,d (back u (back u l (n+1)) i)=some x/\d (back u (back u l (n+1)) (i+1))=some y/\y+ta q<=x/\(ts (back u (back u l (n+1)) i)<ts (back u (back u l (n+1)) (i+1))->y+ta q<x):=fun i=>by
  obtain⟨q,hq,e,eu,x,y,h1,h2,h3,h4,_⟩:=b.un _ (pos' i)
  have e2:back u (back u l (n+1)) (i+1)=tu q:=by show(u (back u (back u l (n+1)) i)).getD 0=_;rw[eu];rfl
  rw[e2]
  exact⟨q,hq,e,rfl,x,y,h1,h2,h3,h4⟩
 let a:=back u l (n+1)
 let qs:Nat->Nat:=fun i=>(un i).choose
 have sp:=fun i=>(un i).choose_spec
 have home:back u a c=a:=by show back u (back u l (n+1)) c=_;rw[zcc];exact ec
 refine⟨c,qs,by lia,c1,home,fun i i1 ic e=>cm i ic ⟨i1,by rw[<-zcc];exact e⟩,fun i _=>⟨(sp i).1,(sp i).2.1,(sp i).2.2.1⟩,?_⟩
 let x:Nat->Int:=fun i=>(d (back u a i)).getD 0
 have step:∀i,x (i+1)+ta (qs i)<=x i/\(ts (back u a i)<ts (back u a (i+1))->x (i+1)+ta (qs i)<x i):=fun i=>by
  obtain⟨_,_,_,X,Y,h1,h2,h3,h4⟩:=sp i
  have e1:x i=X:=by show(d (back u (back u l (n+1)) i)).getD 0=X;rw[h1];rfl
  have e2:x (i+1)=Y:=by show(d (back u (back u l (n+1)) (i+1))).getD 0=Y;rw[h2];rfl
  rw[e1,e2]
  exact⟨h3,h4⟩
 obtain⟨i0,hi0,lt⟩:∃i,i<c/\ts (back u a i)<ts (back u a (i+1)):=by
  apply Classical.byContradiction
  intro no
  have dec:∀i,i<=c->ts (back u a i)<=ts a:=by
   intro i
   induction i with
   |zero=>intro _;exact Nat.le_refl _
   |succ i ih=>
    intro hi
    have:=ih (by lia)
    have:¬ts (back u a i)<ts (back u a (i+1)):=fun z=>no ⟨i,by lia,z⟩
    lia
  have inc:∀i,i<=c->ts a<=ts (back u a (c-i)):=by
   intro i
   induction i with
   |zero=>intro _;rw[Nat.sub_zero,home];exact Nat.le_refl _
   |succ i ih=>
    intro hi
    have h1:=ih (by lia)
    have h2:¬ts (back u a (c-(i+1)))<ts (back u a (c-(i+1)+1)):=fun z=>no ⟨_,by lia,z⟩
    rw[show c-(i+1)+1=c-i by lia]at h2
    lia
  have h1:=inc (c-1) (by lia)
  rw[show c-(c-1)=1 by lia]at h1
  have h2:=dec 1 c1
  have e:=b.inj (back u a 1) a (pos' 1) (by lia)
  obtain⟨q1,q2,q3,_⟩:=sp 0
  exact ne (qs 0) q1 (by rw[show tl (qs 0)=a from q2,show tu (qs 0)=back u a 1 from q3,e])
 have tele:∀i,sumR i (fun j=>ta (qs j))<=x 0-x i/\(i0<i->sumR i (fun j=>ta (qs j))<x 0-x i):=by
  intro i
  induction i with
  |zero=>exact⟨by show(0:Int)<=_;lia,fun z=>by lia⟩
  |succ i ih=>
   have st:=step i
   have e:sumR (i+1) (fun j=>ta (qs j))=sumR i (fun j=>ta (qs j))+ta (qs i):=rfl
   rw[e]
   refine⟨by lia,fun z=>?_⟩
   by_cases g:i0<i
   ·have:=ih.2 g;lia
   ·have:i=i0:=by lia
    subst this
    have:=st.2 lt
    lia
 have:=(tele c).2 hi0
 have e0:x c=x 0:=by show(d (back u a c)).getD 0=(d a).getD 0;rw[home]
 lia
end
def dO:Option Int->D
 |none=> .non
 |some x=> .int x
def uO:Option Nat->D
 |none=> .non
 |some v=> .int (v:Nat)
theorem dO_n:dO none= .non:=rfl
theorem dO_s (x:Int):dO (some x)= .int x:=rfl
def tieL (m:Nat)(tl tu:Nat->Nat)(ta:Nat->Int):List D:=wL m fun q=> .tup [.int (tl q:Nat),.int (tu q:Nat),.int (ta q)]
theorem zoO (f:Nat->D)(x:D)(h:i<n):(wL n f).set i x=wL n (upf f i x):=by
 apply List.ext_getElem?
 intro j
 rw[List.getElem?_set]
 by_cases e:i=j
 ·subst e
  rw[if_pos rfl,if_pos (by rw[za7];exact h),zap _ h,zdd]
 ·rw[if_neg e]
  by_cases hj:j<n
  ·rw[zap _ hj,zap _ hj,zbv _ _ (Ne.symm e)]
  ·rw[List.getElem?_eq_none (by rw[za7];lia),List.getElem?_eq_none (by rw[za7];lia)]
theorem dO_put (d:Nat->Option Int)(i:Nat)(x:Int):upf (fun v=>dO (d v)) i (.int x)=fun v=>dO (upf d i (some x) v):=by
 funext v
 unfold upf
 split<;>rfl
theorem uO_put (d:Nat->Option Nat)(i x:Nat):upf (fun v=>uO (d v)) i (.int (x:Nat))=fun v=>uO (upf d i (some x) v):=by
 funext v
 unfold upf
 split<;>rfl
theorem rep_w' (n:Nat)(x:D):(List.replicate n [x]).flatten=wL n fun _=>x:=by
 induction n with
 |zero=>rfl
 |succ n ih=>rw[List.replicate_succ',List.flatten_append,ih,zbb];rfl
section
variable {m n:Nat} {tl tu:Nat->Nat} {ta:Nat->Int} {s:Nat}
def Shifts (m n:Nat)(tl tu:Nat->Nat)(ta:Nat->Int)(s:Nat)(d:Nat->Option Int)(u:Nat->Option Nat)(f:Option Nat):Prop:=
 ∃ts,BI m tl tu ta s n 0 d u ts/\((f=none/\∀v,ts v<=(n-1)*m)\/∃l,f=some l/\(n-1)*m<ts l)
theorem zn7 (n1:1<=n)(n9:n<=1000)(hs:s<n)(hl:∀q,q<m->tl q<n)(hu:∀q,q<m->tu q<n)(ne:∀q,q<m->tl q≠tu q):
  Ok (zbd [.lst (tieL m tl tu ta),.int n,.int s]) fun x=>∃d u f,Shifts m n tl tu ta s d u f/\x= .val (.tup [.lst (wL n fun v=>dO (d v)),.lst (wL n fun v=>uO (u v)),uO f]):=by
 have e0:upf (fun _=>D.non) s (.int 0)=fun v=>dO ((fun v=>if v=s then some 0 else none) v):=by
  funext v
  unfold upf
  (try dsimp only)
  split<;>rfl
 simp! only[↓zbd,↓zcp,rep_w',↓zcQ]
 rw[zoO _ _ hs,e0]
 have sm:zf6 (n:Int)=true:=za2 (by lia) (by lia)
 refine⟨⟨sm,by lia⟩,hs,⟨sm,by lia⟩,sm,za5 (fun t ρ=>∃(d:Nat->Option Int) (u:Nat->Option Nat) (f:Option Nat) (ts:Nat->Nat) (s6 s7 s8 s9:Sl),BI m tl tu ta s t 0 d u ts/\((f=none/\∀v,ts v<=(t-1)*m)\/∃l,f=some l/\(t-1)*m<ts l)/\ρ=[.val (.lst (tieL m tl tu ta)),.val (.int n),.val (.int s),.own (wL n fun v=>dO (d v)),.own (wL n fun v=>uO (u v)),.val (uO f),s6,s7,s8,s9]) ⟨_,fun _=>none,none,fun _=>0,_,_,_,_,BI.start,.inl ⟨rfl,fun v=>Nat.zero_le _⟩,rfl⟩ ?_ ?_⟩
 ·rintro t _ ht ⟨d,u,f,ts,s6,s7,s8,s9,b,-,rfl⟩
  simp! only[↓zcJ,↓zcM,tieL]
  refine za5 (fun j ρ=>∃(d:Nat->Option Int) (u:Nat->Option Nat) (f:Option Nat) (ts:Nat->Nat) (s7 s8 s9:Sl),BI m tl tu ta s t j d u ts/\((f=none/\∀v,ts v<=t*m)\/∃l,f=some l/\t*m<ts l)/\ρ=[.val (.lst (tieL m tl tu ta)),.val (.int n),.val (.int s),.own (wL n fun v=>dO (d v)),.own (wL n fun v=>uO (u v)),.val (uO f),.val (.int t),s7,s8,s9]) ⟨d,u,none,ts,_,_,_,b,.inl ⟨rfl,fun v=>by have:=b.le v;lia⟩,rfl⟩ ?_ ?_
  ·rintro j _ hj ⟨d,u,f,ts,s7,s8,s9,b,hf,rfl⟩
   have a1:=hl j hj
   have a2:=hu j hj
   simp! only[↓zcU,zap _ a1,zap _ a2]
   cases hy:d (tu j)with
   |none=>
    have k:Kept tl tu ta d j:=fun y e=>by rw[hy]at e;cases e
    simp! only[dO_n]
    exact⟨d,u,f,ts,_,_,_,b.keep k,hf,rfl⟩
   |some y=>
    have chg:(∀x,d (tl j)=some x->y+ta j<x)->∃(d':Nat->Option Int) (u':Nat->Option Nat) (f':Option Nat) (ts':Nat->Nat) (s7 s8 s9:Sl),BI m tl tu ta s t (j+1) d' u' ts'/\((f'=none/\∀v,ts' v<=t*m)\/∃l,f'=some l/\t*m<ts' l)/\[Sl.val (.lst (wL m fun q=> .tup [.int (tl q:Nat),.int (tu q:Nat),.int (ta q)])),.val (.int n),.val (.int s),.own ((wL n fun v=>dO (d v)).set (tl j) (.int (y+ta j))),.own ((wL n fun v=>uO (u v)).set (tl j) (.int (tu j:Nat))),.val (.int (tl j:Nat)),.val (.int t),.val (.int (tl j:Nat)),.val (.int (tu j:Nat)),.val (.int (ta j))]=[.val (.lst (tieL m tl tu ta)),.val (.int n),.val (.int s),.own (wL n fun v=>dO (d' v)),.own (wL n fun v=>uO (u' v)),.val (uO f'),.val (.int t),s7,s8,s9]:=fun hx=>by
     rw[zoO _ _ a1,zoO _ _ a1,dO_put,uO_put]
     exact⟨_,_,some (tl j),_,.val (.int (tl j:Nat)),.val (.int (tu j:Nat)),.val (.int (ta j)),b.change hj (ne j hj) hy hx,.inr ⟨tl j,rfl,by rw[zdd];lia⟩,rfl⟩
    cases hx:d (tl j)with
    |none=>
     simp! only[dO_n,dO_s,zap _ a2,hy,a1,if_true]
     exact chg fun x e=>by rw[hx]at e;cases e
    |some x=>
     simp! only[dO_s,zap _ a2,zap _ a1,hy,hx,a1,if_true]
     exact⟨fun z=>chg fun x' e=>by rw[hx]at e;cases e;exact z,fun z=>⟨d,u,f,ts,_,_,_,b.keep fun y' e=>by rw[hy]at e;cases e;exact⟨x,hx,z⟩,hf,rfl⟩⟩
  ·rintro _ ⟨d,u,f,ts,s7,s8,s9,b,hf,rfl⟩
   simp! only[]
   exact⟨d,u,f,ts,_,_,_,_,b.turn,by simpa using hf,rfl⟩
 ·rintro _ ⟨d,u,f,ts,s6,s7,s8,s9,b,hf,rfl⟩
  simp! only[]
  cases f with
  |none=>simp! only[uO];exact⟨d,u,none,⟨ts,b,hf⟩,rfl⟩
  |some l=>simp! only[uO];exact⟨d,u,some l,⟨ts,b,hf⟩,rfl⟩
end
theorem znZ (i:Nat)(f:Nat->D):atI (wL (i+1) f) (-1)=some (f i):=by
 unfold atI ixN
 rw[if_neg (by lia),za7,if_pos (by lia)]
 show(wL (i+1) f)[(((i+1:Nat):Int)+ -1).toNat]? =_
 rw[show(((i+1:Nat):Int)+ -1).toNat=i by lia,zap _ (by lia)]
section
variable {m n:Nat} {tl tu:Nat->Nat} {ta:Nat->Int} {s:Nat} {d:Nat->Option Int} {u:Nat->Option Nat} {ts:Nat->Nat} {l:Nat}
theorem loop_ok (b:BI m tl tu ta s (n+1) 0 d u ts)(h:n*m<ts l)(n9:n<=300)(hl:∀q,q<m->tl q<n+1)(hu:∀q,q<m->tu q<n+1)(ne:∀q,q<m->tl q≠tu q):
  Ok (zbT [.lst (wL (n+1) fun v=>uO (u v)),.int l]) fun x=>∃c qs,c<=n+1/\Round m tl tu ta u (back u l (n+1)) c qs/\x= .own (wI c fun i=>((back u (back u l (n+1)) i:Nat):Int)):=by
 obtain⟨c,qs,cn,R⟩:=b.round h hl hu ne
 obtain⟨pos,-⟩:=b.all h hl hu
 have nx:∀t,back u l t<n+1/\uO (u (back u l t))= .int ((back u l (t+1):Nat):Int):=fun t=>by
  obtain⟨q,hq,e,eu,_⟩:=b.un _ (pos t)
  refine⟨by rw[<-e];exact hl q hq,?_⟩
  show uO (u (back u l t))= .int (((u (back u l t)).getD 0:Nat):Int)
  rw[eu]
  rfl
 have sm:zf6 ((n+1:Nat):Int)=true:=za2 (by lia) (by lia)
 simp! only[↓zbT,↓zdF,↓zdV]
 refine⟨sm,za5 (fun t ρ=>∃s3,ρ=[.val (.lst (wL (n+1) fun v=>uO (u v))),.val (.int l),.val (.int (back u l t:Nat)),s3,.emp]) ⟨_,rfl⟩ ?_ ?_⟩
 ·rintro t _ ht ⟨s3,rfl⟩
  simp! only[↓zdX,zap _ (nx t).1,(nx t).2]
  exact⟨_,rfl⟩
 ·rintro _ ⟨s3,rfl⟩
  simp! only[↓zd7]
  have nx':∀i,back u (back u l (n+1)) i<n+1/\uO (u (back u (back u l (n+1)) i))= .int ((back u (back u l (n+1)) (i+1):Nat):Int):=fun i=>by
   rw[zcc,zcc]
   exact nx _
  generalize back u l (n+1)=a at R nx'
  have last:∀i,atI (wI (i+1) fun i=>((back u a i:Nat):Int)) (-1)=some (.int (back u a i:Nat)):=fun i=>by
   rw[znZ i]
  refine zly (fun k ρ=>∃i,i<c/\k=c-1-i/\ρ=[.val (.lst (wL (n+1) fun v=>uO (u v))),.val (.int l),.val (.int (a:Nat)),s3,.own (wI (i+1) fun i=>((back u a i:Nat):Int))]) ?_ 400 (c-1) _ (by lia) ⟨0,R.pos,by lia,rfl⟩
  rintro k _ ⟨i,hi,rfl,rfl⟩
  simp! only[↓zdS,last,zap _ (nx' i).1,(nx' i).2]
  refine⟨fun z=>⟨c-1-(i+1),?_,?_⟩,fun z=>⟨c,qs,cn,R,?_⟩⟩
  ·have:i+1≠c:=fun e=>z (by rw[e,R.home])
   lia
  ·have:i+1≠c:=fun e=>z (by rw[e,R.home])
   have ew:(wI (i+1) fun i=>((back u a i:Nat):Int))++[D.int (back u a (i+1):Nat)]=wI (i+1+1) fun i=>((back u a i:Nat):Int):=(zbb _ _).symm
   simp! only[↓zd2,last,zap _ (nx' i).1,(nx' i).2,ew]
   exact⟨by lia,i+1,by lia,rfl,rfl⟩
  ·have:i+1=c:=by
    by_cases e:i+1=c
    ·exact e
    ·exact absurd (by lia) (R.first (i+1) (by lia) (by lia))
   rw[this]
end
abbrev tT (R C:Nat)(f:Nat->Nat->Int):D:= .tup (wL R fun r=> .tup (wI C (f r)))
abbrev tL (R C:Nat)(f:Nat->Nat->Int):D:= .lst (wL R fun r=> .lst (wI C (f r)))
def four (f:Nat->Nat->Int)(r c:Nat):Int:=f r c+f r (c+1)+f (r+1) c+f (r+1) (c+1)
theorem i4 (a b c d:Int):zbp [.int a,.int b,.int c,.int d]=some [a,b,c,d]:=rfl
section
variable {R C:Nat} {f:Nat->Nat->Int}
theorem sums_ok (d:D)(hd:d=tT (R+1) (C+1) f\/d=tL (R+1) (C+1) f)(hR:R<=100)(hC:C<=100):Ok (zba [d]) fun x=>x= .val (tT R C (four f)):=by
 have e1:(((R+1:Nat):Int)-1).toNat=R:=by lia
 have e2:(((C+1:Nat):Int)-1).toNat=C:=by lia
 rcases hd with rfl|rfl<;>
 ·simp! only[↓zba,↓zcr,↓zcW,e1]
  refine⟨za2 (by lia) (by lia),za5 (fun i ρ=>∃s2 s3 s4 s5,ρ=[.val _,.own (wL i fun r=> .tup (wI C (four f r))),s2,s3,s4,s5]) ⟨_,_,_,_,rfl⟩ ?_ ?_⟩
  ·rintro i _ hi ⟨s2,s3,s4,s5,rfl⟩
   simp! only[↓zcV,↓zcZ,zap _ (show 0<R+1 by lia),e2]
   refine⟨za2 (by lia) (by lia),za5 (fun j ρ=>∃s4 s5,ρ=[.val _,.own (wL i fun r=> .tup (wI C (four f r))),.val (.int i),.own (wI j (four f i)),s4,s5]) ⟨_,_,rfl⟩ ?_ ?_⟩
   ·rintro j _ hj ⟨s4,s5,rfl⟩
    have a1:(i:Int)+1=((i+1:Nat):Int):=by lia
    have a2:(j:Int)+1=((j+1:Nat):Int):=by lia
    simp! only[↓zcR,a1,a2,zap _ (show i<R+1 by lia),zap _ (show i+1<R+1 by lia),zap _ (show j<C+1 by lia),zap _ (show j+1<C+1 by lia)]
    simp! only[i4]
    exact⟨by lia,_,_,by rw[show wI (j+1) (four f i)=_ from zbb _ _,show[f i j,f i (j+1),f (i+1) j,f (i+1) (j+1)].sum=four f i j by simp[four];lia]⟩
   ·rintro _ ⟨s4,s5,rfl⟩
    simp! only[]
    exact⟨by lia,_,_,_,_,by rw[zbb]⟩
  ·rintro _ ⟨s2,s3,s4,s5,rfl⟩
   simp! only[]
def rowF (s a:Nat->Int):Nat->Int
 |0=>0
 |c+1=>s c-a c-a (c+1)-rowF s a c
def pln (S:Nat->Nat->Int):Nat->Nat->Int
 |0=>fun _=>0
 |r+1=>rowF (S r) (pln S r)
theorem zjs (S:Nat->Nat->Int)(r c:Nat):four (pln S) r c=S r c:=by
 show pln S r c+pln S r (c+1)+rowF (S r) (pln S r) c+(S r c-pln S r c-pln S r (c+1)-rowF (S r) (pln S r) c)=S r c
 lia
theorem zhx (hn:n<=1000)(hm:m<=1000):Ok (zaP [tL n m f]) fun x=>x= .val (tT n m f):=by
 simp! only[↓zaP,↓zei,↓zdM]
 refine⟨by lia,zaM (fun ρ=>∃s,ρ=[s]) (fun r=> .tup (wI m (f r))) ⟨_,rfl⟩ ?_ ?_⟩
 ·rintro i _ hi ⟨s,rfl⟩
  simp! only[↓zdK]
  exact⟨_,rfl⟩
 ·rintro _ ⟨s,rfl⟩
  simp! only[]
theorem zhT (hn:n<=1000)(hm:m<=1000):Ok (za4 [tL n m f]) fun x=>x= .val (tT n m f):=by
 simp! only[↓za4,↓zfw,↓ze1]
 refine⟨by lia,zaM (fun ρ=>∃s,ρ=[s]) (fun r=> .tup (wI m (f r))) ⟨_,rfl⟩ ?_ ?_⟩
 ·rintro i _ hi ⟨s,rfl⟩
  simp! only[↓zfK]
  exact⟨_,rfl⟩
 ·rintro _ ⟨s,rfl⟩
  simp! only[]
abbrev zaA (R C:Nat)(S L G:Nat->Nat->Int):D:= .tup [tT R C S,tT (R+1) (C+1) L,tT (R+1) (C+1) G]
theorem zin (n:Nat)(x:D):(List.replicate n [x]).flatten=wL n fun _=>x:=by
 induction n with
 |zero=>rfl
 |succ n ih=>rw[List.replicate_succ',List.flatten_append,ih,zbb];simp
variable {S L G:Nat->Nat->Int}
theorem zkj (g:Nat->D):atI (wL (n+1) g) (-1)=some (g n):=zot g
theorem zjn (hR:R<=100)(hC:C<=100):Ok (zaI [zaA R C S L G]) fun x=>x= .val (tT (R+1) (C+1) (pln S)):=by
 simp! only[↓zaI,↓zdk,zap _ (show 0<R+1 by lia)]
 have e0:([D.int 0]::List.replicate C [D.int 0]).flatten=wI (C+1) (pln S 0):=by rw[<-List.replicate_succ];exact zin _ _
 simp! only[↓zdo]
 refine⟨⟨⟨by lia,by lia⟩,by lia⟩,za5 (fun i ρ=>∃s2 s3 s4 s5 s6,ρ=[.val (zaA R C S L G),.own (wL (i+1) fun r=> .lst (wI (C+1) (pln S r))),s2,s3,s4,s5,s6]) ⟨.emp,.emp,.emp,.emp,.emp,by rw[e0];rfl⟩ ?_ ?_⟩
 ·rintro i _ hi ⟨s2,s3,s4,s5,s6,rfl⟩
  simp! only[↓zdw,zkj,↓zdz,zgt]
  refine za5 (fun j ρ=>∃s5 s6,ρ=[.val (zaA R C S L G),.own (wL (i+1) fun r=> .lst (wI (C+1) (pln S r))),.val (.tup (wI C (S i))),.val (.lst (wI (C+1) (pln S i))),.own (wI (j+1) (pln S (i+1))),s5,s6]) ⟨_,_,rfl⟩ ?_ ?_
  ·rintro j _ hj ⟨s5,s6,rfl⟩
   have a2:(j:Int)+1=((j+1:Nat):Int):=by lia
   simp! only[↓zdr,a2,zap _ (show j<C+1 by lia),zap _ (show j+1<C+1 by lia),zap _ (show j<j+1 by lia)]
   exact⟨by lia,_,_,by rw[show wI (j+1+1) (pln S (i+1))=_ from zbb _ _];rfl⟩
  ·rintro _ ⟨s5,s6,rfl⟩
   simp! only[]
   exact⟨by lia,_,_,_,_,_,by rw[zbb (i+1)]⟩
 ·rintro _ ⟨s2,s3,s4,s5,s6,rfl⟩
  simp! only[]
  refine(zhx (by lia) (by lia)).mono ?_
  rintro _ rfl
  simp! only[]
end
def sg (r c:Nat):Int:=if(r+c)%2=0 then 1 else-1
theorem zje (r c:Nat):Ok (zaU [.int (r:Nat),.int (c:Nat)]) fun x=>x= .val (.int (sg r c)):=by
 have e:((r:Int)+(c:Int))%2=(((r+c)%2:Nat):Int):=by lia
 simp! only[↓zaU,↓zgk,e]
 unfold sg
 refine⟨fun h=>by rw[if_pos (by lia)],fun h=>by rw[if_neg (by lia)]⟩
section
variable {R C:Nat} {S L G f:Nat->Nat->Int} {h:Nat->Int}
def shf (R:Nat)(f:Nat->Nat->Int)(h:Nat->Int)(r c:Nat):Int:=f r c+sg r c*(h r-h (R+c))
theorem mul_sg (x:Int):zjN (sg r c) x=true:=zcG (by unfold sg;split<;>decide)
theorem shrow_ok {r:Nat}(a:Int)(b:Nat->Int)(g:Nat->Int)(hC:C<=1000):Ok (zb1 [.tup (wI C g),.int (r:Nat),.int a,.lst (wI C b)]) fun x=>x= .val (.tup (wI C fun c=>g c+sg r c*(a-b c))):=by
 simp! only[↓zb1,↓zea,↓zes,zgt]
 refine⟨by lia,zaM (fun ρ=>∃s t,ρ=[.val (.int (r:Nat)),.val (.int a),.val (.lst (wI C b)),s,t]) (fun c=> .int (g c+sg r c*(a-b c))) ⟨_,_,rfl⟩ ?_ ?_⟩
 ·rintro i _ hi ⟨s,t,rfl⟩
  simp! only[↓zer]
  refine(zje r i).mono ?_
  rintro _ rfl
  simp! only[zap _ hi]
  exact⟨mul_sg _,_,_,rfl⟩
 ·rintro _ ⟨s,t,rfl⟩
  simp! only[]
theorem shift_ok (hR:R<=100)(hC:C<=100):Ok (za8 [tT R C f,.lst (wI (R+C) h)]) fun x=>x= .val (tT R C (shf R f h)):=by
 have ec:cutD (wI (R+C) h) (some (R:Int)) none=wI C fun c=>h (R+c):=by
  rw[show cutD (wI (R+C) h) (some (R:Int)) none=(wI (R+C) h).drop R from zjG _ R]
  apply List.ext_getElem?
  intro i
  rw[List.getElem?_drop]
  by_cases hi:i<C
  ·rw[zap _ hi,zap _ (show R+i<R+C by lia)]
  ·rw[List.getElem?_eq_none (by rw[za7];lia),List.getElem?_eq_none (by rw[za7];lia)]
 simp! only[↓za8,↓zcq,↓zcL,zgt,ec]
 refine⟨by lia,zaM (fun ρ=>∃s t,ρ=[.val (.lst (wI (R+C) h)),.val (.lst (wI C fun c=>h (R+c))),s,t]) (fun r=> .tup (wI C (shf R f h r))) ⟨_,_,rfl⟩ ?_ ?_⟩
 ·rintro i _ hi ⟨s,t,rfl⟩
  simp! only[↓zcS,zap _ (show i<R+C by lia)]
  refine(shrow_ok _ _ _ (by lia)).mono ?_
  rintro _ rfl
  simp! only[]
  exact⟨rfl,_,_,rfl⟩
 ·rintro _ ⟨s,t,rfl⟩
  simp! only[]
theorem four_shf (r c:Nat):four (shf R f h) r c=four f r c:=by
 have s1:sg r (c+1)= -sg r c:=by unfold sg;split<;>split<;>lia
 have s2:sg (r+1) c= -sg r c:=by unfold sg;split<;>split<;>lia
 have s3:sg (r+1) (c+1)=sg r c:=by unfold sg;split<;>split<;>lia
 unfold four shf
 rw[s1,s2,s3]
 rw[show R+(c+1)=R+c+1 by lia]
 generalize sg r c=s
 simp only[Int.mul_sub,Int.neg_mul]
 lia
end
theorem wL_add (a b:Nat)(f:Nat->D):wL (a+b) f=wL a f++wL b fun i=>f (a+i):=by
 induction b with
 |zero=>simp[wL]
 |succ b ih=>rw[<-Nat.add_assoc,zbb,ih,zbb,List.append_assoc]
def ftl (a b q:Nat):Nat:=if q%2=0 then q/2/b else a+q/2%b
def ftu (a b q:Nat):Nat:=if q%2=0 then a+q/2%b else q/2/b
def up (P G:Nat->Nat->Int)(r c:Nat):Int:=G r c-P r c
def dn (P L:Nat->Nat->Int)(r c:Nat):Int:=P r c-L r c
def fta (b:Nat)(P L G:Nat->Nat->Int)(q:Nat):Int:=if q%2=0 then(if sg (q/2/b) (q/2%b)=1 then up P G (q/2/b) (q/2%b)else dn P L (q/2/b) (q/2%b))else(if sg (q/2/b) (q/2%b)=1 then dn P L (q/2/b) (q/2%b)else up P G (q/2/b) (q/2%b))
section
variable {R C:Nat} {S L G f:Nat->Nat->Int}
theorem dm (h:c<b):(i*b+c)/b=i/\(i*b+c)%b=c:=by
 have b0:0<b:=by lia
 constructor
 ·rw[Nat.mul_comm,Nat.mul_add_div b0,Nat.div_eq_of_lt h,Nat.add_zero]
 ·rw[Nat.mul_comm,Nat.mul_add_mod,Nat.mod_eq_of_lt h]
theorem cells_ok (hR:R<=50)(hC:C<=50):Ok (zdU [tT (R+1) (C+1) f]) fun x=>x= .own (wL ((R+1)*(C+1)) fun k=> .tup [.int ((k/(C+1):Nat):Int),.int ((k%(C+1):Nat):Int)]):=by
 simp! only[↓zdU,↓zhi,↓zgW]
 refine⟨za2 (by lia) (by lia),za5 (fun i ρ=>∃s2,ρ=[.val (tT (R+1) (C+1) f),.own (wL (i*(C+1)) fun k=> .tup [.int ((k/(C+1):Nat):Int),.int ((k%(C+1):Nat):Int)]),s2]) ⟨_,by rw[Nat.zero_mul];rfl⟩ ?_ ?_⟩
 ·rintro i _ hi ⟨s2,rfl⟩
  simp! only[↓zgx,↓zgw,zap _ (show 0<R+1 by lia)]
  refine⟨za2 (by lia) (by lia),by lia,zaM (fun ρ=>∃z,ρ=[.val (.int (i:Nat)),z]) (fun c=> .tup [.int (i:Nat),.int (c:Nat)]) ⟨_,rfl⟩ ?_ ?_⟩
  ·rintro c _ hc ⟨z,rfl⟩
   simp! only[↓zgN]
   exact⟨_,rfl⟩
  rintro _ ⟨z,rfl⟩
  simp! only[]
  have bd:i*(C+1)<=51*51:=Nat.mul_le_mul (by lia) (by lia)
  refine⟨by lia,.val (.int (i:Nat)),?_⟩
  have e:(wL ((i+1)*(C+1)) fun k=>D.tup [.int ((k/(C+1):Nat):Int),.int ((k%(C+1):Nat):Int)])=(wL (i*(C+1)) fun k=>D.tup [.int ((k/(C+1):Nat):Int),.int ((k%(C+1):Nat):Int)])++wL (C+1) fun c=> .tup [.int (i:Nat),.int (c:Nat)]:=by
   rw[show(i+1)*(C+1)=i*(C+1)+(C+1)from Nat.succ_mul i (C+1),wL_add (i*(C+1)) (C+1)]
   congr 1
   exact zbC fun c hc=>by(try dsimp only);rw[(dm hc).1,(dm hc).2]
  rw[e]
 ·rintro _ ⟨s2,rfl⟩
  simp! only[]
theorem ctie_ok {r c:Nat}(hr:r<R+1)(hc:c<C+1):Ok (zdl [zaA R C S L G,tT (R+1) (C+1) f,.int (r:Nat),.int (c:Nat)]) fun x=>x= .own [.tup [.int (r:Nat),.int ((R+1+c:Nat):Int),.int (if sg r c=1 then up f G r c else dn f L r c)],.tup [.int ((R+1+c:Nat):Int),.int (r:Nat),.int (if sg r c=1 then dn f L r c else up f G r c)]]:=by
 have e2:((R+1:Nat):Int)+(c:Int)=((R+1+c:Nat):Int):=by lia
 simp! only[↓zdl,↓zgi,e2,zap _ hr,zap _ hc]
 refine(zje r c).mono ?_
 rintro _ rfl
 simp! only[]
 refine⟨fun z=>?_,fun z=>?_⟩
 ·rw[if_pos z,if_pos z];rfl
 ·simp! only[↓zf7]
  rw[if_neg z,if_neg z];rfl
theorem ties_ok (hR:R<=50)(hC:C<=50):Ok (zcx [zaA R C S L G]) fun x=>x= .own (tieL (2*((R+1)*(C+1))) (ftl (R+1) (C+1)) (ftu (R+1) (C+1)) (fta (C+1) (pln S) L G)):=by
 simp! only[↓zcx,↓zfP]
 refine(zjn (by lia) (by lia)).mono ?_
 rintro _ rfl
 simp! only[↓zfG]
 refine(cells_ok hR hC).mono ?_
 rintro _ rfl
 obtain⟨N,hN⟩:∃N,N=(R+1)*(C+1):=⟨_,rfl⟩
 have N9:N<=51*51:=by rw[hN];exact Nat.mul_le_mul (by lia) (by lia)
 rw[<-hN]
 simp! only[]
 refine za5 (fun i ρ=>∃s3 s4,ρ=[.val (zaA R C S L G),.val (tT (R+1) (C+1) (pln S)),.own (tieL (2*i) (ftl (R+1) (C+1)) (ftu (R+1) (C+1)) (fta (C+1) (pln S) L G)),s3,s4]) ⟨_,_,rfl⟩ ?_ ?_
 ·rintro k _ hk ⟨s3,s4,rfl⟩
  have q1:k/(C+1)<R+1:=Nat.div_lt_of_lt_mul (by rw[Nat.mul_comm,<-hN];exact hk)
  have q2:k%(C+1)<C+1:=Nat.mod_lt _ (by lia)
  simp! only[↓zfg]
  refine(ctie_ok q1 q2).mono ?_
  rintro _ rfl
  simp! only[tieL,za7]
  refine⟨by lia,.val (.int ((k/(C+1):Nat):Int)),.val (.int ((k%(C+1):Nat):Int)),?_⟩
  rw[show 2*(k+1)=2*k+1+1 by lia,zbb (2*k+1),zbb (2*k),List.append_assoc]
  have a1:(2*k)%2=0:=by lia
  have a2:(2*k)/2=k:=by lia
  have a3:(2*k+1)%2≠0:=by lia
  have a4:(2*k+1)/2=k:=by lia
  have b1:ftl (R+1) (C+1) (2*k)=k/(C+1):=by unfold ftl;rw[if_pos a1,a2]
  have b2:ftu (R+1) (C+1) (2*k)=R+1+k%(C+1):=by unfold ftu;rw[if_pos a1,a2]
  have b3:ftl (R+1) (C+1) (2*k+1)=R+1+k%(C+1):=by unfold ftl;rw[if_neg a3,a4]
  have b4:ftu (R+1) (C+1) (2*k+1)=k/(C+1):=by unfold ftu;rw[if_neg a3,a4]
  have b5:fta (C+1) (pln S) L G (2*k)=if sg (k/(C+1)) (k%(C+1))=1 then up (pln S) G (k/(C+1)) (k%(C+1))else dn (pln S) L (k/(C+1)) (k%(C+1)):=by unfold fta;rw[if_pos a1,a2]
  have b6:fta (C+1) (pln S) L G (2*k+1)=if sg (k/(C+1)) (k%(C+1))=1 then dn (pln S) L (k/(C+1)) (k%(C+1))else up (pln S) G (k/(C+1)) (k%(C+1)):=by unfold fta;rw[if_neg a3,a4]
  rw[b1,b2,b3,b4,b5,b6]
  rfl
 ·rintro _ ⟨s3,s4,rfl⟩
  simp! only[]
end
section
variable {R C:Nat} {S L G f:Nat->Nat->Int}
theorem znA (hb:0<b)(h:q<2*(a*b)):q/2/b<a/\q/2%b<b:=by
 have h1:q/2<a*b:=by lia
 exact⟨Nat.div_lt_of_lt_mul (by rw[Nat.mul_comm];exact h1),Nat.mod_lt _ hb⟩
theorem ftl_lt (hb:0<b)(h:q<2*(a*b)):ftl a b q<a+b:=by
 have:=znA hb h;unfold ftl;split<;>lia
theorem ftu_lt (hb:0<b)(h:q<2*(a*b)):ftu a b q<a+b:=by
 have:=znA hb h;unfold ftu;split<;>lia
theorem ft_ne (hb:0<b)(h:q<2*(a*b)):ftl a b q≠ftu a b q:=by
 have:=znA hb h;unfold ftl ftu;split<;>lia
theorem fit_of (h0:h r<=h (R+1+c)+(if sg r c=1 then up f G r c else dn f L r c))(h1:h (R+1+c)<=h r+(if sg r c=1 then dn f L r c else up f G r c)):L r c<=shf (R+1) f h r c/\shf (R+1) f h r c<=G r c:=by
 unfold shf
 have:sg r c=1\/sg r c= -1:=by unfold sg;split<;>simp
 unfold up dn at h0 h1
 rcases this with e|e
 ·rw[if_pos e]at h0 h1;rw[e];lia
 ·rw[if_neg (by lia)]at h0 h1;rw[e];lia
theorem ft_at (hr:r<a)(hc:c<b):2*(r*b+c)+1<2*(a*b)/\ftl a b (2*(r*b+c))=r/\ftu a b (2*(r*b+c))=a+c/\ftl a b (2*(r*b+c)+1)=a+c/\ftu a b (2*(r*b+c)+1)=r:=by
 have a1:(2*(r*b+c))%2=0:=by lia
 have a2:(2*(r*b+c))/2=r*b+c:=by lia
 have a3:(2*(r*b+c)+1)%2≠0:=by lia
 have a4:(2*(r*b+c)+1)/2=r*b+c:=by lia
 have d:=dm (i:=r) hc
 have lt:r*b+c<a*b:=by
  have:(r+1)*b<=a*b:=Nat.mul_le_mul_right b (by lia)
  rw[Nat.succ_mul]at this
  lia
 unfold ftl ftu
 rw[if_pos a1,if_pos a1,if_neg a3,if_neg a3,a2,a4,d.1,d.2]
 exact⟨by lia,rfl,rfl,rfl,rfl⟩
theorem fta_at (hc:c<b):fta b f L G (2*(r*b+c))=(if sg r c=1 then up f G r c else dn f L r c)/\fta b f L G (2*(r*b+c)+1)=(if sg r c=1 then dn f L r c else up f G r c):=by
 have a1:(2*(r*b+c))%2=0:=by lia
 have a2:(2*(r*b+c))/2=r*b+c:=by lia
 have a3:(2*(r*b+c)+1)%2≠0:=by lia
 have a4:(2*(r*b+c)+1)/2=r*b+c:=by lia
 have d:=dm (i:=r) hc
 unfold fta
 rw[if_pos a1,if_neg a3,a2,a4,d.1,d.2]
 exact⟨rfl,rfl⟩
end
theorem turnI (c1:1<=c)(f:Nat->Int)(h:f c=f 0):cutD (wI c f) (some 1) none++cutD (wI c f) none (some 1)=wI c fun i=>f (i+1):=by
 obtain⟨e,rfl⟩:∃e,c=e+1:=⟨c-1,by lia⟩
 rw[show cutD (wI (e+1) f) (some 1) none=(wI (e+1) f).drop 1 from zjG _ 1,show cutD (wI (e+1) f) none (some 1)=(wI (e+1) f).take 1 from zi7 _ 1]
 rw[show wI (e+1) (fun i=>f (i+1))=(wI e fun i=>f (i+1))++[.int (f (e+1))]from zbb _ _,h]
 have s:wI (e+1) f= .int (f 0)::wI e fun i=>f (i+1):=by simp[wL,List.range_succ_eq_map,Function.comp_def]
 rw[s]
 rfl
section
variable {R C:Nat} {S L G f:Nat->Nat->Int}
def zbf (a:Nat)(W:Nat->Nat)(i:Nat):D:= .tup [.int (min2 (W i) (W (i+1))),.int (max2 (W i) (W (i+1))-(a:Int))]
theorem tour_ok (c1:1<=c)(c9:c<=1000)(V:Nat->Nat)(h0:V c=V 0)(h1:V (c+1)=V 1):
  Ok (zfL [.lst (wI c fun i=>(V i:Nat)),.int (a:Nat)]) fun x=>∃W:Nat->Nat,(W=V/\V 0<a\/W=(fun i=>V (i+1))/\a<=V 0)/\x= .own (wL c (zbf a W)):=by
 have e0:atI (wI c fun i=>(V i:Nat)) 0=some (.int (V 0:Nat)):=by
  rw[show(0:Int)=((0:Nat):Int)from rfl,atI_n,zap _ (show 0<c by lia)]
 have t1:=turnI c1 (fun i=>((V i:Nat):Int)) (by(try dsimp only);rw[h0])
 have t2:=turnI c1 (fun i=>((V (i+1):Nat):Int)) (by(try dsimp only);rw[h1])
 have fin:∀(W:Nat->Nat) (d0:D) (hW:(W=V/\V 0<a\/W=(fun i=>V (i+1))/\a<=V 0)),Ok (zeY [.val d0,.val (.int (a:Nat)),.val (.lst (wI c fun i=>(W i:Nat))),.val (.lst (wI c fun i=>(W (i+1):Nat)))]) fun p=>p.1=wL c (zbf a W):=fun W d0 hW=>by
  simp! only[↓zeY,zip2D_w]
  refine⟨by lia,zaM (fun ρ=>∃y z,ρ=[.val (.int (a:Nat)),y,z]) (zbf a W) ⟨_,_,rfl⟩ ?_ ?_⟩
  ·rintro i _ hi ⟨y,z,rfl⟩
   simp! only[↓zhE]
   exact⟨rfl,_,_,rfl⟩
  ·rintro _ ⟨y,z,rfl⟩
   rfl
 simp! only[↓zfL,↓zh0,zap _ (show 0<c by lia)]
 have len:∀g:Nat->Int,g c=g 0->(cutD (wI c g) (some 1) none).length+(cutD (wI c g) none (some 1)).length<=16777216:=fun g hg=>by rw[<-List.length_append,turnI c1 g hg,za7];lia
 refine⟨fun z=>⟨len _ (by(try dsimp only);rw[h0]),?_⟩,fun z=>⟨len _ (by(try dsimp only);rw[h0]),?_⟩⟩
 ·rw[t1]
  refine(fin V _ (.inl ⟨rfl,by lia⟩)).mono ?_
  rintro⟨_,ρ⟩ rfl
  simp! only[]
  exact⟨V,.inl ⟨rfl,by lia⟩,rfl⟩
 ·rw[t1]
  refine⟨len _ (by(try dsimp only);rw[h1]),?_⟩
  rw[t2]
  refine(fin (fun i=>V (i+1)) _ (.inr ⟨rfl,by lia⟩)).mono ?_
  rintro⟨_,ρ⟩ rfl
  simp! only[]
  exact⟨_,.inr ⟨rfl,by lia⟩,rfl⟩
end
theorem zkD (g:Nat->Int):∀c:Nat,sumR c (fun i=>g (i+1))+g 0=sumR c g+g c
 |0=>rfl
 |c+1=>by
  have:=zkD g c
  show sumR c (fun i=>g (i+1))+g (c+1)+g 0=sumR c g+g c+g (c+1)
  lia
structure Tour (R C:Nat) (S L G:Nat->Nat->Int) (c:Nat) (W qs:Nat->Nat):Prop where
 pos:1<=c
 c9:c<=1000
 per:∀i,W (i+c)=W i
 row:W 0<R+1
 apart:∀i j,i<j->j<c->W i≠W j
 tie:∀i,qs i<2*((R+1)*(C+1))/\ftl (R+1) (C+1) (qs i)=W i/\ftu (R+1) (C+1) (qs i)=W (i+1)
 neg:sumR c (fun i=>fta (C+1) (pln S) L G (qs i))<0
def zn8 (R C:Nat)(L G:Nat->Nat->Int)(f:Nat->Nat->Int):Prop:=∀r c,r<R+1->c<C+1->L r c<=f r c/\f r c<=G r c
section
variable {R C:Nat} {S L G:Nat->Nat->Int}
theorem znu (hR:R<=20)(hC:C<=20):Ok (zaT [zaA R C S L G]) fun x=>(∃h,zn8 R C L G (shf (R+1) (pln S) h)/\x= .val (.tup [.str "floor",tT (R+1) (C+1) (shf (R+1) (pln S) h)]))\/∃c W qs,Tour R C S L G c W qs/\x= .val (.tup [.str "tour",.lst (wL c (zbf (R+1) W))]):=by
 have b0:0<C+1:=by lia
 obtain⟨n,hn⟩:∃n,n=R+C+1:=⟨_,rfl⟩
 have en:((R+1:Nat):Int)+((C+1:Nat):Int)=((n+1:Nat):Int):=by lia
 simp! only[↓zaT,↓zdC,↓zcu,↓zdG,zap _ (show 0<R+1 by lia),en]
 refine(ties_ok (by lia) (by lia)).mono ?_
 rintro _ rfl
 obtain⟨m,hm⟩:∃m,m=2*((R+1)*(C+1)):=⟨_,rfl⟩
 obtain⟨tl,htl⟩:∃tl,tl=ftl (R+1) (C+1):=⟨_,rfl⟩
 obtain⟨tu,htu⟩:∃tu,tu=ftu (R+1) (C+1):=⟨_,rfl⟩
 obtain⟨ta,hta⟩:∃ta,ta=fta (C+1) (pln S) L G:=⟨_,rfl⟩
 have hl:∀q,q<m->tl q<n+1:=fun q hq=>by rw[hm]at hq;have:=ftl_lt b0 hq;rw[htl];lia
 have hu:∀q,q<m->tu q<n+1:=fun q hq=>by rw[hm]at hq;have:=ftu_lt b0 hq;rw[htu];lia
 have ne:∀q,q<m->tl q≠tu q:=fun q hq=>by rw[hm]at hq;rw[htl,htu];exact ft_ne b0 hq
 rw[<-hm,<-htl,<-htu,<-hta]
 simp! only[zap _ (show 0<R+1 by lia),en]
 refine(zn7 (s:=0) (by lia) (by lia) (by lia) hl hu ne).mono ?_
 rintro _ ⟨d,u,f,⟨us,b,hf⟩,rfl⟩
 simp! only[]
 rcases hf with⟨rfl,h⟩|⟨l,rfl,h⟩
 ·have kept:∀q,q<m->Kept tl tu ta d q:=fun q hq=>b.kept (t:=n) h hq
  have at0:∀r c,r<R+1->c<C+1->(∀y,d (R+1+c)=some y->∃x,d r=some x/\x<=y+(if sg r c=1 then up (pln S) G r c else dn (pln S) L r c))/\(∀y,d r=some y->∃x,d (R+1+c)=some x/\x<=y+(if sg r c=1 then dn (pln S) L r c else up (pln S) G r c)):=fun r c hr hc=>by
   obtain⟨f1,f2,f3,f4,f5⟩:=ft_at hr hc
   have k0:=kept (2*(r*(C+1)+c)) (by rw[hm];lia)
   have k1:=kept (2*(r*(C+1)+c)+1) (by rw[hm];lia)
   obtain⟨g1,g2⟩:=fta_at (f:=pln S) (L:=L) (G:=G) (r:=r) hc
   unfold Kept at k0 k1
   rw[htl,htu,hta]at k0 k1
   rw[f2,f3,g1]at k0
   rw[f4,f5,g2]at k1
   exact⟨k0,k1⟩
  obtain⟨x0,hx0⟩:=b.st
  have dc:∀c,c<C+1->∃x,d (R+1+c)=some x:=fun c hc=>let⟨x,hx,_⟩:=(at0 0 c (by lia) hc).2 _ hx0;⟨x,hx⟩
  have dr:∀r,r<R+1->∃x,d r=some x:=fun r hr=>by
   obtain⟨y,hy⟩:=dc 0 (by lia)
   obtain⟨x,hx,_⟩:=(at0 r 0 hr (by lia)).1 y hy
   exact⟨x,hx⟩
  have dX:∀v,v<R+1+(C+1)->d v=some ((d v).getD 0):=fun v hv=>by
   by_cases z:v<R+1
   ·obtain⟨x,hx⟩:=dr v z;rw[hx];rfl
   ·obtain⟨x,hx⟩:=dc (v-(R+1)) (by lia)
    rw[show R+1+(v-(R+1))=v by lia]at hx
    rw[hx];rfl
  have el:(wL (n+1) fun v=>dO (d v))=wI (R+1+(C+1)) fun v=>(d v).getD 0:=by
   rw[show n+1=R+1+(C+1) by lia]
   exact zbC fun v hv=>by(try dsimp only);rw[dX v hv];rfl
  simp! only[uO,↓zd5]
  refine(zjn (by lia) (by lia)).mono ?_
  rintro _ rfl
  simp! only[el]
  refine(shift_ok (by lia) (by lia)).mono ?_
  rintro _ rfl
  simp! only[]
  refine .inl ⟨_,fun r c hr hc=>?_,rfl⟩
  obtain⟨a1,a2⟩:=at0 r c hr hc
  have e1:=dX r (by lia)
  have e2:=dX (R+1+c) (by lia)
  obtain⟨x,hx,lx⟩:=a1 _ e2
  obtain⟨y,hy,ly⟩:=a2 _ e1
  rw[e1]at hx;cases hx
  rw[e2]at hy;cases hy
  exact fit_of lx ly
 ·simp! only[uO]
  refine(loop_ok b h (by lia) hl hu ne).mono ?_
  rintro _ ⟨c,qs,c9,rd,rfl⟩
  obtain⟨V,hV⟩:∃V:Nat->Nat,V=fun i=>back u (back u l (n+1)) i:=⟨_,rfl⟩
  have per:∀i,V (i+c)=V i:=fun i=>by
   rw[hV]
   show back u (back u l (n+1)) (i+c)=back u (back u l (n+1)) i
   rw[Nat.add_comm i c,<-zcc,rd.home]
  have c1:=rd.pos
  rw[show(wI c fun i=>((back u (back u l (n+1)) i:Nat):Int))=wI c fun i=>((V i:Nat):Int) by rw[hV]]
  simp! only[]
  refine(tour_ok c1 (by lia) V (by have:=per 0;rwa[Nat.zero_add]at this) (by have:=per 1;rwa[Nat.add_comm]at this)).mono ?_
  rintro _ ⟨W,hW,rfl⟩
  simp! only[]
  have mo:∀i,V (i%c)=V i:=fun i=>by
   have h1:∀k j,V (j+k*c)=V j:=fun k=>by
    induction k with
    |zero=>intro j;rw[Nat.zero_mul,Nat.add_zero]
    |succ k ih=>intro j;rw[Nat.succ_mul,<-Nat.add_assoc,per,ih]
   have:=h1 (i/c) (i%c)
   rw[Nat.mul_comm,Nat.mod_add_div]at this
   exact this.symm
  have tie:∀i,qs (i%c)<m/\tl (qs (i%c))=V i/\tu (qs (i%c))=V (i+1):=fun i=>by
   obtain⟨t1,t2,t3⟩:=rd.tie (i%c) (Nat.mod_lt _ c1)
   refine⟨t1,?_,?_⟩
   ·rw[t2,<-mo i,hV]
   ·rw[t3,<-mo (i+1),<-Nat.mod_add_mod,mo,hV]
  have ng:sumR c (fun i=>ta (qs (i%c)))<0:=by
   rw[zaw fun i hi=>by rw[Nat.mod_eq_of_lt hi]]
   exact rd.neg
  rcases hW with⟨rfl,r0⟩|⟨rfl,r0⟩
  ·refine .inr ⟨c,W,fun i=>qs (i%c),⟨c1,by lia,per,r0,fun i j hij hj=>by rw[hV];exact rd.apart hij hj,fun i=>?_,by rw[<-hta];exact ng⟩,rfl⟩
   have:=tie i
   rw[hm,htl,htu]at this
   exact this
  ·refine .inr ⟨c,fun i=>V (i+1),fun i=>qs ((i+1)%c),⟨c1,by lia,fun i=>by(try dsimp only);rw[show i+c+1=i+1+c by lia,per],?_,fun i j hij hj=>?_,fun i=>?_,?_⟩,rfl⟩
   ·obtain⟨t1,t2,t3⟩:=tie 0
    rw[hm]at t1
    have q:=znA b0 t1
    rw[htl]at t2
    rw[htu]at t3
    (try dsimp only)
    rw[Nat.zero_add]at t3
    rw[Nat.zero_add,<-t3]
    unfold ftl at t2
    unfold ftu
    split at t2
    ·rename_i z;rw[if_pos z];lia
    ·rename_i z;rw[if_neg z];exact q.1
   ·by_cases z:j+1<c
    ·rw[hV];exact rd.apart (by lia) z
    ·have e:j+1=0+c:=by lia
     (try dsimp only)
     rw[e,per]
     rw[hV]
     exact(rd.apart (by lia:0<i+1) (by lia)).symm
   ·have:=tie (i+1)
    rw[hm,htl,htu]at this
    exact this
   ·rw[<-hta]
    have t:=zkD (fun i=>ta (qs (i%c))) c
    have e:(c:Nat)%c=0%c:=by rw[Nat.mod_self,Nat.zero_mod]
    (try dsimp only at t)
    rw[e]at t
    (try dsimp only)
    lia
end
def cr (W:Nat->Nat)(i:Nat):Nat:=if i%2=0 then W i else W (i+1)
def cc (a:Nat)(W:Nat->Nat)(i:Nat):Nat:=if i%2=0 then W (i+1)-a else W i-a
section
variable {R C:Nat} {S L G:Nat->Nat->Int} {c:Nat} {W qs:Nat->Nat}
theorem Tour.alt (t:Tour R C S L G c W qs)(i:Nat):(qs i%2=0/\W i=qs i/2/(C+1)/\W (i+1)=R+1+qs i/2%(C+1)/\W i<R+1/\qs i/2%(C+1)<C+1)\/(qs i%2≠0/\W i=R+1+qs i/2%(C+1)/\W (i+1)=qs i/2/(C+1)/\W (i+1)<R+1/\qs i/2%(C+1)<C+1):=by
 obtain⟨h1,h2,h3⟩:=t.tie i
 have q:=znA (show 0<C+1 by lia) h1
 unfold ftl at h2
 unfold ftu at h3
 by_cases z:qs i%2=0
 ·rw[if_pos z]at h2 h3
  exact .inl ⟨z,h2.symm,h3.symm,by lia,q.2⟩
 ·rw[if_neg z]at h2 h3
  exact .inr ⟨z,h2.symm,h3.symm,by lia,q.2⟩
theorem Tour.par (t:Tour R C S L G c W qs):∀i,(i%2=0↔W i<R+1)
 |0=>⟨fun _=>t.row,fun _=>rfl⟩
 |i+1=>by
  have ih:=t.par i
  have a:=t.alt i
  constructor
  ·intro z
   have:¬W i<R+1:=fun y=>by have:=ih.mpr y;lia
   lia
  ·intro z
   have:¬W i<R+1:=fun y=>by lia
   have:¬i%2=0:=fun y=>this (ih.mp y)
   lia
theorem Tour.even (t:Tour R C S L G c W qs):c%2=0:=(t.par c).mpr (by have:=t.per 0;rw[Nat.zero_add]at this;rw[this];exact t.row)
theorem Tour.cell (t:Tour R C S L G c W qs)(i:Nat):cr W i=qs i/2/(C+1)/\cc (R+1) W i=qs i/2%(C+1)/\cr W i<R+1/\cc (R+1) W i<C+1/\(qs i%2=i%2)/\zbf (R+1) W i= .tup [.int (cr W i:Nat),.int (cc (R+1) W i:Nat)]:=by
 have a:=t.alt i
 have p:=t.par i
 unfold cr cc zbf
 by_cases z:i%2=0
 ·have y:=p.mp z
  rw[if_pos z,if_pos z]
  have m1:min2 (W i:Int) (W (i+1))=W i:=by unfold min2;split<;>lia
  have m2:max2 (W i:Int) (W (i+1))=W (i+1):=by unfold max2;split<;>lia
  refine⟨by lia,by lia,by lia,by lia,by lia,?_⟩
  rw[m1,m2,show(W (i+1):Int)-((R+1:Nat):Int)=((W (i+1)-(R+1):Nat):Int) by lia]
 ·have y:¬W i<R+1:=fun y=>z (p.mpr y)
  rw[if_neg z,if_neg z]
  have m1:min2 (W i:Int) (W (i+1))=W (i+1):=by unfold min2;split<;>lia
  have m2:max2 (W i:Int) (W (i+1))=W i:=by unfold max2;split<;>lia
  refine⟨by lia,by lia,by lia,by lia,by lia,?_⟩
  rw[m1,m2,show(W i:Int)-((R+1:Nat):Int)=((W i-(R+1):Nat):Int) by lia]
def oW (a:Nat)(W:Nat->Nat)(i:Nat):Int:=sg (cr W i) (cc a W i)*sg i 0
theorem zgs (r c:Nat):sg r c=1\/sg r c= -1:=by unfold sg;split<;>simp
theorem zjJ (a:Nat)(W:Nat->Nat)(i:Nat):oW a W i=1\/oW a W i= -1:=by
 unfold oW
 rcases zgs (cr W i) (cc a W i)with e|e<;>rcases zgs i 0 with e'|e'<;>rw[e,e']<;>simp
theorem Tour.wt (t:Tour R C S L G c W qs)(le:∀r c,r<R+1->c<C+1->L r c<=G r c)(i:Nat):fta (C+1) (pln S) L G (qs i)=max2 (oW (R+1) W i*L (cr W i) (cc (R+1) W i)) (oW (R+1) W i*G (cr W i) (cc (R+1) W i))-oW (R+1) W i*pln S (cr W i) (cc (R+1) W i):=by
 obtain⟨e1,e2,l1,l2,e3,-⟩:=t.cell i
 have lg:=le _ _ l1 l2
 unfold fta
 rw[<-e1,<-e2,e3]
 have s0:sg i 0=if i%2=0 then 1 else-1:=by unfold sg;rw[Nat.add_zero]
 unfold oW up dn
 rw[s0]
 generalize cr W i=r at lg ⊢
 generalize cc (R+1) W i=k at lg ⊢
 by_cases z:i%2=0
 ·rw[if_pos z,if_pos z]
  rcases zgs r k with e|e
  ·rw[if_pos e,e];unfold max2;split<;>lia
  ·rw[if_neg (by lia),e];unfold max2;split<;>lia
 ·rw[if_neg z,if_neg z]
  rcases zgs r k with e|e
  ·rw[if_pos e,e];unfold max2;split<;>lia
  ·rw[if_neg (by lia),e];unfold max2;split<;>lia
theorem Tour.c4 (t:Tour R C S L G c W qs)(le:∀r c,r<R+1->c<C+1->L r c<=G r c):4<=c:=by
 have ev:=t.even
 have p:=t.pos
 by_cases z:c=2
 ·exfalso
  subst z
  have w0:=t.wt le 0
  have w1:=t.wt le 1
  have n:=t.neg
  have pe:=t.per 0
  have er:cr W 1=cr W 0:=by unfold cr;simp;exact pe
  have ec:cc (R+1) W 1=cc (R+1) W 0:=by unfold cc;simp
  have eo:oW (R+1) W 1= -oW (R+1) W 0:=by
   unfold oW
   rw[er,ec,show sg 1 0= -1 from rfl,show sg 0 0=1 from rfl];lia
  rw[er,ec,eo]at w1
  have lg:=le _ _ (t.cell 0).2.2.1 (t.cell 0).2.2.2.1
  have n':0+fta (C+1) (pln S) L G (qs 0)+fta (C+1) (pln S) L G (qs 1)<0:=n
  rw[w0,w1]at n'
  generalize cr W 0=r at lg n'
  generalize cc (R+1) W 0=k at lg n'
  rcases zjJ (R+1) W 0 with e|e
  ·rw[e]at n';unfold max2 at n';split at n'<;>split at n'<;>lia
  ·rw[e]at n';unfold max2 at n';split at n'<;>split at n'<;>lia
 ·lia
end
theorem zhN {f g:Nat->Int}:∀{c},(∀i,i<c->f i<=g i)->sumR c f<=sumR c g
 |0,_=>Int.le_refl _
 |c+1,h=>by have a:=zhN (c:=c) fun i hi=>h i (Nat.lt_succ_of_lt hi);have b:=h c (by lia);show sumR c f+f c<=sumR c g+g c;lia
theorem zjL (z:Nat->Int):∀c,sumR c (fun i=>z i-z (i+1))=z 0-z c
 |0=>by show(0:Int)=z 0-z 0;lia
 |c+1=>by show sumR c (fun i=>z i-z (i+1))+(z c-z (c+1))=z 0-z (c+1);rw[zjL z c];lia
theorem sg_r (r c:Nat):sg (r+1) c= -sg r c:=by unfold sg;split<;>split<;>lia
theorem sg_c (r c:Nat):sg r (c+1)= -sg r c:=by unfold sg;split<;>split<;>lia
theorem nought {R C:Nat}(h:∀r c,r<R->c<C->four e r c=0):∀r c,r<R+1->c<C+1->e r c=sg r c*(sg r 0*e r 0-(e 0 0-sg 0 c*e 0 c)):=by
 have row0:∀c,e 0 c=sg 0 c*(sg 0 0*e 0 0-(e 0 0-sg 0 c*e 0 c)):=fun c=>by
  rw[show sg 0 0=1 from rfl]
  rcases zgs 0 c with z|z<;>rw[z]<;>lia
 intro r
 induction r with
 |zero=>exact fun c _ _=>row0 c
 |succ r ih=>
  intro c
  induction c with
  |zero=>
   intro _ _
   rw[show sg 0 0=1 from rfl]
   rcases zgs (r+1) 0 with z|z<;>rw[z]<;>lia
  |succ c ihc=>
   intro hr hc
   have f:=h r c (by lia) (by lia)
   have a1:=ih c (by lia) (by lia)
   have a2:=ih (c+1) (by lia) (by lia)
   have a3:=ihc hr (by lia)
   unfold four at f
   rw[sg_c 0 c]at a2 ⊢
   rw[sg_c r c]at a2
   rw[sg_r r c,sg_r r 0]at a3
   rw[sg_r r (c+1),sg_c r c,sg_r r 0]
   rcases zgs r c with z|z<;>rcases zgs r 0 with z'|z'<;>rcases zgs 0 c with z''|z''<;>rw[z,z',z'']at a1 a2<;>rw[z,z',z'']at a3<;>rw[z,z',z'']<;>lia
section
variable {R C:Nat} {S L G:Nat->Nat->Int} {c:Nat} {W qs:Nat->Nat}
theorem Tour.no (t:Tour R C S L G c W qs)(le:∀r c,r<R+1->c<C+1->L r c<=G r c)(fi:zn8 R C L G f)(fo:∀r c,r<R->c<C->four f r c=S r c):False:=by
 obtain⟨e,he⟩:∃e:Nat->Nat->Int,e=fun r c=>f r c-pln S r c:=⟨_,rfl⟩
 have ne:=nought (R:=R) (C:=C) (e:=e) fun r c hr hc=>by
  have h1:=fo r c hr hc
  have h2:=zjs S r c
  rw[he]
  unfold four at h1 h2 ⊢
  (try dsimp only)
  lia
 obtain⟨z,hz⟩:∃z:Nat->Int,z=fun i=>if i%2=0 then sg (W i) 0*e (W i) 0 else e 0 0-sg 0 (W i-(R+1))*e 0 (W i-(R+1)):=⟨_,rfl⟩
 have step:∀i,oW (R+1) W i*e (cr W i) (cc (R+1) W i)=z i-z (i+1):=fun i=>by
  obtain⟨-,-,l1,l2,-,-⟩:=t.cell i
  have n1:=ne _ _ l1 l2
  have s0:sg i 0=if i%2=0 then 1 else-1:=by unfold sg;rw[Nat.add_zero]
  unfold oW
  rw[n1,s0,hz]
  (try dsimp only)
  generalize e 0 0=e00
  by_cases y:i%2=0
  ·have y':¬(i+1)%2=0:=by lia
   rw[if_pos y,if_pos y,if_neg y']
   have q1:cr W i=W i:=by unfold cr;rw[if_pos y]
   have q2:cc (R+1) W i=W (i+1)-(R+1):=by unfold cc;rw[if_pos y]
   rw[q1,q2]
   generalize sg (W i) 0*e (W i) 0=x1
   generalize sg 0 (W (i+1)-(R+1))*e 0 (W (i+1)-(R+1))=x2
   rcases zgs (W i) (W (i+1)-(R+1))with w|w<;>rw[w]<;>lia
  ·have y':(i+1)%2=0:=by lia
   rw[if_neg y,if_neg y,if_pos y']
   have q1:cr W i=W (i+1):=by unfold cr;rw[if_neg y]
   have q2:cc (R+1) W i=W i-(R+1):=by unfold cc;rw[if_neg y]
   rw[q1,q2]
   generalize sg (W (i+1)) 0*e (W (i+1)) 0=x1
   generalize sg 0 (W i-(R+1))*e 0 (W i-(R+1))=x2
   rcases zgs (W (i+1)) (W i-(R+1))with w|w<;>rw[w]<;>lia
 have tel:sumR c (fun i=>oW (R+1) W i*e (cr W i) (cc (R+1) W i))=0:=by
  rw[zaw fun i _=>step i,zjL]
  have p:=t.per 0
  rw[Nat.zero_add]at p
  rw[hz]
  (try dsimp only)
  rw[if_pos t.even,if_pos rfl,p]
  lia
 have low:sumR c (fun i=>oW (R+1) W i*e (cr W i) (cc (R+1) W i))<=sumR c fun i=>fta (C+1) (pln S) L G (qs i):=zhN fun i _=>by
  obtain⟨-,-,l1,l2,-,-⟩:=t.cell i
  have lg:=fi _ _ l1 l2
  rw[t.wt le i,he]
  (try dsimp only)
  generalize cr W i=r at lg ⊢
  generalize cc (R+1) W i=k at lg ⊢
  rcases zjJ (R+1) W i with w|w
  ·rw[w];unfold max2;split<;>lia
  ·rw[w];unfold max2;split<;>lia
 have:=t.neg
 lia
end
theorem zhK (n:Nat):((List.range n).map fun _=>true).all id=true:=by simp
theorem pl_tT' (R C:Nat)(f:Nat->Nat->Int):Pl 2 (tT R C f):=znk (pl_w fun r=>znk (pl_w fun c=>pl_int 0 _))
theorem zhC {o x:Int}(h:o=1\/o= -1):zjN o x=true:=zcG (by rcases h with e|e<;>rw[e]<;>decide)
def kW (a:Nat)(W:Nat->Nat)(i:Nat):List Int:=[(cr W i:Int),(cc a W i:Int)]
section
variable {R C:Nat} {S L G f:Nat->Nat->Int} {c:Nat} {W qs:Nat->Nat}
theorem Tour.keys (t:Tour R C S L G c W qs)(le:∀r c,r<R+1->c<C+1->L r c<=G r c)(hij:i<j)(hj:j<c):kW (R+1) W i≠kW (R+1) W j:=fun e=>by
 have c4:=t.c4 le
 have ev:=t.even
 unfold kW at e
 have e1:(cr W i:Int)=cr W j:=by injection e
 have e2:(cc (R+1) W i:Int)=cc (R+1) W j:=by injection e with _ e;injection e
 have a1:=t.alt i
 have a2:=t.alt j
 have p1:=t.par i
 have p2:=t.par j
 have per:=t.per 0
 rw[Nat.zero_add]at per
 unfold cr at e1
 unfold cc at e2
 by_cases z:i%2=0<;>by_cases y:j%2=0
 ·rw[if_pos z,if_pos y]at e1
  exact t.apart i j hij hj (by lia)
 ·rw[if_pos z,if_neg y]at e1 e2
  have q1:=p1.mp z
  have q2:¬W j<R+1:=fun q=>y (p2.mpr q)
  have w1:W (i+1)=W j:=by lia
  have w2:W i=W (j+1):=by lia
  by_cases h:i+1=j
  ·subst h
   by_cases h2:i+1+1<c
   ·exact t.apart i (i+1+1) (by lia) h2 w2
   ·have:i+1+1=c:=by lia
    rw[this,per]at w2
    exact t.apart 0 i (by lia) (by lia) w2.symm
  ·exact t.apart (i+1) j (by lia) hj w1
 ·rw[if_neg z,if_pos y]at e1 e2
  have q1:¬W i<R+1:=fun q=>z (p1.mpr q)
  have q2:=p2.mp y
  have w1:W (i+1)=W j:=by lia
  by_cases h:i+1=j
  ·subst h
   have w2:W i=W (i+1+1):=by lia
   by_cases h2:i+1+1<c
   ·exact t.apart i (i+1+1) (by lia) h2 w2
   ·have:i+1+1=c:=by lia
    rw[this,per]at w2
    exact t.apart 0 i (by lia) (by lia) w2.symm
  ·exact t.apart (i+1) j (by lia) hj w1
 ·rw[if_neg z,if_neg y]at e1 e2
  have q1:¬W i<R+1:=fun q=>z (p1.mpr q)
  have q2:¬W j<R+1:=fun q=>y (p2.mpr q)
  exact t.apart i j hij hj (by lia)
theorem turnW (c1:1<=c)(f:Nat->D)(h:f c=f 0):cutD (wL c f) (some 1) none++cutD (wL c f) none (some 1)=wL c fun i=>f (i+1):=by
 obtain⟨e,rfl⟩:∃e,c=e+1:=⟨c-1,by lia⟩
 rw[show cutD (wL (e+1) f) (some 1) none=(wL (e+1) f).drop 1 from zjG _ 1,show cutD (wL (e+1) f) none (some 1)=(wL (e+1) f).take 1 from zi7 _ 1]
 rw[show wL (e+1) (fun i=>f (i+1))=(wL e fun i=>f (i+1))++[f (e+1)]from zbb _ _,h]
 have s:wL (e+1) f=f 0::wL e fun i=>f (i+1):=by simp[wL,List.range_succ_eq_map,Function.comp_def]
 rw[s]
 rfl
theorem cell_in {r k:Nat}(hr:r<R+1)(hc:k<C+1):Ok (ze9 [tT (R+1) (C+1) f,.int (r:Nat),.int (k:Nat)]) fun x=>x= .val (.bl true):=by
 simp! only[↓ze9,↓zib,zap _ (show 0<R+1 by lia)]
 exact⟨fun _=>⟨fun _=>⟨fun _=>by rw[decide_eq_true (by lia)],fun z=>absurd z (by lia)⟩,fun z=>absurd z (by lia)⟩,fun z=>absurd z (by lia)⟩
theorem Tour.two (t:Tour R C S L G c W qs)(le:∀r c,r<R+1->c<C+1->L r c<=G r c)(hi:i<c):W i≠W (i+1+1):=by
 have c4:=t.c4 le
 by_cases h1:i+1+1<c
 ·exact t.apart i _ (by lia) h1
 ·have p0:=t.per 0
  have p1:=t.per 1
  by_cases h2:i+1+1=c
  ·rw[h2,show c=0+c by lia,p0]
   exact(t.apart 0 i (by lia) hi).symm
  ·rw[show i+1+1=1+c by lia,p1]
   exact(t.apart 1 i (by lia) hi).symm
structure Wk (R C:Nat) (c:Nat) (W:Nat->Nat):Prop where
 c4:4<=c
 c9:c<=1000
 per:∀i,W (i+c)=W i
 even:c%2=0
 par:∀i,(i%2=0↔W i<R+1)
 lt:∀i,W i<R+1+(C+1)
 two:∀i,i<c->W i≠W (i+1+1)
theorem Wk.cell (t:Wk R C c W)(i:Nat):cr W i<R+1/\cc (R+1) W i<C+1/\zbf (R+1) W i= .tup [.int (cr W i:Nat),.int (cc (R+1) W i:Nat)]:=by
 have p:=t.par i
 have p':=t.par (i+1)
 have l:=t.lt i
 have l':=t.lt (i+1)
 unfold cr cc zbf
 by_cases z:i%2=0
 ·have y:=p.mp z
  have y':¬W (i+1)<R+1:=fun y=>by have:=p'.mpr y;lia
  rw[if_pos z,if_pos z]
  have m1:min2 (W i:Int) (W (i+1))=W i:=by unfold min2;split<;>lia
  have m2:max2 (W i:Int) (W (i+1))=W (i+1):=by unfold max2;split<;>lia
  refine⟨by lia,by lia,?_⟩
  rw[m1,m2,show(W (i+1):Int)-((R+1:Nat):Int)=((W (i+1)-(R+1):Nat):Int) by lia]
 ·have y:¬W i<R+1:=fun y=>z (p.mpr y)
  have y':=p'.mp (by lia)
  rw[if_neg z,if_neg z]
  have m1:min2 (W i:Int) (W (i+1))=W (i+1):=by unfold min2;split<;>lia
  have m2:max2 (W i:Int) (W (i+1))=W i:=by unfold max2;split<;>lia
  refine⟨by lia,by lia,?_⟩
  rw[m1,m2,show(W i:Int)-((R+1:Nat):Int)=((W i-(R+1):Nat):Int) by lia]
theorem Tour.wk (t:Tour R C S L G c W qs)(le:∀r c,r<R+1->c<C+1->L r c<=G r c):Wk R C c W:=
 ⟨t.c4 le,t.c9,t.per,t.even,t.par,fun i=>by have:=t.alt i;lia,fun i hi=>t.two le hi⟩
theorem step_ok (t:Wk R C c W)(i:Nat)(hi:i<c):Ok (ze5 [.int (i:Nat),zbf (R+1) W i,zbf (R+1) W (i+1)]) fun x=>x= .val (.bl true):=by
 rw[(t.cell i).2.2,(t.cell (i+1)).2.2]
 have tw:=t.two i hi
 have p1:=t.par i
 have p2:=t.par (i+1+1)
 simp! only[↓ze5,↓zh3]
 by_cases z:i%2=0
 ·have e1:(1:Int)-(i:Int)%2=1:=by lia
  have e2:(1:Int)-1=0:=rfl
  have a1:cr W i=W i:=by unfold cr;rw[if_pos z]
  have a2:cc (R+1) W i=W (i+1)-(R+1):=by unfold cc;rw[if_pos z]
  have a3:cr W (i+1)=W (i+1+1):=by unfold cr;rw[if_neg (by lia)]
  have a4:cc (R+1) W (i+1)=W (i+1)-(R+1):=by unfold cc;rw[if_neg (by lia)]
  rw[e1,a1,a2,a3,a4]
  simp! only[e2]
  exact⟨by rw[show(((W i:Nat):Int) !=((W (i+1+1):Nat):Int))=true from by rw[bne_iff_ne];lia],fun z=>absurd trivial z⟩
 ·have e1:(1:Int)-(i:Int)%2=0:=by lia
  have e2:(1:Int)-0=1:=rfl
  have a1:cr W i=W (i+1):=by unfold cr;rw[if_neg z]
  have a2:cc (R+1) W i=W i-(R+1):=by unfold cc;rw[if_neg z]
  have a3:cr W (i+1)=W (i+1):=by unfold cr;rw[if_pos (by lia)]
  have a4:cc (R+1) W (i+1)=W (i+1+1)-(R+1):=by unfold cc;rw[if_pos (by lia)]
  have g1:¬W i<R+1:=fun q=>z (p1.mpr q)
  have g2:¬W (i+1+1)<R+1:=fun q=>z (by have:=p2.mpr q;lia)
  rw[e1,a1,a2,a3,a4]
  simp! only[e2]
  exact⟨by rw[show(((W i-(R+1):Nat):Int) !=((W (i+1+1)-(R+1):Nat):Int))=true from by rw[bne_iff_ne];lia],fun z=>absurd trivial z⟩
theorem tour_isP (t:Wk R C c W):Ok (zfv [zaA R C S L G,.lst (wL c (zbf (R+1) W))]) fun x=>x= .val (.bl true):=by
 have c4:=t.c4
 have c9:=t.c9
 have ev:=t.even
 have cyc:zbf (R+1) W c=zbf (R+1) W 0:=by
  unfold zbf
  have p0:=t.per 0
  have p1:=t.per 1
  rw[Nat.zero_add]at p0
  rw[Nat.add_comm]at p1
  rw[p0,p1]
 simp! only[↓zfv,↓zil]
 refine⟨fun z=>absurd z (by lia),fun _=>⟨fun z=>absurd z (by lia),fun _=>?_⟩⟩
 simp! only[↓zhq,↓zht]
 refine⟨by lia,zaM (fun ρ=>∃s1 s2,ρ=[.val (zaA R C S L G),s1,s2]) (fun _=> .bl true) ⟨_,_,rfl⟩ ?_ ?_⟩
 ·rintro i _ hi ⟨s1,s2,rfl⟩
  rw[(t.cell i).2.2]
  simp! only[↓zhr]
  refine(cell_in (t.cell i).1 (t.cell i).2.1).mono ?_
  rintro _ rfl
  simp! only[]
  exact⟨_,_,rfl⟩
 rintro _ ⟨s1,s2,rfl⟩
 have tu:=turnW (show 1<=c by lia) (zbf (R+1) W) cyc
 have len:(cutD (wL c (zbf (R+1) W)) (some 1) none).length+(cutD (wL c (zbf (R+1) W)) none (some 1)).length<=16777216:=by rw[<-List.length_append,tu,za7];lia
 simp! only[zg0,zhK,↓zhw,↓zhI,tu]
 refine⟨len,?_⟩
 rw[zgt]
 refine⟨by rw[za7];lia,zaM (fun ρ=>∃s1 s2,ρ=[.val (.lst (wL c fun i=>zbf (R+1) W (i+1))),s1,s2]) (fun _=> .bl true) ⟨_,_,rfl⟩ ?_ ?_⟩
 ·rintro i _ hi ⟨s1,s2,rfl⟩
  simp! only[↓zhF,zap _ hi]
  refine(step_ok t i hi).mono ?_
  rintro _ rfl
  simp! only[]
  exact⟨_,_,rfl⟩
 rintro _ ⟨s1,s2,rfl⟩
 simp! only[zg0,zhK]
end
def Pot (ds:List D):Prop:=∃p:Int,ds=[.int p]
theorem zbM (h:Pot ds){m:Int}(h0:0<m)(h1:m<2^250):Ok (zar ds [.int m]) fun r=>∃(i:Nat) (ds':List D),(i:Int)<m/\Pot ds'/\r=(.val (.int i),ds'):=by
 obtain⟨p,rfl⟩:=h
 simp! only[↓zar,↓zgo]
 have m0:=Int.emod_nonneg p (Int.ne_of_gt h0)
 refine⟨h0,znl h0 h1,(p%m).toNat,[.int (p/m)],?_,⟨_,rfl⟩,?_⟩
 ·have:=Int.emod_lt_of_pos p h0;lia
 ·rw[show(((p%m).toNat:Nat):Int)=p%m by lia]
theorem deal_ok (c:Int):Ok (zdf [.int c]) fun r=>∃ds,Pot ds/\r= .own ds:=by
 simp! only[↓zdf,↓zgr]
 refine⟨fun _=>⟨by decide+kernel,by decide+kernel,_,⟨_,rfl⟩,rfl⟩,fun _=>?_⟩
 simp! only[↓zf2,↓zge]
 refine⟨rfl,za5 (fun _ ρ=>∃(a b:Int) (s3 s4:Sl),0<=b/\b<4294967296/\ρ=[.val (.int c),.val (.int a),.val (.int b),s3,s4]) ⟨0,_,.emp,.emp,by lia,by lia,rfl⟩ ?_ ?_⟩
 ·rintro i _ hi ⟨a,b,s3,s4,b0,b1,rfl⟩
  simp! only[↓zgg]
  have e1:0<=(b*48271+7919*(i:Int)+12345)%2147483647:=Int.emod_nonneg _ (by decide)
  have e2:(b*48271+7919*(i:Int)+12345)%2147483647<2147483647:=Int.emod_lt_of_pos _ (by decide)
  exact⟨zcG (by lia),zcG (by decide),zcG (by lia),mulOk_r (by decide),by decide+kernel,_,_,_,_,e1,by lia,rfl⟩
 ·rintro _ ⟨a,b,s3,s4,_,_,rfl⟩
  simp! only[]
  exact⟨_,⟨_,rfl⟩,rfl⟩
def tR (n m:Nat)(f:Nat->Nat->Int):List (List D):=(List.range n).map fun r=>wI m (f r)
def tC (n m:Nat)(f:Nat->Nat->Int):List Ch:=(List.range n).map fun r=> .l (wI m (f r))
abbrev tS (n m:Nat)(f:Nat->Nat->Int):Sl:= .tre (.lst (tC n m f))
theorem tR_l (n m:Nat)(f:Nat->Nat->Int):(tR n m f).map Ch.l=tC n m f:=by unfold tR tC;rw[List.map_map];rfl
theorem zfm (n m:Nat)(f:Nat->Nat->Int):(tC n m f).length=n:=by unfold tC;simp
theorem zgQ (f:Nat->Nat->Int)(h:r<n):(tC n m f)[r]? =some (.l (wI m (f r))):=by unfold tC;simp[h]
theorem tC_D (n m:Nat)(f:Nat->Nat->Int):(tC n m f).map Ch.D=wL n fun r=> .lst (wI m (f r)):=by unfold tC wL;rw[List.map_map];rfl
def updF (f:Nat->Nat->Int)(r c:Nat)(x:Int):Nat->Nat->Int:=fun a b=>if a=r/\b=c then x else f a b
theorem ziU (f:Nat->Nat->Int)(x:Int)(hr:r<n)(hc:c<m):(tC n m f).set r (.l ((wI m (f r)).set c (.int x)))=tC n m (updF f r c x):=by
 apply List.ext_getElem?
 intro i
 rw[List.getElem?_set]
 by_cases hi:i<n
 ·rw[zgQ (updF f r c x) hi]
  by_cases e:r=i
  ·subst e
   rw[if_pos rfl,if_pos (by rw[zfm];exact hr),wI_set _ _ hc]
   congr 2
   exact zbC fun j _=>by unfold updF;simp
  ·rw[if_neg e,zgQ _ hi]
   congr 2
   exact zbC fun j _=>by unfold updF;rw[if_neg fun z=>e z.1.symm]
 ·rw[if_neg (by lia),List.getElem?_eq_none (by rw[zfm];lia),List.getElem?_eq_none (by rw[zfm];lia)]
theorem znE {a z k Y:Int}(h1: -k<=a)(h2:a<=k)(z0:0<=z)(zY:z<=Y)(k0:0<=k): -(k*Y)<=a*z/\a*z<=k*Y:=by
 have e1:=Int.mul_le_mul_of_nonneg_right h2 z0
 have e2:=Int.mul_le_mul_of_nonneg_left zY k0
 have e3:=Int.mul_le_mul_of_nonneg_right h1 z0
 rw[Int.neg_mul]at e3
 exact⟨Int.le_trans (Int.neg_le_neg e2) e3,Int.le_trans e1 e2⟩
def Bd (R C:Nat)(p q:Int)(S L G:Nat->Nat->Int):Prop:=(∀r c,r<R->c<C-> -p<=S r c/\S r c<=p)/\∀r c,r<R+1->c<C+1->L r c<=G r c/\ -q<=L r c/\G r c<=q
theorem Bd.put {R C r c:Nat}{p q q':Int}{S L G L' G':Nat->Nat->Int}(h:Bd R C p q S L G)(hq:q<=q')(off:∀a b,¬(a=r/\b=c)->L' a b=L a b/\G' a b=G a b)(hi:L' r c<=G' r c/\ -q'<=L' r c/\G' r c<=q'):Bd R C p q' S L' G':=by
 refine⟨h.1,fun a b ha hb=>?_⟩
 by_cases z:a=r/\b=c
 ·obtain⟨rfl,rfl⟩:=z;exact hi
 ·obtain⟨e1,e2⟩:=off a b z
  have:=h.2 a b ha hb
  rw[e1,e2];lia
theorem Bd.mono {R C:Nat}{p q p' q':Int}(h:Bd R C p q S L G)(hp:p<=p')(hq:q<=q'):Bd R C p' q' S L G:=
 ⟨fun r c hr hc=>by have:=h.1 r c hr hc;lia,fun r c hr hc=>by have:=h.2 r c hr hc;lia⟩
theorem zi1 (f:Nat->Nat->Int)(r c:Nat)(x:Int):updF f r c x r c=x:=by unfold updF;rw[if_pos ⟨rfl,rfl⟩]
theorem zb9 (f:Nat->Nat->Int)(x:Int)(h:¬(a=r/\b=c)):updF f r c x a b=f a b:=by unfold updF;rw[if_neg h]
section
variable {R C:Nat} {by' Y:Int}
theorem tail4 (hR:R<=50)(hC:C<=50)(ds:List D)(S L G:Nat->Nat->Int)(bd:Bd R C (28*Y) (21*Y) S L G)(s3 s7 s8 s9 s10:Sl):
  Ok (zbP [.par ds,.emp,.val (.int by'),s3,tS (R+1) (C+1) L,tS (R+1) (C+1) G,tS R C S,s7,s8,s9,s10]) fun p=>∃S L G a,Bd R C (28*Y) (21*Y) S L G/\p=(.ret (.val (zaA R C S L G)),.par ds::a):=by
 simp! only[↓zbP,tC_D]
 refine(zhT (by lia) (by lia)).mono ?_
 rintro _ rfl
 simp! only[]
 refine(zhT (by lia) (by lia)).mono ?_
 rintro _ rfl
 simp! only[]
 refine(zhT (by lia) (by lia)).mono ?_
 rintro _ rfl
 simp! only[]
 exact⟨_,_,_,_,bd,rfl⟩
theorem tail5 (hR:R<=50)(hC:C<=50)(ds:List D)(S L G:Nat->Nat->Int)(bd:Bd R C (24*Y) (21*Y) S L G)(way r c:Nat)(more:Int)(hY:0<=Y)(m1: -(4*Y)<=more)(m2:more<=4*Y)(s3:Sl):
  Ok (zbL [.par ds,.emp,.val (.int by'),s3,tS (R+1) (C+1) L,tS (R+1) (C+1) G,tS R C S,.val (.int way),.val (.int r),.val (.int c),.val (.int more)]) fun p=>∃S L G a,Bd R C (28*Y) (21*Y) S L G/\p=(.ret (.val (zaA R C S L G)),.par ds::a):=by
 simp! only[↓zbL,tC_D]
 refine⟨fun _=>⟨by lia,zdc (fun ρ=>∃z,ρ=[.val (.int more),z]) (fun a=>wI C fun b=>S a b+more) ⟨_,rfl⟩ ?_ ?_⟩,fun _=>tail4 hR hC _ _ _ _ (bd.mono (by lia) (by lia)) _ _ _ _ _⟩
 ·rintro a _ ha ⟨z,rfl⟩
  simp! only[↓zdv,↓zcO,↓zcY]
  refine⟨by lia,zaM (fun ρ=>∃z,ρ=[.val (.int more),z]) (fun b=> .int (S a b+more)) ⟨_,rfl⟩ ?_ ?_⟩
  ·rintro b _ hb ⟨z,rfl⟩
   simp! only[↓zcP]
   exact⟨_,rfl⟩
  ·rintro _ ⟨z,rfl⟩
   exact⟨rfl,rfl,_,rfl⟩
 ·rintro _ ⟨z,rfl⟩
  simp! only[]
  have:=tail4 hR hC (by':=by') (Y:=Y) ds (fun a b=>S a b+more) L G ⟨fun a b ha hb=>by have:=bd.1 a b ha hb;dsimp only;lia,bd.2⟩ s3 (.val (.int way)) (.val (.int r)) (.val (.int c)) (.val (.int more))
  rw[show((List.range R).map fun a=>wI C fun b=>S a b+more).map Ch.l=tC R C fun a b=>S a b+more from by unfold tC;rw[List.map_map];rfl]
  exact this
theorem tail6 (hR:R<=50)(hC:C<=50)(ds:List D)(S L G:Nat->Nat->Int)(bd:Bd R C (24*Y) (17*Y) S L G)(way r c:Nat)(hr:r<R+1)(hc:c<C+1)(more:Int)(hY:0<=Y)(m1: -(4*Y)<=more)(m2:more<=4*Y)(s3:Sl):
  Ok (zbO [.par ds,.emp,.val (.int by'),s3,tS (R+1) (C+1) L,tS (R+1) (C+1) G,tS R C S,.val (.int way),.val (.int r),.val (.int c),.val (.int more)]) fun p=>∃S L G a,Bd R C (28*Y) (21*Y) S L G/\p=(.ret (.val (zaA R C S L G)),.par ds::a):=by
 simp! only[↓zbO,zgQ _ hr,zfm,zap _ hc,hr,hc,ziU _ _ hr hc]
 have at':=bd.2 r c hr hc
 refine⟨fun _=>tail5 hR hC _ _ _ _ (bd.put (r:=r) (c:=c) (by lia) (fun a b h=>⟨?_,?_⟩) ?_) _ _ _ _ hY m1 m2 _,fun _=>tail5 hR hC _ _ _ _ (bd.mono (by lia) (by lia)) _ _ _ _ hY m1 m2 _⟩
 ·simp only[zb9 _ _ h]
 ·simp only[zb9 _ _ h]
 ·simp only[zi1]
  unfold min2
  split<;>lia
theorem tail7 (hR:R<=50)(hC:C<=50)(ds:List D)(S L G:Nat->Nat->Int)(bd:Bd R C (24*Y) (13*Y) S L G)(way r c:Nat)(hr:r<R+1)(hc:c<C+1)(more:Int)(hY:0<=Y)(m1: -(4*Y)<=more)(m2:more<=4*Y)(s3:Sl):
  Ok (zbK [.par ds,.emp,.val (.int by'),s3,tS (R+1) (C+1) L,tS (R+1) (C+1) G,tS R C S,.val (.int way),.val (.int r),.val (.int c),.val (.int more)]) fun p=>∃S L G a,Bd R C (28*Y) (21*Y) S L G/\p=(.ret (.val (zaA R C S L G)),.par ds::a):=by
 simp! only[↓zbK,zgQ _ hr,zfm,zap _ hc,hr,hc,ziU _ _ hr hc]
 have at':=bd.2 r c hr hc
 refine⟨fun _=>tail6 hR hC _ _ _ _ (bd.put (r:=r) (c:=c) (by lia) (fun a b h=>⟨?_,?_⟩) ?_) _ _ _ hr hc _ hY m1 m2 _,fun _=>tail6 hR hC _ _ _ _ (bd.mono (by lia) (by lia)) _ _ _ hr hc _ hY m1 m2 _⟩
 ·simp only[zb9 _ _ h]
 ·simp only[zb9 _ _ h]
 ·simp only[zi1]
  unfold min2
  split<;>lia
theorem tail8 (hR:R<=50)(hC:C<=50)(ds:List D)(S L G:Nat->Nat->Int)(bd:Bd R C (24*Y) (9*Y) S L G)(way r c:Nat)(hr:r<R+1)(hc:c<C+1)(more:Int)(hY:0<=Y)(m1: -(4*Y)<=more)(m2:more<=4*Y)(s3:Sl):
  Ok (zbN [.par ds,.emp,.val (.int by'),s3,tS (R+1) (C+1) L,tS (R+1) (C+1) G,tS R C S,.val (.int way),.val (.int r),.val (.int c),.val (.int more)]) fun p=>∃S L G a,Bd R C (28*Y) (21*Y) S L G/\p=(.ret (.val (zaA R C S L G)),.par ds::a):=by
 simp! only[↓zbN,zgQ _ hr,zfm,zap _ hc,hr,hc,ziU _ _ hr hc]
 have at':=bd.2 r c hr hc
 refine⟨fun _=>tail7 hR hC _ _ _ _ (bd.put (r:=r) (c:=c) (by lia) (fun a b h=>⟨?_,?_⟩) ?_) _ _ _ hr hc _ hY m1 m2 _,fun _=>tail7 hR hC _ _ _ _ (bd.mono (by lia) (by lia)) _ _ _ hr hc _ hY m1 m2 _⟩
 ·simp only[zb9 _ _ h]
 ·simp only[zb9 _ _ h]
 ·simp only[zi1]
  unfold max2
  split<;>lia
theorem in12 (i:Int):∃b,dIn (.int i) (.tup [.int 1,.int 2])=some (.bl b):=⟨_,rfl⟩
theorem bent_ok (h:Pot ds)(hR:R<=50)(hC:C<=50)(r1:1<=R)(c1:1<=C)(f L G:Nat->Nat->Int)(y0:1<=by')(y1:by'<=Y)(bd:Bd R C (20*Y) (9*Y) (four f) L G):
  Ok (zbe ds (.lst [.l (wL (R+1) fun r=> .lst (wI (C+1) (f r))),.t (tR (R+1) (C+1) L),.t (tR (R+1) (C+1) G)]) [.int by']) fun x=>∃(S L G:Nat->Nat->Int) (ds':List D),Pot ds'/\Bd R C (28*Y) (21*Y) S L G/\x=(.val (zaA R C S L G),ds'):=by
 simp! only[↓zbe,↓zcm,tR_l]
 refine(sums_ok _ (.inr rfl) (by lia) (by lia)).mono ?_
 rintro _ rfl
 simp! only[]
 refine⟨by lia,zdc (fun ρ=>∃z,ρ=[z]) (fun a=>wI C (four f a)) ⟨_,rfl⟩ ?_ ?_⟩
 ·rintro a _ ha ⟨z,rfl⟩
  simp! only[↓zdv,↓zcN]
  exact⟨_,rfl⟩
 rintro _ ⟨z,rfl⟩
 rw[show((List.range R).map fun a=>wI C (four f a)).map Ch.l=tC R C (four f)from by unfold tC;rw[List.map_map];rfl]
 simp! only[]
 refine(zbM h (m:=8) (by lia) (by lia)).mono ?_
 rintro _ ⟨way,d1,hw,h1,rfl⟩
 simp! only[]
 refine(zbM h1 (m:=((R+1:Nat):Int)) (by lia) (by lia)).mono ?_
 rintro _ ⟨r,d2,hr,h2,rfl⟩
 simp! only[zap _ (show 0<R+1 by lia)]
 refine(zbM h2 (m:=((C+1:Nat):Int)) (by lia) (by lia)).mono ?_
 rintro _ ⟨c,d3,hc,h3,rfl⟩
 simp! only[]
 refine(zbM h3 (m:=9) (by lia) (by lia)).mono ?_
 rintro _ ⟨y,d4,hy,h4,rfl⟩
 simp! only[]
 refine(zbM h4 (m:=2) (by lia) (by lia)).mono ?_
 rintro _ ⟨x,d5,hx,h5,rfl⟩
 have hx':∃z:Int,1<=z/\z<=Y/\[D.int 1,D.int by'][x]? =some (.int z):=by
  have:x=0\/x=1:=by lia
  rcases this with rfl|rfl
  ·exact⟨1,by lia,by lia,rfl⟩
  ·exact⟨by',y0,y1,rfl⟩
 obtain⟨z,z1,z2,ez⟩:=hx'
 have mm: -(4*Y)<=((y:Int)-4)*z/\((y:Int)-4)*z<=4*Y:=znE (by lia) (by lia) (by lia) z2 (by decide)
 have hY:0<=Y:=by lia
 obtain⟨b,eb⟩:=in12 way
 have hr':r<R+1:=by lia
 have hc':c<C+1:=by lia
 have q1:r%R<R:=Nat.mod_lt _ r1
 have q2:c%C<C:=Nat.mod_lt _ c1
 have m1:(r:Int)%(R:Int)=((r%R:Nat):Int):=by lia
 have m2:(c:Int)%(C:Int)=((c%C:Nat):Int):=by lia
 have p1:(0:Int)<(R:Int):=by lia
 have p2:(0:Int)<(C:Int):=by lia
 simp! only[ez,eb,zfm,zgQ _ (show 0<R by lia),p1,p2,m1,m2,q1,q2,zgQ _ q1,zap _ q2,ziU _ _ q1 q2]
 refine⟨zcG (by lia),fun _=>?_,fun _=>?_⟩
 ·refine(tail8 (Y:=Y) hR hC _ _ _ _ ⟨fun a b ha hb=>?_,bd.2⟩ _ _ _ hr' hc' _ hY mm.1 mm.2 _).mono ?_
  ·have:=bd.1 a b ha hb
   unfold updF
   split
   ·rename_i h;obtain⟨rfl,rfl⟩:=h;lia
   ·lia
  rintro _ ⟨S,L,G,a,bd',rfl⟩
  simp! only[]
  exact⟨_,_,_,_,h5,bd',rfl⟩
 ·refine(tail8 (Y:=Y) hR hC _ _ _ _ (bd.mono (by lia) (by lia)) _ _ _ hr' hc' _ hY mm.1 mm.2 _).mono ?_
  rintro _ ⟨S,L,G,a,bd',rfl⟩
  simp! only[]
  exact⟨_,_,_,_,h5,bd',rfl⟩
theorem zju {P:Nat->Int->Prop}{q:Nat->Int}(h:∀c,c<j->P c (q c))(hx:P j x):∀c,c<j+1->P c ((fun c=>if c<j then q c else x) c):=fun c hc=>by
 dsimp only
 by_cases z:c<j
 ·rw[if_pos z];exact h c z
 ·have:c=j:=by lia
  subst this
  rw[if_neg z];exact hx
theorem draw11 {t:Nat}(y0:1<=by')(y1:by'<=Y)(ht:(t:Int)<11): -(5*Y)<=((t:Int)-5)*by'/\((t:Int)-5)*by'<=5*Y:=znE (by lia) (by lia) (by lia) y1 (by decide)
theorem draw5 {t wd:Nat}{f:Int}(y0:1<=by')(y1:by'<=Y)(w5:wd<=5)(ht:(t:Int)<(wd:Int)):(f-(t:Int)*by'<=f/\f-4*Y<=f-(t:Int)*by')/\(f<=f+(t:Int)*by'/\f+(t:Int)*by'<=f+4*Y):=by
 have h1:=(znE (a:=(t:Int)) (k:=4) (z:=by') (Y:=Y) (by lia) (by lia) (by lia) y1 (by decide)).2
 have h2:0<=(t:Int)*by':=Int.mul_nonneg (by lia) (by lia)
 lia
theorem rows_tC (n m:Nat)(f:Nat->Nat->Int):zhG (tC n m f)=some (tR n m f):=by
 have:∀l:List Nat,zhG (l.map fun r=>Ch.l (wI m (f r)))=some (l.map fun r=>wI m (f r)):=fun l=>by
  induction l with
  |nil=>rfl
  |cons a l ih=>simp[zhG,ih]
 exact this _
theorem tC_succ (n m:Nat)(f:Nat->Nat->Int):tC (n+1) m f=tC n m f++[.l (wI m (f n))]:=by unfold tC;rw[List.range_succ,List.map_append];rfl
def YY:Int:=10000000000000000000000000000000000000000000000000000000000
theorem floor_ok (h:Pot ds):Ok (zcw ds [.int 6]) fun x=>∃(R C:Nat) (S L G:Nat->Nat->Int) (ds':List D),Pot ds'/\1<=R/\R<=5/\1<=C/\C<=5/\Bd R C (28*YY) (21*YY) S L G/\x=(.val (zaA R C S L G),ds'):=by
 simp! only[↓zcw,↓ze6]
 refine(zbM h (m:=5) (by lia) (by lia)).mono ?_
 rintro _ ⟨a,d1,ha,h1,rfl⟩
 simp! only[]
 refine(zbM h1 (m:=5) (by lia) (by lia)).mono ?_
 rintro _ ⟨b,d2,hb,h2,rfl⟩
 simp! only[]
 refine(zbM h2 (m:=4) (by lia) (by lia)).mono ?_
 rintro _ ⟨x,d3,hx,h3,rfl⟩
 have hx':∃z:Int,1<=z/\z<=YY/\[D.int 1,D.int 1,D.int 1,D.int 10000000000000000000000000000000000000000000000000000000000][x]? =some (.int z):=by
  have:x=0\/x=1\/x=2\/x=3:=by lia
  rcases this with rfl|rfl|rfl|rfl
  ·exact⟨1,by decide,by decide+kernel,rfl⟩
  ·exact⟨1,by decide,by decide+kernel,rfl⟩
  ·exact⟨1,by decide,by decide+kernel,rfl⟩
  ·exact⟨_,by decide+kernel,by decide+kernel,rfl⟩
 obtain⟨by',y0,y1,ez⟩:=hx'
 simp! only[ez]
 refine(zbM h3 (m:=4) (by lia) (by lia)).mono ?_
 rintro _ ⟨y,d4,hy,h4,rfl⟩
 have hy':∃z:Nat,1<=z/\z<=5/\[D.int 1,D.int 1,D.int 2,D.int 5][y]? =some (.int (z:Nat)):=by
  have:y=0\/y=1\/y=2\/y=3:=by lia
  rcases this with rfl|rfl|rfl|rfl
  ·exact⟨1,by lia,by lia,rfl⟩
  ·exact⟨1,by lia,by lia,rfl⟩
  ·exact⟨2,by lia,by lia,rfl⟩
  ·exact⟨5,by lia,by lia,rfl⟩
 obtain⟨wd,w1,w5,ew⟩:=hy'
 obtain⟨R,hR⟩:∃R,R=a+1:=⟨_,rfl⟩
 obtain⟨C,hC⟩:∃C,C=b+1:=⟨_,rfl⟩
 have eR:(2:Int)+(a:Int)=((R+1:Nat):Int):=by lia
 have eC:(2:Int)+(b:Int)=((C+1:Nat):Int):=by lia
 simp! only[ew,eR,eC,↓zeQ]
 refine⟨za2 (by lia) (by lia),za5 (fun i ρ=>∃(f L G:Nat->Nat->Int) (ds':List D) (s9:Sl),Pot ds'/\(∀r c,r<i->c<C+1-> -(5*YY)<=f r c/\f r c<=5*YY/\L r c<=f r c/\f r c-4*YY<=L r c/\f r c<=G r c/\G r c<=f r c+4*YY)/\ρ=[.par ds',.val (.int 6),.val (.int ((R+1:Nat):Int)),.val (.int ((C+1:Nat):Int)),.val (.int by'),.val (.int (wd:Nat)),.own (wL i fun r=> .lst (wI (C+1) (f r))),tS i (C+1) L,tS i (C+1) G,s9]) ⟨fun _ _=>0,fun _ _=>0,fun _ _=>0,_,_,h4,fun r c hr=>absurd hr (Nat.not_lt_zero _),rfl⟩ ?_ ?_⟩
 ·rintro i _ hi ⟨f,L,G,e1,s9,g1,bd,rfl⟩
  simp! only[↓zfp,↓zeN]
  refine⟨za2 (by lia) (by lia),by lia,zg3 (fun j acc ρ=>∃(q:Nat->Int) (ds':List D) (s:Sl),Pot ds'/\(∀c,c<j-> -(5*YY)<=q c/\q c<=5*YY)/\acc=wI j q/\ρ=[.par ds',.val (.int by'),s]) ⟨fun _=>0,e1,.emp,g1,fun c hc=>absurd hc (Nat.not_lt_zero _),rfl,rfl⟩ ?_ ?_⟩
  ·rintro j _ _ hj ⟨q,e2,s,g2,bq,rfl,rfl⟩
   simp! only[↓zfb]
   refine(zbM g2 (m:=11) (by lia) (by lia)).mono ?_
   rintro _ ⟨t,e3,ht,g3,rfl⟩
   simp! only[]
   refine⟨zcG (by lia),_,_,_,g3,?_,zkW j q _,rfl⟩
   exact zju (P:=fun _ x=> -(5*YY)<=x/\x<=5*YY) bq (draw11 y0 y1 ht)
  rintro _ _ ⟨q,e2,s,g2,bq,rfl,rfl⟩
  simp! only[]
  rw[show(wL i fun r=>D.lst (wI (C+1) (f r)))++[D.lst (wI (C+1) q)]=wL (i+1) fun r=> .lst (wI (C+1) ((fun r=>if r=i then q else f r) r))from by
   rw[zbb]
   congr 1
   ·exact zbC fun r hr=>by(try dsimp only);rw[if_neg (by lia)]
   ·simp]
  have bf1:∀c,(fun r=>if r=i then q else f r) i c=q c:=fun c=>by(try dsimp only);rw[if_pos rfl]
  have bf2:∀r c,r<i->(fun r=>if r=i then q else f r) r c=f r c:=fun r c hr=>by(try dsimp only);rw[if_neg (by lia)]
  generalize (fun r=>if r=i then q else f r)=f1 at bf1 bf2 ⊢
  simp! only[↓zft,zap _ (show i<i+1 by lia)]
  refine⟨by lia,by lia,zg3 (fun j acc ρ=>∃(q:Nat->Int) (ds':List D) (s:Sl),Pot ds'/\(∀c,c<j->(fun c x=>x<=f1 i c/\f1 i c-4*YY<=x) c (q c))/\acc=wI j q/\ρ=[.par ds',.val (.int (wd:Nat)),.val (.int by'),s]) ⟨fun _=>0,e2,.emp,g2,fun c hc=>absurd hc (Nat.not_lt_zero _),rfl,rfl⟩ ?_ ?_⟩
  ·rintro j _ _ hj ⟨q,e2,s,g2,bq,rfl,rfl⟩
   simp! only[↓zfs]
   refine(zbM g2 (m:=(wd:Int)) (by lia) (by lia)).mono ?_
   rintro _ ⟨t,e3,ht,g3,rfl⟩
   simp! only[]
   refine⟨zcG (by lia),_,_,_,g3,?_,zkW j q _,rfl⟩
   exact zju (P:=fun c x=>x<=f1 i c/\f1 i c-4*YY<=x) bq (draw5 y0 y1 w5 ht).1
  rintro _ _ ⟨q2,e3,s,g3,bq2,rfl,rfl⟩
  simp! only[zfm]
  have up:∀(L:Nat->Nat->Int) (q:Nat->Int),tC i (C+1) L++[Ch.l (wI (C+1) q)]=tC (i+1) (C+1) fun r=>if r=i then q else L r:=fun L q=>by
   rw[tC_succ]
   congr 1
   ·unfold tC
    exact List.map_congr_left fun r hr=>by have:=List.mem_range.mp hr;(try dsimp only);rw[if_neg (by lia)]
   ·simp
  rw[up L q2]
  have bL1:∀c,(fun r=>if r=i then q2 else L r) i c=q2 c:=fun c=>by(try dsimp only);rw[if_pos rfl]
  have bL2:∀r c,r<i->(fun r=>if r=i then q2 else L r) r c=L r c:=fun r c hr=>by(try dsimp only);rw[if_neg (by lia)]
  generalize (fun r=>if r=i then q2 else L r)=L1 at bL1 bL2 ⊢
  refine⟨by lia,?_⟩
  simp! only[↓zfB,zap _ (show i<i+1 by lia)]
  refine⟨by lia,zg3 (fun j acc ρ=>∃(q:Nat->Int) (ds':List D) (s:Sl),Pot ds'/\(∀c,c<j->(fun c x=>f1 i c<=x/\x<=f1 i c+4*YY) c (q c))/\acc=wI j q/\ρ=[.par ds',.val (.int (wd:Nat)),.val (.int by'),s]) ⟨fun _=>0,e3,.emp,g3,fun c hc=>absurd hc (Nat.not_lt_zero _),rfl,rfl⟩ ?_ ?_⟩
  ·rintro j _ _ hj ⟨q,e2,s,g2,bq,rfl,rfl⟩
   simp! only[↓zfl]
   refine(zbM g2 (m:=(wd:Int)) (by lia) (by lia)).mono ?_
   rintro _ ⟨t,e3,ht,g3,rfl⟩
   simp! only[]
   refine⟨zcG (by lia),_,_,_,g3,?_,zkW j q _,rfl⟩
   exact zju (P:=fun c x=>f1 i c<=x/\x<=f1 i c+4*YY) bq (draw5 y0 y1 w5 ht).2
  rintro _ _ ⟨q3,e4,s,g4,bq3,rfl,rfl⟩
  simp! only[zfm,up G q3]
  refine⟨by lia,_,_,_,_,_,g4,fun r c hr hc=>?_,rfl⟩
  by_cases z:r=i
  ·subst z
   have z1:=bq c hc
   have z2:=bq2 c hc
   have z3:=bq3 c hc
   (try dsimp only at z2 z3 ⊢)
   rw[bL1,if_pos rfl,bf1]
   rw[bf1]at z2 z3
   lia
  ·have z1:=bd r c (by lia) hc
   (try dsimp only)
   rw[bL2 r c (by lia),if_neg z,bf2 r c (by lia)]
   exact z1
 ·rintro _ ⟨f,L,G,e1,s9,g1,bd,rfl⟩
  simp! only[rows_tC]
  refine(bent_ok (Y:=YY) g1 (by lia) (by lia) (by lia) (by lia) f L G y0 y1 ⟨fun r c hr hc=>?_,fun r c hr hc=>?_⟩).mono ?_
  ·have z1:=bd r c (by lia) (by lia)
   have z2:=bd r (c+1) (by lia) (by lia)
   have z3:=bd (r+1) c (by lia) (by lia)
   have z4:=bd (r+1) (c+1) (by lia) (by lia)
   unfold four
   lia
  ·have z1:=bd r c hr hc
   lia
  rintro _ ⟨S,L,G,e2,g2,bd',rfl⟩
  simp! only[]
  exact⟨R,C,_,_,_,_,g2,by lia,by lia,by lia,by lia,bd',rfl⟩
end
section
variable {R C:Nat} {S L G f:Nat->Nat->Int} {c:Nat} {W qs:Nat->Nat}
def alt (i:Nat):Int:=if i%2=0 then 1 else-1
theorem alt_s (i:Nat):alt (i+1)= -alt i:=by unfold alt;split<;>split<;>lia
theorem alt_sg (i:Nat):sg i 0=alt i:=by unfold sg alt;rw[Nat.add_zero]
theorem alt_pm (i:Nat):alt i=1\/alt i= -1:=by unfold alt;split<;>simp
theorem zm9 (t:Wk R C c W):Ok (zby [tT (R+1) (C+1) f,.lst (wL c (zbf (R+1) W))]) fun x=>x= .val (.int (sumR c fun i=>oW (R+1) W i*f (cr W i) (cc (R+1) W i))):=by
 simp! only[↓zby,↓zfy,↓zeW]
 refine za5 (fun i ρ=>∃s4 s5,ρ=[.val (tT (R+1) (C+1) f),.val (.lst (wL c (zbf (R+1) W))),.val (.int (sumR i fun i=>oW (R+1) W i*f (cr W i) (cc (R+1) W i))),.val (.int (alt i)),s4,s5]) ⟨_,_,rfl⟩ ?_ ?_
 ·rintro i _ hi ⟨s4,s5,rfl⟩
  obtain⟨h1,h2,e⟩:=t.cell i
  rw[e]
  simp! only[↓ze7]
  refine(zje _ _).mono ?_
  rintro _ rfl
  simp! only[zap _ h1,zap _ h2]
  have eo:alt i*sg (cr W i) (cc (R+1) W i)=oW (R+1) W i:=by unfold oW;rw[alt_sg,Int.mul_comm]
  rw[eo,<-alt_s]
  exact⟨zhC (alt_pm i),zhC (zjJ _ _ _),_,_,rfl⟩
 ·rintro _ ⟨s4,s5,rfl⟩
  simp! only[]
def cnt (a:Nat)(W:Nat->Nat):Nat->Nat->Nat->Int
 |0=>fun _ _=>0
 |j+1=>updF (cnt a W j) (cr W j) (cc a W j) (cnt a W j (cr W j) (cc a W j)+oW a W j)
theorem cnt_le (a:Nat)(W:Nat->Nat):∀j r k:Nat,-(j:Int)<=cnt a W j r k/\cnt a W j r k<=(j:Int)
 |0,_,_=>by show-((0:Nat):Int)<=0/\(0:Int)<=((0:Nat):Int);lia
 |j+1,r,k=>by
  have h:=cnt_le a W j
  have o:=zjJ a W j
  unfold cnt updF
  split
  ·have:=h (cr W j) (cc a W j);lia
  ·have:=h r k;lia
theorem zoK (a:Nat)(W:Nat->Nat):∀{j:Nat},(∀i,i<j->¬(r=cr W i/\k=cc a W i))->cnt a W j r k=0
 |0,_=>rfl
 |j+1,h=>by
  unfold cnt
  rw[zb9 _ _ (h j (by lia))]
  exact zoK a W fun i hi=>h i (by lia)
theorem zeo (g:Nat->Int)(x:Int):∀{n:Nat},k<n->sumR n (fun i=>if i=k then x else g i)=sumR n g-g k+x
 |n+1,h=>by
  rw[sumR,sumR]
  by_cases z:n=k
  ·subst z
   rw[if_pos rfl,zaw (g:=g) fun i hi=>by rw[if_neg (by lia)]];lia
  ·rw[if_neg z,zeo g x (by lia)];lia
def fi (L G:Nat->Nat->Int)(r k:Nat)(x:Int):Int:=max2 (x*L r k) (x*G r k)
def tsum (R C:Nat)(L G:Nat->Nat->Int)(q:Nat->Nat->Int):Int:=sumR (R+1) fun r=>sumR (C+1) fun k=>fi L G r k (q r k)
theorem tsum_upd (q:Nat->Nat->Int)(x:Int)(hr:r<R+1)(hk:k<C+1):tsum R C L G (updF q r k x)=tsum R C L G q-fi L G r k (q r k)+fi L G r k x:=by
 unfold tsum
 have h:∀a,(sumR (C+1) fun b=>fi L G a b (updF q r k x a b))=if a=r then sumR (C+1) (fun b=>fi L G r b (q r b))-fi L G r k (q r k)+fi L G r k x else sumR (C+1) fun b=>fi L G a b (q a b):=fun a=>by
  by_cases z:a=r
  ·subst z
   rw[if_pos rfl,<-zeo (fun b=>fi L G a b (q a b)) (fi L G a k x) hk]
   refine zaw fun b _=>?_
   unfold updF
   by_cases y:b=k
   ·subst y;rw[if_pos ⟨rfl,rfl⟩,if_pos rfl]
   ·rw[if_neg fun z=>y z.2,if_neg y]
  ·rw[if_neg z]
   refine zaw fun b _=>?_
   rw[zb9 _ _ fun y=>z y.1]
 rw[zaw fun a _=>h a,zeo (fun a=>sumR (C+1) fun b=>fi L G a b (q a b)) _ hr]
 lia
theorem fi_0 (r k:Nat):fi L G r k 0=0:=by unfold fi;rw[Int.zero_mul,Int.zero_mul];rfl
theorem zjD (t:Tour R C S L G c W qs)(le:∀r c,r<R+1->c<C+1->L r c<=G r c):∀j,j<=c->tsum R C L G (cnt (R+1) W j)=sumR j fun i=>max2 (oW (R+1) W i*L (cr W i) (cc (R+1) W i)) (oW (R+1) W i*G (cr W i) (cc (R+1) W i))
 |0,_=>by
  show tsum R C L G (fun _ _=>0)=0
  unfold tsum
  rw[zaw (g:=fun _=>0) fun r _=>by rw[zaw (g:=fun _=>0) fun k _=>fi_0 r k];exact zeZ _]
  exact zeZ _
 |j+1,hj=>by
  obtain⟨_,_,h1,h2,_,_⟩:=t.cell j
  have z:cnt (R+1) W j (cr W j) (cc (R+1) W j)=0:=zoK _ _ fun i hi e=>t.keys le hi (show j<c by lia) (by unfold kW;rw[e.1,e.2])
  show tsum R C L G (updF (cnt (R+1) W j) (cr W j) (cc (R+1) W j) (cnt (R+1) W j (cr W j) (cc (R+1) W j)+oW (R+1) W j))=_
  rw[tsum_upd _ _ h1 h2,z,fi_0,Int.zero_add,zjD t le j (by lia),sumR]
  unfold fi
  lia
theorem zok (t:Wk R C c W)(hR:R<=50)(hC:C<=50):Ok (zb5 [zaA R C S L G,.lst (wL c (zbf (R+1) W))]) fun x=>x=tS (R+1) (C+1) (cnt (R+1) W c):=by
 simp! only[↓zb5,↓zep]
 refine⟨by lia,zdc (fun ρ=>∃z,ρ=[z]) (fun a=>wI (C+1) fun b=>0) ⟨_,rfl⟩ ?_ ?_⟩
 ·rintro a _ ha ⟨z,rfl⟩
  simp! only[↓zdv,↓zez]
  exact⟨⟨za2 (by lia) (by lia),by lia⟩,by rw[<-List.replicate_succ,zin],_,rfl⟩
 rintro _ ⟨z,rfl⟩
 rw[show((List.range (R+1)).map fun a=>wI (C+1) fun b=>0).map Ch.l=tC (R+1) (C+1) (cnt (R+1) W 0)from by unfold tC;rw[List.map_map];rfl]
 simp! only[↓zeH]
 refine za5 (fun i ρ=>∃s4 s5,zcE [s4,s5]=true/\ρ=[.val (zaA R C S L G),.val (.lst (wL c (zbf (R+1) W))),tS (R+1) (C+1) (cnt (R+1) W i),.val (.int (alt i)),s4,s5]) ⟨_,_,rfl,rfl⟩ ?_ ?_
 ·rintro i _ hi ⟨s4,s5,no,rfl⟩
  obtain⟨h1,h2,e⟩:=t.cell i
  rw[e]
  simp! only[↓zeF]
  refine(zje _ _).mono ?_
  rintro _ rfl
  simp! only[zfm,zgQ _ h1,zap _ h2,h1,h2,ziU _ _ h1 h2]
  have eo:alt i*sg (cr W i) (cc (R+1) W i)=oW (R+1) W i:=by unfold oW;rw[alt_sg,Int.mul_comm]
  rw[eo,<-alt_s]
  exact⟨zhC (alt_pm i),_,_,⟨rfl,rfl⟩,rfl⟩
 ·rintro _ ⟨s4,s5,no,rfl⟩
  simp! only[]
theorem row_ok (n9:C<=50)(q l g:Nat->Int)(hq:∀k,-1000<=q k/\q k<=1000):Ok (zbc [.lst (wI (C+1) q),.tup (wI (C+1) l),.tup (wI (C+1) g)]) fun x=>x= .val (.int (sumR (C+1) fun k=>max2 (q k*l k) (q k*g k))):=by
 simp! only[↓zbc,↓zck,↓zcK,zih]
 refine⟨by lia,zaM (fun ρ=>∃s1 s2 s3,ρ=[s1,s2,s3]) (fun k=> .int (max2 (q k*l k) (q k*g k))) ⟨_,_,_,rfl⟩ ?_ ?_⟩
 ·rintro k _ hk ⟨s1,s2,s3,rfl⟩
  simp! only[↓zcX]
  have:=hq k
  exact⟨zcG (by lia),zcG (by lia),_,_,_,rfl⟩
 rintro _ ⟨s1,s2,s3,rfl⟩
 simp! only[]
 rw[show zbp (wL (C+1) fun k=>D.int (max2 (q k*l k) (q k*g k)))=some ((List.range (C+1)).map fun k=>max2 (q k*l k) (q k*g k))from zlZ _ _]
 simp! only[]
 rw[zhX]
theorem great_ok (t:Wk R C c W)(hR:R<=50)(hC:C<=50):Ok (za1 [zaA R C S L G,.lst (wL c (zbf (R+1) W))]) fun x=>x= .val (.int (tsum R C L G (cnt (R+1) W c))):=by
 have c9:=t.c9
 simp! only[↓za1,↓zb4,↓zcA]
 refine(zok t hR hC).mono ?_
 rintro _ rfl
 simp! only[tC_D,zih]
 refine za5 (fun r ρ=>∃s3 s4 s5,ρ=[.val (zaA R C S L G),.val (.lst (wL c (zbf (R+1) W))),.val (.int (sumR r fun r=>sumR (C+1) fun k=>fi L G r k (cnt (R+1) W c r k))),s3,s4,s5]) ⟨_,_,_,rfl⟩ ?_ ?_
 ·rintro r _ hr ⟨s3,s4,s5,rfl⟩
  simp! only[↓zcz]
  refine(row_ok (by lia) _ _ _ fun k=>by have:=cnt_le (R+1) W c r k;lia).mono ?_
  rintro _ rfl
  simp! only[]
  exact⟨_,_,_,rfl⟩
 ·rintro _ ⟨s3,s4,s5,rfl⟩
  simp! only[]
  rfl
theorem zhm (t:Wk R C c W)(hR:R<=50)(hC:C<=50):Ok (zaF [zaA R C S L G,.tup [.str "tour",.lst (wL c (zbf (R+1) W))]]) fun x=>x= .val (.bl (decide (tsum R C L G (cnt (R+1) W c)<sumR c fun i=>oW (R+1) W i*pln S (cr W i) (cc (R+1) W i)))):=by
 have st:(("tour":Str)=="floor")=false:=by decide+kernel
 have st2:(("tour":Str)=="tour")=true:=by decide+kernel
 simp! only[↓zaF,↓zc1,st,↓zeA,st2,↓zdx,↓zfu]
 refine(tour_isP t).mono ?_
 rintro _ rfl
 simp! only[]
 refine(zjn (by lia) (by lia)).mono ?_
 rintro _ rfl
 simp! only[]
 refine(zm9 t).mono ?_
 rintro _ rfl
 simp! only[]
 refine(great_ok t hR hC).mono ?_
 rintro _ rfl
 simp! only[gt_iff_lt]
theorem zmF (t:Tour R C S L G c W qs)(le:∀r c,r<R+1->c<C+1->L r c<=G r c)(hR:R<=50)(hC:C<=50):Ok (zaF [zaA R C S L G,.tup [.str "tour",.lst (wL c (zbf (R+1) W))]]) fun x=>x= .val (.bl true):=by
 refine(zhm (t.wk le) hR hC).mono ?_
 rintro _ rfl
 have ng:=t.neg
 rw[zaw fun i _=>t.wt le i,zgA]at ng
 rw[zjD t le c (Nat.le_refl _),decide_eq_true (by lia)]
end
section
variable {R C:Nat} {S L G f:Nat->Nat->Int}
theorem znz (t:Bool)(n9:n<=50){l f g:Nat->Int}(h:∀k,k<n->l k<=f k/\f k<=g k):Ok (zcC [if t then .tup (wI n f)else .lst (wI n f),if t then .tup (wI n l)else .lst (wI n l),if t then .tup (wI n g)else .lst (wI n g)]) fun x=>x= .val (.bl true):=by
 cases t<;>simp only[Bool.false_eq_true,if_false,if_true]<;>
 ·simp! only[↓zcC,↓zfS,↓ze2,↓zfI,zih]
  refine⟨by lia,zaM (fun ρ=>∃s1 s2 s3,ρ=[s1,s2,s3]) (fun _=> .bl true) ⟨_,_,_,rfl⟩ ?_ ?_⟩
  ·rintro k _ hk ⟨s1,s2,s3,rfl⟩
   simp! only[↓ze0]
   have:=h k hk
   exact⟨fun _=>⟨by rw[decide_eq_true (by lia)],_,_,_,rfl⟩,fun z=>absurd z (by lia)⟩
  ·rintro _ ⟨s1,s2,s3,rfl⟩
   simp! only[zg0,zhK]
theorem ziW (t:Bool)(a9:A<=50)(b9:B<=50){L f G:Nat->Nat->Int}(h:∀r c,r<A->c<B->L r c<=f r c/\f r c<=G r c):Ok (zbo [if t then tT A B f else tL A B f,if t then tT A B L else tL A B L,if t then tT A B G else tL A B G]) fun x=>x= .val (.bl true):=by
 have w:=fun r hr=>znz t b9 (l:=L r) (f:=f r) (g:=G r) fun k hk=>h r k hr hk
 cases t<;>simp only[Bool.false_eq_true,if_false,if_true]at w ⊢ <;>
 ·simp! only[↓zbo,↓zen,↓zeB,↓zex,zih]
  refine⟨by lia,zaM (fun ρ=>∃s1 s2 s3,ρ=[s1,s2,s3]) (fun _=> .bl true) ⟨_,_,_,rfl⟩ ?_ ?_⟩
  ·rintro r _ hr ⟨s1,s2,s3,rfl⟩
   simp! only[↓zew]
   refine(w r hr).mono ?_
   rintro _ rfl
   simp! only[]
   exact⟨_,_,_,rfl⟩
  ·rintro _ ⟨s1,s2,s3,rfl⟩
   simp! only[zg0,zhK]
theorem sq2 (g:Nat->Int){n k:Nat}(h:k+2<=n):cutD (wI n g) (some (k:Int)) (some ((k:Int)+2))=[.int (g k),.int (g (k+1))]:=by
 rw[show((k:Int)+2)=((k:Int)+((2:Nat):Int))from rfl,cut_w _ h]
 rfl
theorem i2 (a b:Int):zbp [.int a,.int b]=some [a,b]:=rfl
theorem zm3 (n9:n<=50)(u l:Nat->Int):Ok (zcb [.tup (wI (n+1) u),.tup (wI (n+1) l)]) fun x=>x= .val (.tup (wI n fun k=>u k+u (k+1)+l k+l (k+1))):=by
 have e1:(((n+1:Nat):Int)-1).toNat=n:=by lia
 simp! only[↓zcb,↓zeh,↓zeJ,e1]
 refine⟨za2 (by lia) (by lia),by lia,zaM (fun ρ=>∃s,ρ=[.val (.tup (wI (n+1) u)),.val (.tup (wI (n+1) l)),s]) (fun k=> .int (u k+u (k+1)+l k+l (k+1))) ⟨_,rfl⟩ ?_ ?_⟩
 ·rintro k _ hk ⟨s,rfl⟩
  simp! only[↓zeE,sq2 _ (show k+2<=n+1 by lia),i2]
  refine⟨?_,_,rfl⟩
  congr 2
  simp;lia
 ·rintro _ ⟨s,rfl⟩
  simp! only[]
theorem fsums_ok (hR:R<=50)(hC:C<=50):Ok (zcB [tT (R+1) (C+1) f]) fun x=>x= .val (tT R C (four f)):=by
 have e1:(((R+1:Nat):Int)-1).toNat=R:=by lia
 simp! only[↓zcB,↓zeT,↓zeX,e1]
 refine⟨za2 (by lia) (by lia),by lia,zaM (fun ρ=>∃s,ρ=[.val (tT (R+1) (C+1) f),s]) (fun r=> .tup (wI C (four f r))) ⟨_,rfl⟩ ?_ ?_⟩
 ·rintro r _ hr ⟨s,rfl⟩
  have a1:(r:Int)+1=((r+1:Nat):Int):=by lia
  simp! only[↓zfa,a1,zap _ (show r<R+1 by lia),zap _ (show r+1<R+1 by lia)]
  refine(zm3 hC _ _).mono ?_
  rintro _ rfl
  simp! only[]
  exact⟨rfl,_,rfl⟩
 ·rintro _ ⟨s,rfl⟩
  simp! only[]
theorem zl2 {f g:Nat->Nat->Int}(h:∀r c,r<A->c<B->f r c=g r c):tT A B f=tT A B g:=by
 show D.tup (wL A _)=D.tup (wL A _)
 congr 1
 exact zbC fun a ha=>by(try dsimp only);congr 1;exact zbC fun c hc=>by(try dsimp only);rw[h a c ha hc]
theorem zme (hR:R<=40)(hC:C<=40)(fi:zn8 R C L G f)(fo:∀r c,r<R->c<C->four f r c=S r c):Ok (zbl [zaA R C S L G,tT (R+1) (C+1) f]) fun x=>x= .val (.bl true):=by
 simp! only[↓zbl,↓zee]
 refine(ziW true (by lia) (by lia) fi).mono ?_
 rintro _ rfl
 simp! only[]
 refine(fsums_ok (by lia) (by lia)).mono ?_
 rintro _ rfl
 rw[zl2 fo]
 simp! only[(pl_tT' R C S).eq (by decide)]
theorem zk3 (hR:R<=40)(hC:C<=40)(fi:zn8 R C L G f)(fo:∀r c,r<R->c<C->four f r c=S r c):Ok (zaF [zaA R C S L G,.tup [.str "floor",tT (R+1) (C+1) f]]) fun x=>x= .val (.bl true):=by
 have st:(("floor":Str)=="floor")=true:=by decide+kernel
 simp! only[↓zaF,↓zc1,st]
 refine(zme hR hC fi fo).mono ?_
 rintro _ rfl
 simp! only[]
theorem lens_ok {A B:Nat}(a9:A<=50):Ok (zaS [tL A B f]) fun x=>x= .own (wL A fun _=> .int (B:Nat)):=by
 simp! only[↓zaS,↓zdy,↓zda]
 refine⟨by lia,zaM (fun ρ=>∃s,ρ=[s]) (fun _=> .int (B:Nat)) ⟨_,rfl⟩ ?_ ?_⟩
 ·rintro r _ hr ⟨s,rfl⟩
  simp! only[↓zdh]
  exact⟨_,rfl⟩
 ·rintro _ ⟨s,rfl⟩
  simp! only[]
theorem zlS {A B:Nat}(a9:A<=50):Ok (zaS [tT A B f]) fun x=>x= .own (wL A fun _=> .int (B:Nat)):=by
 simp! only[↓zaS,↓zdy,↓zda]
 refine⟨by lia,zaM (fun ρ=>∃s,ρ=[s]) (fun _=> .int (B:Nat)) ⟨_,rfl⟩ ?_ ?_⟩
 ·rintro r _ hr ⟨s,rfl⟩
  simp! only[↓zdh]
  exact⟨_,rfl⟩
 ·rintro _ ⟨s,rfl⟩
  simp! only[]
theorem zgP (hn:n<=1000)(hm:m<=1000):Ok (zaP [tT n m f]) fun x=>x= .val (tT n m f):=by
 simp! only[↓zaP,↓zei,↓zdM]
 refine⟨by lia,zaM (fun ρ=>∃s,ρ=[s]) (fun r=> .tup (wI m (f r))) ⟨_,rfl⟩ ?_ ?_⟩
 ·rintro i _ hi ⟨s,rfl⟩
  simp! only[↓zdK]
  exact⟨_,rfl⟩
 ·rintro _ ⟨s,rfl⟩
  simp! only[]
theorem lensB (t:Bool){A B:Nat}(a9:A<=50):Ok (zaS [if t then tT A B f else tL A B f]) fun x=>x= .own (wL A fun _=> .int (B:Nat)):=by
 cases t
 ·exact lens_ok a9
 ·exact zlS a9
theorem tupsB (t:Bool)(hn:n<=1000)(hm:m<=1000):Ok (zaP [if t then tT n m f else tL n m f]) fun x=>x= .val (tT n m f):=by
 cases t
 ·exact zhx hn hm
 ·exact zgP hn hm
theorem rep_s (n:Nat)(x:D):([x]::List.replicate n [x]).flatten=wL (n+1) fun _=>x:=by rw[<-List.replicate_succ,zin]
theorem parts_ok (t:Bool)(r1:1<=R)(r5:R<=5)(c1:1<=C)(c5:C<=5)(le:∀r c,r<R+1->c<C+1->L r c<=G r c):Ok (zaV [tT R C S,if t then tT (R+1) (C+1) L else tL (R+1) (C+1) L,if t then tT (R+1) (C+1) G else tL (R+1) (C+1) G]) fun x=>x= .val (.bl true):=by
 have pl:∀A (x:Int),Pl 1 (.lst (wL A fun _=> .int x)):=fun A x=>pl_lst (pl_w fun _=>pl_int 0 _)
 have e1:((C+1:Nat):Int)-1=((C:Nat):Int):=by lia
 have e2:((R+1:Nat):Int)-1=((R:Nat):Int):=by lia
 have d1:decide (((R+1:Nat):Int)<=6)=true:=decide_eq_true (by lia)
 have d2:decide (((C+1:Nat):Int)<=6)=true:=decide_eq_true (by lia)
 have lL:=lensB (f:=L) t (A:=R+1) (B:=C+1) (by lia)
 have lG:=lensB (f:=G) t (A:=R+1) (B:=C+1) (by lia)
 have wi:=ziW t (A:=R+1) (B:=C+1) (L:=L) (f:=L) (G:=G) (by lia) (by lia) fun r c hr hc=>⟨Int.le_refl _,le r c hr hc⟩
 cases t<;>simp only[Bool.false_eq_true,if_false,if_true]at lL lG wi ⊢ <;>
 ·simp! only[↓zaV,↓zbW,d1]
  refine⟨fun _=>?_,fun z=>absurd z (by lia)⟩
  simp! only[↓zcj,zap _ (show 0<R+1 by lia),d2]
  refine⟨fun _=>?_,fun z=>absurd z (by lia)⟩
  simp! only[↓zcg]
  refine lL.mono ?_
  rintro _ rfl
  simp! only[rep_s,(pl _ _).ne (show 1<=50 by decide)]
  refine⟨⟨⟨by lia,by lia⟩,by lia⟩,?_⟩
  refine lG.mono ?_
  rintro _ rfl
  simp! only[rep_s,(pl _ _).ne (show 1<=50 by decide)]
  refine⟨⟨⟨by lia,by lia⟩,by lia⟩,?_⟩
  simp! only[↓zcf]
  refine(zlS (by lia)).mono ?_
  rintro _ rfl
  simp! only[e1,e2,zin,(pl _ _).eq (show 1<=50 by decide)]
  refine⟨⟨⟨by lia,by lia⟩,by lia⟩,?_⟩
  refine wi.mono ?_
  rintro _ rfl
  simp! only[]
theorem zlb (t:Bool)(r1:1<=R)(r5:R<=5)(c1:1<=C)(c5:C<=5)(le:∀r c,r<R+1->c<C+1->L r c<=G r c):Ok (za0 [tT R C S,if t then tT (R+1) (C+1) L else tL (R+1) (C+1) L,if t then tT (R+1) (C+1) G else tL (R+1) (C+1) G]) fun x=>x= .val (zaA R C S L G):=by
 simp! only[↓za0,↓zff]
 refine(parts_ok t r1 r5 c1 c5 le).mono ?_
 rintro _ rfl
 simp! only[↓ze8]
 refine(zgP (by lia) (by lia)).mono ?_
 rintro _ rfl
 simp! only[]
 refine(tupsB t (by lia) (by lia)).mono ?_
 rintro _ rfl
 simp! only[]
 refine(tupsB t (by lia) (by lia)).mono ?_
 rintro _ rfl
 simp! only[]
end
section
variable {R C:Nat} {S L G f:Nat->Nat->Int} {c:Nat} {W qs:Nat->Nat}
def Sat (R C:Nat)(S L G f:Nat->Nat->Int):Prop:=zn8 R C L G f/\∀r c,r<R->c<C->four f r c=S r c
theorem Wk.bal0 (t:Wk R C c W){e:Nat->Nat->Int}(h:∀r c,r<R->c<C->four e r c=0):sumR c (fun i=>oW (R+1) W i*e (cr W i) (cc (R+1) W i))=0:=by
 have ne:=nought (R:=R) (C:=C) (e:=e) h
 obtain⟨z,hz⟩:∃z:Nat->Int,z=fun i=>if i%2=0 then sg (W i) 0*e (W i) 0 else e 0 0-sg 0 (W i-(R+1))*e 0 (W i-(R+1)):=⟨_,rfl⟩
 have step:∀i,oW (R+1) W i*e (cr W i) (cc (R+1) W i)=z i-z (i+1):=fun i=>by
  obtain⟨l1,l2,-⟩:=t.cell i
  have n1:=ne _ _ l1 l2
  have s0:sg i 0=if i%2=0 then 1 else-1:=by unfold sg;rw[Nat.add_zero]
  unfold oW
  rw[n1,s0,hz]
  (try dsimp only)
  generalize e 0 0=e00
  by_cases y:i%2=0
  ·have y':¬(i+1)%2=0:=by lia
   rw[if_pos y,if_pos y,if_neg y']
   have q1:cr W i=W i:=by unfold cr;rw[if_pos y]
   have q2:cc (R+1) W i=W (i+1)-(R+1):=by unfold cc;rw[if_pos y]
   rw[q1,q2]
   generalize sg (W i) 0*e (W i) 0=x1
   generalize sg 0 (W (i+1)-(R+1))*e 0 (W (i+1)-(R+1))=x2
   rcases zgs (W i) (W (i+1)-(R+1))with w|w<;>rw[w]<;>lia
  ·have y':(i+1)%2=0:=by lia
   rw[if_neg y,if_neg y,if_pos y']
   have q1:cr W i=W (i+1):=by unfold cr;rw[if_neg y]
   have q2:cc (R+1) W i=W i-(R+1):=by unfold cc;rw[if_neg y]
   rw[q1,q2]
   generalize sg (W (i+1)) 0*e (W (i+1)) 0=x1
   generalize sg 0 (W i-(R+1))*e 0 (W i-(R+1))=x2
   rcases zgs (W (i+1)) (W i-(R+1))with w|w<;>rw[w]<;>lia
 rw[zaw fun i _=>step i,zjL]
 have p:=t.per 0
 rw[Nat.zero_add]at p
 rw[hz]
 (try dsimp only)
 rw[if_pos t.even,if_pos rfl,p]
 lia
theorem zou (t:Wk R C c W)(f:Nat->Nat->Int):∀j,(sumR (R+1) fun r=>sumR (C+1) fun k=>cnt (R+1) W j r k*f r k)=sumR j fun i=>oW (R+1) W i*f (cr W i) (cc (R+1) W i)
 |0=>by
  rw[zaw (g:=fun _=>0) fun r _=>by show(sumR (C+1) fun k=>(0:Int)*f r k)=0;rw[zaw (g:=fun _=>0) fun k _=>Int.zero_mul (f r k)];exact zeZ _]
  exact zeZ _
 |j+1=>by
  obtain⟨h1,h2,-⟩:=t.cell j
  rw[show(sumR (j+1) fun i=>oW (R+1) W i*f (cr W i) (cc (R+1) W i))=(sumR j fun i=>oW (R+1) W i*f (cr W i) (cc (R+1) W i))+oW (R+1) W j*f (cr W j) (cc (R+1) W j)from rfl,<-zou t f j]
  have cs:∀a b,cnt (R+1) W (j+1) a b=updF (cnt (R+1) W j) (cr W j) (cc (R+1) W j) (cnt (R+1) W j (cr W j) (cc (R+1) W j)+oW (R+1) W j) a b:=fun _ _=>rfl
  have h:∀a,(sumR (C+1) fun b=>cnt (R+1) W (j+1) a b*f a b)=if a=cr W j then sumR (C+1) (fun b=>cnt (R+1) W j (cr W j) b*f (cr W j) b)-cnt (R+1) W j (cr W j) (cc (R+1) W j)*f (cr W j) (cc (R+1) W j)+(cnt (R+1) W j (cr W j) (cc (R+1) W j)+oW (R+1) W j)*f (cr W j) (cc (R+1) W j)else sumR (C+1) fun b=>cnt (R+1) W j a b*f a b:=fun a=>by
   by_cases z:a=cr W j
   ·rw[if_pos z,z,<-zeo (fun b=>cnt (R+1) W j (cr W j) b*f (cr W j) b) _ h2]
    refine zaw fun b _=>?_
    rw[cs]
    unfold updF
    by_cases y:b=cc (R+1) W j
    ·subst y;rw[if_pos ⟨rfl,rfl⟩,if_pos rfl]
    ·rw[if_neg fun z=>y z.2,if_neg y]
   ·rw[if_neg z]
    refine zaw fun b _=>?_
    rw[cs,zb9 _ _ fun y=>z y.1]
  rw[zaw fun a _=>h a,zeo (fun a=>sumR (C+1) fun b=>cnt (R+1) W j a b*f a b) _ h1,Int.add_mul]
  lia
theorem mul_max {q l f g:Int}(h1:l<=f)(h2:f<=g):q*f<=max2 (q*l) (q*g):=by
 have:q*f<=q*l\/q*f<=q*g:=by
  by_cases z:0<=q
  ·exact .inr (Int.mul_le_mul_of_nonneg_left h2 z)
  ·exact .inl (Int.mul_le_mul_of_nonpos_left (by lia) h1)
 unfold max2
 split<;>lia
theorem Wk.no (t:Wk R C c W)(s:Sat R C S L G f):(sumR c fun i=>oW (R+1) W i*pln S (cr W i) (cc (R+1) W i))<=tsum R C L G (cnt (R+1) W c):=by
 have e:=t.bal0 (e:=fun r k=>f r k-pln S r k) fun r k hr hk=>by
  have h1:=s.2 r k hr hk
  have h2:=zjs S r k
  unfold four at h1 h2 ⊢
  (try dsimp only)
  lia
 rw[zaw (g:=fun i=>oW (R+1) W i*f (cr W i) (cc (R+1) W i)-oW (R+1) W i*pln S (cr W i) (cc (R+1) W i)) fun i _=>by rw[<-Int.mul_sub],zgA,<-zou t f c]at e
 have le:(sumR (R+1) fun r=>sumR (C+1) fun k=>cnt (R+1) W c r k*f r k)<=tsum R C L G (cnt (R+1) W c):=zhN fun r hr=>zhN fun k hk=>mul_max (s.1 r k hr hk).1 (s.1 r k hr hk).2
 lia
theorem right_no (t:Wk R C c W)(s:Sat R C S L G f)(hR:R<=50)(hC:C<=50):Ok (zaF [zaA R C S L G,.tup [.str "tour",.lst (wL c (zbf (R+1) W))]]) fun x=>x= .val (.bl false):=by
 refine(zhm t hR hC).mono ?_
 rintro _ rfl
 have:=t.no s
 rw[decide_eq_false (by lia)]
theorem cnt_at (t:Tour R C S L G c W qs)(le:∀r c,r<R+1->c<C+1->L r c<=G r c):∀{j:Nat},i<j->j<=c->cnt (R+1) W j (cr W i) (cc (R+1) W i)=oW (R+1) W i
 |j+1,hi,hj=>by
  unfold cnt
  by_cases z:i=j
  ·subst z
   rw[zi1,zoK _ _ fun q hq e=>t.keys le hq (show i<c by lia) (by unfold kW;rw[e.1,e.2]),Int.zero_add]
  ·rw[zb9 _ _ fun e=>t.keys le (show i<j by lia) (show j<c by lia) (by unfold kW;rw[e.1,e.2])]
   exact cnt_at t le (by lia) (by lia)
theorem znq (t:Tour R C S L G c W qs)(le:∀r c,r<R+1->c<C+1->L r c<=G r c)(hi:i<c){m:Int}(m0:0<=m):
  tsum R C (updF L (cr W i) (cc (R+1) W i) (L (cr W i) (cc (R+1) W i)-m)) (updF G (cr W i) (cc (R+1) W i) (G (cr W i) (cc (R+1) W i)+m)) (cnt (R+1) W c)=tsum R C L G (cnt (R+1) W c)+m:=by
 obtain⟨h1,h2,-⟩:=(t.wk le).cell i
 have ca:=cnt_at t le hi (Nat.le_refl c)
 have l:=le _ _ h1 h2
 generalize cr W i=r at*
 generalize cc (R+1) W i=k at*
 have o:=zjJ (R+1) W i
 generalize oW (R+1) W i=w at*
 generalize cnt (R+1) W c=q at*
 unfold tsum
 have h:∀a,(sumR (C+1) fun b=>fi (updF L r k (L r k-m)) (updF G r k (G r k+m)) a b (q a b))=if a=r then sumR (C+1) (fun b=>fi L G r b (q r b))-fi L G r k (q r k)+(fi L G r k (q r k)+m)else sumR (C+1) fun b=>fi L G a b (q a b):=fun a=>by
  by_cases z:a=r
  ·subst z
   rw[if_pos rfl,<-zeo (fun b=>fi L G a b (q a b)) _ h2]
   refine zaw fun b _=>?_
   unfold fi
   by_cases y:b=k
   ·subst y
    rw[zi1,zi1,if_pos rfl,ca]
    unfold max2
    rcases o with e|e<;>rw[e]<;>split<;>split<;>lia
   ·rw[zb9 _ _ fun z=>y z.2,zb9 _ _ fun z=>y z.2,if_neg y]
  ·rw[if_neg z]
   refine zaw fun b _=>?_
   unfold fi
   rw[zb9 _ _ fun y=>z y.1,zb9 _ _ fun y=>z y.1]
 rw[zaw fun a _=>h a,zeo (fun a=>sumR (C+1) fun b=>fi L G a b (q a b)) _ h1]
 lia
end
theorem zhU (r c:Nat):Ok (zbk [.int (r:Nat),.int (c:Nat)]) fun x=>x= .val (.int (sg r c)):=by
 have e:((r:Int)+(c:Int))%2=(((r+c)%2:Nat):Int):=by lia
 simp! only[↓zbk,↓zgp,e]
 have:(r+c)%2=0\/(r+c)%2=1:=by lia
 unfold sg
 rcases this with z|z<;>rw[z]<;>simp[Ok,OkQ]
section
variable {J:Type} [DecidableEq J]
theorem zma (g:J->D)(x:J):∀ks:List J,lkD ks (ks.map g) x=if x∈ks then some (g x)else none
 |[]=>rfl
 |q::ks=>by
  rw[List.map_cons,lkD,zma g x ks]
  by_cases e:q=x
  ·subst e;simp
  ·have e2:x≠q:=fun z=>e z.symm
   simp[e,e2]
def pkJ (x:J)(ks:List J):List J:=if x∈ks then ks else ks++[x]
theorem pt_map (g:J->D)(x:J)(d:D)(ks:List J):ptD ks (ks.map g) x d=(pkJ x ks,(pkJ x ks).map fun y=>if y=x then d else g y):=by
 unfold ptD pkJ
 by_cases h:x∈ks
 ·rw[if_pos (List.contains_iff_mem.mpr h),if_pos h]
  congr 1
  clear h
  induction ks with
  |nil=>rfl
  |cons q ks ih=>
   rw[List.map_cons,List.map_cons,List.zipWith_cons_cons,ih]
 ·rw[if_neg (fun c=>h (List.contains_iff_mem.mp c)),if_neg h]
  congr 1
  rw[List.map_append]
  congr 1
  ·apply List.map_congr_left
   intro y hy
   have:y≠x:=fun z=>h (z ▸ hy)
   simp[this]
  ·simp
end
theorem key2 (a b:Int):keyT (.tup [.int a,.int b])=some [a,b]:=rfl
section
variable {R C:Nat} {S L G f:Nat->Nat->Int} {c:Nat} {W qs:Nat->Nat}
theorem bal_ok (t:Tour R C S L G c W qs)(hR:R<=50)(hC:C<=50):Ok (zbS [tL (R+1) (C+1) f,.lst (wL c (zbf (R+1) W))]) fun x=>x= .val (.int (sumR c fun i=>oW (R+1) W i*f (cr W i) (cc (R+1) W i))):=by
 simp! only[↓zbS,↓zdI,↓zd3,zgt]
 refine za5 (fun i ρ=>∃s3 s4 s5 s6,ρ=[.val (tL (R+1) (C+1) f),.val (.lst (wL c (zbf (R+1) W))),.val (.int (sumR i fun i=>oW (R+1) W i*f (cr W i) (cc (R+1) W i))),s3,s4,s5,s6]) ⟨_,_,_,_,rfl⟩ ?_ ?_
 ·rintro i _ hi ⟨s3,s4,s5,s6,rfl⟩
  obtain⟨-,-,l1,l2,-,e⟩:=t.cell i
  simp! only[↓zdT,e]
  refine(zhU _ _).mono ?_
  rintro _ rfl
  simp! only[]
  refine(zhU i 0).mono ?_
  rintro _ rfl
  simp! only[zap _ l1,zap _ l2]
  exact⟨zhC (zgs _ _),zhC (zjJ (R+1) W i),_,_,_,_,rfl⟩
 ·rintro _ ⟨s3,s4,s5,s6,rfl⟩
  simp! only[]
theorem zls (t:Tour R C S L G c W qs)(le:∀r c,r<R+1->c<C+1->L r c<=G r c):Ok (zbw [.lst (wL c (zbf (R+1) W))]) fun x=>∃g:List Int->D,(∀j,j<c->g (kW (R+1) W j)= .int (oW (R+1) W j))/\x= .val (.dit ((List.range c).map (kW (R+1) W)) (((List.range c).map (kW (R+1) W)).map g)):=by
 have c9:=t.c9
 simp! only[↓zbw,↓zfE,↓zfx,zgt]
 refine za5 (fun i ρ=>∃(g:List Int->D) (s2 s3 s4:Sl),(∀j,j<i->g (kW (R+1) W j)= .int (oW (R+1) W j))/\ρ=[.val (.lst (wL c (zbf (R+1) W))),.tre (.dit ((List.range i).map (kW (R+1) W)) (((List.range i).map (kW (R+1) W)).map g)),s2,s3,s4]) ⟨fun _=> .non,_,_,_,fun j hj=>absurd hj (by lia),rfl⟩ ?_ ?_
 ·rintro i _ hi ⟨g,s2,s3,s4,hg,rfl⟩
  obtain⟨-,-,l1,l2,-,e⟩:=t.cell i
  have nm:kW (R+1) W i∉(List.range i).map (kW (R+1) W):=fun m=>by
   obtain⟨j,hj,ej⟩:=List.mem_map.mp m
   exact t.keys le (List.mem_range.mp hj) hi ej
  have lk:=zma g (kW (R+1) W i) ((List.range i).map (kW (R+1) W))
  rw[if_neg nm]at lk
  have pm:=pt_map g (kW (R+1) W i) (.int (0+oW (R+1) W i)) ((List.range i).map (kW (R+1) W))
  have pk:pkJ (kW (R+1) W i) ((List.range i).map (kW (R+1) W))=(List.range (i+1)).map (kW (R+1) W):=by
   unfold pkJ;rw[if_neg nm,List.range_succ,List.map_append];rfl
  rw[pk]at pm
  have lk':lkD ((List.range i).map (kW (R+1) W)) (((List.range i).map (kW (R+1) W)).map g) [(cr W i:Int),(cc (R+1) W i:Int)]=none:=lk
  have pm':ptD ((List.range i).map (kW (R+1) W)) (((List.range i).map (kW (R+1) W)).map g) [(cr W i:Int),(cc (R+1) W i:Int)] (.int (0+sg (cr W i) (cc (R+1) W i)*sg i 0))=((List.range (i+1)).map (kW (R+1) W),((List.range (i+1)).map (kW (R+1) W)).map fun y=>if y=kW (R+1) W i then .int (0+oW (R+1) W i)else g y):=pm
  have ll:((List.range i).map (kW (R+1) W)).length=i:=by simp
  simp! only[↓zfj,e,key2]
  refine(zhU _ _).mono ?_
  rintro _ rfl
  simp! only[]
  refine(zhU i 0).mono ?_
  rintro _ rfl
  simp! only[lk',Option.getD_none,key2,pm',ll]
  refine⟨zhC (zgs _ _),by lia,_,_,_,_,fun j hj=>?_,rfl⟩
  (try dsimp only)
  by_cases z:j=i
  ·subst z;rw[if_pos rfl,Int.zero_add]
  ·rw[if_neg (t.keys le (show j<i by lia) hi)]
   exact hg j (by lia)
 ·rintro _ ⟨g,s2,s3,s4,hg,rfl⟩
  simp! only[]
  exact⟨g,hg,rfl⟩
theorem znd (t:Tour R C S L G c W qs)(le:∀r c,r<R+1->c<C+1->L r c<=G r c):Ok (zaC [zaA R C S L G,.lst (wL c (zbf (R+1) W))]) fun x=>x= .val (.int (sumR c fun i=>max2 (oW (R+1) W i*L (cr W i) (cc (R+1) W i)) (oW (R+1) W i*G (cr W i) (cc (R+1) W i)))):=by
 have c9:=t.c9
 simp! only[↓zaC,↓zbY]
 refine(zls t le).mono ?_
 rintro _ ⟨g,hg,rfl⟩
 simp! only[↓zce]
 rw[show(((List.range c).map (kW (R+1) W)).map fun k=>D.tup (k.map .int))=wL c fun i=> .tup [.int (cr W i:Nat),.int (cc (R+1) W i:Nat)]from by unfold wL;rw[List.map_map];rfl]
 refine za5 (fun i ρ=>∃s7 s8,ρ=[.val (zaA R C S L G),.val (.lst (wL c (zbf (R+1) W))),.val (tT R C S),.val (tT (R+1) (C+1) L),.val (tT (R+1) (C+1) G),.val (.dit ((List.range c).map (kW (R+1) W)) (((List.range c).map (kW (R+1) W)).map g)),.val (.int (sumR i fun i=>max2 (oW (R+1) W i*L (cr W i) (cc (R+1) W i)) (oW (R+1) W i*G (cr W i) (cc (R+1) W i)))),s7,s8]) ⟨_,_,rfl⟩ ?_ ?_
 ·rintro i _ hi ⟨s7,s8,rfl⟩
  obtain⟨-,-,l1,l2,-,-⟩:=t.cell i
  have lk:lkD ((List.range c).map (kW (R+1) W)) (((List.range c).map (kW (R+1) W)).map g) [(cr W i:Int),(cc (R+1) W i:Int)]=some (.int (oW (R+1) W i)):=by
   have:=zma g (kW (R+1) W i) ((List.range c).map (kW (R+1) W))
   rw[if_pos (List.mem_map.mpr ⟨i,List.mem_range.mpr hi,rfl⟩),hg i hi]at this
   exact this
  simp! only[↓zci,key2,lk,zap _ l1,zap _ l2]
  exact⟨zhC (zjJ _ _ _),zhC (zjJ _ _ _),_,_,rfl⟩
 ·rintro _ ⟨s7,s8,rfl⟩
  simp! only[]
theorem zky (hR:R<=50)(hC:C<=50):Ok (zbA [zaA R C S L G]) fun x=>x= .own (wL (R+1) fun r=> .lst (wI (C+1) (pln S r))):=by
 simp! only[↓zbA,↓zfF,zap _ (show 0<R+1 by lia)]
 have e0:([D.int 0]::List.replicate C [D.int 0]).flatten=wI (C+1) (pln S 0):=by rw[<-List.replicate_succ];exact zin _ _
 simp! only[↓zeV]
 refine⟨⟨⟨by lia,by lia⟩,by lia⟩,za5 (fun i ρ=>∃s5 s6 s7 s8 s9,ρ=[.val (zaA R C S L G),.val (tT R C S),.val (tT (R+1) (C+1) L),.val (tT (R+1) (C+1) G),.own (wL (i+1) fun r=> .lst (wI (C+1) (pln S r))),s5,s6,s7,s8,s9]) ⟨.emp,.emp,.emp,.emp,.emp,by rw[e0];rfl⟩ ?_ ?_⟩
 ·rintro i _ hi ⟨s5,s6,s7,s8,s9,rfl⟩
  simp! only[↓zeR,↓zfM,zgt]
  refine za5 (fun j ρ=>∃s7 s8 s9,ρ=[.val (zaA R C S L G),.val (tT R C S),.val (tT (R+1) (C+1) L),.val (tT (R+1) (C+1) G),.own (wL (i+1) fun r=> .lst (wI (C+1) (pln S r))),.val (.tup (wI C (S i))),.own (wI (j+1) (pln S (i+1))),s7,s8,s9]) ⟨_,_,_,rfl⟩ ?_ ?_
  ·rintro j _ hj ⟨s7,s8,s9,rfl⟩
   have hc:=cut_w (n:=C+1) (a:=j) (b:=2) (fun k=> .int (pln S i k)) (by lia)
   have e2:(j:Int)+((2:Nat):Int)=(j:Int)+2:=rfl
   rw[e2]at hc
   simp! only[↓zfc,zkj,hc,zlZ,zhX,zap _ (show j<j+1 by lia)]
   have es:(S i j-sumR 2 fun k=>pln S i (j+k))-pln S (i+1) j=pln S (i+1) (j+1):=by
    show(S i j-(0+pln S i (j+0)+pln S i (j+1)))-pln S (i+1) j=S i j-pln S i j-pln S i (j+1)-pln S (i+1) j
    rw[Nat.add_zero];lia
   rw[es]
   exact⟨by lia,_,_,_,by rw[show wI (j+1+1) (pln S (i+1))=_ from zbb _ _]⟩
  ·rintro _ ⟨s7,s8,s9,rfl⟩
   simp! only[]
   exact⟨by lia,_,_,_,_,_,by rw[zbb (i+1)]⟩
 ·rintro _ ⟨s5,s6,s7,s8,s9,rfl⟩
  simp! only[]
end
theorem next_ne {x t b:Nat}(hx:x<b)(ht:t+1<b):(x+1+t)%b≠x:=by
 by_cases h:x+1+t<b
 ·rw[Nat.mod_eq_of_lt h];lia
 ·rw[Nat.mod_eq_sub_mod (by lia),Nat.mod_eq_of_lt (by lia)];lia
structure Unl (b n:Nat) (f:Nat->Nat):Prop where
 lt:∀i,i<n->f i<b
 ne:∀i,i+1<n->f i≠f (i+1)
abbrev nI (n:Nat)(f:Nat->Nat):List D:=wI n fun i=>(f i:Nat)
theorem zni (h:Pot ds)(size below:Nat)(hs:size<=12)(hs0:2<=size)(hb:2<=below)(hb6:below<=6)(x:Nat)(hx:x<below)(s4:Sl){Q:Fl×R->Prop}
  (hQ:∀(ds':List D) (f:Nat->Nat) (s:Sl),Pot ds'->Unl below size f->Q (.next,[.par ds',.val (.int size),.val (.int below),.own (nI size f),s])):
  Ok (zcF [.par ds,.val (.int size),.val (.int below),.own [.int x],s4]) Q:=by
 simp! only[↓zcF]
 refine⟨za2 (by lia) (by lia),?_⟩
 rw[show((size:Int)-1).toNat=size-1 by lia]
 refine za5 (fun i ρ=>∃(ds':List D) (f:Nat->Nat) (s:Sl),Pot ds'/\Unl below (i+1) f/\ρ=[.par ds',.val (.int size),.val (.int below),.own (nI (i+1) f),s]) ⟨ds,fun _=>x,s4,h,⟨fun _ _=>hx,fun _ _=>by lia⟩,rfl⟩ ?_ ?_
 ·rintro i _ hi ⟨d1,f,s,h1,u,rfl⟩
  simp! only[↓zeL,zot]
  refine(zbM h1 (m:=(below:Int)-1) (by lia) (by lia)).mono ?_
  rintro _ ⟨t,d2,ht,h2,rfl⟩
  simp! only[za7]
  refine⟨by lia,by lia,d2,fun j=>if j<i+1 then f j else(f i+1+t)%below,.val (.int i),h2,⟨fun j hj=>?_,fun j hj=>?_⟩,?_⟩
  ·by_cases hji:j<i+1
   ·simp only[hji,if_true];exact u.lt j hji
   ·simp only[hji,if_false];exact Nat.mod_lt _ (by lia)
  ·by_cases hji:j+1<i+1
   ·simp only[hji,if_true,show j<i+1 by lia];exact u.ne j hji
   ·have e:j=i:=by lia
    subst e
    simp only[if_true,show j<j+1 by lia,show ¬(j+1<j+1) by lia,if_false]
    exact(next_ne (u.lt j (by lia)) (by lia)).symm
  ·have e:((f i:Int)+1+(t:Int))%(below:Int)=(((f i+1+t)%below:Nat):Int):=by push_cast;rfl
   rw[e,zkK]
   congr 5
   exact zbC fun j _=>by dsimp only;split<;>rfl
 ·rintro _ ⟨d1,f,s,h1,u,rfl⟩
  rw[show size-1+1=size by lia]at*
  exact hQ d1 f s h1 u
theorem par2 {f:Nat->Nat}(u:Unl 2 n f):∀i,i<n->f i%2=(f 0+i)%2
 |0,_=>by lia
 |i+1,h=>by
  have h1:=par2 u i (by lia)
  have h2:=u.ne i h
  have h3:=u.lt i (by lia)
  have h4:=u.lt (i+1) h
  lia
def fewI (b x y:Nat):List Int:=(List.range b).filterMap fun j=>if j=x\/j=y then none else some (j:Int)
theorem few_mem {b x y:Nat}{v:Int}(h:v∈fewI b x y):∃j:Nat,v=j/\j<b/\j≠x/\j≠y:=by
 obtain⟨j,hj,e⟩:=List.mem_filterMap.mp h
 by_cases c:j=x\/j=y
 ·simp[c]at e
 ·simp[c]at e
  exact⟨j,e.symm,List.mem_range.mp hj,fun z=>c (.inl z),fun z=>c (.inr z)⟩
theorem few_ne {b x y:Nat}(h:3<=b):fewI b x y≠[]:=by
 have:∃j,j<3/\j≠x/\j≠y:=by
  by_cases h0:0≠x/\0≠y
  ·exact⟨0,by lia,h0⟩
  ·by_cases h1:1≠x/\1≠y
   ·exact⟨1,by lia,h1⟩
   ·exact⟨2,by lia,by lia,by lia⟩
 obtain⟨j,h1,h2,h3⟩:=this
 intro e
 have:(j:Int)∈fewI b x y:=List.mem_filterMap.mpr ⟨j,List.mem_range.mpr (by lia),by simp[h2,h3]⟩
 rw[e]at this
 exact absurd this List.not_mem_nil
theorem zn2 (z below:Nat)(f:Nat->Nat)(hs:z+2<=12)(hb6:below<=6)(s4:Sl)
  (hQ:Q ((fewI below (f 0) (f z)).map .int,[.par ds,.val (.int ((z+2:Nat):Int)),.val (.int below),.own (nI (z+2) f),s4])):
  Ok (zcH [.par ds,.val (.int ((z+2:Nat):Int)),.val (.int below),.own (nI (z+2) f),s4]) Q:=by
 simp! only[↓zcH,List.filter,bne_self_eq_false,filterMap_some]
 refine⟨za2 (by lia) (by lia),by lia,zj9 (fun ρ=>∃s,ρ=[.par (nI (z+2) f),s]) (fun j=>if j=f 0\/j=f z then none else some (.int (j:Nat))) ⟨.emp,rfl⟩ ?_ ?_⟩
 ·rintro i _ hi ⟨s,rfl⟩
  simp! only[↓zeD,↓zeK,atI_w2,zap _ (show 0<z+2 by lia),notIn2]
  refine⟨fun h=>⟨?_,_,rfl⟩,fun h=>⟨?_,_,rfl⟩⟩
  ·rw[if_neg];simp at h;lia
  ·rw[if_pos];simp at h;lia
 ·rintro _ ⟨s,rfl⟩
  simp! only[]
  have:(List.range below).filterMap (fun j=>if j=f 0\/j=f z then none else some (D.int (j:Nat)))=(fewI below (f 0) (f z)).map .int:=by
   unfold fewI
   rw[List.map_filterMap]
   exact zey _ fun j _=>by split<;>rfl
  rw[this]
  exact hQ
theorem zko (h:Pot ds)(z below:Nat)(hz:z%2=0)(hz4:z<=4)(hb:2<=below)(hb6:below<=6):
  Ok (zbF ds [.int ((z+2:Nat):Int),.int below]) fun r=>∃(f:Nat->Nat) (ds':List D),Pot ds'/\Unl below (z+2) f/\f (z+1)≠f 0/\r=(.own (nI (z+2) f),ds'):=by
 simp! only[↓zbF,↓zeq]
 refine(zbM h (m:=(below:Int)) (by lia) (by lia)).mono ?_
 rintro _ ⟨t,d2,ht,h2,rfl⟩
 simp! only[]
 refine zni h2 (z+2) below (by lia) (by lia) hb hb6 t (by lia) .emp ?_
 intro d3 f s h3 u
 simp! only[zot,zap _ (show 0<z+2 by lia)]
 refine⟨fun e=>?_,fun e=>?_⟩
 ·have hb3:3<=below:=by
   by_cases q:below=2
   ·subst q
    have:=par2 u (z+1) (by lia)
    lia
   ·lia
  refine zn2 z below f (by lia) hb6 _ ?_
  have hne:=few_ne (b:=below) (x:=f 0) (y:=f z) hb3
  have hm:=znF (fun i j=>decide (i<j)) hne
  have hbst:=zmz (fun i j=>decide (i<j)) hne
  obtain⟨j,e1,e2,e3,e4⟩:=few_mem hm
  simp! only[hbst,ixN_last,e1,↓zcI]
  rw[wL_set _ _ (by lia:z+1<z+2)]
  refine⟨fun i=>if i=z+1 then j else f i,d3,h3,⟨fun i hi=>?_,fun i hi=>?_⟩,?_,?_⟩
  ·split
   ·exact e2
   ·exact u.lt i hi
  ·rw[if_neg (by lia)]
   split
   ·have:i=z:=by lia
    subst this;exact fun q=>e4 q.symm
   ·exact u.ne i hi
  ·simp only[if_true];rw[if_neg (by lia)];exact e3
  ·congr 2
   exact zbC fun i _=>by dsimp only;split<;>rfl
 ·simp! only[↓zcI]
  exact⟨f,d3,h3,u,fun q=>e (by rw[q]),rfl⟩
def tr (s:Nat)(f:Nat->Nat)(a:Nat):Nat:=if a%2=0 then f (a/2)else f ((a/2+1)%s)
def cD (cr cc:Nat->Nat)(a:Nat):D:= .tup [.int (cr a:Nat),.int (cc a:Nat)]
abbrev cells (q:Nat)(cr cc:Nat->Nat):List D:=wL q (cD cr cc)
theorem ltour_ok (h:Pot ds)(rows cols:Nat)(hr:2<=rows)(hr6:rows<=6)(hc:2<=cols)(hc6:cols<=6):
  Ok (zdg ds [.int rows,.int cols]) fun r=>∃(z:Nat) (f g:Nat->Nat) (ds':List D),Pot ds'/\z%2=0/\z<=4/\Unl rows (z+2) f/\Unl cols (z+2) g/\f (z+1)≠f 0/\g (z+1)≠g 0/\r=(.own (cells (2*(z+2)) (tr (z+2) f) fun a=>g (a/2)),ds'):=by
 simp! only[↓zdg,↓zgl]
 refine(zbM h (m:=3) (by lia) (by lia)).mono ?_
 rintro _ ⟨t,d2,ht,h2,rfl⟩
 simp! only[]
 refine⟨zcG (by decide),?_⟩
 have e:(2:Int)*(1+(t:Int))=((2*t+2:Nat):Int):=by lia
 rw[e]
 generalize hz:2*t=z
 have hz2:z%2=0:=by lia
 have hz4:z<=4:=by lia
 refine(zko h2 z rows hz2 hz4 hr hr6).mono ?_
 rintro _ ⟨f,d3,h3,u,u0,rfl⟩
 simp! only[]
 refine(zko h3 z cols hz2 hz4 hc hc6).mono ?_
 rintro _ ⟨g,d4,h4,v,v0,rfl⟩
 simp! only[↓zf1]
 refine⟨za2 (by lia) (by lia),za5 (fun i ρ=>∃s,ρ=[.par d4,.val (.int rows),.val (.int cols),.val (.int ((z+2:Nat):Int)),.val (.lst (nI (z+2) f)),.val (.lst (nI (z+2) g)),.own (cells (2*i) (tr (z+2) f) fun a=>g (a/2)),s]) ⟨_,rfl⟩ ?_ ?_⟩
 ·rintro i _ hi ⟨s,rfl⟩
  have hm:((i:Int)+1)%((z+2:Nat):Int)=(((i+1)%(z+2):Nat):Int):=by push_cast;rfl
  simp! only[↓zgh,hm,zap _ hi,zap _ (Nat.mod_lt (i+1) (show 0<z+2 by lia))]
  refine⟨by lia,by lia,by lia,.val (.int i),?_⟩
  have ec:∀c:Nat->D,wL (2*(i+1)) c=wL (2*i) c++[c (2*i)]++[c (2*i+1)]:=fun c=>by rw[show 2*(i+1)=2*i+1+1 by lia,zbb,zbb]
  have c0:cD (tr (z+2) f) (fun a=>g (a/2)) (2*i)= .tup [.int (f i:Nat),.int (g i:Nat)]:=by
   unfold cD tr;rw[if_pos (by lia)];simp only[show 2*i/2=i by lia]
  have c1:cD (tr (z+2) f) (fun a=>g (a/2)) (2*i+1)= .tup [.int (f ((i+1)%(z+2)):Nat),.int (g i:Nat)]:=by
   unfold cD tr;rw[if_neg (by lia)];simp only[show(2*i+1)/2=i by lia]
  simp only[cells,ec,c0,c1]
 ·rintro _ ⟨s,rfl⟩
  simp! only[]
  exact⟨z,f,g,_,h4,hz2,hz4,u,v,u0,v0,rfl⟩
def dW (R z:Nat)(f g:Nat->Nat)(i:Nat):Nat:=if i%(2*(z+2))%2=0 then f (i%(2*(z+2))/2)else R+1+g (i%(2*(z+2))/2)
section
variable {R C z:Nat} {f g:Nat->Nat}
theorem zj1 (hi:i<2*(z+2)):dW R z f g i=if i%2=0 then f (i/2)else R+1+g (i/2):=by unfold dW;rw[Nat.mod_eq_of_lt hi]
theorem zm4 (i:Nat):dW R z f g (i+2*(z+2))=dW R z f g i:=by unfold dW;rw[Nat.add_mod_right]
theorem dW_c:dW R z f g (2*(z+2))=f 0:=by
 have:=zm4 (R:=R) (z:=z) (f:=f) (g:=g) 0
 rw[Nat.zero_add]at this
 rw[this,zj1 (by lia)];rfl
theorem dW_c1:dW R z f g (2*(z+2)+1)=R+1+g 0:=by
 have:=zm4 (R:=R) (z:=z) (f:=f) (g:=g) 1
 rw[show 2*(z+2)+1=1+2*(z+2) by lia,this,zj1 (by lia)];rfl
theorem dW_wk (z4:z<=4)(u:Unl (R+1) (z+2) f)(v:Unl (C+1) (z+2) g)(u0:f (z+1)≠f 0)(v0:g (z+1)≠g 0):Wk R C (2*(z+2)) (dW R z f g) where
 c4:=by lia
 c9:=by lia
 per:=zm4
 even:=by lia
 par:=fun i=>by
  have m:i%(2*(z+2))<2*(z+2):=Nat.mod_lt _ (by lia)
  have e:i%(2*(z+2))%2=i%2:=by rw[Nat.mod_mul_right_mod]
  have l:=u.lt (i%(2*(z+2))/2) (by lia)
  unfold dW
  rw[e]
  split<;>lia
 lt:=fun i=>by
  have m:i%(2*(z+2))<2*(z+2):=Nat.mod_lt _ (by lia)
  have l:=u.lt (i%(2*(z+2))/2) (by lia)
  have l':=v.lt (i%(2*(z+2))/2) (by lia)
  unfold dW
  split<;>lia
 two:=fun i hi=>by
  rw[zj1 hi]
  by_cases h:i+1+1<2*(z+2)
  ·rw[zj1 h]
   have e:(i+1+1)/2=i/2+1:=by lia
   have a:=u.ne (i/2) (by lia)
   have b:=v.ne (i/2) (by lia)
   rw[e]
   split<;>split<;>lia
  ·by_cases y:i+1+1=2*(z+2)
   ·rw[y,dW_c,if_pos (by lia),show i/2=z+1 by lia]
    exact u0
   ·rw[show i+1+1=2*(z+2)+1 by lia,dW_c1,if_neg (by lia),show i/2=z+1 by lia]
    lia
theorem dW_cells (t:Wk R C (2*(z+2)) (dW R z f g)):cells (2*(z+2)) (tr (z+2) f) (fun a=>g (a/2))=wL (2*(z+2)) (zbf (R+1) (dW R z f g)):=by
 refine zbC fun i hi=>?_
 rw[(t.cell i).2.2]
 unfold cD
 have e1:tr (z+2) f i=cr (dW R z f g) i:=by
  unfold tr cr
  by_cases y:i%2=0
  ·rw[if_pos y,if_pos y,zj1 hi,if_pos y]
  ·rw[if_neg y,if_neg y]
   by_cases h:i+1<2*(z+2)
   ·rw[zj1 h,if_pos (by lia),show(i+1)/2=i/2+1 by lia,Nat.mod_eq_of_lt (show i/2+1<z+2 by lia)]
   ·rw[show i+1=2*(z+2) by lia,dW_c,show i/2+1=z+2 by lia,Nat.mod_self]
 have e2:g (i/2)=cc (R+1) (dW R z f g) i:=by
  unfold cc
  by_cases y:i%2=0
  ·rw[if_pos y,zj1 (show i+1<2*(z+2) by lia),if_neg (by lia),show(i+1)/2=i/2 by lia];lia
  ·rw[if_neg y,zj1 hi,if_neg y];lia
 rw[e1]
 show D.tup [_,D.int (g (i/2):Nat)]=_
 rw[e2]
end
section
variable {R C:Nat} {S L G f:Nat->Nat->Int} {c:Nat} {W qs:Nat->Nat}
theorem zk9 (g:Nat->D)(h:∀i,tpD (g i)=true):∀l:List Nat,tpL (l.map g)=true
 |[]=>rfl
 |a::l=>by show(tpD (g a)&&tpL (l.map g))=true;rw[h a,zk9 g h l];rfl
theorem tp_tT (A B:Nat)(f:Nat->Nat->Int):tpD (tT A B f)=true:=zk9 (fun r=> .tup (wI B (f r))) (fun r=>zk9 (fun c=> .int (f r c)) (fun _=>rfl) (List.range B)) (List.range A)
theorem zlW (S L G:Nat->Nat->Int):tpD (zaA R C S L G)=true:=by
 show(tpD (tT R C S)&&(tpD (tT (R+1) (C+1) L)&&(tpD (tT (R+1) (C+1) G)&&true)))=true
 rw[tp_tT,tp_tT,tp_tT];rfl
theorem zjr (n m:Nat)(f:Nat->Nat->Int):((List.range n).map fun r=>wI m (f r)).map Ch.l=tC n m f:=by unfold tC;rw[List.map_map];rfl
theorem wider_ok (r1:1<=R)(r5:R<=5)(c1:1<=C)(c5:C<=5)(le:∀r c,r<R+1->c<C+1->L r c<=G r c)(b:Nat):Ok (zcD [zaA R C S L G,.int b]) fun x=>x= .val (zaA R C S (fun r k=>L r k-b) fun r k=>G r k+b):=by
 simp! only[↓zcD,↓zfQ]
 refine⟨by lia,zdc (fun ρ=>∃z,ρ=[.val (.int b),z]) (fun r=>wI (C+1) fun k=>L r k-b) ⟨_,rfl⟩ ?_ ?_⟩
 ·rintro r _ hr ⟨z,rfl⟩
  simp! only[↓zdv,↓zfh,↓zfR]
  refine⟨by lia,zaM (fun ρ=>∃z,ρ=[.val (.int b),z]) (fun k=> .int (L r k-b)) ⟨_,rfl⟩ ?_ ?_⟩
  ·rintro k _ hk ⟨z,rfl⟩
   simp! only[↓zfd]
   exact⟨_,rfl⟩
  ·rintro _ ⟨z,rfl⟩
   exact⟨rfl,rfl,_,rfl⟩
 rintro _ ⟨z,rfl⟩
 rw[zjr]
 simp! only[]
 refine⟨by lia,zdc (fun ρ=>∃z,ρ=[.val (.int b),z]) (fun r=>wI (C+1) fun k=>G r k+b) ⟨_,rfl⟩ ?_ ?_⟩
 ·rintro r _ hr ⟨z,rfl⟩
  simp! only[↓zdv,↓zfH,↓zfe]
  refine⟨by lia,zaM (fun ρ=>∃z,ρ=[.val (.int b),z]) (fun k=> .int (G r k+b)) ⟨_,rfl⟩ ?_ ?_⟩
  ·rintro k _ hk ⟨z,rfl⟩
   simp! only[↓zeS]
   exact⟨_,rfl⟩
  ·rintro _ ⟨z,rfl⟩
   exact⟨rfl,rfl,_,rfl⟩
 rintro _ ⟨z,rfl⟩
 rw[zjr]
 simp! only[tC_D]
 refine(zlb false r1 r5 c1 c5 fun r k hr hk=>?_).mono ?_
 ·have:=le r k hr hk;(try dsimp only);lia
 rintro _ rfl
 simp! only[]
 exact⟨zlW _ _ _,rfl⟩
theorem srt_keys (c:Nat)(k:Nat->List Int)(d:List Int->D):∃s:Nat->Nat,(∀j,j<c->s j<c)/\srtD ((List.range c).map k) (((List.range c).map k).map d)=wL c fun j=>d (k (s j)):=by
 have p:=zjc (n:=c) (HT.zos ((List.range c).map k))
 have hl:(srt c (HT.zhb ((List.range c).map k))).length=c:=by rw[p.length_eq,List.length_range]
 have lt:∀j,j<c->(srt c (HT.zhb ((List.range c).map k))).getD j 0<c:=fun j hj=>by
  have:(srt c (HT.zhb ((List.range c).map k))).getD j 0∈List.range c:=p.mem_iff.mp (by rw[List.getD_eq_getElem?_getD,List.getElem?_eq_getElem (by lia)];exact List.getElem_mem _)
  exact List.mem_range.mp this
 refine⟨fun j=>(srt c (HT.zhb ((List.range c).map k))).getD j 0,lt,?_⟩
 unfold srtD
 rw[List.length_map,List.length_map,List.length_range]
 generalize srt c (HT.zhb ((List.range c).map k))=l at*
 refine List.ext_getElem? fun j=>?_
 by_cases hj:j<c
 ·have l':=lt j hj
  rw[zap _ hj,List.getElem?_map]
  (try dsimp only)
  rw[List.getD_eq_getElem?_getD,List.getElem?_eq_getElem (show j<l.length by lia)]at l' ⊢
  simp only[Option.getD_some]at l' ⊢
  simp[l']
 ·rw[List.getElem?_eq_none (by rw[List.length_map,hl];lia),List.getElem?_eq_none (by rw[za7];lia)]
theorem zmN (t:Tour R C S L G c W qs)(r1:1<=R)(r5:R<=5)(c1:1<=C)(c5:C<=5)(c64:c<64)(le:∀r c,r<R+1->c<C+1->L r c<=G r c):Ok (zbQ [zaA R C S L G,.lst (wL c (zbf (R+1) W))]) fun x=>∃i m,i<c/\(sumR c fun i=>oW (R+1) W i*pln S (cr W i) (cc (R+1) W i))=tsum R C L G (cnt (R+1) W c)+m/\0<m/\x= .val (zaA R C S (updF L (cr W i) (cc (R+1) W i) (L (cr W i) (cc (R+1) W i)-m)) (updF G (cr W i) (cc (R+1) W i) (G (cr W i) (cc (R+1) W i)+m))):=by
 simp! only[↓zbQ,↓zdN]
 refine(zky (by lia) (by lia)).mono ?_
 rintro _ rfl
 simp! only[]
 refine(bal_ok t (by lia) (by lia)).mono ?_
 rintro _ rfl
 simp! only[]
 refine(znd t le).mono ?_
 rintro _ rfl
 have ng:=t.neg
 rw[zaw fun i _=>t.wt le i,zgA]at ng
 have mo:=zjD t le c (Nat.le_refl _)
 rw[<-mo]at ng ⊢
 obtain⟨m,hm⟩:∃m,m=(sumR c fun i=>oW (R+1) W i*pln S (cr W i) (cc (R+1) W i))-tsum R C L G (cnt (R+1) W c):=⟨_,rfl⟩
 simp! only[]
 rw[<-hm]
 refine(zls t le).mono ?_
 rintro _ ⟨g,hg,rfl⟩
 obtain⟨s,hs,es⟩:=srt_keys c (kW (R+1) W) fun k=> .tup (k.map .int)
 have ty:(fun j=>D.tup ((kW (R+1) W (s j)).map .int))=fun j=>D.tup [.int (cr W (s j):Nat),.int (cc (R+1) W (s j):Nat)]:=rfl
 have c4:=t.c4 le
 rw[ty]at es
 simp! only[↓zdY,es]
 refine⟨⟨by rw[List.length_range];exact c64,List.all_eq_true.mpr fun k hk=>by obtain⟨j,-,rfl⟩:=List.mem_map.mp hk;rfl⟩,by lia,zj9 (fun ρ=>∃z,ρ=[.val (.dit ((List.range c).map (kW (R+1) W)) (((List.range c).map (kW (R+1) W)).map g)),z]) (fun j=>some (.tup [.int (cr W (s j):Nat),.int (cc (R+1) W (s j):Nat)])) ⟨_,rfl⟩ ?_ ?_⟩
 ·rintro j _ hj ⟨z,rfl⟩
  have lk:lkD ((List.range c).map (kW (R+1) W)) (((List.range c).map (kW (R+1) W)).map g) [(cr W (s j):Int),(cc (R+1) W (s j):Int)]=some (.int (oW (R+1) W (s j))):=by
   have:=zma g (kW (R+1) W (s j)) ((List.range c).map (kW (R+1) W))
   rw[if_pos (List.mem_map.mpr ⟨s j,List.mem_range.mpr (hs j hj),rfl⟩),hg _ (hs j hj)]at this
   exact this
  have o:=zjJ (R+1) W (s j)
  simp! only[↓zdR,↓zdQ,key2,lk]
  exact⟨fun _=>⟨_,rfl⟩,fun h=>absurd h (by lia)⟩
 rintro _ ⟨z,rfl⟩
 have hs0:=hs 0 (by lia)
 obtain⟨h1,h2,-⟩:=(t.wk le).cell (s 0)
 have f0:((List.range c).filterMap fun j=>some (D.tup [.int (cr W (s j):Nat),.int (cc (R+1) W (s j):Nat)]))[0]? =some (.tup [.int (cr W (s 0):Nat),.int (cc (R+1) W (s 0):Nat)]):=by
  rw[<-Function.comp_def some,List.filterMap_eq_map,List.getElem?_map,List.getElem?_range (by lia)];rfl
 simp! only[f0]
 refine⟨by lia,zdc (fun ρ=>∃z,ρ=[z]) (fun r=>wI (C+1) (L r)) ⟨_,rfl⟩ ?_ ?_⟩
 ·rintro r _ hr ⟨z,rfl⟩
  simp! only[↓zdv,↓zdZ]
  exact⟨_,rfl⟩
 rintro _ ⟨z,rfl⟩
 rw[zjr]
 simp! only[]
 refine⟨by lia,zdc (fun ρ=>∃z,ρ=[z]) (fun r=>wI (C+1) (G r)) ⟨_,rfl⟩ ?_ ?_⟩
 ·rintro r _ hr ⟨z,rfl⟩
  simp! only[↓zdv,↓zdO]
  exact⟨_,rfl⟩
 rintro _ ⟨z,rfl⟩
 rw[zjr]
 simp! only[zfm,zgQ _ h1,zap _ h2,h1,h2,ziU _ _ h1 h2]
 simp only[tC_D]
 refine(zlb false r1 r5 c1 c5 fun r k hr hk=>?_).mono ?_
 ·have:=le r k hr hk
  unfold updF
  split
  ·rename_i e;rw[e.1,e.2]at this;lia
  ·exact this
 rintro _ rfl
 simp! only[]
 refine⟨⟨zlW _ _ _,rfl⟩,s 0,m,hs0,by lia,by lia,rfl⟩
end
section
variable {R C:Nat} {S L G f:Nat->Nat->Int} {c:Nat} {W qs:Nat->Nat}
def ToldF (R C:Nat)(S L G:Nat->Nat->Int)(d:D):Prop:=(∃f,Sat R C S L G f/\d= .tup [.str "floor",tT (R+1) (C+1) f])\/∃c W qs,Tour R C S L G c W qs/\d= .tup [.str "tour",.lst (wL c (zbf (R+1) W))]
theorem zk0 (hR:R<=20)(hC:C<=20):Ok (zaT [zaA R C S L G]) fun x=>∃d,ToldF R C S L G d/\x= .val d:=by
 refine(znu hR hC).mono ?_
 rintro _ (⟨h,fi,rfl⟩|⟨c,W,qs,t,rfl⟩)
 ·exact⟨_,.inl ⟨_,⟨fi,fun r c _ _=>by rw[four_shf,zjs]⟩,rfl⟩,rfl⟩
 ·exact⟨_,.inr ⟨c,W,qs,t,rfl⟩,rfl⟩
theorem Tour.c12 (t:Tour R C S L G c W qs)(r5:R<=5)(c5:C<=5):c<=12:=by
 by_cases h:c<=12
 ·exact h
 ·obtain⟨i,j,ij,hj,e⟩:=pigeon (n:=12) (f:=W) fun i _=>by have:=t.alt i;lia
  exact absurd e (t.apart i j ij (by lia))
def TW (R C:Nat)(d:D):Prop:=∃c W,Wk R C c W/\d= .lst (wL c (zbf (R+1) W))
theorem pl_told (f:Nat->Nat->Int):Pl 3 (.tup [.str "floor",tT (R+1) (C+1) f]):=znk (k:=2) fun d hd=>by
 rcases List.mem_cons.mp hd with rfl|hd
 ·exact⟨rfl,Nat.zero_le _⟩
 ·rw[List.mem_singleton.mp hd];exact pl_tT' _ _ f
theorem ne_ff:dNe (.str "floor") (.str "floor")=some (.bl false):=rfl
theorem in4:dInP false (.bl true) (.lst (wL 4 fun _=> .bl false))=some (.bl false):=rfl
theorem some_ok (h:Pot ds)(r1:1<=R)(r5:R<=5)(c1:1<=C)(c5:C<=5)(b:Nat)(sf:Sat R C S L G f)(s0 s1 s8:Sl)(s6 s7:Sl)(Q:Fl×M.R->Prop)(hQ:∀ds' s6 s7,Q (.next,[s0,s1,.own ds',.val (zaA R C S L G),.val (.tup [.str "floor",tT (R+1) (C+1) f]),.val (zaA R C S (fun r k=>L r k-b) fun r k=>G r k+b),s6,s7,s8])):
  Ok (zgX [s0,s1,.own ds,.val (zaA R C S L G),.val (.tup [.str "floor",tT (R+1) (C+1) f]),.val (zaA R C S (fun r k=>L r k-b) fun r k=>G r k+b),s6,s7,s8]) Q:=by
 have ff:(("floor":Str)=="floor")=true:=by decide+kernel
 have sw:Sat R C S (fun r k=>L r k-b) (fun r k=>G r k+b) f:=⟨fun r k hr hk=>by have:=sf.1 r k hr hk;(try dsimp only);lia,sf.2⟩
 have le:∀r c,r<R+1->c<C+1->L r c<=G r c:=fun r c hr hc=>by have:=sf.1 r c hr hc;lia
 have l0:wL (R+1) (fun r=>D.tup (wI (C+1) (f r)))=wL (R+1) (fun r=>D.tup (wI (C+1) (f r))):=rfl
 simp! only[↓zgX,ff,↓zlO]
 refine⟨rfl,zg3 (fun j acc ρ=>∃(e:Nat->D) (ds':List D) (s:Sl),Pot ds'/\(∀i,i<j->TW R C (e i))/\acc=wL j e/\ρ=[.par ds',.val (tT (R+1) (C+1) f),s]) ⟨fun _=> .non,ds,.emp,h,fun i hi=>absurd hi (Nat.not_lt_zero _),rfl,rfl⟩ ?_ ?_⟩
 ·rintro j acc _ hj ⟨e,d1,s,h1,he,rfl,rfl⟩
  simp! only[↓zlo,zap _ (show 0<R+1 by lia)]
  refine(ltour_ok h1 (R+1) (C+1) (by lia) (by lia) (by lia) (by lia)).mono ?_
  rintro _ ⟨z,p,q,d2,h2,z2,z4,u,v,u0,v0,rfl⟩
  have wk:=dW_wk z4 u v u0 v0
  rw[dW_cells wk]
  simp! only[]
  refine⟨fun i=>if i<j then e i else .lst (wL (2*(z+2)) (zbf (R+1) (dW R z p q))),d2,_,h2,fun i hi=>?_,by rw[<-zkK];rfl,rfl⟩
  (try dsimp only)
  split
  ·exact he i (by assumption)
  ·exact⟨_,_,wk,rfl⟩
 rintro _ _ ⟨e,d1,s,h1,he,rfl,rfl⟩
 simp! only[↓zlk]
 refine zaM (fun ρ=>∃z,ρ=[.val (zaA R C S L G),z]) (fun _=> .bl false) ⟨_,rfl⟩ ?_ ?_
 ·rintro i _ hi ⟨z,rfl⟩
  obtain⟨c,W,wk,ew⟩:=he i hi
  rw[ew]
  simp! only[↓zlr]
  refine(right_no wk sf (by lia) (by lia)).mono ?_
  rintro _ rfl
  simp! only[]
  exact⟨_,rfl⟩
 rintro _ ⟨z,rfl⟩
 simp! only[in4,↓zlX]
 refine(zk0 (by lia) (by lia)).mono ?_
 rintro _ ⟨d,td,rfl⟩
 rcases td with⟨g,sg',rfl⟩|⟨c,W,qs,t,rfl⟩
 ·simp! only[ne_ff]
  refine(zme (by lia) (by lia) sw.1 sw.2).mono ?_
  rintro _ rfl
  simp! only[↓zmb]
  have mk:=zlb (S:=S) (L:=f) (G:=f) true r1 r5 c1 c5 fun r k _ _=>Int.le_refl _
  simp only[if_true]at mk
  refine mk.mono ?_
  rintro _ rfl
  simp! only[]
  refine(zk0 (by lia) (by lia)).mono ?_
  rintro _ ⟨d,td,rfl⟩
  rcases td with⟨g',s2,rfl⟩|⟨c,W,qs,t,rfl⟩
  ·have eg:tT (R+1) (C+1) g'=tT (R+1) (C+1) f:=zl2 fun r k hr hk=>by have:=s2.1 r k hr hk;lia
   rw[eg]
   simp! only[(pl_told f).ne (show 3<=50 by decide)]
   exact hQ _ _ _
  ·exact(t.no (fun r k _ _=>Int.le_refl _) (f:=f) (fun r k _ _=>⟨Int.le_refl _,Int.le_refl _⟩) sf.2).elim
 ·exact(t.no (fun r k hr hk=>by have:=le r k hr hk;(try dsimp only);lia) sw.1 sw.2).elim
theorem none_ok (t:Tour R C S L G c W qs)(r1:1<=R)(r5:R<=5)(c1:1<=C)(c5:C<=5)(le:∀r c,r<R+1->c<C+1->L r c<=G r c)(s0 s1 s2 s5 s6 s7 s8:Sl)(Q:Fl×M.R->Prop)(hQ:∀s8,Q (.next,[s0,s1,s2,.val (zaA R C S L G),.val (.tup [.str "tour",.lst (wL c (zbf (R+1) W))]),s5,s6,s7,s8])):
  Ok (zgX [s0,s1,s2,.val (zaA R C S L G),.val (.tup [.str "tour",.lst (wL c (zbf (R+1) W))]),s5,s6,s7,s8]) Q:=by
 have tf:(("tour":Str)=="floor")=false:=by decide+kernel
 have c12:=t.c12 r5 c5
 have ng:=t.neg
 rw[zaw fun i _=>t.wt le i,zgA]at ng
 simp! only[↓zgX,tf]
 refine(zky (by lia) (by lia)).mono ?_
 rintro _ rfl
 simp! only[]
 refine(zhT (by lia) (by lia)).mono ?_
 rintro _ rfl
 simp! only[]
 refine(zm9 (t.wk le)).mono ?_
 rintro _ rfl
 simp! only[]
 refine(znd t le).mono ?_
 rintro _ rfl
 simp! only[]
 refine⟨fun z=>absurd z (by lia),fun _=>?_⟩
 simp! only[↓zlv]
 refine(zmN t r1 r5 c1 c5 (by lia) le).mono ?_
 rintro _ ⟨i,m,hi,em,m0,rfl⟩
 simp! only[]
 refine(zhm (t.wk le) (by lia) (by lia)).mono ?_
 rintro _ rfl
 rw[znq t le hi (by lia),decide_eq_false (by lia)]
 simp! only[]
 exact hQ _
end
theorem math (ns:List Int)(hl:ns.length<=63):zj7 [.scr ns]=some (.val (.bl true)):=by
 have:Ok (zj7 [.scr ns]) fun r=>r= .val (.bl true):=by
  have ct:cutD ns none (some 5)=ns.take 5:=zi7 ns 5
  have len:(ns.take 5).length<=5:=by rw[List.length_take];lia
  simp! only[↓zj7,↓m_law,↓zlN,ct]
  refine⟨by lia,?_⟩
  rw[show(ns.take 5).map D.int++[D.int 0]=(ns.take 5++[0]).map D.int by simp]
  refine ok_for (enc:=D.int) (l:=ns.take 5++[0]) (fun _ ρ=>∃s1 s2 s3 s4 s5 s6 s7 s8,ρ=[.val (.scr ns),s1,s2,s3,s4,s5,s6,s7,s8]) ⟨_,_,_,_,_,_,_,_,rfl⟩ ?_ ?_
  ·rintro i c _ _ ⟨s1,s2,s3,s4,s5,s6,s7,s8,rfl⟩
   simp! only[↓zl9]
   refine(deal_ok c).mono ?_
   rintro _ ⟨d1,h1,rfl⟩
   simp! only[]
   refine(floor_ok h1).mono ?_
   rintro _ ⟨R,C,S,L,G,d2,h2,r1,r5,c1,c5,bd,rfl⟩
   have le:∀r c,r<R+1->c<C+1->L r c<=G r c:=fun r c hr hc=>(bd.2 r c hr hc).1
   simp! only[]
   refine(zk0 (by lia) (by lia)).mono ?_
   rintro _ ⟨d,td,rfl⟩
   simp! only[]
   refine(zbM h2 (m:=5) (by lia) (by lia)).mono ?_
   rintro _ ⟨b,d3,hb,h3,rfl⟩
   simp! only[]
   refine(wider_ok r1 r5 c1 c5 le b).mono ?_
   rintro _ rfl
   rcases td with⟨f,sf,rfl⟩|⟨c',W,qs,t,rfl⟩
   ·simp! only[]
    refine(zk3 (by lia) (by lia) sf.1 sf.2).mono ?_
    rintro _ rfl
    simp! only[]
    exact some_ok h3 r1 r5 c1 c5 b sf _ _ _ _ _ _ fun _ _ _=>⟨_,_,_,_,_,_,_,_,rfl⟩
   ·simp! only[]
    refine(zmF t le (by lia) (by lia)).mono ?_
    rintro _ rfl
    simp! only[]
    exact none_ok t r1 r5 c1 c5 le _ _ _ _ _ _ _ _ fun _=>⟨_,_,_,_,_,_,_,_,rfl⟩
  ·rintro _ ⟨s1,s2,s3,s4,s5,s6,s7,s8,rfl⟩
   simp! only[]
 obtain⟨_,e,rfl⟩:=this
 exact e
end Prf
def PySem.W.Fast.tw3751285448938926182:Nat:=0
def PySem.W.Fast.tw11055785313171140865:Nat:=0
def PySem.W.Fast.tw16412221815677409849:Nat:=0
def PySem.W.Fast.tw4483897384530476529:Nat:=0
def PySem.W.Fast.tw17727380332678853752:Nat:=0
def PySem.W.Fast.tw2334279537343145637:Nat:=0
def PySem.W.Fast.tw14252030363350041848:Nat:=0
def PySem.W.Fast.tw1786279485659992360:Nat:=0
def PySem.W.Fast.tw12589807858336960455:Nat:=0
def PySem.W.Fast.tw12911921197239723989:Nat:=0
def PySem.W.Fast.tw706820634791046735:Nat:=0
def PySem.W.Fast.tw6269253330137343574:Nat:=0
def PySem.W.Fast.tw2849136859250397906:Nat:=0
def PySem.W.Fast.tw11284643225888185424:Nat:=0
def PySem.W.Fast.tw17012950919476718590:Nat:=0
def PySem.W.Fast.tw16849090256618269524:Nat:=0
def PySem.W.Fast.tw7877371145578807622:Nat:=0
def PySem.W.Fast.tw9584141085885959697:Nat:=0
def PySem.W.Fast.tw14717363385901189823:Nat:=0
def PySem.W.Fast.tw8215548570380134321:Nat:=0
def PySem.W.Fast.tw10428963113967010490:Nat:=0
def PySem.W.Fast.tw5828017378212107761:Nat:=0
def PySem.W.Fast.tw1220682419890387906:Nat:=0
def PySem.W.Fast.tw7180123761241472303:Nat:=0
def PySem.W.Fast.tw17861866898529316238:Nat:=0
def PySem.W.Fast.tw9337879988557163137:Nat:=0
def PySem.W.Fast.tw3200063974144766358:Nat:=0
def PySem.W.Fast.tw18124033121700621039:Nat:=0
def PySem.W.Fast.tw6436057629012139052:Nat:=0
def PySem.W.Fast.tw8183579913234874526:Nat:=0
def PySem.W.Fast.tw16700266165932812591:Nat:=0
def PySem.W.Fast.tw7978439045850676475:Nat:=0
def PySem.W.Fast.tw3951592386456983575:Nat:=0
def PySem.W.Fast.tw10268033249162429023:Nat:=0
def PySem.W.Fast.tw919200491070637420:Nat:=0
def PySem.W.Fast.tw16956572427232818775:Nat:=0
def PySem.W.Fast.tw3861191588957833229:Nat:=0
def PySem.W.Fast.tw14147963361355331495:Nat:=0
def PySem.W.Fast.tw1655810381995759788:Nat:=0
def PySem.W.Fast.tw4239336867277667486:Nat:=0
def PySem.W.Fast.tw6057928207965291237:Nat:=0
def PySem.W.Fast.tw10056728487174620119:Nat:=0
def PySem.W.Fast.tw1085099612935709900:Nat:=0
def PySem.W.Fast.tw1538029458651973884:Nat:=0
def PySem.W.Fast.tw8901572780899557432:Nat:=0
def PySem.W.Fast.tw13374504683576518552:Nat:=0
def PySem.W.Fast.tw5048264296095947733:Nat:=0
def PySem.W.Fast.tw3591113763715349804:Nat:=0
def PySem.W.Fast.tw11699648683478291370:Nat:=0
def PySem.W.Fast.tw15182802565605024686:Nat:=0
def PySem.W.Fast.tw16181512198369498085:Nat:=0
def PySem.W.Fast.tw15059684378855609500:Nat:=0
def PySem.W.Fast.tw1845855535069440613:Nat:=0
def PySem.W.Fast.tw7941718845042271826:Nat:=0
def PySem.W.Fast.tw17380514402985927910:Nat:=0
def PySem.W.Fast.tw6927157647727149132:Nat:=0
def PySem.W.Fast.tw7077398015175910903:Nat:=0
def PySem.W.Fast.tw15526561103787032757:Nat:=0
def PySem.W.Fast.tw3788743189075932157:Nat:=0
def PySem.W.Fast.tw8220384527693649853:Nat:=0
def PySem.W.Fast.tw17031026240002809573:Nat:=0
def PySem.W.Fast.tw5394457153793005870:Nat:=0
def PySem.W.Fast.tw5523566484009205517:Nat:=0
def PySem.W.Fast.tw3174485011270336298:Nat:=0
def PySem.W.Fast.tw7959905688001800123:Nat:=0
def PySem.W.Fast.tw14784903647797127500:Nat:=0
def PySem.W.Fast.tw9151401866224687528:Nat:=0
def PySem.W.Fast.tw18407154922167290996:Nat:=0
def PySem.W.Fast.tw17277320520896901697:Nat:=0
def PySem.W.Fast.tw4417654171574101839:Nat:=0
def PySem.W.Fast.tw13659195081033230085:Nat:=0
def PySem.W.Fast.tw12855472896671845452:Nat:=0
def PySem.W.Fast.tw12226265765936287184:Nat:=0
def PySem.W.Fast.tw15674041866525834822:Nat:=0
def PySem.W.Fast.tw1798664924094658950:Nat:=0
def PySem.W.Fast.tw15482210854026282028:Nat:=0
def PySem.W.Fast.tw17006418237512447838:Nat:=0
def PySem.W.Fast.tw5802799796494161472:Nat:=0
def PySem.W.Fast.tw3124182253612756157:Nat:=0
def PySem.W.Fast.tw18330160344132393804:Nat:=0
def PySem.W.Fast.tw5245964988509477235:Nat:=0
def PySem.W.Fast.tw9281526792075055762:Nat:=0
def PySem.W.Fast.tw11976347880456740685:Nat:=0
def PySem.W.Fast.tw16829487903515110321:Nat:=0
def PySem.W.Fast.tw15459529289780132204:Nat:=0
def PySem.W.Fast.tw5164479240339451741:Nat:=0
def PySem.W.Fast.tw1477450886992134263:Nat:=0
def PySem.W.Fast.tw8696002258743667369:Nat:=0
def PySem.W.Fast.tw4198558036731127145:Nat:=0
def PySem.W.Fast.tw5432229158988278109:Nat:=0
def PySem.W.Fast.tw8782732492910031070:Nat:=0
def PySem.W.Fast.tw17946765135102383160:Nat:=0
def PySem.W.Fast.tw13580095600648014661:Nat:=0
def PySem.W.Fast.tw15254344349652654158:Nat:=0
def PySem.W.Fast.tw6259559888924539746:Nat:=0
def PySem.W.Fast.tw6087425935200131251:Nat:=0
def PySem.W.Fast.tw4186930165895152004:Nat:=0
def PySem.W.Fast.tw4328317229117167819:Nat:=0
def PySem.W.Fast.tw114619275119742526:Nat:=0
def PySem.W.Fast.tw15184157925718456728:Nat:=0
def PySem.W.Fast.tw12067328234563654765:Nat:=0
def PySem.W.Fast.tw12920748793196136042:Nat:=0
def PySem.W.Fast.tw7044652539132024118:Nat:=0
def PySem.W.Fast.tw2157877665983067941:Nat:=0
def PySem.W.Fast.tw1801236597418333940:Nat:=0
def PySem.W.Fast.tw15608670463033178914:Nat:=0
def PySem.W.Fast.tw3659482752939496894:Nat:=0
def PySem.W.Fast.tw12640185136067072772:Nat:=0
def PySem.W.Fast.tw9606137391142904542:Nat:=0
def PySem.W.Fast.tw2026766557422250242:Nat:=0
def PySem.W.Fast.tw313788067622745459:Nat:=0
def PySem.W.Fast.tw8663308677229179493:Nat:=0
def PySem.W.Fast.tw6362566223751664911:Nat:=0
def PySem.W.Fast.tw17409809216872268279:Nat:=0
def PySem.W.Fast.tw170482014349338005:Nat:=0
def PySem.W.Fast.tw5389609453763634822:Nat:=0
def PySem.W.Fast.tw14699423133529151032:Nat:=0
def PySem.W.Fast.tw7283313833138511868:Nat:=0
def PySem.W.Fast.tw9663713124806864071:Nat:=0
def PySem.W.Fast.tw11482971736197810448:Nat:=0
def PySem.W.Fast.tw14495488677518291750:Nat:=0
def PySem.W.Fast.tw16900823520958562392:Nat:=0
def PySem.W.Fast.tw6069052704128447435:Nat:=0
def PySem.W.Fast.tw18197438326811837274:Nat:=0
def PySem.W.Fast.tw17922124267680855429:Nat:=0
def PySem.W.Fast.tw4203092560053165472:Nat:=0
def PySem.W.Fast.tw5788344141899148143:Nat:=0
def PySem.W.Fast.tw3179593882097917226:Nat:=0
def PySem.W.Fast.tw12821379991495907372:Nat:=0
def PySem.W.Fast.tw9247174400957750125:Nat:=0
def PySem.W.Fast.tw197956519419156404:Nat:=0
def PySem.W.Fast.tw4532050666300143251:Nat:=0
def PySem.W.Fast.tw10999364866476064331:Nat:=0
def PySem.W.Fast.tw4579292987879148977:Nat:=0
def PySem.W.Fast.tw12385664682314949826:Nat:=0
def PySem.W.Fast.tw9096996757884885247:Nat:=0
def PySem.W.Fast.tw14117370431911960782:Nat:=0
def PySem.W.Fast.tw6740214018729145273:Nat:=0
def PySem.W.Fast.tw17908361540805999104:Nat:=0
def PySem.W.Fast.tw9886518649092605445:Nat:=0
def PySem.W.Fast.tw5366767767355407951:Nat:=0
def PySem.W.Fast.tw10304066761277784615:Nat:=0
def PySem.W.Fast.tw14073772765462165118:Nat:=0
def PySem.W.Fast.tw1394622500798863667:Nat:=0
def PySem.W.Fast.tw1790085104930189378:Nat:=0
def PySem.W.Fast.tw12369986032659073720:Nat:=0
def PySem.W.Fast.tw167173044368963640:Nat:=0
def PySem.W.Fast.tw7016971948152627394:Nat:=0
def PySem.W.Fast.tw17504333767914944954:Nat:=0
def PySem.W.Fast.tw2084989136261299169:Nat:=0
def PySem.W.Fast.tw3219544983710174445:Nat:=0
def PySem.W.Fast.tw13843537604653611281:Nat:=0
def PySem.W.Fast.tw16397957884122224130:Nat:=0
def PySem.W.Fast.tw17463019092517327769:Nat:=0
def PySem.W.Fast.tw9702551514118478866:Nat:=0
def PySem.W.Fast.tw2883043321505156344:Nat:=0
def PySem.W.Fast.tw16101166202395702372:Nat:=0
def PySem.W.Fast.tw9493138025042023875:Nat:=0
def PySem.W.Fast.tw2413231786742770990:Nat:=0
def PySem.W.Fast.tw3971090244179423544:Nat:=0
def PySem.W.Fast.tw8642982799934981582:Nat:=0
def PySem.W.Fast.tw1175912916154175692:Nat:=0
def PySem.W.Fast.tw5065299435045514939:Nat:=0
def PySem.W.Fast.tw875991811750811159:Nat:=0
def PySem.W.Fast.tw14958273056790517652:Nat:=0
def PySem.W.Fast.tw10763275570201637108:Nat:=0
def PySem.W.Fast.tw8849271871655055036:Nat:=0
def PySem.W.Fast.tw2207363520596402844:Nat:=0
def PySem.W.Fast.tw12195040544801010316:Nat:=0
def PySem.W.Fast.tw7606590871811701969:Nat:=0
def PySem.W.Fast.tw18040848081573022171:Nat:=0
def PySem.W.Fast.tw91788477492017042:Nat:=0
def PySem.W.Fast.tw17171533996595007885:Nat:=0
def PySem.W.Fast.tw12035867956638524338:Nat:=0
def PySem.W.Fast.tw11318823710713131564:Nat:=0
def PySem.W.Fast.tw1781564568672081935:Nat:=0
def PySem.W.Fast.tw6569495734690400941:Nat:=0
def PySem.W.Fast.tw5339960127469710241:Nat:=0
def PySem.W.Fast.tw15093335153855331929:Nat:=0
def PySem.W.Fast.tw9345039700083410020:Nat:=0
def PySem.W.Fast.tw7050799882119654232:Nat:=0
def PySem.W.Fast.tw9665790720295035876:Nat:=0
def PySem.W.Fast.tw17296025800597165286:Nat:=0
def PySem.W.Fast.tw6400644338819846199:Nat:=0
def PySem.W.Fast.tw14926714083048882641:Nat:=0
def PySem.W.Fast.tw5542889738038171188:Nat:=0
open PyProof.Rows PySem PySem.W
set_option maxRecDepth 100000 in
set_option maxHeartbeats 0 in
theorem PySem.Challenge.cw_tellsum_k40_whole_numbers_or_a_tour_holds : PySem.Challenge.rw_tellsum_k40_whole_numbers_or_a_tour.Holds := by
  w_on; o_law; k_head; (case hw => w_witness2)
  k_fill
  refine Prf.walk (l := PySem.Challenge.rw_tellsum_k40_whole_numbers_or_a_tour) rfl rfl Prf.math (fun w h Y => W.kIn_of Y) ?F
  case F =>
    intro w mg fa h KX G hmg
    refine' Prf.all_mk KX G hmg ?h1 ?h2 ?h3 ?h4 ?h5 ?h6 ?h7 ?h8 ?h9 ?h10 ?h11 ?h12 ?h13 ?h14 ?h15 ?h16 ?h17 ?h18 ?h19 ?h20 ?h21 ?h22 ?h23 ?h24 ?h25 ?h26 ?h27 ?h28 ?h29 ?h30 ?h31 ?h32 ?h33 ?h34 ?h35 ?h36 ?h37 ?h38 ?h39 ?h40 ?h41 ?h42 ?h43 ?h44 ?h45 ?h46 ?z0 ?z1 ?z2 ?z3 ?z4 ?z5 ?z6 ?z7 ?z8 ?z9 ?z10
    (case h1 | h2 | h3 | h4 | h5 | h6 | h7 | h8 | h9 | h10 | h11 | h12 | h13 | h14 | h15 | h16 | h17 | h18 | h19 | h20 | h21 | h22 | h23 | h24 | h25 | h26 | h27 | h28 | h29 | h30 | h31 | h32 | h33 | h34 | h35 | h36 | h37 | h38 | h39 | h40 | h41 | h42 | h43 | h44 | h45 | h46 =>
      refine' M.FnAt.mk ?a ?l ?c ?k
      (case a => k_is)
      (case l => k_is)
      (case c => k_is)
      (case k => k_is))
    (case z0 | z1 | z2 | z3 | z4 | z5 | z6 | z7 | z8 | z9 | z10 => k_is)
end
